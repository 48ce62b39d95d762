import PyProof.Rows.All
import Wide.All
import OpenK.AllK
import Wide.FinOn
import Lean
import PyProof.EqAt
import PyProof.EqKinds
import PyProof.TupleCall
import PyProof.Rows.SortRuns
import PyProof.NeKinds
import PyProof.ExcAttrAll.ValueError
import PyProof.StationsW
import PyProof.PassesOwn
import PyProof.RulesAs
import PyProof.NsDelKeeps
import PyProof.CompMap
import PyProof.DictItems
import KE.KPairComp
import KE.KMinKey
import KE.KDictList
import KE.KDictOf
import KE.KEqDict
import PyProof.DictIter
import PyProof.DictWalks
import PyProof.Rows.DictUnroll
import KE.KRevIter
import KE.KLam
import KE.KSortKey
import KE.KSortTup
import PyProof.Rows.StrJoin2
import PyProof.Rows.StrNews
import PyProof.StrLawsTight
import PyProof.StrWalks
import PyProof.StrBlockH
import KE.KIntText
import KE.LcSums
import KE.KNest
import PySem.Challenge.RW_glazebench_k72_whole_no_glass_lost
set_option Elab.async false
set_option linter.all false
set_option maxRecDepth 100000
abbrev VPz:=PySem.Value→PySem.Shared→Prop
abbrev PNz:=List (PySem.Addr × PySem.Obj)
abbrev MGz:=PySem.Str→Option PySem.Value
abbrev AOz:=Array (Option PySem.Value)
abbrev LSz:=List PySem.Str
abbrev LWz:=List PySem.Value
namespace L2
open PySem.W
open PySem PySem.Spec PyProof.Rows
abbrev Key:=Sum Int Str
def Ih:Key->Value->Bool
 |.inl k,v=>Value.isInt k v
 |.inr x,v=>Value.isStrOf x v
def Te(w:World):Key->Int
 |.inl k=>hashInt k
 |.inr x=>hashStr w x
theorem AW:∀{k:Key}{v:Value},Ih k v=true->(∃i t,k=Sum.inl i/\v=Value.int i t)\/(∃x t,k=Sum.inr x/\v=Value.str x t)
 |.inl i,v,h=>by
  obtain⟨t,e⟩:=Value.isInt_shape (k:=i) (v:=v) h;exact .inl ⟨i,t,rfl,e⟩
 |.inr x,v,h=>by
  obtain⟨t,e⟩:=Value.isStrOf_shape (x:=x) (v:=v) h;exact .inr ⟨x,t,rfl,e⟩
theorem NO(i:Int)(t:Tok):Ih (.inl i) (.int i t)=true:=by simp[Ih,Value.isInt]
theorem NN(x:Str)(t:Tok):Ih (.inr x) (.str x t)=true:=by simp[Ih,Value.isStrOf]
theorem Rs(a b:Int):decide ((Sum.inl a:Key)=Sum.inl b)=(a==b):=by
 by_cases e:a=b
 .subst e;simp
 .have h:¬(Sum.inl a:Key)=Sum.inl b:=λ q=>e (Sum.inl.inj q);rw[decide_eq_false h];exact(beq_eq_false_iff_ne.mpr e).symm
theorem Rp(a b:Str):decide ((Sum.inr a:Key)=Sum.inr b)=decide (a=b):=by
 by_cases e:a=b
 .subst e;simp
 .have h:¬(Sum.inr a:Key)=Sum.inr b:=λ q=>e (Sum.inr.inj q);rw[decide_eq_false h,decide_eq_false e]
theorem Rr(a:Int)(b:Str):decide ((Sum.inl a:Key)=Sum.inr b)=false:=decide_eq_false (λ q=>nomatch q)
theorem Rq(a:Str)(b:Int):decide ((Sum.inr a:Key)=Sum.inl b)=false:=decide_eq_false (λ q=>nomatch q)
def AS(prog:Program)(w:World):PySem.KeyKind prog w Key where
 is:=Ih
 hash:=Te w
 inj:=λ v a b ha hb=>by
  rcases AW ha with ⟨i,t,rfl,rfl⟩|⟨x,t,rfl,rfl⟩
  .rcases AW hb with ⟨j,u,rfl,e⟩|⟨y,u,rfl,e⟩
   .injection e with e1 _;rw[e1]
   .exact nomatch e
  .rcases AW hb with ⟨j,u,rfl,e⟩|⟨y,u,rfl,e⟩
   .exact nomatch e
   .injection e with e1 _;rw[e1]
 byValue:=λ k v h=>by
  rcases AW h with ⟨i,t,rfl,rfl⟩|⟨x,t,rfl,rfl⟩<;>rfl
 pyHash:=λ hv h=>by
  rcases AW hv with ⟨i,t,rfl,rfl⟩|⟨x,t,rfl,rfl⟩
  .exact wpAny_pyHash_int h
  .exact wpAny_pyHash_str h
 eqBool:=λ hu hv h=>by
  rcases AW hu with ⟨i,t,rfl,rfl⟩|⟨x,t,rfl,rfl⟩
  .rcases AW hv with ⟨j,u,rfl,rfl⟩|⟨y,u,rfl,rfl⟩
   .rw[Rs]at h;exact wpAny_eqBool_int h
   .rw[Rr]at h;exact SeqAt.EqAt.int_str i t y u _ _ _ _ h
  .rcases AW hv with ⟨j,u,rfl,rfl⟩|⟨y,u,rfl,rfl⟩
   .rw[Rq]at h;exact SeqAt.EqAt.str_int x t j u _ _ _ _ h
   .rw[Rp]at h;exact wpAny_eqBool_str h
 «strs»:=λ k x t v h=>by
  rcases AW h with ⟨i,u,rfl,e⟩|⟨y,u,rfl,e⟩
  .exact nomatch e
  .injection e with e1 _;subst e1;cases v<;>rfl
theorem K2(prog:Program)(w:World)(i:Int)(t:Tok):(AS prog w).is (.inl i) (.int i t)=true:=NO i t
theorem K1(prog:Program)(w:World)(x:Str)(t:Tok):(AS prog w).is (.inr x) (.str x t)=true:=NN x t
inductive V where
 |non|bl (b:Bool)|int (i:Int)|str (x:Str)|byt (b:Array UInt8)|flt (b:UInt64)|ref (a:Addr)|ty (n:String)
 deriving DecidableEq
abbrev LKz:=List (List Key×V)
abbrev LFz:=List (Str×V)
abbrev LUz:=List V
def RelV:V->Value->Prop
 |.non,u=>u=Value.none
 |.bl b,u=>u=Value.bool b
 |.int i,u=>∃t,u=Value.int i t
 |.str x,u=>∃t,u=Value.str x t
 |.byt b,u=>∃t,u=Value.bytes b t
 |.flt b,u=>∃t,u=Value.float b t
 |.ref a,u=>u=Value.ref a
 |.ty n,u=>u=Value.type n
abbrev Vals:LUz->LWz->Prop:=Paired RelV
theorem Vals.length{xs:LUz}{us:LWz}(r:Vals xs us):xs.length=us.length:=Paired.length r
theorem Vals.get:∀{xs:LUz}{us:LWz}{i:Nat}{x:V},Vals xs us->xs[i]?=some x->∃u,us[i]?=some u/\RelV x u
 |_,_,_,_,.nil,e=>by simp at e
 |_,_,0,_,.cons r _,e=>by simp at e;subst e;exact⟨_,rfl,r⟩
 |_,_,i+1,x,.cons _ t,e=>by
  obtain⟨u,h1,h2⟩:=Vals.get (i:=i) (x:=x) t (by simpa using e);exact⟨u,by simpa using h1,h2⟩
theorem Vals.append:∀{xs ys:LUz}{us ws:LWz},Vals xs us->Vals ys ws->Vals (xs++ys) (us++ws)
 |_,_,_,_,.nil,s=>s
 |_,_,_,_,.cons r t,s=>.cons r (Vals.append t s)
theorem Vals.take:∀{xs:LUz}{us:LWz}(n:Nat),Vals xs us->Vals (xs.take n) (us.take n)
 |_,_,0,_=>.nil
 |_,_,_+1,.nil=>.nil
 |_,_,n+1,.cons r t=>.cons r (Vals.take n t)
theorem Vals.drop:∀{xs:LUz}{us:LWz}(n:Nat),Vals xs us->Vals (xs.drop n) (us.drop n)
 |_,_,0,r=>r
 |_,_,_+1,.nil=>.nil
 |_,_,n+1,.cons _ t=>Vals.drop n t
def RelO:Option V->Option Value->Prop
 |some v,some u=>RelV v u
 |none,none=>True
 |_,_=>False
def KV{κ:Type}:List (κ×V)->List (κ×Value)->Prop:=Paired λ(p:κ×V)(q:κ×Value)=>p.1=q.1/\RelV p.2 q.2
def kV:Key->V
 |.inl i=>.int i
 |.inr x=>.str x
inductive HO where
 |lst (xs:LUz)
 |tup (xs:LUz)
 |dK (kvs:List (Key×V))|dT (kvs:LKz)
 |set (S:Int->Bool) (n:Nat)
 |ins (C dx:Addr) (fs:LFz)
 |own (x:Addr)
 |xd (fs:LFz)
 |met (f x:Addr)
 |rng (lo hi:Int)
 |frz (o:Obj) (u:HO)
 |tbl (ps:Array Value)
 |ext (φ:Heap->Prop)
abbrev Hp:=Addr->Option HO
def upd(H:Hp)(a:Addr)(o:HO):Hp:=λ b=>if b=a then some o else H b
theorem upd_same{H:Hp}{a:Addr}{o:HO}:upd H a o a=some o:=by unfold upd;rw[if_pos rfl]
theorem Ae{H:Hp}{a b:Addr}{o:HO}(h:b≠a):upd H a o b=H b:=by unfold upd;rw[if_neg h]
theorem MP{H:Hp}{a b:Addr}{o u:HO}(h:H a=some o)(h':H b=some u)(d:o≠u):a≠b:=by
 intro e;subst e;rw[h]at h';exact d (Option.some.inj h')
theorem Af{H:Hp}{a b:Addr}{o:HO}(h:H a=some o)(h':H b=none):a≠b:=by
 intro e;subst e;rw[h]at h';cases h'
section
variable(P:Program)(w:World)
def ObjOk(H:Hp)(h:Heap)(a:Addr):HO->Prop
 |.lst xs=>xs.length<=sizeLine/\∃(its:LWz)(n:Nat),Vals xs its/\h.get? a=some { cls:=.type "list",data:=.seq its.toArray n }
 |.tup xs=>xs.length<=sizeLine/\∃its:LWz,Vals xs its/\IsTup h a its.toArray
 |.dK kvs=>kvs.length<=sizeLine/\(a==sysModules)=false/\∃vs,KV kvs vs/\h.DictOf (AS P w) a vs
 |.dT kvs=>kvs.length<=sizeLine/\(a==sysModules)=false/\∃xs:List (List Key×Addr×Value),
   Paired (λ(p:List Key×V)(q:List Key×Addr×Value)=>p.1=q.1/\H q.2.1=some (.tup (p.1.map kV))/\RelV p.2 q.2.2) kvs xs /\
   ∃o es ep,h.get? a=some o/\o.ExactDict/\o.data=.dict es ep/\es.toList=xs.map (entryOfKey (tupleKind (AS P w)))/\(xs.map (·.1)).Nodup
 |.set S n=>h.SetOf (intKind P w) a S n
 |.ins C dx fs=>H dx=some (.own a)/\fs.length<=1000/\dx≠a/\h.get? a=some (instObj C dx) /\
   ∃mA,h.Ns1 dx mA/\(∀f,RelO (fs.lookup f) (mA f))/\PySem.Within mA (fs.map (·.1))
 |.own _=>∃o,h.get? a=some o
 |.xd fs=>∃mA,h.Ns1 a mA/\∀f,RelO (fs.lookup f) (mA f)
 |.rng lo hi=>∃t u v,h.get? a=some { cls:=.type "range",data:=.fields #[.int lo t,.int hi u,.int 1 v] }
 |.frz o u=>h.get? a=some o/\ObjOk H h a u
 |.tbl ps=>h.get? a=some { cls:=.none,data:=.fields ps }
 |.met f x=>h.get? a=some (methodObj (.ref f) (.ref x))
 |.ext φ=>φ h/\(∃o,h.get? a=some o)/\∀h1 h2:Heap,φ h1->(∀o,h1.get? a=some o->h2.get? a=some o)->φ h2
def HOk(H:Hp)(h:Heap):Prop:=∀a o,H a=some o->ObjOk P w H h a o
end
section
variable{P:Program}{w:World}{H H':Hp}{h h':Heap}{a:Addr}{o:HO}
theorem ObjOk.lt(x:ObjOk P w H h a o):a<h.objs.size:=by
 cases o with
 |lst xs=>obtain⟨_,_,_,_,e⟩:=x;exact Heap.lt_size e
 |tup xs=>obtain⟨_,_,_,p⟩:=x;exact p.lt
 |dK kvs=>obtain⟨_,_,_,_,o,_,_,e,_⟩:=x;exact Heap.lt_size e
 |dT kvs=>obtain⟨_,_,_,_,o,_,_,e,_⟩:=x;exact Heap.lt_size e
 |set S n=>obtain⟨o,_,_,_,e,_⟩:=x;exact Heap.lt_size e
 |ins C dx fs=>obtain⟨_,_,_,e,_⟩:=x;exact Heap.lt_size e
 |own y=>obtain⟨_,e⟩:=x;exact Heap.lt_size e
 |xd fs=>obtain⟨_,⟨_,_,_,e,_⟩,_⟩:=x;exact Heap.lt_size e
 |rng lo hi=>obtain⟨_,_,_,e⟩:=x;exact Heap.lt_size e
 |frz ob u=>obtain⟨e,_⟩:=x;exact Heap.lt_size e
 |tbl ps=>exact Heap.lt_size (show h.get? a=some _ from x)
 |met f y=>exact Heap.lt_size (show h.get? a=some _ from x)
 |ext φ=>obtain⟨_,⟨_,e⟩,_⟩:=x;exact Heap.lt_size e
theorem Paired.mapP{α β:Type}{F G:α->β->Prop}:∀{l₁:List α}{l₂:List β},Paired F l₁ l₂->(∀a b,F a b->G a b)->Paired G l₁ l₂
 |_,_,.nil,_=>.nil
 |_,_,.cons r t,f=>.cons (f _ _ r) (Paired.mapP t f)
theorem ObjOk.stay(x:ObjOk P w H h a o)(k:∀b u,(b=a\/H b=some (.own a))->h.get? b=some u->h'.get? b=some u)
  (ho:∀b,H b=some (.own a)->H' b=some (.own a)) (ht:∀b xs,H b=some (.tup xs)->H' b=some (.tup xs)):ObjOk P w H' h' a o:=by
 induction o with
 |lst xs=>obtain⟨z,its,n,r,e⟩:=x;exact⟨z,its,n,r,k _ _ (.inl rfl) e⟩
 |tup xs=>obtain⟨z,its,r,ob,e,c⟩:=x;exact⟨z,its,r,ob,k _ _ (.inl rfl) e,c⟩
 |dK kvs=>obtain⟨z,y,vs,r,ob,es,ep,e,c⟩:=x;exact⟨z,y,vs,r,ob,es,ep,k _ _ (.inl rfl) e,c⟩
 |dT kvs =>
  obtain⟨z,y,xs,r,ob,es,ep,e,c⟩:=x;exact⟨z,y,xs,Paired.mapP r λ p q z=>⟨z.1,ht _ _ z.2.1,z.2.2⟩,ob,es,ep,k _ _ (.inl rfl) e,c⟩
 |set S n=>obtain⟨ob,es,ep,t,e,c⟩:=x;exact⟨ob,es,ep,t,k _ _ (.inl rfl) e,c⟩
 |ins C dx fs =>
  obtain⟨d,z,ne,e,mA,⟨od,es,ep,e2,c⟩,r⟩:=x;exact⟨ho _ d,z,ne,k _ _ (.inl rfl) e,mA,⟨od,es,ep,k _ _ (.inr d) e2,c⟩,r⟩
 |own y=>obtain⟨ob,e⟩:=x;exact⟨ob,k _ _ (.inl rfl) e⟩
 |xd fs=>obtain⟨mA,⟨od,es,ep,e,c⟩,r⟩:=x;exact⟨mA,⟨od,es,ep,k _ _ (.inl rfl) e,c⟩,r⟩
 |rng lo hi=>obtain⟨t,u,v,e⟩:=x;exact⟨t,u,v,k _ _ (.inl rfl) e⟩
 |frz ob u ih=>obtain⟨e,q⟩:=x;exact⟨k _ _ (.inl rfl) e,ih q⟩
 |tbl ps =>
  have e:h.get? a=some { cls:=.none,data:=.fields ps }:=x;show h'.get? a=some { cls:=.none,data:=.fields ps };exact k a _ (.inl rfl) e
 |met f y =>
  have e:h.get? a=some (methodObj (.ref f) (.ref y)):=x;show h'.get? a=some (methodObj (.ref f) (.ref y));exact k a _ (.inl rfl) e
 |ext φ=>obtain⟨p,⟨o,e⟩,st⟩:=x;exact⟨st _ _ p λ o q=>k _ _ (.inl rfl) q,⟨o,k _ _ (.inl rfl) e⟩,st⟩
theorem HOk.lt(x:HOk P w H h)(e:H a=some o):a<h.objs.size:=(x a o e).lt
theorem HOk.fresh(x:HOk P w H h)(e:h.objs.size<=a):H a=none:=by
 cases q:H a with
 |none=>rfl
 |some u=>exact absurd (Nat.lt_of_lt_of_le (x.lt q) e) (Nat.lt_irrefl _)
theorem HOk.kept(x:HOk P w H h)(k:∀b u,h.get? b=some u->h'.get? b=some u):HOk P w H h':=λ a o e =>
 (x a o e).stay (λ b u _ q=>k b u q) (λ_ q=>q) λ_ _ q=>q
theorem HOk.laid(x:HOk P w H h)(k:∀b u,h.get? b=some u->h'.get? b=some u)(hp:h.objs.size<=a)(new:ObjOk P w (upd H a o) h' a o):HOk P w (upd H a o) h':=λ b u e=>by
 have hn:=x.fresh hp;by_cases hb:b=a
 .subst hb;rw[upd_same]at e;cases e;exact new
 .rw[Ae hb]at e;exact(x b u e).stay (λ c v _ q=>k c v q) (λ c q=>by rw[Ae (Af q hn)];exact q) λ c xs q=>by rw[Ae (Af q hn)];exact q
end
def Rd(H:Hp)(a:Addr)(u:HO):Prop:=H a=some u\/∃o,H a=some (.frz o u)
theorem Rd.ok{P:Program}{w:World}{H:Hp}{h:Heap}{a:Addr}{u:HO}(r:Rd H a u)(x:HOk P w H h):ObjOk P w H h a u:=by
 rcases r with r|⟨o,r⟩
 .exact x a u r
 .obtain⟨_,q⟩:=x a _ r;exact q
def Mut:Option HO->Prop
 |some (.lst _)=>True
 |some (.dK _)=>True
 |some (.dT _)=>True
 |some (.set _ _)=>True
 |some (.ins _ _ _)=>True
 |some (.ext _)=>True
 |_=>False
section
variable{P:Program}{w:World}{H:Hp}{h h':Heap}{x e:Addr}{o':HO}
theorem HOk.write(ok:HOk P w H h)(mu:Mut (H x))(he:e=x\/H e=some (.own x))(k:∀b u,b≠e->h.get? b=some u->h'.get? b=some u)(heo:∃u,h'.get? e=some u)
  (new:ObjOk P w (upd H x o') h' x o'):HOk P w (upd H x o') h':=λ b u q=>by
 have nown:∀c y,H c=some (.own y)->c≠x:=λ c y r z=>by subst z;rw[r]at mu;exact mu
 have ntup:∀c xs,H c=some (.tup xs)->c≠x:=λ c xs r z=>by subst z;rw[r]at mu;exact mu
 by_cases hb:b=x
 .subst hb;rw[upd_same]at q;cases q;exact new
 .rw[Ae hb]at q;by_cases hbe:b=e
  .have q':H b=some (.own x):=by
    rcases he with z|z
    .exact absurd (hbe.trans z) hb
    .rw[hbe];exact z
   rw[q]at q';cases q';obtain⟨v,hv⟩:=heo;exact⟨v,by rw[hbe];exact hv⟩
  .refine(ok b u q).stay (λ c v hc r=>k c v ?_ r) (λ c r=>by rw[Ae (nown c b r)];exact r) λ c xs r=>by rw[Ae (ntup c xs r)];exact r
   rcases hc with rfl|hc
   .exact hbe
   .rintro rfl;rcases he with z|z
    .exact nown c b hc z
    .rw[hc]at z;cases z;exact hb rfl
end
structure Un(fs ex:List Addr)(H H':Hp)(h h':Heap):Prop where
 keep:∀b o,h.get? b=some o->H b=none->b∉fs->b∉ex->h'.get? b=some o
 slot:∀b o,h.get? b=some o->H b=none->b∈fs->b∉ex->∃sl,h'.get? b=some { o with slots:=sl }
 free:∀b o,h.get? b=some o->H b=none->b∉ex->H' b=none
 there:∀b o,h.get? b=some o->b∉ex->∃o',h'.get? b=some o'
 tups:∀b xs,H b=some (.tup xs)->H' b=some (.tup xs)
 frzs:∀b o u,H b=some (.frz o u)->H' b=some (.frz o u)
 tbls:∀b ps,H b=some (.tbl ps)->∃more,H' b=some (.tbl (ps++more))
section
variable{fs fs' ex ex':List Addr}{H H1 H2:Hp}{h h1 h2 h':Heap}{a x e:Addr}{o:HO}
theorem Un.any(u:Un fs ex H H1 h h1){b:Addr}{ob:Obj}(q:h.get? b=some ob)(n:H b=none)(hx:b∉ex):∃sl,h1.get? b=some { ob with slots:=sl }:=by
 by_cases hb:b∈fs
 .exact u.slot b ob q n hb hx
 .exact⟨ob.slots,u.keep b ob q n hb hx⟩
theorem Un.kept(k:∀b u,h.get? b=some u->h'.get? b=some u):Un fs ex H H h h' :=
 ⟨λ b ob q _ _ _=>k b ob q,λ b ob q _ _ _=>⟨ob.slots,k b ob q⟩,λ_ _ _ n _=>n,λ b ob q _=>⟨ob,k b ob q⟩,λ_ _ q=>q,λ_ _ _ q=>q,λ_ ps q=>⟨#[],by rw[q];simp⟩⟩
theorem Un.refl:Un fs ex H H h h:=Un.kept λ_ _ q=>q
theorem Un.laid(k:∀b u,h.get? b=some u->h'.get? b=some u)(hp:h.objs.size<=a)(hn:H a=none):Un fs ex H (upd H a o) h h' where
 keep:=λ b u q _ _ _=>k b u q
 slot:=λ b u q _ _ _=>⟨u.slots,k b u q⟩
 free:=λ b u q n _=>by rw[Ae (Nat.ne_of_lt (Nat.lt_of_lt_of_le (Heap.lt_size q) hp))];exact n
 there:=λ b u q _=>⟨u,k b u q⟩
 tups:=λ b xs q=>by rw[Ae (Af q hn)];exact q
 frzs:=λ b u xs q=>by rw[Ae (Af q hn)];exact q
 tbls:=λ b ps q=>⟨#[],by rw[Ae (Af q hn),q];simp⟩
theorem Un.write(mu:Mut (H x))(he:e=x\/H e=some (.own x))(k:∀b u,b≠e->h.get? b=some u->h'.get? b=some u)(heo:∃u,h'.get? e=some u):Un fs ex H (upd H x o) h h':=by
 have hx:∀b,H b=none->b≠x:=λ b n z=>by subst z;rw[n]at mu;exact mu
 have hb:∀b,H b=none->b≠e:=λ b n z=>by
  subst z;rcases he with r|r
  .exact hx b n r
  .rw[n]at r;cases r
 have hm:∀b u,H b=some u->¬Mut (some u)->b≠x:=λ b u q nm z=>by subst z;rw[q]at mu;exact nm mu
 refine⟨λ b u q n _ _=>k b u (hb b n) q,λ b u q n _ _=>⟨u.slots,k b u (hb b n) q⟩,λ b u q n _=>by rw[Ae (hx b n)];exact n,λ b u q _=>?_,
  λ b xs q=>by rw[Ae (hm b _ q λ z=>z)];exact q,λ b u xs q=>by rw[Ae (hm b _ q λ z=>z)];exact q,λ b ps q=>⟨#[],by rw[Ae (hm b _ q λ z=>z),q];simp⟩⟩
 by_cases hbe:b=e
 .subst hbe;exact heo
 .exact⟨u,k b u hbe q⟩
end
def trk(h:Heap)(H:Hp):List Addr:=(List.range h.objs.size).filter λ a=>(H a).isSome
def Jw(h:Heap)(H:Hp):Heap:=hideAll h (trk h H)
theorem NR(h:Heap)(H:Hp):(Jw h H).objs.size=h.objs.size:=hideAll_size _ _
theorem OU{h:Heap}{H:Hp}{b:Addr}{o:Obj}(e:h.get? b=some o)(n:H b=none):(Jw h H).get? b=some o :=
 hideAll_get _ e λ hm=>by
  have q:(H b).isSome=true:=(List.mem_filter.mp hm).2;rw[n]at q;simp at q
theorem PZ{h:Heap}{H:Hp}{b:Addr}{o:Obj}(e:(Jw h H).get? b=some o):h.get? b=some o/\H b=none:=by
 have e':h.get? b=some o:=of_hideAll (trk h H) e;refine⟨e',?_⟩;cases q:H b with
 |none=>rfl
 |some x =>
  have hm:b∈trk h H:=List.mem_filter.mpr ⟨List.mem_range.mpr (Heap.lt_size e'),by simp[q]⟩;have z:(Jw h H).get? b=none:=hideAll_none (trk h H) hm;rw[z]at e;cases e
structure Mod(K:Frag)(mg:MGz)(base:Heap):Prop where
 kin:K.In base
 glob:base.Ns mainGlobals mg
 blt:∃mb,base.Ns builtinsNs mb/\∀x:Str,x≠"__name__"->mb x=bootBuiltins x
 nolimit:base.NoLimit
structure Cx where
 prog:Program
 w:World
 K:Frag
 mg:MGz
 base:Heap
 A:Around
 N:LSz
 s₀:Shared
 H₀:Hp
 env:Env
 outer:List Env
 stack:List Env
 ex:List Addr
 fn:Str->Bool
 calm:Bool
 pn:PNz
 xe:VPz
def frs(l:List Env):List Addr:=l.filterMap (·.frame)
abbrev Cx.fs(X:Cx):List Addr:=frs X.outer
def Vis(sc:Scope)(x:Str):Prop:=sc.names.lookup x=some .local\/sc.names.lookup x=some .cell\/sc.names.lookup x=some .free
def Loc(sc:Scope)(x:Str):Prop:=sc.names.lookup x=some .local\/sc.names.lookup x=some .cell
def To(env:Env)(h:Heap)(m:MGz)(x:Str)(u:Value):Prop :=
 (env.kindOf x=some .local/\m x=some u)\/((env.kindOf x=some .cell\/env.kindOf x=some .free)/\∃c,env.cells.lookup x=some c/\h.IsCell c (some u))
structure Cx.Ok(X:Cx):Prop where
 mod:Mod X.K X.mg X.base
 kind:X.env.scope.kind=.function
 glob:X.env.globals=mainGlobals
 blt:X.env.builtins=builtinsNs
 above:X.s₀.heap.objs.size<=X.env.locals
 inj:∀x y c,X.env.cells.lookup x=some c->X.env.cells.lookup y=some c->x=y
 has:∀x,(X.env.kindOf x=some .cell\/X.env.kindOf x=some .free)->∃c,X.env.cells.lookup x=some c
 cab:∀x c,X.fn x=true->X.env.cells.lookup x=some c->X.s₀.heap.objs.size<=c
 hd:X.calm=true->X.A.handled=none
 frames:X.A.frames=some X.stack
 stk:X.stack=X.outer\/(X.stack=X.env::X.outer/\X.env.frame=some X.env.locals)
 exf:∀b∈X.ex,b≠X.env.locals/\∀x c,X.env.cells.lookup x=some c->c≠b
 bs:∀b o,X.base.get? b=some o->X.s₀.heap.get? b=some o/\X.H₀ b=none
 bsz:X.base.objs.size<=X.s₀.heap.objs.size
 noex:∀b o,X.base.get? b=some o->b∉X.ex
 exfs:∀b∈X.ex,b∉X.fs
 funs:X.s₀.heap.FunFrames X.base X.outer
 frf:∀b∈X.fs,X.H₀ b=none
structure Inv(X:Cx)(pins:PNz)(σ:List (Option V))(H:Hp)(s:Shared):Prop where
 ok:X.Ok
 os:s.os=X.s₀.os
 bare:AllBare s.gens
 base:Un X.fs X.ex X.H₀ H X.s₀.heap s.heap
 loc:∃m,s.heap.Ns X.env.locals m/\∀(i:Nat)(x:Str)(v:V),X.N[i]?=some x->σ[i]?=some (some v)->Vis X.env.scope x->∃u,RelV v u/\To X.env s.heap m x u
 cell:∀x c,X.env.cells.lookup x=some c->∃v,s.heap.IsCell c v
 free:H X.env.locals=none
 freeC:∀x c,X.env.cells.lookup x=some c->H c=none
 pin:∀p∈X.pn++pins,s.heap.get? p.1=some p.2/\H p.1=none/\p.1≠X.env.locals/\p.1∉X.fs/\∀v,p.2.data≠.cell v
 hok:HOk X.prog X.w H s.heap
 len:σ.length=X.N.length
section
variable{X:Cx}{pins:PNz}{σ:List (Option V)}{H H':Hp}{s:Shared}{h':Heap}
theorem Cx.Ok.nofr(ok:X.Ok){b:Addr}{o:Obj}(e:X.base.get? b=some o):b∉X.fs:=λ hb=>by
 have:=(ok.funs.mem hb).1;rw[e]at this;cases this
theorem Inv.bs(I:Inv X pins σ H s):∀b o,X.base.get? b=some o->s.heap.get? b=some o/\H b=none:=λ b o e =>
 ⟨I.base.keep b o (I.ok.bs b o e).1 (I.ok.bs b o e).2 (I.ok.nofr e) (I.ok.noex b o e),I.base.free b o (I.ok.bs b o e).1 (I.ok.bs b o e).2 (I.ok.noex b o e)⟩
theorem Inv.bk(I:Inv X pins σ H s):∀b o,X.base.get? b=some o->s.heap.get? b=some o:=λ b o e=>(I.bs b o e).1
theorem Inv.mod(I:Inv X pins σ H s):Mod X.K X.mg X.base:=I.ok.mod
theorem Inv.kIn(I:Inv X pins σ H s):X.K.In s.heap:=I.ok.mod.kin.keeps I.bk
theorem Inv.lt(I:Inv X pins σ H s):X.env.locals<s.heap.objs.size:=let ⟨_,hn,_⟩:=I.loc;hn.lt
theorem Inv.sz(I:Inv X pins σ H s):X.s₀.heap.objs.size<=s.heap.objs.size:=Nat.le_trans I.ok.above (Nat.le_of_lt I.lt)
theorem Inv.nofs(I:Inv X pins σ H s){a:Addr}(h:s.heap.objs.size<=a):a∉X.fs:=λ hb=>by
 obtain⟨_,o,ho,_⟩:=I.ok.funs.mem hb;exact absurd (Nat.lt_of_lt_of_le (Heap.lt_size ho) (Nat.le_trans I.sz h)) (Nat.lt_irrefl _)
theorem Inv.cne(I:Inv X pins σ H s):∀x c,X.env.cells.lookup x=some c->c≠X.env.locals:=λ x c e z=>by
 obtain⟨v,o,ho,hd⟩:=I.cell x c e;obtain⟨m,⟨o',es,ep,ho',hd',_⟩,_⟩:=I.loc;rw[z,ho']at ho;cases ho;rw[hd']at hd;cases hd
theorem Inv.funs(I:Inv X pins σ H s):s.heap.FunFrames X.base X.outer:=by
 have all:∀(l:List Env),(∀b∈frs l,b∈X.fs)->X.s₀.heap.FunFrames X.base l->s.heap.FunFrames X.base l:=by
  intro l
  induction l with
  |nil=>intro _ _;trivial
  |cons env r ih =>
   intro hs hl;obtain⟨hk,⟨L,o,hf,hn,ho,hd⟩,hr⟩:=hl;have hL:L∈X.fs:=hs L (by unfold frs;rw[List.filterMap_cons,hf];exact List.mem_cons_self);obtain⟨sl,e⟩:=I.base.slot L o ho (I.ok.frf L hL) hL λ z=>I.ok.exfs L z hL;exact⟨hk,⟨L,_,hf,hn,e,hd⟩,ih (λ b hb=>hs b (by unfold frs;rw[List.filterMap_cons,hf];exact List.mem_cons_of_mem _ hb)) hr⟩
 exact all X.outer (λ_ hb=>hb) I.ok.funs
theorem Inv.stack(I:Inv X pins σ H s):s.heap.FunFrames X.base X.stack:=by
 rcases I.ok.stk with e|⟨e,hf⟩
 .rw[e];exact I.funs
 .rw[e];obtain⟨m,hn,_⟩:=I.loc;refine .cons (by rw[I.ok.kind];decide) hf hn ?_ I.funs;exact Heap.get?_none_of_le (Nat.le_trans I.ok.bsz I.ok.above)
theorem Inv.stkSub(I:Inv X pins σ H s):∀b∈frs X.stack,b∈X.env.locals::X.fs:=λ b hb=>by
 rcases I.ok.stk with e|⟨e,hf⟩
 .rw[e]at hb;exact List.mem_cons_of_mem _ hb
 .rw[e]at hb;unfold frs at hb;rw[List.filterMap_cons,hf]at hb;exact hb
theorem Inv.stkFree(I:Inv X pins σ H s):∀b∈frs X.stack,H b=none:=λ b hb=>by
 rcases List.mem_cons.mp (I.stkSub b hb) with e|hb
 .rw[e];exact I.free
 .obtain⟨_,o,ho,_⟩:=I.ok.funs.mem hb;exact I.base.free b o ho (I.ok.frf b hb) λ z=>I.ok.exfs b z hb
theorem Inv.step{g':Array GenState}{t':Nat}{d':Drawn}{ch:List Addr}(I:Inv X pins σ H s)
  (hch:∀b∈ch,(b∈X.ex\/X.s₀.heap.objs.size<=b)/\b≠X.env.locals/\(∀x c,X.env.cells.lookup x=some c->c≠b)/\∀p∈X.pn++pins,p.1≠b)
  (keep:∀b o,b≠X.env.locals->b∉X.fs->b∉ch->s.heap.get? b=some o->H b=none->h'.get? b=some o)
  (slot:∀b o,b≠X.env.locals->b∈X.fs->b∉ch->s.heap.get? b=some o->H b=none->∃sl,h'.get? b=some { o with slots:=sl }) (free:∀b o,b∉ch->s.heap.get? b=some o->H b=none->H' b=none)
  (there:∀b o,b∉ch->s.heap.get? b=some o->∃o',h'.get? b=some o')
  (tups:∀b xs,H b=some (.tup xs)->H' b=some (.tup xs)) (frzs:∀b o u,H b=some (.frz o u)->H' b=some (.frz o u)) (tbls:∀b ps,H b=some (.tbl ps)->∃more,H' b=some (.tbl (ps++more)))
  (ns:∀m,s.heap.Ns X.env.locals m->h'.Ns X.env.locals m) (hok:HOk X.prog X.w H' h') (hg:AllBare g') :
  Inv X pins σ H' { s with heap:=h',gens:=g',drawn:=d',toks:=t' }:=by
 have neL:∀b o,X.s₀.heap.get? b=some o->b≠X.env.locals:=λ b o e=>Nat.ne_of_lt (Nat.lt_of_lt_of_le (Heap.lt_size e) I.ok.above);have neC:∀b o,X.s₀.heap.get? b=some o->b∉X.ex->b∉ch:=λ b o e hx hb=>by
  rcases(hch b hb).1 with z|z
  .exact hx z
  .exact absurd (Nat.lt_of_lt_of_le (Heap.lt_size e) z) (Nat.lt_irrefl _)
 have cellK:∀x c,X.env.cells.lookup x=some c->∀v,s.heap.IsCell c v->h'.IsCell c v:=λ x c e v ⟨o,ho,hd⟩=>by
  have nch:c∉ch:=λ z=>(hch c z).2.2.1 x c e rfl;by_cases hc:c∈X.fs
  .obtain⟨sl,q⟩:=slot c o (I.cne x c e) hc nch ho (I.freeC x c e);exact⟨_,q,hd⟩
  .exact⟨o,keep c o (I.cne x c e) hc nch ho (I.freeC x c e),hd⟩
 refine⟨I.ok,I.os,hg,⟨λ b o e n hb hx=>?_,λ b o e n hb hx=>?_,λ b o e n hx=>?_,λ b o e hx=>?_,λ b xs e=>tups b xs (I.base.tups b xs e),λ b o xs e=>frzs b o xs (I.base.frzs b o xs e),λ b ps e=>?_⟩,?_,λ x c e=>?_,?_,λ x c e=>?_,λ p hp=>?_,hok,I.len⟩
 .exact keep b o (neL b o e) hb (neC b o e hx) (I.base.keep b o e n hb hx) (I.base.free b o e n hx)
 .obtain⟨sl,e1⟩:=I.base.slot b o e n hb hx;obtain⟨sl',e2⟩:=slot b _ (neL b o e) hb (neC b o e hx) e1 (I.base.free b o e n hx);exact⟨sl',e2⟩
 .obtain⟨o',e1⟩:=I.base.there b o e hx;exact free b o' (neC b o e hx) e1 (I.base.free b o e n hx)
 .obtain⟨o',e1⟩:=I.base.there b o e hx;exact there b o' (neC b o e hx) e1
 .obtain⟨m1,e1⟩:=I.base.tbls b ps e;obtain⟨m2,e2⟩:=tbls b _ e1;exact⟨m1++m2,by rw[e2,Array.append_assoc]⟩
 .obtain⟨m,hn,hl⟩:=I.loc;refine⟨m,ns m hn,λ i x v e1 e2 e3=>?_⟩;obtain⟨u,r,l⟩:=hl i x v e1 e2 e3;refine⟨u,r,?_⟩;rcases l with l|⟨k,c,e,z⟩
  .exact .inl l
  .exact .inr ⟨k,c,e,cellK x c e _ z⟩
 .obtain⟨v,z⟩:=I.cell x c e;exact⟨v,cellK x c e v z⟩
 .obtain⟨m,⟨o,_,_,ho,_⟩,_⟩:=I.loc;exact free _ o (λ z=>(hch _ z).2.1 rfl) ho I.free
 .obtain⟨v,o,ho,hd⟩:=I.cell x c e;exact free c o (λ z=>(hch c z).2.2.1 x c e rfl) ho (I.freeC x c e)
 .obtain⟨e,n,ne,nf,d⟩:=I.pin p hp;have nch:p.1∉ch:=λ z=>(hch p.1 z).2.2.2 p hp rfl;exact⟨keep p.1 p.2 ne nf nch e n,free p.1 p.2 nch e n,ne,nf,d⟩
theorem Inv.un{t':Nat}(I:Inv X pins σ H s)(u:Un X.fs [] H H' s.heap h')(hok:HOk X.prog X.w H' h'):Inv X pins σ H' { s with heap:=h',toks:=t' }:=by
 obtain⟨m,⟨o,es,ep,ho,r⟩,_⟩:=id I.loc;obtain⟨sl,hL⟩:=u.any ho I.free (by simp);exact I.step (g':=s.gens) (d':=s.drawn) (ch:=[]) (λ_ z=>nomatch z) (λ b o _ hb _ e n=>u.keep b o e n hb (by simp)) (λ b o _ hb _ e n=>u.slot b o e n hb (by simp)) (λ b o _ e n=>u.free b o e n (by simp)) (λ b o _ e=>u.there b o e (by simp)) u.tups u.frzs u.tbls (λ m' hm=>by
  obtain⟨o',es',ep',ho',r'⟩:=hm;rw[ho]at ho';cases ho';exact⟨_,es',ep',hL,r'⟩) hok I.bare
theorem Inv.call{g':Array GenState}{t':Nat}{d':Drawn}{ch:List Addr}(I:Inv X pins σ H s)(u:Un (frs X.stack) ch H H' s.heap h')(hok:HOk X.prog X.w H' h')(hg:AllBare g')
  (hch:∀b∈ch,(b∈X.ex\/X.s₀.heap.objs.size<=b)/\b≠X.env.locals/\(∀x c,X.env.cells.lookup x=some c->c≠b)/\∀p∈X.pn++pins,p.1≠b) :
  Inv X pins σ H' { s with heap:=h',gens:=g',drawn:=d',toks:=t' }:=by
 obtain⟨m,⟨o,es,ep,ho,r⟩,_⟩:=id I.loc;obtain⟨sl,hL⟩:=u.any ho I.free λ z=>(hch _ z).2.1 rfl;exact I.step (ch:=ch) hch (λ b o hL hb hc e n=>u.keep b o e n (λ z=>(List.mem_cons.mp (I.stkSub b z)).elim hL hb) hc) (λ b o _ _ hc e n=>u.any e n hc) (λ b o hc e n=>u.free b o e n hc) (λ b o hc e=>u.there b o e hc) u.tups u.frzs u.tbls (λ m' hm=>by
  obtain⟨o',es',ep',ho',r'⟩:=hm;rw[ho]at ho';cases ho';exact⟨_,es',ep',hL,r'⟩) hok hg
theorem Inv.turned{t':Nat}{it:Addr}(I:Inv X pins σ H s)(k:∀b o,b≠it->s.heap.get? b=some o->h'.get? b=some o)(hn:H it=none)(hL:it≠X.env.locals)
  (h1:it∈X.ex\/X.s₀.heap.objs.size<=it) (h2:∀x c,X.env.cells.lookup x=some c->c≠it) (h3:∀p∈X.pn++pins,p.1≠it):Inv X pins σ H { s with heap:=h',toks:=t' }:=by
 have nit:∀b u,H b=some u->b≠it:=λ b u e z=>by rw[z,hn]at e;cases e
 refine I.step (g':=s.gens) (d':=s.drawn) (ch:=[it]) (λ b hb=>?_) (λ b o _ _ hc e _=>k b o (λ z=>hc (by simp[z])) e) (λ b o _ _ hc e _=>⟨o.slots,k b o (λ z=>hc (by simp[z])) e⟩) (λ_ _ _ _ n=>n)
  (λ b o hc e=>⟨o,k b o (λ z=>hc (by simp[z])) e⟩) (λ_ _ e=>e) (λ_ _ _ e=>e) (λ b ps e=>⟨#[],by rw[e];simp⟩) (λ m hm=>?_) (λ b u e=>?_) I.bare
 .have e:b=it:=by simpa using hb
  subst e;exact⟨h1,hL,h2,h3⟩
 .obtain⟨o,es,ep,ho,r⟩:=hm;exact⟨o,es,ep,k _ o (Ne.symm hL) ho,r⟩
 .refine(I.hok b u e).stay (λ c v hc q=>k c v ?_ q) (λ_ q=>q) λ_ _ q=>q;rcases hc with z|z
  .rw[z];exact nit b u e
  .exact nit c _ z
theorem Inv.tok(I:Inv X pins σ H s)(t:Nat):Inv X pins σ H { s with toks:=t }:=I.un (h':=s.heap) (t':=t) Un.refl I.hok
theorem Inv.kept{t':Nat}(I:Inv X pins σ H s)(k:∀b u,s.heap.get? b=some u->h'.get? b=some u):Inv X pins σ H { s with heap:=h',toks:=t' }:=I.un (Un.kept k) (I.hok.kept k)
theorem Inv.laid{a:Addr}{o:HO}{t':Nat}(I:Inv X pins σ H s)(k:∀b u,s.heap.get? b=some u->h'.get? b=some u)(hp:s.heap.objs.size<=a)(new:ObjOk X.prog X.w (upd H a o) h' a o) :
  Inv X pins σ (upd H a o) { s with heap:=h',toks:=t' }:=I.un (Un.laid k hp (I.hok.fresh hp)) (I.hok.laid k hp new)
theorem Inv.write{x e:Addr}{o:HO}{t':Nat}(I:Inv X pins σ H s)(mu:Mut (H x))(he:e=x\/H e=some (.own x))(k:∀b u,b≠e->s.heap.get? b=some u->h'.get? b=some u)(heo:∃u,h'.get? e=some u)
  (new:ObjOk X.prog X.w (upd H x o) h' x o):Inv X pins σ (upd H x o) { s with heap:=h',toks:=t' }:=I.un (Un.write mu he k heo) (I.hok.write mu he k heo new)
theorem Inv.pins_of{pins':PNz}(I:Inv X pins σ H s)(h:∀p∈pins',s.heap.get? p.1=some p.2/\H p.1=none/\p.1≠X.env.locals/\p.1∉X.fs/\∀v,p.2.data≠.cell v):Inv X pins' σ H s :=
 ⟨I.ok,I.os,I.bare,I.base,I.loc,I.cell,I.free,I.freeC,λ p hp=>(List.mem_append.mp hp).elim (λ z=>I.pin p (List.mem_append_left _ z)) (h p),I.hok,I.len⟩
theorem Ky{N:LSz}(hN:N.Nodup){i j:Nat}{x:Str}(a:N[i]?=some x)(b:N[j]?=some x):i=j:=by
 obtain⟨h1,e1⟩:=List.getElem?_eq_some_iff.mp a;obtain⟨h2,e2⟩:=List.getElem?_eq_some_iff.mp b;exact(List.getElem_inj hN).mp (e1.trans e2.symm)
theorem Ny{M:Model}{A:Around}{E:VPz}{i:Nat}{x:Str}{v:V}{u:Value}{Q:Unit->Shared->Prop}(I:Inv X pins σ H s)(hN:X.N.Nodup)(hi:X.N[i]?=some x)(hx:Loc X.env.scope x)(r:RelV v u)
  (h:∀s',Inv X pins (σ.set i (some v)) H s'->(∃a,Heap.SameBut a s.heap s'.heap/\(a=X.env.locals\/X.env.cells.lookup x=some a))->Q () s') (hf:X.fn x=true\/X.env.scope.names.lookup x=some .local:=by first|exact .inl rfl|exact .inr rfl|assumption):wpAny M A (storeName X.env x u) Q E s:=by
 obtain⟨m,hn,hl⟩:=id I.loc;have hcls:(X.env.scope.kind==.class||(X.env.scope.kind==.module&&X.env.locals != X.env.globals))=false:=by rw[I.ok.kind];rfl
 have hiσ:i<σ.length:=by rw[I.len];exact(List.getElem?_eq_some_iff.mp hi).1
 have cne:=I.cne;have tracked:∀{a:Addr}{h':Heap},(∃o,s.heap.get? a=some o/\H a=none)->Heap.SameBut a s.heap h'->HOk X.prog X.w H h':=λ{a h'} ha hs b ob e=>by
  obtain⟨_,_,hfree⟩:=ha;refine(I.hok b ob e).stay (λ c w' hc q=>(hs.2 c ?_).trans q) (λ_ q=>q) λ_ _ q=>q;rintro rfl;rcases hc with rfl|hc
  .rw[hfree]at e;cases e
  .rw[hfree]at hc;cases hc
 rcases hx with hk|hk
 .refine wpAny_storeName_local hk hn (λ h' hn' hs=>?_) hcls;obtain⟨oL,_,_,hoL,_⟩:=id hn;refine h _ ⟨I.ok,I.os,I.bare,⟨λ b o e n hb hx=>?_,λ b o e n hb hx=>?_,I.base.free,λ b o e hx=>?_,I.base.tups,I.base.frzs,I.base.tbls⟩,⟨_,hn',λ j y v' e1 e2 e3=>?_⟩,λ y c e=>?_,I.free,I.freeC,λ p hp=>?_,tracked ⟨oL,hoL,I.free⟩ hs,by simpa using I.len⟩ ⟨_,hs,.inl rfl⟩
  .exact(hs.2 b (Nat.ne_of_lt (Nat.lt_of_lt_of_le (Heap.lt_size e) I.ok.above))).trans (I.base.keep b o e n hb hx)
  .obtain⟨sl,e1⟩:=I.base.slot b o e n hb hx;exact⟨sl,(hs.2 b (Nat.ne_of_lt (Nat.lt_of_lt_of_le (Heap.lt_size e) I.ok.above))).trans e1⟩
  .obtain⟨o',e1⟩:=I.base.there b o e hx;exact⟨o',(hs.2 b (Nat.ne_of_lt (Nat.lt_of_lt_of_le (Heap.lt_size e) I.ok.above))).trans e1⟩
  .by_cases hj:j=i
   .subst hj;rw[hi]at e1;cases e1;rw[List.getElem?_set_self hiσ]at e2;cases e2;exact⟨u,r,.inl ⟨hk,by simp⟩⟩
   .rw[List.getElem?_set_ne (Ne.symm hj)]at e2;obtain⟨u',r',q⟩:=hl j y v' e1 e2 e3;refine⟨u',r',?_⟩;rcases q with ⟨k,e⟩|⟨k,c,e,z⟩
    .refine .inl ⟨k,?_⟩;have:y≠x:=λ e=>hj (Ky hN e1 (e ▸ hi));simp[this,e]
    .exact .inr ⟨k,c,e,z.sameBut hs (cne y c e)⟩
  .obtain⟨w',z⟩:=I.cell y c e;exact⟨w',z.sameBut hs (cne y c e)⟩
  .obtain⟨e,n,ne,nf,d⟩:=I.pin p hp;exact⟨(hs.2 p.1 ne).trans e,n,ne,nf,d⟩
 .have hfn:X.fn x=true:=by
   rcases hf with z|z
   .exact z
   .rw[z]at hk;cases hk
  obtain⟨c,hc⟩:=I.ok.has x (.inl hk);obtain⟨w',z⟩:=I.cell x c hc;refine wpAny_storeName_cell I.ok.kind hk hc z (λ h' hc' hs=>?_);obtain⟨oc,hoc,hocd⟩:=id z;refine h { s with heap:=h' } ⟨I.ok,I.os,I.bare,⟨λ b o e n hb hx=>?_,λ b o e n hb hx=>?_,I.base.free,λ b o e hx=>?_,I.base.tups,I.base.frzs,I.base.tbls⟩,⟨m,hn.sameBut hs (Ne.symm (cne x c hc)),λ j y v' e1 e2 e3=>?_⟩,λ y c' e=>?_,I.free,I.freeC,λ p hp=>?_,tracked ⟨oc,hoc,I.freeC x c hc⟩ hs,by simpa using I.len⟩ ⟨c,hs,.inr hc⟩
  .exact(hs.2 b (Nat.ne_of_lt (Nat.lt_of_lt_of_le (Heap.lt_size e) (I.ok.cab x c hfn hc)))).trans (I.base.keep b o e n hb hx)
  .obtain⟨sl,e1⟩:=I.base.slot b o e n hb hx;exact⟨sl,(hs.2 b (Nat.ne_of_lt (Nat.lt_of_lt_of_le (Heap.lt_size e) (I.ok.cab x c hfn hc)))).trans e1⟩
  .obtain⟨o',e1⟩:=I.base.there b o e hx;exact⟨o',(hs.2 b (Nat.ne_of_lt (Nat.lt_of_lt_of_le (Heap.lt_size e) (I.ok.cab x c hfn hc)))).trans e1⟩
  .by_cases hj:j=i
   .subst hj;rw[hi]at e1;cases e1;rw[List.getElem?_set_self hiσ]at e2;cases e2;exact⟨u,r,.inr ⟨.inl hk,c,hc,hc'⟩⟩
   .rw[List.getElem?_set_ne (Ne.symm hj)]at e2;obtain⟨u',r',q⟩:=hl j y v' e1 e2 e3;refine⟨u',r',?_⟩;rcases q with q|⟨k,c',e,z'⟩
    .exact .inl q
    .refine .inr ⟨k,c',e,z'.sameBut hs ?_⟩;rintro rfl;exact hj (Ky hN e1 (I.ok.inj _ _ _ e hc ▸ hi))
  .by_cases hcc:c'=c
   .subst hcc;exact⟨_,hc'⟩
   .obtain⟨w2,z2⟩:=I.cell y c' e;exact⟨w2,z2.sameBut hs hcc⟩
  .obtain⟨e,n,ne,nf,d⟩:=I.pin p hp;refine⟨(hs.2 p.1 ?_).trans e,n,ne,nf,d⟩;intro q;rw[q,hoc]at e;have q':oc=p.2:=Option.some.inj e;exact d w' (by rw[<-q'];exact hocd)
theorem FY{M:Model}{A:Around}{E:VPz}{i:Nat}{x:Str}{v:V}{u:Value}{Q:Unit->Shared->Prop}(I:Inv X pins σ H s)(hN:X.N.Nodup)(hi:X.N[i]?=some x)(hx:Loc X.env.scope x)(r:RelV v u)
  (h:∀s',Inv X pins (σ.set i (some v)) H s'->Q () s') (hf:X.fn x=true\/X.env.scope.names.lookup x=some .local:=by first|exact .inl rfl|exact .inr rfl|assumption):wpAny M A (storeName X.env x u) Q E s :=
 Ny I hN hi hx r (λ s' I' _=>h s' I') hf
theorem Inv.call'{s':Shared}{ch:List Addr}(I:Inv X pins σ H s)(ho:s'.os=s.os)(u:Un (frs X.stack) ch H H' s.heap s'.heap)(hok:HOk X.prog X.w H' s'.heap)(hg:AllBare s'.gens)
  (hch:∀b∈ch,(b∈X.ex\/X.s₀.heap.objs.size<=b)/\b≠X.env.locals/\(∀x c,X.env.cells.lookup x=some c->c≠b)/\∀p∈X.pn++pins,p.1≠b):Inv X pins σ H' s':=by
 obtain⟨h',g',d',t',o'⟩:=s';have e:o'=s.os:=ho;subst e;exact I.call (g':=g') (t':=t') (d':=d') u hok hg hch
end
abbrev XK:=Value->Option Addr->Hp->Prop
abbrev St:=List (Option V)
abbrev VK:=V->Hp->Prop
abbrev TE:=St->Hp->VK->Prop
abbrev TT:=St->Hp->(Bool->Hp->Prop)->Prop
abbrev TA:=St->Hp->(LUz->Hp->Prop)->Prop
structure Er where
 nx:St->Hp->Prop
 rt:VK
 bk:St->Hp->Prop:=λ_ _=>False
 ct:St->Hp->Prop:=λ_ _=>False
abbrev TS:=Er->St->Hp->Prop
def EP(X:Cx)(pins:PNz)(σ:St)(Q:VK)(u:Value)(s':Shared):Prop:=∃v H',Inv X pins σ H' s'/\RelV v u/\Q v H'
def TP(X:Cx)(pins:PNz)(σ:St)(Q:Bool->Hp->Prop)(b:Bool)(s':Shared):Prop:=∃H',Inv X pins σ H' s'/\Q b H'
def AP(X:Cx)(pins:PNz)(σ:St)(Q:LUz->Hp->Prop)(us:LWz)(s':Shared):Prop:=∃vs H',Inv X pins σ H' s'/\Vals vs us/\Q vs H'
def SP(X:Cx)(pins:PNz)(D:Er)(f:Flow)(s':Shared):Prop :=
 match f with
 |.next=>∃σ' H',Inv X pins σ' H' s'/\D.nx σ' H'
 |.brk=>∃σ' H',Inv X pins σ' H' s'/\D.bk σ' H'
 |.cont=>∃σ' H',Inv X pins σ' H' s'/\D.ct σ' H'
 |.ret u=>∃v σ' H',Inv X pins σ' H' s'/\RelV v u/\D.rt v H'
def PE(X:Cx)(e:Expr)(t:TE):Prop :=
 ∀(pins:PNz)(s:Shared)(σ:St)(H:Hp)(Q:VK),Inv X pins σ H s->t σ H Q->wpAny (model X.prog X.w) X.A (eval e X.env) (EP X pins σ Q) X.xe s
def PT(X:Cx)(e:Expr)(t:TT):Prop :=
 ∀(pins:PNz)(s:Shared)(σ:St)(H:Hp)(Q:Bool->Hp->Prop),Inv X pins σ H s->t σ H Q->wpAny (model X.prog X.w) X.A (isTrue e X.env (eval e X.env)) (TP X pins σ Q) X.xe s
def PW(X:Cx)(e:Expr)(t:TT):Prop :=
 ∀(whole:Sem Value)(pins:PNz)(s:Shared)(σ:St)(H:Hp)(Q:Bool->Hp->Prop),Inv X pins σ H s->t σ H Q->wpAny (model X.prog X.w) X.A (isTrue e X.env whole) (TP X pins σ Q) X.xe s
theorem PW.pt{X:Cx}{e:Expr}{t:TT}(h:PW X e t):PT X e t:=h _
def PA(X:Cx)(es:List Expr)(t:TA):Prop :=
 ∀(pos:Pos)(pins:PNz)(s:Shared)(σ:St)(H:Hp)(Q:LUz->Hp->Prop),Inv X pins σ H s->t σ H Q->wpAny (model X.prog X.w) X.A (spliced (backTo pos (starEach es X.env))) (AP X pins σ Q) X.xe s
def PS(X:Cx)(st:Stmt)(t:TS):Prop :=
 ∀(pins:PNz)(s:Shared)(σ:St)(H:Hp)(D:Er),Inv X pins σ H s->t D σ H->wpAny (model X.prog X.w) X.A (exec st X.env) (SP X pins D) X.xe s
def PSs(X:Cx)(st:List Stmt)(t:TS):Prop :=
 ∀(pins:PNz)(s:Shared)(σ:St)(H:Hp)(D:Er),Inv X pins σ H s->t D σ H->wpAny (model X.prog X.w) X.A (execs st X.env) (SP X pins D) X.xe s
theorem thn{α:Type}{t:Sem α}{Q Q':α->Shared->Prop}{M:Model}{A:Around}{E:VPz}{s:Shared}(h:wpAny M A t Q E s)(hQ:∀a s,Q a s->Q' a s):wpAny M A t Q' E s:=wpAny_mono h hQ λ_ _ x=>x
section
variable{X:Cx}
inductive S8(i:Nat)(σ:St)(H:Hp)(Q:VK):Prop
 |mk (v:V) (e:σ[i]?=some (some v)) (q:Q v H):S8 i σ H Q
def P3(i:Nat):TE:=λ σ H Q=>S8 i σ H Q
inductive IBl(x:V)(Q:Bool->Prop):Prop
 |mk (c:Bool) (e:x=.bl c) (q:Q c):IBl x Q
def tC(v:V):TE:=λ_ H Q=>Q v H
theorem QY{i:Nat}{x:Str}{pos:Pos}(hN:X.N[i]?=some x)(hv:Vis X.env.scope x)(hd:(x==("__debug__":Str))=false:=by decide)(hcd:(x==("__classdict__":Str))=false:=by decide):PE X (.Name x pos) (P3 i):=by
 intro pins s σ H Q I h;obtain⟨v,e,h⟩:=h;obtain⟨m,hn,hl⟩:=I.loc;obtain⟨u,r,l⟩:=hl i x v hN e hv;have fin:EP X pins σ Q u s:=⟨v,H,I,r,h⟩;rcases l with ⟨hk,hm⟩|⟨hk,c,hc,hcell⟩
 .exact wpAny_Name (wpAny_loadName_local I.ok.kind hk hn hm fin) hd
 .rcases hk with hk|hk
  .exact wpAny_Name (wpAny_loadName_cell I.ok.kind hk hc hcell fin) hd
  .exact wpAny_Name (wpAny_loadName_free I.ok.kind hk hc hcell fin hcd) hd
theorem Ad{i j pos}:PE X (.Constant (.int i) j pos) (tC (.int i)):=λ_ _ _ H _ I h=>wpAny_Constant_int ⟨.int i,H,I.tok _,⟨_,rfl⟩,h⟩
theorem HY{b j pos}:PE X (.Constant (.bool b) j pos) (tC (.bl b)):=λ_ _ _ H _ I h=>Constant_bool ⟨.bl b,H,I,rfl,h⟩
theorem AY{j pos}:PE X (.Constant .none j pos) (tC .non):=λ_ _ _ H _ I h=>Constant_none ⟨.non,H,I,rfl,h⟩
theorem Bw{x j pos}:PE X (.Constant (.str x) j pos) (tC (.str x)):=λ_ _ _ H _ I h=>Calls.Constant_str ⟨.str x,H,I.tok _,⟨_,rfl⟩,h⟩
def Gl(X:Cx)(x:Str):Prop:=X.env.kindOf x=some .globalImplicit
theorem DM{E:VPz}{pins:PNz}{s:Shared}{σ:St}{H:Hp}{x:Str}{u:Value}{pos:Pos}{Q:VPz}(I:Inv X pins σ H s)(hg:Gl X x)(hm:X.mg x=some u)(h:Q u s)
  (hd:(x==("__debug__":Str))=false:=by decide):wpAny (model X.prog X.w) X.A (eval (.Name x pos) X.env) Q E s :=
 Calls.Name_function_global I.ok.kind hg (Calls.loadGlobal_global (by rw[I.ok.glob];exact I.mod.glob.keeps I.bk) hm h) hd
theorem Fc{E:VPz}{pins:PNz}{s:Shared}{σ:St}{H:Hp}{x:Str}{u:Value}{pos:Pos}{Q:VPz}(I:Inv X pins σ H s)(hg:Gl X x)(hm:X.mg x=none)(hv:bootBuiltins x=some u)(h:Q u s)
  (hn:x≠"__name__":=by decide) (hd:(x==("__debug__":Str))=false:=by decide):wpAny (model X.prog X.w) X.A (eval (.Name x pos) X.env) Q E s:=by
 obtain⟨mb,h1,h2⟩:=I.mod.blt;exact Calls.Name_function_global I.ok.kind hg (Calls.loadGlobal_builtin (by rw[I.ok.glob];exact I.mod.glob.keeps I.bk) hm (by rw[I.ok.blt];exact h1.keeps I.bk) ((h2 x hn).trans hv) h) hd
theorem AM{x:Str}{v:V}{u:Value}{pos:Pos}(hg:Gl X x)(hm:X.mg x=some u)(r:RelV v u)(hd:(x==("__debug__":Str))=false:=by decide):PE X (.Name x pos) (tC v) :=
 λ_ _ _ H _ I h=>DM I hg hm ⟨v,H,I,r,h⟩ hd
theorem E7{x:Str}{v:V}{u:Value}{pos:Pos}(hg:Gl X x)(hm:X.mg x=none)(hv:bootBuiltins x=some u)(r:RelV v u)(hn:x≠"__name__":=by decide)(hd:(x==("__debug__":Str))=false:=by decide):PE X (.Name x pos) (tC v) :=
 λ_ _ _ H _ I h=>Fc I hg hm hv ⟨v,H,I,r,h⟩ hn hd
variable{a b:Expr}{ta tb:TE}{pos:Pos}
def tB(t:TE):TT:=λ σ H Q=>t σ H λ x H1=>IBl x λ c=>Q c H1
theorem BE{e:Expr}{t:TE}(h:PE X e t)(he:∀whole,isTrue e X.env whole=(do let v <-whole;standAt e.pos;holding [v] (truthy v)):=by intro _;rfl):PT X e (tB t):=by
  intro pins s σ H Q I hw;refine isTrue_plain (thn (h pins s σ H _ I hw) λ v s1 hz_=>?_) (he _);obtain⟨x,H1,I1,r1,q1⟩:=hz_;obtain⟨d,rfl,q⟩:=q1;cases r1;exact wpAny_truthy_bool ⟨H1,I1,q⟩
variable{tA tB':TT}{rest:List Expr}
def SR(t u:TT):TT:=λ σ H Q=>t σ H λ c H1=>if c=true then u σ H1 Q else Q false H1
def tOr(t u:TT):TT:=λ σ H Q=>t σ H λ c H1=>if c=true then Q true H1 else u σ H1 Q
def SL(t:TT):TT:=λ σ H Q=>t σ H λ c H1=>Q (!c) H1
theorem FF(ha:PT X a tA):PW X (.BoolOp .And [a] pos) tA:=by
 intro wh pins s σ H Q I h;refine isTrue_and (thn (ha pins s σ H Q I h) λ c s1 e=>?_);cases c with
 |true=>exact isTrue_and_nil e
 |false=>exact e
theorem Gn(ha:PT X a tA):PW X (.BoolOp .Or [a] pos) tA:=by
 intro wh pins s σ H Q I h;refine isTrue_or (thn (ha pins s σ H Q I h) λ c s1 e=>?_);cases c with
 |false=>exact isTrue_or_nil e
 |true=>exact e
theorem IY(ha:PT X a tA)(hb:PW X (.BoolOp .And (b::rest) pos) tB'):PW X (.BoolOp .And (a::b::rest) pos) (SR tA tB'):=by
 intro wh pins s σ H Q I h;refine isTrue_and (thn (ha pins s σ H _ I h) λ c s1 hz_=>?_);obtain⟨H1,I1,q1⟩:=hz_;cases c with
 |true=>exact hb wh pins s1 σ H1 Q I1 q1
 |false=>exact⟨H1,I1,q1⟩
theorem Go(ha:PT X a tA)(hb:PW X (.BoolOp .Or (b::rest) pos) tB'):PW X (.BoolOp .Or (a::b::rest) pos) (tOr tA tB'):=by
 intro wh pins s σ H Q I h;refine isTrue_or (thn (ha pins s σ H _ I h) λ c s1 hz_=>?_);obtain⟨H1,I1,q1⟩:=hz_;cases c with
 |true=>exact⟨H1,I1,q1⟩
 |false=>exact hb wh pins s1 σ H1 Q I1 q1
theorem BF(ha:PT X a tA):PT X (.UnaryOp .Not a pos) (SL tA):=by
 intro pins s σ H Q I h;exact isTrue_not (ha pins s σ H (λ c H1=>Q (!c) H1) I h)
def RO(ta tb:TE):TE:=λ σ H Q=>ta σ H λ x H1=>IBl x λ c=>if c=true then tb σ H1 Q else Q (.bl false) H1
def SK(ta tb:TE):TE:=λ σ H Q=>ta σ H λ x H1=>IBl x λ c=>if c=true then Q (.bl true) H1 else tb σ H1 Q
def RH(ta:TE):TE:=λ σ H Q=>ta σ H λ x H1=>IBl x λ c=>Q (.bl (!c)) H1
theorem Du{op}{t:TE}(h:PE X a t):PE X (.BoolOp op [a] pos) t:=λ pins s σ H Q I hw=>BoolOp_one (h pins s σ H Q I hw)
theorem CY(ha:PE X a ta)(hb:PE X (.BoolOp .And (b::rest) pos) tb):PE X (.BoolOp .And (a::b::rest) pos) (RO ta tb):=by
 intro pins s σ H Q I h;refine BoolOp_and (thn (ha pins s σ H _ I h) λ v s1 hz_=>?_);obtain⟨x,H1,I1,r1,q1⟩:=hz_;obtain⟨c,rfl,q1⟩:=q1;cases r1;refine wpAny_truthy_bool ?_;cases c with
 |true=>exact hb pins s1 σ H1 Q I1 q1
 |false=>exact⟨.bl false,H1,I1,rfl,q1⟩
theorem OA(ha:PE X a ta)(hb:PE X (.BoolOp .Or (b::rest) pos) tb):PE X (.BoolOp .Or (a::b::rest) pos) (SK ta tb):=by
 intro pins s σ H Q I h;refine BoolOp_or (thn (ha pins s σ H _ I h) λ v s1 hz_=>?_);obtain⟨x,H1,I1,r1,q1⟩:=hz_;obtain⟨c,rfl,q1⟩:=q1;cases r1;refine wpAny_truthy_bool ?_;cases c with
 |false=>exact hb pins s1 σ H1 Q I1 q1
 |true=>exact⟨.bl true,H1,I1,rfl,q1⟩
theorem OB(ha:PE X a ta):PE X (.UnaryOp .Not a pos) (RH ta):=by
 intro pins s σ H Q I h;refine UnaryOp_ (thn (ha pins s σ H _ I h) λ v s1 hz_=>?_);obtain⟨x,H1,I1,r1,q1⟩:=hz_;obtain⟨c,rfl,q1⟩:=q1;cases r1;exact not_of (wpAny_truthy_bool ⟨.bl (!c),H1,I1,rfl,q1⟩)
end
def SqL(K:Frag)(H:Hp)(a:Addr)(xs:LUz):Prop :=
 Rd H a (.lst xs) \/
  ∃(o:Obj)(its:Array Value)(n:Nat),K.lookup a=some o/\o.cls=.type "list"/\o.dict=none/\o.data=.seq its n/\its.size<=sizeLine/\Vals xs its.toList
def SqT(K:Frag)(H:Hp)(a:Addr)(xs:LUz):Prop :=
 Rd H a (.tup xs) \/
  ∃(o:Obj)(its:Array Value)(n:Nat),K.lookup a=some o/\o.cls=.type "tuple"/\o.data=.seq its n/\its.size<=sizeLine/\Vals xs its.toList
def Ti:Value->Option V
 |.none=>some .non
 |.bool b=>some (.bl b)
 |.int i _=>some (.int i)
 |.str x _=>some (.str x)
 |.bytes b _=>some (.byt b)
 |.float b _=>some (.flt b)
 |.ref a=>some (.ref a)
 |.type n=>some (.ty n)
 |_=>none
theorem RelV.abs{x:V}{u:Value}(r:RelV x u):Ti u=some x:=by
 cases x with
 |non=>cases r;rfl
 |bl _=>cases r;rfl
 |int _=>obtain⟨t,rfl⟩:=r;rfl
 |str _=>obtain⟨t,rfl⟩:=r;rfl
 |byt _=>obtain⟨t,rfl⟩:=r;rfl
 |flt _=>obtain⟨t,rfl⟩:=r;rfl
 |ref _=>cases r;rfl
 |ty _=>cases r;rfl
theorem RelV.inj{x y:V}{u:Value}(r:RelV x u)(q:RelV y u):x=y:=Option.some.inj (r.abs.symm.trans q.abs)
theorem Vals.inj:∀{xs ys:LUz}{us:LWz},Vals xs us->Vals ys us->xs=ys
 |_,_,_,.nil,.nil=>rfl
 |_,_,_,.cons r t,.cons r' t'=>by rw[r.inj r',Vals.inj t t']
section
variable{X:Cx}{pins:PNz}{σ:St}{H:Hp}{s:Shared}{a:Addr}{xs ys:LUz}
theorem SqL.of{K:Frag}(h:H a=some (.lst xs)):SqL K H a xs:=.inl (.inl h)
theorem SqT.of{K:Frag}(h:H a=some (.tup xs)):SqT K H a xs:=.inl (.inl h)
theorem Inv.list(I:Inv X pins σ H s)(h:SqL X.K H a xs):∃its:LWz,Vals xs its/\PlainL s.heap a its.toArray/\xs.length<=sizeLine:=by
 rcases h with h|⟨o,its,n,hk,hc,hd,hs,hz,r⟩
 .obtain⟨z,its,n,r,e⟩:=h.ok I.hok;exact⟨its,r,⟨_,n,e,rfl,rfl,rfl⟩,z⟩
 .refine⟨its.toList,r,⟨o,n,I.kIn a o hk,hc,hd,by simpa using hs⟩,?_⟩;have e:=r.length;simp only[Array.length_toList]at e;lia
theorem Inv.tuple(I:Inv X pins σ H s)(h:SqT X.K H a xs):∃its:LWz,Vals xs its/\IsTup s.heap a its.toArray/\xs.length<=sizeLine:=by
 rcases h with h|⟨o,its,n,hk,hc,hs,hz,r⟩
 .obtain⟨z,its,r,p⟩:=h.ok I.hok;exact⟨its,r,p,z⟩
 .refine⟨its.toList,r,⟨o,I.kIn a o hk,hc,n,by simpa using hs⟩,?_⟩;have e:=r.length;simp only[Array.length_toList]at e;lia
theorem Inv.list_inj(I:Inv X pins σ H s)(h:SqL X.K H a xs)(h':SqL X.K H a ys):xs=ys:=by
 obtain⟨its,r,⟨o,n,e,_,_,d⟩,_⟩:=I.list h;obtain⟨its',r',⟨o',n',e',_,_,d'⟩,_⟩:=I.list h';rw[e]at e';cases e';rw[d]at d';injection d' with d1 _;have:its=its':=by simpa using congrArg Array.toList d1
 subst this;exact r.inj r'
theorem Inv.tuple_inj(I:Inv X pins σ H s)(h:SqT X.K H a xs)(h':SqT X.K H a ys):xs=ys:=by
 obtain⟨its,r,⟨o,e,_,n,d⟩,_⟩:=I.tuple h;obtain⟨its',r',⟨o',e',_,n',d'⟩,_⟩:=I.tuple h';rw[e]at e';cases e';rw[d]at d';injection d' with d1 _;have:its=its':=by simpa using congrArg Array.toList d1
 subst this;exact r.inj r'
end
abbrev Cx.wish(X:Cx)(E:VPz):Cx:={ X with xe:=E }
abbrev Cx.nox(X:Cx):Cx:=X.wish λ_ _=>False
theorem Cx.Ok.wish{X:Cx}(ok:X.Ok)(E:VPz):(X.wish E).Ok :=
 ⟨ok.mod,ok.kind,ok.glob,ok.blt,ok.above,ok.inj,ok.has,ok.cab,ok.hd,ok.frames,ok.stk,ok.exf,ok.bs,ok.bsz,ok.noex,ok.exfs,ok.funs,ok.frf⟩
theorem Cx.Ok.unwish{X:Cx}{E:VPz}(ok:(X.wish E).Ok):X.Ok :=
 ⟨ok.mod,ok.kind,ok.glob,ok.blt,ok.above,ok.inj,ok.has,ok.cab,ok.hd,ok.frames,ok.stk,ok.exf,ok.bs,ok.bsz,ok.noex,ok.exfs,ok.funs,ok.frf⟩
section
variable{X:Cx}{pins:PNz}{σ:St}{H:Hp}{s:Shared}{E:VPz}
theorem Inv.wish(I:Inv X pins σ H s)(E:VPz):Inv (X.wish E) pins σ H s:=⟨I.ok.wish E,I.os,I.bare,I.base,I.loc,I.cell,I.free,I.freeC,I.pin,I.hok,I.len⟩
theorem Inv.unwish(I:Inv (X.wish E) pins σ H s):Inv X pins σ H s:=⟨I.ok.unwish,I.os,I.bare,I.base,I.loc,I.cell,I.free,I.freeC,I.pin,I.hok,I.len⟩
theorem SP.unwish{D:Er}{f:Flow}{s':Shared}(h:SP (X.wish E) pins D f s'):SP X pins D f s':=by
 cases f with
 |next=>obtain⟨σ',H',I,q⟩:=h;exact⟨σ',H',I.unwish,q⟩
 |brk=>obtain⟨σ',H',I,q⟩:=h;exact⟨σ',H',I.unwish,q⟩
 |cont=>obtain⟨σ',H',I,q⟩:=h;exact⟨σ',H',I.unwish,q⟩
 |ret u=>obtain⟨v,σ',H',I,r,q⟩:=h;exact⟨v,σ',H',I.unwish,r,q⟩
theorem PSs.nox{st:List Stmt}{t:TS}(h:PSs X.nox st t):PSs X st t:=λ pins s σ H D I hw =>
 wpAny_mono (h pins s σ H D (I.wish _) hw) (λ_ _ q=>q.unwish) λ_ _ z=>False.elim z
end
section
variable{X:Cx}{st:Stmt}{rest:List Stmt}{t u:TS}{e:Expr}{te:TE}{pos:Pos}
def RI:TS:=λ D σ H=>D.nx σ H
def SI(t u:TS):TS:=λ D σ H=>t { D with nx:=u D } σ H
theorem Ay:PSs X [] RI:=λ_ _ σ H _ I h=>wpAny_execs_nil ⟨σ,H,I,h⟩
theorem Ac(h1:PS X st t)(h2:PSs X rest u):PSs X (st::rest) (SI t u):=by
 intro pins s σ H D I h;refine wpAny_execs_cons (thn (h1 pins s σ H { D with nx:=u D } I h) λ f s1 q=>?_);cases f with
 |next =>
  obtain⟨σ',H',I',q⟩:=q;exact h2 pins s1 σ' H' D I' q
 |ret v=>exact q
 |brk=>exact q
 |cont=>exact q
theorem Ah(h1:PS X st t):PSs X [st] t:=by
 intro pins s σ H D I h;refine wpAny_execs_cons (thn (h1 pins s σ H D I h) λ f s1 q=>?_);cases f with
 |next=>exact wpAny_execs_nil q
 |ret v=>exact q
 |brk=>exact q
 |cont=>exact q
theorem Inv.quiet{pins:PNz}{σ:St}{H:Hp}{s:Shared}(I:Inv X pins σ H s):interactive X.env=false:=by simp[interactive,I.ok.kind]
def RL(te:TE):TS:=λ D σ H=>te σ H λ_ H1=>D.nx σ H1
theorem B0(he:PE X e te)(hs:swapsWith e none pos.line X.env=pure false:=by rfl):PS X (.Expr e pos) (RL te):=by
 intro pins s σ H D I h;exact wpAny_Expr_any (thn (he pins s σ H _ I h) λ v s1 ⟨x,H1,I1,r1,q1⟩=>⟨σ,H1,I1,q1⟩) I.quiet hs
def SJ(te:TE):TS:=λ D σ H=>te σ H D.rt
theorem Ar(he:PE X e te):PS X (.Return (some e) pos) (SJ te):=by
 intro pins s σ H D I h;exact wpAny_Return_some (thn (he pins s σ H _ I h) λ v s1 ⟨x,H1,I1,r1,q1⟩=>⟨x,σ,H1,I1,r1,q1⟩)
def SN(c:TT)(t u:TS):TS:=λ D σ H=>c σ H λ b H1=>if b=true then t D σ H1 else u D σ H1
theorem AJ{c:Expr}{a b:List Stmt}{tc:TT}(hc:PT X c tc)(ha:PSs X a t)(hb:PSs X b u):PS X (.If c a b pos) (SN tc t u):=by
 intro pins s σ H D I h;refine wpAny_If (thn (hc pins s σ H _ I h) λ d s1 hz_=>?_);obtain⟨H1,I1,q1⟩:=hz_;cases d with
 |true=>exact ha pins s1 σ H1 D I1 q1
 |false=>exact hb pins s1 σ H1 D I1 q1
def QP:TS:=λ_ _ _=>False
theorem Gp:PS X st QP:=λ_ _ _ _ _ _ h=>h.elim
end
abbrev TG:=V->St->Hp->(St->Hp->Prop)->Prop
abbrev TGs:=LUz->St->Hp->(St->Hp->Prop)->Prop
def PG(X:Cx)(target:Expr)(t:TG):Prop :=
 ∀(pins:PNz)(s:Shared)(σ:St)(H:Hp)(v:V)(u:Value)(Q:St->Hp->Prop),Inv X pins σ H s->RelV v u->t v σ H Q ->
  wpAny (model X.prog X.w) X.A (assign target X.env u) (λ_ s'=>∃σ' H',Inv X pins σ' H' s'/\Q σ' H') X.xe s
def PGs(X:Cx)(ts:List Expr)(t:TGs):Prop :=
 ∀(pins:PNz)(s:Shared)(σ:St)(H:Hp)(vs:LUz)(us:LWz)(Q:St->Hp->Prop),Inv X pins σ H s->Vals vs us->t vs σ H Q ->
  wpAny (model X.prog X.w) X.A (assignInOrder ((assignEach ts X.env).map (·.2)) us) (λ_ s'=>∃σ' H',Inv X pins σ' H' s'/\Q σ' H') X.xe s
section
variable{X:Cx}{pos:Pos}
def Q9(i:Nat):TG:=λ v σ H Q=>Q (σ.set i (some v)) H
theorem An{i:Nat}{x:Str}(hN:X.N.Nodup)(hi:X.N[i]?=some x)(hx:Loc X.env.scope x)(hf:X.fn x=true\/X.env.scope.names.lookup x=some .local:=by first|exact .inl rfl|exact .inr rfl|assumption):PG X (.Name x pos) (Q9 i):=by
 intro pins s σ H v u Q I r h;exact wpAny_assign_Name (FY I hN hi hx r (λ s' I'=>⟨_,H,I',h⟩) hf)
def Th:TGs:=λ vs σ H Q=>vs=[]/\Q σ H
def Ss(t:TG)(u:TGs):TGs:=λ vs σ H Q=>∃v r,vs=v::r/\t v σ H λ σ' H'=>u r σ' H' Q
theorem AB:PGs X [] Th:=by
 intro pins s σ H vs us Q I r h;obtain⟨e,h⟩:=h;subst e;cases r;exact assignInOrder_nil ⟨σ,H,I,h⟩
theorem Am{e:Expr}{es:List Expr}{t:TG}{u:TGs}(h1:PG X e t)(h2:PGs X es u)
  (hs:(assignEach (e::es) X.env).map (·.2)=assign e X.env::(assignEach es X.env).map (·.2):=by rfl):PGs X (e::es) (Ss t u):=by
 intro pins s σ H vs us Q I r h;obtain⟨v,vr,e1,h⟩:=h;subst e1;cases r with
 |cons r rr =>
  rw[hs];refine assignInOrder_cons (thn (h1 pins s σ H _ _ _ I r h) λ_ s1 hz_=>?_);obtain⟨σ1,H1,I1,q1⟩:=hz_;exact h2 pins s1 σ1 H1 _ _ Q I1 rr q1
inductive QD(K:Frag)(n:Nat)(t:TGs)(v:V)(σ:St)(H:Hp)(Q:St->Hp->Prop):Prop
 |mk (a:Addr) (xs:LUz) (e:v=.ref a) (s:SqT K H a xs) (l:xs.length=n) (q:t xs σ H Q):QD K n t v σ H Q
def Sr(K:Frag)(n:Nat)(t:TGs):TG:=λ v σ H Q=>QD K n t v σ H Q
theorem CW{es:List Expr}{k:Nat}{t:TGs}{n:Nat}(hc:X.calm=true)(h:PGs X es t)
  (hn:(assignEach es X.env).length=n:=by rfl) (hst:(assignEach es X.env).findIdx? (·.1)=none:=by rfl):PG X (.Tuple es k pos) (Sr X.K n t):=by
 intro pins s σ H v u Q I r hw;obtain⟨a,xs,e1,hq,hl,hw⟩:=hw;subst e1;cases r;obtain⟨its,rv,ht,hz⟩:=I.tuple hq;refine assign_Tuple_tuple (I.ok.hd hc) ht (by simp[hn,<-hl,rv.length]) hst λ h' hx=>?_;have I1:Inv X pins σ H { s with heap:=h' }:=I.kept (t':=s.toks) λ b o e=>hx b o (Nat.ne_of_lt (Heap.lt_size e)) e;exact h pins _ σ H xs _ Q I1 (by simpa using rv) hw
def QS(te:TE)(g:TG):TS:=λ D σ H=>te σ H λ x H1=>g x σ H1 D.nx
theorem LF{tg e:Expr}{te:TE}{g:TG}(he:PE X e te)(hg:PG X tg g)(hs:swapsWithSole [tg] e pos.line X.env=pure false:=by rfl)(hw:swappedStores [tg] e X.env=pure none:=by rfl)
  (h1:(assignEach [tg] X.env).map (·.2)=[assign tg X.env]:=by rfl):PS X (.Assign [tg] e pos) (QS te g):=by
 intro pins s σ H D I h;refine wpAny_Assign_stores (thn (he pins s σ H _ I h) λ v s1 hz_=>?_) hs hw;obtain⟨x,H1,I1,r1,q1⟩:=hz_;rw[h1];exact thn (hg pins s1 σ H1 x v _ I1 r1 q1) λ_ s2 q=>q
theorem As{i:Nat}{x:Str}{e:Expr}{te:TE}{pos':Pos}(hN:X.N.Nodup)(hi:X.N[i]?=some x)(hx:Loc X.env.scope x)(he:PE X e te)(hs:swapsWith e (some (.Name x pos')) pos.line X.env=pure false:=by rfl)(hf:X.fn x=true\/X.env.scope.names.lookup x=some .local:=by first|exact .inl rfl|exact .inr rfl|assumption) :
  PS X (.Assign [.Name x pos'] e pos) (QS te (Q9 i)):=by
 intro pins s σ H D I h;refine wpAny_Assign_Name (thn (he pins s σ H _ I h) λ v s1 hz_=>?_) hs;obtain⟨y,H1,I1,r1,q1⟩:=hz_;exact FY I1 hN hi hx r1 (λ s2 I2=>⟨_,H1,I2,q1⟩) hf
def QN(c:TT)(tb:TS):TS:=λ D σ H=>∃W:Nat->St->Hp->Prop,(∃m,W m σ H)/\∀m σ H,W m σ H ->
 c σ H λ b H1=>if b=true then ∃N:St->Hp->Prop,(∀σ' H',N σ' H'->∃m',m'<m/\W m' σ' H')/\tb { D with nx:=N,ct:=N,bk:=D.nx } σ H1 else D.nx σ H1
theorem O7{c:Expr}{body:List Stmt}{tc:TT}{tb:TS}(hp:PassesOwn (model X.prog X.w) X.A X.env X.xe)(hc:PT X c tc)(hb:PSs X body tb):PS X (.While c body [] pos) (QN tc tb):=by
 intro pins s σ H D I h;obtain⟨W,⟨m0,w0⟩,turn⟩:=h;refine wpAny_While (codeAny_whileLoop (λ n s'=>∃σ' H',Inv X pins σ' H' s'/\W n σ' H') ?_ m0 ⟨σ,H,I,w0⟩);rintro n s1 ⟨σ1,H1,I1,w1⟩;refine wpAny_passesOwn hp (thn (hc pins s1 σ1 H1 _ I1 (turn n σ1 H1 w1)) λ b s2 hz_=>?_);obtain⟨H2,I2,q2⟩:=hz_;cases b with
 |true =>
  obtain⟨N,hN,q2⟩:=q2;rw[if_pos rfl];refine wpAny_passesOwn hp (thn (hb pins s2 σ1 H2 _ I2 q2) λ f s3 q3=>?_);cases f with
  |next =>
   obtain⟨σ3,H3,I3,n3⟩:=q3;obtain⟨m',hm,w3⟩:=hN σ3 H3 n3;exact⟨m',hm,σ3,H3,I3,w3⟩
  |cont =>
   obtain⟨σ3,H3,I3,n3⟩:=q3;obtain⟨m',hm,w3⟩:=hN σ3 H3 n3;exact⟨m',hm,σ3,H3,I3,w3⟩
  |brk=>exact q3
  |ret v=>exact q3
 |false =>
  rw[if_neg Bool.false_ne_true];exact wpAny_execs_nil ⟨σ1,H2,I2,q2⟩
end
structure It where
 go:Nat->Hp->Prop
 yld:Nat->Hp->V->Hp->Prop
 stop:Nat->Hp->Prop
def Ep(X:Cx)(pins:PNz)(H:Hp)(b:Addr):Prop :=
 H b=none/\b≠X.env.locals/\b∉X.fs/\(b∈X.ex\/X.s₀.heap.objs.size<=b)/\(∀x c,X.env.cells.lookup x=some c->c≠b)/\∀p∈X.pn++pins,p.1≠b
theorem Inv.fpOk{X:Cx}{pins:PNz}{σ:St}{H H':Hp}{s:Shared}{b:Addr}(I:Inv X pins σ H s)(hb:s.heap.objs.size<=b)(hn:H' b=none):Ep X pins H' b:=by
 refine⟨hn,Nat.ne_of_gt (Nat.lt_of_lt_of_le I.lt hb),I.nofs hb,.inr (Nat.le_trans I.sz hb),λ x c e z=>?_,λ p hp z=>?_⟩
 .obtain⟨v,q⟩:=I.cell x c e;exact absurd (Nat.lt_of_lt_of_le q.lt (by rw[z];exact hb)) (Nat.lt_irrefl _)
 .exact absurd (Nat.lt_of_lt_of_le (Heap.lt_size (I.pin p hp).1) (by rw[z];exact hb)) (Nat.lt_irrefl _)
structure Mp(P:Program)(w:World)(K:Frag)(tg:Expr)(J:It)(fp:List Addr)(it:Addr)(tn:Nat->Heap->Prop):Prop where
 mem:it∈fp
 obj:∀i h,tn i h->∀b∈fp,∃o,h.get? b=some o/\∀v,o.data≠.cell v
 keep:∀i h h',tn i h->(∀b∈fp,∀o,h.get? b=some o->h'.get? b=some o)->tn i h'
 item:∀(X:Cx),X.prog=P->X.w=w->X.K=K->X.calm=true->∀(i:Nat)(pins:PNz)(s:Shared)(σ:St)(H:Hp)(E:VPz),Inv X pins σ H s->(∀b∈fp,Ep X pins H b)->tn i s.heap->J.go i H ->
  wpAny (model P w) X.A (pyNext (.ref it)) (λ r s1=>∃u,r=some u /\
   wpAny (model P w) X.A (letOwnedTupleGo tg (.ref it) u) (λ_ s2=>∃x H',Inv X pins σ H' s2/\RelV x u/\J.yld i H x H'/\tn (i+1) s2.heap/\∀b∈fp,H' b=none) E s1) E s
 done:∀(X:Cx),X.prog=P->X.w=w->X.K=K->X.calm=true->∀(i:Nat)(pins:PNz)(s:Shared)(σ:St)(H:Hp)(E:VPz),Inv X pins σ H s->(∀b∈fp,Ep X pins H b)->tn i s.heap->J.stop i H ->
  wpAny (model P w) X.A (pyNext (.ref it)) (λ r s1=>r=none/\Inv X pins σ H s1) E s
 self:∀(A:Around)(i:Nat)(s:Shared)(Q:VPz)(E:VPz),tn i s.heap->Q (.ref it) s->wpAny (model P w) A (pyIter (.ref it)) Q E s
abbrev TI:=St->Hp->(It->Hp->Prop)->Prop
def PIE(X:Cx)(pins:PNz)(σ:St)(tg:Expr)(R:It->Hp->Prop)(itv:Value)(s2:Shared):Prop :=
 ∃(it:Addr)(fp:List Addr)(tn:Nat->Heap->Prop)(J:It)(H':Hp),itv=.ref it/\Inv X pins σ H' s2/\Mp X.prog X.w X.K tg J fp it tn/\tn 0 s2.heap/\(∀b∈fp,Ep X pins H' b)/\R J H'
def PI(X:Cx)(tg iter:Expr)(wi:TI):Prop :=
 ∀(pins:PNz)(s:Shared)(σ:St)(H:Hp)(R:It->Hp->Prop),Inv X pins σ H s->wi σ H R ->
  wpAny (model X.prog X.w) X.A (eval iter X.env) (λ v s1=>wpAny (model X.prog X.w) X.A (pyIter v) (PIE X pins σ tg R) X.xe s1) X.xe s
theorem MW{M:Model}{A:Around}{E:VPz}{s:Shared}{tg:Expr}{it:Addr}{u:Value}{o:Obj}{n:String}{vs:Array Value}{Q:Unit->Shared->Prop}(ho:s.heap.get? it=some o)(hc:o.cls=.type n)(hd:o.data=.fields vs)
    (hn:["enumerate","zip","dict_itemiterator","dict_reverseitemiterator","odict_iterator","itertools.zip_longest","itertools.pairwise"].contains n=false) (hQ:Q () s):wpAny M A (letOwnedTupleGo tg (.ref it) u) Q E s:=by
  unfold letOwnedTupleGo;cases tg<;>first
    |exact wpAny_pure hQ
    | (cases u<;>first
        |exact wpAny_pure hQ
        | (refine wpAny_bind (wpAny_load ho ?_)
           rw[hc,hd];show wpAny M A (if (["enumerate","zip","dict_itemiterator","dict_reverseitemiterator","odict_iterator","itertools.zip_longest","itertools.pairwise"].contains n&&vs[0]?==some (rawInt _))=true then _ else _) Q E s;rw[if_neg (by intro h;rw[hn,Bool.false_and]at h;cases h)];exact wpAny_pure hQ))
def Itl(K:Frag)(a:Addr):It :=
 ⟨λ i H=>∃xs x,SqL K H a xs/\xs[i]?=some x,λ i H x H'=>H'=H/\∀xs,SqL K H a xs->xs[i]?=some x,λ i H=>∃xs,SqL K H a xs/\xs.length<=i⟩
def Itt(K:Frag)(a:Addr):It :=
 ⟨λ i H=>∃xs x,SqT K H a xs/\xs[i]?=some x,λ i H x H'=>H'=H/\∀xs,SqT K H a xs->xs[i]?=some x,λ i H=>∃xs,SqT K H a xs/\xs.length<=i⟩
def Itr(lo:Int)(n:Nat):It:=⟨λ i _=>i<n,λ i H x H'=>H'=H/\x=.int (lo+i),λ i _=>n<=i⟩
theorem Nw{P:Program}{w:World}{K:Frag}{tg:Expr}(a it:Addr):Mp P w K tg (Itl K a) [it] it (λ i h=>h.IsListIter it a i) where
 mem:=by simp
 obj:=λ i h st b hb=>by
  have e:b=it:=by simpa using hb
  subst e;obtain⟨o,e,c,d⟩:=st;exact⟨o,e,λ v z=>by rw[d]at z;cases z⟩
 keep:=λ i h h' st k=>st.at λ o e=>k it (by simp) o e
 item:=by
  intro X hP hw hK hc i pins s σ H E I hf st hg;subst hP hw hK;obtain⟨xs,x,hq,hx⟩:=hg;obtain⟨its,rv,p,hz⟩:=I.list hq;obtain⟨u,hu,ru⟩:=rv.get hx;obtain⟨f0,f1,f2,f3,f4,f5⟩:=hf it (by simp);refine wpAny_pyNext_list_item st p.isList (x:=u) (by simpa using hu) λ h' st' sb=>?_;have I1:Inv X pins σ H { s with heap:=h' }:=I.turned (t':=s.toks) (λ b o hb e=>(sb.2 b hb).trans e) f0 f1 f3 f4 f5;obtain⟨o,e,c,d⟩:=id st';exact⟨u,rfl,MW (s:={ s with heap:=h' }) e c d (by decide) ⟨x,H,I1,ru,⟨rfl,λ ys hy=>by rw[I.list_inj hy hq];exact hx⟩,st',λ b hb=>(hf b hb).1⟩⟩
 done:=by
  intro X hP hw hK hc i pins s σ H E I hf st hg;subst hP hw hK;obtain⟨xs,hq,hx⟩:=hg;obtain⟨its,rv,p,hz⟩:=I.list hq;obtain⟨f0,f1,f2,f3,f4,f5⟩:=hf it (by simp);have hl:=rv.length;exact wpAny_pyNext_list_end (I.ok.hd hc) st p.isList (by simp;lia) λ h' eb=>⟨rfl,I.turned (t':=s.toks) (λ b o hb e=>eb b o hb e) f0 f1 f3 f4 f5⟩
 self:=λ_ _ _ _ _ st h=>wpAny_pyIter_listiter st h
theorem Lr{P:Program}{w:World}{K:Frag}{tg:Expr}(a it:Addr):Mp P w K tg (Itt K a) [it] it (λ i h=>h.IsTupleIter it a i) where
 mem:=by simp
 obj:=λ i h st b hb=>by
  have e:b=it:=by simpa using hb
  subst e;obtain⟨o,e,c,d⟩:=st;exact⟨o,e,λ v z=>by rw[d]at z;cases z⟩
 keep:=λ i h h' st k=>st.at λ o e=>k it (by simp) o e
 item:=by
  intro X hP hw hK hc i pins s σ H E I hf st hg;subst hP hw hK;obtain⟨xs,x,hq,hx⟩:=hg;obtain⟨its,rv,p,hz⟩:=I.tuple hq;obtain⟨u,hu,ru⟩:=rv.get hx;obtain⟨f0,f1,f2,f3,f4,f5⟩:=hf it (by simp);refine wpAny_pyNext_tuple_item st (show s.heap.IsTuple a its.toArray from p) (x:=u) (by simpa using hu) λ h' st' sb=>?_;have I1:Inv X pins σ H { s with heap:=h' }:=I.turned (t':=s.toks) (λ b o hb e=>(sb.2 b hb).trans e) f0 f1 f3 f4 f5;obtain⟨o,e,c,d⟩:=id st';exact⟨u,rfl,MW (s:={ s with heap:=h' }) e c d (by decide) ⟨x,H,I1,ru,⟨rfl,λ ys hy=>by rw[I.tuple_inj hy hq];exact hx⟩,st',λ b hb=>(hf b hb).1⟩⟩
 done:=by
  intro X hP hw hK hc i pins s σ H E I hf st hg;subst hP hw hK;obtain⟨xs,hq,hx⟩:=hg;obtain⟨its,rv,p,hz⟩:=I.tuple hq;obtain⟨f0,f1,f2,f3,f4,f5⟩:=hf it (by simp);have hl:=rv.length;exact wpAny_pyNext_tuple_end (I.ok.hd hc) st (show s.heap.IsTuple a its.toArray from p) (by simp;lia) λ h' eb=>⟨rfl,I.turned (t':=s.toks) (λ b o hb e=>eb b o hb e) f0 f1 f3 f4 f5⟩
 self:=λ_ _ _ _ _ st h=>wpAny_pyIter_tupleiter st h
theorem Ls{P:Program}{w:World}{K:Frag}{tg:Expr}(it:Addr)(lo:Int)(n:Nat):Mp P w K tg (Itr lo n) [it] it (λ i h=>IsRangeIter h it (lo+(i:Nat)*1) ((n:Int)-(i:Nat)) 1) where
 mem:=by simp
 obj:=λ i h st b hb=>by
  have e:b=it:=by simpa using hb
  subst e;exact⟨_,st,λ v z=>by
   have z':Data.fields _=Data.cell v:=z;cases z'⟩
 keep:=λ i h h' st k=>k it (by simp) _ st
 item:=by
  intro X hP hw hK hc i pins s σ H E I hf st hg;subst hP hw hK;obtain⟨f0,f1,f2,f3,f4,f5⟩:=hf it (by simp);have W:=Walks.range (prog:=X.prog) (w:=X.w) (I.ok.hd hc) it lo 1 n;refine W.item i s _ _ hg st λ v h' tk hv st' kk=>?_;obtain⟨t,rfl⟩:=hv;have I1:Inv X pins σ H { s with heap:=h',toks:=tk }:=I.turned (λ b o hb e=>kk b o (by simpa using hb) e) f0 f1 f3 f4 f5;refine⟨_,rfl,MW (s:={ s with heap:=h',toks:=tk }) (n:="range_iterator") st' rfl rfl (by decide) ⟨.int (lo+i),H,I1,⟨t,?_⟩,⟨rfl,rfl⟩,st',λ b hb=>(hf b hb).1⟩⟩;rw[Int.mul_one]
 done:=by
  intro X hP hw hK hc i pins s σ H E I hf st hg;subst hP hw hK;obtain⟨f0,f1,f2,f3,f4,f5⟩:=hf it (by simp);exact wpAny_pyNext_range_end (I.ok.hd hc) st (by have:n<=i:=hg;lia) λ h' eb=>⟨rfl,I.turned (t':=s.toks) (λ b o hb e=>eb b o hb e) f0 f1 f3 f4 f5⟩
 self:=λ_ _ _ _ _ st h=>wpAny_pyIter_rangeiter st h
section
variable{X:Cx}{tg:Expr}
inductive R7(x:V)(S Q:Addr->Prop):Prop
 |mk (a:Addr) (e:x=.ref a) (s:S a) (q:Q a):R7 x S Q
def So(K:Frag)(tl:TE):TI:=λ σ H R=>tl σ H λ x H1=>R7 x (λ a=>∃xs,SqL K H1 a xs) λ a=>R (Itl K a) H1
def Tf(K:Frag)(tl:TE):TI:=λ σ H R=>tl σ H λ x H1=>R7 x (λ a=>∃xs,SqT K H1 a xs) λ a=>R (Itt K a) H1
theorem AL{l:Expr}{tl:TE}(hl:PE X l tl):PI X tg l (So X.K tl):=by
 intro pins s σ H R I h;refine thn (hl pins s σ H _ I h) λ v s1 hz_=>?_;obtain⟨x,H1,I1,r1,q1⟩:=hz_;obtain⟨a,e,⟨xs,hq⟩,q⟩:=q1;subst e;cases r1;obtain⟨its,rv,p,hz⟩:=I1.list hq;refine wpAny_pyIter_list p.isList ?_;refine⟨s1.heap.objs.size,[s1.heap.objs.size],_,_,H1,rfl,I1.kept (t':=s1.toks) λ b o e=>Heap.get?_push_of_some _ e,Nw a _,⟨_,Heap.get?_push_size _ rfl,rfl,rfl⟩,λ b hb=>?_,q⟩;have e:b=s1.heap.objs.size:=by simpa using hb
 subst e;exact I1.fpOk (Nat.le_refl _) (I1.hok.fresh (Nat.le_refl _))
theorem O9{l:Expr}{tl:TE}(hl:PE X l tl):PI X tg l (Tf X.K tl):=by
 intro pins s σ H R I h;refine thn (hl pins s σ H _ I h) λ v s1 hz_=>?_;obtain⟨x,H1,I1,r1,q1⟩:=hz_;obtain⟨a,e,⟨xs,hq⟩,q⟩:=q1;subst e;cases r1;obtain⟨its,rv,p,hz⟩:=I1.tuple hq;refine wpAny_pyIter_tuple (show s1.heap.IsTuple a its.toArray from p) ?_;refine⟨s1.heap.objs.size,[s1.heap.objs.size],_,_,H1,rfl,I1.kept (t':=s1.toks) λ b o e=>Heap.get?_push_of_some _ e,Lr a _,⟨_,Heap.get?_push_size _ rfl,rfl,rfl⟩,λ b hb=>?_,q⟩;have e:b=s1.heap.objs.size:=by simpa using hb
 subst e;exact I1.fpOk (Nat.le_refl _) (I1.hok.fresh (Nat.le_refl _))
theorem O5{pins:PNz}{σ:St}{H:Hp}{s:Shared}{R:It->Hp->Prop}{E:VPz}{lo hi:Int}{t u v:Tok}{tk:Nat}(I:Inv X pins σ H s)(h1:-(2^62)<=lo)(h2:lo<2^62)(h3:-(2^62)<=hi)(h4:hi<2^62)
  (q:R (Itr lo (hi-lo).toNat) H):wpAny (model X.prog X.w) X.A (pyIter (.ref s.heap.objs.size)) (PIE X pins σ tg R) E { s with heap:=s.heap.push { cls:=.type "range",data:=.fields #[.int lo t,.int hi u,.int 1 v] },toks:=tk }:=by
 refine wpAny_pyIter_range (IsRange.new ..) (small_one h1 h2 h3 h4) ?_;have I1:Inv X pins σ H { s with heap:=s.heap.push { cls:=.type "range",data:=.fields #[.int lo t,.int hi u,.int 1 v] },toks:=tk }:=I.kept λ b o e=>Heap.get?_push_of_some _ e;refine⟨(s.heap.push { cls:=.type "range",data:=.fields #[.int lo t,.int hi u,.int 1 v] }).objs.size,[(s.heap.push { cls:=.type "range",data:=.fields #[.int lo t,.int hi u,.int 1 v] }).objs.size],_,_,H,rfl,
  I1.kept (t':=tk) λ b o e=>Heap.get?_push_of_some _ e,Ls _ lo (hi-lo).toNat,?_,λ b hb=>?_,q⟩
 .have e1:lo+((0:Nat):Int)*1=lo:=by simp
  have e2:(((hi-lo).toNat:Nat):Int)-((0:Nat):Int)=Builtin.Range.rangeSize lo hi 1:=by rw[rangeSize_one];split<;>lia
  show IsRangeIter _ _ (lo+((0:Nat):Int)*1) ((((hi-lo).toNat:Nat):Int)-((0:Nat):Int)) 1;rw[e1,e2];exact Heap.get?_push_size _ rfl
 .have e:b=(s.heap.push { cls:=.type "range",data:=.fields #[.int lo t,.int hi u,.int 1 v] }).objs.size:=by simpa using hb
  subst e;exact I1.fpOk (Nat.le_refl _) (I1.hok.fresh (Nat.le_refl _))
inductive QE(vs:LUz)(R:Int->Prop):Prop
 |mk (j:Int) (e:vs=[.int j]) (l:-(2^62)<=j) (h:j<2^62) (q:R j):QE vs R
def Sn(ta:TA):TI:=λ σ H R=>ta σ H λ vs H1=>QE vs λ j=>R (Itr 0 j.toNat) H1
theorem DH{a:Expr}{ta:TA}{p pos:Pos}(hg:Gl X "range")(hm:X.mg "range"=none)(ha:PA X [a] ta)(hs:starEach [a] X.env=[(false,eval a X.env)]:=by rfl):PI X tg (.Call (.Name "range" p) [a] [] pos) (Sn ta):=by
 intro pins s σ H R I h;refine Call_ (Fc I hg hm boot_range (PyProof.Rows.callWith_type1 (thn (ha pos pins s σ H _ I h) λ us s1 hz_=>?_) hs rfl));obtain⟨vs,H1,I1,r1,q1⟩:=hz_;obtain⟨j,e,q1,q2,q⟩:=q1;subst e;cases r1 with
 |cons r rr =>
  cases rr;obtain⟨t,rfl⟩:=r;exact call_range_1 (O5 I1 (by lia) (by lia) q1 q2 (by simpa using q))
def SO(wi:TI)(g:TG)(tb:TS):TS:=λ D σ H=>wi σ H λ J H1=>∃W:Nat->Nat->St->Hp->Prop,(∃m,W 0 m σ H1)/\∀i m σ H,W i m σ H ->
 (J.stop i H/\D.nx σ H)\/(J.go i H/\∃N:St->Hp->Prop,(∀σ' H',N σ' H'->∃m',m'<m/\W (i+1) m' σ' H')/\∀x H',J.yld i H x H'->g x σ H' λ σ2 H2=>tb { D with nx:=N,ct:=N,bk:=D.nx } σ2 H2)
def Ja(fp:List Addr)(h:Heap):PNz:=fp.filterMap λ b=>(h.get? b).map λ o=>(b,o)
theorem Bd{fp:List Addr}{h:Heap}{b:Addr}{o:Obj}(hb:b∈fp)(e:h.get? b=some o):(b,o)∈Ja fp h:=List.mem_filterMap.mpr ⟨b,hb,by rw[e];rfl⟩
theorem N9{fp:List Addr}{h:Heap}{p:Addr×Obj}(hp:p∈Ja fp h):p.1∈fp/\h.get? p.1=some p.2:=by
 obtain⟨b,hb,e⟩:=List.mem_filterMap.mp hp;cases q:h.get? b with
 |none=>rw[q]at e;cases e
 |some o =>
  rw[q]at e;have e':(b,o)=p:=Option.some.inj e;subst e';exact⟨hb,q⟩
theorem Inv.pinned{pins:PNz}{σ:St}{H:Hp}{s:Shared}{fp:List Addr}(I:Inv X pins σ H s)(hf:∀b∈fp,Ep X pins H b)(ho:∀b∈fp,∃o,s.heap.get? b=some o/\∀v,o.data≠.cell v):Inv X (pins++Ja fp s.heap) σ H s :=
 I.pins_of λ p hp=>(List.mem_append.mp hp).elim (λ z=>I.pin p (List.mem_append_right _ z)) λ z=>by
  obtain⟨hb,e⟩:=N9 z;obtain⟨f0,f1,f2,_⟩:=hf p.1 hb;obtain⟨o,e',d⟩:=ho p.1 hb;rw[e]at e';cases e';exact⟨e,f0,f1,f2,d⟩
theorem Inv.unpinned{pins pl:PNz}{σ:St}{H:Hp}{s:Shared}(I:Inv X (pins++pl) σ H s):Inv X pins σ H s:=I.pins_of λ p hp=>I.pin p (List.mem_append_right _ (List.mem_append_left _ hp))
theorem C3{iter:Expr}{body:List Stmt}{wi:TI}{g:TG}{tb:TS}{pos:Pos}(hp:PassesOwn (model X.prog X.w) X.A X.env X.xe)(hc:X.calm=true)(hi:PI X tg iter wi)(hg:PG X tg g)(hb:PSs X body tb)
  (hs:∀x,foldedSetIterable iter X.env x=pure x:=by intro _;rfl):PS X (.For tg iter body [] pos) (SO wi g tb):=by
 intro pins s σ H D I h;refine wpAny_For (thn (hi pins s σ H _ I h) λ v s1 h1=>thn h1 λ itv s2 h2=>?_) hs;obtain⟨it,fp,tn,J,H2,e,I2,T,st2,f2,W,⟨m0,w0⟩,turn⟩:=h2;subst e;have stat:∀{H':Hp},(∀b∈fp,H' b=none)->∀b∈fp,Ep X pins H' b:=λ hn b hb=>⟨hn b hb,(f2 b hb).2⟩;refine codeAny_forLoop_any (λ n s'=>∃i σ' H',Inv X pins σ' H' s'/\tn i s'.heap/\(∀b∈fp,H' b=none)/\W i n σ' H') ?_ m0 ⟨0,σ,H2,I2,st2,λ b hb=>(f2 b hb).1,w0⟩;rintro n s3 ⟨i,σ3,H3,I3,st3,fr3,w3⟩;rcases turn i n σ3 H3 w3 with ⟨stop,qn⟩|⟨go,N,hN,step⟩
 .refine wpAny_passesOwn hp (thn (T.done X rfl rfl rfl hc i pins s3 σ3 H3 X.xe I3 (stat fr3) st3 stop) λ r s4 hz_=>?_);obtain⟨hr,I4⟩:=hz_;subst hr;exact wpAny_execs_nil ⟨σ3,H3,I4,qn⟩
 .refine wpAny_passesOwn hp (thn (T.item X rfl rfl rfl hc i pins s3 σ3 H3 X.xe I3 (stat fr3) st3 go) λ r s4 hz_=>?_);obtain⟨u,hr,h4⟩:=hz_;subst hr;refine wpAny_passesOwn hp (thn h4 λ_ s5 hz_=>?_);obtain⟨x,H5,I5,r5,y5,st5,fr5⟩:=hz_;have I5':=I5.pinned (stat fr5) (T.obj _ _ st5);refine wpAny_passesOwn hp (thn (hg _ s5 σ3 H5 x u _ I5' r5 (step x H5 y5)) λ_ s6 hz_=>?_);obtain⟨σ6,H6,I6,q6⟩:=hz_;refine wpAny_passesOwn hp (thn (hb _ s6 σ6 H6 _ I6 q6) λ f s7 q7=>?_);have again:∀{σ7:St}{H7:Hp},Inv X (pins++Ja fp s5.heap) σ7 H7 s7->N σ7 H7->∃m,m<n/\∃i σ' H',Inv X pins σ' H' s7/\tn i s7.heap/\(∀b∈fp,H' b=none)/\W i m σ' H':=λ{σ7 H7} I7 n7=>by
   obtain⟨m',hm,w7⟩:=hN σ7 H7 n7;refine⟨m',hm,i+1,σ7,H7,I7.unpinned,T.keep _ _ _ st5 λ b hb o e=>(I7.pin (b,o) (List.mem_append_right _ (List.mem_append_right _ (Bd hb e)))).1,λ b hb=>?_,w7⟩;obtain⟨o,e,d⟩:=T.obj _ _ st5 b hb;exact(I7.pin (b,o) (List.mem_append_right _ (List.mem_append_right _ (Bd hb e)))).2.1
  cases f with
  |next=>obtain⟨σ7,H7,I7,n7⟩:=q7;exact again I7 n7
  |cont=>obtain⟨σ7,H7,I7,n7⟩:=q7;exact again I7 n7
  |brk=>obtain⟨σ7,H7,I7,q7⟩:=q7;exact⟨σ7,H7,I7.unpinned,q7⟩
  |ret v=>obtain⟨x7,σ7,H7,I7,r7,q7⟩:=q7;exact⟨x7,σ7,H7,I7.unpinned,r7,q7⟩
end
theorem KB{K:Frag}{a:Addr}{xs:LUz}{g:TG}{tb:TS}{D:Er}{σ:St}{H:Hp}(Pv:Nat->St->Hp->Prop)(h0:Pv 0 σ H)(hl:∀i σ H,i<=xs.length->Pv i σ H->SqL K H a xs)
  (hs:∀i x σ H,xs[i]?=some x->Pv i σ H->g x σ H λ σ2 H2=>tb { D with nx:=Pv (i+1),ct:=Pv (i+1),bk:=D.nx } σ2 H2) (hd:∀σ H,Pv xs.length σ H->D.nx σ H) :
  ∃W:Nat->Nat->St->Hp->Prop,(∃m,W 0 m σ H)/\∀i m σ H,W i m σ H ->
   ((Itl K a).stop i H/\D.nx σ H)\/((Itl K a).go i H/\∃N:St->Hp->Prop,(∀σ' H',N σ' H'->∃m',m'<m/\W (i+1) m' σ' H')/\∀x H',(Itl K a).yld i H x H'->g x σ H' λ σ2 H2=>tb { D with nx:=N,ct:=N,bk:=D.nx } σ2 H2):=by
 refine⟨λ i m σ H=>m=xs.length-i/\i<=xs.length/\Pv i σ H,⟨xs.length,by simp,Nat.zero_le _,h0⟩,?_⟩;rintro i m σ H ⟨rfl,hi,p⟩;have q:=hl i σ H hi p;by_cases hlt:i<xs.length
 .refine .inr ⟨⟨xs,xs[i],q,by simp[hlt]⟩,Pv (i+1),λ σ' H' p'=>⟨xs.length-(i+1),by lia,rfl,hlt,p'⟩,λ x H' y=>?_⟩;obtain⟨e,y⟩:=y;subst e;exact hs i x σ _ (y xs q) p
 .have e:i=xs.length:=by lia
  subst e;exact .inl ⟨⟨xs,q,Nat.le_refl _⟩,hd σ H p⟩
theorem MY{K:Frag}{a:Addr}{xs:LUz}{g:TG}{tb:TS}{D:Er}{σ:St}{H:Hp}(Pv:Nat->St->Hp->Prop)(h0:Pv 0 σ H)(hl:∀i σ H,i<=xs.length->Pv i σ H->SqT K H a xs)
  (hs:∀i x σ H,xs[i]?=some x->Pv i σ H->g x σ H λ σ2 H2=>tb { D with nx:=Pv (i+1),ct:=Pv (i+1),bk:=D.nx } σ2 H2) (hd:∀σ H,Pv xs.length σ H->D.nx σ H) :
  ∃W:Nat->Nat->St->Hp->Prop,(∃m,W 0 m σ H)/\∀i m σ H,W i m σ H ->
   ((Itt K a).stop i H/\D.nx σ H)\/((Itt K a).go i H/\∃N:St->Hp->Prop,(∀σ' H',N σ' H'->∃m',m'<m/\W (i+1) m' σ' H')/\∀x H',(Itt K a).yld i H x H'->g x σ H' λ σ2 H2=>tb { D with nx:=N,ct:=N,bk:=D.nx } σ2 H2):=by
 refine⟨λ i m σ H=>m=xs.length-i/\i<=xs.length/\Pv i σ H,⟨xs.length,by simp,Nat.zero_le _,h0⟩,?_⟩;rintro i m σ H ⟨rfl,hi,p⟩;have q:=hl i σ H hi p;by_cases hlt:i<xs.length
 .refine .inr ⟨⟨xs,xs[i],q,by simp[hlt]⟩,Pv (i+1),λ σ' H' p'=>⟨xs.length-(i+1),by lia,rfl,hlt,p'⟩,λ x H' y=>?_⟩;obtain⟨e,y⟩:=y;subst e;exact hs i x σ _ (y xs q) p
 .have e:i=xs.length:=by lia
  subst e;exact .inl ⟨⟨xs,q,Nat.le_refl _⟩,hd σ H p⟩
theorem Fe{lo:Int}{n:Nat}{g:TG}{tb:TS}{D:Er}{σ:St}{H:Hp}(Pv:Nat->St->Hp->Prop)(h0:Pv 0 σ H)
  (hs:∀i σ H,i<n->Pv i σ H->g (.int (lo+i)) σ H λ σ2 H2=>tb { D with nx:=Pv (i+1),ct:=Pv (i+1),bk:=D.nx } σ2 H2) (hd:∀σ H,Pv n σ H->D.nx σ H) :
  ∃W:Nat->Nat->St->Hp->Prop,(∃m,W 0 m σ H)/\∀i m σ H,W i m σ H ->
   ((Itr lo n).stop i H/\D.nx σ H)\/((Itr lo n).go i H/\∃N:St->Hp->Prop,(∀σ' H',N σ' H'->∃m',m'<m/\W (i+1) m' σ' H')/\∀x H',(Itr lo n).yld i H x H'->g x σ H' λ σ2 H2=>tb { D with nx:=N,ct:=N,bk:=D.nx } σ2 H2):=by
 refine⟨λ i m σ H=>m=n-i/\i<=n/\Pv i σ H,⟨n,by simp,Nat.zero_le _,h0⟩,?_⟩;rintro i m σ H ⟨rfl,hi,p⟩;by_cases hlt:i<n
 .refine .inr ⟨hlt,Pv (i+1),λ σ' H' p'=>⟨n-(i+1),by lia,rfl,hlt,p'⟩,λ x H' y=>?_⟩;obtain⟨e,y⟩:=y;subst e y;exact hs i σ _ hlt p
 .have e:i=n:=by lia
  subst e;exact .inl ⟨Nat.le_refl _,hd σ H p⟩
abbrev R2:=V->V->Hp->VK->Prop
def OpR(X:Cx)(f:Value->Value->Sem Value)(r:R2):Prop :=
 ∀(pins:PNz)(s:Shared)(σ:St)(H:Hp)(x y:V)(v u:Value)(Q:VK),Inv X pins σ H s->RelV x v->RelV y u->r x y H Q ->
  wpAny (model X.prog X.w) X.A (f v u) (EP X pins σ Q) X.xe s
def Dc(X:Cx)(f:Value)(r:LUz->Hp->VK->Prop):Prop :=
 ∀(pins:PNz)(s:Shared)(σ:St)(H:Hp)(xs:LUz)(us:LWz)(Q:VK),Inv X pins σ H s->Vals xs us->r xs H Q ->
  wpAny (model X.prog X.w) X.A (call f us) (EP X pins σ Q) X.xe s
def Tj(X:Cx)(r:V->Hp->(Bool->Hp->Prop)->Prop):Prop :=
 ∀(pins:PNz)(s:Shared)(σ:St)(H:Hp)(x:V)(v:Value)(Q:Bool->Hp->Prop),Inv X pins σ H s->RelV x v->r x H Q ->
  wpAny (model X.prog X.w) X.A (truthy v) (TP X pins σ Q) X.xe s
def tOp(r:R2)(ta tb:TE):TE:=λ σ H Q=>ta σ H λ x H1=>tb σ H1 λ y H2=>r x y H2 Q
inductive II1(C:Int->Int->Prop)(g:Int->Int->V)(x y:V)(H:Hp)(Q:VK):Prop
 |mk (i j:Int) (e1:x=.int i) (e2:y=.int j) (c:C i j) (q:Q (g i j) H):II1 C g x y H Q
inductive II0(g:Int->Int->V)(x y:V)(H:Hp)(Q:VK):Prop
 |mk (i j:Int) (e1:x=.int i) (e2:y=.int j) (q:Q (g i j) H):II0 g x y H Q
def rI(C:Int->Int->Prop)(g:Int->Int->V):R2:=λ x y H Q=>II1 C g x y H Q
def rI0(g:Int->Int->V):R2:=λ x y H Q=>II0 g x y H Q
section
variable{X:Cx}{a b c:Expr}{ta tb tc:TE}{pos:Pos}
theorem Rz(ha:PE X a ta)(hb:PE X b tb){pins:PNz}{s:Shared}{σ:St}{H:Hp}{R:V->V->Hp->Prop}(I:Inv X pins σ H s)
  (h:ta σ H λ x H1=>tb σ H1 λ y H2=>R x y H2) {Q:VPz} {f:Value->Value->Sem Value}
  (hf:∀v u s2 x y H2,Inv X pins σ H2 s2->RelV x v->RelV y u->R x y H2->wpAny (model X.prog X.w) X.A (f v u) Q X.xe s2) :
  wpAny (model X.prog X.w) X.A (eval a X.env) (λ v s₁=>wpAny (model X.prog X.w) X.A (eval b X.env) (λ u s₂=>wpAny (model X.prog X.w) X.A (f v u) Q X.xe s₂) X.xe s₁) X.xe s:=by
 refine thn (ha pins s σ H _ I h) λ v s1 hz_=>?_;obtain⟨x,H1,I1,r1,q1⟩:=hz_;refine thn (hb pins s1 σ H1 _ I1 q1) λ u s2 hz_=>?_;obtain⟨y,H2,I2,r2,q2⟩:=hz_;exact hf v u s2 x y H2 I2 r1 r2 q2
theorem A6{op:Operator}{r:R2}(ho:OpR X (binaryOp op) r)(ha:PE X a ta)(hb:PE X b tb):PE X (.BinOp a op b pos) (tOp r ta tb):=by
 intro pins s σ H Q I h;exact wpAny_BinOp (Rz ha hb I h λ v u s2 x y H2 I2 rx ry q=>ho pins s2 σ H2 x y v u Q I2 rx ry q)
theorem opI{f:Value->Value->Sem Value}{C:Int->Int->Prop}{g:Int->Int->Int}
  (rule:∀(i j:Int)(t u:Tok)(s:Shared)(Q:VPz)(E:VPz),C i j->Q (.int (g i j) s.toks) { s with toks:=s.toks+1 }->wpAny (model X.prog X.w) X.A (f (.int i t) (.int j u)) Q E s) :
  OpR X f (rI C λ i j=>.int (g i j)):=by
 intro pins s σ H x y v u Q I rx ry h;obtain⟨i,j,rfl,rfl,hc,q⟩:=h;obtain⟨t,rfl⟩:=rx;obtain⟨t',rfl⟩:=ry;exact rule i j t t' s _ _ hc ⟨.int (g i j),H,I.tok _,⟨_,rfl⟩,q⟩
theorem Se{f:Value->Value->Sem Value}{g:Int->Int->Int}
  (rule:∀(i j:Int)(t u:Tok)(s:Shared)(Q:VPz)(E:VPz),Q (.int (g i j) s.toks) { s with toks:=s.toks+1 }->wpAny (model X.prog X.w) X.A (f (.int i t) (.int j u)) Q E s) :
  OpR X f (rI0 λ i j=>.int (g i j)):=by
 intro pins s σ H x y v u Q I rx ry h;obtain⟨i,j,rfl,rfl,q⟩:=h;obtain⟨t,rfl⟩:=rx;obtain⟨t',rfl⟩:=ry;exact rule i j t t' s _ _ ⟨.int (g i j),H,I.tok _,⟨_,rfl⟩,q⟩
theorem PY{f:Value->Value->Sem Value}{g:Int->Int->Bool}
  (rule:∀(i j:Int)(t u:Tok)(s:Shared)(Q:VPz)(E:VPz),Q (.bool (g i j)) s->wpAny (model X.prog X.w) X.A (f (.int i t) (.int j u)) Q E s) :
  OpR X f (rI0 λ i j=>.bl (g i j)):=by
 intro pins s σ H x y v u Q I rx ry h;obtain⟨i,j,rfl,rfl,q⟩:=h;obtain⟨t,rfl⟩:=rx;obtain⟨t',rfl⟩:=ry;exact rule i j t t' s _ _ ⟨.bl (g i j),H,I,rfl,q⟩
def Tq(i j:Int):Prop:=0<=j/\j<=1000000/\i.natAbs<2^64
theorem Bp:OpR X (binaryOp .Add) (rI0 λ i j=>.int (i+j)):=Se λ_ _ _ _ _ _ _ q=>add_int q
theorem BX:OpR X (binaryOp .Sub) (rI0 λ i j=>.int (i-j)):=Se λ_ _ _ _ _ _ _ q=>sub_int q
theorem Ec:OpR X (binaryOp .Mod) (rI (λ_ j=>0<j) λ i j=>.int (i % j)):=opI λ i j _ _ _ _ _ hc q=>by
 have h1:(0:Int)<j:=hc;exact mod_int' (by lia) (by rw[Int.fmod_eq_emod_of_nonneg i (by lia)];exact q)
theorem Rh:OpR X (binaryOp .Pow) (rI Tq λ i j=>.int (i^j.toNat)):=opI λ_ _ _ _ _ _ _ hc q=>pow_int_small hc.1 hc.2.1 hc.2.2 q
end
def RP:V->V->Bool
 |.non,.non=>true|.non,.int _=>true|.int _,.non=>true|.non,.bl _=>true|.bl _,.non=>true|.non,.str _=>true|.str _,.non=>true
 |.int _,.int _=>true|.bl _,.bl _=>true|.str _,.str _=>true|.byt _,.byt _=>true
 |.int _,.str _=>true|.str _,.int _=>true|.bl _,.str _=>true|.str _,.bl _=>true
 |_,_=>false
def rEq:R2:=λ x y H Q=>RP x y=true/\Q (.bl (decide (x=y))) H
def rNe:R2:=λ x y H Q=>RP x y=true/\Q (.bl (!decide (x=y))) H
theorem Ng{i j:Int}:decide (V.int i=V.int j)=(i==j):=by
 rw[Bool.eq_iff_iff];simp
theorem Pk{i j:Bool}:decide (V.bl i=V.bl j)=(i==j):=by
 rw[Bool.eq_iff_iff];simp
theorem Nf{i j:Str}:decide (V.str i=V.str j)=(i==j):=by
 rw[Bool.eq_iff_iff];simp
theorem Nh{i j:Array UInt8}:decide (V.byt i=V.byt j)=(i.toList==j.toList):=by
 rw[Bool.eq_iff_iff];cases i;cases j;simp
section
variable{X:Cx}{a b c:Expr}{ta tb tc:TE}{pos:Pos}
theorem AA{pins:PNz}{σ:St}{H:Hp}{s:Shared}{Q:VK}{k k':Bool}(I:Inv X pins σ H s)(q:Q (.bl k) H)(e:k=k'):EP X pins σ Q (.bool k') s:=by
 subst e;exact⟨.bl k,H,I,rfl,q⟩
theorem CH:OpR X (compareOp .Eq) rEq:=by
 intro pins s σ H x y v u Q I rx ry h;obtain⟨hs,q⟩:=h;cases x with
 |non =>
  cases rx;cases y with
  |non=>cases ry;exact PySem.EqNone.eq_none_none (AA I q (by simp))
  |bl j=>cases ry;exact PySem.EqNone.eq_none_bool (AA I q (by simp))
  |int j=>obtain⟨t',rfl⟩:=ry;exact PySem.EqNone.eq_none_int (AA I q (by simp))
  |str j=>obtain⟨t',rfl⟩:=ry;exact PySem.EqNone.eq_none_str (AA I q (by simp))
  |_=>exact absurd (show false=true from hs) Bool.false_ne_true
 |bl i =>
  cases rx;cases y with
  |non=>cases ry;exact PySem.EqNone.eq_bool_none (AA I q (by simp))
  |bl j=>cases ry;exact eq_bool (AA I q Pk)
  |str j=>obtain⟨t',rfl⟩:=ry;exact PySem.EqMixed.eq_bool_str (AA I q (by simp))
  |_=>exact absurd (show false=true from hs) Bool.false_ne_true
 |int i =>
  obtain⟨t,rfl⟩:=rx;cases y with
  |non=>cases ry;exact PySem.EqNone.eq_int_none (AA I q (by simp))
  |int j=>obtain⟨t',rfl⟩:=ry;exact eq_int (AA I q Ng)
  |str j=>obtain⟨t',rfl⟩:=ry;exact PySem.EqMixed.eq_int_str (AA I q (by simp))
  |_=>exact absurd (show false=true from hs) Bool.false_ne_true
 |str i =>
  obtain⟨t,rfl⟩:=rx;cases y with
  |non=>cases ry;exact PySem.EqNone.eq_str_none (AA I q (by simp))
  |bl j=>cases ry;exact PySem.EqMixed.eq_str_bool (AA I q (by simp))
  |int j=>obtain⟨t',rfl⟩:=ry;exact PySem.EqMixed.eq_str_int (AA I q (by simp))
  |str j=>obtain⟨t',rfl⟩:=ry;exact eq_str (AA I q Nf)
  |_=>exact absurd (show false=true from hs) Bool.false_ne_true
 |byt i =>
  obtain⟨t,rfl⟩:=rx;cases y with
  |byt j=>obtain⟨t',rfl⟩:=ry;exact eq_bytes (AA I q Nh)
  |_=>exact absurd (show false=true from hs) Bool.false_ne_true
 |_=>cases y<;>exact absurd (show false=true from hs) Bool.false_ne_true
theorem Q5:OpR X (compareOp .NotEq) rNe:=by
 intro pins s σ H x y v u Q I rx ry h;obtain⟨hs,q⟩:=h;cases x with
 |non =>
  cases rx;cases y with
  |non=>cases ry;exact PySem.EqNone.ne_none_none (AA I q (by simp))
  |bl j=>cases ry;exact PySem.EqNone.ne_none_bool (AA I q (by simp))
  |int j=>obtain⟨t',rfl⟩:=ry;exact PySem.EqNone.ne_none_int (AA I q (by simp))
  |str j=>obtain⟨t',rfl⟩:=ry;exact PySem.EqNone.ne_none_str (AA I q (by simp))
  |_=>exact absurd (show false=true from hs) Bool.false_ne_true
 |bl i =>
  cases rx;cases y with
  |non=>cases ry;exact PySem.EqNone.ne_bool_none (AA I q (by simp))
  |bl j=>cases ry;exact ne_bool (AA I q (congrArg not Pk))
  |str j=>obtain⟨t',rfl⟩:=ry;exact PySem.EqMixed.ne_bool_str (AA I q (by simp))
  |_=>exact absurd (show false=true from hs) Bool.false_ne_true
 |int i =>
  obtain⟨t,rfl⟩:=rx;cases y with
  |non=>cases ry;exact PySem.EqNone.ne_int_none (AA I q (by simp))
  |int j=>obtain⟨t',rfl⟩:=ry;exact ne_int (AA I q (congrArg not Ng))
  |str j=>obtain⟨t',rfl⟩:=ry;exact PySem.EqMixed.ne_int_str (AA I q (by simp))
  |_=>exact absurd (show false=true from hs) Bool.false_ne_true
 |str i =>
  obtain⟨t,rfl⟩:=rx;cases y with
  |non=>cases ry;exact PySem.EqNone.ne_str_none (AA I q (by simp))
  |bl j=>cases ry;exact PySem.EqMixed.ne_str_bool (AA I q (by simp))
  |int j=>obtain⟨t',rfl⟩:=ry;exact PySem.EqMixed.ne_str_int (AA I q (by simp))
  |str j=>obtain⟨t',rfl⟩:=ry;exact ne_str (AA I q (congrArg not Nf))
  |_=>exact absurd (show false=true from hs) Bool.false_ne_true
 |byt i =>
  obtain⟨t,rfl⟩:=rx;cases y with
  |byt j=>obtain⟨t',rfl⟩:=ry;exact ne_bytes (AA I q (congrArg not Nh))
  |_=>exact absurd (show false=true from hs) Bool.false_ne_true
 |_=>cases y<;>exact absurd (show false=true from hs) Bool.false_ne_true
theorem Ia:OpR X (compareOp .Lt) (rI0 λ i j=>.bl (decide (i<j))):=PY λ_ _ _ _ _ _ _ q=>lt_int q
theorem CG:OpR X (compareOp .LtE) (rI0 λ i j=>.bl (decide (i<=j))):=PY λ_ _ _ _ _ _ _ q=>le_int q
theorem Sc:OpR X (compareOp .Gt) (rI0 λ i j=>.bl (decide (j<i))):=PY λ_ _ _ _ _ _ _ q=>gt_int q
theorem Sd:OpR X (compareOp .GtE) (rI0 λ i j=>.bl (decide (j<=i))):=PY λ_ _ _ _ _ _ _ q=>ge_int q
theorem EZ:OpR X (compareOp .Is) (λ x y H Q=>y=.non/\Q (.bl (decide (x=.non))) H):=by
 intro pins s σ H x y v u Q I rx ry h;obtain⟨rfl,q⟩:=h;cases ry;refine is_none_gen (AA I q ?_);cases x<;>first
  | (cases rx;rfl)
  | (obtain⟨t,rfl⟩:=rx;rfl)
theorem FH:OpR X (compareOp .IsNot) (λ x y H Q=>y=.non/\Q (.bl (!decide (x=.non))) H):=by
 intro pins s σ H x y v u Q I rx ry h;obtain⟨rfl,q⟩:=h;cases ry;refine isnot_none_gen (AA I q ?_);cases x<;>first
  | (cases rx;rfl)
  | (obtain⟨t,rfl⟩:=rx;rfl)
theorem Az(b:Expr){op:CmpOp}(h:op≠.In:=by decide)(h2:op≠.NotIn:=by decide):behindInMarks op b=false:=by
 have e1:(op==CmpOp.In)=false:=by cases op<;>first|rfl|exact absurd rfl h
 have e2:(op==CmpOp.NotIn)=false:=by cases op<;>first|rfl|exact absurd rfl h2
 cases b<;>simp[behindInMarks,e1,e2]
theorem Cr{op:CmpOp}{r:R2}(ho:OpR X (compareOp op) r)(ha:PE X a ta)(hb:PE X b tb)(hm:behindInMarks op b=false):PE X (.Compare a [op] [b] pos) (tOp r ta tb):=by
 intro pins s σ H Q I h;exact wpAny_Compare1 (Rz ha hb I h λ v u s2 x y H2 I2 rx ry q=>ho pins s2 σ H2 x y v u Q I2 rx ry q) hm
def Qy(t:TE):TT:=λ σ H Q=>t σ H λ x H'=>IBl x λ k=>Q k H'
theorem Ax{op:CmpOp}{r:R2}(ho:OpR X (compareOp op) r)(ha:PE X a ta)(hb:PE X b tb)(hm:behindInMarks op b=false):PT X (.Compare a [op] [b] pos) (Qy (tOp r ta tb)):=by
 intro pins s σ H Q I h;refine wpAny_isTrue_Compare1 (thn (ha pins s σ H _ I h) λ v s1 ⟨x,H1,I1,r1,q1⟩=>thn (hb pins s1 σ H1 _ I1 q1) λ u s2 ⟨y,H2,I2,r2,q2⟩ =>
  thn (ho pins s2 σ H2 x y v u _ I2 r1 r2 q2) λ c s3 ⟨z,H3,I3,r3,k,e,q3⟩=>?_) hm
 subst e;cases r3;exact wpAny_truthy_bool ⟨H3,I3,q3⟩
def Ox(r r':R2)(ta tb tc:TE):TE:=λ σ H Q=>ta σ H λ x H1=>tb σ H1 λ y H2=>r x y H2 λ z H3=>IBl z λ k =>
 (if k=true then tc σ H3 λ w' H4=>r' y w' H4 Q else Q (.bl false) H3)
theorem Gs{op op':CmpOp}{r r':R2}(ho:OpR X (compareOp op) r)(ho':OpR X (compareOp op') r')(ha:PE X a ta)(hb:PE X b tb)(hc:PE X c tc)
  (hm:lastMarks [op,op'] [b,c]=false:=by with_unfolding_all rfl):PE X (.Compare a [op,op'] [b,c] pos) (Ox r r' ta tb tc):=by
 intro pins s σ H Q I h;refine Compare_chain (thn (ha pins s σ H _ I h) λ v s1 ⟨x,H1,I1,r1,q1⟩=>chain_link (thn (hb pins s1 σ H1 _ I1 q1) λ u s2 ⟨y,H2,I2,r2,q2⟩ =>
  thn (ho pins s2 σ H2 x y v u _ I2 r1 r2 q2) λ d s3 ⟨z,H3,I3,r3,k,e,q3⟩=>?_)) hm
 subst e;cases r3;refine wpAny_truthy_bool ?_;cases k with
 |false=>exact ite_ff ⟨.bl false,H3,I3,rfl,q3⟩
 |true=>exact ite_tt (chain_last (thn (hc pins s3 σ H3 _ I3 q3) λ w' s4 ⟨z',H4,I4,r4,q4⟩=>ho' pins s4 σ H4 y z' u w' Q I4 r2 r4 q4))
theorem Ki{op op':CmpOp}{r r':R2}(ho:OpR X (compareOp op) r)(ho':OpR X (compareOp op') r')(ha:PE X a ta)(hb:PE X b tb)(hc:PE X c tc)
  (hm:lastMarks [op,op'] [b,c]=false:=by with_unfolding_all rfl):PT X (.Compare a [op,op'] [b,c] pos) (Qy (Ox r r' ta tb tc)):=by
 intro pins s σ H Q I h;refine isTrue_chain (thn (ha pins s σ H _ I h) λ v s1 ⟨x,H1,I1,r1,q1⟩=>test_link (thn (hb pins s1 σ H1 _ I1 q1) λ u s2 ⟨y,H2,I2,r2,q2⟩ =>
  thn (ho pins s2 σ H2 x y v u _ I2 r1 r2 q2) λ d s3 ⟨z,H3,I3,r3,k,e,q3⟩=>?_)) hm
 subst e;cases r3;refine wpAny_truthy_bool ?_;cases k with
 |false =>
  obtain⟨k',e',q'⟩:=q3;cases e';exact ite_ff ⟨H3,I3,q'⟩
 |true =>
  refine ite_tt (test_last (thn (hc pins s3 σ H3 _ I3 q3) λ w' s4 ⟨z',H4,I4,r4,q4⟩=>thn (ho' pins s4 σ H4 y z' u w' _ I4 r2 r4 q4) λ d' s5 ⟨z2,H5,I5,r5,k2,e2,q5⟩=>?_));subst e2;cases r5;exact wpAny_truthy_bool ⟨H5,I5,q5⟩
def S1(K:Frag)(x:V)(H:Hp)(k:Bool):Prop :=
 match x with
 |.non=>k=false
 |.bl b=>k=b
 |.int i=>k=(i != 0)
 |.str y=>y.length<=sizeLine/\k=((y.length:Int) != 0)
 |.byt y=>y.size<=sizeLine/\k=((y.size:Int) != 0)
 |.ref p=>(∃xs,SqL K H p xs/\k=!xs.isEmpty)\/(∃xs,SqT K H p xs/\k=!xs.isEmpty)\/∃kvs,H p=some (.dK kvs)/\k=!kvs.isEmpty
 |_=>False
theorem Mc{κ:Type}{kvs:List (κ×V)}{vs:List (κ×Value)}(r:KV kvs vs):(!vs.isEmpty)=!kvs.isEmpty:=by
 cases r<;>rfl
theorem G8{xs:LUz}{its:LWz}(r:Vals xs its):(!its.toArray.isEmpty)=!xs.isEmpty:=by
 cases r<;>simp
theorem Js:(sizeLine:Nat)<2^63:=by rw[sizeLine_eq];decide
theorem QM:Tj X (λ x H Q=>∃k,S1 X.K x H k/\Q k H):=by
 intro pins s σ H x v Q I rx h;obtain⟨k,e,q⟩:=h;have hl:=Js;have hs:sizeLine=16777216:=sizeLine_eq;cases x with
 |non =>
  cases rx;have e':k=false:=e;subst e';exact truthy_none ⟨H,I,q⟩
 |bl b =>
  cases rx;have e':k=b:=e;subst e';exact wpAny_truthy_bool ⟨H,I,q⟩
 |int i =>
  obtain⟨t,rfl⟩:=rx;have e':k=(i != 0):=e;subst e';exact PySem.P.truthy_int ⟨H,I,q⟩
 |str y =>
  obtain⟨t,rfl⟩:=rx;obtain⟨hy,e'⟩:y.length<=sizeLine/\k=((y.length:Int) != 0):=e;subst e';exact PySem.P.truthy_str (by lia) ⟨H,I.tok _,q⟩
 |byt y =>
  obtain⟨t,rfl⟩:=rx;obtain⟨hy,e'⟩:y.size<=sizeLine/\k=((y.size:Int) != 0):=e;subst e';exact truthy_bytes (by lia) ⟨H,I.tok _,q⟩
 |ref p =>
  cases rx;have e':(∃xs,SqL X.K H p xs/\k=!xs.isEmpty)\/(∃xs,SqT X.K H p xs/\k=!xs.isEmpty)\/∃kvs,H p=some (.dK kvs)/\k=!kvs.isEmpty:=e;rcases e' with ⟨xs,hx,e'⟩|⟨xs,hx,e'⟩|⟨kvs,hx,e'⟩
  .subst e';obtain⟨its,r,pl,hz⟩:=I.list hx;have hlen:=r.length;exact wpAny_truthy_list pl.isList (by simp only[List.size_toArray];lia) ⟨H,I.tok _,by rw[G8 r];exact q⟩
  .subst e';obtain⟨its,r,pl,hz⟩:=I.tuple hx;have hlen:=r.length;exact truthy_tuple pl (by simp only[List.size_toArray];lia) ⟨H,I.tok _,by rw[G8 r];exact q⟩
  .subst e';obtain⟨hz,hS,vs,r,m⟩:kvs.length<=sizeLine/\(p==sysModules)=false/\∃vs,KV kvs vs/\s.heap.DictOf (AS X.prog X.w) p vs:=I.hok p _ hx;have hlen:kvs.length=vs.length:=Paired.length r;exact wpAny_truthy_dict hS m (by lia) ⟨H,I.tok _,by rw[Mc r];exact q⟩
 |_=>exact(show False from e).elim
theorem Dt(ha:PE X a ta)(he:∀whole,isTrue a X.env whole=(do let v <-whole;standAt a.pos;holding [v] (truthy v))) :
    PT X a (λ σ H Q=>ta σ H λ x H'=>∃k,S1 X.K x H' k/\Q k H'):=by
  intro pins s σ H Q I h;exact isTrue_plain (thn (ha pins s σ H _ I h) λ v s1 ⟨x,H1,I1,r1,q1⟩=>QM pins s1 σ H1 x v Q I1 r1 q1) (he _)
theorem Ev{x:V}{us:LWz}(r:Vals [x] us):∃u,us=[u]/\RelV x u:=by
 cases r with
 |cons r1 r2=>cases r2;exact⟨_,rfl,r1⟩
theorem Qx{x y:V}{us:LWz}(r:Vals [x,y] us):∃u w',us=[u,w']/\RelV x u/\RelV y w':=by
 cases r with
 |cons r1 r2 =>
  cases r2 with
  |cons r3 r4=>cases r4;exact⟨_,_,rfl,r1,r3⟩
theorem Pq:Dc X (.builtin "abs") (λ xs H Q=>∃i,xs=[.int i]/\Q (.int (if i<0 then -i else i)) H):=by
 intro pins s σ H xs us Q I r h;obtain⟨i,rfl,q⟩:=h;obtain⟨u,rfl,t,rfl⟩:=Ev r;exact call_abs_int λ u tk=>⟨.int (if i<0 then -i else i),H,I.tok _,⟨_,rfl⟩,q⟩
end
structure ObjM(h:Heap)(x dx C:Addr)(mA:MGz):Prop where
 obj:h.get? x=some (instObj C dx)
 ns:h.Ns1 dx mA
 ne:dx≠x
theorem NG{h:Heap}{dx:Addr}{mA:MGz}(n:h.Ns1 dx mA):∃od,h.get? dx=some od/\∀name,lookIn name od=some (mA name):=by
 obtain⟨o,es,ep,ho,hd,hk,_,hm⟩:=n;refine⟨o,ho,λ name=>?_⟩;have e:=hm name;unfold nsFind findBy at e;rw[<-Array.find?_toList]at e;unfold lookIn;rw[hd];dsimp only;split
 .rename_i y q;rw[q]at e;exact congrArg some e
 .rename_i q;rw[q]at e;have a:es.toList.any (·.refKey)=false:=by
   rw[List.any_eq_false];intro y hy;obtain⟨z,t,hkey⟩:=hk y (Array.mem_toList_iff.mp hy);simp[DictEntry.refKey,hkey]
  have a':¬es.toList.any (·.refKey)=true:=by rw[a];exact Bool.false_ne_true
  rw[if_neg a'];exact congrArg some e
theorem ObjM.look{h:Heap}{x dx C:Addr}{mA:MGz}(I:ObjM h x dx C mA):∃od,InstAt h x (instObj C dx) C (some od)/\∀name,lookIn name od=some (mA name) :=
 let ⟨od,ho,hl⟩:=NG I.ns
 ⟨od,⟨I.obj,rfl,rfl,ho⟩,hl⟩
section
variable{prog:Program}{w:World}{A:Around}{E:VPz}{s:Shared}{K:Frag}{x dx C f:Addr}{mA:MGz}{name:Str}{v:Value}
theorem Qh{expr:Bool}{Q:VPz}(X:K.In s.heap)(I:ObjM s.heap x dx C mA)(hg:plainGet K C name=true)(hh:hasDictIn K C=true)
  (ha:findIn K (.ref C) name=some none) (hv:mA name=some v) (hv':handedIn v=true) (h:Q v { s with toks:=s.toks+1 }) :
  wpAny (model prog w) A (getAttr (.ref x) name expr) Q E s:=by
 obtain⟨od,J,hl⟩:=I.look;exact get_value X J (plainGet_of hg).1 (findObj_own hh ha rfl (by rw[hl,hv])) hv' h
theorem OW{pl:Sem Bool}{Q:Value×LWz->Shared->Prop}(X:K.In s.heap)(I:ObjM s.heap x dx C mA)(hg:plainGet K C name=true)
  (hf:findIn K (.ref C) name=some (some (.ref f))) (ht:isFn K (.ref f)=true) (hv:mA name=none) (h:Q (.ref f,[.ref x]) s) :
  wpAny (model prog w) A (getMethod (.ref x) name pl) Q E s:=by
 obtain⟨od,J,hl⟩:=I.look;exact method_fn X J (plainGet_of hg).1 (plainGet_of hg).2 hf (beq_iff_eq.mp ht) (by show(lookIn name od).map (·.isSome)=some false;rw[hl,hv];rfl) h
theorem PB{ns:LSz}{Q:Unit->Shared->Prop}(X:K.In s.heap)(I:ObjM s.heap x dx C mA)
  (hs:findIn K (.ref C) "__setattr__"=some (some (.builtin "object.__setattr__"))) (hp:plainOver K C=true) (ht:takerIn K C name=some none) (hh:hasDictIn K C=true)
  (hw:PySem.Within mA ns) (hsz:ns.length<=sizeLine)
  (h:∀h',ObjM h' x dx C (λ y=>if y=name then some v else mA y)->Heap.SameBut dx s.heap h'->Q () { s with heap:=h',toks:=s.toks+2 }) :
  wpAny (model prog w) A (setAttr (.ref x) name v) Q E s:=by
 obtain⟨od,J,hl⟩:=I.look;refine set_plain X J hs (osa_open (s:={ s with toks:=s.toks+1 }) (r:=none) X J hp ht λ b=>?_);obtain⟨cd,hc,hd'⟩:=any_some hh;have hx:s.heap.get? x=some ⟨.ref C,some dx,.plain,#[]⟩:=I.obj;refine wpAny_bind (wpAny_pure (wpAny_bind (wpAny_bind (wpAny_loadPart hx (wpAny_bind (Looks.here (s:={ s with toks:=s.toks+1 }) (looks_clsIn X hc) ?_))))));rw[hd'];refine wpAny_pure (a:=some dx) (wpAny_bind (wpAny_pure (wpAny_bind ?_)));refine wpAny_nsSet1 (s:={ s with toks:=s.toks+1 }) I.ns λ h' hn2 hs2=>?_;obtain⟨oD,esD,epD,hoD,hdD,hcD⟩:=hn2.count (PySem.Within.cons name v hw);refine wpAny_bind (wpAny_lookBehind hoD (by rw[hdD];exact pastItsLine_dict (Nat.le_trans hcD (by rw[List.length_cons];lia))) ?_);exact wpAny_pure (h _ ⟨(hs2.2 _ (Ne.symm I.ne)).trans I.obj,hn2,I.ne⟩ hs2)
theorem OL{R:Result->Shared->Prop}{vs:LWz}{kw:List (Str×Value)}(X:K.In s.heap)(hm:makesIn K C=true)
  (hi:findIn K (.ref C) "__init__"=some (some (.ref f))) (hf:typeIn K (.ref f)=some (.type "function"))
  (h:codeAny (model prog w) (A.under (.builtin "type.__call__" ⟨.ref C::vs,kw⟩)) (.call (.ref f) ⟨.ref (s.heap.objs.size+1)::vs,kw⟩) (InitBack (s.heap.objs.size+1) R)
   { s with heap:=(s.heap.push emptyDict).push (instObj C s.heap.objs.size) }) :
  codeAny (model prog w) A (.call (.ref C) ⟨vs,kw⟩) R s:=by
 obtain⟨hh,g,d,t,os⟩:=s;exact make_core (makes_of X hm) (looks_findIn X hi) (λ self=>bind_fn X self hf) (.inl rfl) h
end
def Bn(f:Str)(v:V):LFz->LFz
 |[]=>[(f,v)]
 | (g,x)::r=>if g=f then (g,v)::r else (g,x)::Bn f v r
theorem A7(f g:Str)(v:V):∀fs:LFz,(Bn f v fs).lookup g=if g=f then some v else fs.lookup g
 |[]=>by
  show List.lookup g [(f,v)]=_;by_cases h:g=f
  .have hb:(g==f)=true:=beq_iff_eq.mpr h;simp only[List.lookup,hb,if_pos h]
  .have hb:(g==f)=false:=beq_eq_false_iff_ne.mpr h;simp only[List.lookup,hb,if_neg h]
 | (k,x)::r=>by
  have ih:=A7 f g v r;rw[show Bn f v ((k,x)::r)=(if k=f then (k,v)::r else (k,x)::Bn f v r) from rfl];by_cases hk:k=f
  .rw[if_pos hk];by_cases h:g=k
   .have hb:(g==k)=true:=beq_iff_eq.mpr h;simp only[List.lookup,hb,if_pos (h.trans hk)]
   .have hb:(g==k)=false:=beq_eq_false_iff_ne.mpr h;simp only[List.lookup,hb,if_neg (λ e:g=f=>h (e.trans hk.symm))]
  .rw[if_neg hk];by_cases h:g=k
   .have hb:(g==k)=true:=beq_iff_eq.mpr h;simp only[List.lookup,hb,if_neg (λ e:g=f=>hk (h.symm.trans e))]
   .have hb:(g==k)=false:=beq_eq_false_iff_ne.mpr h;simp only[List.lookup,hb];exact ih
theorem CI(f:Str)(v:V):∀fs:LFz,f∈(Bn f v fs).map (·.1)/\∀g,g∈fs.map (·.1)->g∈(Bn f v fs).map (·.1)
 |[]=>⟨by simp[Bn],λ g h=>by simp at h⟩
 | (k,x)::r=>by
  obtain⟨i1,i2⟩:=CI f v r;rw[show Bn f v ((k,x)::r)=(if k=f then (k,v)::r else (k,x)::Bn f v r) from rfl];by_cases hk:k=f
  .rw[if_pos hk];subst hk;exact⟨by simp,λ g h=>by simpa using h⟩
  .rw[if_neg hk];refine⟨?_,λ g h=>?_⟩
   .rw[List.map_cons];exact List.mem_cons_of_mem _ i1
   .rw[List.map_cons]at h |-;rcases List.mem_cons.mp h with e|e
    .exact List.mem_cons.mpr (.inl e)
    .exact List.mem_cons_of_mem _ (i2 g e)
theorem Fs(f:Str)(v:V):∀fs:LFz,(Bn f v fs).length<=fs.length+1
 |[]=>by simp[Bn]
 | (k,x)::r=>by
  have ih:=Fs f v r;rw[show Bn f v ((k,x)::r)=(if k=f then (k,v)::r else (k,x)::Bn f v r) from rfl];by_cases hk:k=f
  .rw[if_pos hk,List.length_cons,List.length_cons];lia
  .rw[if_neg hk,List.length_cons,List.length_cons];lia
theorem RelO.some_of{v:V}{o:Option Value}(r:RelO (some v) o):∃u,o=some u/\RelV v u:=by
 cases o with
 |none=>exact(show False from r).elim
 |some u=>exact⟨u,rfl,r⟩
theorem RelO.none_of{o:Option Value}(r:RelO none o):o=none:=by
 cases o with
 |none=>rfl
 |some u=>exact(show False from r).elim
theorem NS{v:V}{u:Value}(r:RelV v u):handedIn u=true:=by
 cases v with
 |non=>cases(show u=Value.none from r);rfl
 |bl b=>cases(show u=Value.bool b from r);rfl
 |int i=>obtain⟨t,e⟩:=(show ∃t,u=Value.int i t from r);cases e;rfl
 |str x=>obtain⟨t,e⟩:=(show ∃t,u=Value.str x t from r);cases e;rfl
 |byt b=>obtain⟨t,e⟩:=(show ∃t,u=Value.bytes b t from r);cases e;rfl
 |flt b=>obtain⟨t,e⟩:=(show ∃t,u=Value.float b t from r);cases e;rfl
 |ref a=>cases(show u=Value.ref a from r);rfl
 |ty n=>cases(show u=Value.type n from r);rfl
section
variable{P:Program}{w:World}{H H':Hp}{h h':Heap}{a C dx:Addr}{fs fs':LFz}
theorem FK(hok:HOk P w H h)(e:H a=some (.ins C dx fs)):∃mA,ObjM h a dx C mA/\(∀f,RelO (fs.lookup f) (mA f))/\PySem.Within mA (fs.map (·.1))/\fs.length<=1000/\H dx=some (.own a):=by
 obtain⟨d,z,ne,ob,mA,n,r,q⟩:=(show ObjOk P w H h a (.ins C dx fs) from hok a _ e);exact⟨mA,⟨ob,n,ne⟩,r,q,z,d⟩
end
structure Cls(K:Frag)(C:Addr):Prop where
 pg:plainGet K C Str.empty=true
 hd:hasDictIn K C=true
 po:plainOver K C=true
 sa:findIn K (.ref C) "__setattr__"=some (some (.builtin "object.__setattr__"))
theorem Cls.get{K:Frag}{C:Addr}(c:Cls K C)(f:Str):plainGet K C f=true:=c.pg
def NoAttr(K:Frag)(C:Addr)(f:Str):Prop:=findIn K (.ref C) f=some none
theorem NoAttr.taker{K:Frag}{C:Addr}{f:Str}(n:NoAttr K C f):takerIn K C f=some none:=by
 unfold takerIn;rw[show findIn K (.ref C) f=some none from n];rfl
structure Pu(K:Frag)(C:Addr)(m:Str)(f:Addr):Prop where
 at_:findIn K (.ref C) m=some (some (.ref f))
 fn:isFn K (.ref f)=true
 kp:keepIn K (.ref f)=true
section
variable{X:Cx}{pins:PNz}{σ:St}{H:Hp}{s:Shared}{a C dx:Addr}{fs:LFz}{f:Str}{v:V}{A:Around}{E:VPz}
theorem Me{b:Bool}{Q:VPz}(I:Inv X pins σ H s)(e:H a=some (.ins C dx fs))(c:Cls X.K C)(n:NoAttr X.K C f)(l:fs.lookup f=some v)
  (h:∀u s',Inv X pins σ H s'->RelV v u->Q u s'):wpAny (model X.prog X.w) A (getAttr (.ref a) f b) Q E s:=by
 obtain⟨mA,O,r,_,_,_⟩:=FK I.hok e;obtain⟨u,hu,ru⟩:=RelO.some_of (v:=v) (o:=mA f) (by rw[<-l];exact r f);exact Qh I.kIn O (c.get f) c.hd n hu (NS ru) (h u _ (I.tok _) ru)
theorem Eh{m:Str}{g:Addr}{pl:Sem Bool}{Q:Value×LWz->Shared->Prop}(I:Inv X pins σ H s)(e:H a=some (.ins C dx fs))(c:Cls X.K C)(k:Pu X.K C m g)(l:fs.lookup m=none)
  (h:Q (.ref g,[.ref a]) s):wpAny (model X.prog X.w) A (getMethod (.ref a) m pl) Q E s:=by
 obtain⟨mA,O,r,_,_,_⟩:=FK I.hok e;have hn:mA m=none:=RelO.none_of (by rw[<-l];exact r m);exact OW I.kIn O (c.get m) k.at_ k.fn hn h
theorem L5{y:V}{u:Value}{Q:Unit->Shared->Prop}(I:Inv X pins σ H s)(e:H a=some (.ins C dx fs))(c:Cls X.K C)(n:NoAttr X.K C f)(hl:fs.length<1000)(ry:RelV y u)
  (h:∀s',Inv X pins σ (upd H a (.ins C dx (Bn f y fs))) s'->Q () s'):wpAny (model X.prog X.w) A (setAttr (.ref a) f u) Q E s:=by
 obtain⟨mA,O,r,wi,_,ho⟩:=FK I.hok e;have hz:(fs.map (·.1)).length<=sizeLine:=by rw[List.length_map,sizeLine_eq];lia
 refine PB I.kIn O c.sa c.po n.taker c.hd wi hz λ h' O' sb=>h _ ?_;have hd:∃o,h'.get? dx=some o:=let ⟨o,_,_,e',_⟩:=O'.ns;⟨o,e'⟩;refine I.write (x:=a) (e:=dx) (by rw[e];exact True.intro) (.inr ho) (λ b q hb z=>(sb.2 b hb).trans z) hd ?_;refine⟨by rw[Ae O.ne];exact ho,?_,O.ne,O'.obj,_,O'.ns,λ g=>?_,λ g hg=>?_⟩
 .have:=Fs f y fs;lia
 .show RelO ((Bn f y fs).lookup g) (if g=f then some u else mA g);rw[A7];by_cases q:g=f
  .rw[if_pos q,if_pos q];exact ry
  .rw[if_neg q,if_neg q];exact r g
 .by_cases q:g=f
  .rw[q];exact(CI f y fs).1
  .refine(CI f y fs).2 g (wi g λ z=>hg ?_);show(if g=f then some u else mA g)=none;rw[if_neg q];exact z
theorem Inv.made(I:Inv X pins σ H s):Inv X pins σ (upd (upd H s.heap.objs.size (.own (s.heap.objs.size+1))) (s.heap.objs.size+1) (.ins C s.heap.objs.size []))
  { s with heap:=(s.heap.push emptyDict).push (instObj C s.heap.objs.size) }:=by
 have e1:(s.heap.push emptyDict).get? s.heap.objs.size=some emptyDict:=Heap.get?_push_size s.heap rfl;have e2:((s.heap.push emptyDict).push (instObj C s.heap.objs.size)).get? (s.heap.objs.size+1)=some (instObj C s.heap.objs.size):=by
  have:=Heap.get?_push_size (s.heap.push emptyDict) (o:=instObj C s.heap.objs.size) rfl;rwa [Heap.size_push]at this
 have e3:(s.heap.push emptyDict).Ns s.heap.objs.size (λ_=>none):=⟨emptyDict,#[],_,e1,rfl,(λ e he=>absurd he (by simp)),λ_=>rfl⟩;have I1:=I.laid (a:=s.heap.objs.size) (o:=.own (s.heap.objs.size+1)) (h':=s.heap.push emptyDict) (t':=s.toks) (λ b u q=>Heap.get?_push_of_some _ q) (Nat.le_refl _) ⟨_,e1⟩;refine I1.laid (a:=s.heap.objs.size+1) (o:=.ins C s.heap.objs.size []) (t':=s.toks) (λ b u q=>Heap.get?_push_of_some _ q) (Nat.le_of_eq (Heap.size_push _ _)) ?_;have ne:s.heap.objs.size≠s.heap.objs.size+1:=Nat.ne_of_lt (Nat.lt_succ_self _);refine⟨by rw[Ae ne,upd_same],Nat.zero_le _,ne,e2,λ_=>none,(Heap.Ns1.of_empty e3).at λ o q=>Heap.get?_push_of_some _ q,λ_=>True.intro,λ y hy=>absurd rfl hy⟩
theorem Qs{prog:Program}{w:World}{env:Env}{e:Expr}{f:Str}{pos:Pos}{s:Shared}{Q:VPz}(hb:attributeBase e f env (eval e env)=eval e env)
  (h:wpAny (model prog w) A (eval e env) (λ o s₁=>wpAny (model prog w) A (getAttr o f true) Q E s₁) E s):wpAny (model prog w) A (eval (.Attribute e f pos) env) Q E s :=
 Attribute_any_ h (by rw[arm_eval_Attribute,hb])
end
inductive SB(K:Frag)(f:Str)(x:V)(H:Hp)(Q:VK):Prop
 |mk (a C dx:Addr) (fs:LFz) (v:V) (e:x=.ref a) (h:H a=some (.ins C dx fs)) (c:Cls K C) (n:NoAttr K C f) (l:fs.lookup f=some v) (q:Q v H):SB K f x H Q
def RK(K:Frag)(ta:TE)(f:Str):TE:=λ σ H Q=>ta σ H λ x H1=>SB K f x H1 Q
def SS(K:Frag)(ta tv:TE)(f:Str):TS:=λ D σ H=>tv σ H λ y H1=>ta σ H1 λ x H2=>∃a C dx fs,x=.ref a/\H2 a=some (.ins C dx fs)/\Cls K C/\NoAttr K C f/\fs.length<1000 /\
 D.nx σ (upd H2 a (.ins C dx (Bn f y fs)))
section
variable{X:Cx}{o e value:Expr}{f:Str}{pos pos' tpos:Pos}{ta tv:TE}
theorem Bo(he:PE X e ta)(hb:attributeBase e f X.env (eval e X.env)=eval e X.env):PE X (.Attribute e f pos) (RK X.K ta f):=by
 intro pins s σ H Q I h;refine Qs hb (thn (he pins s σ H _ I h) λ u s1 hz_=>?_);obtain⟨x,H1,I1,rx,a,C,dx,fs,v,ex,ea,c,n,l,q⟩:=hz_;subst ex;obtain rfl:u=Value.ref a:=rx;exact Me I1 ea c n l λ u' s2 I2 ru=>⟨v,H1,I2,ru,q⟩
theorem CV(ha:PE X o ta)(hv:PE X value tv)(hs:swapsWith value (some (.Attribute o f pos')) pos.line X.env=pure false):PS X (.Assign [.Attribute o f pos'] value pos) (SS X.K ta tv f):=by
 intro pins s σ H D I h;refine plainObj_wpAny_Assign_Attribute (thn (hv pins s σ H _ I h) λ u s1 hz_=>?_) hs;obtain⟨y,H1,I1,ry,q⟩:=hz_;refine thn (ha pins s1 σ H1 _ I1 q) λ ov s2 hz_=>?_;obtain⟨x,H2,I2,rx,a,C,dx,fs,ex,ea,c,n,l,q2⟩:=hz_;subst ex;obtain rfl:ov=Value.ref a:=rx;exact L5 I2 ea c n l ry λ s3 I3=>⟨σ,_,I3,q2⟩
end
section
variable{X:Cx}{pins:PNz}{σ:St}{H:Hp}{s:Shared}{A:Around}{E:VPz}{Q:VPz}{c:Value}{b:Bool}
inductive Fk(K:Frag)(H:Hp):V->Value->Prop where
 |non:Fk K H .non (.type "NoneType")
 |bl (x:Bool):Fk K H (.bl x) (.type "bool")
 |int (i:Int):Fk K H (.int i) (.type "int")
 |str (x:Str):Fk K H (.str x) (.type "str")
 |flt (x:UInt64):Fk K H (.flt x) (.type "float")
 |lst {a:Addr} {xs:LUz} (e:H a=some (.lst xs)):Fk K H (.ref a) (.type "list")
 |frz {a:Addr} {o:Obj} {xs:LUz} (e:H a=some (.frz o (.lst xs))):Fk K H (.ref a) (.type "list")
 |tup {a:Addr} {xs:LUz} (e:H a=some (.tup xs)):Fk K H (.ref a) (.type "tuple")
 |dK {a:Addr} {kvs:List (Key×V)} (e:H a=some (.dK kvs)):Fk K H (.ref a) (.type "dict")
 |dT {a:Addr} {kvs:LKz} (e:H a=some (.dT kvs)):Fk K H (.ref a) (.type "dict")
 |ins {a C dx:Addr} {fs:LFz} (e:H a=some (.ins C dx fs)) (cl:Cls K C) (ha:findIn K (.ref C) "__class__"=some (some (.builtin "object.__class__")))
   (hn:specialIn K (.builtin "object.__class__") "__get__"=some (some (.builtin "getset_descriptor.__get__"))) (htk:takesIn K (.builtin "object.__class__")=some true)
   (hm:mroIn K C (.type "object")=some true):Fk K H (.ref a) (.ref C)
theorem Ij{x:V}{u t:Value}(I:Inv X pins σ H s)(rx:RelV x u)(ty:Fk X.K H x t)(e:kitOne X.K t c=some b)(h:∀tk,Q (.bool b) { s with toks:=tk }) :
  wpAny (model X.prog X.w) A (call (.builtin "isinstance") [u,c]) Q E s:=by
 cases ty with
 |non=>cases(show u=Value.none from rx);exact kia_one kitx_none I.kIn True.intro e (λ z=>nomatch z) h
 |bl y=>cases(show u=Value.bool y from rx);exact kia_one kitx_bool I.kIn True.intro e (λ z=>nomatch z) h
 |int i=>obtain⟨t,q⟩:=(show ∃t,u=Value.int i t from rx);cases q;exact kia_one kitx_int I.kIn True.intro e (λ z=>nomatch z) h
 |str y=>obtain⟨t,q⟩:=(show ∃t,u=Value.str y t from rx);cases q;exact kia_one kitx_str I.kIn True.intro e (λ z=>nomatch z) h
 |flt y=>obtain⟨t,q⟩:=(show ∃t,u=Value.float y t from rx);cases q;exact kia_one kitx_float I.kIn True.intro e (λ z=>nomatch z) h
 |@lst a xs ea =>
  cases(show u=Value.ref a from rx);obtain⟨_,_,n,_,h1⟩:=(show ObjOk X.prog X.w H s.heap a (.lst xs) from I.hok a _ ea);exact kia_one kitx_list I.kIn ⟨_,h1,rfl⟩ e (λ z=>nomatch z) h
 |@frz a ob xs ea =>
  cases(show u=Value.ref a from rx);obtain⟨_,_,_,n,_,h1⟩:=(show ObjOk X.prog X.w H s.heap a (.frz ob (.lst xs)) from I.hok a _ ea);exact kia_one kitx_list I.kIn ⟨_,h1,rfl⟩ e (λ z=>nomatch z) h
 |@tup a xs ea =>
  cases(show u=Value.ref a from rx);obtain⟨_,_,_,p⟩:=(show ObjOk X.prog X.w H s.heap a (.tup xs) from I.hok a _ ea);obtain⟨o,h1,h2,_⟩:=p;exact kia_one kitx_tuple I.kIn ⟨o,h1,h2⟩ e (λ z=>nomatch z) h
 |@dK a kvs ea =>
  cases(show u=Value.ref a from rx);obtain⟨_,_,vs,_,p⟩:=(show ObjOk X.prog X.w H s.heap a (.dK kvs) from I.hok a _ ea);obtain⟨o,es,ep,h1,h2,_⟩:=p;exact kia_one kitx_dict I.kIn ⟨o,h1,h2.1⟩ e (λ z=>nomatch z) h
 |@dT a kvs ea =>
  cases(show u=Value.ref a from rx);obtain⟨_,_,xs,_,o,es,ep,h1,h2,_⟩:=(show ObjOk X.prog X.w H s.heap a (.dT kvs) from I.hok a _ ea);exact kia_one kitx_dict I.kIn ⟨o,h1,h2.1⟩ e (λ z=>nomatch z) h
 |@ins a C dx fs ea cl ha hn htk hm =>
  cases(show u=Value.ref a from rx);obtain⟨mA,O,_⟩:=FK I.hok ea;obtain⟨od,J,_⟩:=O.look;exact kia_one (kitx_own (cl.get _) cl.hd ha hn htk hm) I.kIn J e (λ z=>nomatch z) h
end
structure Room(k:Nat)(A:Around):Prop where
 hd:A.handled=none
 dp:A.depth+3*k+5<recursionLimit
 un:A.units+16*k+200<cLine
theorem Room.mono{j k:Nat}{A:Around}(r:Room k A)(h:j<=k):Room j A:=⟨r.hd,by have:=r.dp;lia,by have:=r.un;lia⟩
theorem Room.deeper{k:Nat}{A:Around}(r:Room (k+1) A)(env:Env):Room k (A.deeper env) :=
 ⟨r.hd,by have:=r.dp;show A.depth+1+3*k+5<_;lia,by have:=r.un;show A.units+3+16*k+200<_;lia⟩
theorem LX{A:Around}{C:Addr}{us:LWz}{kw:List (Str×Value)}:(A.under (.builtin "type.__call__" ⟨.ref C::us,kw⟩)).depth=A.depth+1:=by
 first|rfl|simp[Around.under,Code.weight,Code.isCreation,Code.isGuard,Code.isCaller,Code.frames,Code.isFrame,guardIds]
theorem LW{A:Around}{C:Addr}{us:LWz}{kw:List (Str×Value)}:(A.under (.builtin "type.__call__" ⟨.ref C::us,kw⟩)).units=A.units+1:=by
 first|rfl|simp[Around.under,Code.cUnits,Code.frames,Code.isFrame]
theorem Room.make{k:Nat}{A:Around}(r:Room (k+1) A)(C:Addr)(us:LWz)(kw:List (Str×Value)):Room k (A.under (.builtin "type.__call__" ⟨.ref C::us,kw⟩)) :=
 ⟨r.hd,by have:=r.dp;rw[LX];lia,by have:=r.un;rw[LW];lia⟩
theorem Room.depth{k:Nat}{A:Around}(r:Room k A):A.depth<recursionLimit:=by have:=r.dp;lia
theorem Room.units{k:Nat}{A:Around}(r:Room k A):A.units+64<cLine:=by have:=r.un;lia
def QO:TA:=λ_ H Q=>Q [] H
def RN(ta:TE)(tr:TA):TA:=λ σ H Q=>ta σ H λ x H1=>tr σ H1 λ xs H2=>Q (x::xs) H2
section
variable{X:Cx}{e:Expr}{es:List Expr}{te:TE}{t:TA}{pos:Pos}
theorem Ab:PA X [] QO:=λ_ _ _ _ H Q I h=>Calls.spliced_nil ⟨[],H,I,.nil,h⟩
theorem Aa(ha:PE X e te)(hr:PA X es t)(hs:starEach (e::es) X.env=(false,eval e X.env)::starEach es X.env:=by rfl):PA X (e::es) (RN te t):=by
 intro pos pins s σ H Q I h;rw[hs];show wpAny _ _ (spliced ((false,eval e X.env)::backTo pos (starEach es X.env))) _ _ s;refine Calls.spliced_cons (thn (ha pins s σ H _ I h) λ u s1 hz_=>?_);obtain⟨x,H1,I1,r1,q1⟩:=hz_;exact thn (hr pos pins s1 σ H1 _ I1 q1) λ us s2 ⟨xs,H2,I2,r2,q2⟩=>⟨x::xs,H2,I2,.cons r1 r2,q2⟩
def SH(t:TA):TE:=λ σ H Q=>t σ H λ xs H1=>xs.length<=sizeLine/\∀p,H1 p=none->Q (.ref p) (upd H1 p (.tup xs))
def SM(t:TA):TE:=λ σ H Q=>t σ H λ xs H1=>xs.length<=sizeLine/\∀p,H1 p=none->Q (.ref p) (upd H1 p (.lst xs))
theorem Av{x1}(h:PA X es t):PE X (.Tuple es x1 pos) (SH t):=by
 intro pins s σ H Q I hq;refine wpAny_Tuple_spliced (thn (h pos pins s σ H _ I hq) λ us s1 ⟨xs,H1,I1,r,z,q⟩=>⟨by rw[<-r.length];exact z,?_⟩);have hf:H1 s1.heap.objs.size=none:=I1.hok.fresh (Nat.le_refl _);refine⟨.ref s1.heap.objs.size,upd H1 s1.heap.objs.size (.tup xs),I1.laid (t':=s1.toks) (λ b u e=>Heap.get?_push_of_some _ e) (Nat.le_refl _) ?_,rfl,q _ hf⟩;exact⟨z,us,r,⟨_,Heap.get?_push_size _ rfl,rfl,_,rfl⟩⟩
theorem BJ(h:PA X es t):PE X (.List es pos) (SM t):=by
 intro pins s σ H Q I hq;refine wpAny_List_spliced (thn (h pos pins s σ H _ I hq) λ us s1 ⟨xs,H1,I1,r,z,q⟩=>⟨by rw[<-r.length];exact z,?_⟩);have hf:H1 s1.heap.objs.size=none:=I1.hok.fresh (Nat.le_refl _);refine⟨.ref s1.heap.objs.size,upd H1 s1.heap.objs.size (.lst xs),I1.laid (t':=s1.toks) (λ b u e=>Heap.get?_push_of_some _ e) (Nat.le_refl _) ?_,rfl,q _ hf⟩;exact⟨z,us,0,r,Heap.get?_push_size _ rfl⟩
end
abbrev Sp:=LUz->Hp->VK->XK->Prop
abbrev CXT:=List Env->Hp->Shared->XK->Value->Shared->Prop
structure Env0(P:Program)(w:World)(K:Frag)(mg:MGz)(base:Heap)(A:Around)(outer:List Env)(s:Shared)(H:Hp):Prop where
 frames:A.frames=some outer
 mod:Mod K mg base
 bs:∀b o,base.get? b=some o->s.heap.get? b=some o/\H b=none
 bsz:base.objs.size<=s.heap.objs.size
 funs:s.heap.FunFrames base outer
 frf:∀b∈frs outer,H b=none
 hok:HOk P w H s.heap
 bare:AllBare s.gens
def CE(outer:List Env)(P:Program)(w:World)(H:Hp)(s:Shared)(Q:VK)(u:Value)(s':Shared):Prop :=
 ∃v H',s'.os=s.os/\AllBare s'.gens/\Un (frs outer) [] H H' s.heap s'.heap/\HOk P w H' s'.heap/\RelV v u/\Q v H'
def CR(CX:CXT)(outer:List Env)(P:Program)(w:World)(H:Hp)(s:Shared)(Q:VK)(E:XK)(r:Result)(s':Shared):Prop :=
 match r with
 |.ok (.ret u)=>CE outer P w H s Q u s'
 |.ok _=>False
 |.error e=>CX outer H s E e s'
structure A8(P:Program)(w:World)(K:Frag)(mg:MGz)(base:Heap)(CX:CXT)(k:Nat)(f:Addr)(fd:FuncData)(ps:LSz)(sp:Sp):Prop where
 len:∀vs H Q E,sp vs H Q E->vs.length=ps.length
 run:∀(A:Around)(outer:List Env)(s:Shared)(H:Hp)(args:Args)(us:LWz)(vs:LUz)(Q:VK)(E:XK),Room k A->Env0 P w K mg base A outer s H->BindsTo s fd args (ps.zip us)->Vals vs us->sp vs H Q E ->
  codeAny (model P w) A (.call (.ref f) args) (CR CX outer P w H s Q E) s
theorem Env0.make{P:Program}{w:World}{K:Frag}{mg:MGz}{base:Heap}{A:Around}{outer:List Env}{s:Shared}{H:Hp}(e:Env0 P w K mg base A outer s H)(C:Addr)(us:LWz)(kw:List (Str×Value)) :
  Env0 P w K mg base (A.under (.builtin "type.__call__" ⟨.ref C::us,kw⟩)) outer s H:=⟨by first|exact e.frames|(simpa [Around.under,Code.envs,Code.isFrame,pushEnvs] using e.frames),e.mod,e.bs,e.bsz,e.funs,e.frf,e.hok,e.bare⟩
section
variable{X:Cx}{pins:PNz}{σ:St}{H:Hp}{s s':Shared}
theorem Inv.env0(I:Inv X pins σ H s):Env0 X.prog X.w X.K X.mg X.base X.A X.stack s H :=
 ⟨I.ok.frames,I.ok.mod,I.bs,Nat.le_trans I.ok.bsz I.sz,I.stack,I.stkFree,I.hok,I.bare⟩
theorem Inv.after{Q:VK}{u:Value}(I:Inv X pins σ H s)(h:CE X.stack X.prog X.w H s Q u s'):EP X pins σ Q u s':=by
 obtain⟨v,H',os,bare,un,hok,r,q⟩:=h;obtain⟨hh,g,d,t,os'⟩:=s';obtain rfl:os'=s.os:=os;exact⟨v,H',I.call (h':=hh) (g':=g) (d':=d) (t':=t) (ch:=[]) un hok bare (λ b z=>absurd z (by simp)),r,q⟩
end
def Q2(sp:Sp)(dvs:LUz)(E:XK)(t:TA):TE:=λ σ H Q=>t σ H λ vs H1=>sp (vs++dvs) H1 Q E
def JZ(C:Addr)(m:Str)(sp:Sp)(dvs:LUz)(E:XK)(ta:TE)(t:TA):TE:=λ σ H Q=>ta σ H λ x H1=>∃a dx fs,x=.ref a/\H1 a=some (.ins C dx fs)/\fs.lookup m=none /\
 t σ H1 λ vs H2=>sp (x::(vs++dvs)) H2 Q E
def Qz(C:Addr)(sp:Sp)(dvs:LUz)(E:XK)(t:TA):TE:=λ σ H Q=>t σ H λ vs H1=>∀x dx,H1 x=none->H1 dx=none->dx≠x ->
 sp (.ref x::(vs++dvs)) (upd (upd H1 dx (.own x)) x (.ins C dx [])) (λ v H2=>v=.non/\Q (.ref x) H2) E
def Binds(K:Frag)(fd:FuncData)(ps:LSz)(ds:LWz):Prop :=
 ∀(s:Shared)(us:LWz),K.In s.heap->(us++ds).length=ps.length->BindsTo s fd ⟨us,[]⟩ (ps.zip (us++ds))
theorem Binds.all{K:Frag}{fd:FuncData}{ps:LSz}(h:∀us:LWz,us.length=ps.length->bindArgs fd ⟨us,[]⟩=pure (ps.zip us)):Binds K fd ps []:=λ s us _ hl=>by
 rw[List.append_nil]at hl |-;exact .of_eq (h us hl)
def C7(CX:CXT)(X:Cx)(E:XK):Prop:=∀(pins:PNz)(σ:St)(H:Hp)(s:Shared)(e:Value)(s':Shared),Inv X pins σ H s->CX X.stack H s E e s'->X.xe e s'
section
variable{X:Cx}{CX:CXT}{k:Nat}{f C:Addr}{fd:FuncData}{ps:LSz}{sp:Sp}{dvs:LUz}{ds:LWz}{E:XK}{x m:Str}{p pos apos:Pos}{e o:Expr}{es:List Expr}{ta:TE}{t:TA}
theorem L6{pins:PNz}{σ:St}{H:Hp}{s:Shared}{Q:VK}{us:LWz}{vs:LUz}(F:A8 X.prog X.w X.K X.mg X.base CX k f fd ps sp)(hr:Room k X.A)(hb:Binds X.K fd ps ds)(hd:Vals dvs ds)(hx:C7 CX X E)
  (I:Inv X pins σ H s) (r:Vals vs us) (h:sp (vs++dvs) H Q E):wpAny (model X.prog X.w) X.A (call (.ref f) us) (EP X pins σ Q) X.xe s:=by
 have r2:Vals (vs++dvs) (us++ds):=r.append hd;have hl:(us++ds).length=ps.length:=by rw[<-r2.length];exact F.len _ _ _ _ h
 refine wpAny_call (codeAny_mono (F.run X.A X.stack s H ⟨us,[]⟩ (us++ds) (vs++dvs) Q E hr I.env0 (hb s us I.kIn hl) r2 h) λ r s' hq=>?_);cases r with
 |error e=>exact hx pins σ H s e s' I hq
 |ok fl =>
  cases fl with
  |ret u=>exact I.after hq
  |next=>exact False.elim hq
  |brk=>exact False.elim hq
  |cont=>exact False.elim hq
theorem PV(F:A8 X.prog X.w X.K X.mg X.base CX k f fd ps sp)(hr:Room k X.A)(hg:Gl X x)(hm:X.mg x=some (.ref f))(hk:keepIn X.K (.ref f)=true)(hb:Binds X.K fd ps ds)(hd:Vals dvs ds)(hx:C7 CX X E)
  (ha:PA X (e::es) t) (hdb:(x==("__debug__":Str))=false:=by decide) (he:starEach (e::es) X.env=(false,eval e X.env)::starEach es X.env:=by rfl) (hpl:(backTo pos (starEach es X.env)).any (·.1)=false:=by rfl) :
  PE X (.Call (.Name x p) (e::es) [] pos) (Q2 sp dvs E t):=by
 intro pins s σ H Q I h;refine wpAny_Call_Name_kw (DM I hg hm ?_ hdb);refine callWith_K (h₀:=X.base) I.ok.mod.kin hk (thn (ha pos pins s σ H _ I h) λ us s1 ⟨vs,H1,I1,r,q⟩=>⟨I1.kIn,?_⟩) he hpl;exact L6 F hr hb hd hx I1 r q
theorem PQ{pl:Sem Bool}(he:PE X o ta)(c:Cls X.K C)(hm:Pu X.K C m f)(F:A8 X.prog X.w X.K X.mg X.base CX k f fd ps sp)(hr:Room k X.A)(hb:Binds X.K fd ps ds)(hd:Vals dvs ds)(hx:C7 CX X E)(ha:PA X (e::es) t)
    (hst:starEach (e::es) X.env=(false,eval e X.env)::starEach es X.env:=by rfl) (hpl:(backTo pos (starEach es X.env)).any (·.1)=false:=by rfl)
    (ht:eval (.Call (.Attribute o m apos) (e::es) [] pos) X.env=(do
      let ov <-eval o X.env
      standAt apos.atName
      let (f,first) <-holding [ov] (getMethod ov m pl)
      callWith pos f first (backTo pos (starEach (e::es) X.env)) (backToKw pos (keywordEach [] X.env))):=by rfl) :
    PE X (.Call (.Attribute o m apos) (e::es) [] pos) (JZ C m sp dvs E ta t):=by
  intro pins s σ H Q I h;refine methodCall_KW (pl:=pl) (thn (he pins s σ H _ I h) λ u s1 hz_=>?_) ht;obtain⟨x,H1,I1,rx,a,dx,fs,ex,ea,l,q⟩:=hz_;subst ex;obtain rfl:u=Value.ref a:=rx;refine Eh I1 ea c hm l ?_;refine callWith_K (first:=[.ref a]) (h₀:=X.base) I.ok.mod.kin hm.kp (thn (ha pos pins s1 σ H1 _ I1 q) λ us s2 ⟨vs,H2,I2,r,q2⟩=>⟨I2.kIn,?_⟩) hst hpl;exact L6 (us:=.ref a::us) (vs:=.ref a::vs) F hr hb hd hx I2 (.cons rfl r) q2
theorem OC{pl:Sem Bool}(he:PE X o ta)(c:Cls X.K C)(hm:Pu X.K C m f)(F:A8 X.prog X.w X.K X.mg X.base CX k f fd ps sp)(hr:Room k X.A)(hb:Binds X.K fd ps ds)(hd:Vals dvs ds)(hx:C7 CX X E)
    (ht:eval (.Call (.Attribute o m apos) [] [] pos) X.env=(do
      let ov <-eval o X.env
      standAt apos.atName
      let (f,first) <-holding [ov] (getMethod ov m pl)
      callWith pos f first (backTo pos (starEach [] X.env)) (backToKw pos (keywordEach [] X.env))):=by rfl) :
    PE X (.Call (.Attribute o m apos) [] [] pos) (JZ C m sp dvs E ta QO):=by
  intro pins s σ H Q I h;refine methodCall_KW (pl:=pl) (thn (he pins s σ H _ I h) λ u s1 hz_=>?_) ht;obtain⟨x,H1,I1,rx,a,dx,fs,ex,ea,l,q⟩:=hz_;subst ex;obtain rfl:u=Value.ref a:=rx;refine Eh I1 ea c hm l ?_;exact callWith_K0 (first:=[.ref a]) I1.kIn hm.kp (L6 (us:=[.ref a]) (vs:=[.ref a]) F hr hb hd hx I1 (.cons rfl .nil) q)
structure Mk(K:Frag)(C f:Addr):Prop where
 makes:makesIn K C=true
 init:findIn K (.ref C) "__init__"=some (some (.ref f))
 fn:isFn K (.ref f)=true
 kp:keepIn K (.ref C)=true
theorem O3{pins:PNz}{σ:St}{H:Hp}{s:Shared}{Q:VK}{us:LWz}{vs:LUz}(M:Mk X.K C f)(F:A8 X.prog X.w X.K X.mg X.base CX k f fd ps sp)(hr:Room (k+1) X.A)(hb:Binds X.K fd ps ds)(hd:Vals dvs ds)
  (hx:C7 CX X E) (I:Inv X pins σ H s) (r:Vals vs us)
  (h:∀x dx,H x=none->H dx=none->dx≠x->sp (.ref x::(vs++dvs)) (upd (upd H dx (.own x)) x (.ins C dx [])) (λ v H2=>v=.non/\Q (.ref x) H2) E) :
  wpAny (model X.prog X.w) X.A (call (.ref C) us) (EP X pins σ Q) X.xe s:=by
 have hq:=h (s.heap.objs.size+1) s.heap.objs.size (I.hok.fresh (Nat.le_succ _)) (I.hok.fresh (Nat.le_refl _)) (Nat.ne_of_lt (Nat.lt_succ_self _));have I2:=Inv.made (C:=C) I;have r2:Vals (V.ref (s.heap.objs.size+1)::(vs++dvs)) (Value.ref (s.heap.objs.size+1)::(us++ds)):=.cons rfl (r.append hd);have hl:(Value.ref (s.heap.objs.size+1)::us++ds).length=ps.length:=by
  have e:=r2.length;rw[F.len _ _ _ _ hq]at e;exact e.symm
 refine wpAny_call (OL (f:=f) I.kIn M.makes M.init (beq_iff_eq.mp M.fn) (codeAny_mono (F.run _ X.stack _ _ ⟨Value.ref (s.heap.objs.size+1)::us,[]⟩ (Value.ref (s.heap.objs.size+1)::(us++ds)) _ _ E (hr.make C us [])
  (I2.env0.make C us []) (hb _ (Value.ref (s.heap.objs.size+1)::us) I2.kIn hl) r2 hq) λ r s' hq'=>?_))
 cases r with
 |error e=>exact hx pins σ _ _ e s' I2 hq'
 |ok fl =>
  cases fl with
  |ret u =>
   obtain⟨v,H',I3,rv,ev,q3⟩:=I2.after hq';subst ev;exact⟨rv,⟨V.ref (s.heap.objs.size+1),H',I3,rfl,q3⟩⟩
  |next=>exact False.elim hq'
  |brk=>exact False.elim hq'
  |cont=>exact False.elim hq'
theorem PR(M:Mk X.K C f)(F:A8 X.prog X.w X.K X.mg X.base CX k f fd ps sp)(hr:Room (k+1) X.A)(hg:Gl X x)(hm:X.mg x=some (.ref C))(hb:Binds X.K fd ps ds)(hd:Vals dvs ds)(hx:C7 CX X E)
  (ha:PA X (e::es) t) (hdb:(x==("__debug__":Str))=false:=by decide) (he:starEach (e::es) X.env=(false,eval e X.env)::starEach es X.env:=by rfl) (hpl:(backTo pos (starEach es X.env)).any (·.1)=false:=by rfl) :
  PE X (.Call (.Name x p) (e::es) [] pos) (Qz C sp dvs E t):=by
 intro pins s σ H Q I h;refine wpAny_Call_Name_kw (DM I hg hm ?_ hdb);refine callWith_K (h₀:=X.base) I.ok.mod.kin M.kp (thn (ha pos pins s σ H _ I h) λ us s1 ⟨vs,H1,I1,r,q⟩=>⟨I1.kIn,?_⟩) he hpl;exact O3 M F hr hb hd hx I1 r q
end
structure Aq(N P:LSz)(sc:Scope):Prop where
 kind:sc.kind=.function
 co:sc.isCoroutine=false
 gen:sc.isGenerator=false
 nd:N.Nodup
 pre:N.take P.length=P
 par:∀x∈P,sc.names.lookup x=some .local\/sc.names.lookup x=some .cell
 nofree:∀y∈sc.names,y.2≠.free
theorem fsc{N P:List Str}{sc:Scope}(a:sc.kind=.function:=by rfl)(b:sc.isCoroutine=false:=by rfl)(c:sc.isGenerator=false:=by rfl)(d:N.Nodup:=by decide +kernel)(e:N.take P.length=P:=by rfl)(f:∀x∈P,sc.names.lookup x=some .local\/sc.names.lookup x=some .cell:=by decide +kernel)(g:∀y∈sc.names,y.2≠.free:=by decide +kernel):Aq N P sc:=⟨a,b,c,d,e,f,g⟩
theorem Im{kindOf:Str->Option NameKind}{x:Str}:∀{binds:List (Str×Value)}{m:MGz},(∀v,(x,v)∉binds)->bindL kindOf binds m x=m x
 |[],_,_=>rfl
 | (n,v)::r,m,h=>by
  unfold bindL;rw[Im λ w hw=>h w (List.mem_cons_of_mem _ hw)];split
  .have:x≠n:=by rintro rfl;exact h v List.mem_cons_self
   simp[this]
  .rfl
theorem Ip{kindOf:Str->Option NameKind}{x:Str}:∀{binds:List (Str×Value)}{m:MGz},(∀v,(x,v)∉binds)->bindC kindOf binds m x=m x
 |[],_,_=>rfl
 | (n,v)::r,m,h=>by
  unfold bindC;rw[Ip λ w hw=>h w (List.mem_cons_of_mem _ hw)];split
  .rfl
  .have:x≠n:=by rintro rfl;exact h v List.mem_cons_self
   simp[this]
theorem Io{kindOf:Str->Option NameKind}{x:Str}{v:Value}:∀{P:LSz}{vs:LWz}{i:Nat}{m:MGz},P.Nodup->P[i]?=some x->vs[i]?=some v->kindOf x=some .local ->
  bindL kindOf (P.zip vs) m x=some v
 |[],_,_,_,_,h,_,_=>by simp at h
 |_::_,[],_,_,_,_,h,_=>by simp at h
 |p::P,w::vs,0,m,nd,h1,h2,hk=>by
  simp at h1 h2;subst h1;subst h2;show bindL kindOf ((p,w)::P.zip vs) m p=_;unfold bindL;rw[Im λ v hv=>(List.nodup_cons.mp nd).1 (List.of_mem_zip hv).1,if_pos hk];simp
 |p::P,w::vs,i+1,m,nd,h1,h2,hk=>by
  show bindL kindOf ((p,w)::P.zip vs) m x=_;unfold bindL;exact Io (i:=i) (List.nodup_cons.mp nd).2 (by simpa using h1) (by simpa using h2) hk
theorem Iq{kindOf:Str->Option NameKind}{x:Str}{v:Value}:∀{P:LSz}{vs:LWz}{i:Nat}{m:MGz},P.Nodup->P[i]?=some x->vs[i]?=some v->kindOf x≠some .local ->
  bindC kindOf (P.zip vs) m x=some v
 |[],_,_,_,_,h,_,_=>by simp at h
 |_::_,[],_,_,_,_,h,_=>by simp at h
 |p::P,w::vs,0,m,nd,h1,h2,hk=>by
  simp at h1 h2;subst h1;subst h2;show bindC kindOf ((p,w)::P.zip vs) m p=_;unfold bindC;rw[Ip λ v hv=>(List.nodup_cons.mp nd).1 (List.of_mem_zip hv).1,if_neg hk];simp
 |p::P,w::vs,i+1,m,nd,h1,h2,hk=>by
  show bindC kindOf ((p,w)::P.zip vs) m x=_;unfold bindC;exact Iq (i:=i) (List.nodup_cons.mp nd).2 (by simpa using h1) (by simpa using h2) hk
def start(N:LSz)(vs:LUz):St:=vs.map some++List.replicate (N.length-vs.length) none
def Cd(CX:CXT)(P:Program)(w:World)(K:Frag)(mg:MGz)(base:Heap)(N:LSz)(qual:Str)(scope:Scope)(f:Addr)(cd:Value)(A:Around)(outer:List Env)(s:Shared)(H:Hp)(E:XK):Cx where
 prog:=P
 w:=w
 K:=K
 mg:=mg
 base:=base
 A:=A.deeper (envOfC qual scope s.heap.objs.size f cd)
 N:=N
 s₀:=s
 H₀:=H
 env:=envOfC qual scope s.heap.objs.size f cd
 outer:=outer
 stack:=envOfC qual scope s.heap.objs.size f cd::outer
 ex:=[]
 calm:=true
 fn:=λ_=>true
 pn:=[]
 xe:=λ e s'=>wpAny (model P w) (A.deeper (envOfC qual scope s.heap.objs.size f cd)) (leaving (envOfC qual scope s.heap.objs.size f cd) e) (λ_ s''=>CX outer H s E e s'') (λ e' s''=>CX outer H s E e' s'') s'
theorem KR{sc:Scope}{n:Nat}{x:Str}(h:sc.names.lookup x=some .cell):∃c,(cellsFrom n sc.names []).lookup x=some c:=by
 have q:=cellsFrom_some sc.names n [] (.inl h);exact Option.isSome_iff_exists.mp q
theorem NQ{CX:CXT}{P:Program}{w:World}{K:Frag}{mg:MGz}{base:Heap}{N ps:LSz}{qual:Str}{scope:Scope}{f:Addr}{cd:Value}{A:Around}{outer:List Env}{s s1:Shared}{H:Hp}{E:XK}{us:LWz}{vs:LUz}
  (S:Aq N ps scope) (hd:A.handled=none) (e0:Env0 P w K mg base A outer s H) (hl:vs.length=ps.length) (r:Vals vs us)
  (x:InCallC s s.heap.objs.size (bindL (envOfC qual scope s.heap.objs.size f cd).kindOf (ps.zip us) λ_=>none) (cellsFrom (s.heap.objs.size+1) scope.names []) (bindC (envOfC qual scope s.heap.objs.size f cd).kindOf (ps.zip us) λ_=>none) s1) :
  Inv (Cd CX P w K mg base N qual scope f cd A outer s H E) [] (start N vs) H s1:=by
 have hpl:ps.length<=N.length:=by have:=congrArg List.length S.pre;rw[List.length_take]at this;lia
 obtain⟨h1,tk,rfl,hk⟩:=x.done;have noA:∀b:Addr,b∉(Cd CX P w K mg base N qual scope f cd A outer s H E).ex:=λ b z=>absurd (show b∈([]:List Addr) from z) (by simp);refine⟨⟨e0.mod,S.kind,rfl,rfl,Nat.le_refl _,λ y z c h1 h2=>?_,λ y hy=>?_,λ y c _ h=>?_,λ_=>hd,Around.frames_deeper e0.frames,.inr ⟨rfl,rfl⟩,λ b z=>absurd z (noA b),e0.bs,e0.bsz,λ b _ _=>noA b,λ b z=>absurd z (noA b),e0.funs,e0.frf⟩,
  rfl,e0.bare,Un.kept hk,⟨_,x.toInCall.ns,λ i y v h1 h2 h3=>?_⟩,λ y c h=>⟨_,x.cell y c h⟩,e0.hok.fresh (Nat.le_refl _),λ y c h=>?_,λ p hp=>absurd (show p∈([]:PNz) from hp) (by simp),e0.hok.kept hk,?_⟩
 .exact name_of_addr x.apart (PySem.mem_of_lookup h1) (PySem.mem_of_lookup h2)
 .have hy:scope.names.lookup y=some .cell\/scope.names.lookup y=some .free:=hy;rcases hy with hy|hy
  .exact KR hy
  .exact absurd rfl (S.nofree _ (PySem.mem_of_lookup hy))
 .exact Nat.le_of_lt (x.above y c (PySem.mem_of_lookup h))
 .have hi:i<vs.length:=by
   unfold start at h2;by_cases hi:i<vs.length
   .exact hi
   .rw[List.getElem?_append_right (by simpa using hi)]at h2;rw[List.getElem?_replicate]at h2;split at h2<;>cases h2
  have ha:vs[i]?=some v:=by
   unfold start at h2;rw[List.getElem?_append_left (by simpa using hi),List.getElem?_map]at h2;cases e:vs[i]? with
   |none=>rw[e]at h2;cases h2
   |some a=>rw[e]at h2;cases h2;rfl
  obtain⟨u,hu,rv⟩:=r.get ha;have hp:ps[i]?=some y:=by
   rw[<-S.pre,List.getElem?_take_of_lt (by lia)];exact h1
  have ndP:ps.Nodup:=by rw[<-S.pre];exact S.nd.sublist (List.take_sublist _ _)
  refine⟨u,rv,?_⟩;rcases S.par y (List.mem_of_getElem? hp) with k|k
  .exact .inl ⟨k,Io ndP hp hu k⟩
  .obtain⟨c,e⟩:=KR (n:=s.heap.objs.size+1) k;refine .inr ⟨.inl k,c,e,?_⟩;have q:=x.cell y c e;rw[Iq ndP hp hu (by show scope.names.lookup y≠_;rw[k];decide)]at q;exact q
 .exact e0.hok.fresh (Nat.le_of_lt (x.above y c (PySem.mem_of_lookup h)))
 .unfold start;show _=N.length;rw[List.length_append,List.length_map,List.length_replicate];lia
theorem KD{CX:CXT}{P:Program}{w:World}{K:Frag}{mg:MGz}{base:Heap}{k:Nat}{f:Addr}{name qual:Str}{params:Arguments}{body:List Stmt}{scope:Scope}{dV kV doc pm cdv ct oc:Value}{an od:Option Addr}
  {osl:AOz} {N ps:LSz} {sp:Sp} (lk:K.lookup f=some ⟨oc,od,.func (fnOf name qual params body scope dV kV doc pm an cdv ct),osl⟩) (hcd:codeIn K cdv qual=true) (S:Aq N ps scope)
  (len:∀vs H Q E,sp vs H Q E->vs.length=ps.length)
  (hbody:∀(A:Around)(outer:List Env)(s:Shared)(H:Hp)(vs:LUz)(Q:VK)(E:XK),Room k (A.deeper (envOfC qual scope s.heap.objs.size f cdv))->sp vs H Q E ->
   ∃t,PSs (Cd CX P w K mg base N qual scope f cdv A outer s H E) body t/\t { nx:=λ_ H'=>Q .non H',rt:=Q } (start N vs) H) :
  A8 P w K mg base CX (k+1) f (fnOf name qual params body scope dV kV doc pm an cdv ct) ps sp:=by
 refine⟨len,λ A outer s H args us vs Q E hr e0 hb r hsp=>?_⟩;have hl:=len _ _ _ _ hsp;have KX:K.In s.heap:=e0.mod.kin.keeps λ b o e=>(e0.bs b o e).1;have lim:s.heap.NoLimit:=e0.mod.nolimit.keeps λ b o e=>(e0.bs b o e).1;have hkind:∀y∈ps.zip us,scope.names.lookup y.1=some .local\/(scope.names.lookup y.1=some .cell/\((cellsFrom (s.heap.objs.size+1) scope.names []).lookup y.1).isSome=true):=λ⟨n,v⟩ hy=>by
  rcases S.par n (List.of_mem_zip hy).1 with q|q
  .exact .inl q
  .exact .inr ⟨q,cellsFrom_some _ _ _ (.inl q)⟩
 refine codeAny_call_function hr.depth (KX _ _ lk) rfl S.co S.gen rfl (codeRec_of KX hcd) (hb _ _ _ _ ?_);refine wpAny_newFunctionEnv_cells S.kind hkind λ env he s1 x=>?_;subst he;refine⟨lim.keeps x.toInCall.keep,codeAny_func ?_⟩;obtain⟨t,ht,hq⟩:=hbody A outer s H vs Q E (hr.deeper _) hsp;have I:Inv (Cd CX P w K mg base N qual scope f cdv A outer s H E) [] (start N vs) H s1:=NQ S hr.hd e0 hl r x;refine wpAny_mono (ht [] s1 (start N vs) H _ I hq) (λ fl s' hs=>?_) λ e s' hs=>hs;have fin:∀{σ':St}{H':Hp}{v:V}{u:Value},Inv (Cd CX P w K mg base N qual scope f cdv A outer s H E) [] σ' H' s'->RelV v u->Q v H'->CE outer P w H s Q u s' :=
  λ{σ' H' v u} J rv q=>⟨v,H',J.os,J.bare,J.base,J.hok,rv,q⟩
 cases fl with
 |ret u =>
  obtain⟨v,σ',H',J,rv,q⟩:=hs;exact fin J rv q
 |next =>
  obtain⟨σ',H',J,q⟩:=hs;exact fin (v:=V.non) (u:=Value.none) J rfl q
 |brk =>
  obtain⟨_,_,_,q⟩:=hs;exact False.elim q
 |cont =>
  obtain⟨_,_,_,q⟩:=hs;exact False.elim q
section
variable{X:Cx}{x:Str}{p pos:Pos}{e:Expr}{es:List Expr}{t:TA}{id T:String}{r:LUz->Hp->VK->Prop}
def tCB(r:LUz->Hp->VK->Prop)(t:TA):TE:=λ σ H Q=>t σ H λ vs H1=>r vs H1 Q
theorem At(hc:Dc X (.builtin id) r)(hg:Gl X x)(hm:X.mg x=none)(hv:bootBuiltins x=some (.builtin id))(ha:PA X (e::es) t)(hn:x≠"__name__":=by decide)(hdb:(x==("__debug__":Str))=false:=by decide)
  (he:starEach (e::es) X.env=(false,eval e X.env)::starEach es X.env:=by rfl) (hpl:(backTo pos (starEach es X.env)).any (·.1)=false:=by rfl):PE X (.Call (.Name x p) (e::es) [] pos) (tCB r t):=by
 intro pins s σ H Q I h;refine wpAny_Call_Name_kw (Fc I hg hm hv ?_ hn hdb);exact PyProof.Rows.callWith_builtin1 (thn (ha pos pins s σ H _ I h) λ us s1 ⟨vs,H1,I1,r1,q1⟩=>hc pins s1 σ H1 vs us Q I1 r1 q1) he hpl
theorem N7(hc:Dc X (.type T) r)(hg:Gl X x)(hm:X.mg x=none)(hv:bootBuiltins x=some (.type T))(ha:PA X (e::es) t)(hn:x≠"__name__":=by decide)(hdb:(x==("__debug__":Str))=false:=by decide)
  (he:starEach (e::es) X.env=(false,eval e X.env)::starEach es X.env:=by rfl) (hpl:(backTo pos (starEach es X.env)).any (·.1)=false:=by rfl):PE X (.Call (.Name x p) (e::es) [] pos) (tCB r t):=by
 intro pins s σ H Q I h;refine wpAny_Call_Name_kw (Fc I hg hm hv ?_ hn hdb);exact PyProof.Rows.callWith_type1 (thn (ha pos pins s σ H _ I h) λ us s1 ⟨vs,H1,I1,r1,q1⟩=>hc pins s1 σ H1 vs us Q I1 r1 q1) he hpl
end
end L2
namespace HT
open PySem.W
open PySem PyProof.Rows
def lexLt:List Int->List Int->Bool
 |[],[]=>false
 |[],_::_=>true
 |_::_,[]=>false
 |x::xs,y::ys=>if x=y then lexLt xs ys else decide (x<y)
theorem lexLt_cons(x y:Int)(xs ys:List Int):lexLt (x::xs) (y::ys)=if x=y then lexLt xs ys else decide (x<y):=rfl
theorem lexLt_nil_nil:lexLt [] []=false:=rfl
theorem G4(y:Int)(ys:List Int):lexLt [] (y::ys)=true:=rfl
theorem G5(x:Int)(xs:List Int):lexLt (x::xs) []=false:=rfl
theorem eqAt_int(A:Around)(s:Shared)(a:Int)(t:Tok)(c:Int)(u:Tok):∃e,SeqAt.EqAt A s (.int a t) (.int c u) e/\(e=true↔a=c) :=
 ⟨(a==c),SeqAt.EqAt.int_int a t c u,by simp⟩
theorem rcLt_int(A:Around)(s:Shared)(a:Int)(t:Tok)(c:Int)(u:Tok)(prog:Program)(w:World)(E:VPz)(Q:VPz)(h:Q (.bool (decide (a<c))) s) :
  wpAny (model prog w) A (richCompare .Lt (.int a t) (.int c u)) Q E s :=
 (PyProof.Rows.lt_int h:wpAny (model prog w) A (compareOp .Lt (.int a t) (.int c u)) Q E s)
section
open PySem.SeqAt
open PySem.AutoSeq1 (wpAny_loadPart')
open PySem.MeetsSeq PySem.MeetsSeq2 PySem.MeetsSeq3
theorem Hk(l b:Addr)(items items2:Array Value)(n n2:Nat)(dd dd2:Option Addr)(sl sl2:AOz)(ns ms:List Int)(hi:IntsAre items.toList ns)(hj:IntsAre items2.toList ms) :
  Meets (Builtin.«tuple.__lt__» ⟨[.ref l,.ref b],[]⟩)
   (λ_ R s=>s.heap.get? l=some { cls:=.type "tuple",dict:=dd,data:=.seq items n,slots:=sl }/\s.heap.get? b=some { cls:=.type "tuple",dict:=dd2,data:=.seq items2 n2,slots:=sl2 } /\
    R (.ok (.ret (.bool (lexLt ns ms)))) s) :=
 .of_wp λ prog w A R s h=>by
  obtain⟨hp,g,d,tk,os⟩:=s;obtain⟨hl,hb,h⟩:=h;have f2:=AutoSeq1.sub_tuple_tuple;have z1:items.size=ns.length:=by rw[<-hi.length];simp
  have z2:items2.size=ms.length:=by rw[<-hj.length];simp
  wp_walk using wpAny_loadPart' hl,wpAny_loadPart' hb,wpAny_forIn_list _ (λ rest b s'=>b.1=none/\s'=⟨hp,g,d,tk,os⟩/\∃(vs ws:LWz)(ns' ms':List Int),rest=vs.zip ws /\
   IntsAre vs ns'/\IntsAre ws ms'/\ns'.length+items2.size=ms'.length+items.size/\R (.ok (.ret (.bool (lexLt ns' ms')))) ⟨hp,g,d,tk,os⟩) _
  case turn =>
   rintro⟨y,x⟩ rest b s' ⟨hb',rfl,vs,ws,ns',ms',hz,hvi,hwi,hlen,hR⟩;cases hvi with
   |nil=>rw[List.zip_nil_left]at hz;cases hz
   |cons a t hvi' =>
    cases hwi with
    |nil=>rw[List.zip_nil_right]at hz;cases hz
    |cons c u hwi' =>
     rw[List.zip_cons_cons]at hz;injection hz with hyx hrest;injection hyx with hy hx;subst hy hx;rw[lexLt_cons]at hR;simp only[List.length_cons]at hlen;obtain⟨e,he,hiff⟩:=eqAt_int A.in1 ⟨hp,g,d,tk,os⟩ a t c u;refine wpAny_bind (he prog w _ _ ?_);cases e with
     |true =>
      rw[if_pos (hiff.mp rfl)]at hR
      wp_walk
      exact⟨rfl,rfl,_,_,_,_,hrest,hvi',hwi',by lia,hR⟩
     |false =>
      rw[if_neg (λ q=>absurd (hiff.mpr q) Bool.false_ne_true)]at hR;have hri:=rcLt_int A.in1 ⟨hp,g,d,tk,os⟩ a t c u prog w
      wp_walk using hri
      exact⟨_,rfl,by simpa using hR⟩
  case fin =>
   rintro⟨b1,b2⟩ s' ⟨hb',rfl,vs,ws,ns',ms',hz,hvi,hwi,hlen,hR⟩;simp only at hb';subst hb';have hv:lexLt ns' ms'=decide (items.size<items2.size):=by
    cases hvi with
    |nil =>
     cases hwi with
     |nil =>
      simp only[List.length_nil]at hlen;rw[lexLt_nil_nil];exact(decide_eq_false (by lia)).symm
     |cons c u hw =>
      simp only[List.length_nil,List.length_cons]at hlen;rw[G4];exact(decide_eq_true (by lia)).symm
    |cons a t hv =>
     cases hwi with
     |nil =>
      simp only[List.length_nil,List.length_cons]at hlen;rw[G5];exact(decide_eq_false (by lia)).symm
     |cons c u hw =>
      rw[List.zip_cons_cons]at hz;cases hz
   rw[hv]at hR
   wp_walk
   exact⟨_,rfl,by simpa [Builtin.Tuple.tupleCompareSizes] using hR⟩
  case h =>
   exact⟨rfl,rfl,items.toList,items2.toList,ns,ms,rfl,hi,hj,by lia,h⟩
end
section
variable{prog:Program}{w:World}{A:Around}{E:VPz}{s:Shared}
theorem lt_tupInts{l b:Addr}{items items2:Array Value}{ns ms:List Int}{Q:VPz}(hl:IsTup s.heap l items)(hb:IsTup s.heap b items2)(hi:IntsAre items.toList ns)(hj:IntsAre items2.toList ms)
  (hu:A.units<cLine) (h:Q (.bool (lexLt ns ms)) s):wpAny (model prog w) A (compareOp .Lt (.ref l) (.ref b)) Q E s:=by
 obtain⟨⟨cls,dd,data,sl⟩,ho,hc,n,hd⟩:=id hl;obtain⟨⟨cls2,dd2,data2,sl2⟩,ho2,hc2,n2,hd2⟩:=id hb;simp only at hc hd hc2 hd2;subst hc hd hc2 hd2;exact richCompare_meets_room (op:=.Lt) ⟨_,ho,rfl⟩ ⟨_,ho2,rfl⟩ PySem.F.slot_tuple_lt PySem.F.entry_tuple_lt (PySem.F.args_tuple_lt_2 _ _) (Hk l b items items2 n n2 dd dd2 sl sl2 ns ms hi hj)
  ⟨ho,ho2,show Value.bool (lexLt ns ms)≠Value.notImplemented/\Q (.bool (lexLt ns ms)) s from ⟨(λ x=>nomatch x),h⟩⟩ hu
def sIx(n d:Nat):Option Int->Nat
 |none=>d
 |some v=>if v<0 then (v+(n:Int)).toNat else min v.toNat n
theorem QW(n d:Nat)(hd:d<=n)(o:Option Int):sIx n d o<=n:=by
 cases o with
 |none=>exact hd
 |some v =>
  show(if v<0 then (v+(n:Int)).toNat else min v.toNat n)<=n;by_cases hv:v<0
  .rw[if_pos hv];lia
  .rw[if_neg hv];exact Nat.min_le_right _ _
theorem Nj(v:Int)(n d:Nat):(if v<0 then max (v+(n:Int)) 0 else min v (n:Int))=((sIx n d (some v):Nat):Int):=by
 show(if v<0 then max (v+(n:Int)) 0 else min v (n:Int))=(((if v<0 then (v+(n:Int)).toNat else min v.toNat n):Nat):Int);by_cases hv:v<0
 .simp only[if_pos hv];lia
 .simp only[if_neg hv];lia
theorem Mo(lo hi:Option Int)(n:Nat):Builtin.Slice.sliceAdjust lo hi 1 (n:Int)=(((sIx n 0 lo:Nat):Int),((sIx n n hi:Nat):Int)):=by
 have h1:¬((1:Int)<0):=by lia
 unfold Builtin.Slice.sliceAdjust;simp only[h1,if_false];refine Prod.ext ?_ ?_
 .cases lo with
  |none=>rfl
  |some v=>exact Nj v n 0
 .cases hi with
  |none=>rfl
  |some v=>exact Nj v n n
theorem LG(i j:Nat):Builtin.Slice.slicePlaces (i:Int) (j:Int) 1=j-i:=by
 unfold Builtin.Slice.slicePlaces;have h1:(1:Int)>0:=by lia
 simp only[h1,if_true,Int.ediv_one];split<;>lia
theorem Gg{v:Value}{o:Option Int}{Q:Option Int->Shared->Prop}(p:IsPart v o)(h:Q o s):wpAny (model prog w) A (Builtin.Slice.slicePartIndex v) Q E s:=by
 cases p with
 |none=>exact slicePart_none h
 |int i t=>exact slicePart_int h
theorem EV{sl:Addr}{vl vu:Value}{lo hi:Option Int}{n:Nat}{Q:Int×Int×Nat->Shared->Prop}(hs:s.heap.IsSliceOf sl vl vu .none)(pl:IsPart vl lo)(pu:IsPart vu hi)
  (h:Q (((sIx n 0 lo:Nat):Int),1,sIx n n hi-sIx n 0 lo) s):wpAny (model prog w) A (Builtin.Slice.sliceApplied (.ref sl) (pure (n:Int))) Q E s:=by
 obtain⟨os,hos,hcs,hds⟩:=id hs;unfold Builtin.Slice.sliceApplied Builtin.Slice.sliceFields;refine wpAny_bind (wpAny_bind (wpAny_field hos hds (x:=vl) rfl (wpAny_bind (wpAny_field hos hds (x:=vu) rfl (wpAny_bind (wpAny_field hos hds (x:=.none) rfl (wpAny_pure ?_)))))));refine wpAny_bind (slicePart_none ?_);show wpAny _ _ (if ((1:Int)==0)=true then _ else _) _ _ s;rw[if_neg (by decide)];refine wpAny_bind (Gg pl (wpAny_bind (Gg pu (wpAny_bind (wpAny_pure ?_)))));show wpAny _ _ (match Builtin.Slice.sliceAdjust lo hi 1 (n:Int) with|(lo,hi)=>pure (lo,(1:Int),Builtin.Slice.slicePlaces lo hi 1)) _ _ s;rw[Mo lo hi n];show wpAny _ _ (pure (((sIx n 0 lo:Nat):Int),(1:Int),Builtin.Slice.slicePlaces ((sIx n 0 lo:Nat):Int) ((sIx n n hi:Nat):Int) 1)) _ _ s;rw[LG];exact wpAny_pure h
theorem O8(xs:Array Value)(i k:Nat):((List.range k).filterMap λ(m:Nat)=>xs[((i:Int)+(m:Int)*1).toNat]?).toArray=((xs.toList.drop i).take k).toArray:=by
 have e:(λ(m:Nat)=>xs[((i:Int)+(m:Int)*1).toNat]?)=λ m=>xs[i+m]?:=by
  funext m
  have:((i:Int)+(m:Int)*1).toNat=i+m:=by lia
  rw[this]
 rw[e];have:=pick_run xs i k;rw[List.filterMap_map]at this;have e2:((λ x=>xs[x]?)∘λ x=>i+x)=λ m=>xs[i+m]?:=rfl;rw[e2]at this;rw[this]
theorem getItem_tuple_cut{t sl:Addr}{items:Array Value}{vl vu:Value}{lo hi:Option Int}{Q:VPz}(ht:IsTup s.heap t items)(hs:s.heap.IsSliceOf sl vl vu .none)(pl:IsPart vl lo)(pu:IsPart vu hi)
  (hw:¬(sIx items.size 0 lo=0/\sIx items.size items.size hi=items.size))
  (h:Q (.ref s.heap.objs.size) { s with heap:=s.heap.push { cls:=.type "tuple",data:=.seq ((items.toList.drop (sIx items.size 0 lo)).take (sIx items.size items.size hi-sIx items.size 0 lo)).toArray } })
  (hsz:items.size<=sizeLine):wpAny (model prog w) A (getItem (.ref t) (.ref sl)) Q E s:=by
 have htake:sizeOk (.seq ((items.toList.drop (sIx items.size 0 lo)).take (sIx items.size items.size hi-sIx items.size 0 lo)).toArray):=by
  show((items.toList.drop (sIx items.size 0 lo)).take (sIx items.size items.size hi-sIx items.size 0 lo)).toArray.size<=sizeLine;rw[List.size_toArray,List.length_take,List.length_drop,Array.length_toList];lia
 have hj:sIx items.size items.size hi<=items.size:=QW _ _ (Nat.le_refl _) hi;obtain⟨os,hos,hcs,hds⟩:=id hs;have hTs:s.TypeIs (.ref sl) "slice":=⟨os,hos,hcs⟩;unfold getItem
 try with_reducible refine wpAny_holding ?_
 first|refine wpAny_bind (wpAny_pure ?_)|skip
 refine wpAny_bind (wpAny_sequenceKey ht.typeIs (by decide) ?_);refine wpAny_bind (wpAny_callSpecial?_slot (name:=Str.ofString "__getitem__") ht.typeIs PyProof.Rows.slot_tuple_getitem
  (wpAny_call_entry PyProof.Rows.slot_tuple_getitem ht.typeIs entry_tuple_getitem ?_ (args_tuple_getitem _ _)))
 show wpAny _ _ (Builtin.Tuple.tupleItemsOf (.ref t) >>= _) _ _ s;refine wpAny_bind (tupleItemsOf_ ht ?_);refine wpAny_bind (wpAny_typeOf hTs ?_);rw[if_pos (by decide)];refine wpAny_bind (EV hs pl pu ?_);have hno:¬((((sIx items.size 0 lo:Nat):Int)==0&&(1:Int)==1&&(sIx items.size items.size hi-sIx items.size 0 lo)==items.size)=true):=by
  intro q;rw[Bool.and_eq_true,Bool.and_eq_true]at q;have q1:((sIx items.size 0 lo:Nat):Int)=0:=eq_of_beq q.1.1;have q2:sIx items.size items.size hi-sIx items.size 0 lo=items.size:=eq_of_beq q.2;exact hw ⟨by lia,by lia⟩
 show wpAny _ _ (if (((sIx items.size 0 lo:Nat):Int)==0&&(1:Int)==1&&(sIx items.size items.size hi-sIx items.size 0 lo)==items.size)=true then _ else _) _ _ s;rw[if_neg hno,O8]
 first
  |exact wpAny_bind (m:=Builtin.Tuple.tupleExact _) (wpAny_newObj_type (wpAny_pure ⟨_,rfl,wpAny_pure h⟩) htake)
  |exact wpAny_bind (m:=Builtin.Tuple.tupleExact _) (wpAny_newObj_type (wpAny_bind (wpAny_pure (wpAny_pure ⟨_,rfl,wpAny_pure h⟩))) htake)
  |exact wpAny_bind (wpAny_bind (m:=Builtin.Tuple.tupleExact _) (wpAny_newObj_type (wpAny_pure (wpAny_pure ⟨_,rfl,wpAny_pure h⟩)) htake))
  |exact wpAny_bind (wpAny_bind (m:=Builtin.Tuple.tupleExact _) (wpAny_newObj_type (wpAny_pure ⟨_,rfl,wpAny_pure h⟩) htake))
end
end HT
namespace L2
open PySem.W
open PySem PySem.Spec PyProof.Rows
abbrev TO:=St->Hp->(Option Int->Hp->Prop)->Prop
def PO(X:Cx)(e:Option Expr)(t:TO):Prop :=
 ∀(pins:PNz)(s:Shared)(σ:St)(H:Hp)(Q:Option Int->Hp->Prop),Inv X pins σ H s->t σ H Q ->
  wpAny (model X.prog X.w) X.A (evalPart e X.env) (λ u s'=>∃o H',Inv X pins σ H' s'/\IsPart u o/\Q o H') X.xe s
def P4:TO:=λ_ H Q=>Q none H
def RG(t:TE):TO:=λ σ H Q=>t σ H λ x H1=>∃i,x=.int i/\Q (some i) H1
theorem Eg{ns:List Int}:∀{us:LWz},Vals (ns.map V.int) us->IntsAre us ns:=by
 induction ns with
 |nil=>intro us r;rw[List.map_nil]at r;cases r;exact .nil
 |cons n ns ih =>
  intro us r;rw[List.map_cons]at r;cases r with
  |cons r1 r2 =>
   obtain⟨t,e⟩:=r1;subst e;exact .cons n t (ih r2)
section
variable{X:Cx}{e:Expr}{te:TE}{lo hi:Option Expr}{tl th:TO}{pos p2:Pos}
theorem MK:PO X none P4:=by
 intro pins s σ H Q I h;rw[evalPart_none];exact wpAny_pure ⟨none,H,I,.none,h⟩
theorem FG(h:PE X e te):PO X (some e) (RG te):=by
 intro pins s σ H Q I hw;rw[evalPart_some];refine thn (h pins s σ H _ I hw) λ u s1 hz_=>?_;obtain⟨x,H1,I1,r1,q1⟩:=hz_;obtain⟨i,rfl,q⟩:=q1;obtain⟨t,rfl⟩:=r1;exact⟨some i,H1,I1,.int i t,q⟩
def SlR(X:Cx)(r:V->Option Int->Option Int->Hp->VK->Prop):Prop :=
 ∀(pins:PNz)(s:Shared)(σ:St)(H:Hp)(x:V)(v vl vu:Value)(lo hi:Option Int)(sl:Addr)(Q:VK),Inv X pins σ H s->RelV x v->s.heap.IsSliceOf sl vl vu .none->IsPart vl lo->IsPart vu hi->r x lo hi H Q ->
  ∃T id,typeLookup (.type T) "__getitem__"=pure (some (.builtin id))/\s.TypeIs v T/\wpAny (model X.prog X.w) X.A (getItem v (.ref sl)) (EP X pins σ Q) X.xe s
def tSl(r:V->Option Int->Option Int->Hp->VK->Prop)(te:TE)(tl th:TO):TE:=λ σ H Q=>te σ H λ x H1=>tl σ H1 λ l H2=>th σ H2 λ u H3=>r x l u H3 Q
theorem Gr{r:V->Option Int->Option Int->Hp->VK->Prop}(hr:SlR X r)(he:PE X e te)(hl:PO X lo tl)(hu:PO X hi th):PE X (.Subscript e (.Slice lo hi none p2) pos) (tSl r te tl th):=by
 intro pins s σ H Q I h;refine Subscript_ (thn (he pins s σ H _ I h) λ v s1 hz_=>?_);obtain⟨x,H1,I1,r1,q1⟩:=hz_;refine wpAny_Slice (thn (hl pins s1 σ H1 _ I1 q1) λ vl s2 hz_=>?_);obtain⟨l,H2,I2,pl,q2⟩:=hz_;refine thn (hu pins s2 σ H2 _ I2 q2) λ vu s3 hz_=>?_;obtain⟨u,H3,I3,pu,q3⟩:=hz_;rw[evalPart_none];refine wpAny_pure ?_;have I4:Inv X pins σ H3 { s3 with heap:=s3.heap.push { cls:=.type "slice",data:=.fields #[vl,vu,.none] } }:=I3.kept (t':=s3.toks) λ b ob q=>Heap.get?_push_of_some _ q;obtain⟨T,id,hT,ht,hg⟩:=hr pins { s3 with heap:=s3.heap.push { cls:=.type "slice",data:=.fields #[vl,vu,.none] } } σ H3 x v vl vu l u s3.heap.objs.size Q I4 r1 (Heap.IsSliceOf.new ..) pl pu q3;show wpAny (model X.prog X.w) X.A (subscriptTail e (.Slice lo hi none p2) v (.ref s3.heap.objs.size)) (EP X pins σ Q) X.xe { s3 with heap:=s3.heap.push { cls:=.type "slice",data:=.fields #[vl,vu,.none] } };exact tail_any (ops:=[.ref s3.heap.objs.size,v]) ht hT hg (by with_unfolding_all rfl)
def Ht(xs:LUz)(lo hi:Option Int):LUz:=(xs.drop (HT.sIx xs.length 0 lo)).take (HT.sIx xs.length xs.length hi-HT.sIx xs.length 0 lo)
theorem Ft(xs:LUz)(lo hi:Option Int):(Ht xs lo hi).length<=xs.length:=by
 unfold Ht;rw[List.length_take,List.length_drop];lia
def SX(K:Frag):V->Option Int->Option Int->Hp->VK->Prop:=λ x lo hi H Q=>∃a xs,x=.ref a/\SqT K H a xs /\
 ¬(HT.sIx xs.length 0 lo=0/\HT.sIx xs.length xs.length hi=xs.length)/\∀p,H p=none->Q (.ref p) (upd H p (.tup (Ht xs lo hi)))
theorem QU:SlR X (SX X.K):=by
 intro pins s σ H x v vl vu lo hi sl Q I rx hs pl pu h;obtain⟨a,xs,rfl,hx,hw,q⟩:=h;cases rx;obtain⟨its,r,ht,hz⟩:=I.tuple hx;have hlen:its.toArray.size=xs.length:=by rw[List.size_toArray];exact r.length.symm
 refine⟨"tuple",_,PyProof.Rows.slot_tuple_getitem.lookup,ht.typeIs,?_⟩;refine HT.getItem_tuple_cut ht hs pl pu (by rw[hlen];exact hw) ?_ (by rw[hlen];exact hz);rw[hlen];refine⟨.ref s.heap.objs.size,_,I.laid (t':=s.toks) (o:=.tup (Ht xs lo hi)) (λ b ob q=>Heap.get?_push_of_some _ q) (Nat.le_refl _) ?_,rfl,q _ (I.hok.fresh (Nat.le_refl _))⟩;exact⟨Nat.le_trans (Ft xs lo hi) hz,_,(r.drop (HT.sIx xs.length 0 lo)).take (HT.sIx xs.length xs.length hi-HT.sIx xs.length 0 lo),IsTup.new _ _⟩
end
def ixN(n:Nat)(i:Int):Option Nat:=if 0<=i then (if i<n then some i.toNat else none) else if -(n:Int)<=i then some (i+n).toNat else none
def atI{α:Type}(xs:List α)(i:Int):Option α:=(ixN xs.length i).bind λ j=>xs[j]?
theorem Qe{n:Nat}{i:Int}{j:Nat}(h:ixN n i=some j):seqIndex? i n=some j/\j<n/\-(n:Int)<=i/\i<n:=by
 unfold ixN at h;by_cases h0:0<=i
 .rw[if_pos h0]at h;by_cases h1:i<n
  .rw[if_pos h1]at h;have e:i.toNat=j:=Option.some.inj h;exact⟨by rw[seqIndex_of h0 h1,e],by lia,by lia,h1⟩
  .rw[if_neg h1]at h;cases h
 .rw[if_neg h0]at h;by_cases h1:-(n:Int)<=i
  .rw[if_pos h1]at h;have e:(i+n).toNat=j:=Option.some.inj h;exact⟨by rw[seqIndex_neg (by lia) h1,e],by lia,h1,by lia⟩
  .rw[if_neg h1]at h;cases h
theorem Nk{α:Type}{xs:List α}{i:Int}{v:α}(h:atI xs i=some v):∃j,seqIndex? i xs.length=some j/\xs[j]?=some v/\j<xs.length/\-(xs.length:Int)<=i/\i<xs.length:=by
 unfold atI at h;cases e:ixN xs.length i with
 |none=>rw[e]at h;cases h
 |some j =>
  rw[e]at h;obtain⟨h1,h2,h3,h4⟩:=Qe e;exact⟨j,h1,h,h2,h3,h4⟩
theorem B3{α:Type}{xs:List α}{j:Nat}{v:α}(h:xs[j]?=some v):atI xs (j:Int)=some v:=by
 have hj:j<xs.length:=(List.getElem?_eq_some_iff.mp h).1;have e:ixN xs.length (j:Int)=some j:=by
  unfold ixN;rw[if_pos (by lia),if_pos (by lia)];simp
 unfold atI;rw[e];exact h
def Qv(b:Expr):Prop:=∀o i,subscripted b false o i=operate [o,i] (getItem o i)
def IxR(X:Cx)(r:R2):Prop :=
 ∀(value slice:Expr)(pins:PNz)(s:Shared)(σ:St)(H:Hp)(x y:V)(v u:Value)(Q:VK),Inv X pins σ H s->RelV x v->RelV y u->r x y H Q ->
  subscripted slice false v u=operate [v,u] (getItem v u)->wpAny (model X.prog X.w) X.A (subscriptTail value slice v u) (EP X pins σ Q) X.xe s
def MtR(X:Cx)(id:String)(r:V->LUz->Hp->VK->Prop):Prop :=
 ∀(pins:PNz)(s:Shared)(σ:St)(H:Hp)(x:V)(xs:LUz)(v:Value)(us:LWz)(Q:VK),Inv X pins σ H s->RelV x v->Vals xs us->r x xs H Q ->
  wpAny (model X.prog X.w) X.A (call (.builtin id) (v::us)) (EP X pins σ Q) X.xe s
section
variable{X:Cx}{a b:Expr}{ta tb:TE}{pos:Pos}
theorem Ao{r:R2}(hr:IxR X r)(ha:PE X a ta)(hb:PE X b tb)(hs:Qv b):PE X (.Subscript a b pos) (tOp r ta tb):=by
 intro pins s σ H Q I h;exact Subscript_ (Rz ha hb I h λ v u s2 x y H2 I2 rx ry q=>hr a b pins s2 σ H2 x y v u Q I2 rx ry q (hs _ _))
inductive SA(K:Frag)(x y:V)(H:Hp)(Q:VK):Prop
 |mk (p:Addr) (xs:LUz) (i:Int) (v:V) (e1:x=.ref p) (e2:y=.int i) (s:SqL K H p xs) (a:atI xs i=some v) (q:Q v H):SA K x y H Q
inductive S9(K:Frag)(x y:V)(H:Hp)(Q:VK):Prop
 |mk (p:Addr) (xs:LUz) (i:Int) (v:V) (e1:x=.ref p) (e2:y=.int i) (s:SqT K H p xs) (a:atI xs i=some v) (q:Q v H):S9 K x y H Q
def RX(K:Frag):R2:=λ x y H Q=>SA K x y H Q
def RW(K:Frag):R2:=λ x y H Q=>S9 K x y H Q
theorem Cc:IxR X (RX X.K):=by
 intro value slice pins s σ H x y v u Q I rx ry h hs;obtain⟨p,xs,i,z,rfl,rfl,hq,he,q⟩:=h;cases rx;obtain⟨t,rfl⟩:=ry;obtain⟨its,r,pl,hz⟩:=I.list hq;obtain⟨j,h1,h2,h3,h4,h5⟩:=Nk he;obtain⟨w,ew,rw'⟩:=r.get h2;have hl:=r.length;have hn:=Js;have fin:EP X pins σ Q w s:=⟨z,H,I,rw',q⟩;by_cases h0:0<=i
 .have hj:i.toNat=j:=by
   rw[seqIndex_of h0 h5]at h1;exact Option.some.inj h1
  exact item_listR pl.isList h0 (by lia) (by rw[hj];simpa using ew) fin hs
 .have hj:(i+(its.toArray.size:Int)).toNat=j:=by
   rw[seqIndex_neg (by lia) h4]at h1;rw[List.size_toArray,<-hl];exact Option.some.inj h1
  exact subscriptTail_builtinR (x:=w) pl.isList.typeIs slot_list_getitem.lookup
   (wpAny_getItem_list_neg (Q:=λ r s'=>r=w/\EP X pins σ Q r s') pl.isList (by lia) (by rw[List.size_toArray]<;>lia) (by lia) (by rw[hj];simpa using ew) ⟨rfl,fin⟩) hs
theorem Ak:IxR X (RW X.K):=by
 intro value slice pins s σ H x y v u Q I rx ry h hs;obtain⟨p,xs,i,z,rfl,rfl,hq,he,q⟩:=h;cases rx;obtain⟨t,rfl⟩:=ry;obtain⟨its,r,pl,hz⟩:=I.tuple hq;obtain⟨j,h1,h2,h3,h4,h5⟩:=Nk he;obtain⟨w,ew,rw'⟩:=r.get h2;have hl:=r.length;have hn:=Js;have fin:EP X pins σ Q w s:=⟨z,H,I,rw',q⟩;exact subscriptTail_builtinR (x:=w) pl.typeIs slot_tuple_getitem.lookup
  (getItem_tuple (j:=j) (Q:=λ r s'=>r=w/\EP X pins σ Q r s') pl (by lia) (by lia) (by rw[List.size_toArray,<-hl];exact h1) (by simpa using ew) ⟨rfl,fin⟩) hs
theorem IT(lo hi:Option Int)(n:Nat):(sliceBounds lo hi none n).1=((HT.sIx n 0 lo:Nat):Int)/\(sliceBounds lo hi none n).2.1=((HT.sIx n n hi:Nat):Int)/\(sliceBounds lo hi none n).2.2=1:=by
 refine⟨?_,?_,rfl⟩
 .cases lo with
  |none=>simp[sliceBounds,HT.sIx]
  |some i =>
   simp only[sliceBounds,HT.sIx,Option.getD_none,show(1:Int)>0 by decide,if_true];by_cases h:i<0
   .simp only[h,if_true]<;>lia
   .simp only[h,if_false]<;>lia
 .cases hi with
  |none=>simp[sliceBounds,HT.sIx]
  |some i =>
   simp only[sliceBounds,HT.sIx,Option.getD_none,show(1:Int)>0 by decide,if_true];by_cases h:i<0
   .simp only[h,if_true]<;>lia
   .simp only[h,if_false]<;>lia
theorem Hl(its:LWz)(lo hi:Option Int):slicePick its.toArray lo hi none=((its.drop (HT.sIx its.length 0 lo)).take (HT.sIx its.length its.length hi-HT.sIx its.length 0 lo)).toArray:=by
 obtain⟨h1,h2,h3⟩:=IT lo hi its.toArray.size;unfold slicePick;rw[h1,h2,h3];simp only[sliceRange_one,pick_run,List.size_toArray]<;>rfl
def SY(K:Frag):V->Option Int->Option Int->Hp->VK->Prop:=λ x lo hi H Q=>∃a xs,x=.ref a/\SqL K H a xs/\∀p,H p=none->Q (.ref p) (upd H p (.lst (Ht xs lo hi)))
theorem MD:SlR X (SY X.K):=by
 intro pins s σ H x v vl vu lo hi sl Q I rx hs pl pu h;obtain⟨a,xs,rfl,hx,q⟩:=h;cases rx;obtain⟨its,r,ht,hz⟩:=I.list hx;have hlen:=r.length;refine⟨"list",_,slot_list_getitem.lookup,ht.isList.typeIs,?_⟩;refine wpAny_getItem_list_slice ht.isList hs pl pu .none (by simp) ?_ (by rw[List.size_toArray]<;>lia);rw[Hl,<-hlen];refine⟨.ref s.heap.objs.size,_,I.laid (t':=s.toks) (o:=.lst (Ht xs lo hi)) (λ b ob q=>Heap.get?_push_of_some _ q) (Nat.le_refl _) ?_,rfl,q _ (I.hok.fresh (Nat.le_refl _))⟩;exact⟨Nat.le_trans (Ft xs lo hi) hz,_,0,(r.drop (HT.sIx xs.length 0 lo)).take (HT.sIx xs.length xs.length hi-HT.sIx xs.length 0 lo),Heap.get?_push_size _ rfl⟩
def Co:V->Bool
 |.non=>true
 |.bl _=>true
 |.int _=>true
 |.str _=>true
 |_=>false
def eqV:V->V->Bool
 |.non,.non=>true
 |.bl a,.bl b=>a==b
 |.bl a,.int b=>(if a then 1 else 0)==b
 |.int a,.bl b=>a==(if b then 1 else 0)
 |.int a,.int b=>a==b
 |.str a,.str b=>a==b
 |_,_=>false
theorem Mg{A:Around}{s:Shared}{y x:V}{u v:Value}(ry:RelV y u)(rx:RelV x v)(fy:Co y=true)(fx:Co x=true):SeqAt.EqAt A s u v (eqV y x):=by
 cases y with
 |non =>
  cases ry;cases x with
  |non=>cases rx;exact SeqAt.EqAt.same _
  |bl b=>cases rx;exact SeqAt.EqAt.none_bool b
  |int b=>obtain⟨t,rfl⟩:=rx;exact SeqAt.EqAt.none_int b t
  |str b=>obtain⟨t,rfl⟩:=rx;exact SeqAt.EqAt.none_str b t
  |_=>exact absurd (show false=true from fx) Bool.false_ne_true
 |bl a =>
  cases ry;cases x with
  |non=>cases rx;exact SeqAt.EqAt.bool_none a
  |bl b=>cases rx;exact SeqAt.EqAt.bool_bool a b
  |int b=>obtain⟨t,rfl⟩:=rx;exact SeqAt.EqAt.bool_int a b t
  |str b=>obtain⟨t,rfl⟩:=rx;exact SeqAt.EqAt.bool_str a b t
  |_=>exact absurd (show false=true from fx) Bool.false_ne_true
 |int a =>
  obtain⟨t',rfl⟩:=ry;cases x with
  |non=>cases rx;exact SeqAt.EqAt.int_none a t'
  |bl b=>cases rx;exact SeqAt.EqAt.int_bool a t' b
  |int b=>obtain⟨t,rfl⟩:=rx;exact SeqAt.EqAt.int_int a t' b t
  |str b=>obtain⟨t,rfl⟩:=rx;exact SeqAt.EqAt.int_str a t' b t
  |_=>exact absurd (show false=true from fx) Bool.false_ne_true
 |str a =>
  obtain⟨t',rfl⟩:=ry;cases x with
  |non=>cases rx;exact SeqAt.EqAt.str_none a t'
  |bl b=>cases rx;exact SeqAt.EqAt.str_bool a t' b
  |int b=>obtain⟨t,rfl⟩:=rx;exact SeqAt.EqAt.str_int a t' b t
  |str b=>obtain⟨t,rfl⟩:=rx;exact SeqAt.EqAt.str_str a t' b t
  |_=>exact absurd (show false=true from fx) Bool.false_ne_true
 |_=>exact absurd (show false=true from fy) Bool.false_ne_true
def eqU(x:V)(u:Value):Bool:=match u with
 |.none=>eqV .non x
 |.bool b=>eqV (.bl b) x
 |.int i _=>eqV (.int i) x
 |.str z _=>eqV (.str z) x
 |_=>false
theorem Pb{x y:V}{u:Value}(r:RelV y u)(f:Co y=true):eqU x u=eqV y x:=by
 cases y with
 |non=>cases r;rfl
 |bl b=>cases r;rfl
 |int i=>obtain⟨t,rfl⟩:=r;rfl
 |str z=>obtain⟨t,rfl⟩:=r;rfl
 |_=>exact absurd (show false=true from f) Bool.false_ne_true
theorem JJ{x:V}:∀{xs:LUz}{us:LWz},Vals xs us->xs.all Co=true->us.any (eqU x)=xs.any λ y=>eqV y x
 |_,_,.nil,_=>rfl
 |y::xs,u::us,.cons r t,f=>by
  rw[List.all_cons,Bool.and_eq_true]at f;rw[List.any_cons,List.any_cons,Pb r f.1,JJ t f.2]
theorem G1{A:Around}{s:Shared}{x:V}{v:Value}(rx:RelV x v)(fx:Co x=true):∀{xs:LUz}{us:LWz},Vals xs us->xs.all Co=true->∀u∈us,SeqAt.EqAt A s u v (eqU x u)
 |_,_,.nil,_=>λ u hu=>by cases hu
 |y::xs,u::us,.cons r t,f=>λ u' hu=>by
  rw[List.all_cons,Bool.and_eq_true]at f;rcases List.mem_cons.mp hu with rfl|hu
  .rw[Pb r f.1];exact Mg r rx f.1 fx
  .exact G1 rx fx t f.2 u' hu
def inV(x:V)(xs:LUz):Bool:=xs.any λ y=>eqV y x
def rIn(K:Frag)(neg:Bool):R2:=λ x y H Q=>∃p xs,y=.ref p/\(SqL K H p xs\/SqT K H p xs)/\Co x=true/\xs.all Co=true/\Q (.bl (if neg then !inV x xs else inV x xs)) H
theorem N8:OpR X (compareOp .In) (rIn X.K false):=by
 intro pins s σ H x y v u Q I rx ry h;obtain⟨p,xs,rfl,hq,fx,fs,q⟩:=h;cases ry;rcases hq with hq|hq
 .obtain⟨its,r,pl,hz⟩:=I.list hq;refine SeqAt.in_listAt (eqU x) pl.isList (λ w hw=>G1 rx fx r fs w (by simpa using hw)) ⟨.bl _,H,I,rfl,?_⟩;rw[show its.toArray.any (eqU x)=its.any (eqU x) by simp,JJ r fs];exact q
 .obtain⟨its,r,pl,hz⟩:=I.tuple hq;refine SeqAt.in_tupleAt (eqU x) pl (λ w hw=>G1 rx fx r fs w (by simpa using hw)) ⟨.bl _,H,I,rfl,?_⟩;rw[show its.toArray.any (eqU x)=its.any (eqU x) by simp,JJ r fs];exact q
theorem AK:Dc X (.builtin "len") (λ xs H Q=>∃p ys,xs=[.ref p]/\(SqL X.K H p ys\/SqT X.K H p ys)/\Q (.int ys.length) H):=by
 intro pins s σ H xs us Q I r h;obtain⟨p,ys,rfl,hq,q⟩:=h;obtain⟨u,rfl,rx⟩:=Ev r;cases rx;have hn:=Js;rcases hq with hq|hq
 .obtain⟨its,r',pl,hz⟩:=I.list hq;have hlen:=r'.length;exact Calls.call_len_list pl.isList (by simp only[List.size_toArray]<;>lia) ⟨.int ys.length,H,I.tok _,⟨s.toks+1,by rw[List.size_toArray,hlen]⟩,q⟩
 .obtain⟨its,r',pl,hz⟩:=I.tuple hq;have hlen:=r'.length;exact len_tuple pl (by simp only[List.size_toArray]<;>lia) ⟨.int ys.length,H,I.tok _,⟨s.toks+1,by rw[List.size_toArray,hlen]⟩,q⟩
theorem JI:Dc X (.type "list") (λ xs H Q=>∃p ys,xs=[.ref p]/\(SqL X.K H p ys\/SqT X.K H p ys)/\∀l,H l=none->Q (.ref l) (upd H l (.lst ys))):=by
 intro pins s σ H xs us Q I r h;obtain⟨p,ys,rfl,hq,q⟩:=h;obtain⟨u,rfl,rx⟩:=Ev r;cases rx;have fin:∀(its:LWz),Vals ys its->ys.length<=sizeLine->∀(h':Heap)(c':Nat),(∀b o',s.heap.get? b=some o'->h'.get? b=some o') ->
   h'.get? s.heap.objs.size=some { cls:=.type "list",dict:=none,data:=.seq its.toArray c',slots:=#[] }->EP X pins σ Q (.ref s.heap.objs.size) { s with heap:=h' }:=λ its r' hz h' c' kp e =>
  ⟨.ref s.heap.objs.size,_,I.laid (t':=s.toks) kp (Nat.le_refl _) (show ObjOk X.prog X.w _ h' _ (.lst ys) from ⟨hz,its,c',r',e⟩),rfl,q _ (I.hok.fresh (Nat.le_refl _))⟩
 rcases hq with hq|hq
 .obtain⟨its,r',pl,hz⟩:=I.list hq;have hlen:=r'.length;obtain⟨o,ho,hc,n,hd⟩:=pl.isList;exact call_list_seq p (.inl rfl) ho hc hd (λ h' c' kp e=>fin its r' hz h' c' kp e) (by simp only[List.size_toArray]<;>lia)
 .obtain⟨its,r',pl,hz⟩:=I.tuple hq;have hlen:=r'.length;obtain⟨o,ho,hc,n,hd⟩:=pl;exact call_list_seq p (.inr rfl) ho hc hd (λ h' c' kp e=>fin its r' hz h' c' kp e) (by simp only[List.size_toArray]<;>lia)
def tyV(K:Frag)(T:String)(x:V)(H:Hp):Prop:=match x with
 |.str _=>T="str"
 |.int _=>T="int"
 |.ref p=>(T="list"/\∃xs,SqL K H p xs)\/(T="tuple"/\∃o,K.lookup p=some o/\o.cls=.type "tuple"/\o.dict=none) \/
   (T="dict"/\((∃kvs,H p=some (.dK kvs))\/∃kvs,H p=some (.dT kvs)))\/(T="set"/\∃S n,H p=some (.set S n))
 |_=>False
theorem Oq{pins:PNz}{σ:St}{H:Hp}{s:Shared}{T:String}{x:V}{v:Value}(I:Inv X pins σ H s)(r:RelV x v)(ty:tyV X.K T x H) :
  s.TypeIs v T/\∀a,v=.ref a->∃ob,s.heap.get? a=some ob/\ob.dict=none:=by
 cases x with
 |str z =>
  obtain⟨t,rfl⟩:=r;cases(show T="str" from ty);exact⟨typeIs_str s z t,λ_ e=>nomatch e⟩
 |int i =>
  obtain⟨t,rfl⟩:=r;cases(show T="int" from ty);exact⟨typeIs_int s i t,λ_ e=>nomatch e⟩
 |ref p =>
  cases r;rcases ty with ⟨rfl,xs,hq⟩|⟨rfl,o,hk,hc,hd⟩|⟨rfl,hk⟩|⟨rfl,S,n,hk⟩
  .obtain⟨its,_,pl,_⟩:=I.list hq;refine⟨pl.isList.typeIs,λ a e=>?_⟩;cases e;obtain⟨o,n,e,c,hd,_⟩:=pl;exact⟨o,e,hd⟩
  .refine⟨⟨o,I.kIn p o hk,hc⟩,λ a e=>?_⟩;cases e;exact⟨o,I.kIn _ o hk,hd⟩
  .have z:∃o,s.heap.get? p=some o/\o.ExactDict:=by
    rcases hk with ⟨kvs,hk⟩|⟨kvs,hk⟩
    .obtain⟨_,_,_,_,o,_,_,e,ex,_⟩:=I.hok p _ hk;exact⟨o,e,ex⟩
    .obtain⟨_,_,_,_,o,_,_,e,ex,_⟩:=I.hok p _ hk;exact⟨o,e,ex⟩
   obtain⟨o,e,ex⟩:=z;refine⟨⟨o,e,ex.1⟩,λ a e2=>?_⟩;cases e2;exact⟨o,e,ex.2.1⟩
  .obtain⟨o,_,_,_,e,ex,_⟩:=I.hok p _ hk;refine⟨⟨o,e,ex.1⟩,λ a e2=>?_⟩;cases e2;exact⟨o,e,ex.2.1⟩
 |_=>exact False.elim ty
def SQ(K:Frag)(T:String)(r:V->LUz->Hp->VK->Prop)(to:TE):TE:=λ σ H Q=>to σ H λ x H1=>tyV K T x H1/\r x [] H1 Q
def tBM(K:Frag)(T:String)(r:V->LUz->Hp->VK->Prop)(to:TE)(t:TA):TE:=λ σ H Q=>to σ H λ x H1=>tyV K T x H1/\t σ H1 λ xs H2=>r x xs H2 Q
variable{o e:Expr}{es:List Expr}{to:TE}{t:TA}{name:Str}{apos cpos:Pos}{T id:String}{r:V->LUz->Hp->VK->Prop}
theorem Jd(pa:PlainAttrs T)(slot:Slot T name id)(hty:typeOf (.builtin id)=pure (.type "method_descriptor"))(hm:MtR X id r)(ho:PE X o to)
  (hbase:attributeBase o name X.env (eval o X.env)=eval o X.env:=by rfl) (hline:(apos.endLine==cpos.line)=true:=by rfl):PE X (.Call (.Attribute o name apos) [] [] cpos) (SQ X.K T r to):=by
 intro pins s σ H Q I h;refine wpAny_Call_method0_late hbase hline (thn (ho pins s σ H _ I h) λ v s1 hz_=>?_);obtain⟨x,H1,I1,r1,ty,q1⟩:=hz_;obtain⟨h1,h2⟩:=Oq I1 r1 ty;exact⟨T,id,pa,slot,hty,h1,h2,Calls.callWith_builtin rfl (PySem.evalArgs_none (hm pins s1 σ H1 x [] v [] Q I1 r1 .nil q1))⟩
theorem DQ(pa:PlainAttrs T)(slot:Slot T name id)(hty:typeOf (.builtin id)=pure (.type "method_descriptor"))(hm:MtR X id r)(ho:PE X o to)(ha:PA X (e::es) t)
  (hbase:attributeBase o name X.env (eval o X.env)=eval o X.env:=by rfl)
  (hfew:((backTo cpos (starEach (e::es) X.env)).all (λ x=>!x.1)&&(backToKw cpos (keywordEach [] X.env)).all (λ x=>x.1.isSome)
  &&decide ((e::es).length+([]:List Keyword).length+(if ([]:List Keyword).isEmpty then 0 else 1)<30))=true:=by rfl)
  (hline:(apos.endLine==cpos.line)=true:=by rfl) (hs:starEach (e::es) X.env=(false,eval e X.env)::starEach es X.env:=by rfl) (hplain:(backTo cpos (starEach es X.env)).any (·.1)=false:=by rfl) :
  PE X (.Call (.Attribute o name apos) (e::es) [] cpos) (tBM X.K T r to t):=by
 intro pins s σ H Q I h;refine wpAny_Call_method_late hbase hfew hline rfl (thn (ho pins s σ H _ I h) λ v s1 hz_=>?_);obtain⟨x,H1,I1,r1,ty,q1⟩:=hz_;obtain⟨h1,h2⟩:=Oq I1 r1 ty;refine⟨T,id,pa,slot,hty,h1,h2,?_⟩;have hA:=ha cpos pins s1 σ H1 _ I1 q1;rw[hs]at hA |-;refine Calls.callWith_builtin (by show(false||(backTo cpos (starEach es X.env)).any (·.1))=false;rw[hplain]<;>rfl) (Calls.evalArgs_plain ?_);exact thn hA λ us s2 ⟨vs,H2,I2,r2,q2⟩=>hm pins s2 σ H2 x vs v us Q I2 r1 r2 q2
/- xs.append(e),list.index on a module's tuple .. are MtR facts of 06m -/
end
def MtM(X:Cx)(id:String)(r:V->LUz->Hp->VK->Prop):Prop :=
 ∀(pins:PNz)(s:Shared)(σ:St)(H:Hp)(x:V)(xs:LUz)(v:Value)(us:LWz)(Q:VK),Inv X pins σ H s->RelV x v->Vals xs us->r x xs H Q ->
  wpAny (model X.prog X.w) X.A (call (.builtin id) (v::us)) (EP X pins σ Q) X.xe s
theorem Vals.one:∀{x:V}{us:LWz},Vals [x] us->∃u,us=[u]/\RelV x u
 |_,_,.cons r .nil=>⟨_,rfl,r⟩
theorem Vals.zero:∀{us:LWz},Vals [] us->us=[]
 |_,.nil=>rfl
theorem Vals.dropLast{xs:LUz}{us:LWz}(h:Vals xs us):Vals xs.dropLast us.dropLast:=by
 induction h with
 |nil=>exact .nil
 |cons r t ih =>
  cases t with
  |nil=>exact .nil
  |cons q t'=>exact .cons r ih
theorem Mf{α:Type}(l:List α):l.eraseIdx (l.length-1)=l.dropLast:=by
 induction l with
 |nil=>rfl
 |cons a r ih =>
  cases r with
  |nil=>rfl
  |cons b r =>
   have e:(a::b::r).length-1=((b::r).length-1)+1:=by
    have h1:(a::b::r).length=r.length+2:=rfl;have h2:(b::r).length=r.length+1:=rfl;lia
   rw[e,List.eraseIdx_cons_succ,ih]
   all_goals rfl
section
variable{X:Cx}{pins:PNz}{σ:St}{H:Hp}{s:Shared}{l b:Addr}{xs ys zs:LUz}
theorem Inv.lset{its its':LWz}{n:Nat}{f:Array Value->Array Value}{t':Nat}(I:Inv X pins σ H s)(hH:H l=some (.lst xs))
  (e:s.heap.get? l=some { cls:=.type "list",data:=.seq its.toArray n }) (hf:f its.toArray=its'.toArray) (hv:Vals ys its') (hz:ys.length<=sizeLine) :
  Inv X pins σ (upd H l (.lst ys)) { s with heap:=s.heap.update l (Obj.mapSeq f),toks:=t' }:=by
 have q:=PySem.IsL.update e f;rw[hf]at q;refine I.write (x:=l) (e:=l) (by rw[hH];exact trivial) (.inl rfl) (λ b' u hb hu=>(Heap.get?_update_other s.heap (Obj.mapSeq f) (Ne.symm hb)).trans hu) ⟨_,q⟩ ?_;exact⟨hz,its',_,hv,q⟩
theorem Inv.lnew{its:LWz}{t':Nat}(I:Inv X pins σ H s)(hv:Vals ys its)(hz:ys.length<=sizeLine) :
  Inv X pins σ (upd H s.heap.objs.size (.lst ys)) { s with heap:=s.heap.push { cls:=.type "list",data:=.seq its.toArray },toks:=t' } :=
 I.laid (λ_ _ q=>Heap.get?_push_of_some _ q) (Nat.le_refl _) ⟨hz,its,0,hv,Heap.get?_push_size _ rfl⟩
theorem Inv.fresh(I:Inv X pins σ H s):H s.heap.objs.size=none:=I.hok.fresh (Nat.le_refl _)
theorem Inv.lstM(I:Inv X pins σ H s)(hH:H l=some (.lst xs)):xs.length<=sizeLine/\∃(its:LWz)(n:Nat),Vals xs its/\xs.length=its.length/\s.heap.get? l=some { cls:=.type "list",data:=.seq its.toArray n }:=by
 obtain⟨z,its,n,r,e⟩:=I.hok l _ hH;exact⟨z,its,n,r,r.length,e⟩
theorem OG{n:Nat}(h:n<=sizeLine):Builtin.List.listTooLong n=false:=by
 unfold Builtin.List.listTooLong;exact decide_eq_false (by lia)
end
section
variable{X:Cx}
def PM:V->LUz->Hp->VK->Prop:=λ x vs H Q=>∃l xs y,x=.ref l/\vs=[y]/\H l=some (.lst xs)/\xs.length<sizeLine/\Q .non (upd H l (.lst (xs++[y])))
theorem Bc:MtM X "list.append" PM:=by
 intro pins s σ H x vs v us Q I rx rv h;obtain⟨l,xs,y,rfl,rfl,hH,hz,q⟩:=h;cases rx;obtain⟨u,rfl,ru⟩:=rv.one;obtain⟨z,its,n,r,hl,e⟩:=I.lstM hH;refine call_meets F.slot_list_append ⟨_,e,rfl⟩ F.entry_list_append (F.args_list_append_2 _ _) (PySem.list_append l its.toArray n u (by rw[List.size_toArray];lia)) ⟨e,?_⟩;refine⟨.non,_,I.lset (its':=its++[u]) hH e (by simp) (r.append (.cons ru .nil)) ?_,rfl,q⟩;rw[List.length_append,List.length_singleton];lia
def PL:V->LUz->Hp->VK->Prop:=λ x vs H Q=>∃l b xs zs,x=.ref l/\vs=[.ref b]/\H l=some (.lst xs)/\H b=some (.lst zs)/\xs.length+zs.length<=sizeLine/\Q .non (upd H l (.lst (xs++zs)))
theorem ND:MtM X "list.extend" PL:=by
 intro pins s σ H x vs v us Q I rx rv h;obtain⟨l,b,xs,zs,rfl,rfl,hH,hB,hz,q⟩:=h;cases rx;obtain⟨u,rfl,ru⟩:=rv.one;cases ru;obtain⟨z,its,n,r,hl,e⟩:=I.lstM hH;obtain⟨z2,its2,n2,r2,hl2,e2⟩:=I.lstM hB;have hsz:its.toArray.size+its2.toArray.size<=sizeLine:=by rw[List.size_toArray,List.size_toArray];lia
 have hlong:¬(!its.toArray.isEmpty&&Builtin.List.listTooLong (its.toArray.size+its2.toArray.size))=true:=by
  rw[OG hsz,Bool.and_false];exact Bool.false_ne_true
 refine call_meets F.slot_list_extend ⟨_,e,rfl⟩ F.entry_list_extend (F.args_list_extend_2 _ _)
  (AutoSeq1.list_extend_list_list_0 l its.toArray n b its2.toArray n2 hlong (by rw[List.size_toArray];lia) (by lia)) ⟨e,e2,?_⟩
 refine⟨.non,_,I.lset (its':=its++its2) hH e (by simp) (r.append r2) ?_,rfl,q⟩;rw[List.length_append];lia
def SZ:V->LUz->Hp->VK->Prop:=λ x vs H Q=>∃l xs y,x=.ref l/\vs=[]/\H l=some (.lst xs)/\xs[xs.length-1]?=some y/\Q y (upd H l (.lst xs.dropLast))
theorem Jo:MtM X "list.pop" SZ:=by
 intro pins s σ H x vs v us Q I rx rv h;obtain⟨l,xs,y,rfl,rfl,hH,hy,q⟩:=h;cases rx;have hus:=rv.zero;subst hus;obtain⟨z,its,n,r,hl,e⟩:=I.lstM hH;obtain⟨u,hu,ru⟩:=r.get hy;have hy':its.toArray[its.toArray.size-1]?=some u:=by
  show its.toArray[its.length-1]?=some u;rw[<-Array.getElem?_toList,<-hl];exact hu
 refine call_meets F.slot_list_pop ⟨_,e,rfl⟩ F.entry_list_pop (F.args_list_pop_1 _) (MeetsSeq.list_pop_last l its.toArray n u hy' (by rw[List.size_toArray];lia)) ⟨e,?_⟩;refine⟨y,_,I.lset (its':=its.dropLast) hH e ?_ r.dropLast ?_,ru,q⟩
 .show its.toArray.eraseIdxIfInBounds (its.toArray.size-1)=its.dropLast.toArray;rw[List.size_toArray,List.eraseIdxIfInBounds_toArray,Mf]
 .rw[List.length_dropLast];lia
inductive SC(x y:V)(H:Hp)(Q:VK):Prop
 |mk (l b:Addr) (xs zs:LUz) (e1:x=.ref l) (e2:y=.ref b) (h1:H l=some (.lst xs)) (h2:H b=some (.lst zs)) (n:xs.length+zs.length<=sizeLine) (q:∀p,H p=none->Q (.ref p) (upd H p (.lst (xs++zs)))):SC x y H Q
def Ta:R2:=λ x y H Q=>SC x y H Q
theorem LH:OpR X (binaryOp .Add) Ta:=by
 intro pins s σ H x y v u Q I rx ry h;obtain⟨l,b,xs,zs,rfl,rfl,hH,hB,hz,q⟩:=h;cases rx;cases ry;obtain⟨z,its,n,r,hl,e⟩:=I.lstM hH;obtain⟨z2,its2,n2,r2,hl2,e2⟩:=I.lstM hB;refine PySem.P.add_list e e2 ?_ (by rw[List.size_toArray,List.size_toArray];lia);have ea:its.toArray++its2.toArray=(its++its2).toArray:=by simp
 rw[ea];exact⟨.ref _,_,I.lnew (t':=s.toks) (r.append r2) (by rw[List.length_append];lia),rfl,q _ I.fresh⟩
end
end L2
namespace Att
open PySem.W
open PySem PySem.Calls PyProof.Rows
theorem F8{P:Params}{h:Heap}:∀(ns:List Int)(vs:LWz),WellAll P h vs (ns.map WData.int)->IntsAre vs ns:=by
 intro ns
 induction ns with
 |nil =>
  intro vs w;rw[List.map_nil]at w;cases w;exact .nil
 |cons n ns ih =>
  intro vs w;rw[List.map_cons]at w;cases w with
  |cons a b =>
   cases a;exact .cons _ _ (ih _ b)
theorem N1{l:OpenLaw}{n:Nat}(hn:l.most=some n){P:Params}{h:Heap}{args:List WData}{vals:LWz}
  (hpre:l.row.toRowW.claim.pre args=true) (hwl:WellAll P h vals args) :
  ∃a vs ns,vals=[Value.ref a]/\args=[WData.list (ns.map WData.int)]/\h.get? a=some { cls:=.type "list",data:=.seq vs.toArray }/\IntsAre vs ns/\ns.length<=n:=by
 have hsh:WShape.hasAll [] args [.list .int]=true:=(pre_splitW hpre).1;have hc:l.pre.holds [] { args:=args }=true:=(pre_splitW hpre).2;obtain⟨d,r,rfl,h1,h2⟩:=hasAllW_cons hsh;obtain rfl:=hasAllW_nil h2;obtain⟨xs,rfl,h3⟩:=hasW_list h1;obtain⟨ns,rfl⟩:=items_int h3;have hlen:ns.length<=n:=by
  unfold OpenLaw.pre at hc;have h4:(WTm.not (.lt (.lit (.int (n:Int))) (.len (.arg 0)))).holds [] { args:=[.list (ns.map .int)] }=true:=by
   have h4:=(holds_andW hc).1;rw[hn]at h4;exact h4
  have h5:=condW_of h4 (w_not (w_lt w_lit (w_len_list (w_arg rfl))));rw[List.length_map]at h5;refine Nat.le_of_not_lt λ q=>?_;have q':(n:Int)<((ns.length:Nat):Int):=by lia
  first
   | (rw[decide_eq_true q']at h5;exact absurd h5 (by decide))
   | (simp at h5;lia)
 cases hwl with
 |cons w1 w2 =>
  cases w2;cases w1 with
  |list ho hall=>exact⟨_,_,ns,rfl,rfl,ho,F8 ns _ hall,hlen⟩
theorem N5(l:OpenLaw)(args:List WData):l.row.toRowW.claim.post args (.bool true) args=true :=
 postW_of (r:=l.row.toRowW) (X:=(true==true))
  (show WShape.has [] (.bool true) .bool=true by first|rfl|decide|simp[WShape.has,WShape.arms,WShape.armsAll])
  (show(WTm.eq .res (.lit (.bool true))).value [] { args:=args,res:=some (.bool true),after:=args }=some (.bool (true==true)) from w_eq_bool (w_res rfl) w_lit) rfl
theorem attach_call{l:OpenLaw}{n:Nat}{q:Program}{loose:LSz}{XP:(MGz)->Heap->Prop}{YP:World->Heap->Prop}{d:DefRec}
  (hn:l.most=some n) (hdf:d.params.defaults=[])
  (call:∀(w:World)(s₀ s₁:Shared)(mg mb:MGz)(fa:Addr)(o:Obj)(pm cd doc:Value)(a:Addr)(vs:LWz)(ns:List Int),
   Ground q loose [] XP w s₀ mg mb s₁.heap->YP w s₁.heap ->
   s₁.heap.get? fa=some o->o.data=.func (docDef d.name d.params d.body d.scope pm cd doc)->s₁.heap.CodeRec cd d.name->mg d.name=some (.ref fa) ->
   s₁.heap.get? a=some { cls:=.type "list",data:=.seq vs.toArray }->IntsAre vs ns->ns.length<=n->s₁.gens=#[] ->
   codeAny (model l.prog w) callerA (.call (.ref fa) ⟨[.ref a],[]⟩) (λ r s'=>r=.ok (.ret (.bool true))/\OldK s₁.heap s'.heap/\s'.os=s₁.os/\AllBare s'.gens) s₁) :
  WalkO q loose XP YP l.row.toRowW d [] (λ f vs=>PySem.call f vs):=by
 intro w s₀ s₁ mg mb G Y fa o pm cd doc dV kV ho hd hcd hD hmg hg args vals as hpre hlay hrd hwl hlo;obtain rfl:dV=.none:=Dflts.none hD hdf;obtain rfl:kV=.none:=Dflts.noKw hD;obtain⟨a,vs,ns,rfl,rfl,hobj,hints,hlen⟩:=N1 hn hpre hwl;refine enter_call (codeAny_mono (call w s₀ s₁ mg mb fa o pm cd doc a vs ns G Y ho (fd_plain hd) hcd hmg hobj hints hlen hg) λ r s' hq=>?_);obtain⟨rfl,h2,h3,h4⟩:=hq;exact⟨.inl ⟨.bool true,.bool true,[],rfl,λ_=>rfl,.bool true,N5 l _,λ_=>⟨List.Pairwise.nil,λ_ hm=>(nomatch hm)⟩⟩,h2,h3,h4⟩
end Att
namespace L2
open PySem.W
open PySem PySem.Spec PyProof.Rows
theorem HM:∀{vs:LWz}{ns:List Int},IntsAre vs ns->Vals (ns.map V.int) vs
 |_,_,.nil=>.nil
 |_,_,.cons n t h=>.cons ⟨t,rfl⟩ (HM h)
end L2
/- THE LAST THEOREM (shape;LID,My.* are yours):
  My.Adr: a structure of the addresses that your layer names (classes,functions);My.Txt K t: a structure (Prop) of the equations over K;
  My.txt_mk:{K} {implicit addresses ..} (e1:nsIn K mainGlobals "law"=some (some (.ref f))) (e2:K.lookup f=some ⟨oc,od,.func (fnOf "law" "law" params body scope dV kV doc pm an cdv ct),sl⟩) (e3:codeIn K cdv "law"=true) ..:∃t,My.Txt K t
set_option maxRecDepth 100000 in
set_option maxHeartbeats 0 in
theorem PySem.Challenge.cw_LID_holds:PySem.Challenge.rw_LID.Holds:=by
 w_on;o_law;k_head;(case hw=>w_witness2)
 k_fill
 refine L2.walk_of (l:=PySem.Challenge.rw_LID) (n:=63) (k:=40) (x:="script") (CX:=λ w=>..) (sp:=λ_=>My.sp_law) rfl (by decide) rfl ⟨rfl,by decide,by decide⟩ (λ w h Y=>kIn_of Y) ?F ?S ?C
 case F =>
  intro w mg fa h KX G hmg;have T:∃t,My.Txt (L2.KOf KX) t:=by
   dsimp only[L2.KOf]                          -- K must stand as «<heap const> w.params» for k_is;refine' My.txt_mk ?e1 ?e2 ?e3 ..
   (case e1=>k_is)                    -- in the order: a name -> its address -> its object -> its parts
   (case e2=>k_is)
   ..
  obtain⟨t,T⟩:=T;have e0:=hmg.symm.trans (mg_of KX G T.law);cases e0                                       -- fa is the law's own address;exact⟨_,λ s u=>.of_eq rfl,λ base kb nb=>My.law_fn T kb nb⟩     -- if «.of_eq rfl» comes too early: refine'⟨_,?b,λ base kb nb=>My.law_fn T kb nb⟩;exact λ s u=>.of_eq rfl
 case S=>exact λ w H a ns hl hO hS=>..
 case C=>exact ..
(the tactic k_is has no namespace: write k_is) -/
namespace L2
open PySem.W
open PySem PySem.Spec PyProof.Rows
def A3(s:Stmt)(j:Nat):Stmt:=match s with
 |.ClassDef _ _ _ body _ _ _ _ _ _ _=>body.getD j (.Pass ⟨0,0,0,0⟩)
 |_=>.Pass ⟨0,0,0,0⟩
def Ba(s:Stmt):Arguments:=match s with
 |.FunctionDef _ a _ _ _ _ _ _ _ _=>a
 |_=>{ posonlyargs:=[],args:=[],vararg:=none,kwonlyargs:=[],kw_defaults:=[],kwarg:=none,defaults:=[] }
def A4(s:Stmt):List Stmt:=match s with
 |.FunctionDef _ _ b _ _ _ _ _ _ _=>b
 |_=>[]
def Ag(s:Stmt):Scope:=match s with
 |.FunctionDef _ _ _ _ _ _ sc _ _ _=>sc
 |_=>{ kind:=.function,names:=[],isGenerator:=false,isCoroutine:=false }
abbrev CX0:CXT:=λ_ _ _ _ _ _=>False
abbrev E0:XK:=λ_ _ _=>False
theorem HZ{X:Cx}:C7 CX0 X E0:=λ_ _ _ _ _ _ _ h=>h.elim
structure Fun(K:Frag)(x qual:Str)(st:Stmt)(f:Addr)(fd:FuncData):Prop where
 ex:∃(oc:Value)(od:Option Addr)(kV doc pm:Value)(an:Option Addr)(cdv ct:Value)(osl:AOz),
  fd=fnOf x qual (Ba st) (A4 st) (Ag st) .none kV doc pm an cdv ct/\K.lookup f=some ⟨oc,od,.func fd,osl⟩/\codeIn K cdv qual=true
 kp:keepIn K (.ref f)=true
section
variable{P:Program}{w:World}{K:Frag}{mg:MGz}{base:Heap}
theorem Fun.ok{x qual:Str}{st:Stmt}{f:Addr}{fd:FuncData}{N ps:LSz}{k:Nat}{sp:Sp}(F:Fun K x qual st f fd)(S:Aq N ps (Ag st))(len:∀vs H Q E,sp vs H Q E->vs.length=ps.length)
  (hbody:∀(cdv:Value)(A:Around)(outer:List Env)(s:Shared)(H:Hp)(vs:LUz)(Q:VK)(E:XK),Room k (A.deeper (envOfC qual (Ag st) s.heap.objs.size f cdv))->sp vs H Q E ->
   ∃t,PSs (Cd CX0 P w K mg base N qual (Ag st) f cdv A outer s H E).nox (A4 st) t/\t { nx:=λ_ H'=>Q .non H',rt:=Q } (start N vs) H):A8 P w K mg base CX0 (k+1) f fd ps sp:=by
 obtain⟨oc,od,kV,doc,pm,an,cdv,ct,osl,rfl,lk,hcd⟩:=F.ex;refine KD lk hcd S len λ A outer s H vs Q E hr hsp=>?_;obtain⟨t,h,q⟩:=hbody cdv A outer s H vs Q E hr hsp;exact⟨t,h.nox,q⟩
theorem Fun.binds{x qual:Str}{st:Stmt}{f:Addr}{fd:FuncData}{ps:LSz}(F:Fun K x qual st f fd)
  (h:∀(kV doc pm:Value)(an:Option Addr)(cdv ct:Value)(us:LWz),us.length=ps.length->bindArgs (fnOf x qual (Ba st) (A4 st) (Ag st) .none kV doc pm an cdv ct) ⟨us,[]⟩=pure (ps.zip us)):Binds K fd ps []:=by
 obtain⟨oc,od,kV,doc,pm,an,cdv,ct,osl,rfl,lk,hcd⟩:=F.ex;exact .all (h kV doc pm an cdv ct)
end
theorem KA{A:Around}{k:Nat}(hr:Room k A):A.units+1<cLine:=Nat.lt_of_le_of_lt (Nat.add_le_add_left (by decide:1<=64) _) hr.units
theorem Ap{n:Nat}(h:n<=1000):n<sizeLine:=Nat.lt_of_le_of_lt h (by decide)
section
variable{X:Cx}
theorem pv(i:Nat){x:Str}{pos:Pos}(hN:X.N[i]?=some x:=by rfl)(hv:Vis X.env.scope x:=by first|exact Or.inl rfl|exact Or.inr (Or.inl rfl)|exact Or.inr (Or.inr rfl))(hd:(x==("__debug__":Str))=false:=by decide)
  (hcd:(x==("__classdict__":Str))=false:=by decide):PE X (.Name x pos) (P3 i):=QY hN hv hd hcd
end
theorem Rt{A B:Prop}(h:B):if false=true then A else B:=by
 rw[if_neg Bool.false_ne_true];exact h
theorem Qf{A B:Prop}(h:A):if true=true then A else B:=by
 rw[if_pos rfl];exact h
def Same(H H':Hp):Prop:=∀b o,H b=some o->H' b=some o
theorem Same.refl(H:Hp):Same H H:=λ_ _ h=>h
theorem Same.trans{H H1 H2:Hp}(a:Same H H1)(b:Same H1 H2):Same H H2:=λ c o h=>b c o (a c o h)
theorem Same.seq{K:Frag}{H H':Hp}{a:Addr}{xs:LUz}(e:Same H H')(h:SqL K H a xs):SqL K H' a xs:=by
 rcases h with (h|⟨o,h⟩)|h
 .exact .inl (.inl (e _ _ h))
 .exact .inl (.inr ⟨o,e _ _ h⟩)
 .exact .inr h
end L2
set_option maxHeartbeats 4000000
namespace L2
open PySem.W
open PySem PyProof.Rows
def Ig{α β:Type}(oS:Program->LSz->LSz->(Shared->Bool)->Bool->Shared->α)(ms:LSz)(p q:Program)(lo:LSz)(Xt:Shared->Bool)(Yf:Shared->β)(h0:Heap)(s:Shared):Bool×α×β :=
 ((((staticsOk ms h0 s.heap&&namesBound p s.heap)&&gensDone s)&&laidKept h0 s.heap),oS q lo ms Xt true s,Yf s)
noncomputable abbrev D9(P:Params)(os:OsState):Shared:=Shared.mk (boot_heap P) (Array.mk []) boot_drawn boot_toks os
theorem NJ{p q:Program}{lo:LSz}{Xt:Shared->Bool}{β:Type}{Yf:Shared->β}{Ya:World->β}{N m:Nat}{an:Option Value}
  (bo:∀w:World,Option.map (λ s=>(s.heap,s.gens,s.drawn,s.toks)) (fencedOpening treeTable p w N)=some (boot_heap w.params,Array.mk [],boot_drawn,boot_toks))
  (sz:∀w:World,((boot_heap w.params).isNs mainGlobals,(boot_heap w.params).objs.size,(boot_heap w.params).nsMap mainGlobals "__annotations__")=(true,m,an))
  (rn:∀(w:World)(os:OsState),Option.map (Ig openSeen (importedModules p.main.body) p q lo Xt Yf (boot_heap w.params)) (topRun treeTable p w m an N (D9 w.params os) (topStub p))=some (true,openGood q lo,Ya w)) :
  LeftO p q lo Xt Yf Ya N:=by
 intro w;obtain⟨s0,e0,e1⟩:=Option.map_eq_some_iff.mp (bo w);obtain⟨hp,gs,dr,tk,os⟩:=s0;simp only[Prod.mk.injEq]at e1;obtain⟨rfl,rfl,rfl,rfl⟩:=e1;have z:=sz w;simp only[Prod.mk.injEq]at z;obtain⟨z1,z2,z3⟩:=z;obtain⟨s1,r1,r2⟩:=Option.map_eq_some_iff.mp (rn w os);unfold Ig at r2;simp only[Prod.mk.injEq]at r2;obtain⟨l1,l2,l3⟩:=r2;have tf:topFrom treeTable p w N (D9 w.params os)=some s1:=by
  unfold topFrom;dsimp only;rw[z1,z2,z3];show Option.bind (topRun treeTable p w m an N (D9 w.params os) (topStub p)) _=_;rw[r1];show(match (((staticsOk (importedModules p.main.body) (boot_heap w.params) s1.heap&&namesBound p s1.heap)&&gensDone s1)&&laidKept (boot_heap w.params) s1.heap) with|true=>some s1|false=>none)=_;rw[l1]
 unfold openEnds;rw[e0];show Option.map _ (topFrom treeTable p w N (D9 w.params os))=_;rw[tf];exact congrArg some (Prod.ext l2 l3)
def Ot:List Obj->Nat->BT->BT
 |[],_,t=>t
 |o::r,i,t=>Ot r (i+1) (t.ins i o)
def CM(ok:Thread->Bool)(stp:SharedT->Thread->Option (SharedT×Thread)):Nat->SharedT->Thread->Option SharedT
 |0,_,_=>none
 |n+1,s,t=>match through t with
  |true=>some s
  |false=>match ok t with
   |false=>none
   |true=>match stp s t with
    |some (s1,t1)=>CM ok stp n s1 t1
    |none=>none
theorem FW{tb:String->Option Builtin}{p:Program}{w:World}{m:Nat}{an:Option Value}:∀{n:Nat}{s s1:SharedT}{t:Thread},CM (stepOk m an) (stepT (denote tb) p w) n s t=some s1->topRun tb p w m an n s.abs t=some s1.abs
 |0,_,_,_,h=>by cases h
 |n+1,s,s1,t,h=>by
  rw[CM]at h;rw[topRun];cases ht:through t with
  |true=>rw[ht]at h;cases h;rfl
  |false =>
   rw[ht]at h;cases hk:stepOk m an t with
   |false=>rw[hk]at h;cases h
   |true =>
    rw[hk]at h;cases hs:stepT (denote tb) p w s t with
    |none=>rw[hs]at h;cases h
    |some r =>
     obtain⟨s2,t2⟩:=r;rw[hs]at h;rw[stepT_spec hs];exact FW h
noncomputable def Sw(P:Params):BT:=Ot (boot_heap P).objs.toList 0 .nil
noncomputable def EG(P:Params)(os:OsState):SharedT:=SharedT.mk (Sw P) 11 (boot_heap P).life (Array.mk []) boot_drawn boot_toks os
theorem Pr(P:Params)(os:OsState):(EG P os).abs=D9 P os:=by kernel_rfl
theorem QX{p q:Program}{lo ms:LSz}{Xt:Shared->Bool}{α β:Type}{Yf:Shared->β}{N m:Nat}{an:Option Value}{w:World}{os:OsState}{r:Bool×α×β}{oS:Program->LSz->LSz->(Shared->Bool)->Bool->Shared->α}
  (h:Option.map (λ s=>Ig oS ms p q lo Xt Yf (boot_heap w.params) (SharedT.abs s)) (CM (stepOk m an) (stepT (denote treeTable) p w) N (EG w.params os) (topStub p))=some r) :
  Option.map (Ig oS ms p q lo Xt Yf (boot_heap w.params)) (topRun treeTable p w m an N (D9 w.params os) (topStub p))=some r:=by
 obtain⟨s,e,z⟩:=Option.map_eq_some_iff.mp h;have e:=FW e;rw[Pr]at e;rw[e];exact congrArg some z
theorem Sl{σ α β:Type}{r:Option σ}{f:σ->Bool}{g:σ->α}{k:σ->β}{a:α}{b:β}(h1:r.map f=some true)(h2:r.map g=some a)(h3:r.map k=some b):r.map (λ s=>(f s,g s,k s))=some (true,a,b):=by
 cases r with
 |none=>cases h1
 |some s =>
  have e1:=Option.some.inj h1;have e2:=Option.some.inj h2;have e3:=Option.some.inj h3;exact congrArg some (Prod.ext e1 (Prod.ext e2 e3))
def Sk(ms:LSz)(p:Program)(h0:Heap)(s:Shared):Bool:=(((staticsOk ms h0 s.heap&&namesBound p s.heap)&&gensDone s)&&laidKept h0 s.heap)
def S5(N m:Nat)(an:Option Value){p p':Program}{sT:(Code->Sem Fin)->Program->World->SharedT->Thread->Option (SharedT×Thread)}{dn:(String->Option Builtin)->Code->Sem Fin}{tT:String->Option Builtin}{iM:List Stmt->LSz}{oS:∀(q:Program)(lo ms:LSz)(Xt:Shared->Bool)(g0:Bool)(s:Shared),_}(h1:@stepT=sT)(h0:@denote=dn)(h2:treeTable=tT)(h3:@importedModules=iM)(h4:@openSeen=oS)(h5:p=p'):Prop:=∀(w:World)(os:OsState),Option.map (λ s=>Sk (iM p'.main.body) p' (boot_heap w.params) (SharedT.abs s)) (CM (stepOk m an) (sT (dn tT) p' w) N (EG w.params os) (topStub p'))=some true
def S4(N m:Nat)(an:Option Value)(q:Program->Program)(lo:LSz)(Xt:Program->Shared->Bool){p p':Program}{sT:(Code->Sem Fin)->Program->World->SharedT->Thread->Option (SharedT×Thread)}{dn:(String->Option Builtin)->Code->Sem Fin}{tT:String->Option Builtin}{iM:List Stmt->LSz}{oS:∀(q:Program)(lo ms:LSz)(Xt:Shared->Bool)(g0:Bool)(s:Shared),_}(h1:@stepT=sT)(h0:@denote=dn)(h2:treeTable=tT)(h3:@importedModules=iM)(h4:@openSeen=oS)(h5:p=p'):Prop:=∀(w:World)(os:OsState),Option.map (λ s=>oS (q p') lo (iM p'.main.body) (Xt p') true (SharedT.abs s)) (CM (stepOk m an) (sT (dn tT) p' w) N (EG w.params os) (topStub p'))=some (openGood (q p') lo)
def S3(N m:Nat)(an:Option Value){β:Type}(Yf:Shared->β)(Ya:World->β){p p':Program}{sT:(Code->Sem Fin)->Program->World->SharedT->Thread->Option (SharedT×Thread)}{dn:(String->Option Builtin)->Code->Sem Fin}{tT:String->Option Builtin}{iM:List Stmt->LSz}{oS:∀(q:Program)(lo ms:LSz)(Xt:Shared->Bool)(g0:Bool)(s:Shared),_}(h1:@stepT=sT)(h0:@denote=dn)(h2:treeTable=tT)(h3:@importedModules=iM)(h4:@openSeen=oS)(h5:p=p'):Prop:=∀(w:World)(os:OsState),Option.map (λ s=>Yf (SharedT.abs s)) (CM (stepOk m an) (sT (dn tT) p' w) N (EG w.params os) (topStub p'))=some (Ya w)
theorem PH{q:Program->Program}{lo:LSz}{Xt:Program->Shared->Bool}{β:Type}{Yf:Shared->β}{Ya:World->β}{N m:Nat}{an:Option Value}{p p':Program}{sT:(Code->Sem Fin)->Program->World->SharedT->Thread->Option (SharedT×Thread)}{dn:(String->Option Builtin)->Code->Sem Fin}{tT:String->Option Builtin}{iM:List Stmt->LSz}{oS:∀(q:Program)(lo ms:LSz)(Xt:Shared->Bool)(g0:Bool)(s:Shared),_}{h1:@stepT=sT}{h0:@denote=dn}{h2:treeTable=tT}{h3:@importedModules=iM}{h4:@openSeen=oS}{h5:p=p'}
  (rA:S5 N m an h1 h0 h2 h3 h4 h5) (rB:S4 N m an q lo Xt h1 h0 h2 h3 h4 h5) (rC:S3 N m an Yf Ya h1 h0 h2 h3 h4 h5) :
  ∀(w:World)(os:OsState),Option.map (Ig openSeen (importedModules p.main.body) p (q p) lo (Xt p) Yf (boot_heap w.params)) (topRun treeTable p w m an N (D9 w.params os) (topStub p))=some (true,openGood (q p) lo,Ya w):=by
 subst h1 h0 h2 h3 h4 h5;exact λ w os=>QX (Sl (rA w os) (rB w os) (rC w os))
open PySem.Spec
def hookT(K:Hook)(Ts:List Addr):Hook :=
 ⟨K.α×List (Option Obj),λ s=>(K.obs s,Ts.map λ T=>s.heap.get? T),λ w=>(K.val w,Ts.map λ_=>some (tabObj #[])),λ w h=>K.says w h/\∀T∈Ts,h.get? T=some (tabObj #[]),
  λ w s e=>⟨K.of w s (Prod.mk.inj e).1,λ T hT=>by
   have e2:=(Prod.mk.inj e).2;have:=List.map_eq_map_iff.mp e2 T hT;exact this⟩,λ w h h' x k=>⟨K.keeps w h h' x.1 k,λ T hT=>k _ _ (x.2 T hT)⟩⟩
end L2
namespace KH
open PySem.W
open PySem PyProof.Rows L2
def top(i:Nat):Stmt:=PySem.Challenge.pw_glazebench_k72_whole_no_glass_lost.main.body.getD i (.Pass ⟨0,0,0,0⟩)
def kE(P:Params)(x:Str)(t:Tok)(v:Value):DictEntry:=⟨PyData.keyHash P x,.str x t,v⟩
abbrev fo(a b:Str)(e:Stmt)(d m:Value)(c:Addr):Obj:=⟨(.type "function"),none,(.func (fnOf a b (Ba e) (A4 e) (Ag e) d .none .none m none (.ref c) .none)),#[]⟩
abbrev cp(a b:Str)(t u v:Tok)(l n:Int)(r:Addr)(i:Int)(p:Addr)(q x y:Value)(j k:Int)(z:Tok):Obj:=⟨(.type "code"),none,(.fields #[(.str a t),(.str b u),(.str "/claim/cut.py" v),(.int l 0),(.int n 0),(.int (0) 0),(.int (0) 0),(.int (3) 0),(.ref r),(.bool true),(.int i 0),(.ref p),.none,q,x,y,(.int j 0),(.int k 0),(.str "/claim/cut.py" z)]),#[]⟩
abbrev co(a b:Str)(t u v:Tok)(l n:Int)(r:Addr)(i:Int)(p q x y:Addr)(j k:Int)(z:Tok):Obj:=⟨(.type "code"),none,(.fields #[(.str a t),(.str b u),(.str "/claim/cut.py" v),(.int l 0),(.int n 0),(.int (0) 0),(.int (0) 0),(.int (3) 0),(.ref r),(.bool true),(.int i 0),(.ref p),.none,(.ref q),(.ref x),(.ref y),(.int j 0),(.int k 0),(.str "/claim/cut.py" z)]),#[]⟩
def KK:Params->Frag:=λ P=>(nat_lit 2,⟨.none,none,(.dict #[] 0),#[]⟩)::(nat_lit 3,⟨(.type "dict"),none,(.dict #[kE P "__name__" 165 (.str "law_glazebench_k72_whole_no_glass_lost" 739),kE P "__doc__" 166 .none,kE P "__package__" 167 .none,kE P "__loader__" 168 (.builtin "__main__.__loader__#opaque"),kE P "__spec__" 169 .none,kE P "__annotations__" 170 (.ref 6),kE P "__builtins__" 171 (.ref 4),kE P "__file__" 173 (.str "/claim/cut.py" 172),kE P "__cached__" 174 .none,kE P "_wall" 193 (.ref 21),kE P "GlassError" 213 (.ref 31),kE P "NoSide" 238 (.ref 51),kE P "TooMany" 263 (.ref 70),kE P "NoSheet" 288 (.ref 89),kE P "NoGlass" 315 (.ref 108),kE P "LONGEST_SIDE" 319 (.int (12) 318),kE P "is_whole" 326 (.ref 117),kE P "is_side" 333 (.ref 124),kE P "size_of" 340 (.ref 131),kE P "area_of" 347 (.ref 138),kE P "check_sides" 356 (.ref 145),kE P "WHOLE" 360 (.str "whole" 359),kE P "UPRIGHT" 362 (.str "upright" 361),kE P "LEVEL" 364 (.str "level" 363),kE P "Tree" 421 (.ref 188),kE P "Whole" 446 (.ref 210),kE P "Upright" 475 (.ref 229),kE P "Level" 504 (.ref 248),kE P "kind_of" 511 (.ref 257),kE P "entry_of" 519 (.ref 264),kE P "entries_of" 529 (.ref 271),kE P "cut_from" 539 (.ref 278),kE P "tree_from" 551 (.ref 285),kE P "entries_by" 563 (.ref 292),kE P "turned_word" 570 (.ref 299),kE P "first_piece" 579 (.ref 306),kE P "other_piece" 588 (.ref 313),kE P "ways_to_lie" 597 (.ref 320),kE P "ways_held" 603 (.ref 325),kE P "MOST_SHEETS" 607 (.int (4) 606),kE P "is_sheet" 614 (.ref 332),kE P "check_sheets" 623 (.ref 339),kE P "MOST_CUT" 627 (.int (60) 626),kE P "holds" 636 (.ref 346),kE P "cut_pane" 651 (.ref 353),kE P "tree_in" 660 (.ref 360),kE P "Bench" 738 (.ref 413),kE P "_law_cell" 748 (.ref 424),kE P "_law_draw" 758 (.ref 431),kE P "_law_state" 766 (.ref 438),kE P "_law_pick" 775 (.ref 445),kE P "_law_whole" 782 (.ref 452),kE P "_law_told" 792 (.ref 459),kE P "_law_pieces" 806 (.ref 466),kE P "_law_fits" 816 (.ref 473),kE P "_law_area" 823 (.ref 480),kE P "_law_apart" 831 (.ref 487),kE P "_law_asked" 842 (.ref 494),kE P "_law_taken" 848 (.ref 499),kE P "law" 854 (.ref 504)] 60),#[]⟩)::(nat_lit 20,co "_wall" "_wall" 187 188 189 1 1 15 181 16 17 18 19 191 1 192)::(nat_lit 21,fo "_wall" "_wall" (top 0) .none (.str "__main__" 164) 20)::(nat_lit 30,⟨(.type "dict"),none,(.dict #[kE P "__module__" 203 (.str "glazebench.errors" 194),kE P "__firstlineno__" 207 (.int (5) 206),kE P "__static_attributes__" 208 (.ref 29),kE P "__weakref__" 210 (.ref 32),kE P "__doc__" 211 .none] 3),#[]⟩)::(nat_lit 31,⟨(.type "type"),none,(.cls { name:="GlassError",bases:=[(.type "ValueError")],mro:=[(.ref 31),(.type "ValueError"),(.type "Exception"),(.type "BaseException"),(.type "object")],ns:=30,qualname:="GlassError",hasDict:=true,slotNames:=[],subclasses:=[(.ref 51),(.ref 70),(.ref 89),(.ref 108)],abstract:=false,collection:=none,hasDel:=false }),#[some (.ref 22),none,some (.str "GlassError" 196),some (.str "GlassError" 204),some (.builtin "ValueError.__new__"),some (.bool true)]⟩)::(nat_lit 32,⟨(.type "getset_descriptor"),none,(.fields #[(.str "__weakref__" 209),(.ref 31),(.builtin "ExceptionGroup.__weakref__"),.none]),#[]⟩)::(nat_lit 47,co "__init__" "NoSide.__init__" 226 227 228 9 2 42 181 43 44 45 46 231 9 232)::(nat_lit 48,fo "__init__" "NoSide.__init__" (A3 (top 3) 0) .none (.str "glazebench.errors" 194) 47)::(nat_lit 50,⟨(.type "dict"),none,(.dict #[kE P "__module__" 221 (.str "glazebench.errors" 194),kE P "__firstlineno__" 225 (.int (7) 224),kE P "__init__" 233 (.ref 48),kE P "__static_attributes__" 235 (.ref 49),kE P "__doc__" 236 .none] 2),#[]⟩)::(nat_lit 51,⟨(.type "type"),none,(.cls { name:="NoSide",bases:=[(.ref 31)],mro:=[(.ref 51),(.ref 31),(.type "ValueError"),(.type "Exception"),(.type "BaseException"),(.type "object")],ns:=50,qualname:="NoSide",hasDict:=true,slotNames:=[],subclasses:=[],abstract:=false,collection:=none,hasDel:=false }),#[some (.ref 35),none,some (.str "NoSide" 214),some (.str "NoSide" 222),some (.builtin "ValueError.__new__"),some (.bool true)]⟩)::(nat_lit 66,co "__init__" "TooMany.__init__" 251 252 253 13 2 61 181 62 63 64 65 256 13 257)::(nat_lit 67,fo "__init__" "TooMany.__init__" (A3 (top 4) 0) .none (.str "glazebench.errors" 194) 66)::(nat_lit 69,⟨(.type "dict"),none,(.dict #[kE P "__module__" 246 (.str "glazebench.errors" 194),kE P "__firstlineno__" 250 (.int (11) 249),kE P "__init__" 258 (.ref 67),kE P "__static_attributes__" 260 (.ref 68),kE P "__doc__" 261 .none] 2),#[]⟩)::(nat_lit 70,⟨(.type "type"),none,(.cls { name:="TooMany",bases:=[(.ref 31)],mro:=[(.ref 70),(.ref 31),(.type "ValueError"),(.type "Exception"),(.type "BaseException"),(.type "object")],ns:=69,qualname:="TooMany",hasDict:=true,slotNames:=[],subclasses:=[],abstract:=false,collection:=none,hasDel:=false }),#[some (.ref 54),none,some (.str "TooMany" 239),some (.str "TooMany" 247),some (.builtin "ValueError.__new__"),some (.bool true)]⟩)::(nat_lit 85,co "__init__" "NoSheet.__init__" 276 277 278 17 2 80 181 81 82 83 84 281 17 282)::(nat_lit 86,fo "__init__" "NoSheet.__init__" (A3 (top 5) 0) .none (.str "glazebench.errors" 194) 85)::(nat_lit 88,⟨(.type "dict"),none,(.dict #[kE P "__module__" 271 (.str "glazebench.errors" 194),kE P "__firstlineno__" 275 (.int (15) 274),kE P "__init__" 283 (.ref 86),kE P "__static_attributes__" 285 (.ref 87),kE P "__doc__" 286 .none] 2),#[]⟩)::(nat_lit 89,⟨(.type "type"),none,(.cls { name:="NoSheet",bases:=[(.ref 31)],mro:=[(.ref 89),(.ref 31),(.type "ValueError"),(.type "Exception"),(.type "BaseException"),(.type "object")],ns:=88,qualname:="NoSheet",hasDict:=true,slotNames:=[],subclasses:=[],abstract:=false,collection:=none,hasDel:=false }),#[some (.ref 73),none,some (.str "NoSheet" 264),some (.str "NoSheet" 272),some (.builtin "ValueError.__new__"),some (.bool true)]⟩)::(nat_lit 104,co "__init__" "NoGlass.__init__" 301 302 303 21 3 99 181 100 101 102 103 307 21 308)::(nat_lit 105,fo "__init__" "NoGlass.__init__" (A3 (top 6) 0) .none (.str "glazebench.errors" 194) 104)::(nat_lit 107,⟨(.type "dict"),none,(.dict #[kE P "__module__" 296 (.str "glazebench.errors" 194),kE P "__firstlineno__" 300 (.int (19) 299),kE P "__init__" 309 (.ref 105),kE P "__static_attributes__" 312 (.ref 106),kE P "__doc__" 313 .none] 2),#[]⟩)::(nat_lit 108,⟨(.type "type"),none,(.cls { name:="NoGlass",bases:=[(.ref 31)],mro:=[(.ref 108),(.ref 31),(.type "ValueError"),(.type "Exception"),(.type "BaseException"),(.type "object")],ns:=107,qualname:="NoGlass",hasDict:=true,slotNames:=[],subclasses:=[],abstract:=false,collection:=none,hasDel:=false }),#[some (.ref 92),none,some (.str "NoGlass" 289),some (.str "NoGlass" 297),some (.builtin "ValueError.__new__"),some (.bool true)]⟩)::(nat_lit 116,co "is_whole" "is_whole" 320 321 322 26 1 111 181 112 113 114 115 324 26 325)::(nat_lit 117,fo "is_whole" "is_whole" (top 9) .none (.str "glazebench.panels" 316) 116)::(nat_lit 123,co "is_side" "is_side" 327 328 329 28 1 118 181 119 120 121 122 331 28 332)::(nat_lit 124,fo "is_side" "is_side" (top 10) .none (.str "glazebench.panels" 316) 123)::(nat_lit 130,co "size_of" "size_of" 334 335 336 30 1 125 181 126 127 128 129 338 30 339)::(nat_lit 131,fo "size_of" "size_of" (top 11) .none (.str "glazebench.panels" 316) 130)::(nat_lit 137,co "area_of" "area_of" 341 342 343 32 1 132 181 133 134 135 136 345 32 346)::(nat_lit 138,fo "area_of" "area_of" (top 12) .none (.str "glazebench.panels" 316) 137)::(nat_lit 144,co "check_sides" "check_sides" 348 349 350 34 2 139 181 140 141 142 143 354 34 355)::(nat_lit 145,fo "check_sides" "check_sides" (top 13) .none (.str "glazebench.panels" 316) 144)::(nat_lit 158,co "leaves" "Tree.leaves" 377 378 379 44 1 153 181 154 155 156 157 381 44 382)::(nat_lit 159,fo "leaves" "Tree.leaves" (A3 (top 18) 0) .none (.str "glazebench.cuts" 357) 158)::(nat_lit 165,co "depth" "Tree.depth" 384 385 386 47 1 160 181 161 162 163 164 388 47 389)::(nat_lit 166,fo "depth" "Tree.depth" (A3 (top 18) 1) .none (.str "glazebench.cuts" 357) 165)::(nat_lit 170,cp "turned" "Tree.turned" 391 392 393 50 1 167 181 168 .none .none (.ref 169) 394 50 395)::(nat_lit 171,fo "turned" "Tree.turned" (A3 (top 18) 2) .none (.str "glazebench.cuts" 357) 170)::(nat_lit 177,co "fits" "Tree.fits" 397 398 399 53 3 172 181 173 174 175 176 403 53 404)::(nat_lit 178,fo "fits" "Tree.fits" (A3 (top 18) 3) .none (.str "glazebench.cuts" 357) 177)::(nat_lit 184,co "same" "Tree.same" 406 407 408 56 2 179 181 180 181 182 183 411 56 412)::(nat_lit 185,fo "same" "Tree.same" (A3 (top 18) 4) .none (.str "glazebench.cuts" 357) 184)::(nat_lit 187,⟨(.type "dict"),none,(.dict #[kE P "__module__" 372 (.str "glazebench.cuts" 357),kE P "__firstlineno__" 376 (.int (42) 375),kE P "leaves" 383 (.ref 159),kE P "depth" 390 (.ref 166),kE P "turned" 396 (.ref 171),kE P "fits" 405 (.ref 178),kE P "same" 413 (.ref 185),kE P "__static_attributes__" 414 (.ref 186),kE P "__dict__" 416 (.ref 189),kE P "__weakref__" 418 (.ref 190),kE P "__doc__" 419 .none] 4),#[]⟩)::(nat_lit 188,⟨(.type "type"),none,(.cls { name:="Tree",bases:=[(.type "object")],mro:=[(.ref 188),(.type "object")],ns:=187,qualname:="Tree",hasDict:=true,slotNames:=[],subclasses:=[(.ref 210),(.ref 229),(.ref 248)],abstract:=false,collection:=none,hasDel:=false }),#[none,none,some (.str "Tree" 365),some (.str "Tree" 373),some (.builtin "object.__new__"),some (.bool true)]⟩)::(nat_lit 189,⟨(.type "getset_descriptor"),none,(.fields #[(.str "__dict__" 415),(.ref 188),(.builtin "function.__dict__"),(.builtin "function.__dict__#set")]),#[]⟩)::(nat_lit 190,⟨(.type "getset_descriptor"),none,(.fields #[(.str "__weakref__" 417),(.ref 188),(.builtin "ExceptionGroup.__weakref__"),.none]),#[]⟩)::(nat_lit 200,⟨(.type "tuple"),none,(.seq #[.none] 0),#[]⟩)::(nat_lit 206,co "__init__" "Whole.__init__" 434 435 436 60 2 201 181 202 203 204 205 439 60 440)::(nat_lit 207,fo "__init__" "Whole.__init__" (A3 (top 19) 0) (.ref 200) (.str "glazebench.cuts" 357) 206)::(nat_lit 209,⟨(.type "dict"),none,(.dict #[kE P "__module__" 429 (.str "glazebench.cuts" 357),kE P "__firstlineno__" 433 (.int (58) 432),kE P "__init__" 441 (.ref 207),kE P "__static_attributes__" 443 (.ref 208),kE P "__doc__" 444 .none] 2),#[]⟩)::(nat_lit 210,⟨(.type "type"),none,(.cls { name:="Whole",bases:=[(.ref 188)],mro:=[(.ref 210),(.ref 188),(.type "object")],ns:=209,qualname:="Whole",hasDict:=true,slotNames:=[],subclasses:=[],abstract:=false,collection:=none,hasDel:=false }),#[some (.ref 193),none,some (.str "Whole" 422),some (.str "Whole" 430),some (.builtin "object.__new__"),some (.bool true)]⟩)::(nat_lit 225,co "__init__" "Upright.__init__" 459 460 461 64 4 220 181 221 222 223 224 466 64 467)::(nat_lit 226,fo "__init__" "Upright.__init__" (A3 (top 20) 0) .none (.str "glazebench.cuts" 357) 225)::(nat_lit 228,⟨(.type "dict"),none,(.dict #[kE P "__module__" 454 (.str "glazebench.cuts" 357),kE P "__firstlineno__" 458 (.int (62) 457),kE P "__init__" 468 (.ref 226),kE P "__static_attributes__" 472 (.ref 227),kE P "__doc__" 473 .none] 2),#[]⟩)::(nat_lit 229,⟨(.type "type"),none,(.cls { name:="Upright",bases:=[(.ref 188)],mro:=[(.ref 229),(.ref 188),(.type "object")],ns:=228,qualname:="Upright",hasDict:=true,slotNames:=[],subclasses:=[],abstract:=false,collection:=none,hasDel:=false }),#[some (.ref 213),none,some (.str "Upright" 447),some (.str "Upright" 455),some (.builtin "object.__new__"),some (.bool true)]⟩)::(nat_lit 244,co "__init__" "Level.__init__" 488 489 490 70 4 239 181 240 241 242 243 495 70 496)::(nat_lit 245,fo "__init__" "Level.__init__" (A3 (top 21) 0) .none (.str "glazebench.cuts" 357) 244)::(nat_lit 247,⟨(.type "dict"),none,(.dict #[kE P "__module__" 483 (.str "glazebench.cuts" 357),kE P "__firstlineno__" 487 (.int (68) 486),kE P "__init__" 497 (.ref 245),kE P "__static_attributes__" 501 (.ref 246),kE P "__doc__" 502 .none] 2),#[]⟩)::(nat_lit 248,⟨(.type "type"),none,(.cls { name:="Level",bases:=[(.ref 188)],mro:=[(.ref 248),(.ref 188),(.type "object")],ns:=247,qualname:="Level",hasDict:=true,slotNames:=[],subclasses:=[],abstract:=false,collection:=none,hasDel:=false }),#[some (.ref 232),none,some (.str "Level" 476),some (.str "Level" 484),some (.builtin "object.__new__"),some (.bool true)]⟩)::(nat_lit 256,co "kind_of" "kind_of" 505 506 507 74 1 251 181 252 253 254 255 509 74 510)::(nat_lit 257,fo "kind_of" "kind_of" (top 22) .none (.str "glazebench.cuts" 357) 256)::(nat_lit 263,co "entry_of" "entry_of" 512 513 514 78 1 258 181 259 260 261 262 517 78 518)::(nat_lit 264,fo "entry_of" "entry_of" (top 23) .none (.str "glazebench.cuts" 357) 263)::(nat_lit 270,co "entries_of" "entries_of" 520 521 522 81 1 265 181 266 267 268 269 527 81 528)::(nat_lit 271,fo "entries_of" "entries_of" (top 24) .none (.str "glazebench.cuts" 357) 270)::(nat_lit 277,co "cut_from" "cut_from" 530 531 532 90 4 272 181 273 274 275 276 537 90 538)::(nat_lit 278,fo "cut_from" "cut_from" (top 25) .none (.str "glazebench.cuts" 357) 277)::(nat_lit 284,co "tree_from" "tree_from" 540 541 542 94 1 279 181 280 281 282 283 549 94 550)::(nat_lit 285,fo "tree_from" "tree_from" (top 26) .none (.str "glazebench.cuts" 357) 284)::(nat_lit 291,co "entries_by" "entries_by" 552 553 554 104 2 286 181 287 288 289 290 561 104 562)::(nat_lit 292,fo "entries_by" "entries_by" (top 27) .none (.str "glazebench.cuts" 357) 291)::(nat_lit 298,co "turned_word" "turned_word" 564 565 566 115 1 293 181 294 295 296 297 568 115 569)::(nat_lit 299,fo "turned_word" "turned_word" (top 28) .none (.str "glazebench.cuts" 357) 298)::(nat_lit 305,co "first_piece" "first_piece" 571 572 573 119 3 300 181 301 302 303 304 577 119 578)::(nat_lit 306,fo "first_piece" "first_piece" (top 29) .none (.str "glazebench.cuts" 357) 305)::(nat_lit 312,co "other_piece" "other_piece" 580 581 582 123 3 307 181 308 309 310 311 586 123 587)::(nat_lit 313,fo "other_piece" "other_piece" (top 30) .none (.str "glazebench.cuts" 357) 312)::(nat_lit 319,co "ways_to_lie" "ways_to_lie" 591 592 593 128 1 314 181 315 316 317 318 595 128 596)::(nat_lit 320,fo "ways_to_lie" "ways_to_lie" (top 32) .none (.str "glazebench.stairs" 589) 319)::(nat_lit 324,cp "ways_held" "ways_held" 598 599 600 132 3 321 181 322 .none .none (.ref 323) 601 132 602)::(nat_lit 325,fo "ways_held" "ways_held" (top 33) .none (.str "glazebench.stairs" 589) 324)::(nat_lit 331,co "is_sheet" "is_sheet" 608 609 610 136 1 326 181 327 328 329 330 612 136 613)::(nat_lit 332,fo "is_sheet" "is_sheet" (top 36) .none (.str "glazebench.plans" 604) 331)::(nat_lit 338,co "check_sheets" "check_sheets" 615 616 617 140 1 333 181 334 335 336 337 621 140 622)::(nat_lit 339,fo "check_sheets" "check_sheets" (top 37) .none (.str "glazebench.plans" 604) 338)::(nat_lit 345,co "holds" "holds" 628 629 630 148 2 340 181 341 342 343 344 634 148 635)::(nat_lit 346,fo "holds" "holds" (top 40) .none (.str "glazebench.bench" 624) 345)::(nat_lit 352,co "cut_pane" "cut_pane" 637 638 639 151 4 347 181 348 349 350 351 649 151 650)::(nat_lit 353,fo "cut_pane" "cut_pane" (top 41) .none (.str "glazebench.bench" 624) 352)::(nat_lit 359,co "tree_in" "tree_in" 652 653 654 161 2 354 181 355 356 357 358 658 161 659)::(nat_lit 360,fo "tree_in" "tree_in" (top 42) .none (.str "glazebench.bench" 624) 359)::(nat_lit 371,cp "__init__" "Bench.__init__" 673 674 675 165 2 368 181 369 .none .none (.ref 370) 676 165 677)::(nat_lit 372,fo "__init__" "Bench.__init__" (A3 (top 43) 0) .none (.str "glazebench.bench" 624) 371)::(nat_lit 376,cp "whole_pieces" "Bench.whole_pieces" 679 680 681 170 1 373 181 374 .none .none (.ref 375) 682 170 683)::(nat_lit 377,fo "whole_pieces" "Bench.whole_pieces" (A3 (top 43) 1) .none (.str "glazebench.bench" 624) 376)::(nat_lit 381,cp "panes_cut" "Bench.panes_cut" 685 686 687 176 1 378 181 379 .none .none (.ref 380) 688 176 689)::(nat_lit 382,fo "panes_cut" "Bench.panes_cut" (A3 (top 43) 2) .none (.str "glazebench.bench" 624) 381)::(nat_lit 386,cp "offcuts" "Bench.offcuts" 691 692 693 179 1 383 181 384 .none .none (.ref 385) 694 179 695)::(nat_lit 387,fo "offcuts" "Bench.offcuts" (A3 (top 43) 3) .none (.str "glazebench.bench" 624) 386)::(nat_lit 391,cp "sheets" "Bench.sheets" 697 698 699 182 1 388 181 389 .none .none (.ref 390) 700 182 701)::(nat_lit 392,fo "sheets" "Bench.sheets" (A3 (top 43) 4) .none (.str "glazebench.bench" 624) 391)::(nat_lit 396,cp "areas" "Bench.areas" 703 704 705 185 1 393 181 394 .none .none (.ref 395) 706 185 707)::(nat_lit 397,fo "areas" "Bench.areas" (A3 (top 43) 5) .none (.str "glazebench.bench" 624) 396)::(nat_lit 401,cp "piece_for" "Bench.piece_for" 709 710 711 191 2 398 181 399 .none .none (.ref 400) 712 191 713)::(nat_lit 402,fo "piece_for" "Bench.piece_for" (A3 (top 43) 6) .none (.str "glazebench.bench" 624) 401)::(nat_lit 403,⟨(.type "tuple"),none,(.seq #[(.bool false)] 0),#[]⟩)::(nat_lit 409,co "cut" "Bench.cut" 715 716 717 202 4 404 181 405 406 407 408 726 202 727)::(nat_lit 410,fo "cut" "Bench.cut" (A3 (top 43) 7) (.ref 403) (.str "glazebench.bench" 624) 409)::(nat_lit 412,⟨(.type "dict"),none,(.dict #[kE P "__module__" 668 (.str "glazebench.bench" 624),kE P "__firstlineno__" 672 (.int (163) 671),kE P "__init__" 678 (.ref 372),kE P "whole_pieces" 684 (.ref 377),kE P "panes_cut" 690 (.ref 382),kE P "offcuts" 696 (.ref 387),kE P "sheets" 702 (.ref 392),kE P "areas" 708 (.ref 397),kE P "piece_for" 714 (.ref 402),kE P "cut" 728 (.ref 410),kE P "__static_attributes__" 731 (.ref 411),kE P "__dict__" 733 (.ref 414),kE P "__weakref__" 735 (.ref 415),kE P "__doc__" 736 .none] 4),#[]⟩)::(nat_lit 413,⟨(.type "type"),none,(.cls { name:="Bench",bases:=[(.type "object")],mro:=[(.ref 413),(.type "object")],ns:=412,qualname:="Bench",hasDict:=true,slotNames:=[],subclasses:=[],abstract:=false,collection:=none,hasDel:=false }),#[none,none,some (.str "Bench" 661),some (.str "Bench" 669),some (.builtin "object.__new__"),some (.bool true)]⟩)::(nat_lit 414,⟨(.type "getset_descriptor"),none,(.fields #[(.str "__dict__" 732),(.ref 413),(.builtin "function.__dict__"),(.builtin "function.__dict__#set")]),#[]⟩)::(nat_lit 415,⟨(.type "getset_descriptor"),none,(.fields #[(.str "__weakref__" 734),(.ref 413),(.builtin "ExceptionGroup.__weakref__"),.none]),#[]⟩)::(nat_lit 423,co "_law_cell" "_law_cell" 741 742 743 212 2 418 181 419 420 421 422 746 212 747)::(nat_lit 424,fo "_law_cell" "_law_cell" (top 45) .none (.str "law_glazebench_k72_whole_no_glass_lost" 739) 423)::(nat_lit 430,co "_law_draw" "_law_draw" 749 750 751 216 3 425 181 426 427 428 429 756 216 757)::(nat_lit 431,fo "_law_draw" "_law_draw" (top 46) .none (.str "law_glazebench_k72_whole_no_glass_lost" 739) 430)::(nat_lit 437,co "_law_state" "_law_state" 759 760 761 219 1 432 181 433 434 435 436 764 219 765)::(nat_lit 438,fo "_law_state" "_law_state" (top 47) .none (.str "law_glazebench_k72_whole_no_glass_lost" 739) 437)::(nat_lit 444,co "_law_pick" "_law_pick" 767 768 769 224 2 439 181 440 441 442 443 773 224 774)::(nat_lit 445,fo "_law_pick" "_law_pick" (top 48) .none (.str "law_glazebench_k72_whole_no_glass_lost" 739) 444)::(nat_lit 451,co "_law_whole" "_law_whole" 776 777 778 231 1 446 181 447 448 449 450 780 231 781)::(nat_lit 452,fo "_law_whole" "_law_whole" (top 49) .none (.str "law_glazebench_k72_whole_no_glass_lost" 739) 451)::(nat_lit 458,co "_law_told" "_law_told" 783 784 785 233 1 453 181 454 455 456 457 790 233 791)::(nat_lit 459,fo "_law_told" "_law_told" (top 50) .none (.str "law_glazebench_k72_whole_no_glass_lost" 739) 458)::(nat_lit 465,co "_law_pieces" "_law_pieces" 793 794 795 248 2 460 181 461 462 463 464 804 248 805)::(nat_lit 466,fo "_law_pieces" "_law_pieces" (top 51) .none (.str "law_glazebench_k72_whole_no_glass_lost" 739) 465)::(nat_lit 472,co "_law_fits" "_law_fits" 807 808 809 258 3 467 181 468 469 470 471 814 258 815)::(nat_lit 473,fo "_law_fits" "_law_fits" (top 52) .none (.str "law_glazebench_k72_whole_no_glass_lost" 739) 472)::(nat_lit 479,co "_law_area" "_law_area" 817 818 819 265 1 474 181 475 476 477 478 821 265 822)::(nat_lit 480,fo "_law_area" "_law_area" (top 53) .none (.str "law_glazebench_k72_whole_no_glass_lost" 739) 479)::(nat_lit 486,co "_law_apart" "_law_apart" 824 825 826 267 2 481 181 482 483 484 485 829 267 830)::(nat_lit 487,fo "_law_apart" "_law_apart" (top 54) .none (.str "law_glazebench_k72_whole_no_glass_lost" 739) 486)::(nat_lit 493,co "_law_asked" "_law_asked" 832 833 834 269 4 488 181 489 490 491 492 840 269 841)::(nat_lit 494,fo "_law_asked" "_law_asked" (top 55) .none (.str "law_glazebench_k72_whole_no_glass_lost" 739) 493)::(nat_lit 498,cp "_law_taken" "_law_taken" 843 844 845 276 2 495 181 496 .none .none (.ref 497) 846 276 847)::(nat_lit 499,fo "_law_taken" "_law_taken" (top 56) .none (.str "law_glazebench_k72_whole_no_glass_lost" 739) 498)::(nat_lit 503,cp "law" "law" 849 850 851 294 1 500 181 501 .none .none (.ref 502) 852 294 853)::(nat_lit 504,fo "law" "law" (top 57) .none (.str "law_glazebench_k72_whole_no_glass_lost" 739) 503)::(nat_lit 4,⟨(.type "module"),(some 0),.plain,#[]⟩)::[]
def kas:List Addr:=nat_lit 2::nat_lit 3::nat_lit 20::nat_lit 21::nat_lit 30::nat_lit 31::nat_lit 32::nat_lit 47::nat_lit 48::nat_lit 50::nat_lit 51::nat_lit 66::nat_lit 67::nat_lit 69::nat_lit 70::nat_lit 85::nat_lit 86::nat_lit 88::nat_lit 89::nat_lit 104::nat_lit 105::nat_lit 107::nat_lit 108::nat_lit 116::nat_lit 117::nat_lit 123::nat_lit 124::nat_lit 130::nat_lit 131::nat_lit 137::nat_lit 138::nat_lit 144::nat_lit 145::nat_lit 158::nat_lit 159::nat_lit 165::nat_lit 166::nat_lit 170::nat_lit 171::nat_lit 177::nat_lit 178::nat_lit 184::nat_lit 185::nat_lit 187::nat_lit 188::nat_lit 189::nat_lit 190::nat_lit 200::nat_lit 206::nat_lit 207::nat_lit 209::nat_lit 210::nat_lit 225::nat_lit 226::nat_lit 228::nat_lit 229::nat_lit 244::nat_lit 245::nat_lit 247::nat_lit 248::nat_lit 256::nat_lit 257::nat_lit 263::nat_lit 264::nat_lit 270::nat_lit 271::nat_lit 277::nat_lit 278::nat_lit 284::nat_lit 285::nat_lit 291::nat_lit 292::nat_lit 298::nat_lit 299::nat_lit 305::nat_lit 306::nat_lit 312::nat_lit 313::nat_lit 319::nat_lit 320::nat_lit 324::nat_lit 325::nat_lit 331::nat_lit 332::nat_lit 338::nat_lit 339::nat_lit 345::nat_lit 346::nat_lit 352::nat_lit 353::nat_lit 359::nat_lit 360::nat_lit 371::nat_lit 372::nat_lit 376::nat_lit 377::nat_lit 381::nat_lit 382::nat_lit 386::nat_lit 387::nat_lit 391::nat_lit 392::nat_lit 396::nat_lit 397::nat_lit 401::nat_lit 402::nat_lit 403::nat_lit 409::nat_lit 410::nat_lit 412::nat_lit 413::nat_lit 414::nat_lit 415::nat_lit 423::nat_lit 424::nat_lit 430::nat_lit 431::nat_lit 437::nat_lit 438::nat_lit 444::nat_lit 445::nat_lit 451::nat_lit 452::nat_lit 458::nat_lit 459::nat_lit 465::nat_lit 466::nat_lit 472::nat_lit 473::nat_lit 479::nat_lit 480::nat_lit 486::nat_lit 487::nat_lit 493::nat_lit 494::nat_lit 498::nat_lit 499::nat_lit 503::nat_lit 504::nat_lit 4::[]
def keeps:List Nat:=0::2::3::4::5::6::8::9::10::11::12::13::15::16::17::18::19::20::21::22::23::24::25::26::27::28::29::30::32::33::35::36::37::39::40::41::42::43::45::46::47::48::49::50::51::52::53::54::55::56::57::[]
def lo:LSz:=["Whole"]
def Ts:List Addr:=nat_lit 355::[]
theorem prep(h:PySem.Challenge.rw_glazebench_k72_whole_no_glass_lost.row.wellSaid=true->PySem.Challenge.rw_glazebench_k72_whole_no_glass_lost.row.Holds):PySem.Challenge.rw_glazebench_k72_whole_no_glass_lost.Holds:=by
 w_on
 o_law
 exact h (by assumption)
def qv(p:Program):Program:=view p keeps
def Xp(p:Program)(s:Shared):Bool:=xlAt (qv p) [] s&&recOk (RowW.records (OpenRow.toRowW PySem.Challenge.rw_glazebench_k72_whole_no_glass_lost.row)) s
theorem kas_is(P:Params):kas=(KK P).map (λ x=>x.1):=by kernel_rfl
theorem Sb:opening PySem.Challenge.pw_glazebench_k72_whole_no_glass_lost=plainProg PySem.Challenge.pw_glazebench_k72_whole_no_glass_lost.main.scope.names:=by kernel_rfl
theorem OY(s:Shared):fenceModules? PySem.Challenge.pw_glazebench_k72_whole_no_glass_lost s=some s:=by kernel_rfl
theorem Qq(w:World):((boot_heap w.params).isNs mainGlobals,(boot_heap w.params).objs.size,(boot_heap w.params).nsMap mainGlobals "__annotations__")=(true,11,(some (.ref 6))):=by kernel_rfl
theorem SW:S5 7860 11 (some (.ref 6)) Fast.te10156331382660048174 Fast.te11892475500146522536 Fast.te14364793385576792824 Fast.te5923862056798008813 Fast.te4187177175401517315 Fast.te13075339204954854904:=λ w os=>by kernel_rfl
theorem SV:S4 7860 11 (some (.ref 6)) qv lo Xp Fast.te10156331382660048174 Fast.te11892475500146522536 Fast.te14364793385576792824 Fast.te5923862056798008813 Fast.te4187177175401517315 Fast.te13075339204954854904:=λ w os=>by kernel_rfl
theorem SU:S3 7860 11 (some (.ref 6)) (hookT (kHook KK kas kas_is) Ts).obs (hookT (kHook KK kas kas_is) Ts).val Fast.te10156331382660048174 Fast.te11892475500146522536 Fast.te14364793385576792824 Fast.te5923862056798008813 Fast.te4187177175401517315 Fast.te13075339204954854904:=λ w os=>by kernel_rfl
theorem ran:∀(w:World)(os:OsState),Option.map (Ig openSeen (importedModules PySem.Challenge.pw_glazebench_k72_whole_no_glass_lost.main.body) PySem.Challenge.pw_glazebench_k72_whole_no_glass_lost (qv PySem.Challenge.pw_glazebench_k72_whole_no_glass_lost) lo (Xp PySem.Challenge.pw_glazebench_k72_whole_no_glass_lost) (hookT (kHook KK kas kas_is) Ts).obs (boot_heap w.params)) (topRun treeTable PySem.Challenge.pw_glazebench_k72_whole_no_glass_lost w 11 (some (.ref 6)) 7860 (D9 w.params os) (topStub PySem.Challenge.pw_glazebench_k72_whole_no_glass_lost))=some (true,openGood (qv PySem.Challenge.pw_glazebench_k72_whole_no_glass_lost) lo,(hookT (kHook KK kas kas_is) Ts).val w):=PH SW SV SU
theorem left:LeftO PySem.Challenge.pw_glazebench_k72_whole_no_glass_lost (qv PySem.Challenge.pw_glazebench_k72_whole_no_glass_lost) lo (Xp PySem.Challenge.pw_glazebench_k72_whole_no_glass_lost) (hookT (kHook KK kas kas_is) Ts).obs (hookT (kHook KK kas kas_is) Ts).val 7860:=NJ (boot_open Sb (by decide) OY) Qq ran
end KH
namespace L2
open PySem.W
open PySem PySem.Spec PyProof.Rows
section
variable{M:Model}{A:Around}{E:VPz}{s:Shared}
def Qi:Bool->Keyed->Array Keyed->Nat->Nat->Nat->StateT SortSt Sem (Option Nat):=sortPriv% PySem.Builtin.gallop
def R9(M:Model)(A:Around)(E:VPz)(s:Shared)(left:Bool)(key:Keyed)(arr:Array Keyed)(base n:Nat)(kd:SortKind)(B:Nat->Bool):Prop :=
 ∀i,i<n->∀(st:SortSt)(Q:Option Bool->SortSt->Prop),kindOf st=kd->Q (some (B i)) st->wpS M A E s (elem' arr (base+i) >>= λ x=>if left=true then lt' x key else lt' key x >>= λ r=>pure (r.map (!·))) Q st
theorem Q8{n:Nat}{B:Nat->Bool}{f:Nat->Option (Option Nat)×Nat×Nat->StateT SortSt Sem (ForInStep (Option (Option Nat)×Nat×Nat))}{g:Option (Option Nat)×Nat×Nat->StateT SortSt Sem (Option Nat)}{lo hi:Nat}{st:SortSt}{Q:Option Nat->SortSt->Prop}(mono:∀i j,i<=j->j<n->B j=true->B i=true)
  (hf:∀x lo hi (Q':ForInStep (Option (Option Nat)×Nat×Nat)->SortSt->Prop),hi<=n->(lo>=hi->Q' (.done (none,lo,hi)) st)->(lo<hi->B (lo+(hi-lo) / 2)=true->Q' (.yield (none,lo+(hi-lo) / 2+1,hi)) st)->(lo<hi->B (lo+(hi-lo) / 2)=false->Q' (.yield (none,lo,lo+(hi-lo) / 2)) st)->wpS M A E s (f x (none,lo,hi)) Q' st)
  (hg:∀lo hi,g (none,lo,hi)=pure (some hi)) (h1:lo<=hi) (h2:hi<=n) (h3:∀i,i<lo->B i=true) (h4:∀i,hi<=i->i<n->B i=false)
  (h:∀k,k<=n->(∀i,i<k->B i=true)->(∀i,k<=i->i<n->B i=false)->Q (some k) st):wpS M A E s (forIn [0:n] (none,lo,hi) f >>= g) Q st:=by
 have anti:∀i j,i<=j->j<n->B i=false->B j=false:=λ i j hij hj hi=>by
  cases e:B j with
  |false=>rfl
  |true=>rw[mono i j hij hj e]at hi;cases hi
 refine wpS_bind (wpS_mono (wpS_forRange (I:=λ x (c:Option (Option Nat)×Nat×Nat) st'=>st'=st/\c.1=none/\c.2.1<=c.2.2/\c.2.2<=n/\(c.2.2-c.2.1)+x<=n/\(∀i,i<c.2.1->B i=true)/\(∀i,c.2.2<=i->i<n->B i=false))
  (Q:=λ(c:Option (Option Nat)×Nat×Nat) st'=>st'=st/\c.1=none/\c.2.2<=n/\(∀i,i<c.2.2->B i=true)/\(∀i,c.2.2<=i->i<n->B i=false)) ?step ?fin (And.intro rfl ⟨rfl,h1,h2,by show hi-lo+0<=n;lia,h3,h4⟩)) ?post)
 case fin =>
  rintro⟨r,lo,hi⟩ st' ⟨e,e1,c1,c2,c3,c4,c5⟩;have:lo=hi:=by
   have c3:hi-lo+max 0 n<=n:=c3;have c1:lo<=hi:=c1;lia
  subst this;exact And.intro e ⟨e1,c2,c4,c5⟩
 case step =>
  rintro x ⟨r,lo,hi⟩ st' _ hx ⟨e,e1,c1,c2,c3,c4,c5⟩;have e1:r=none:=e1;subst e1;subst e;have c1:lo<=hi:=c1;have c2:hi<=n:=c2;have c3:hi-lo+x<=n:=c3;have c4:∀i,i<lo->B i=true:=c4;have c5:∀i,hi<=i->i<n->B i=false:=c5;refine hf x lo hi _ c2 (λ hl=>?_) (λ hl hb=>?_) (λ hl hb=>?_)
  .have:lo=hi:=by lia
   subst this;exact And.intro rfl ⟨rfl,c2,c4,c5⟩
  .refine And.intro rfl ⟨rfl,by show lo+(hi-lo) / 2+1<=hi;lia,c2,by show hi-(lo+(hi-lo) / 2+1)+(x+1)<=n;lia,λ i hi'=>?_,c5⟩;exact mono i _ (by have:i<lo+(hi-lo) / 2+1:=hi';lia) (by lia) hb
  .refine And.intro rfl ⟨rfl,by show lo<=lo+(hi-lo) / 2;lia,by show lo+(hi-lo) / 2<=n;lia,by show lo+(hi-lo) / 2-lo+(x+1)<=n;lia,c4,λ i h1 h2=>?_⟩;exact anti _ i h1 h2 hb
 case post =>
  rintro⟨r,lo,hi⟩ st' ⟨e,e1,c1,c2,c3⟩;have e1:r=none:=e1;subst e1;subst e;rw[hg];exact wpS_pure (h hi c1 c2 c3)
theorem Oy{n mx:Nat}{C:Nat->Bool}{f:Nat->Option (Option Nat)×Nat×Nat->StateT SortSt Sem (ForInStep (Option (Option Nat)×Nat×Nat))}{g:Option (Option Nat)×Nat×Nat->StateT SortSt Sem (Option Nat)}{st:SortSt}{Q:Option Nat->SortSt->Prop}(hmx:mx<=n)(h1:1<=mx)(c0:C 0=true)
  (hf:∀x la of (Q':ForInStep (Option (Option Nat)×Nat×Nat)->SortSt->Prop),(of>=mx->Q' (.done (none,la,of)) st)->(of<mx->C of=false->Q' (.done (none,la,of)) st)->(of<mx->C of=true->Q' (.yield (none,of,2*of+1)) st)->wpS M A E s (f x (none,la,of)) Q' st)
  (hg:∀la of,la<of->la<mx->C la=true->(of>=mx\/(of<mx/\C of=false))->wpS M A E s (g (none,la,of)) Q st):wpS M A E s (forIn [0:n] (none,0,1) f >>= g) Q st:=by
 refine wpS_bind (wpS_mono (wpS_forRange (I:=λ x (c:Option (Option Nat)×Nat×Nat) st'=>st'=st/\c.1=none/\c.2.1<c.2.2/\c.2.1<mx/\x+1<=c.2.2/\C c.2.1=true)
  (Q:=λ(c:Option (Option Nat)×Nat×Nat) st'=>st'=st/\c.1=none/\c.2.1<c.2.2/\c.2.1<mx/\C c.2.1=true/\(c.2.2>=mx\/(c.2.2<mx/\C c.2.2=false))) ?step ?fin (And.intro rfl ⟨rfl,by show 0<1;lia,by show 0<mx;lia,by show 0+1<=1;lia,c0⟩)) ?post)
 case fin =>
  rintro⟨r,la,of⟩ st' ⟨e,e1,c1,c2,c3,c4⟩;have c3:max 0 n+1<=of:=c3;exact And.intro e ⟨e1,c1,c2,c4,.inl (by show of>=mx;lia)⟩
 case step =>
  rintro x ⟨r,la,of⟩ st' _ hx ⟨e,e1,c1,c2,c3,c4⟩;have e1:r=none:=e1;subst e1;subst e;have c1:la<of:=c1;have c2:la<mx:=c2;have c3:x+1<=of:=c3;refine hf x la of _ (λ hl=>?_) (λ hl hb=>?_) (λ hl hb=>?_)
  .exact And.intro rfl ⟨rfl,c1,c2,c4,.inl hl⟩
  .exact And.intro rfl ⟨rfl,c1,c2,c4,.inr ⟨hl,hb⟩⟩
  .exact And.intro rfl ⟨rfl,by show of<2*of+1;lia,hl,by show x+1+1<=2*of+1;lia,hb⟩
 case post =>
  rintro⟨r,la,of⟩ st' ⟨e,e1,c1,c2,c3,c4⟩;have e1:r=none:=e1;subst e1;subst e;exact hg la of c1 c2 c3 c4
theorem AF{left:Bool}{key:Keyed}{arr:Array Keyed}{base n hint:Nat}{kd:SortKind}{B:Nat->Bool}{st:SortSt}{Q:Option Nat->SortSt->Prop}(hk:kindOf st=kd)(ask:R9 M A E s left key arr base n kd B)(mono:∀i j,i<=j->j<n->B j=true->B i=true)(hh:hint<n)
  (h:∀k,k<=n->(∀i,i<k->B i=true)->(∀i,k<=i->i<n->B i=false)->Q (some k) st):wpS M A E s (Qi left key arr base n hint) Q st:=by
 have anti:∀i j,i<=j->j<n->B i=false->B j=false:=λ i j hij hj hi=>by
  cases e:B j with
  |false=>rfl
  |true=>rw[mono i j hij hj e]at hi;cases hi
 refine wpS_bind (ask hint hh st _ hk ?_);dsimp only;cases hr:B hint with
 |true =>
  rw[if_pos rfl];refine Oy (mx:=n-hint) (C:=λ o=>B (hint+o)) (by lia) (by lia) hr (λ x la of Q' k1 k2 k3=>?_) (λ la of d1 d2 d3 d4=>?_)
  .dsimp only;by_cases hl:of>=n-hint
   .rw[if_pos hl];exact wpS_pure (k1 hl)
   .rw[if_neg hl];refine wpS_bind (ask (hint+of) (by lia) st _ hk ?_);dsimp only;cases hb:B (hint+of) with
    |true=>exact wpS_pure (k3 (by lia) hb)
    |false=>exact wpS_pure (k2 (by lia) hb)
  .dsimp only;refine Q8 mono (λ x lo hi Q' hn k1 k2 k3=>?_) (λ lo hi=>rfl) (by lia) (by lia) (λ i hi=>mono i (hint+la) (by lia) (by lia) d3) (λ i hi hi2=>?_) h
   .dsimp only;by_cases hl:lo>=hi
    .rw[if_pos hl];exact wpS_pure (k1 hl)
    .rw[if_neg hl];refine wpS_bind (ask (lo+(hi-lo) / 2) (by lia) st _ hk ?_);dsimp only;cases hb:B (lo+(hi-lo) / 2) with
     |true=>exact wpS_pure (k2 (by lia) hb)
     |false=>exact wpS_pure (k3 (by lia) hb)
   .rcases d4 with d4|⟨d4,d5⟩
    .lia
    .exact anti (hint+of) i (by lia) hi2 d5
 |false =>
  rw[if_neg Bool.false_ne_true];refine Oy (mx:=hint+1) (C:=λ o=>!B (hint-o)) (by lia) (by lia) (by show(!B hint)=true;rw[hr];rfl) (λ x la of Q' k1 k2 k3=>?_) (λ la of d1 d2 d3 d4=>?_)
  .dsimp only;by_cases hl:of>=hint+1
   .rw[if_pos hl];exact wpS_pure (k1 hl)
   .rw[if_neg hl];refine wpS_bind (ask (hint-of) (by lia) st _ hk ?_);dsimp only;cases hb:B (hint-of) with
    |true=>exact wpS_pure (k2 (by lia) (by rw[hb];rfl))
    |false=>exact wpS_pure (k3 (by lia) (by rw[hb];rfl))
  .dsimp only;have d3:B (hint-la)=false:=by simpa using d3
   refine Q8 mono (λ x lo hi Q' hn k1 k2 k3=>?_) (λ lo hi=>rfl) (by lia) (by lia) (λ i hi=>?_) (λ i hi hi2=>anti (hint-la) i (by lia) hi2 d3) h
   .dsimp only;by_cases hl:lo>=hi
    .rw[if_pos hl];exact wpS_pure (k1 hl)
    .rw[if_neg hl];refine wpS_bind (ask (lo+(hi-lo) / 2) (by lia) st _ hk ?_);dsimp only;cases hb:B (lo+(hi-lo) / 2) with
     |true=>exact wpS_pure (k2 (by lia) hb)
     |false=>exact wpS_pure (k3 (by lia) hb)
   .rcases d4 with d4|⟨d4,d5⟩
    .lia
    .have d5:B (hint-of)=true:=by simpa using d5
     exact mono i (hint-of) (by lia) (by lia) d5
def LtG(M:Model)(A:Around)(E:VPz)(s:Shared)(kd:SortKind)(κ:Keyed->Int)(S:Keyed->Prop):Prop :=
 ∀x y,S x->S y->∀(st:SortSt)(Q:Option Bool->SortSt->Prop),kindOf st=kd->Q (some (decide (κ x<κ y))) st->wpS M A E s (lt' x y) Q st
theorem Aj{arr:Array Keyed}{i:Nat}{x:Keyed}{st:SortSt}{Q:Keyed->SortSt->Prop}(hx:arr[i]?=some x)(h:Q x st):wpS M A E s (elem' arr i) Q st:=by
 rw[elem'_eq,hx];exact wpS_pure h
theorem Db{kd:SortKind}{κ:Keyed->Int}{S:Keyed->Prop}(L:LtG M A E s kd κ S){key:Keyed}{arr:Array Keyed}{base n:Nat}(hk:S key)(ha:∀i,i<n->∃x,arr[base+i]?=some x/\S x) :
  R9 M A E s true key arr base n kd (λ i=>decide (κ (arr.getD (base+i) default)<κ key)):=λ i hi st Q hs hq=>by
 obtain⟨x,hx,sx⟩:=ha i hi;refine wpS_bind (Aj hx ?_);rw[if_pos rfl];refine L x key sx hk st Q hs ?_;have e:arr.getD (base+i) default=x:=by rw[Array.getD_eq_getD_getElem?,hx];rfl
 dsimp only at hq;rw[e]at hq;exact hq
theorem GO{kd:SortKind}{κ:Keyed->Int}{S:Keyed->Prop}(L:LtG M A E s kd κ S){key:Keyed}{arr:Array Keyed}{base n:Nat}(hk:S key)(ha:∀i,i<n->∃x,arr[base+i]?=some x/\S x) :
  R9 M A E s false key arr base n kd (λ i=>!decide (κ key<κ (arr.getD (base+i) default))):=λ i hi st Q hs hq=>by
 obtain⟨x,hx,sx⟩:=ha i hi;refine wpS_bind (Aj hx ?_);rw[if_neg Bool.false_ne_true];refine wpS_bind (L key x hk sx st _ hs ?_);have e:arr.getD (base+i) default=x:=by rw[Array.getD_eq_getD_getElem?,hx];rfl
 dsimp only at hq;rw[e]at hq;exact wpS_pure hq
end
section
variable{α:Type}{κ:α->Int}
def Rise(κ:α->Int)(xs:List α):Prop:=xs.Pairwise λ x y=>κ x<=κ y
structure MI(κ:α->Int)(a b out:List α)(ia ib:Nat):Prop where
 pm:(out++(a.drop ia++b.drop ib)).Perm (a++b)
 so:Rise κ out
 le:∀x∈out,∀y∈a.drop ia++b.drop ib,κ x<=κ y
 la:ia<=a.length
 lb:ib<=b.length
theorem Rise.drop{xs:List α}(h:Rise κ xs)(n:Nat):Rise κ (xs.drop n):=List.Pairwise.sublist (List.drop_sublist n xs) h
theorem Rise.app{xs ys:List α}(h1:Rise κ xs)(h2:Rise κ ys)(h:∀x∈xs,∀y∈ys,κ x<=κ y):Rise κ (xs++ys):=List.pairwise_append.mpr ⟨h1,h2,h⟩
theorem B5(xs:List α)(i k:Nat):xs.drop i=(xs.drop i).take k++xs.drop (i+k):=by
 rw[<-List.drop_drop];exact(List.take_append_drop k _).symm
theorem MI.start(a b:List α):MI κ a b [] 0 0:=⟨by simp,List.Pairwise.nil,λ x h=>absurd h List.not_mem_nil,Nat.zero_le _,Nat.zero_le _⟩
theorem MI.takeA{a b out:List α}{ia ib k:Nat}(m:MI κ a b out ia ib)(sa:Rise κ a)(hk:ia+k<=a.length)(h:∀x∈(a.drop ia).take k,∀y∈b.drop ib,κ x<=κ y):MI κ a b (out++(a.drop ia).take k) (ia+k) ib:=by
 have e:=B5 a ia k;have sd:=sa.drop ia;rw[e]at sd;obtain⟨s1,s2,s3⟩:=List.pairwise_append.mp sd;refine⟨?_,m.so.app s1 λ x hx y hy=>m.le x hx y (List.mem_append_left _ (by rw[e];exact List.mem_append_left _ hy)),λ x hx y hy=>?_,hk,m.lb⟩
 .refine List.Perm.trans ?_ m.pm;rw[List.append_assoc,<-List.append_assoc ((a.drop ia).take k),<-e]
 .rcases List.mem_append.mp hx with hx|hx
  .rcases List.mem_append.mp hy with hy|hy
   .exact m.le x hx y (List.mem_append_left _ (by rw[e];exact List.mem_append_right _ hy))
   .exact m.le x hx y (List.mem_append_right _ hy)
  .rcases List.mem_append.mp hy with hy|hy
   .exact s3 x hx y hy
   .exact h x hx y hy
theorem MI.takeB{a b out:List α}{ia ib k:Nat}(m:MI κ a b out ia ib)(sb:Rise κ b)(hk:ib+k<=b.length)(h:∀x∈(b.drop ib).take k,∀y∈a.drop ia,κ x<=κ y):MI κ a b (out++(b.drop ib).take k) ia (ib+k):=by
 have e:=B5 b ib k;have sd:=sb.drop ib;rw[e]at sd;obtain⟨s1,s2,s3⟩:=List.pairwise_append.mp sd;refine⟨?_,m.so.app s1 λ x hx y hy=>m.le x hx y (List.mem_append_right _ (by rw[e];exact List.mem_append_left _ hy)),λ x hx y hy=>?_,m.la,hk⟩
 .refine List.Perm.trans ?_ m.pm;rw[List.append_assoc];refine List.Perm.append_left out ?_;have e2:a.drop ia++b.drop ib=a.drop ia++((b.drop ib).take k++b.drop (ib+k)):=by rw[<-e]
  rw[e2,<-List.append_assoc,<-List.append_assoc];exact List.Perm.append_right _ List.perm_append_comm
 .rcases List.mem_append.mp hx with hx|hx
  .rcases List.mem_append.mp hy with hy|hy
   .exact m.le x hx y (List.mem_append_left _ hy)
   .exact m.le x hx y (List.mem_append_right _ (by rw[e];exact List.mem_append_right _ hy))
  .rcases List.mem_append.mp hy with hy|hy
   .exact h x hx y hy
   .exact s3 x hx y hy
theorem MI.done{a b out:List α}{ia ib:Nat}(m:MI κ a b out ia ib)(sa:Rise κ a)(sb:Rise κ b)(h:ib=b.length\/ia=a.length):Rise κ (out++a.drop ia++b.drop ib)/\(out++a.drop ia++b.drop ib).Perm (a++b):=by
 refine⟨?_,by rw[List.append_assoc];exact m.pm⟩;rw[List.append_assoc];refine m.so.app ?_ m.le;refine(sa.drop ia).app (sb.drop ib) λ x hx y hy=>?_;rcases h with h|h
 .rw[h,List.drop_length]at hy;exact absurd hy List.not_mem_nil
 .rw[h,List.drop_length]at hx;exact absurd hx List.not_mem_nil
theorem MI.lastA{a b out:List α}{ia ib:Nat}(m:MI κ a b out ia ib)(sa:Rise κ a)(sb:Rise κ b)(h:∀x∈b,∀y∈a.drop ia,κ x<=κ y):Rise κ (out++b.drop ib++a.drop ia)/\(out++b.drop ib++a.drop ia).Perm (a++b):=by
 refine⟨?_,?_⟩
 .rw[List.append_assoc];refine m.so.app ((sb.drop ib).app (sa.drop ia) λ x hx y hy=>h x (List.mem_of_mem_drop hx) y hy) λ x hx y hy=>m.le x hx y ?_;rcases List.mem_append.mp hy with hy|hy
  .exact List.mem_append_right _ hy
  .exact List.mem_append_left _ hy
 .refine List.Perm.trans ?_ m.pm;rw[List.append_assoc];exact List.Perm.append_left out List.perm_append_comm
end
section
variable{M:Model}{A:Around}{E:VPz}{s:Shared}
def OJ:Array Keyed->Array Keyed->StateT SortSt Sem (Array Keyed):=sortPriv% PySem.Builtin.mergeLo
theorem FO{α:Type}(a:Array α)(i:Nat):(a.extract i a.size).toList=a.toList.drop i:=by
 rw[Array.toList_extract,List.extract_eq_drop_take];exact List.take_of_length_le (by rw[List.length_drop,Array.length_toList];lia)
theorem OZ{α:Type}(a:Array α)(i k:Nat):(a.extract i (i+k)).toList=(a.toList.drop i).take k:=by
 rw[Array.toList_extract,List.extract_eq_drop_take];congr 1;lia
theorem C5{α:Type}{a:Array α}{i:Nat}(h:i<a.size):∃x,a[i]?=some x/\x∈a.toList/\a.toList.drop i=x::a.toList.drop (i+1):=by
 refine⟨a[i],by simp[h],by simp,?_⟩;have h':i<a.toList.length:=by rw[Array.length_toList];exact h
 rw[List.drop_eq_getElem_cons h'];simp
theorem B7{α:Type}{κ:α->Int}{xs:List α}(h:Rise κ xs){i:Nat}{x:α}(e:xs.drop i=x::xs.drop (i+1)):∀y∈xs.drop i,κ x<=κ y:=λ y hy=>by
 have hd:=h.drop i;rw[e]at hd hy;rcases List.mem_cons.mp hy with rfl|hy
 .exact Int.le_refl _
 .exact(List.pairwise_cons.mp hd).1 y hy
theorem Bf{α:Type}[Inhabited α]{κ:α->Int}{a:Array α}(h:Rise κ a.toList){i j:Nat}(hij:i<=j)(hj:j<a.size):κ (a.getD i default)<=κ (a.getD j default):=by
 have hi:i<a.size:=by lia
 have ei:a.getD i default=a.toList[i]'(by simpa using hi):=by simp[Array.getD,hi]
 have ej:a.getD j default=a.toList[j]'(by simpa using hj):=by simp[Array.getD,hj]
 rw[ei,ej];rcases Nat.lt_or_ge i j with h'|h'
 .exact List.pairwise_iff_getElem.mp h i j _ _ h'
 .have:i=j:=by lia
  subst this;exact Int.le_refl _
structure C8(st st':SortSt):Prop where
 kd:kindOf st'=kindOf st
 ar:arrOf st'=arrOf st
 pe:pendingOf st'=pendingOf st
 fa:failedOf st'=failedOf st
structure GoL(κ:Keyed->Int)(a b out:Array Keyed)(ia ib:Nat):Prop where
 mi:MI κ a.toList b.toList out.toList ia ib
 la:ia+1<a.size
 lb:ib<b.size
def AX(κ:Keyed->Int)(a b r:Array Keyed):Prop:=Rise κ r.toList/\r.toList.Perm (a.toList++b.toList)
theorem AI{κ:Keyed->Int}{a b out:Array Keyed}{ia ib:Nat}(m:MI κ a.toList b.toList out.toList ia ib)(sa:Rise κ a.toList)(sb:Rise κ b.toList)(h:ib=b.size\/ia=a.size):AX κ a b (out++a.extract ia a.size++b.extract ib b.size):=by
 have:=m.done sa sb (by rw[Array.length_toList,Array.length_toList];exact h);unfold AX;rw[Array.toList_append,Array.toList_append,FO,FO];exact this
theorem AH{κ:Keyed->Int}{a b out:Array Keyed}{ia ib:Nat}(m:MI κ a.toList b.toList out.toList ia ib)(sa:Rise κ a.toList)(sb:Rise κ b.toList)(h:∀x∈b.toList,∀y∈a.toList.drop ia,κ x<=κ y):AX κ a b (out++b.extract ib b.size++a.extract ia a.size):=by
 have:=m.lastA sa sb h;unfold AX;rw[Array.toList_append,Array.toList_append,FO,FO];exact this
theorem GoL.stepB{κ:Keyed->Int}{a b out:Array Keyed}{ia ib:Nat}{x y:Keyed}(g:GoL κ a b out ia ib)(sa:Rise κ a.toList)(sb:Rise κ b.toList)(db:b.toList.drop ib=x::b.toList.drop (ib+1))(da:a.toList.drop ia=y::a.toList.drop (ia+1))(h:κ x<=κ y):MI κ a.toList b.toList (out.push x).toList ia (ib+1):=by
 have:=g.mi.takeB sb (k:=1) (by rw[Array.length_toList];have:=g.lb;lia) (λ z hz w hw=>?_)
 .rw[db]at this;rw[Array.toList_push]
  simpa using this
 .rw[db]at hz;have:z=x:=by simpa using hz
  rw[this];exact Int.le_trans h (B7 sa da w hw)
theorem GoL.stepA{κ:Keyed->Int}{a b out:Array Keyed}{ia ib:Nat}{x y:Keyed}(g:GoL κ a b out ia ib)(sa:Rise κ a.toList)(sb:Rise κ b.toList)(db:b.toList.drop ib=x::b.toList.drop (ib+1))(da:a.toList.drop ia=y::a.toList.drop (ia+1))(h:κ y<=κ x):MI κ a.toList b.toList (out.push y).toList (ia+1) ib:=by
 have:=g.mi.takeA sa (k:=1) (by rw[Array.length_toList];have:=g.la;lia) (λ z hz w hw=>?_)
 .rw[da]at this;rw[Array.toList_push]
  simpa using this
 .rw[da]at hz;have:z=y:=by simpa using hz
  rw[this];exact Int.le_trans h (B7 sb db w hw)
theorem MI.pushB{κ:Keyed->Int}{a b out:Array Keyed}{ia ib:Nat}{x:Keyed}(m:MI κ a.toList b.toList out.toList ia ib)(sb:Rise κ b.toList)(lb:ib<b.size)(db:b.toList.drop ib=x::b.toList.drop (ib+1))(h:∀w∈a.toList.drop ia,κ x<=κ w):MI κ a.toList b.toList (out.push x).toList ia (ib+1):=by
 have:=m.takeB sb (k:=1) (by rw[Array.length_toList];lia) (λ z hz w hw=>?_)
 .rw[db]at this;rw[Array.toList_push]
  simpa using this
 .rw[db]at hz;have:z=x:=by simpa using hz
  rw[this];exact h w hw
theorem MI.pushA{κ:Keyed->Int}{a b out:Array Keyed}{ia ib:Nat}{x:Keyed}(m:MI κ a.toList b.toList out.toList ia ib)(sa:Rise κ a.toList)(la:ia<a.size)(da:a.toList.drop ia=x::a.toList.drop (ia+1))(h:∀w∈b.toList.drop ib,κ x<=κ w):MI κ a.toList b.toList (out.push x).toList (ia+1) ib:=by
 have:=m.takeA sa (k:=1) (by rw[Array.length_toList];lia) (λ z hz w hw=>?_)
 .rw[da]at this;rw[Array.toList_push]
  simpa using this
 .rw[da]at hz;have:z=x:=by simpa using hz
  rw[this];exact h w hw
theorem MI.extA{κ:Keyed->Int}{a b out:Array Keyed}{ia ib k:Nat}(m:MI κ a.toList b.toList out.toList ia ib)(sa:Rise κ a.toList)(hk:ia+k<=a.size)(h:∀x∈(a.toList.drop ia).take k,∀y∈b.toList.drop ib,κ x<=κ y):MI κ a.toList b.toList (out++a.extract ia (ia+k)).toList (ia+k) ib:=by
 rw[Array.toList_append,OZ];exact m.takeA sa (by rw[Array.length_toList];exact hk) h
theorem MI.extB{κ:Keyed->Int}{a b out:Array Keyed}{ia ib k:Nat}(m:MI κ a.toList b.toList out.toList ia ib)(sb:Rise κ b.toList)(hk:ib+k<=b.size)(h:∀x∈(b.toList.drop ib).take k,∀y∈a.toList.drop ia,κ x<=κ y):MI κ a.toList b.toList (out++b.extract ib (ib+k)).toList ia (ib+k):=by
 rw[Array.toList_append,OZ];exact m.takeB sb (by rw[Array.length_toList];exact hk) h
theorem Cf{a:Array Keyed}{i:Nat}{x:Keyed}(h:x∈a.toList.drop i):∃j,i+j<a.size/\x=a.getD (i+j) default:=by
 obtain⟨j,hj,e⟩:=List.getElem_of_mem h;rw[List.length_drop,Array.length_toList]at hj;refine⟨j,by lia,?_⟩;rw[List.getElem_drop]at e;rw[<-e];have:i+j<a.size:=by lia
 simp[Array.getD,this]
theorem AN{a:Array Keyed}{i k:Nat}{x:Keyed}(h:x∈(a.toList.drop i).take k):∃j,j<k/\i+j<a.size/\x=a.getD (i+j) default:=by
 obtain⟨j,hj,e⟩:=List.getElem_of_mem h;rw[List.length_take,List.length_drop,Array.length_toList]at hj;refine⟨j,by lia,by lia,?_⟩;rw[List.getElem_take,List.getElem_drop]at e;rw[<-e];have:i+j<a.size:=by lia
 simp[Array.getD,this]
theorem FL{a:Array Keyed}{i:Nat}{x:Keyed}(h:a[i]?=some x):a.getD i default=x:=by rw[Array.getD_eq_getD_getElem?,h];rfl
theorem JS{kd:SortKind}{κ:Keyed->Int}{S:Keyed->Prop}{a b:Array Keyed}{st:SortSt}{Q:Array Keyed->SortSt->Prop}(L:LtG M A E s kd κ S)(hk:kindOf st=kd)(ha:0<a.size)(hb:0<b.size)(hSa:∀x∈a.toList,S x)(hSb:∀x∈b.toList,S x)
  (sa:Rise κ a.toList) (sb:Rise κ b.toList) (hf:∀x∈b.toList.take 1,∀y∈a.toList,κ x<=κ y) (hl:∀x∈b.toList,∀y∈a.toList.drop (a.size-1),κ x<=κ y)
  (h:∀r st',AX κ a b r->C8 st st'->Q r st'):wpS M A E s (OJ a b) Q st:=by
 refine wpS_bind (wpS_lift (wpAny_rule ⟨rfl,?_⟩));obtain⟨b0,eb0,mb0,db0⟩:=C5 hb;have lk0:C8 st st:=⟨rfl,rfl,rfl,rfl⟩;have m0:MI κ a.toList b.toList (#[b0]:Array Keyed).toList 0 1:=by
  have:=(MI.start (κ:=κ) a.toList b.toList).takeB sb (k:=1) (by rw[Array.length_toList];lia) (λ x hx y hy=>hf x (by simpa using hx) y (by simpa using hy));rw[db0]at this
  simpa using this
 refine wpS_bind (Aj eb0 ?_);dsimp only;by_cases h1:1=b.size
 .rw[if_pos (beq_iff_eq.mpr h1)];exact wpS_pure (h _ _ (AI m0 sa sb (.inl h1)) lk0)
 rw[if_neg (λ z=>h1 (beq_iff_eq.mp z))];by_cases h2:0+1=a.size
 .rw[if_pos (beq_iff_eq.mpr h2)];exact wpS_pure (h _ _ (AH m0 sa sb (by rw[show(0:Nat)=a.size-1 by lia];exact hl)) lk0)
 rw[if_neg (λ z=>h2 (beq_iff_eq.mp z))];refine wpS_bind (wpS_get ?_);refine wpS_bind (wpS_mono (wpS_forRange (I:=λ x (c:Option (Array Keyed)×Array Keyed×Nat×Nat×Nat) st'=>c.1=none/\GoL κ a b c.2.1 c.2.2.1 c.2.2.2.1/\x+1<=c.2.2.1+c.2.2.2.1/\C8 st st')
  (Q:=λ(c:Option (Array Keyed)×Array Keyed×Nat×Nat×Nat) st'=>C8 st st'/\∃r,c.1=some r/\AX κ a b r) ?ostep ?ofin (And.intro rfl ⟨⟨m0,by show 0+1<a.size;lia,by show 1<b.size;lia⟩,by show 0+1<=0+1;lia,lk0⟩)) ?opost)
 case ofin =>
  rintro⟨r,out,ia,ib,mg⟩ st1 ⟨e1,go,hge,lk⟩;have hge:max 0 (a.size+b.size)+1<=ia+ib:=hge;have l1:ia+1<a.size:=go.la;have l2:ib<b.size:=go.lb;lia
 case opost =>
  rintro⟨r,out,ia,ib,mg⟩ st1 ⟨lk,r',e1,mr⟩;have e1:r=some r':=e1;subst e1;exact wpS_pure (h _ _ mr lk)
 case ostep =>
  rintro x ⟨r,out,ia,ib,mg⟩ st1 _ hx ⟨e1,go,hge,lk⟩;have e1:r=none:=e1;subst e1;have hge:x+1<=ia+ib:=hge;dsimp only;refine wpS_bind (wpS_mono (wpS_forRange (I:=λ y (c:Option (Array Keyed)×Array Keyed×Nat×Nat×Nat×Nat) st'=>c.1=none/\GoL κ a b c.2.1 c.2.2.1 c.2.2.2.1/\c.2.2.1+c.2.2.2.1=ia+ib+y/\C8 st st')
   (Q:=λ(c:Option (Array Keyed)×Array Keyed×Nat×Nat×Nat×Nat) st'=>C8 st st'/\((∃r,c.1=some r/\AX κ a b r)\/(c.1=none/\GoL κ a b c.2.1 c.2.2.1 c.2.2.2.1/\ia+ib+1<=c.2.2.1+c.2.2.2.1))) ?istep ?ifin (And.intro rfl ⟨go,rfl,lk⟩)) ?ipost)
  case ifin =>
   rintro⟨r,out,ia',ib',ac,bc⟩ st2 ⟨e1,go',hs,lk'⟩;have hs:ia'+ib'=ia+ib+max 0 (a.size+b.size):=hs;exact And.intro lk' (.inr ⟨e1,go',by show ia+ib+1<=ia'+ib';lia⟩)
  case istep =>
   rintro y ⟨r,out',ia',ib',ac,bc⟩ st2 _ hy ⟨e1,go',hs,lk'⟩;have e1:r=none:=e1;subst e1;have go':GoL κ a b out' ia' ib':=go';have hs:ia'+ib'=ia+ib+y:=hs;have l1:=go'.la;have l2:=go'.lb;dsimp only;obtain⟨xb,exb,mb,db⟩:=C5 l2;obtain⟨xa,exa,ma,da⟩:=C5 (show ia'<a.size by lia);refine wpS_bind (Aj exb (wpS_bind (Aj exa (wpS_bind (L xb xa (hSb _ mb) (hSa _ ma) st2 _ (lk'.kd.trans hk) ?_)))));dsimp only;by_cases hlt:κ xb<κ xa
   .rw[decide_eq_true hlt,if_pos rfl];refine wpS_bind (Aj exb ?_);have mi':=go'.stepB sa sb db da (Int.le_of_lt hlt);by_cases q1:ib'+1=b.size
    .rw[if_pos (beq_iff_eq.mpr q1)];exact wpS_pure (And.intro lk' (.inl ⟨_,rfl,AI mi' sa sb (.inl q1)⟩))
    .rw[if_neg (λ z=>q1 (beq_iff_eq.mp z))];have gn:GoL κ a b (out'.push xb) ia' (ib'+1):=⟨mi',l1,by lia⟩;split
     .exact wpS_pure (And.intro lk' (.inr ⟨rfl,gn,by show ia+ib+1<=ia'+(ib'+1);lia⟩))
     .exact wpS_pure (And.intro rfl ⟨gn,by show ia'+(ib'+1)=ia+ib+(y+1);lia,lk'⟩)
   .rw[decide_eq_false hlt,if_neg Bool.false_ne_true];refine wpS_bind (Aj exa ?_);have mi':=go'.stepA sa sb db da (by lia);by_cases q1:ia'+1+1=a.size
    .rw[if_pos (beq_iff_eq.mpr q1)];exact wpS_pure (And.intro lk' (.inl ⟨_,rfl,AH mi' sa sb (by rw[show ia'+1=a.size-1 by lia];exact hl)⟩))
    .rw[if_neg (λ z=>q1 (beq_iff_eq.mp z))];have gn:GoL κ a b (out'.push xa) (ia'+1) ib':=⟨mi',by lia,l2⟩;split
     .exact wpS_pure (And.intro lk' (.inr ⟨rfl,gn,by show ia+ib+1<=ia'+1+ib';lia⟩))
     .exact wpS_pure (And.intro rfl ⟨gn,by show ia'+1+ib'=ia+ib+(y+1);lia,lk'⟩)
  case ipost =>
   rintro⟨r,out',ia',ib',ac,bc⟩ st2 ⟨lk',hh⟩;rcases hh with ⟨r',e1,mr⟩|⟨e1,go',hs⟩
   .have e1:r=some r':=e1;subst e1;exact wpS_pure (And.intro lk' ⟨_,rfl,mr⟩)
   .have e1:r=none:=e1;subst e1;have go':GoL κ a b out' ia' ib':=go';have hs:ia+ib+1<=ia'+ib':=hs;dsimp only;refine wpS_bind (wpS_lift (wpAny_rule ⟨rfl,?_⟩));refine wpS_bind (wpS_mono (wpS_forRange (I:=λ y (c:Option (Array Keyed)×Array Keyed×Nat×Nat×Nat×Nat×Nat) st'=>c.1=none/\GoL κ a b c.2.1 c.2.2.1 c.2.2.2.1/\ia+ib+1<=c.2.2.1+c.2.2.2.1/\C8 st st')
     (Q:=λ(c:Option (Array Keyed)×Array Keyed×Nat×Nat×Nat×Nat×Nat) st'=>C8 st st'/\((∃r,c.1=some r/\AX κ a b r)\/(c.1=none/\GoL κ a b c.2.1 c.2.2.1 c.2.2.2.1/\ia+ib+1<=c.2.2.1+c.2.2.2.1))) ?gstep ?gfin (And.intro rfl ⟨go',hs,lk'⟩)) ?gpost)
    case gfin =>
     rintro⟨r,out,ia2,ib2,mg2,ac,bc⟩ st3 ⟨e1,go2,hs2,lk2⟩;exact And.intro lk2 (.inr ⟨e1,go2,hs2⟩)
    case gpost =>
     rintro⟨r,out,ia2,ib2,mg2,ac,bc⟩ st3 ⟨lk2,hh2⟩;rcases hh2 with ⟨r',e1,mr⟩|⟨e1,go2,hs2⟩
     .have e1:r=some r':=e1;subst e1;exact wpS_pure (And.intro lk2 ⟨_,rfl,mr⟩)
     .have e1:r=none:=e1;subst e1;have hs2:ia+ib+1<=ia2+ib2:=hs2;refine wpS_bind (wpS_modify ?_);exact wpS_pure (And.intro rfl ⟨go2,by show x+1+1<=ia2+ib2;lia,⟨lk2.kd,lk2.ar,lk2.pe,lk2.fa⟩⟩)
    case gstep =>
     rintro y ⟨r,out2,ia2,ib2,mg2,ac,bc⟩ st3 _ hy ⟨e1,go2,hs2,lk2⟩;have e1:r=none:=e1;subst e1;have go2:GoL κ a b out2 ia2 ib2:=go2;have hs2:ia+ib+1<=ia2+ib2:=hs2;dsimp only;have l1:=go2.la;have l2:=go2.lb;have inA:∀i,i<a.size->∃x,a[i]?=some x/\S x:=λ i hi=>by
      obtain⟨x,e,m,_⟩:=C5 hi;exact⟨x,e,hSa x m⟩
     have inB:∀i,i<b.size->∃x,b[i]?=some x/\S x:=λ i hi=>by
      obtain⟨x,e,m,_⟩:=C5 hi;exact⟨x,e,hSb x m⟩
     by_cases hm:mg2>1
     .rw[if_pos hm];refine wpS_bind (wpS_modify ?_);have lkN:C8 st (SortSt.mk' (kindOf st3) (arrOf st3) (pendingOf st3) (mg2-1) (failedOf st3)):=⟨lk2.kd,lk2.ar,lk2.pe,lk2.fa⟩;obtain⟨xb,exb,mb,db⟩:=C5 l2;refine wpS_bind (Aj exb (wpS_bind (AF (B:=λ i=>!decide (κ xb<κ (a.getD (ia2+i) default))) (lkN.kd.trans hk) (GO L (hSb _ mb) (λ i hi=>inA _ (by lia))) (λ i j hij hj hB=>?_) (by lia) λ k hk' f1 f2=>?_)))
      .have h3:=Bf sa (i:=ia2+i) (j:=ia2+j) (by lia) (by lia);simp only[Bool.not_eq_true',decide_eq_false_iff_not]at hB |-;lia
      have u1:∀z∈(a.toList.drop ia2).take k,∀w∈b.toList.drop ib2,κ z<=κ w:=λ z hz w hw=>by
       obtain⟨j,j1,j2,rfl⟩:=AN hz;have h3:=f1 j j1;simp only[Bool.not_eq_true',decide_eq_false_iff_not]at h3;have h4:=B7 sb db w hw;lia
      have u2:∀w∈a.toList.drop (ia2+k),κ xb<=κ w:=λ w hw=>by
       obtain⟨j,j1,rfl⟩:=Cf hw;have h3:=f2 (k+j) (by lia) (by lia);simp only[Bool.not_eq_false',decide_eq_true_eq]at h3;rw[<-Nat.add_assoc]at h3;lia
      dsimp only;by_cases p0:k>0
      .rw[if_pos p0];have m2:=go2.mi.extA sa (k:=k) (by lia) u1;by_cases q1:ia2+k+1=a.size
       .rw[if_pos (beq_iff_eq.mpr q1)];exact wpS_pure (And.intro lkN (.inl ⟨_,rfl,AH m2 sa sb (by rw[show ia2+k=a.size-1 by lia];exact hl)⟩))
       .rw[if_neg (λ z=>q1 (beq_iff_eq.mp z))];by_cases q2:ia2+k=a.size
        .rw[if_pos (beq_iff_eq.mpr q2)];exact wpS_pure (And.intro lkN (.inl ⟨_,rfl,AI m2 sa sb (.inr q2)⟩))
        .rw[if_neg (λ z=>q2 (beq_iff_eq.mp z))];have kB:=u2;refine wpS_bind (Aj exb ?_);have m3:=m2.pushB sb l2 db kB;by_cases q3:ib2+1=b.size
         .rw[if_pos (beq_iff_eq.mpr q3)];exact wpS_pure (And.intro lkN (.inl ⟨_,rfl,AI m3 sa sb (.inl q3)⟩))
         .rw[if_neg (λ z=>q3 (beq_iff_eq.mp z))];obtain⟨xa,exa,ma,da⟩:=C5 (show ia2+k<a.size by lia);refine wpS_bind (Aj exa (wpS_bind (AF (B:=λ i=>decide (κ (b.getD (ib2+1+i) default)<κ xa)) (lkN.kd.trans hk) (Db L (hSa _ ma) (λ i hi=>inB _ (by lia))) (λ i j hij hj hB=>decide_eq_true (Int.lt_of_le_of_lt (Bf sb (by lia) (by lia)) (of_decide_eq_true hB))) (by lia) λ k1 hk1 g1 g2=>?_)));have t1:∀z∈(b.toList.drop (ib2+1)).take k1,∀w∈a.toList.drop (ia2+k),κ z<=κ w:=λ z hz w hw=>by
           obtain⟨j,j1,j2,rfl⟩:=AN hz;exact Int.le_trans (Int.le_of_lt (of_decide_eq_true (g1 j j1))) (B7 sa da w hw)
          have t2:∀w∈b.toList.drop (ib2+1+k1),κ xa<=κ w:=λ w hw=>by
           obtain⟨j,j1,rfl⟩:=Cf hw;have:=of_decide_eq_false (g2 (k1+j) (by lia) (by lia));rw[<-Nat.add_assoc]at this;lia
          dsimp only;by_cases p1:k1>0
          .rw[if_pos p1];have m4:=m3.extB sb (k:=k1) (by lia) t1;by_cases q4:ib2+1+k1=b.size
           .rw[if_pos (beq_iff_eq.mpr q4)];exact wpS_pure (And.intro lkN (.inl ⟨_,rfl,AI m4 sa sb (.inl q4)⟩))
           .rw[if_neg (λ z=>q4 (beq_iff_eq.mp z))];have kA:=t2;refine wpS_bind (Aj exa ?_);have m5:=m4.pushA sa (by lia) da kA;by_cases q5:ia2+k+1+1=a.size
            .rw[if_pos (beq_iff_eq.mpr q5)];exact wpS_pure (And.intro lkN (.inl ⟨_,rfl,AH m5 sa sb (by rw[show ia2+k+1=a.size-1 by lia];exact hl)⟩))
            .rw[if_neg (λ z=>q5 (beq_iff_eq.mp z))];have gn:GoL κ a b _ (ia2+k+1) (ib2+1+k1):=⟨m5,by lia,by lia⟩;split
             .exact wpS_pure (And.intro lkN (.inr ⟨rfl,gn,by show ia+ib+1<=ia2+k+1+(ib2+1+k1);lia⟩))
             .exact wpS_pure (And.intro rfl ⟨gn,by show ia+ib+1<=ia2+k+1+(ib2+1+k1);lia,lkN⟩)
          .rw[if_neg p1];have k10:k1=0:=by lia
           subst k10;have kA:∀w∈b.toList.drop (ib2+1),κ xa<=κ w:=t2;refine wpS_bind (Aj exa ?_);have m5:=m3.pushA sa (by lia) da kA;by_cases q5:ia2+k+1+1=a.size
           .rw[if_pos (beq_iff_eq.mpr q5)];exact wpS_pure (And.intro lkN (.inl ⟨_,rfl,AH m5 sa sb (by rw[show ia2+k+1=a.size-1 by lia];exact hl)⟩))
           .rw[if_neg (λ z=>q5 (beq_iff_eq.mp z))];have gn:GoL κ a b _ (ia2+k+1) (ib2+1):=⟨m5,by lia,by lia⟩;split
            .exact wpS_pure (And.intro lkN (.inr ⟨rfl,gn,by show ia+ib+1<=ia2+k+1+(ib2+1);lia⟩))
            .exact wpS_pure (And.intro rfl ⟨gn,by show ia+ib+1<=ia2+k+1+(ib2+1);lia,lkN⟩)
      .rw[if_neg p0];have k00:k=0:=by lia
       subst k00;have kB:∀w∈a.toList.drop ia2,κ xb<=κ w:=u2;have mi2:=go2.mi;refine wpS_bind (Aj exb ?_);have m3:=mi2.pushB sb l2 db kB;by_cases q3:ib2+1=b.size
       .rw[if_pos (beq_iff_eq.mpr q3)];exact wpS_pure (And.intro lkN (.inl ⟨_,rfl,AI m3 sa sb (.inl q3)⟩))
       .rw[if_neg (λ z=>q3 (beq_iff_eq.mp z))];obtain⟨xa,exa,ma,da⟩:=C5 (show ia2<a.size by lia);refine wpS_bind (Aj exa (wpS_bind (AF (B:=λ i=>decide (κ (b.getD (ib2+1+i) default)<κ xa)) (lkN.kd.trans hk) (Db L (hSa _ ma) (λ i hi=>inB _ (by lia))) (λ i j hij hj hB=>decide_eq_true (Int.lt_of_le_of_lt (Bf sb (by lia) (by lia)) (of_decide_eq_true hB))) (by lia) λ k1 hk1 g1 g2=>?_)));have t1:∀z∈(b.toList.drop (ib2+1)).take k1,∀w∈a.toList.drop (ia2),κ z<=κ w:=λ z hz w hw=>by
         obtain⟨j,j1,j2,rfl⟩:=AN hz;exact Int.le_trans (Int.le_of_lt (of_decide_eq_true (g1 j j1))) (B7 sa da w hw)
        have t2:∀w∈b.toList.drop (ib2+1+k1),κ xa<=κ w:=λ w hw=>by
         obtain⟨j,j1,rfl⟩:=Cf hw;have:=of_decide_eq_false (g2 (k1+j) (by lia) (by lia));rw[<-Nat.add_assoc]at this;lia
        dsimp only;by_cases p1:k1>0
        .rw[if_pos p1];have m4:=m3.extB sb (k:=k1) (by lia) t1;by_cases q4:ib2+1+k1=b.size
         .rw[if_pos (beq_iff_eq.mpr q4)];exact wpS_pure (And.intro lkN (.inl ⟨_,rfl,AI m4 sa sb (.inl q4)⟩))
         .rw[if_neg (λ z=>q4 (beq_iff_eq.mp z))];have kA:=t2;refine wpS_bind (Aj exa ?_);have m5:=m4.pushA sa (by lia) da kA;by_cases q5:ia2+1+1=a.size
          .rw[if_pos (beq_iff_eq.mpr q5)];exact wpS_pure (And.intro lkN (.inl ⟨_,rfl,AH m5 sa sb (by rw[show ia2+1=a.size-1 by lia];exact hl)⟩))
          .rw[if_neg (λ z=>q5 (beq_iff_eq.mp z))];have gn:GoL κ a b _ (ia2+1) (ib2+1+k1):=⟨m5,by lia,by lia⟩;split
           .exact wpS_pure (And.intro lkN (.inr ⟨rfl,gn,by show ia+ib+1<=ia2+1+(ib2+1+k1);lia⟩))
           .exact wpS_pure (And.intro rfl ⟨gn,by show ia+ib+1<=ia2+1+(ib2+1+k1);lia,lkN⟩)
        .rw[if_neg p1];have k10:k1=0:=by lia
         subst k10;have kA:∀w∈b.toList.drop (ib2+1),κ xa<=κ w:=t2;refine wpS_bind (Aj exa ?_);have m5:=m3.pushA sa (by lia) da kA;by_cases q5:ia2+1+1=a.size
         .rw[if_pos (beq_iff_eq.mpr q5)];exact wpS_pure (And.intro lkN (.inl ⟨_,rfl,AH m5 sa sb (by rw[show ia2+1=a.size-1 by lia];exact hl)⟩))
         .rw[if_neg (λ z=>q5 (beq_iff_eq.mp z))];have gn:GoL κ a b _ (ia2+1) (ib2+1):=⟨m5,by lia,by lia⟩;split
          .exact wpS_pure (And.intro lkN (.inr ⟨rfl,gn,by show ia+ib+1<=ia2+1+(ib2+1);lia⟩))
          .exact wpS_pure (And.intro rfl ⟨gn,by show ia+ib+1<=ia2+1+(ib2+1);lia,lkN⟩)
     .rw[if_neg hm];refine wpS_bind (wpS_modify ?_);have lkN:C8 st (SortSt.mk' (kindOf st3) (arrOf st3) (pendingOf st3) mg2 (failedOf st3)):=⟨lk2.kd,lk2.ar,lk2.pe,lk2.fa⟩;obtain⟨xb,exb,mb,db⟩:=C5 l2;refine wpS_bind (Aj exb (wpS_bind (AF (B:=λ i=>!decide (κ xb<κ (a.getD (ia2+i) default))) (lkN.kd.trans hk) (GO L (hSb _ mb) (λ i hi=>inA _ (by lia))) (λ i j hij hj hB=>?_) (by lia) λ k hk' f1 f2=>?_)))
      .have h3:=Bf sa (i:=ia2+i) (j:=ia2+j) (by lia) (by lia);simp only[Bool.not_eq_true',decide_eq_false_iff_not]at hB |-;lia
      have u1:∀z∈(a.toList.drop ia2).take k,∀w∈b.toList.drop ib2,κ z<=κ w:=λ z hz w hw=>by
       obtain⟨j,j1,j2,rfl⟩:=AN hz;have h3:=f1 j j1;simp only[Bool.not_eq_true',decide_eq_false_iff_not]at h3;have h4:=B7 sb db w hw;lia
      have u2:∀w∈a.toList.drop (ia2+k),κ xb<=κ w:=λ w hw=>by
       obtain⟨j,j1,rfl⟩:=Cf hw;have h3:=f2 (k+j) (by lia) (by lia);simp only[Bool.not_eq_false',decide_eq_true_eq]at h3;rw[<-Nat.add_assoc]at h3;lia
      dsimp only;by_cases p0:k>0
      .rw[if_pos p0];have m2:=go2.mi.extA sa (k:=k) (by lia) u1;by_cases q1:ia2+k+1=a.size
       .rw[if_pos (beq_iff_eq.mpr q1)];exact wpS_pure (And.intro lkN (.inl ⟨_,rfl,AH m2 sa sb (by rw[show ia2+k=a.size-1 by lia];exact hl)⟩))
       .rw[if_neg (λ z=>q1 (beq_iff_eq.mp z))];by_cases q2:ia2+k=a.size
        .rw[if_pos (beq_iff_eq.mpr q2)];exact wpS_pure (And.intro lkN (.inl ⟨_,rfl,AI m2 sa sb (.inr q2)⟩))
        .rw[if_neg (λ z=>q2 (beq_iff_eq.mp z))];have kB:=u2;refine wpS_bind (Aj exb ?_);have m3:=m2.pushB sb l2 db kB;by_cases q3:ib2+1=b.size
         .rw[if_pos (beq_iff_eq.mpr q3)];exact wpS_pure (And.intro lkN (.inl ⟨_,rfl,AI m3 sa sb (.inl q3)⟩))
         .rw[if_neg (λ z=>q3 (beq_iff_eq.mp z))];obtain⟨xa,exa,ma,da⟩:=C5 (show ia2+k<a.size by lia);refine wpS_bind (Aj exa (wpS_bind (AF (B:=λ i=>decide (κ (b.getD (ib2+1+i) default)<κ xa)) (lkN.kd.trans hk) (Db L (hSa _ ma) (λ i hi=>inB _ (by lia))) (λ i j hij hj hB=>decide_eq_true (Int.lt_of_le_of_lt (Bf sb (by lia) (by lia)) (of_decide_eq_true hB))) (by lia) λ k1 hk1 g1 g2=>?_)));have t1:∀z∈(b.toList.drop (ib2+1)).take k1,∀w∈a.toList.drop (ia2+k),κ z<=κ w:=λ z hz w hw=>by
           obtain⟨j,j1,j2,rfl⟩:=AN hz;exact Int.le_trans (Int.le_of_lt (of_decide_eq_true (g1 j j1))) (B7 sa da w hw)
          have t2:∀w∈b.toList.drop (ib2+1+k1),κ xa<=κ w:=λ w hw=>by
           obtain⟨j,j1,rfl⟩:=Cf hw;have:=of_decide_eq_false (g2 (k1+j) (by lia) (by lia));rw[<-Nat.add_assoc]at this;lia
          dsimp only;by_cases p1:k1>0
          .rw[if_pos p1];have m4:=m3.extB sb (k:=k1) (by lia) t1;by_cases q4:ib2+1+k1=b.size
           .rw[if_pos (beq_iff_eq.mpr q4)];exact wpS_pure (And.intro lkN (.inl ⟨_,rfl,AI m4 sa sb (.inl q4)⟩))
           .rw[if_neg (λ z=>q4 (beq_iff_eq.mp z))];have kA:=t2;refine wpS_bind (Aj exa ?_);have m5:=m4.pushA sa (by lia) da kA;by_cases q5:ia2+k+1+1=a.size
            .rw[if_pos (beq_iff_eq.mpr q5)];exact wpS_pure (And.intro lkN (.inl ⟨_,rfl,AH m5 sa sb (by rw[show ia2+k+1=a.size-1 by lia];exact hl)⟩))
            .rw[if_neg (λ z=>q5 (beq_iff_eq.mp z))];have gn:GoL κ a b _ (ia2+k+1) (ib2+1+k1):=⟨m5,by lia,by lia⟩;split
             .exact wpS_pure (And.intro lkN (.inr ⟨rfl,gn,by show ia+ib+1<=ia2+k+1+(ib2+1+k1);lia⟩))
             .exact wpS_pure (And.intro rfl ⟨gn,by show ia+ib+1<=ia2+k+1+(ib2+1+k1);lia,lkN⟩)
          .rw[if_neg p1];have k10:k1=0:=by lia
           subst k10;have kA:∀w∈b.toList.drop (ib2+1),κ xa<=κ w:=t2;refine wpS_bind (Aj exa ?_);have m5:=m3.pushA sa (by lia) da kA;by_cases q5:ia2+k+1+1=a.size
           .rw[if_pos (beq_iff_eq.mpr q5)];exact wpS_pure (And.intro lkN (.inl ⟨_,rfl,AH m5 sa sb (by rw[show ia2+k+1=a.size-1 by lia];exact hl)⟩))
           .rw[if_neg (λ z=>q5 (beq_iff_eq.mp z))];have gn:GoL κ a b _ (ia2+k+1) (ib2+1):=⟨m5,by lia,by lia⟩;split
            .exact wpS_pure (And.intro lkN (.inr ⟨rfl,gn,by show ia+ib+1<=ia2+k+1+(ib2+1);lia⟩))
            .exact wpS_pure (And.intro rfl ⟨gn,by show ia+ib+1<=ia2+k+1+(ib2+1);lia,lkN⟩)
      .rw[if_neg p0];have k00:k=0:=by lia
       subst k00;have kB:∀w∈a.toList.drop ia2,κ xb<=κ w:=u2;have mi2:=go2.mi;refine wpS_bind (Aj exb ?_);have m3:=mi2.pushB sb l2 db kB;by_cases q3:ib2+1=b.size
       .rw[if_pos (beq_iff_eq.mpr q3)];exact wpS_pure (And.intro lkN (.inl ⟨_,rfl,AI m3 sa sb (.inl q3)⟩))
       .rw[if_neg (λ z=>q3 (beq_iff_eq.mp z))];obtain⟨xa,exa,ma,da⟩:=C5 (show ia2<a.size by lia);refine wpS_bind (Aj exa (wpS_bind (AF (B:=λ i=>decide (κ (b.getD (ib2+1+i) default)<κ xa)) (lkN.kd.trans hk) (Db L (hSa _ ma) (λ i hi=>inB _ (by lia))) (λ i j hij hj hB=>decide_eq_true (Int.lt_of_le_of_lt (Bf sb (by lia) (by lia)) (of_decide_eq_true hB))) (by lia) λ k1 hk1 g1 g2=>?_)));have t1:∀z∈(b.toList.drop (ib2+1)).take k1,∀w∈a.toList.drop (ia2),κ z<=κ w:=λ z hz w hw=>by
         obtain⟨j,j1,j2,rfl⟩:=AN hz;exact Int.le_trans (Int.le_of_lt (of_decide_eq_true (g1 j j1))) (B7 sa da w hw)
        have t2:∀w∈b.toList.drop (ib2+1+k1),κ xa<=κ w:=λ w hw=>by
         obtain⟨j,j1,rfl⟩:=Cf hw;have:=of_decide_eq_false (g2 (k1+j) (by lia) (by lia));rw[<-Nat.add_assoc]at this;lia
        dsimp only;by_cases p1:k1>0
        .rw[if_pos p1];have m4:=m3.extB sb (k:=k1) (by lia) t1;by_cases q4:ib2+1+k1=b.size
         .rw[if_pos (beq_iff_eq.mpr q4)];exact wpS_pure (And.intro lkN (.inl ⟨_,rfl,AI m4 sa sb (.inl q4)⟩))
         .rw[if_neg (λ z=>q4 (beq_iff_eq.mp z))];have kA:=t2;refine wpS_bind (Aj exa ?_);have m5:=m4.pushA sa (by lia) da kA;by_cases q5:ia2+1+1=a.size
          .rw[if_pos (beq_iff_eq.mpr q5)];exact wpS_pure (And.intro lkN (.inl ⟨_,rfl,AH m5 sa sb (by rw[show ia2+1=a.size-1 by lia];exact hl)⟩))
          .rw[if_neg (λ z=>q5 (beq_iff_eq.mp z))];have gn:GoL κ a b _ (ia2+1) (ib2+1+k1):=⟨m5,by lia,by lia⟩;split
           .exact wpS_pure (And.intro lkN (.inr ⟨rfl,gn,by show ia+ib+1<=ia2+1+(ib2+1+k1);lia⟩))
           .exact wpS_pure (And.intro rfl ⟨gn,by show ia+ib+1<=ia2+1+(ib2+1+k1);lia,lkN⟩)
        .rw[if_neg p1];have k10:k1=0:=by lia
         subst k10;have kA:∀w∈b.toList.drop (ib2+1),κ xa<=κ w:=t2;refine wpS_bind (Aj exa ?_);have m5:=m3.pushA sa (by lia) da kA;by_cases q5:ia2+1+1=a.size
         .rw[if_pos (beq_iff_eq.mpr q5)];exact wpS_pure (And.intro lkN (.inl ⟨_,rfl,AH m5 sa sb (by rw[show ia2+1=a.size-1 by lia];exact hl)⟩))
         .rw[if_neg (λ z=>q5 (beq_iff_eq.mp z))];have gn:GoL κ a b _ (ia2+1) (ib2+1):=⟨m5,by lia,by lia⟩;split
          .exact wpS_pure (And.intro lkN (.inr ⟨rfl,gn,by show ia+ib+1<=ia2+1+(ib2+1);lia⟩))
          .exact wpS_pure (And.intro rfl ⟨gn,by show ia+ib+1<=ia2+1+(ib2+1);lia,lkN⟩)
end
section
variable{α:Type}{κ:α->Int}
structure MH(κ:α->Int)(a b out:List α)(na nb:Nat):Prop where
 pm:(a.take na++b.take nb++out).Perm (a++b)
 so:Rise κ out
 le:∀x∈a.take na++b.take nb,∀y∈out,κ x<=κ y
 la:na<=a.length
 lb:nb<=b.length
theorem Rise.take{xs:List α}(h:Rise κ xs)(n:Nat):Rise κ (xs.take n):=List.Pairwise.sublist (List.take_sublist n xs) h
theorem DT(xs:List α){m n:Nat}(h:m<=n):xs.take n=xs.take m++(xs.take n).drop m:=by
 have:=(List.take_append_drop m (xs.take n)).symm;rw[List.take_take,Nat.min_eq_left h]at this;exact this
theorem MH.start(a b:List α):MH κ a b [] a.length b.length:=⟨by simp,List.Pairwise.nil,λ x _ y h=>absurd h List.not_mem_nil,Nat.le_refl _,Nat.le_refl _⟩
theorem MH.takeA{a b out:List α}{na nb m:Nat}(q:MH κ a b out na nb)(sa:Rise κ a)(hm:m<=na)(h:∀x∈b.take nb,∀y∈(a.take na).drop m,κ x<=κ y):MH κ a b ((a.take na).drop m++out) m nb:=by
 have e:=DT a hm;have sd:=sa.take na;rw[e]at sd;obtain⟨s1,s2,s3⟩:=List.pairwise_append.mp sd;have inn:∀y∈(a.take na).drop m,y∈a.take na:=λ y hy=>List.mem_of_mem_drop hy;have in1:∀y∈a.take m,y∈a.take na:=λ y hy=>by rw[e];exact List.mem_append_left _ hy
 refine⟨?_,Rise.app s2 q.so λ x hx y hy=>q.le x (List.mem_append_left _ (inn x hx)) y hy,λ x hx y hy=>?_,by have:=q.la;lia,q.lb⟩
 .refine List.Perm.trans ?_ q.pm;rw[<-List.append_assoc];refine List.Perm.append_right out ?_;have e2:a.take na++b.take nb=a.take m++(a.take na).drop m++b.take nb:=by rw[<-e]
  rw[e2,List.append_assoc,List.append_assoc];exact List.Perm.append_left _ List.perm_append_comm
 .rcases List.mem_append.mp hy with hy|hy
  .rcases List.mem_append.mp hx with hx|hx
   .exact s3 x hx y hy
   .exact h x hx y hy
  .rcases List.mem_append.mp hx with hx|hx
   .exact q.le x (List.mem_append_left _ (in1 x hx)) y hy
   .exact q.le x (List.mem_append_right _ hx) y hy
theorem MH.takeB{a b out:List α}{na nb m:Nat}(q:MH κ a b out na nb)(sb:Rise κ b)(hm:m<=nb)(h:∀x∈a.take na,∀y∈(b.take nb).drop m,κ x<=κ y):MH κ a b ((b.take nb).drop m++out) na m:=by
 have e:=DT b hm;have sd:=sb.take nb;rw[e]at sd;obtain⟨s1,s2,s3⟩:=List.pairwise_append.mp sd;have inn:∀y∈(b.take nb).drop m,y∈b.take nb:=λ y hy=>List.mem_of_mem_drop hy;have in1:∀y∈b.take m,y∈b.take nb:=λ y hy=>by rw[e];exact List.mem_append_left _ hy
 refine⟨?_,Rise.app s2 q.so λ x hx y hy=>q.le x (List.mem_append_right _ (inn x hx)) y hy,λ x hx y hy=>?_,q.la,by have:=q.lb;lia⟩
 .refine List.Perm.trans ?_ q.pm;rw[<-List.append_assoc];refine List.Perm.append_right out ?_;rw[List.append_assoc,<-e]
 .rcases List.mem_append.mp hy with hy|hy
  .rcases List.mem_append.mp hx with hx|hx
   .exact h x hx y hy
   .exact s3 x hx y hy
  .rcases List.mem_append.mp hx with hx|hx
   .exact q.le x (List.mem_append_left _ hx) y hy
   .exact q.le x (List.mem_append_right _ (in1 x hx)) y hy
theorem MH.done{a b out:List α}{na nb:Nat}(q:MH κ a b out na nb)(sa:Rise κ a)(sb:Rise κ b)(h:na=0\/nb=0):Rise κ (a.take na++b.take nb++out)/\(a.take na++b.take nb++out).Perm (a++b):=by
 refine⟨?_,q.pm⟩;refine Rise.app ((sa.take na).app (sb.take nb) λ x hx y hy=>?_) q.so q.le;rcases h with h|h
 .rw[h,List.take_zero]at hx;exact absurd hx List.not_mem_nil
 .rw[h,List.take_zero]at hy;exact absurd hy List.not_mem_nil
theorem MH.firstB{a b out:List α}{na nb:Nat}(q:MH κ a b out na nb)(sa:Rise κ a)(sb:Rise κ b)(h:∀x∈b.take nb,∀y∈a,κ x<=κ y):Rise κ (b.take nb++a.take na++out)/\(b.take nb++a.take na++out).Perm (a++b):=by
 refine⟨?_,?_⟩
 .refine Rise.app ((sb.take nb).app (sa.take na) λ x hx y hy=>h x hx y (List.mem_of_mem_take hy)) q.so λ x hx y hy=>q.le x ?_ y hy;rcases List.mem_append.mp hx with hx|hx
  .exact List.mem_append_right _ hx
  .exact List.mem_append_left _ hx
 .exact(List.Perm.append_right out List.perm_append_comm).trans q.pm
end
section
variable{M:Model}{A:Around}{E:VPz}{s:Shared}
def OK:Array Keyed->Array Keyed->StateT SortSt Sem (Array Keyed):=sortPriv% PySem.Builtin.mergeHi
theorem Ek{α:Type}(a:Array α)(m n:Nat):(a.extract m n).toList=(a.toList.take n).drop m:=by
 rw[Array.toList_extract,List.extract_eq_drop_take,List.drop_take]
theorem Jz{κ:Keyed->Int}{a:Array Keyed}(sa:Rise κ a.toList){n:Nat}(h0:0<n)(h:n<=a.size):∃x,a[n-1]?=some x/\x∈a.toList/\(a.toList.take n).drop (n-1)=[x]/\∀y∈a.toList.take n,κ y<=κ x:=by
 obtain⟨x,e,m,d⟩:=C5 (show n-1<a.size by lia);have e2:(a.toList.take n).drop (n-1)=[x]:=by
  rw[List.drop_take,d,show n-(n-1)=1 by lia];rfl
 refine⟨x,e,m,e2,λ y hy=>?_⟩;have e3:=DT a.toList (show n-1<=n by lia);have sd:=sa.take n;rw[e3]at sd hy;rw[e2]at sd hy;rcases List.mem_append.mp hy with hy|hy
 .exact(List.pairwise_append.mp sd).2.2 y hy x (by simp)
 .rw[List.mem_singleton.mp hy];exact Int.le_refl _
theorem MH.pushA{κ:Keyed->Int}{a b out:Array Keyed}{na nb:Nat}{x:Keyed}(m:MH κ a.toList b.toList out.toList.reverse na nb)(sa:Rise κ a.toList)(da:(a.toList.take na).drop (na-1)=[x])(h:∀w∈b.toList.take nb,κ w<=κ x):MH κ a.toList b.toList (out.push x).toList.reverse (na-1) nb:=by
 have:=m.takeA sa (m:=na-1) (by lia) (λ z hz w hw=>?_)
 .rw[da]at this;rw[Array.toList_push,List.reverse_append];exact this
 .rw[da]at hw;rw[List.mem_singleton.mp hw];exact h z hz
theorem MH.pushB{κ:Keyed->Int}{a b out:Array Keyed}{na nb:Nat}{x:Keyed}(m:MH κ a.toList b.toList out.toList.reverse na nb)(sb:Rise κ b.toList)(db:(b.toList.take nb).drop (nb-1)=[x])(h:∀w∈a.toList.take na,κ w<=κ x):MH κ a.toList b.toList (out.push x).toList.reverse na (nb-1):=by
 have:=m.takeB sb (m:=nb-1) (by lia) (λ z hz w hw=>?_)
 .rw[db]at this;rw[Array.toList_push,List.reverse_append];exact this
 .rw[db]at hw;rw[List.mem_singleton.mp hw];exact h z hz
theorem MH.extA{κ:Keyed->Int}{a b out:Array Keyed}{na nb m:Nat}(q:MH κ a.toList b.toList out.toList.reverse na nb)(sa:Rise κ a.toList)(hm:m<=na)(h:∀x∈b.toList.take nb,∀y∈(a.toList.take na).drop m,κ x<=κ y):MH κ a.toList b.toList (out++(a.extract m na).reverse).toList.reverse m nb:=by
 have:=q.takeA sa hm h;rw[Array.toList_append,List.reverse_append,Array.toList_reverse,List.reverse_reverse,Ek];exact this
theorem MH.extB{κ:Keyed->Int}{a b out:Array Keyed}{na nb m:Nat}(q:MH κ a.toList b.toList out.toList.reverse na nb)(sb:Rise κ b.toList)(hm:m<=nb)(h:∀x∈a.toList.take na,∀y∈(b.toList.take nb).drop m,κ x<=κ y):MH κ a.toList b.toList (out++(b.extract m nb).reverse).toList.reverse na m:=by
 have:=q.takeB sb hm h;rw[Array.toList_append,List.reverse_append,Array.toList_reverse,List.reverse_reverse,Ek];exact this
theorem Ce{a:Array Keyed}{n:Nat}{x:Keyed}(h:x∈a.toList.take n):∃j,j<n/\j<a.size/\x=a.getD (0+j) default:=by
 have h':x∈(a.toList.drop 0).take n:=by simpa using h
 obtain⟨j,h1,h2,h3⟩:=AN h';exact⟨j,h1,by lia,h3⟩
theorem DL{a:Array Keyed}{m n:Nat}{x:Keyed}(hmn:m<=n)(h:x∈(a.toList.take n).drop m):∃j,m<=j/\j<n/\j<a.size/\x=a.getD (0+j) default:=by
 rw[List.drop_take]at h;obtain⟨j,h1,h2,h3⟩:=AN h;exact⟨m+j,by lia,by lia,h2,by rw[Nat.zero_add];exact h3⟩
structure GoH(κ:Keyed->Int)(a b out:Array Keyed)(na nb:Nat):Prop where
 mi:MH κ a.toList b.toList out.toList.reverse na nb
 la:0<na
 lb:1<nb
theorem A0{κ:Keyed->Int}{a b out:Array Keyed}{na nb:Nat}(m:MH κ a.toList b.toList out.toList.reverse na nb)(sa:Rise κ a.toList)(sb:Rise κ b.toList)(h:na=0\/nb=0):AX κ a b (a.extract 0 na++b.extract 0 nb++out.reverse):=by
 have:=m.done sa sb h;unfold AX;rw[Array.toList_append,Array.toList_append,Ek,Ek,Array.toList_reverse,List.drop_zero,List.drop_zero];exact this
theorem AE{κ:Keyed->Int}{a b out:Array Keyed}{na nb:Nat}(m:MH κ a.toList b.toList out.toList.reverse na nb)(sa:Rise κ a.toList)(sb:Rise κ b.toList)(h1:nb=1)(h:∀x∈b.toList.take 1,∀y∈a.toList,κ x<=κ y):AX κ a b (b.extract 0 nb++a.extract 0 na++out.reverse):=by
 have:=m.firstB sa sb (by rw[h1];exact h);unfold AX;rw[Array.toList_append,Array.toList_append,Ek,Ek,Array.toList_reverse,List.drop_zero,List.drop_zero];exact this
theorem JT{kd:SortKind}{κ:Keyed->Int}{S:Keyed->Prop}{a b:Array Keyed}{st:SortSt}{Q:Array Keyed->SortSt->Prop}(L:LtG M A E s kd κ S)(hk:kindOf st=kd)(ha:0<a.size)(hb:0<b.size)(hSa:∀x∈a.toList,S x)(hSb:∀x∈b.toList,S x)
  (sa:Rise κ a.toList) (sb:Rise κ b.toList) (hf:∀x∈b.toList.take 1,∀y∈a.toList,κ x<=κ y) (hl:∀x∈b.toList,∀y∈a.toList.drop (a.size-1),κ x<=κ y)
  (h:∀r st',AX κ a b r->C8 st st'->Q r st'):wpS M A E s (OK a b) Q st:=by
 refine wpS_bind (wpS_lift (wpAny_rule ⟨rfl,?_⟩));obtain⟨a0,ea0,ma0,da0,ra0⟩:=Jz sa ha (Nat.le_refl _);have lk0:C8 st st:=⟨rfl,rfl,rfl,rfl⟩;have m0:MH κ a.toList b.toList (#[a0]:Array Keyed).toList.reverse (a.size-1) b.size:=by
  have:=(MH.start (κ:=κ) a.toList b.toList).takeA sa (m:=a.size-1) (by rw[Array.length_toList];lia) (λ x hx y hy=>hl x (List.mem_of_mem_take hx) y (by rw[List.take_length]at hy;exact hy));rw[Array.length_toList,Array.length_toList,da0]at this;exact this
 refine wpS_bind (Aj ea0 ?_);dsimp only;by_cases h1:a.size-1=0
 .rw[if_pos (beq_iff_eq.mpr h1)];exact wpS_pure (h _ _ (A0 m0 sa sb (.inl h1)) lk0)
 rw[if_neg (λ z=>h1 (beq_iff_eq.mp z))];by_cases h2:b.size=1
 .rw[if_pos (beq_iff_eq.mpr h2)];exact wpS_pure (h _ _ (AE m0 sa sb h2 hf) lk0)
 rw[if_neg (λ z=>h2 (beq_iff_eq.mp z))];refine wpS_bind (wpS_get ?_);refine wpS_bind (wpS_mono (wpS_forRange (I:=λ x (c:Option (Array Keyed)×Nat×Nat×Array Keyed×Nat) st'=>c.1=none/\GoH κ a b c.2.2.2.1 c.2.1 c.2.2.1/\c.2.1+c.2.2.1+x+1<=a.size+b.size/\C8 st st')
  (Q:=λ(c:Option (Array Keyed)×Nat×Nat×Array Keyed×Nat) st'=>C8 st st'/\∃r,c.1=some r/\AX κ a b r) ?ostep ?ofin (And.intro rfl ⟨⟨m0,by show 0<a.size-1;lia,by show 1<b.size;lia⟩,by show a.size-1+b.size+0+1<=a.size+b.size;lia,lk0⟩)) ?opost)
 case ofin =>
  rintro⟨r,na,nb,out,mg⟩ st1 ⟨e1,go,hge,lk⟩;have hge:na+nb+max 0 (a.size+b.size)+1<=a.size+b.size:=hge;lia
 case opost =>
  rintro⟨r,na,nb,out,mg⟩ st1 ⟨lk,r',e1,mr⟩;have e1:r=some r':=e1;subst e1;exact wpS_pure (h _ _ mr lk)
 case ostep =>
  rintro x ⟨r,na,nb,out,mg⟩ st1 _ hx ⟨e1,go,hge,lk⟩;have e1:r=none:=e1;subst e1;have hge:na+nb+x+1<=a.size+b.size:=hge;dsimp only;refine wpS_bind (wpS_mono (wpS_forRange (I:=λ y (c:Option (Array Keyed)×Nat×Nat×Array Keyed×Nat×Nat) st'=>c.1=none/\GoH κ a b c.2.2.2.1 c.2.1 c.2.2.1/\c.2.1+c.2.2.1+y=na+nb/\C8 st st')
   (Q:=λ(c:Option (Array Keyed)×Nat×Nat×Array Keyed×Nat×Nat) st'=>C8 st st'/\((∃r,c.1=some r/\AX κ a b r)\/(c.1=none/\GoH κ a b c.2.2.2.1 c.2.1 c.2.2.1/\c.2.1+c.2.2.1+1<=na+nb))) ?istep ?ifin (And.intro rfl ⟨go,rfl,lk⟩)) ?ipost)
  case ifin =>
   rintro⟨r,na',nb',out,ac,bc⟩ st2 ⟨e1,go',hs,lk'⟩;have hs:na'+nb'+max 0 (a.size+b.size)=na+nb:=hs;exact And.intro lk' (.inr ⟨e1,go',by show na'+nb'+1<=na+nb;lia⟩)
  case istep =>
   rintro y ⟨r,na',nb',out',ac,bc⟩ st2 _ hy ⟨e1,go',hs,lk'⟩;have e1:r=none:=e1;subst e1;have go':GoH κ a b out' na' nb':=go';have hs:na'+nb'+y=na+nb:=hs;have l1:=go'.la;have l2:=go'.lb;have l3:na'<=a.size:=by have:=go'.mi.la;rwa [Array.length_toList]at this
   have l4:nb'<=b.size:=by have:=go'.mi.lb;rwa [Array.length_toList]at this
   dsimp only;obtain⟨xb,exb,mb,db,rb⟩:=Jz sb (show 0<nb' by lia) l4;obtain⟨xa,exa,ma,da,ra⟩:=Jz sa l1 l3;refine wpS_bind (Aj exb (wpS_bind (Aj exa (wpS_bind (L xb xa (hSb _ mb) (hSa _ ma) st2 _ (lk'.kd.trans hk) ?_)))));dsimp only;by_cases hlt:κ xb<κ xa
   .rw[decide_eq_true hlt,if_pos rfl];refine wpS_bind (Aj exa ?_);have mi':=go'.mi.pushA sa da (λ w hw=>by have:=rb w hw;lia);by_cases q1:na'-1=0
    .rw[if_pos (beq_iff_eq.mpr q1)];exact wpS_pure (And.intro lk' (.inl ⟨_,rfl,A0 mi' sa sb (.inl q1)⟩))
    .rw[if_neg (λ z=>q1 (beq_iff_eq.mp z))];have gn:GoH κ a b (out'.push xa) (na'-1) nb':=⟨mi',by lia,l2⟩;split
     .exact wpS_pure (And.intro lk' (.inr ⟨rfl,gn,by show na'-1+nb'+1<=na+nb;lia⟩))
     .exact wpS_pure (And.intro rfl ⟨gn,by show na'-1+nb'+(y+1)=na+nb;lia,lk'⟩)
   .rw[decide_eq_false hlt,if_neg Bool.false_ne_true];refine wpS_bind (Aj exb ?_);have mi':=go'.mi.pushB sb db (λ w hw=>by have:=ra w hw;lia);by_cases q1:nb'-1=1
    .rw[if_pos (beq_iff_eq.mpr q1)];exact wpS_pure (And.intro lk' (.inl ⟨_,rfl,AE mi' sa sb q1 hf⟩))
    .rw[if_neg (λ z=>q1 (beq_iff_eq.mp z))];have gn:GoH κ a b (out'.push xb) na' (nb'-1):=⟨mi',l1,by lia⟩;split
     .exact wpS_pure (And.intro lk' (.inr ⟨rfl,gn,by show na'+(nb'-1)+1<=na+nb;lia⟩))
     .exact wpS_pure (And.intro rfl ⟨gn,by show na'+(nb'-1)+(y+1)=na+nb;lia,lk'⟩)
  case ipost =>
   rintro⟨r,na',nb',out',ac,bc⟩ st2 ⟨lk',hh⟩;rcases hh with ⟨r',e1,mr⟩|⟨e1,go',hs⟩
   .have e1:r=some r':=e1;subst e1;exact wpS_pure (And.intro lk' ⟨_,rfl,mr⟩)
   .have e1:r=none:=e1;subst e1;have go':GoH κ a b out' na' nb':=go';have hs:na'+nb'+1<=na+nb:=hs;dsimp only;refine wpS_bind (wpS_lift (wpAny_rule ⟨rfl,?_⟩));refine wpS_bind (wpS_mono (wpS_forRange (I:=λ y (c:Option (Array Keyed)×Nat×Nat×Array Keyed×Nat×Nat×Nat) st'=>c.1=none/\GoH κ a b c.2.2.2.1 c.2.1 c.2.2.1/\c.2.1+c.2.2.1+1<=na+nb/\C8 st st')
     (Q:=λ(c:Option (Array Keyed)×Nat×Nat×Array Keyed×Nat×Nat×Nat) st'=>C8 st st'/\((∃r,c.1=some r/\AX κ a b r)\/(c.1=none/\GoH κ a b c.2.2.2.1 c.2.1 c.2.2.1/\c.2.1+c.2.2.1+1<=na+nb))) ?gstep ?gfin (And.intro rfl ⟨go',hs,lk'⟩)) ?gpost)
    case gfin =>
     rintro⟨r,na2,nb2,out,mg2,ac,bc⟩ st3 ⟨e1,go2,hs2,lk2⟩;exact And.intro lk2 (.inr ⟨e1,go2,hs2⟩)
    case gpost =>
     rintro⟨r,na2,nb2,out,mg2,ac,bc⟩ st3 ⟨lk2,hh2⟩;rcases hh2 with ⟨r',e1,mr⟩|⟨e1,go2,hs2⟩
     .have e1:r=some r':=e1;subst e1;exact wpS_pure (And.intro lk2 ⟨_,rfl,mr⟩)
     .have e1:r=none:=e1;subst e1;have hs2:na2+nb2+1<=na+nb:=hs2;refine wpS_bind (wpS_modify ?_);exact wpS_pure (And.intro rfl ⟨go2,by show na2+nb2+(x+1)+1<=a.size+b.size;lia,⟨lk2.kd,lk2.ar,lk2.pe,lk2.fa⟩⟩)
    case gstep =>
     rintro y ⟨r,na2,nb2,out2,mg2,ac,bc⟩ st3 _ hy ⟨e1,go2,hs2,lk2⟩;have e1:r=none:=e1;subst e1;have go2:GoH κ a b out2 na2 nb2:=go2;have hs2:na2+nb2+1<=na+nb:=hs2;dsimp only;have l1:=go2.la;have l2:=go2.lb;have l3:na2<=a.size:=by have:=go2.mi.la;rwa [Array.length_toList]at this
     have l4:nb2<=b.size:=by have:=go2.mi.lb;rwa [Array.length_toList]at this
     have inA:∀i,i<a.size->∃x,a[i]?=some x/\S x:=λ i hi=>by
      obtain⟨x,e,m,_⟩:=C5 hi;exact⟨x,e,hSa x m⟩
     have inB:∀i,i<b.size->∃x,b[i]?=some x/\S x:=λ i hi=>by
      obtain⟨x,e,m,_⟩:=C5 hi;exact⟨x,e,hSb x m⟩
     by_cases hm:mg2>1
     .rw[if_pos hm];refine wpS_bind (wpS_modify ?_);have lkN:C8 st (SortSt.mk' (kindOf st3) (arrOf st3) (pendingOf st3) (mg2-1) (failedOf st3)):=⟨lk2.kd,lk2.ar,lk2.pe,lk2.fa⟩;obtain⟨xb,exb,mb,db,rb⟩:=Jz sb (show 0<nb2 by lia) l4;refine wpS_bind (Aj exb (wpS_bind (AF (B:=λ i=>!decide (κ xb<κ (a.getD (0+i) default))) (lkN.kd.trans hk) (GO L (hSb _ mb) (λ i hi=>inA _ (by lia))) (λ i j hij hj hB=>?_) (by lia) λ k hk' f1 f2=>?_)))
      .have h3:=Bf sa (i:=0+i) (j:=0+j) (by lia) (by lia);simp only[Bool.not_eq_true',decide_eq_false_iff_not]at hB |-;lia
      have u1:∀z∈b.toList.take nb2,∀w∈(a.toList.take na2).drop k,κ z<=κ w:=λ z hz w hw=>by
       obtain⟨j,j1,j2,j3,rfl⟩:=DL hk' hw;have h3:=f2 j j1 j2;simp only[Bool.not_eq_false',decide_eq_true_eq]at h3;have h4:=rb z hz;lia
      have u2:∀w∈a.toList.take k,κ w<=κ xb:=λ w hw=>by
       obtain⟨j,j1,j2,rfl⟩:=Ce hw;have h3:=f1 j j1;simp only[Bool.not_eq_true',decide_eq_false_iff_not]at h3;lia
      dsimp only;by_cases p0:na2-k>0
      .rw[if_pos p0];have m2:=go2.mi.extA sa (m:=k) hk' u1;by_cases q1:k=0
       .rw[if_pos (beq_iff_eq.mpr q1)];exact wpS_pure (And.intro lkN (.inl ⟨_,rfl,A0 m2 sa sb (.inl q1)⟩))
       .rw[if_neg (λ z=>q1 (beq_iff_eq.mp z))];have kB:=u2;refine wpS_bind (Aj exb ?_);have m3:=m2.pushB sb db kB;by_cases q3:nb2-1=1
        .rw[if_pos (beq_iff_eq.mpr q3)];exact wpS_pure (And.intro lkN (.inl ⟨_,rfl,AE m3 sa sb q3 hf⟩))
        .rw[if_neg (λ z=>q3 (beq_iff_eq.mp z))];obtain⟨xa,exa,ma,da,ra⟩:=Jz sa (show 0<k by lia) (by lia);refine wpS_bind (Aj exa (wpS_bind (AF (B:=λ i=>decide (κ (b.getD (0+i) default)<κ xa)) (lkN.kd.trans hk) (Db L (hSa _ ma) (λ i hi=>inB _ (by lia))) (λ i j hij hj hB=>decide_eq_true (Int.lt_of_le_of_lt (Bf sb (by lia) (by lia)) (of_decide_eq_true hB))) (by lia) λ k1 hk1 g1 g2=>?_)));have t1:∀z∈a.toList.take (k),∀w∈(b.toList.take (nb2-1)).drop k1,κ z<=κ w:=λ z hz w hw=>by
          obtain⟨j,j1,j2,j3,rfl⟩:=DL hk1 hw;have h3:=of_decide_eq_false (g2 j j1 j2);have h4:=ra z hz;lia
         have t2:∀w∈b.toList.take k1,κ w<=κ xa:=λ w hw=>by
          obtain⟨j,j1,j2,rfl⟩:=Ce hw;exact Int.le_of_lt (of_decide_eq_true (g1 j j1))
         dsimp only;by_cases p1:nb2-1-k1>0
         .rw[if_pos p1];have m4:=m3.extB sb (m:=k1) hk1 t1;by_cases q4:k1=1
          .rw[if_pos (beq_iff_eq.mpr q4)];exact wpS_pure (And.intro lkN (.inl ⟨_,rfl,AE m4 sa sb q4 hf⟩))
          .rw[if_neg (λ z=>q4 (beq_iff_eq.mp z))];by_cases q6:k1=0
           .rw[if_pos (beq_iff_eq.mpr q6)];exact wpS_pure (And.intro lkN (.inl ⟨_,rfl,A0 m4 sa sb (.inr q6)⟩))
           .rw[if_neg (λ z=>q6 (beq_iff_eq.mp z))];have kA:=t2;refine wpS_bind (Aj exa ?_);have m5:=m4.pushA sa da kA;by_cases q5:k-1=0
            .rw[if_pos (beq_iff_eq.mpr q5)];exact wpS_pure (And.intro lkN (.inl ⟨_,rfl,A0 m5 sa sb (.inl q5)⟩))
            .rw[if_neg (λ z=>q5 (beq_iff_eq.mp z))];have gn:GoH κ a b _ (k-1) (k1):=⟨m5,by lia,by lia⟩;split
             .exact wpS_pure (And.intro lkN (.inr ⟨rfl,gn,by show k-1+(k1)+1<=na+nb;lia⟩))
             .exact wpS_pure (And.intro rfl ⟨gn,by show k-1+(k1)+1<=na+nb;lia,lkN⟩)
         .rw[if_neg p1];have k10:k1=nb2-1:=by lia
          subst k10;have kA:=t2;refine wpS_bind (Aj exa ?_);have m5:=m3.pushA sa da kA;by_cases q5:k-1=0
          .rw[if_pos (beq_iff_eq.mpr q5)];exact wpS_pure (And.intro lkN (.inl ⟨_,rfl,A0 m5 sa sb (.inl q5)⟩))
          .rw[if_neg (λ z=>q5 (beq_iff_eq.mp z))];have gn:GoH κ a b _ (k-1) (nb2-1):=⟨m5,by lia,by lia⟩;split
           .exact wpS_pure (And.intro lkN (.inr ⟨rfl,gn,by show k-1+(nb2-1)+1<=na+nb;lia⟩))
           .exact wpS_pure (And.intro rfl ⟨gn,by show k-1+(nb2-1)+1<=na+nb;lia,lkN⟩)
      .rw[if_neg p0];have k00:k=na2:=by lia
       subst k00;have kB:=u2;have mi2:=go2.mi;refine wpS_bind (Aj exb ?_);have m3:=mi2.pushB sb db kB;by_cases q3:nb2-1=1
       .rw[if_pos (beq_iff_eq.mpr q3)];exact wpS_pure (And.intro lkN (.inl ⟨_,rfl,AE m3 sa sb q3 hf⟩))
       .rw[if_neg (λ z=>q3 (beq_iff_eq.mp z))];obtain⟨xa,exa,ma,da,ra⟩:=Jz sa (show 0<k by lia) (by lia);refine wpS_bind (Aj exa (wpS_bind (AF (B:=λ i=>decide (κ (b.getD (0+i) default)<κ xa)) (lkN.kd.trans hk) (Db L (hSa _ ma) (λ i hi=>inB _ (by lia))) (λ i j hij hj hB=>decide_eq_true (Int.lt_of_le_of_lt (Bf sb (by lia) (by lia)) (of_decide_eq_true hB))) (by lia) λ k1 hk1 g1 g2=>?_)));have t1:∀z∈a.toList.take (k),∀w∈(b.toList.take (nb2-1)).drop k1,κ z<=κ w:=λ z hz w hw=>by
         obtain⟨j,j1,j2,j3,rfl⟩:=DL hk1 hw;have h3:=of_decide_eq_false (g2 j j1 j2);have h4:=ra z hz;lia
        have t2:∀w∈b.toList.take k1,κ w<=κ xa:=λ w hw=>by
         obtain⟨j,j1,j2,rfl⟩:=Ce hw;exact Int.le_of_lt (of_decide_eq_true (g1 j j1))
        dsimp only;by_cases p1:nb2-1-k1>0
        .rw[if_pos p1];have m4:=m3.extB sb (m:=k1) hk1 t1;by_cases q4:k1=1
         .rw[if_pos (beq_iff_eq.mpr q4)];exact wpS_pure (And.intro lkN (.inl ⟨_,rfl,AE m4 sa sb q4 hf⟩))
         .rw[if_neg (λ z=>q4 (beq_iff_eq.mp z))];by_cases q6:k1=0
          .rw[if_pos (beq_iff_eq.mpr q6)];exact wpS_pure (And.intro lkN (.inl ⟨_,rfl,A0 m4 sa sb (.inr q6)⟩))
          .rw[if_neg (λ z=>q6 (beq_iff_eq.mp z))];have kA:=t2;refine wpS_bind (Aj exa ?_);have m5:=m4.pushA sa da kA;by_cases q5:k-1=0
           .rw[if_pos (beq_iff_eq.mpr q5)];exact wpS_pure (And.intro lkN (.inl ⟨_,rfl,A0 m5 sa sb (.inl q5)⟩))
           .rw[if_neg (λ z=>q5 (beq_iff_eq.mp z))];have gn:GoH κ a b _ (k-1) (k1):=⟨m5,by lia,by lia⟩;split
            .exact wpS_pure (And.intro lkN (.inr ⟨rfl,gn,by show k-1+(k1)+1<=na+nb;lia⟩))
            .exact wpS_pure (And.intro rfl ⟨gn,by show k-1+(k1)+1<=na+nb;lia,lkN⟩)
        .rw[if_neg p1];have k10:k1=nb2-1:=by lia
         subst k10;have kA:=t2;refine wpS_bind (Aj exa ?_);have m5:=m3.pushA sa da kA;by_cases q5:k-1=0
         .rw[if_pos (beq_iff_eq.mpr q5)];exact wpS_pure (And.intro lkN (.inl ⟨_,rfl,A0 m5 sa sb (.inl q5)⟩))
         .rw[if_neg (λ z=>q5 (beq_iff_eq.mp z))];have gn:GoH κ a b _ (k-1) (nb2-1):=⟨m5,by lia,by lia⟩;split
          .exact wpS_pure (And.intro lkN (.inr ⟨rfl,gn,by show k-1+(nb2-1)+1<=na+nb;lia⟩))
          .exact wpS_pure (And.intro rfl ⟨gn,by show k-1+(nb2-1)+1<=na+nb;lia,lkN⟩)
     .rw[if_neg hm];refine wpS_bind (wpS_modify ?_);have lkN:C8 st (SortSt.mk' (kindOf st3) (arrOf st3) (pendingOf st3) mg2 (failedOf st3)):=⟨lk2.kd,lk2.ar,lk2.pe,lk2.fa⟩;obtain⟨xb,exb,mb,db,rb⟩:=Jz sb (show 0<nb2 by lia) l4;refine wpS_bind (Aj exb (wpS_bind (AF (B:=λ i=>!decide (κ xb<κ (a.getD (0+i) default))) (lkN.kd.trans hk) (GO L (hSb _ mb) (λ i hi=>inA _ (by lia))) (λ i j hij hj hB=>?_) (by lia) λ k hk' f1 f2=>?_)))
      .have h3:=Bf sa (i:=0+i) (j:=0+j) (by lia) (by lia);simp only[Bool.not_eq_true',decide_eq_false_iff_not]at hB |-;lia
      have u1:∀z∈b.toList.take nb2,∀w∈(a.toList.take na2).drop k,κ z<=κ w:=λ z hz w hw=>by
       obtain⟨j,j1,j2,j3,rfl⟩:=DL hk' hw;have h3:=f2 j j1 j2;simp only[Bool.not_eq_false',decide_eq_true_eq]at h3;have h4:=rb z hz;lia
      have u2:∀w∈a.toList.take k,κ w<=κ xb:=λ w hw=>by
       obtain⟨j,j1,j2,rfl⟩:=Ce hw;have h3:=f1 j j1;simp only[Bool.not_eq_true',decide_eq_false_iff_not]at h3;lia
      dsimp only;by_cases p0:na2-k>0
      .rw[if_pos p0];have m2:=go2.mi.extA sa (m:=k) hk' u1;by_cases q1:k=0
       .rw[if_pos (beq_iff_eq.mpr q1)];exact wpS_pure (And.intro lkN (.inl ⟨_,rfl,A0 m2 sa sb (.inl q1)⟩))
       .rw[if_neg (λ z=>q1 (beq_iff_eq.mp z))];have kB:=u2;refine wpS_bind (Aj exb ?_);have m3:=m2.pushB sb db kB;by_cases q3:nb2-1=1
        .rw[if_pos (beq_iff_eq.mpr q3)];exact wpS_pure (And.intro lkN (.inl ⟨_,rfl,AE m3 sa sb q3 hf⟩))
        .rw[if_neg (λ z=>q3 (beq_iff_eq.mp z))];obtain⟨xa,exa,ma,da,ra⟩:=Jz sa (show 0<k by lia) (by lia);refine wpS_bind (Aj exa (wpS_bind (AF (B:=λ i=>decide (κ (b.getD (0+i) default)<κ xa)) (lkN.kd.trans hk) (Db L (hSa _ ma) (λ i hi=>inB _ (by lia))) (λ i j hij hj hB=>decide_eq_true (Int.lt_of_le_of_lt (Bf sb (by lia) (by lia)) (of_decide_eq_true hB))) (by lia) λ k1 hk1 g1 g2=>?_)));have t1:∀z∈a.toList.take (k),∀w∈(b.toList.take (nb2-1)).drop k1,κ z<=κ w:=λ z hz w hw=>by
          obtain⟨j,j1,j2,j3,rfl⟩:=DL hk1 hw;have h3:=of_decide_eq_false (g2 j j1 j2);have h4:=ra z hz;lia
         have t2:∀w∈b.toList.take k1,κ w<=κ xa:=λ w hw=>by
          obtain⟨j,j1,j2,rfl⟩:=Ce hw;exact Int.le_of_lt (of_decide_eq_true (g1 j j1))
         dsimp only;by_cases p1:nb2-1-k1>0
         .rw[if_pos p1];have m4:=m3.extB sb (m:=k1) hk1 t1;by_cases q4:k1=1
          .rw[if_pos (beq_iff_eq.mpr q4)];exact wpS_pure (And.intro lkN (.inl ⟨_,rfl,AE m4 sa sb q4 hf⟩))
          .rw[if_neg (λ z=>q4 (beq_iff_eq.mp z))];by_cases q6:k1=0
           .rw[if_pos (beq_iff_eq.mpr q6)];exact wpS_pure (And.intro lkN (.inl ⟨_,rfl,A0 m4 sa sb (.inr q6)⟩))
           .rw[if_neg (λ z=>q6 (beq_iff_eq.mp z))];have kA:=t2;refine wpS_bind (Aj exa ?_);have m5:=m4.pushA sa da kA;by_cases q5:k-1=0
            .rw[if_pos (beq_iff_eq.mpr q5)];exact wpS_pure (And.intro lkN (.inl ⟨_,rfl,A0 m5 sa sb (.inl q5)⟩))
            .rw[if_neg (λ z=>q5 (beq_iff_eq.mp z))];have gn:GoH κ a b _ (k-1) (k1):=⟨m5,by lia,by lia⟩;split
             .exact wpS_pure (And.intro lkN (.inr ⟨rfl,gn,by show k-1+(k1)+1<=na+nb;lia⟩))
             .exact wpS_pure (And.intro rfl ⟨gn,by show k-1+(k1)+1<=na+nb;lia,lkN⟩)
         .rw[if_neg p1];have k10:k1=nb2-1:=by lia
          subst k10;have kA:=t2;refine wpS_bind (Aj exa ?_);have m5:=m3.pushA sa da kA;by_cases q5:k-1=0
          .rw[if_pos (beq_iff_eq.mpr q5)];exact wpS_pure (And.intro lkN (.inl ⟨_,rfl,A0 m5 sa sb (.inl q5)⟩))
          .rw[if_neg (λ z=>q5 (beq_iff_eq.mp z))];have gn:GoH κ a b _ (k-1) (nb2-1):=⟨m5,by lia,by lia⟩;split
           .exact wpS_pure (And.intro lkN (.inr ⟨rfl,gn,by show k-1+(nb2-1)+1<=na+nb;lia⟩))
           .exact wpS_pure (And.intro rfl ⟨gn,by show k-1+(nb2-1)+1<=na+nb;lia,lkN⟩)
      .rw[if_neg p0];have k00:k=na2:=by lia
       subst k00;have kB:=u2;have mi2:=go2.mi;refine wpS_bind (Aj exb ?_);have m3:=mi2.pushB sb db kB;by_cases q3:nb2-1=1
       .rw[if_pos (beq_iff_eq.mpr q3)];exact wpS_pure (And.intro lkN (.inl ⟨_,rfl,AE m3 sa sb q3 hf⟩))
       .rw[if_neg (λ z=>q3 (beq_iff_eq.mp z))];obtain⟨xa,exa,ma,da,ra⟩:=Jz sa (show 0<k by lia) (by lia);refine wpS_bind (Aj exa (wpS_bind (AF (B:=λ i=>decide (κ (b.getD (0+i) default)<κ xa)) (lkN.kd.trans hk) (Db L (hSa _ ma) (λ i hi=>inB _ (by lia))) (λ i j hij hj hB=>decide_eq_true (Int.lt_of_le_of_lt (Bf sb (by lia) (by lia)) (of_decide_eq_true hB))) (by lia) λ k1 hk1 g1 g2=>?_)));have t1:∀z∈a.toList.take (k),∀w∈(b.toList.take (nb2-1)).drop k1,κ z<=κ w:=λ z hz w hw=>by
         obtain⟨j,j1,j2,j3,rfl⟩:=DL hk1 hw;have h3:=of_decide_eq_false (g2 j j1 j2);have h4:=ra z hz;lia
        have t2:∀w∈b.toList.take k1,κ w<=κ xa:=λ w hw=>by
         obtain⟨j,j1,j2,rfl⟩:=Ce hw;exact Int.le_of_lt (of_decide_eq_true (g1 j j1))
        dsimp only;by_cases p1:nb2-1-k1>0
        .rw[if_pos p1];have m4:=m3.extB sb (m:=k1) hk1 t1;by_cases q4:k1=1
         .rw[if_pos (beq_iff_eq.mpr q4)];exact wpS_pure (And.intro lkN (.inl ⟨_,rfl,AE m4 sa sb q4 hf⟩))
         .rw[if_neg (λ z=>q4 (beq_iff_eq.mp z))];by_cases q6:k1=0
          .rw[if_pos (beq_iff_eq.mpr q6)];exact wpS_pure (And.intro lkN (.inl ⟨_,rfl,A0 m4 sa sb (.inr q6)⟩))
          .rw[if_neg (λ z=>q6 (beq_iff_eq.mp z))];have kA:=t2;refine wpS_bind (Aj exa ?_);have m5:=m4.pushA sa da kA;by_cases q5:k-1=0
           .rw[if_pos (beq_iff_eq.mpr q5)];exact wpS_pure (And.intro lkN (.inl ⟨_,rfl,A0 m5 sa sb (.inl q5)⟩))
           .rw[if_neg (λ z=>q5 (beq_iff_eq.mp z))];have gn:GoH κ a b _ (k-1) (k1):=⟨m5,by lia,by lia⟩;split
            .exact wpS_pure (And.intro lkN (.inr ⟨rfl,gn,by show k-1+(k1)+1<=na+nb;lia⟩))
            .exact wpS_pure (And.intro rfl ⟨gn,by show k-1+(k1)+1<=na+nb;lia,lkN⟩)
        .rw[if_neg p1];have k10:k1=nb2-1:=by lia
         subst k10;have kA:=t2;refine wpS_bind (Aj exa ?_);have m5:=m3.pushA sa da kA;by_cases q5:k-1=0
         .rw[if_pos (beq_iff_eq.mpr q5)];exact wpS_pure (And.intro lkN (.inl ⟨_,rfl,A0 m5 sa sb (.inl q5)⟩))
         .rw[if_neg (λ z=>q5 (beq_iff_eq.mp z))];have gn:GoH κ a b _ (k-1) (nb2-1):=⟨m5,by lia,by lia⟩;split
          .exact wpS_pure (And.intro lkN (.inr ⟨rfl,gn,by show k-1+(nb2-1)+1<=na+nb;lia⟩))
          .exact wpS_pure (And.intro rfl ⟨gn,by show k-1+(nb2-1)+1<=na+nb;lia,lkN⟩)
def K3:Nat->StateT SortSt Sem Bool:=sortPriv% PySem.Builtin.mergeAt
theorem M3{α:Type}:∀(ms:List α)(n base:Nat)(xs:Array α),base+n+ms.length<=xs.size ->
  ((ms.zipIdx n).foldl (λ a p=>a.setIfInBounds (base+p.2) p.1) xs).toList=xs.toList.take (base+n)++ms++xs.toList.drop (base+n+ms.length)
 |[],n,base,xs,h=>by simp
 |m::ms,n,base,xs,h=>by
  rw[List.zipIdx_cons,List.foldl_cons];have hl:base+n+(ms.length+1)<=xs.size:=h;rw[M3 ms (n+1) base (xs.setIfInBounds (base+n) m) (by rw[Array.size_setIfInBounds];lia)];rw[Array.toList_setIfInBounds];have h1:base+n<xs.toList.length:=by rw[Array.length_toList];lia
  rw[show base+(n+1)=base+n+1 by lia];rw[List.take_set,List.drop_set,if_pos (by lia)];have e1:(xs.toList.take (base+n+1)).set (base+n) m=xs.toList.take (base+n)++[m]:=by
   rw[List.take_succ_eq_append_getElem h1,List.set_append_right _ _ (by rw[List.length_take];lia)];rw[List.length_take,Nat.min_eq_left (by lia),Nat.sub_self];rfl
  rw[e1,show base+n+1+ms.length=base+n+(m::ms).length by simp;lia];simp
theorem P0{σ:Type}{st st':σ}{Q:PUnit->σ->Prop}(h:Q ⟨⟩ st'):wpS M A E s (set st':StateT σ Sem PUnit) Q st:=by
 unfold wpS;rw[StateT.run_set];exact wpAny_pure ⟨rfl,h⟩
theorem FE{κ:Keyed->Int}{a:Array Keyed}{lo n:Nat}(h:Rise κ ((a.toList.drop lo).take n))(hn:lo+n<=a.size){i j:Nat}(hij:i<=j)(hj:j<n):κ (a.getD (lo+i) default)<=κ (a.getD (lo+j) default):=by
 have ei:a.getD (lo+i) default=a.toList[lo+i]'(by simp;lia):=by
  have:lo+i<a.size:=by lia
  simp[Array.getD,this]
 have ej:a.getD (lo+j) default=a.toList[lo+j]'(by simp;lia):=by
  have:lo+j<a.size:=by lia
  simp[Array.getD,this]
 rw[ei,ej];rcases Nat.lt_or_ge i j with h'|h'
 .have:=List.pairwise_iff_getElem.mp h i j (by simp;lia) (by simp;lia) h';rwa [List.getElem_take,List.getElem_take,List.getElem_drop,List.getElem_drop]at this
 .have:i=j:=by lia
  subst this;exact Int.le_refl _
theorem RE{α:Type}{κ:α->Int}{A1 A2 B1 B2 ms:List α}(sA:Rise κ (A1++A2))(sB:Rise κ (B1++B2))(hm:Rise κ ms)(pm:ms.Perm (A2++B1))(h1:∀x∈A1,∀y∈B1++B2,κ x<=κ y)(h2:∀x∈A1++A2,∀y∈B2,κ x<=κ y):Rise κ (A1++ms++B2):=by
 obtain⟨a1,a2,a3⟩:=List.pairwise_append.mp sA;obtain⟨b1,b2,b3⟩:=List.pairwise_append.mp sB;refine Rise.app (Rise.app a1 hm λ x hx y hy=>?_) b2 λ x hx y hy=>?_
 .rcases List.mem_append.mp (pm.mem_iff.mp hy) with hy|hy
  .exact a3 x hx y hy
  .exact h1 x hx y (List.mem_append_left _ hy)
 .rcases List.mem_append.mp hx with hx|hx
  .exact h2 x (List.mem_append_left _ hx) y hy
  .rcases List.mem_append.mp (pm.mem_iff.mp hx) with hx|hx
   .exact h2 x (List.mem_append_right _ hx) y hy
   .exact b3 x hx y hy
theorem JU{kd:SortKind}{κ:Keyed->Int}{S:Keyed->Prop}{st:SortSt}{i sa na pw nb pw':Nat}{Q:Bool->SortSt->Prop}(L:LtG M A E s kd κ S)(hk:kindOf st=kd)(hfa:failedOf st=none)(p1:(pendingOf st)[i]?=some (sa,na,pw))(p2:(pendingOf st)[i+1]?=some (sa+na,nb,pw'))
  (hS:∀x∈(arrOf st).toList,S x) (ha:0<na) (hb:0<nb) (hn:sa+na+nb<=(arrOf st).size) (r1:Rise κ (((arrOf st).toList.drop sa).take na)) (r2:Rise κ (((arrOf st).toList.drop (sa+na)).take nb))
  (h:∀(arr':Array Keyed)(g:Nat)(seg:List Keyed),arr'.toList=(arrOf st).toList.take sa++seg++(arrOf st).toList.drop (sa+na+nb)->Rise κ seg->seg.Perm (((arrOf st).toList.drop sa).take na++((arrOf st).toList.drop (sa+na)).take nb) ->
   Q true (SortSt.mk' kd arr' (((pendingOf st).setIfInBounds i (sa,na+nb,pw)).eraseIdxIfInBounds (i+1)) g none)):wpS M A E s (K3 i) Q st:=by
 refine wpS_bind (wpS_get ?_);have inn:∀i,i<(arrOf st).size->∃x,(arrOf st)[i]?=some x/\S x:=λ i hi=>by
  obtain⟨x,e,m,_⟩:=C5 hi;exact⟨x,e,hS x m⟩
 have split:(arrOf st).toList=(arrOf st).toList.take sa++(((arrOf st).toList.drop sa).take na++((arrOf st).toList.drop (sa+na)).take nb)++(arrOf st).toList.drop (sa+na+nb):=by
  rw[List.append_assoc,List.append_assoc,<-B5 _ (sa+na) nb,<-B5 _ sa na,List.take_append_drop]
 rw[p1,p2];dsimp only;refine wpS_bind (P0 ?_);subst hk;obtain⟨x0,ex0,mx0,dx0⟩:=C5 (show sa+na<(arrOf st).size by lia);have x0B:∀y∈((arrOf st).toList.drop (sa+na)).take nb,κ x0<=κ y:=λ y hy=>by
  obtain⟨j,j1,j2,rfl⟩:=AN hy;have:=FE r2 hn (i:=0) (j:=j) (by lia) j1;rwa [Nat.add_zero,FL ex0]at this
 have same:∀g:Nat,∀f:Option Value,f=none->∀(arr':Array Keyed)(seg:List Keyed),arr'.toList=(arrOf st).toList.take sa++seg++(arrOf st).toList.drop (sa+na+nb)->Rise κ seg->seg.Perm (((arrOf st).toList.drop sa).take na++((arrOf st).toList.drop (sa+na)).take nb)->Q true (SortSt.mk' (kindOf st) arr' (((pendingOf st).setIfInBounds i (sa,na+nb,pw)).eraseIdxIfInBounds (i+1)) g f):=λ g f hf arr' seg e1 e2 e3=>by
  rw[hf];exact h arr' g seg e1 e2 e3
 refine wpS_bind (Aj ex0 (wpS_bind (AF (B:=λ i=>!decide (κ x0<κ ((arrOf st).getD (sa+i) default))) rfl (GO L (hS _ mx0) (λ i hi=>inn _ (by lia))) (λ i j hij hj hB=>?_) (by lia) λ k hk' f1 f2=>?_)))
 .have h3:=FE r1 (by lia) hij hj;simp only[Bool.not_eq_true',decide_eq_false_iff_not]at hB |-;lia
 have u1:∀z∈((arrOf st).toList.drop sa).take k,κ z<=κ x0:=λ z hz=>by
  obtain⟨j,j1,j2,rfl⟩:=AN hz;have h3:=f1 j j1;simp only[Bool.not_eq_true',decide_eq_false_iff_not]at h3;lia
 dsimp only;by_cases q1:na-k=0
 .rw[if_pos (beq_iff_eq.mpr q1)];have:k=na:=by lia
  subst this;exact wpS_pure (same _ _ hfa _ _ split (Rise.app r1 r2 λ x hx y hy=>Int.le_trans (u1 x hx) (x0B y hy)) (List.Perm.refl _))
 rw[if_neg (λ z=>q1 (beq_iff_eq.mp z))];have eA:((arrOf st).toList.drop sa).take na=((arrOf st).toList.drop sa).take k++((arrOf st).toList.drop (sa+k)).take (na-k):=by
  conv=>lhs;rw[show na=k+(na-k) by lia]
  rw[List.take_add,List.drop_drop]
 obtain⟨x1,ex1,mx1,dx1⟩:=C5 (show sa+k+(na-k)-1<(arrOf st).size by lia);have x1A:∀y∈((arrOf st).toList.drop sa).take na,κ y<=κ x1:=λ y hy=>by
  obtain⟨j,j1,j2,rfl⟩:=AN hy;have:=FE r1 (by lia) (i:=j) (j:=na-1) (by lia) (by lia);rwa [show sa+(na-1)=sa+k+(na-k)-1 by lia,FL ex1]at this
 refine wpS_bind (Aj ex1 (wpS_bind (AF (B:=λ i=>decide (κ ((arrOf st).getD (sa+na+i) default)<κ x1)) rfl (Db L (hS _ mx1) (λ i hi=>inn _ (by lia))) (λ i j hij hj hB=>decide_eq_true (Int.lt_of_le_of_lt (FE r2 hn hij hj) (of_decide_eq_true hB))) (by lia) λ k1 hk1 g1 g2=>?_)));have eB:((arrOf st).toList.drop (sa+na)).take nb=((arrOf st).toList.drop (sa+na)).take k1++((arrOf st).toList.drop (sa+na+k1)).take (nb-k1):=by
  conv=>lhs;rw[show nb=k1+(nb-k1) by lia]
  rw[List.take_add,List.drop_drop]
 have v1:∀z∈((arrOf st).toList.drop (sa+na)).take k1,κ z<=κ x1:=λ z hz=>by
  obtain⟨j,j1,j2,rfl⟩:=AN hz;exact Int.le_of_lt (of_decide_eq_true (g1 j j1))
 have v2:∀z∈((arrOf st).toList.drop (sa+na+k1)).take (nb-k1),κ x1<=κ z:=λ z hz=>by
  obtain⟨j,j1,j2,rfl⟩:=AN hz;have:=of_decide_eq_false (g2 (k1+j) (by lia) (by lia));rw[<-Nat.add_assoc]at this;lia
 dsimp only;by_cases q2:k1=0
 .rw[if_pos (beq_iff_eq.mpr q2)];subst q2;exact wpS_pure (same _ _ hfa _ _ split (Rise.app r1 r2 λ x hx y hy=>Int.le_trans (x1A x hx) (v2 y (by simpa using hy))) (List.Perm.refl _))
 rw[if_neg (λ z=>q2 (beq_iff_eq.mp z))];have ex:((arrOf st).extract (sa+k) (sa+na)).toList=((arrOf st).toList.drop (sa+k)).take (na-k):=by
  rw[Ek,List.drop_take,show sa+na-(sa+k)=na-k by lia]
 have ey:((arrOf st).extract (sa+na) (sa+na+k1)).toList=((arrOf st).toList.drop (sa+na)).take k1:=OZ _ _ _;have subx:∀x∈((arrOf st).extract (sa+k) (sa+na)).toList,x∈(arrOf st).toList:=λ x hx=>by rw[ex]at hx;exact List.mem_of_mem_drop (List.mem_of_mem_take hx)
 have suby:∀x∈((arrOf st).extract (sa+na) (sa+na+k1)).toList,x∈(arrOf st).toList:=λ x hx=>by rw[ey]at hx;exact List.mem_of_mem_drop (List.mem_of_mem_take hx)
 have rA:=r1;rw[eA]at rA;have rB:=r2;rw[eB]at rB;have rx:Rise κ ((arrOf st).extract (sa+k) (sa+na)).toList:=by rw[ex];exact(List.pairwise_append.mp rA).2.1
 have ry:Rise κ ((arrOf st).extract (sa+na) (sa+na+k1)).toList:=by rw[ey];exact(List.pairwise_append.mp rB).1
 have hfx:∀x∈((arrOf st).extract (sa+na) (sa+na+k1)).toList.take 1,∀y∈((arrOf st).extract (sa+k) (sa+na)).toList,κ x<=κ y:=λ x hx y hy=>by
  rw[ey,List.take_take,Nat.min_eq_left (by lia),dx0]at hx;have:x=x0:=by simpa using hx
  rw[this];rw[ex]at hy;obtain⟨j,j1,j2,rfl⟩:=AN hy;have h3:=f2 (k+j) (by lia) (by lia);simp only[Bool.not_eq_false',decide_eq_true_eq]at h3;rw[<-Nat.add_assoc]at h3;lia
 have hlx:∀x∈((arrOf st).extract (sa+na) (sa+na+k1)).toList,∀y∈((arrOf st).extract (sa+k) (sa+na)).toList.drop (((arrOf st).extract (sa+k) (sa+na)).size-1),κ x<=κ y:=λ x hx y hy=>by
  rw[ey]at hx;have sz:((arrOf st).extract (sa+k) (sa+na)).size=na-k:=by rw[Array.size_extract];lia
  rw[sz,ex,List.drop_take,List.drop_drop,show sa+k+(na-k-1)=sa+k+(na-k)-1 by lia,dx1,show na-k-(na-k-1)=1 by lia]at hy;have:y=x1:=by simpa using hy
  rw[this];exact v1 x hx
 have fin:∀(r:Array Keyed)(st2:SortSt),AX κ ((arrOf st).extract (sa+k) (sa+na)) ((arrOf st).extract (sa+na) (sa+na+k1)) r->C8 (SortSt.mk' (kindOf st) (arrOf st) (((pendingOf st).setIfInBounds i (sa,na+nb,pw)).eraseIdxIfInBounds (i+1)) (gallopOf st) (failedOf st)) st2 ->
   ∀arr':Array Keyed,arr'=(r.toList.zipIdx 0).foldl (λ a p=>a.setIfInBounds (sa+k+p.2) p.1) (arrOf st2)->Q true (SortSt.mk' (kindOf st2) arr' (pendingOf st2) (gallopOf st2) (failedOf st2)):=λ r st2 mr lk arr' earr=>by
  have rl:r.toList.length=na-k+k1:=by
   rw[mr.2.length_eq,List.length_append,ex,ey,List.length_take,List.length_take,List.length_drop,List.length_drop,Array.length_toList];lia
  rw[lk.kd,lk.pe];have la:arrOf st2=arrOf st:=lk.ar;have w:=M3 r.toList 0 (sa+k) (arrOf st) (by lia);refine same _ _ (lk.fa.trans hfa) arr' (((arrOf st).toList.drop sa).take k++r.toList++((arrOf st).toList.drop (sa+na+k1)).take (nb-k1)) ?_ ?_ ?_
  .rw[earr,la,w,rl,Nat.add_zero,show sa+k+(na-k+k1)=sa+na+k1 by lia];have e1:(arrOf st).toList.take (sa+k)=(arrOf st).toList.take sa++((arrOf st).toList.drop sa).take k:=List.take_add;have e2:=B5 (arrOf st).toList (sa+na+k1) (nb-k1);rw[show sa+na+k1+(nb-k1)=sa+na+nb by lia]at e2;rw[e1]
   conv=>lhs;rw[e2]
   simp only[List.append_assoc]
  .refine RE rA rB mr.1 (by rw[<-ex,<-ey];exact mr.2) (λ x hx y hy=>Int.le_trans (u1 x hx) (x0B y (by rw[eB];exact hy))) λ x hx y hy=>Int.le_trans (x1A x (by rw[eA];exact hx)) (v2 y hy)
  .have pm:=mr.2;rw[ex,ey]at pm;rw[eA,eB];refine(List.Perm.append_right _ (List.Perm.append_left _ pm)).trans ?_;simp only[List.append_assoc];exact List.Perm.refl _
 have sx:0<((arrOf st).extract (sa+k) (sa+na)).size:=by rw[Array.size_extract];lia
 have sy:0<((arrOf st).extract (sa+na) (sa+na+k1)).size:=by rw[Array.size_extract];lia
 by_cases q3:na-k<=k1
 .rw[if_pos q3];refine wpS_bind (JS L rfl sx sy (λ x hx=>hS x (subx x hx)) (λ x hx=>hS x (suby x hx)) rx ry hfx hlx λ r st2 mr lk=>?_);refine wpS_bind (wpS_modify (wpS_bind (wpS_get ?_)));have fl:failedOf st2=none:=lk.fa.trans hfa;have:=fin r st2 mr lk _ rfl;refine wpS_pure ?_;have e:(failedOf st2).isNone=true:=by rw[fl];rfl
  show Q (failedOf st2).isNone _;rw[e];exact this
 .rw[if_neg q3];refine wpS_bind (JT L rfl sx sy (λ x hx=>hS x (subx x hx)) (λ x hx=>hS x (suby x hx)) rx ry hfx hlx λ r st2 mr lk=>?_);refine wpS_bind (wpS_modify (wpS_bind (wpS_get ?_)));have fl:failedOf st2=none:=lk.fa.trans hfa;have:=fin r st2 mr lk _ rfl;refine wpS_pure ?_;have e:(failedOf st2).isNone=true:=by rw[fl];rfl
  show Q (failedOf st2).isNone _;rw[e];exact this
def KU:Nat->Nat->Nat->StateT SortSt Sem Bool:=sortPriv% PySem.Builtin.binarySort
theorem Nv{kd:SortKind}{κ:Keyed->Int}{S:Keyed->Prop}(L:LtG M A E s kd κ S){st:SortSt}{i j:Nat}{x y:Keyed}{Q:Option Bool->SortSt->Prop}(hk:kindOf st=kd)(hx:(arrOf st)[i]?=some x)(hy:(arrOf st)[j]?=some y)(sx:S x)(sy:S y)(h:Q (some (decide (κ x<κ y))) st):wpS M A E s (ltAt' i j) Q st:=by
 rw[ltAt'_eq];refine wpS_bind (wpS_get ?_);exact wpS_bind (Aj hx (wpS_bind (Aj hy (L x y sx sy st Q hk h))))
end
section
variable{M:Model}{A:Around}{E:VPz}{s:Shared}{κ:Keyed->Int}{S:Keyed->Prop}{kd:SortKind}
def KG(κ:Keyed->Int)(xs:Array Keyed)(i:Nat):Int:=κ (xs.getD i default)
theorem EL{xs ys:Array Keyed}{i j:Nat}(h:xs[i]?=ys[j]?):KG κ xs i=KG κ ys j:=by
 unfold KG;rw[Array.getD_eq_getD_getElem?,Array.getD_eq_getD_getElem?,h]
structure Amid(st0:SortSt)(lo n:Nat)(st:SortSt):Prop where
 kd:kindOf st=kindOf st0
 fa:failedOf st=failedOf st0
 pe:pendingOf st=pendingOf st0
 pm:(arrOf st).Perm (arrOf st0)
 out:∀i,i<lo\/lo+n<=i->(arrOf st)[i]?=(arrOf st0)[i]?
theorem Amid.refl(st:SortSt)(lo n:Nat):Amid st lo n st:=⟨rfl,rfl,rfl,Array.Perm.refl _,λ_ _=>rfl⟩
theorem Amid.sz{st0 st:SortSt}{lo n:Nat}(h:Amid st0 lo n st):(arrOf st).size=(arrOf st0).size:=h.pm.size_eq
theorem Amid.mem{st0 st:SortSt}{lo n:Nat}(h:Amid st0 lo n st){x:Keyed}(m:x∈(arrOf st).toList):x∈(arrOf st0).toList:=(Array.perm_iff_toList_perm.mp h.pm).mem_iff.mp m
theorem Amid.set{st0 st:SortSt}{lo n:Nat}(h:Amid st0 lo n st){xs:Array Keyed}(hp:xs.Perm (arrOf st))(ho:∀i,i<lo\/lo+n<=i->xs[i]?=(arrOf st)[i]?):Amid st0 lo n (setArr st xs) :=
 ⟨h.kd,h.fa,h.pe,hp.trans h.pm,λ i hi=>(ho i hi).trans (h.out i hi)⟩
def UpG(κ:Keyed->Int)(xs:Array Keyed)(lo k:Nat):Prop:=∀i j,i<=j->j<k->KG κ xs (lo+i)<=KG κ xs (lo+j)
def DownG(κ:Keyed->Int)(xs:Array Keyed)(lo k:Nat):Prop:=∀i j,i<=j->j<k->KG κ xs (lo+j)<=KG κ xs (lo+i)
theorem Es(L:LtG M A E s kd κ S){st0 st:SortSt}{lo n i j:Nat}{Q:Option Bool->SortSt->Prop}(hk:kindOf st0=kd)(hS:∀x∈(arrOf st0).toList,S x)(B:Amid st0 lo n st)(hi:i<(arrOf st0).size)(hj:j<(arrOf st0).size)
  (h:Q (some (decide (KG κ (arrOf st) i<KG κ (arrOf st) j))) st):wpS M A E s (ltAt' i j) Q st:=by
 obtain⟨x,ex,mx,_⟩:=C5 (show i<(arrOf st).size by rw[B.sz];exact hi);obtain⟨y,ey,my,_⟩:=C5 (show j<(arrOf st).size by rw[B.sz];exact hj);refine Nv L (B.kd.trans hk) ex ey (hS x (B.mem mx)) (hS y (B.mem my)) ?_;unfold KG at h;rwa [FL ex,FL ey]at h
theorem Ix{xs:Array Keyed}{src d:Nat}(hs:src<xs.size)(hd:d<=src)(k:Nat) :
  KG κ (bubble xs src d) k=if k=src-d then KG κ xs src else if src-d<k/\k<=src then KG κ xs (k-1) else KG κ xs k:=by
 have e:=getElem?_bubble hs d hd k;split
 .next h1=>rw[if_pos h1]at e;exact EL e
 .next h1 =>
  rw[if_neg h1]at e;split
  .next h2=>rw[if_pos h2]at e;exact EL e
  .next h2=>rw[if_neg h2]at e;exact EL e
theorem Fl{xs:Array Keyed}{i j:Nat}(hj:j<=xs.size)(k:Nat):KG κ (mirror xs i j ((j-i) / 2)) k=if i<=k/\k<j then KG κ xs (i+j-1-k) else KG κ xs k:=by
 have e:=getElem?_mirror_all (i:=i) hj k;split
 .next h1=>rw[if_pos h1]at e;exact EL e
 .next h1=>rw[if_neg h1]at e;exact EL e
theorem EM{xs:Array Keyed}{i j:Nat}(hj:j<=xs.size)(heq:∀k,i<=k->k<j->KG κ xs k=KG κ xs (j-1))(k:Nat):KG κ (mirror xs i j ((j-i) / 2)) k=KG κ xs k:=by
 rw[Fl hj];split
 .rw[heq _ (by lia) (by lia),heq k (by lia) (by lia)]
 .rfl
theorem Amid.mir{st0 st:SortSt}{lo n:Nat}(h:Amid st0 lo n st){i j:Nat}(hi:lo<=i)(hj:j<=lo+n)(hn:lo+n<=(arrOf st0).size):Amid st0 lo n (setArr st (mirror (arrOf st) i j ((j-i) / 2))) :=
 h.set (mirror_perm _ _ _ _) λ k hk=>by rw[getElem?_mirror_all (by rw[h.sz];lia),if_neg (by lia)]
theorem Amid.bub{st0 st:SortSt}{lo n:Nat}(h:Amid st0 lo n st){k l:Nat}(hk:k<n)(hl:l<=k)(hn:lo+n<=(arrOf st0).size):Amid st0 lo n (setArr st (bubble (arrOf st) (lo+k) (k-l))) :=
 h.set (bubble_perm _ _ _) λ i hi=>by
  rw[getElem?_bubble (by rw[h.sz];lia) _ (by lia)];rw[if_neg (by lia),if_neg (by lia)]
theorem DF{st:SortSt}{i j:Nat}{Q:Unit->SortSt->Prop}(h:Q () (setArr st (mirror (arrOf st) i j ((j-i) / 2)))):wpS M A E s (reverseSlice' i j) Q st:=by
 rw[reverseSlice'_eq];exact wpS_modify h
theorem Oo{st:SortSt}{i j:Nat}{Q:Unit->SortSt->Prop}(h:Q () (setArr st (bubble (arrOf st) i (i-j)))):wpS M A E s (moveDown' i j) Q st:=by
 rw[moveDown'_eq];exact wpS_modify h
theorem F1(L:LtG M A E s kd κ S){st0 st:SortSt}{lo n ok:Nat}{Q:Bool->SortSt->Prop}(hk:kindOf st0=kd)(hS:∀x∈(arrOf st0).toList,S x)(hn:lo+n<=(arrOf st0).size)(hok:ok<=n)(B:Amid st0 lo n st)(up:UpG κ (arrOf st) lo ok)
  (h:∀u,Amid st0 lo n u->UpG κ (arrOf u) lo n->Q true u):wpS M A E s (KU lo n ok) Q st:=by
 refine wpS_bind (wpS_mono (wpS_forRange (I:=λ k (c:Option Bool×Unit) u=>c=(none,())/\Amid st0 lo n u/\UpG κ (arrOf u) lo (min k n))
  (Q:=λ(c:Option Bool×Unit) u=>c=(none,())/\Amid st0 lo n u/\UpG κ (arrOf u) lo n) ?step ?fin ?init) ?post)
 case post =>
  rintro c u ⟨rfl,B1,up1⟩;exact wpS_pure (h u B1 up1)
 case init =>
  refine⟨rfl,B,λ i j hij hj=>?_⟩;rcases Nat.eq_zero_or_pos ok with h1|h1
  .have:i=j:=by lia
   subst this;exact Int.le_refl _
  .exact up i j hij (by lia)
 case fin =>
  rintro c u ⟨hc,B1,up1⟩;refine⟨hc,B1,?_⟩;rwa [show min (max (max ok 1) n) n=n by lia]at up1
 case step =>
  rintro k c u hak hkn ⟨rfl,B1,up1⟩;rw[show min k n=k by lia]at up1;refine wpS_bind (wpS_mono (wpS_forRange (I:=λ x (c:Option Bool×Nat×Nat) v=>v=u/\∃l r,c=(none,l,r)/\l<=r/\r<=k/\r-l<=k-x /\
    (∀i,i<l->KG κ (arrOf u) (lo+i)<=KG κ (arrOf u) (lo+k))/\(∀i,r<=i->i<k->KG κ (arrOf u) (lo+k)<KG κ (arrOf u) (lo+i)))
   (Q:=λ(c:Option Bool×Nat×Nat) v=>v=u/\∃l r,c=(none,l,r)/\l<=k /\
    (∀i,i<l->KG κ (arrOf u) (lo+i)<=KG κ (arrOf u) (lo+k))/\(∀i,l<=i->i<k->KG κ (arrOf u) (lo+k)<KG κ (arrOf u) (lo+i))) ?istep ?ifin ?iinit) ?ipost)
  case iinit=>exact⟨rfl,0,k,rfl,Nat.zero_le _,Nat.le_refl _,Nat.le_refl _,λ i hi=>absurd hi (Nat.not_lt_zero i),λ i g1 g2=>by lia⟩
  case ifin =>
   rintro c v ⟨rfl,l,r,rfl,hlr,hrk,hm,g1,g2⟩;have:l=r:=by lia
   subst this;exact⟨rfl,l,l,rfl,hrk,g1,g2⟩
  case istep =>
   rintro x c v _ hxk ⟨rfl,l,r,rfl,hlr,hrk,hm,g1,g2⟩;dsimp only;rcases Nat.lt_or_ge l r with hge|hge
   .rw[if_neg (by lia)];refine wpS_bind (Es L hk hS B1 (by lia) (by lia) ?_);by_cases hless:KG κ (arrOf v) (lo+k)<KG κ (arrOf v) (lo+(l+r) / 2)
    .simp only[hless,decide_true,if_true];refine wpS_pure ⟨rfl,l,(l+r) / 2,rfl,by lia,by lia,by lia,g1,λ i i1 i2=>?_⟩;exact Int.lt_of_lt_of_le hless (up1 _ _ i1 i2)
    .simp only[hless,decide_false,Bool.false_eq_true,if_false];refine wpS_pure ⟨rfl,(l+r) / 2+1,r,rfl,by lia,by lia,by lia,λ i i1=>?_,g2⟩;exact Int.le_trans (up1 i ((l+r) / 2) (by lia) (by lia)) (Int.not_lt.mp hless)
   .rw[if_pos hge];have:l=r:=by lia
    subst this;exact wpS_pure ⟨rfl,l,l,rfl,hrk,g1,g2⟩
  case ipost =>
   rintro c v ⟨rfl,l,r,rfl,hlk,g1,g2⟩;have hks:lo+k<(arrOf v).size:=by rw[B1.sz];lia
   refine wpS_bind (Oo (wpS_pure ⟨rfl,?_,?_⟩))
   .rw[show lo+k-(lo+l)=k-l by lia];exact B1.bub hkn hlk hn
   rw[show min (k+1) n=k+1 by lia];intro i j hij hj;show KG κ (bubble (arrOf v) (lo+k) (lo+k-(lo+l))) (lo+i)<=KG κ (bubble (arrOf v) (lo+k) (lo+k-(lo+l))) (lo+j);rw[show lo+k-(lo+l)=k-l by lia];rw[Ix hks (by lia),Ix hks (by lia),show lo+k-(k-l)=lo+l by lia];have at1:∀i,i≠0->lo+i-1=lo+(i-1):=λ i hi=>by lia
   repeat' split
   all_goals first
    | (exfalso;lia)
    |exact Int.le_refl _
    | (rw[at1 _ (by lia)];exact Int.le_of_lt (g2 _ (by lia) (by lia)))
    | (rw[at1 i (by lia),at1 j (by lia)];exact up1 _ _ (by lia) (by lia))
    | (rw[at1 j (by lia)];exact up1 _ _ (by lia) (by lia))
    |exact g1 _ (by lia)
    |exact up1 _ _ (by lia) (by lia)
def Ob:Nat->Nat->StateT SortSt Sem (Option Nat):=sortPriv% PySem.Builtin.countRun
def RA(M:Model)(A:Around)(E:VPz)(s:Shared)(lo:Nat)(f:Nat->Option (Option Nat)×Nat->StateT SortSt Sem (ForInStep (Option (Option Nat)×Nat))):Prop :=
 ∀x n u (R:ForInStep (Option (Option Nat)×Nat)->SortSt->Prop),wpS M A E s (ltAt' (lo+n) (lo+n-1)) (λ r v=>∃b,r=some b/\(b=true->R (.done (none,n)) v)/\(b=false->R (.yield (none,n+1)) v)) u->wpS M A E s (f x (none,n)) R u
theorem UpG.more{xs:Array Keyed}{lo x:Nat}(up:UpG κ xs lo x)(hx:1<=x)(g:¬KG κ xs (lo+x)<KG κ xs (lo+x-1)):UpG κ xs lo (x+1):=λ i j hij hj=>by
 rcases Nat.lt_or_ge j x with hjx|hjx
 .exact up i j hij hjx
 .have e:j=x:=by lia
  subst e;rcases Nat.lt_or_ge i j with hi|hi
  .have:=up i (j-1) (by lia) (by lia);rw[show lo+(j-1)=lo+j-1 by lia]at this;lia
  .rw[show i=j by lia];exact Int.le_refl _
theorem DownG.more{xs:Array Keyed}{lo x:Nat}(up:DownG κ xs lo x)(hx:1<=x)(g:KG κ xs (lo+x)<=KG κ xs (lo+x-1)):DownG κ xs lo (x+1):=λ i j hij hj=>by
 rcases Nat.lt_or_ge j x with hjx|hjx
 .exact up i j hij hjx
 .have e:j=x:=by lia
  subst e;rcases Nat.lt_or_ge i j with hi|hi
  .have:=up i (j-1) (by lia) (by lia);rw[show lo+(j-1)=lo+j-1 by lia]at this;lia
  .rw[show i=j by lia];exact Int.le_refl _
theorem Sy(L:LtG M A E s kd κ S){st0 st:SortSt}{lo a nrem:Nat}{f:Nat->Option (Option Nat)×Nat->StateT SortSt Sem (ForInStep (Option (Option Nat)×Nat))}{Q:Option (Option Nat)×Nat->SortSt->Prop}(hk:kindOf st0=kd)(hS:∀x∈(arrOf st0).toList,S x)(hn:lo+nrem<=(arrOf st0).size)(B:Amid st0 lo nrem st)
  (hf:RA M A E s lo f) (ha:1<=a) (han:a<=nrem) (up:UpG κ (arrOf st) lo a)
  (h:∀n,a<=n->n<=nrem->UpG κ (arrOf st) lo n->(n=nrem\/KG κ (arrOf st) (lo+n)<KG κ (arrOf st) (lo+n-1))->Q (none,n) st):wpS M A E s (forIn [a:nrem] (none,a) f) Q st:=by
 refine wpS_forRange (I:=λ x c u=>u=st/\c=(none,x)/\UpG κ (arrOf st) lo x) ?_ ?_ ⟨rfl,rfl,up⟩
 .rintro x c u hax hxn ⟨rfl,rfl,up1⟩;refine hf _ _ _ _ (Es L hk hS B (by lia) (by lia) ⟨_,rfl,λ e=>?_,λ e=>?_⟩)
  .exact h x hax (by lia) up1 (.inr (of_decide_eq_true e))
  .exact⟨rfl,rfl,up1.more (by lia) (of_decide_eq_false e)⟩
 .rintro c u ⟨rfl,rfl,up1⟩;rw[show max a nrem=nrem by lia]at up1 |-;exact h nrem han (Nat.le_refl _) up1 (.inl rfl)
theorem M7(L:LtG M A E s kd κ S){st0 st:SortSt}{lo m nrem:Nat}{f:Nat->Option (Option Nat)×Nat->StateT SortSt Sem (ForInStep (Option (Option Nat)×Nat))}{g:Option (Option Nat)×Nat->StateT SortSt Sem (Option Nat)}{Q:Option Nat->SortSt->Prop}(hk:kindOf st0=kd)(hS:∀x∈(arrOf st0).toList,S x)(hn:lo+nrem<=(arrOf st0).size)(B:Amid st0 lo nrem st)
  (hf:RA M A E s lo f) (hg:∀n,g (none,n)=pure (some n)) (ha:1<=m) (han:m<=nrem) (dn:DownG κ (arrOf st) lo m)
  (h:∀n u,Amid st0 lo nrem u->1<=n->n<=nrem->UpG κ (arrOf u) lo n->Q (some n) u):wpS M A E s (reverseSlice' lo (lo+m) >>= λ_=>(forIn [m:nrem] (none,m) f >>= g)) Q st:=by
 refine wpS_bind (DF ?_);have B1:=B.mir (i:=lo) (j:=lo+m) (Nat.le_refl _) (by lia) hn;have sz:lo+m<=(arrOf st).size:=by rw[B.sz];lia
 refine wpS_bind (Sy L hk hS hn B1 hf ha han (λ i j hij hj=>?_) λ n h1 h2 h3 _=>?_)
 .show KG κ (mirror (arrOf st) lo (lo+m) _) (lo+i)<=KG κ (mirror (arrOf st) lo (lo+m) _) (lo+j);rw[Fl sz,Fl sz,if_pos (by lia),if_pos (by lia)];rw[show lo+(lo+m)-1-(lo+i)=lo+(m-1-i) by lia,show lo+(lo+m)-1-(lo+j)=lo+(m-1-j) by lia];exact dn _ _ (by lia) (by lia)
 .rw[hg];exact wpS_pure (h n _ B1 (by lia) h2 h3)
def Tp(M:Model)(A:Around)(E:VPz)(s:Shared)(lo:Nat)(f:Nat->Option (Option Nat)×Nat×Nat->StateT SortSt Sem (ForInStep (Option (Option Nat)×Nat×Nat))):Prop :=
 ∀x n q u (R:ForInStep (Option (Option Nat)×Nat×Nat)->SortSt->Prop),wpS M A E s (ltAt' (lo+n) (lo+n-1)) (λ r v=>∃b,r=some b/\(b=true->q>0->R (.yield (none,n+1,0)) (setArr v (mirror (arrOf v) (lo+n-(q+1)) (lo+n) ((lo+n-(lo+n-(q+1))) / 2))))/\(b=true->q=0->R (.yield (none,n+1,0)) v) /\
  (b=false->wpS M A E s (ltAt' (lo+n-1) (lo+n)) (λ r w=>∃b,r=some b/\(b=true->R (.done (none,n,q)) w)/\(b=false->R (.yield (none,n+1,q+1)) w)) v)) u->wpS M A E s (f x (none,n,q)) R u
theorem QC(L:LtG M A E s kd κ S){st0 st:SortSt}{lo n nrem:Nat}{f:Nat->Option (Option Nat)×Nat×Nat->StateT SortSt Sem (ForInStep (Option (Option Nat)×Nat×Nat))}{Q:Option (Option Nat)×Nat×Nat->SortSt->Prop}(hk:kindOf st0=kd)(hS:∀x∈(arrOf st0).toList,S x)(hn:lo+nrem<=(arrOf st0).size)(B:Amid st0 lo nrem st)
  (hf:Tp M A E s lo f) (ha:1<=n) (han:n<=nrem) (dn:DownG κ (arrOf st) lo n)
  (h:∀m q u,Amid st0 lo nrem u->n<=m->m<=nrem->DownG κ (arrOf u) lo m->q+1<=m->(∀i,lo+m-(q+1)<=i->i<lo+m->KG κ (arrOf u) i=KG κ (arrOf u) (lo+m-1))->Q (none,m,q) u):wpS M A E s (forIn [n:nrem] (none,n,0) f) Q st:=by
 refine wpS_forRange (I:=λ x c u=>∃q,c=(none,x,q)/\Amid st0 lo nrem u/\DownG κ (arrOf u) lo x/\q+1<=x/\(∀i,lo+x-(q+1)<=i->i<lo+x->KG κ (arrOf u) i=KG κ (arrOf u) (lo+x-1))) ?_ ?_ ⟨0,rfl,B,dn,ha,λ i h1 h2=>by rw[show i=lo+n-1 by lia]⟩
 .rintro x c u hax hxn ⟨q,rfl,B1,dn1,hq,he⟩;have sz:lo+x<=(arrOf u).size:=by rw[B1.sz];lia
  refine hf _ _ _ _ _ (Es L hk hS B1 (by lia) (by lia) ⟨_,rfl,λ e q0=>?_,λ e q0=>?_,λ e=>?_⟩)
  .have e:=of_decide_eq_true e;have lv:=EM sz he;refine⟨0,rfl,B1.mir (by lia) (by lia) hn,?_,by lia,λ i h1 h2=>by rw[show i=lo+(x+1)-1 by lia]⟩;have d2:DownG κ (mirror (arrOf u) (lo+x-(q+1)) (lo+x) ((lo+x-(lo+x-(q+1))) / 2)) lo x:=λ i j hij hj=>by
    rw[lv,lv];exact dn1 i j hij hj
   exact d2.more (by lia) (by rw[lv,lv];exact Int.le_of_lt e)
  .have e:=of_decide_eq_true e;exact⟨0,rfl,B1,dn1.more (by lia) (Int.le_of_lt e),by lia,λ i h1 h2=>by rw[show i=lo+(x+1)-1 by lia]⟩
  .have e:=of_decide_eq_false e;refine Es L hk hS B1 (by lia) (by lia) ⟨_,rfl,λ e2=>?_,λ e2=>?_⟩
   .exact h x q u B1 hax (by lia) dn1 hq he
   .have e2:=of_decide_eq_false e2;refine⟨q+1,rfl,B1,dn1.more (by lia) (by lia),by lia,λ i h1 h2=>?_⟩;rcases Nat.lt_or_ge i (lo+x) with hi|hi
    .rw[he i (by lia) hi,show lo+(x+1)-1=lo+x by lia];lia
    .rw[show i=lo+(x+1)-1 by lia]
 .rintro c u ⟨q,rfl,B1,dn1,hq,he⟩;rw[show max n nrem=nrem by lia]at dn1 hq he |-;exact h nrem q u B1 han (Nat.le_refl _) dn1 hq he
theorem Hi(L:LtG M A E s kd κ S){st:SortSt}{lo nrem:Nat}{Q:Option Nat->SortSt->Prop}(hk:kindOf st=kd)(hS:∀x∈(arrOf st).toList,S x)(hn:lo+nrem<=(arrOf st).size)(h1:1<=nrem)
  (h:∀m u,Amid st lo nrem u->1<=m->m<=nrem->UpG κ (arrOf u) lo m->Q (some m) u):wpS M A E s (Ob lo nrem) Q st:=by
 have B:=Amid.refl st lo nrem;have sure:∀(f:Nat->Option (Option Nat)×Nat->StateT SortSt Sem (ForInStep (Option (Option Nat)×Nat))),(∀x n u (R:ForInStep (Option (Option Nat)×Nat)->SortSt->Prop),wpS M A E s (ltAt' (lo+n) (lo+n-1)) (λ r v=>∃b,r=some b/\(b=true->R (.done (none,n)) v)/\(b=false->R (.yield (none,n+1)) v)) u->wpS M A E s (f x (none,n)) R u)->RA M A E s lo f:=λ f h=>h;refine wpS_bind (Sy L hk hS hn B (λ x n u R g=>wpS_bind (wpS_mono g ?_)) (Nat.le_refl 1) h1 (λ i j hij hj=>by rw[show i=j by lia];exact Int.le_refl _) λ n hn1 hn2 up hor=>?_)
 .rintro r v ⟨b,rfl,g1,g2⟩;cases b with
  |true=>exact wpS_pure (g1 rfl)
  |false=>exact wpS_pure (g2 rfl)
 dsimp only;by_cases hnn:n=nrem
 .rw[if_pos (beq_iff_eq.mpr hnn)];exact wpS_pure (h n st B hn1 hn2 up)
 rw[if_neg (λ z=>hnn (beq_iff_eq.mp z))];have hlt:=hor.resolve_left hnn;have sz:lo+n<=(arrOf st).size:=by lia
 rcases Nat.lt_or_ge 1 n with hgt|hgt
 .rw[if_pos hgt];refine wpS_bind (Es L hk hS B (by lia) (by lia) ?_);by_cases rose:KG κ (arrOf st) lo<KG κ (arrOf st) (lo+n-1)
  .rw[decide_eq_true rose];exact wpS_pure (h n st B hn1 hn2 up)
  rw[decide_eq_false rose];have all:∀k,lo<=k->k<lo+n->KG κ (arrOf st) k=KG κ (arrOf st) (lo+n-1):=λ k k1 k2=>by
   have a1:=up 0 (k-lo) (by lia) (by lia);have a2:=up (k-lo) (n-1) (by lia) (by lia);rw[Nat.add_zero]at a1;rw[show lo+(k-lo)=k by lia]at a1 a2;rw[show lo+(n-1)=lo+n-1 by lia]at a2;lia
  refine wpS_bind (DF ?_);have lv:=EM sz all;have B1:=B.mir (i:=lo) (j:=lo+n) (Nat.le_refl _) (by lia) hn;have dn:DownG κ (mirror (arrOf st) lo (lo+n) ((lo+n-lo) / 2)) lo (n+1):=by
   refine DownG.more (λ i j hij hj=>?_) hn1 (by rw[lv,lv];exact Int.le_of_lt hlt);rw[lv,lv,all _ (by lia) (by lia),all (lo+i) (by lia) (by lia)];exact Int.le_refl _
  replace dn:DownG κ (arrOf (setArr st (mirror (arrOf st) lo (lo+n) ((lo+n-lo) / 2)))) lo (n+1):=dn
  generalize setArr st (mirror (arrOf st) lo (lo+n) ((lo+n-lo) / 2))=w at B1 dn |-;clear rose all lv;refine wpS_bind (wpS_lift (wpAny_rule ⟨rfl,?_⟩));refine wpS_bind (QC L hk hS hn B1 (λ x n q u R g=>wpS_bind (wpS_mono g ?_)) (by lia) (by lia) dn λ m q u B2 m1 m2 dn2 q1 he=>?_)
  .rintro r v ⟨b,rfl,g1,g2,g3⟩;cases b with
   |true =>
    rcases Nat.eq_zero_or_pos q with q0|q0
    .subst q0;exact wpS_pure (g2 rfl rfl)
    .dsimp only;rw[if_pos rfl,if_pos q0];exact wpS_bind (DF (wpS_pure (g1 rfl q0)))
   |false =>
    refine wpS_bind (wpS_mono (g3 rfl) ?_);rintro r v ⟨b,rfl,g1,g2⟩;cases b with
    |true=>exact wpS_pure (g1 rfl)
    |false=>exact wpS_pure (g2 rfl)
  dsimp only;have sz2:lo+m<=(arrOf u).size:=by rw[B2.sz];lia
  rcases Nat.eq_zero_or_pos q with q0|q0
  .rw[if_neg (by lia)];refine M7 L hk hS hn B2 (λ x n u R g=>wpS_bind (wpS_mono g ?_)) (λ n=>rfl) (by lia) m2 dn2 h;rintro r v ⟨b,rfl,g1,g2⟩;cases b with
   |true=>exact wpS_pure (g1 rfl)
   |false=>exact wpS_pure (g2 rfl)
  .rw[if_pos q0];refine wpS_bind (DF ?_);have lv:=EM sz2 he;refine M7 L hk hS hn (B2.mir (by lia) (by lia) hn) (λ x n u R g=>wpS_bind (wpS_mono g ?_)) (λ n=>rfl) (by lia) m2 (λ i j hij hj=>?_) h
   .rintro r v ⟨b,rfl,g1,g2⟩;cases b with
    |true=>exact wpS_pure (g1 rfl)
    |false=>exact wpS_pure (g2 rfl)
   .show KG κ (mirror _ _ _ _) _<=KG κ (mirror _ _ _ _) _;rw[lv,lv];exact dn2 i j hij hj
 .rw[if_neg (by lia)];have e1:n=1:=by lia
  have dn:DownG κ (arrOf st) lo (n+1):=DownG.more (λ i j hij hj=>by rw[show i=j by lia];exact Int.le_refl _) hn1 (Int.le_of_lt hlt);refine wpS_bind (wpS_lift (wpAny_rule ⟨rfl,?_⟩));refine wpS_bind (QC L hk hS hn B (λ x n q u R g=>wpS_bind (wpS_mono g ?_)) (by lia) (by lia) dn λ m q u B2 m1 m2 dn2 q1 he=>?_)
  .rintro r v ⟨b,rfl,g1,g2,g3⟩;cases b with
   |true =>
    rcases Nat.eq_zero_or_pos q with q0|q0
    .subst q0;exact wpS_pure (g2 rfl rfl)
    .dsimp only;rw[if_pos rfl,if_pos q0];exact wpS_bind (DF (wpS_pure (g1 rfl q0)))
   |false =>
    refine wpS_bind (wpS_mono (g3 rfl) ?_);rintro r v ⟨b,rfl,g1,g2⟩;cases b with
    |true=>exact wpS_pure (g1 rfl)
    |false=>exact wpS_pure (g2 rfl)
  dsimp only;have sz2:lo+m<=(arrOf u).size:=by rw[B2.sz];lia
  rcases Nat.eq_zero_or_pos q with q0|q0
  .rw[if_neg (by lia)];refine M7 L hk hS hn B2 (λ x n u R g=>wpS_bind (wpS_mono g ?_)) (λ n=>rfl) (by lia) m2 dn2 h;rintro r v ⟨b,rfl,g1,g2⟩;cases b with
   |true=>exact wpS_pure (g1 rfl)
   |false=>exact wpS_pure (g2 rfl)
  .rw[if_pos q0];refine wpS_bind (DF ?_);have lv:=EM sz2 he;refine M7 L hk hS hn (B2.mir (by lia) (by lia) hn) (λ x n u R g=>wpS_bind (wpS_mono g ?_)) (λ n=>rfl) (by lia) m2 (λ i j hij hj=>?_) h
   .rintro r v ⟨b,rfl,g1,g2⟩;cases b with
    |true=>exact wpS_pure (g1 rfl)
    |false=>exact wpS_pure (g2 rfl)
   .show KG κ (mirror _ _ _ _) _<=KG κ (mirror _ _ _ _) _;rw[lv,lv];exact dn2 i j hij hj
def Tiles(κ:Keyed->Int)(xs:List Keyed):Nat->List (Nat×Nat×Nat)->Nat->Prop
 |a,[],b=>a=b
 |a,p::ps,b=>p.1=a/\0<p.2.1/\Rise κ ((xs.drop a).take p.2.1)/\Tiles κ xs (a+p.2.1) ps b
theorem Tiles.len{xs:List Keyed}:∀{ps:List (Nat×Nat×Nat)}{a b:Nat},Tiles κ xs a ps b->a+ps.length<=b
 |[],a,b,h=>Nat.le_of_eq h
 |p::ps,a,b,h=>by
  have:=Tiles.len h.2.2.2;have:=h.2.1;rw[List.length_cons];lia
theorem Tiles.app{xs:List Keyed}:∀{ps qs:List (Nat×Nat×Nat)}{a b:Nat},Tiles κ xs a (ps++qs) b↔∃c,Tiles κ xs a ps c/\Tiles κ xs c qs b
 |[],qs,a,b=>⟨λ h=>⟨a,rfl,h⟩,λ⟨c,h1,h2⟩=>by cases h1;exact h2⟩
 |p::ps,qs,a,b=>by
  constructor
  .rintro⟨h1,h2,h3,h4⟩;obtain⟨c,g1,g2⟩:=Tiles.app.mp h4;exact⟨c,⟨h1,h2,h3,g1⟩,g2⟩
  .rintro⟨c,⟨h1,h2,h3,g1⟩,g2⟩;exact⟨h1,h2,h3,Tiles.app.mpr ⟨c,g1,g2⟩⟩
theorem Gi{α:Type}{xs ys:List α}{a n:Nat}(h:∀i,a<=i->i<a+n->ys[i]?=xs[i]?):(ys.drop a).take n=(xs.drop a).take n:=by
 apply List.ext_getElem?;intro i;rw[List.getElem?_take,List.getElem?_take];split
 .rw[List.getElem?_drop,List.getElem?_drop];exact h _ (by lia) (by lia)
 .rfl
theorem Tiles.same{xs ys:List Keyed}:∀{ps:List (Nat×Nat×Nat)}{a b:Nat},Tiles κ xs a ps b->(∀i,a<=i->i<b->ys[i]?=xs[i]?)->Tiles κ ys a ps b
 |[],a,b,h,_=>h
 |p::ps,a,b,h,g=>by
  have l:=Tiles.len h.2.2.2;refine⟨h.1,h.2.1,?_,Tiles.same h.2.2.2 λ i i1 i2=>g i (by lia) i2⟩;rw[Gi λ i i1 i2=>g i i1 (by lia)];exact h.2.2.1
theorem Tiles.words{xs:List Keyed}:∀{ps qs:List (Nat×Nat×Nat)}{a b:Nat},Tiles κ xs a ps b->qs.map (λ p=>(p.1,p.2.1))=ps.map (λ p=>(p.1,p.2.1))->Tiles κ xs a qs b
 |[],[],a,b,h,_=>h
 |[],_::_,a,b,h,e=>by simp at e
 |_::_,[],a,b,h,e=>by simp at e
 |p::ps,q::qs,a,b,h,e=>by
  obtain⟨e1,e2⟩:=List.cons.inj e;obtain⟨e3,e4⟩:=Prod.mk.inj e1;have t:=Tiles.words h.2.2.2 e2;rw[<-e4]at t;exact⟨e3.trans h.1,by rw[e4];exact h.2.1,by rw[e4];exact h.2.2.1,t⟩
theorem QL{α:Type}{p:Array α}{i:Nat}(h:i+1<p.size):∃P a b R,p.toList=P++a::b::R/\P.length=i/\p[i]?=some a/\p[i+1]?=some b:=by
 obtain⟨a,e1,_,d1⟩:=C5 (show i<p.size by lia);obtain⟨b,e2,_,d2⟩:=C5 h;refine⟨p.toList.take i,a,b,p.toList.drop (i+1+1),?_,by rw[List.length_take,Array.length_toList];lia,e1,e2⟩;rw[<-d2,<-d1,List.take_append_drop]
theorem P1{α:Type}{p:Array α}{P R:List α}{a b v:α}(h:p.toList=P++a::b::R):((p.setIfInBounds P.length v).eraseIdxIfInBounds (P.length+1)).toList=P++v::R:=by
 have hs:p.size=P.length+(R.length+2):=by rw[<-Array.length_toList,h];simp
 have h1:P.length+1<(p.setIfInBounds P.length v).size:=by rw[Array.size_setIfInBounds];lia
 rw[Array.eraseIdxIfInBounds,dif_pos h1,Array.toList_eraseIdx,Array.toList_setIfInBounds,h];rw[List.set_append_right _ _ (Nat.le_refl _),Nat.sub_self,List.set_cons_zero,List.eraseIdx_append_of_length_le (by lia),Nat.add_sub_cancel_left];rfl
structure RunI(κ:Keyed->Int)(kd:SortKind)(a0:Array Keyed)(b:Nat)(st:SortSt):Prop where
 kd:kindOf st=kd
 fa:failedOf st=none
 pm:(arrOf st).Perm a0
 tl:Tiles κ (arrOf st).toList 0 (pendingOf st).toList b
theorem LU(L:LtG M A E s kd κ S){a0:Array Keyed}{b i:Nat}{st:SortSt}{Q:Bool->SortSt->Prop}(hS:∀x∈a0.toList,S x)(hb:b<=a0.size)(I:RunI κ kd a0 b st)(hi:i+1<(pendingOf st).size)
  (h:∀u,RunI κ kd a0 b u->(pendingOf u).size+1=(pendingOf st).size->(∀i,b<=i->(arrOf u).toList[i]?=(arrOf st).toList[i]?)->Q true u):wpS M A E s (K3 i) Q st:=by
 obtain⟨P,p,q,R,e,rfl,e1,e2⟩:=QL hi;have tl:=I.tl;rw[e]at tl;obtain⟨c,t1,t2⟩:=Tiles.app.mp tl;obtain⟨sa,na,pw⟩:=p;obtain⟨sb,nb,pw'⟩:=q;obtain⟨x1,x2,x3,y1,y2,y3,t3⟩:=t2;simp only at x1 x2 x3 y1 y2 y3 t3;subst x1;subst y1;have l3:=Tiles.len t3;have szz:(arrOf st).size=a0.size:=I.pm.size_eq;refine JU L I.kd I.fa e1 e2 (λ x hx=>hS x ((Array.perm_iff_toList_perm.mp I.pm).mem_iff.mp hx)) x2 y2 (by lia) x3 y3 λ arr' g seg ea r pm=>?_;have two:=P1 (v:=(sa,na+nb,pw)) e;have sl:seg.length=na+nb:=by
  rw[pm.length_eq,List.length_append,List.length_take,List.length_take,List.length_drop,List.length_drop,Array.length_toList];lia
 have le:((arrOf st).toList.take sa).length=sa:=by rw[List.length_take,Array.length_toList];lia
 have all:(arrOf st).toList=(arrOf st).toList.take sa++(((arrOf st).toList.drop sa).take na++((arrOf st).toList.drop (sa+na)).take nb)++(arrOf st).toList.drop (sa+na+nb):=by
  rw[List.append_assoc,List.append_assoc,<-B5 _ (sa+na) nb,<-B5 _ sa na,List.take_append_drop]
 refine h _ ⟨rfl,rfl,?_,?_⟩ ?_ (λ i hi=>?_)
 .refine Array.Perm.trans ?_ I.pm;rw[Array.perm_iff_toList_perm];show arr'.toList.Perm _;rw[ea]
  conv=>rhs;rw[all]
  exact List.Perm.append_right _ (List.Perm.append_left _ pm)
 .show Tiles κ arr'.toList 0 (((pendingOf st).setIfInBounds P.length (sa,na+nb,pw)).eraseIdxIfInBounds (P.length+1)).toList b;rw[two];refine Tiles.app.mpr ⟨sa,t1.same λ i _ i2=>?_,rfl,by show 0<na+nb;lia,?_,?_⟩
  .rw[ea,List.append_assoc,List.getElem?_append_left (by lia),List.getElem?_take,if_pos i2]
  .show Rise κ ((arr'.toList.drop sa).take (na+nb));rw[ea,List.append_assoc,List.drop_append_of_le_length (by lia),List.drop_of_length_le (by lia),List.nil_append,List.take_append_of_le_length (by lia),List.take_of_length_le (by lia)];exact r
  .show Tiles κ arr'.toList (sa+(na+nb)) R b;rw[<-Nat.add_assoc];refine t3.same λ i i1 i2=>?_;rw[ea,List.getElem?_append_right (by rw[List.length_append];lia),List.getElem?_drop,List.length_append,le,sl];congr 1;lia
 .show(((pendingOf st).setIfInBounds P.length (sa,na+nb,pw)).eraseIdxIfInBounds (P.length+1)).size+1=(pendingOf st).size;rw[<-Array.length_toList,two,<-Array.length_toList,e];simp;lia
 .show arr'.toList[i]?=_;rw[ea,List.getElem?_append_right (by rw[List.length_append];lia),List.getElem?_drop,List.length_append,le,sl];congr 1;lia
theorem MF{xs:Array Keyed}{lo n:Nat}(h:UpG κ xs lo n)(hn:lo+n<=xs.size):Rise κ ((xs.toList.drop lo).take n):=by
 refine List.pairwise_iff_getElem.mpr λ i j hi hj hij=>?_;rw[List.length_take,List.length_drop,Array.length_toList]at hi hj;rw[List.getElem_take,List.getElem_take,List.getElem_drop,List.getElem_drop];have:=h i j (by lia) (by lia);unfold KG at this;rw[Array.getD_eq_getD_getElem?,Array.getD_eq_getD_getElem?,getElem?_pos xs (lo+i) (by lia),getElem?_pos xs (lo+j) (by lia)]at this
 simpa using this
theorem RunI.amid{a0:Array Keyed}{lo n:Nat}{st u:SortSt}(I:RunI κ kd a0 lo st)(B:Amid st lo n u):RunI κ kd a0 lo u :=
 ⟨B.kd.trans I.kd,B.fa.trans I.fa,B.pm.trans I.pm,by
  rw[B.pe];exact I.tl.same λ i _ i2=>by rw[Array.getElem?_toList,Array.getElem?_toList];exact B.out i (.inl i2)⟩
def Nz:StateT SortSt Sem Unit:=sortPriv% PySem.Builtin.sortRuns
def DK:Nat->Nat->Nat->Nat:=sortPriv% PySem.Builtin.minRun
theorem Fr:∀f n r,1<=n->1<=DK f n r
 |0,n,r,h=>by show 1<=n+r;lia
 |f+1,n,r,h=>by
  show 1<=if n<64 then n+r else DK f (n / 2) (max r (n % 2));split
  .lia
  .exact Fr f _ _ (by lia)
theorem RunI.add{a0:Array Keyed}{lo n pw:Nat}{st:SortSt}{p:Array (Nat×Nat×Nat)}{g:Nat}(I:RunI κ kd a0 lo st)(hp:p.toList.map (λ p=>(p.1,p.2.1))=(pendingOf st).toList.map (λ p=>(p.1,p.2.1)))(hn:0<n)(r:Rise κ (((arrOf st).toList.drop lo).take n)):RunI κ kd a0 (lo+n) (SortSt.mk' (kindOf st) (arrOf st) (p.push (lo,n,pw)) g (failedOf st)) :=
 ⟨I.kd,I.fa,I.pm,by
  show Tiles κ (arrOf st).toList 0 (p.push (lo,n,pw)).toList (lo+n);rw[Array.toList_push];exact Tiles.app.mpr ⟨lo,I.tl.words hp,rfl,hn,r,rfl⟩⟩
theorem HL{p:Array (Nat×Nat×Nat)}{i pw:Nat}:(p.modify i λ x=>(x.1,x.2.1,pw)).toList.map (λ p=>(p.1,p.2.1))=p.toList.map (λ p=>(p.1,p.2.1)):=by
 apply List.ext_getElem?;intro j;simp only[List.getElem?_map,Array.getElem?_toList,Array.getElem?_modify];split
 .next h=>subst h;cases p[i]?<;>rfl
 .rfl
theorem Hh(L:LtG M A E s kd κ S){st:SortSt}{Q:Unit->SortSt->Prop}(hk:kindOf st=kd)(hfa:failedOf st=none)(hpe:pendingOf st=#[])(hS:∀x∈(arrOf st).toList,S x)
  (h:∀u,(arrOf u).Perm (arrOf st)->failedOf u=none->Rise κ (arrOf u).toList->Q () u):wpS M A E s Nz Q st:=by
 have I0:RunI κ kd (arrOf st) 0 st:=⟨hk,hfa,Array.Perm.refl _,by rw[hpe];rfl⟩;refine wpS_bind (wpS_get ?_);dsimp only;generalize hsz:(arrOf st).size=N;refine wpS_bind (wpS_mono (wpS_forRange
  (I:=λ x (c:Option Unit×Nat) u=>c.1=none/\x<=c.2/\c.2<=N/\RunI κ kd (arrOf st) c.2 u)
  (Q:=λ(c:Option Unit×Nat) u=>c=(none,N)/\RunI κ kd (arrOf st) N u) ?step ?fin ⟨rfl,Nat.le_refl _,Nat.zero_le _,I0⟩) ?post)
 case fin =>
  rintro⟨r,lo⟩ u ⟨e,h1,h2,I⟩;have h1:max 0 N<=lo:=h1;have h2:lo<=N:=h2;have:lo=N:=by lia
  subst this;have e:r=none:=e;subst e;exact⟨rfl,I⟩
 case step =>
  rintro x ⟨r,lo⟩ u _ hx ⟨e,h1,h2,I⟩;have h1:x<=lo:=h1;have h2:lo<=N:=h2;have e:r=none:=e;subst e;dsimp only at I |-;have us:(arrOf u).size=N:=I.pm.size_eq.trans hsz;have uS:∀x∈(arrOf u).toList,S x:=λ x hx=>hS x ((Array.perm_iff_toList_perm.mp I.pm).mem_iff.mp hx);rcases Nat.lt_or_ge lo N with hlo|hlo
  .rw[if_neg (by lia)];refine wpS_bind (Hi L I.kd uS (by lia) (by lia) λ m u1 B1 m1 m2 up1=>?_);dsimp only;have mr:1<=DK N N 0:=Fr _ _ _ (by lia);have back:∀(n:Nat)(v:SortSt),RunI κ kd (arrOf st) lo v->0<n->lo+n<=N->Rise κ (((arrOf v).toList.drop lo).take n) ->
     RunI κ kd (arrOf st) lo v/\0<n/\lo+n<=N/\Rise κ (((arrOf v).toList.drop lo).take n):=λ n v a b c d=>⟨a,b,c,d⟩
   have I1:=I.amid B1;rcases Nat.lt_or_ge m (DK N N 0) with hm|hm
   .rw[if_pos (show m<(sortPriv% PySem.Builtin.minRun) N N 0 from hm)];refine wpS_bind (wpS_lift (wpAny_rule ⟨rfl,?_⟩));have hf1:min (N-lo) (DK N N 0)<=N-lo:=Nat.min_le_left _ _;have hf2:m<=min (N-lo) (DK N N 0):=Nat.le_min.mpr ⟨m2,Nat.le_of_lt hm⟩
    replace hf1:min (N-lo) ((sortPriv% PySem.Builtin.minRun) N N 0)<=N-lo:=hf1
    replace hf2:m<=min (N-lo) ((sortPriv% PySem.Builtin.minRun) N N 0):=hf2
    generalize min (N-lo) ((sortPriv% PySem.Builtin.minRun) N N 0)=n at hf1 hf2 |-;have u1S:∀x∈(arrOf u1).toList,S x:=λ x hx=>uS x (B1.mem hx);refine wpS_bind (F1 L I1.kd u1S (by rw[B1.sz];lia) hf2 (Amid.refl u1 lo n) up1 λ v B2 up2=>?_);have ff:∀{α:Type}(a b:α),(if (!true)=true then a else b)=b:=λ a b=>rfl;rw[ff];have Iv:=I1.amid B2;have rv:=MF up2 (by rw[B2.sz,B1.sz];lia);refine wpS_bind (wpS_get ?_);cases hb:(pendingOf v).back? with
    |none =>
     dsimp only;exact wpS_bind (wpS_modify (wpS_pure ⟨rfl,by show x+1<=lo+n;lia,by show lo+n<=N;lia,Iv.add rfl (by lia) rv⟩))
    |some p =>
     obtain⟨s1,n1,q⟩:=p;dsimp only;refine wpS_bind (wpS_mono (wpS_forRange (I:=λ_ (c:Option Unit×Unit) w=>c=(none,())/\RunI κ kd (arrOf st) lo w/\Rise κ (((arrOf w).toList.drop lo).take n)) (Q:=λ(c:Option Unit×Unit) w=>c=(none,())/\RunI κ kd (arrOf st) lo w/\Rise κ (((arrOf w).toList.drop lo).take n)) ?_ (λ_ _ z=>z) ⟨rfl,Iv,rv⟩) ?_)
     .rintro y c w _ _ ⟨rfl,Iw,rw'⟩;refine wpS_bind (wpS_get ?_);split
      .next fst fst1 older hq =>
       split
       .exact wpS_pure ⟨rfl,Iw,rw'⟩
       .refine wpS_bind (LU L hS (by lia) Iw ?_ λ v2 I2 _ ou=>?_)
        .split at hq
         .next h2 =>
          have h2:1<(pendingOf w).size:=h2;show(pendingOf w).size-2+1<(pendingOf w).size;lia
         .nomatch hq
        .refine wpS_pure ⟨rfl,I2,?_⟩;rw[Gi λ i i1 _=>ou i i1];exact rw'
      .exact wpS_pure ⟨rfl,Iw,rw'⟩
     .rintro c w ⟨rfl,Iw,rw'⟩;dsimp only;exact wpS_bind (wpS_modify (wpS_bind (wpS_modify (wpS_pure ⟨rfl,by show x+1<=lo+n;lia,by show lo+n<=N;lia,Iw.add HL (by lia) rw'⟩))))
   .rw[if_neg (show ¬m<(sortPriv% PySem.Builtin.minRun) N N 0 from Nat.not_lt.mpr hm)];have Iv:=I1;have rv:=MF up1 (by rw[B1.sz];lia);refine wpS_bind (wpS_get ?_);cases hb:(pendingOf u1).back? with
    |none =>
     dsimp only;exact wpS_bind (wpS_modify (wpS_pure ⟨rfl,by show x+1<=lo+m;lia,by show lo+m<=N;lia,Iv.add rfl (by lia) rv⟩))
    |some p =>
     obtain⟨s1,n1,q⟩:=p;dsimp only;refine wpS_bind (wpS_mono (wpS_forRange (I:=λ_ (c:Option Unit×Unit) w=>c=(none,())/\RunI κ kd (arrOf st) lo w/\Rise κ (((arrOf w).toList.drop lo).take m)) (Q:=λ(c:Option Unit×Unit) w=>c=(none,())/\RunI κ kd (arrOf st) lo w/\Rise κ (((arrOf w).toList.drop lo).take m)) ?_ (λ_ _ z=>z) ⟨rfl,Iv,rv⟩) ?_)
     .rintro y c w _ _ ⟨rfl,Iw,rw'⟩;refine wpS_bind (wpS_get ?_);split
      .next fst fst1 older hq =>
       split
       .exact wpS_pure ⟨rfl,Iw,rw'⟩
       .refine wpS_bind (LU L hS (by lia) Iw ?_ λ v2 I2 _ ou=>?_)
        .split at hq
         .next h2 =>
          have h2:1<(pendingOf w).size:=h2;show(pendingOf w).size-2+1<(pendingOf w).size;lia
         .nomatch hq
        .refine wpS_pure ⟨rfl,I2,?_⟩;rw[Gi λ i i1 _=>ou i i1];exact rw'
      .exact wpS_pure ⟨rfl,Iw,rw'⟩
     .rintro c w ⟨rfl,Iw,rw'⟩;dsimp only;exact wpS_bind (wpS_modify (wpS_bind (wpS_modify (wpS_pure ⟨rfl,by show x+1<=lo+m;lia,by show lo+m<=N;lia,Iw.add HL (by lia) rw'⟩))))
  .rw[if_pos hlo];have:lo=N:=by lia
   subst this;exact wpS_pure ⟨rfl,I⟩
 case post =>
  rintro c u ⟨rfl,I⟩;dsimp only;refine wpS_bind (wpS_mono (wpS_forRange (I:=λ x (c:Option Unit×Unit) v=>c=(none,())/\RunI κ kd (arrOf st) N v/\((pendingOf v).size+x<=N\/(pendingOf v).size<=1)) (Q:=λ(c:Option Unit×Unit) v=>c=(none,())/\RunI κ kd (arrOf st) N v/\(pendingOf v).size<=1) ?_ ?_ ⟨rfl,I,?_⟩) ?_)
  .rintro x c v _ hx ⟨rfl,Iv,hv⟩;refine wpS_bind (wpS_get ?_);rcases Nat.lt_or_ge 1 (pendingOf v).size with h1|h1
   .rw[if_neg (show ¬(pendingOf v).size<=1 by lia)];have ix:∀(b:Prop)[Decidable b],(if b then (pendingOf v).size-2-1 else (pendingOf v).size-2)+1<(pendingOf v).size:=λ b _=>by
     split<;>lia
    refine wpS_bind (LU L hS (by lia) Iv (ix _) λ v2 I2 s2 _=>?_);exact wpS_pure ⟨rfl,I2,by rcases hv with hv|hv<;>lia⟩
   .rw[if_pos h1];exact wpS_pure ⟨rfl,Iv,h1⟩
  .rintro c v ⟨rfl,Iv,hv⟩;exact⟨rfl,Iv,by rcases hv with hv|hv<;>lia⟩
  .have:=Tiles.len I.tl;rw[Array.length_toList]at this;exact .inl (by lia)
  .rintro c v ⟨rfl,Iv,hv⟩;dsimp only;refine wpS_pure (h v Iv.pm Iv.fa ?_);have tl:=Iv.tl;have le:(pendingOf v).toList.length<=1:=by rw[Array.length_toList];exact hv
   have vs:(arrOf v).toList.length=N:=by rw[Array.length_toList];exact Iv.pm.size_eq.trans hsz
   generalize (pendingOf v).toList=ps at tl le
   match ps,tl,le with
   |[],tl,_ =>
    have e:0=N:=tl;rw[List.length_eq_zero_iff.mp (vs.trans e.symm)];exact List.Pairwise.nil
   |[p],tl,_ =>
    obtain⟨_,_,r,e⟩:=tl;have e:0+p.2.1=N:=e;rwa [List.drop_zero,List.take_of_length_le (by lia)]at r
end
def OR:Option NameKind->Bool
 |some .cell=>true
 |some .free=>true
 |_=>false
theorem MV{o:Option NameKind}(h:OR o=true):o=some .cell\/o=some .free:=by
 match o,h with
 |some .cell,_=>exact .inl rfl
 |some .free,_=>exact .inr rfl
theorem Em(env:Env):∀(l:List (Str×NameKind))(acc:List (Str×Addr)),(∀y∈l,y.2=.free->∃c,env.cells.lookup y.1=some c) ->
  (∀x c,acc.lookup x=some c->env.cells.lookup x=some c) ->
  ∃cl,(forIn l acc (λ(x:Str×NameKind)(r:List (Str×Addr))=>if (x.2==.free)=true then (cellOf env x.1 >>= λ c=>pure (ForInStep.yield ((x.1,c)::r))) else pure (ForInStep.yield r)):Sem (List (Str×Addr)))=pure cl /\
   (∀x c,cl.lookup x=some c->env.cells.lookup x=some c)/\(∀x,((∃c,acc.lookup x=some c)\/(x,NameKind.free)∈l)->∃c,cl.lookup x=some c)
 |[],acc,_,ha=>⟨acc,by rfl,ha,λ x h=>h.elim id λ z=>nomatch z⟩
 | (n,k)::l,acc,hl,ha=>by
  have hl':∀y∈l,y.2=.free->∃c,env.cells.lookup y.1=some c:=λ y hy=>hl y (List.mem_cons_of_mem _ hy);by_cases hk:k=.free
  .subst hk;obtain⟨c,hc⟩:=hl (n,.free) List.mem_cons_self rfl;have hc':env.cells.lookup n=some c:=hc;have look:∀x,((n,c)::acc).lookup x=if x=n then some c else acc.lookup x:=λ x=>by
    rw[List.lookup_cons];by_cases e:x=n
    .subst e;simp
    .rw[if_neg e,show(x==n)=false by simpa using e]
   have ha':∀x d,((n,c)::acc).lookup x=some d->env.cells.lookup x=some d:=λ x d e=>by
    rw[look]at e;split at e
    .rename_i q;subst q;rw[hc'];exact e
    .exact ha x d e
   obtain⟨cl,e,h1,h2⟩:=Em env l ((n,c)::acc) hl' ha';refine⟨cl,?_,h1,λ x h=>h2 x ?_⟩
   .rw[<-e,List.forIn_cons];have ec:cellOf env n=pure c:=by unfold cellOf;rw[hc']
    show((cellOf env n >>= λ c=>pure (ForInStep.yield ((n,c)::acc))) >>= _:Sem (List (Str×Addr)))=_;rw[ec];rfl
   .rcases h with ⟨d,q⟩|h
    .left
     rw[look];by_cases z:x=n
     .exact⟨c,by rw[if_pos z]⟩
     .exact⟨d,by rw[if_neg z];exact q⟩
    .rcases List.mem_cons.mp h with z|z
     .left
      rw[look];exact⟨c,by rw[if_pos (congrArg Prod.fst z)]⟩
     .exact .inr z
  .obtain⟨cl,e,h1,h2⟩:=Em env l acc hl' ha;refine⟨cl,?_,h1,λ x h=>h2 x ?_⟩
   .rw[<-e,List.forIn_cons];have hb:(k==NameKind.free)=false:=by simpa using hk
    show((if (k==NameKind.free)=true then _ else pure (ForInStep.yield acc)) >>= _:Sem (List (Str×Addr)))=_;rw[hb];rfl
   .rcases h with h|h
    .exact .inl h
    .rcases List.mem_cons.mp h with z|z
     .exact absurd (congrArg Prod.snd z).symm hk
     .exact .inr z
theorem Mm{scope:Scope}{env:Env}(h:∀y∈scope.names,y.2=.free->∃c,env.cells.lookup y.1=some c) :
  ∃cl,closureFor scope env=pure cl/\(∀x c,cl.lookup x=some c->env.cells.lookup x=some c)/\(∀x,(x,NameKind.free)∈scope.names->∃c,cl.lookup x=some c):=by
 obtain⟨cl,e,h1,h2⟩:=Em env scope.names [] h (λ x c e=>by simp at e);refine⟨cl,?_,h1,λ x hx=>h2 x (.inr hx)⟩;have e2:closureFor scope env=(forIn scope.names [] (λ(x:Str×NameKind)(r:List (Str×Addr))=>if (x.2==.free)=true then (cellOf env x.1 >>= λ c=>pure (ForInStep.yield ((x.1,c)::r))) else pure (ForInStep.yield r)) >>= λ r=>pure r:Sem (List (Str×Addr))):=by
  rfl
 rw[e2,e];rfl
abbrev AQ(X:Cx)(scope:Scope)(cl:List (Str×Addr))(N:LSz)(C:Addr)(s:Shared)(H:Hp)(ex:List Addr):Cx :=
 { X with N:=N,s₀:=s,H₀:=H,env:=compEnvC scope cl C X.env,outer:=X.stack,ex:=ex,fn:=λ_=>false,pn:=[],xe:=λ_ _=>False }
def EF(osc:Scope)(oN:LSz)(sc:Scope)(N:LSz)(fr:List (Option Nat)):Bool :=
 decide (sc.kind=.function)&&sc.names.all (λ y=>decide (y.2≠.cell))&&sc.names.all (λ y=>decide (y.2≠.free)||OR (osc.names.lookup y.1)) &&
 sc.names.all (λ y=>decide (y.2≠.local)||decide (sc.names.lookup y.1=some .local)) &&
 (N.zip fr).all (λ y=>match y.2 with
  |none=>true
  |some i=>decide (oN[i]?=some y.1)&&OR (osc.names.lookup y.1)&&decide (sc.names.lookup y.1=some .free))&&decide (N.length=fr.length)
structure EQ(osc:Scope)(oN:LSz)(sc:Scope)(N:LSz)(fr:List (Option Nat)):Prop where
 kind:sc.kind=.function
 nocell:∀y∈sc.names,y.2≠.cell
 free:∀y∈sc.names,y.2=.free->OR (osc.names.lookup y.1)=true
 loc:∀y∈sc.names,y.2=.local->sc.names.lookup y.1=some .local
 slots:∀(j:Nat)(x:Str)(i:Nat),N[j]?=some x->fr[j]?=some (some i)->oN[i]?=some x/\OR (osc.names.lookup x)=true/\sc.names.lookup x=some .free
 len:N.length=fr.length
theorem El{osc:Scope}{oN:LSz}{sc:Scope}{N:LSz}{fr:List (Option Nat)}(h:EF osc oN sc N fr=true):EQ osc oN sc N fr:=by
 unfold EF at h;simp only[Bool.and_eq_true,List.all_eq_true,decide_eq_true_eq,Bool.or_eq_true]at h;obtain⟨⟨⟨⟨⟨h1,h2⟩,h3⟩,h4⟩,h5⟩,h6⟩:=h;refine⟨h1,h2,λ y hy e=>(h3 y hy).resolve_left λ z=>z e,λ y hy e=>(h4 y hy).resolve_left λ z=>z e,λ j x i e1 e2=>?_,h6⟩;have hm:(x,some i)∈N.zip fr:=by
  have:(N.zip fr)[j]?=some (x,some i):=by rw[List.getElem?_zip_eq_some];exact⟨e1,e2⟩
  exact List.mem_of_getElem? this
 have:=h5 _ hm;simp only[Bool.and_eq_true,decide_eq_true_eq]at this;exact⟨this.1.1,this.1.2,this.2⟩
def stC(fr:List (Option Nat))(σ:St):St:=fr.map λ o=>o.bind λ i=>(σ[i]?).join
def Q1(wi:TI)(g:TG)(te:TE)(fr:List (Option Nat)):TE:=λ σ H Q=>wi σ H λ J H1=>∀acc,H1 acc=none->∃W:Nat->Nat->St->Hp->Prop,(∃m,W 0 m (stC fr σ) (upd H1 acc (.lst [])))/\∀i m σ1 H2,W i m σ1 H2 ->
 (J.stop i H2/\Q (.ref acc) H2)\/(J.go i H2/\∀x H3,J.yld i H2 x H3->g x σ1 H3 λ σ4 H4=>te σ4 H4 λ v H5=>∃xs,H5 acc=some (.lst xs)/\xs.length<sizeLine/\∃m',m'<m/\W (i+1) m' σ4 (upd H5 acc (.lst (xs++[v]))))
section
variable{prog:Program}{w:World}{A:Around}{R:Result->Shared->Prop}{s:Shared}
theorem JE{elt target iter:Expr}{scope:Scope}{pos:Pos}{it acc:Value}{env:Env}(I:Nat->Shared->Prop)
    (turn:∀n s,I n s->wpAny (model prog w) A (pyNext it) (λ r s₁=>match r with
      |none=>R (.ok .next) s₁
      |some v=>wpAny (model prog w) A (letOwnedTupleGo target it v) (λ_ s₁=>wpAny (model prog w) A (assign target env v) (λ_ s₂=>wpAny (model prog w) A (eval elt env) (λ x s₃ =>
          wpAny (model prog w) A (call (.builtin "list.append") [acc,x]) (λ_ s₄=>∃m,m<n/\I m s₄) (notedBy (model prog w) A env λ e s'=>R (.error e) s') s₃)
          (notedBy (model prog w) A env λ e s'=>R (.error e) s') s₂) (notedBy (model prog w) A env λ e s'=>R (.error e) s') s₁) (notedBy (model prog w) A env λ e s'=>R (.error e) s') s₁) (notedBy (model prog w) A env λ e s'=>R (.error e) s') s)
    (n:Nat) (h:I n s) :
    codeAny (model prog w) A (.compLoop (.ListComp elt [⟨target,iter,[],0⟩] scope pos) 0 it acc env) R s:=by
  refine codeAny_loop rfl I (λ n s hI=>?_) n h;show wpAny _ _ ((compTurn (.ListComp elt [⟨target,iter,[],0⟩] scope pos) 0 it acc env).onRaise (λ x=>do noteFrame x env;theTreesLotGoes x)) _ _ s;refine wpAny_noted ?_;rw[compTurn_list1];refine wpAny_bind (wpAny_standAt (wpAny_bind (wpAny_mono (turn n s hI) (λ r s₁ h₁=>?_) λ_ _ h'=>h')));cases r with
  |none=>exact wpAny_pure h₁
  |some v =>
    refine wpAny_bind (wpAny_mono h₁ (λ_ s₁ h₁=>?_) λ_ _ h'=>h');exact wpAny_bind (wpAny_mono h₁ (λ_ s₂ h₂=>wpAny_bind (wpAny_bind (wpAny_mono h₂ (λ x s₃ h₃=>wpAny_bind (wpAny_mono h₃
      (λ_ s₄ h₄=>wpAny_pure (wpAny_pure ⟨rfl,h₄⟩)) λ_ _ h'=>h')) λ_ _ h'=>h'))) λ_ _ h'=>h')
end
theorem Bq{α:Type}{M:Model}{A:Around}{t:Sem α}{Q:α->Shared->Prop}{E:VPz}{s:Shared}(h:wpAny M A t Q (λ_ _=>False) s):wpAny M A t Q E s :=
 wpAny_mono h (λ_ _ q=>q) λ_ _ z=>z.elim
theorem L9{scope:Scope}{env:Env}(hc:∀y∈scope.names,y.2≠.cell){x:Str}(h:(relabel scope env).names.lookup x=some .cell\/(relabel scope env).names.lookup x=some .free):(x,NameKind.free)∈scope.names:=by
 have key:∀(l:List (Str×NameKind)),(∀y∈l,y.2≠.cell)->((l.map λ(n,k)=>if (k==NameKind.free&&env.scope.kind==.function&&env.kindOf n==some .cell) then (n,NameKind.cell) else (n,k)).lookup x=some .cell \/
   (l.map λ(n,k)=>if (k==NameKind.free&&env.scope.kind==.function&&env.kindOf n==some .cell) then (n,NameKind.cell) else (n,k)).lookup x=some .free)->(x,NameKind.free)∈l:=by
  intro l
  induction l with
  |nil=>intro _ h;simp at h
  |cons y r ih =>
   obtain⟨n,k⟩:=y;intro hc h;have hr:∀y∈r,y.2≠.cell:=λ y hy=>hc y (List.mem_cons_of_mem _ hy);have hk:k≠.cell:=hc (n,k) List.mem_cons_self;rw[List.map_cons]at h;by_cases hxn:x=n
   .subst hxn;have hkf:k=.free:=by
     by_cases hb:(k==NameKind.free&&env.scope.kind==.function&&env.kindOf x==some .cell)=true
     .simp only[Bool.and_eq_true,beq_iff_eq]at hb;exact hb.1.1
     .simp only[hb,if_neg,Bool.false_eq_true,if_false]at h;simp only[List.lookup_cons,beq_self_eq_true]at h;rcases h with h|h
      .exact absurd (Option.some.inj h) hk
      .exact Option.some.inj h
    rw[hkf];exact List.mem_cons_self
   .have hb:(x==n)=false:=by simpa using hxn
    refine List.mem_cons_of_mem _ (ih hr ?_);by_cases hq:(k==NameKind.free&&env.scope.kind==.function&&env.kindOf n==some .cell)=true
    .simp only[hq,if_true,List.lookup_cons,hb]at h;exact h
    .simp only[hq,Bool.false_eq_true,if_false,List.lookup_cons,hb]at h;exact h
 exact key scope.names hc h
theorem Ez{env:Env}{x:Str}:∀{l:List (Str×NameKind)},l.lookup x=some .free ->
  ((l.map λ(n,k)=>if (k==NameKind.free&&env.scope.kind==.function&&env.kindOf n==some .cell) then (n,NameKind.cell) else (n,k)).lookup x=some .cell \/
   (l.map λ(n,k)=>if (k==NameKind.free&&env.scope.kind==.function&&env.kindOf n==some .cell) then (n,NameKind.cell) else (n,k)).lookup x=some .free)
 |[],h=>by simp at h
 | (n,k)::r,h=>by
  rw[List.map_cons];by_cases hxn:x=n
  .subst hxn;simp only[List.lookup_cons,beq_self_eq_true]at h;have hk:=Option.some.inj h;subst hk;by_cases hq:(NameKind.free==NameKind.free&&env.scope.kind==.function&&env.kindOf x==some .cell)=true
   .left
    show List.lookup x ((if (NameKind.free==NameKind.free&&env.scope.kind==.function&&env.kindOf x==some .cell)=true then (x,NameKind.cell) else (x,NameKind.free))::_)=_;rw[if_pos hq,List.lookup_cons,beq_self_eq_true]
   .right
    show List.lookup x ((if (NameKind.free==NameKind.free&&env.scope.kind==.function&&env.kindOf x==some .cell)=true then (x,NameKind.cell) else (x,NameKind.free))::_)=_;rw[if_neg hq,List.lookup_cons,beq_self_eq_true]
  .have hb:(x==n)=false:=by simpa using hxn
   simp only[List.lookup_cons,hb]at h;have ih:=Ez (env:=env) h;by_cases hq:(k==NameKind.free&&env.scope.kind==.function&&env.kindOf n==some .cell)=true
   .simp only[hq,if_true,List.lookup_cons,hb];exact ih
   .simp only[hq,Bool.false_eq_true,if_false,List.lookup_cons,hb];exact ih
theorem K4{x:Str}{k:NameKind}:∀{l:List (Str×NameKind)},l.lookup x=some k->(x,k)∈l
 |[],h=>by simp at h
 | (n,j)::r,h=>by
  by_cases e:x=n
  .subst e;simp only[List.lookup_cons,beq_self_eq_true]at h;rw[<-Option.some.inj h];exact List.mem_cons_self
  .have hb:(x==n)=false:=by simpa using e
   simp only[List.lookup_cons,hb]at h;exact List.mem_cons_of_mem _ (K4 h)
section
variable{X:Cx}{elt tg iter:Expr}{scope:Scope}{pos:Pos}{wi:TI}{g:TG}{te:TE}{N:LSz}{fr:List (Option Nat)}
theorem GK{pins:PNz}{σ:St}{H:Hp}{s s1:Shared}{cl:List (Str×Addr)}{ex:List Addr}{C:Addr}{m:MGz}(I:Inv X pins σ H s)(ck:EQ X.env.scope X.N scope N fr)
    (c1:∀x c,cl.lookup x=some c->X.env.cells.lookup x=some c) (c2:∀x,(x,NameKind.free)∈scope.names->∃c,cl.lookup x=some c) (hex:∀b∈ex,Ep X pins H b/\b<s.heap.objs.size) (hC:s.heap.objs.size<=C)
    (hn:s1.heap.Ns C m) (k:∀b o,s.heap.get? b=some o->s1.heap.get? b=some o) (ho:s1.os=s.os) (hg:s1.gens=s.gens) :
    Inv (AQ X scope cl N C s H ex) [] (stC fr σ) H s1:=by
  have lt_ne:∀{b:Addr}{o:Obj},s.heap.get? b=some o->b≠C:=λ e=>Nat.ne_of_lt (Nat.lt_of_lt_of_le (Heap.lt_size e) hC);have ok:(AQ X scope cl N C s H ex).Ok :=
    { mod:=I.ok.mod
      kind:=ck.kind
      glob:=I.ok.glob
      blt:=I.ok.blt
      above:=hC
      inj:=λ x y c e1 e2=>I.ok.inj x y c (c1 x c e1) (c1 y c e2)
      has:=λ x h=>c2 x (L9 ck.nocell h)
      cab:=λ x c z=>by cases z
      hd:=I.ok.hd
      frames:=I.ok.frames
      stk:=.inl rfl
      exf:=λ b hb=>⟨Nat.ne_of_lt (Nat.lt_of_lt_of_le (hex b hb).2 hC),λ x c e=>(hex b hb).1.2.2.2.2.1 x c (c1 x c e)⟩
      bs:=I.bs
      bsz:=Nat.le_trans I.ok.bsz I.sz
      noex:=λ b o e hb=>by
        rcases(hex b hb).1.2.2.2.1 with z|z
        · exact I.ok.noex b o e z
        · exact absurd (Nat.lt_of_lt_of_le (Heap.lt_size e) (Nat.le_trans I.ok.bsz z)) (Nat.lt_irrefl _)
      exfs:=λ b hb hz=>by
        rcases List.mem_cons.mp (I.stkSub b hz) with z|z
        · exact(hex b hb).1.2.1 z
        · exact(hex b hb).1.2.2.1 z
      funs:=I.stack
      frf:=I.stkFree }
  refine⟨ok,ho,by rw[hg];exact I.bare,Un.kept k,⟨m,hn,λ j x v e1 e2 e3=>?_⟩,λ x c e=>?_,I.hok.fresh hC,λ x c e=>I.freeC x c (c1 x c e),λ p hp=>by simp at hp,I.hok.kept k,?_⟩
  · have e1':N[j]?=some x:=e1
    unfold stC at e2;rw[List.getElem?_map]at e2;cases q:fr[j]? with
    |none=>rw[q]at e2;cases e2
    |some o =>
      rw[q]at e2;cases o with
      |none =>
        have:(none:Option V)=some v:=Option.some.inj e2;cases this
      |some i =>
        have e2':(σ[i]?).join=some v:=Option.some.inj e2;obtain⟨s1',s2',s3'⟩:=ck.slots j x i e1' q;have hσ:σ[i]?=some (some v):=by
          cases z:σ[i]? with
          |none=>rw[z]at e2';cases e2'
          |some y=>rw[z]at e2';exact congrArg some e2'
        have hcf:=MV s2';obtain⟨m0,hn0,hl⟩:=I.loc;obtain⟨u,r,lk⟩:=hl i x v s1' hσ (Or.inr hcf);refine⟨u,r,Or.inr ⟨Ez s3',?_⟩⟩;obtain⟨c,hc⟩:=c2 x (K4 s3');refine⟨c,hc,?_⟩;rcases lk with ⟨z,_⟩|⟨_,c',hc',hv⟩
        · rcases hcf with y|y
          · have z':X.env.scope.names.lookup x=some .local:=z
            rw[y]at z';cases z'
          · have z':X.env.scope.names.lookup x=some .local:=z
            rw[y]at z';cases z'
        · have:=c1 x c hc
          rw[hc']at this;cases this;exact hv.keeps k
  · obtain⟨v,z⟩:=I.cell x c (c1 x c e)
    exact⟨v,z.keeps k⟩
  · unfold stC
    rw[List.length_map];exact ck.len.symm
theorem Oc{pins:PNz}{σ:St}{H:Hp}{s:Shared}{Q:VK}{cl:List (Str×Addr)}{R:Value->Addr->Result->Shared->Prop}(hc:X.calm=true)(I:Inv X pins σ H s)(hi:PI X tg iter wi)
  (hg:∀cl C s H ex,PG (AQ X scope cl N C s H ex) tg g) (he:∀cl C s H ex,PE (AQ X scope cl N C s H ex) elt te) (ck:EQ X.env.scope X.N scope N fr)
  (c1:∀x c,cl.lookup x=some c->X.env.cells.lookup x=some c) (c2:∀x,(x,NameKind.free)∈scope.names->∃c,cl.lookup x=some c)
  (h:Q1 wi g te fr σ H Q)
  (hR:∀acc C s' H' m,s'.heap.Ns C m->Ep X pins H' C->Inv X pins σ H' s'->Q (.ref acc) H'->R (.ref acc) C (.ok .next) s') :
  wpAny (model X.prog X.w) X.A (eval iter X.env) (λ x s₁=>wpAny (model X.prog X.w) X.A (pyIter x) (λ it s₂=>wpAny (model X.prog X.w) X.A (newList []) (λ acc s₃ =>
   wpAny (model X.prog X.w) X.A (newFunctionEnv scope X.env.globals cl [] X.env.qual none .none (some X.env)) (λ cenv s₄ =>
    codeAny (model X.prog X.w) X.A (.compStart (.ListComp elt [⟨tg,iter,[],0⟩] scope pos) 0 it acc { cenv with scope:=relabel scope X.env }) (R acc cenv.locals) s₄) X.xe s₃) X.xe s₂) X.xe s₁) X.xe s:=by
 refine thn (hi pins s σ H _ I h) λ v s1 h1=>thn h1 λ itv s2 h2=>?_;obtain⟨it,fp,tn,J,H2,e,I2,T,st2,f2,q2⟩:=h2;subst e;refine wpAny_newObj_type (wpAny_newFunctionEnv ck.nocell (by intro y hy;simp at hy) (λ h₁ hns₁ hsb₁=>?_) ck.kind);dsimp only at hns₁ hsb₁ |-;have I3:Inv X pins σ (upd H2 s2.heap.objs.size (.lst [])) { s2 with heap:=s2.heap.push { cls:=.type "list",dict:=none,data:=.seq ([]:LWz).toArray } }:=I2.lnew (t':=s2.toks) (its:=[]) .nil (Nat.zero_le _);have acc0:H2 s2.heap.objs.size=none:=I2.fresh;obtain⟨W,⟨m0,w0⟩,turn⟩:=q2 s2.heap.objs.size acc0;generalize hH3:s2.heap.push { cls:=.type "list",dict:=none,data:=.seq ([]:LWz).toArray }=h3 at hns₁ hsb₁ I3 |-;have hz3:h3.objs.size=s2.heap.objs.size+1:=by rw[<-hH3,Heap.size_push]
 have k23:∀b o,s2.heap.get? b=some o->h3.get? b=some o:=λ b o e=>by rw[<-hH3];exact Heap.get?_push_of_some _ e
 have k34:∀b o,h3.get? b=some o->h₁.get? b=some o:=λ b o e=>hsb₁.extBut b o (Nat.ne_of_lt (Heap.lt_size e)) (Heap.get?_push_of_some _ e);have fpo:∀b∈fp,∃o,s2.heap.get? b=some o/\∀v,o.data≠.cell v:=T.obj 0 _ st2;have hex:∀b∈fp,Ep X pins (upd H2 s2.heap.objs.size (.lst [])) b/\b<h3.objs.size:=λ b hb=>by
  obtain⟨o,eo,_⟩:=fpo b hb;have lt:=Heap.lt_size eo;obtain⟨f0,fr'⟩:=f2 b hb;exact⟨⟨by rw[Ae (Nat.ne_of_lt lt)];exact f0,fr'⟩,by rw[hz3];exact Nat.lt_succ_of_lt lt⟩
 have I4:Inv (AQ X scope cl N h3.objs.size { s2 with heap:=h3 } (upd H2 s2.heap.objs.size (.lst [])) fp) [] (stC fr σ) (upd H2 s2.heap.objs.size (.lst [])) { s2 with heap:=h₁,toks:=s2.toks+([]:List (Str×Value)).length } :=
  GK I3 ck c1 c2 hex (Nat.le_refl _) hns₁ k34 rfl rfl
 have stat:∀{H':Hp},(∀b∈fp,H' b=none)->∀b∈fp,Ep (AQ X scope cl N h3.objs.size { s2 with heap:=h3 } (upd H2 s2.heap.objs.size (.lst [])) fp) [] H' b:=λ hn b hb =>
  ⟨hn b hb,(I4.ok.exf b hb).1,I4.ok.exfs b hb,.inl hb,(I4.ok.exf b hb).2,λ p hp=>by simp at hp⟩
 have stn:∀i h h',tn i h->(∀b o,h.get? b=some o->h'.get? b=some o)->tn i h':=λ i h h' st kk=>T.keep i h h' st λ b _ o e=>kk b o e;have loop:codeAny (model X.prog X.w) X.A (.compLoop (.ListComp elt [⟨tg,iter,[],0⟩] scope pos) 0 (.ref it) (.ref s2.heap.objs.size) (compEnvC scope cl h3.objs.size X.env)) (R (.ref s2.heap.objs.size) h3.objs.size)
   { s2 with heap:=h₁,toks:=s2.toks+([]:List (Str×Value)).length }:=by
  refine JE (λ n s'=>∃i σ' H',Inv (AQ X scope cl N h3.objs.size { s2 with heap:=h3 } (upd H2 s2.heap.objs.size (.lst [])) fp) [] σ' H' s'/\tn i s'.heap/\(∀b∈fp,H' b=none)/\W i n σ' H') ?_ m0
   ⟨0,_,_,I4,stn _ _ _ st2 λ b o e=>k34 b o (k23 b o e),λ b hb=>(hex b hb).1.1,w0⟩
  rintro n s3 ⟨i,σ3,H3,J3,st3,fr3,w3⟩;rcases turn i n σ3 H3 w3 with ⟨stop,qn⟩|⟨go,step⟩
  .refine Bq (thn (T.done (AQ X scope cl N h3.objs.size { s2 with heap:=h3 } (upd H2 s2.heap.objs.size (.lst [])) fp) rfl rfl rfl hc i [] s3 σ3 H3 (λ_ _=>False) J3 (stat fr3) st3 stop) λ r s4 hz_=>?_);obtain⟨hr,J4⟩:=hz_;subst hr;obtain⟨mc,hmc,_⟩:=J4.loc;have I5:Inv X pins σ H3 s4:=I3.call' (ch:=fp) J4.os J4.base J4.hok J4.bare λ b hb=>⟨(hex b hb).1.2.2.2.1,(hex b hb).1.2.1,(hex b hb).1.2.2.2.2.1,(hex b hb).1.2.2.2.2.2⟩;exact hR _ _ s4 H3 mc hmc (I3.fpOk (Nat.le_refl _) J4.free) I5 qn
  .refine Bq (thn (T.item (AQ X scope cl N h3.objs.size { s2 with heap:=h3 } (upd H2 s2.heap.objs.size (.lst [])) fp) rfl rfl rfl hc i [] s3 σ3 H3 (λ_ _=>False) J3 (stat fr3) st3 go) λ r s4 hz_=>?_);obtain⟨u,hr,h4⟩:=hz_;subst hr;refine Bq (thn h4 λ_ s5 hz_=>?_);obtain⟨x,H5,J5,r5,y5,st5,fr5⟩:=hz_;have J5':=J5.pinned (stat fr5) (T.obj _ _ st5);refine Bq (thn (hg _ _ _ _ _ _ s5 σ3 H5 x u _ J5' r5 (step x H5 y5)) λ_ s6 hz_=>?_);obtain⟨σ6,H6,J6,q6⟩:=hz_;refine Bq (thn (he _ _ _ _ _ _ s6 σ6 H6 _ J6 q6) λ y s7 hz_=>?_);obtain⟨v7,H7,J7,r7,xs,hx,hz,m',hm',w7⟩:=hz_;refine Bq (thn (Bc _ s7 σ6 H7 (.ref s2.heap.objs.size) [v7] (.ref s2.heap.objs.size) [y] (λ v H8=>H8=upd H7 s2.heap.objs.size (.lst (xs++[v7]))) J7 rfl (.cons r7 .nil) ⟨_,xs,v7,rfl,rfl,hx,hz,rfl⟩) λ_ s8 hz_=>?_);obtain⟨_,H8,J8,_,e8⟩:=hz_;subst e8;refine⟨m',hm',i+1,σ6,_,J8.unpinned,T.keep _ _ _ st5 λ b hb o e=>(J8.pin (b,o) (List.mem_append_right _ (List.mem_append_right _ (Bd hb e)))).1,λ b hb=>?_,w7⟩;obtain⟨o,e,d⟩:=T.obj _ _ st5 b hb;exact(J8.pin (b,o) (List.mem_append_right _ (List.mem_append_right _ (Bd hb e)))).2.1
 exact codeAny_compStart_list loop (T.self _ 0 _ _ _ (stn _ _ _ st2 λ b o e=>k34 b o (k23 b o e)) loop)
theorem JD(I:X.Ok)(ck:EQ X.env.scope X.N scope N fr):∃cl,closureFor scope X.env=pure cl/\(∀x c,cl.lookup x=some c->X.env.cells.lookup x=some c)/\(∀x,(x,NameKind.free)∈scope.names->∃c,cl.lookup x=some c) :=
 Mm λ y hy e=>I.has y.1 (MV (ck.free y hy e))
theorem Bt(hc:X.calm=true)(hi:PI X tg iter wi)(hg:∀cl C s H ex,PG (AQ X scope cl N C s H ex) tg g)(he:∀cl C s H ex,PE (AQ X scope cl N C s H ex) elt te)
  (hk:EF X.env.scope X.N scope N fr=true:=by rfl) (hs:∀x,foldedSetIterable iter X.env x=pure x:=by intro _;rfl):PE X (.ListComp elt [⟨tg,iter,[],0⟩] scope pos) (Q1 wi g te fr):=by
 intro pins s σ H Q I h;have ck:=El hk;obtain⟨cl,e1,c1,c2⟩:=JD I.ok ck;rw[eval_ListComp];refine wpAny_comprehension_free (use:=none) (Q:=EP X pins σ Q) rfl hs e1 ck.kind ck.loc (Oc (R:=λ acc C=>compPost (model X.prog X.w) X.A X.xe none (EP X pins σ Q) acc C) hc I hi hg he ck c1 c2 h λ acc C s' H' m hn f I' q=>?_);obtain⟨f0,f1,f2,f3,f4,f5⟩:=f;exact⟨m,hn,λ h' hs'=>⟨.ref acc,H',I'.turned (t':=s'.toks) (λ b o hb e=>hs'.extBut b o hb e) f0 f1 f3 f4 f5,rfl,q⟩⟩
end
section
variable{X:Cx}
def QH(_ j:Int):Prop:=0<j/\j.natAbs.log2<9000
theorem Kl:OpR X (binaryOp .FloorDiv) (rI QH λ i j=>.int (i / j)):=opI λ i j _ _ _ _ _ hc q=>by
 have h1:(0:Int)<j:=hc.1;exact floordiv_int (by lia) (by rw[Int.fdiv_eq_ediv_of_nonneg i (by lia)];exact q) (.inl (PyProof.noPylong_of_log2 hc.2))
theorem DJ:OpR X (binaryOp .Mult) (rI IntMulOk λ i j=>.int (i*j)):=opI λ_ _ _ _ _ _ _ hc q=>mul_int q hc
theorem G2{n k:Nat}(hk:0<k)(h:n<2^k):n.log2<k:=by
 rcases Nat.eq_zero_or_pos n with h0|hp
 .rw[h0];simpa using hk
 .exact(Nat.log2_lt (Nat.ne_of_gt hp)).mpr h
theorem G9{z:Int}{k:Nat}(hk:0<k)(h:z.natAbs<2^k):Builtin.Int.intBits z<=k:=by
 unfold Builtin.Int.intBits;split
 .exact Nat.zero_le _
 .exact G2 hk h
theorem OI{a b:Int}(h1:a.natAbs<2^128)(h2:b.natAbs<2^128):IntMulOk a b:=by
 have e1:=G9 (by decide) h1;have e2:=G9 (by decide) h2;unfold IntMulOk Builtin.Int.intTooBig;intro h;simp only[Bool.and_eq_true,decide_eq_true_eq]at h;have h3:=h.2;have hb:(256:Int)<=(bitsLine:Int):=by decide +kernel
 lia
def tyO:Option HO->Option String
 |some (.lst _)=>some "list"
 |some (.frz _ (.lst _))=>some "list"
 |some (.tup _)=>some "tuple"
 |some (.dK _)=>some "dict"
 |some (.dT _)=>some "dict"
 |_=>none
def tyS(H:Hp):V->Option String
 |.non=>some "NoneType"
 |.bl _=>some "bool"
 |.int _=>some "int"
 |.str _=>some "str"
 |.ref a=>tyO (H a)
 |_=>none
theorem QK{K:Frag}{H:Hp}{x:V}{T:String}(h:tyS H x=some T):Fk K H x (.type T)/\(T="NoneType"\/T="bool"\/T="int"\/T="str"\/T="list"\/T="tuple"\/T="dict"):=by
 unfold tyS at h;split at h
 .cases h;exact⟨.non,by simp⟩
 .cases h;exact⟨.bl _,by simp⟩
 .cases h;exact⟨.int _,by simp⟩
 .cases h;exact⟨.str _,by simp⟩
 .unfold tyO at h;split at h
  .rename_i e;cases h;exact⟨.lst e,by simp⟩
  .rename_i e;cases h;exact⟨.frz e,by simp⟩
  .rename_i e;cases h;exact⟨.tup e,by simp⟩
  .rename_i e;cases h;exact⟨.dK e,by simp⟩
  .rename_i e;cases h;exact⟨.dT e,by simp⟩
  .cases h
 .cases h
def isB(T c:String):Bool:=decide (T=c)||(decide (T="bool")&&decide (c="int"))
theorem Qd{K:Frag}{T c:String}(h:T="NoneType"\/T="bool"\/T="int"\/T="str"\/T="list"\/T="tuple"\/T="dict")(hc:c="int"\/c="bool"\/c="tuple"\/c="list"\/c="str") :
  kitOne K (.type T) (.type c)=some (isB T c):=by
 rcases h with rfl|rfl|rfl|rfl|rfl|rfl|rfl<;>rcases hc with rfl|rfl|rfl|rfl|rfl<;>rfl
inductive QF(xs:LUz)(H:Hp)(Q:VK):Prop
 |mk (x:V) (T c:String) (e:xs=[x,.ty c]) (t:tyS H x=some T) (h:c="int"\/c="bool"\/c="tuple"\/c="list"\/c="str") (q:Q (.bl (isB T c)) H):QF xs H Q
theorem CL:Dc X (.builtin "isinstance") (λ xs H Q=>QF xs H Q):=by
 intro pins s σ H xs us Q I r h;obtain⟨x,T,c,rfl,hT,hc,q⟩:=h;obtain⟨u,w',rfl,rx,ry⟩:=Qx r;cases(show w'=Value.type c from ry);obtain⟨ty,hl⟩:=QK (K:=X.K) hT;exact Ij I rx ty (Qd hl hc) λ tk=>⟨.bl (isB T c),H,I.tok tk,rfl,q⟩
theorem Oh{bs:List Bool}{its:LWz}(r:Vals (bs.map V.bl) its){i:Nat}{v:Value}(h:its.toArray[i]?=some v):v=.bool (bs.getD i false):=by
 have hl:=r.length;have hi:i<its.length:=by
  have:=(Array.getElem?_eq_some_iff.mp h).1
  simpa using this
 have hb:bs[i]?=some (bs.getD i false):=by
  have:i<bs.length:=by rw[List.length_map]at hl;lia
  rw[List.getD_eq_getElem?_getD,List.getElem?_eq_getElem this];rfl
 obtain⟨u,hu,ru⟩:=r.get (i:=i) (x:=.bl (bs.getD i false)) (by rw[List.getElem?_map,hb];rfl);have h':its[i]?=some v:=by simpa using h
 rw[h']at hu;cases hu;exact ru
theorem N3{α:Type}(bs:List Bool):(List.range bs.length).all (λ i=>bs.getD i false)=bs.all id:=by
 have e:(List.range bs.length).map (λ i=>bs.getD i false)=bs:=by
  apply List.ext_getElem?;intro i;rw[List.getElem?_map];by_cases h:i<bs.length
  .rw[List.getElem?_range h,List.getElem?_eq_getElem h,Option.map_some,List.getD_eq_getElem?_getD,List.getElem?_eq_getElem h];rfl
  .rw[List.getElem?_eq_none (by simpa using h),List.getElem?_eq_none (by lia)];rfl
 conv=>rhs;rw[<-e]
 rw[List.all_map];rfl
theorem JY{prog:Program}{w:World}{A:Around}{bs:List Bool}{its:LWz}(r:Vals (bs.map V.bl) its):TruthOf prog w A (λ i v=>its.toArray[i]?=some v) (λ i=>bs.getD i false):=by
 intro i v s Q E hv hq;have e:=Oh r hv;subst e;exact wpAny_truthy_bool hq
theorem Pp:Dc X (.builtin "all") (λ xs H Q=>∃(p:Addr)(bs:List Bool),xs=[.ref p]/\SqL X.K H p (bs.map V.bl)/\X.calm=true/\Q (.bl (bs.all id)) H):=by
 intro pins s σ H xs us Q I r h;obtain⟨p,bs,rfl,hp,hc,q⟩:=h;obtain⟨u,rfl,ru⟩:=Ev r;cases ru;obtain⟨its,rv,pl,hz⟩:=I.list hp;have hl:=rv.length;rw[List.length_map]at hl;refine call_all_walk (wpAny_pyIter_list pl.isList ?_);have hlt:p<s.heap.objs.size:=by obtain⟨o,ho,_⟩:=pl.isList;exact Heap.lt_size ho
 refine⟨s.heap.objs.size,_,_,_,_,_,_,rfl,Walks.list (show X.A.in1.handled=none from I.ok.hd hc) s.heap.objs.size p (Nat.ne_of_lt hlt) its.toArray,⟨⟨_,Heap.get?_push_size _ rfl,rfl,rfl⟩,let ⟨o,ho,r⟩:=pl.isList;⟨o,Heap.get?_push_of_some _ ho,r⟩⟩,JY rv,λ h' tk k=>?_⟩;refine⟨.bl (bs.all id),H,I.kept (t':=tk) λ b o e=>k b o (λ z=>?_) (Heap.get?_push_of_some _ e),?_,q⟩
 .have:b=s.heap.objs.size:=by simpa using z
  exact absurd (this ▸ Heap.lt_size e) (Nat.lt_irrefl _)
 .show Value.bool _=Value.bool _;rw[List.size_toArray,<-hl,N3 (α:=Nat)]
end
structure A5(P:Program)(w:World)(K:Frag)(mg:MGz)(base:Heap)(k:Nat)(x:Str)(ps:LSz)(sp:Sp):Prop where
 ex:∃(f:Addr)(fd:FuncData),A8 P w K mg base CX0 k f fd ps sp/\mg x=some (.ref f)/\keepIn K (.ref f)=true/\Binds K fd ps []
section
variable{X:Cx}{k j:Nat}{x:Str}{ps:LSz}{sp:Sp}{p pos:Pos}{e:Expr}{es:List Expr}{t:TA}
theorem Aw(D:A5 X.prog X.w X.K X.mg X.base k x ps sp)(hr:Room j X.A)(ha:PA X (e::es) t)(hj:k<=j:=by decide)(hg:Gl X x:=by rfl)(hdb:(x==("__debug__":Str))=false:=by decide)
  (he:starEach (e::es) X.env=(false,eval e X.env)::starEach es X.env:=by rfl) (hpl:(backTo pos (starEach es X.env)).any (·.1)=false:=by rfl):PE X (.Call (.Name x p) (e::es) [] pos) (Q2 sp [] E0 t):=by
 obtain⟨f,fd,F,hm,hk,hb⟩:=D.ex;exact PV F (hr.mono hj) hg hm hk hb .nil HZ ha hdb he hpl
end
theorem Au{xs:LUz}(n:Nat)(h:xs.length=n:=by rfl)(h2:n<=1000:=by decide):xs.length<=sizeLine:=by rw[h];exact Nat.le_of_lt (Ap h2)
theorem BK{c:Bool}{A B:Prop}(h:c=true)(a:A):if c=true then A else B:=by rw[if_pos h];exact a
theorem AZ{c:Bool}{A B:Prop}(h:c=false)(b:B):if c=true then A else B:=by rw[if_neg (by rw[h];exact Bool.false_ne_true)];exact b
theorem Ef{c:Bool}{A B:Prop}(h1:c=true->A)(h2:c=false->B):if c=true then A else B:=by
 cases c with
 |true=>exact Qf (h1 rfl)
 |false=>exact Rt (h2 rfl)
def SameX(p:Addr)(H H':Hp):Prop:=∀b o,b≠p->H b=some o->H' b=some o
theorem SameX.refl{p:Addr}{H:Hp}:SameX p H H:=λ_ _ _ h=>h
theorem SameX.trans{p:Addr}{H H1 H2:Hp}(a:SameX p H H1)(b:SameX p H1 H2):SameX p H H2:=λ c o n h=>b c o n (a c o n h)
theorem SameX.upd{p:Addr}{H:Hp}{o:HO}:SameX p H (upd H p o):=λ b u n h=>by rw[Ae n];exact h
theorem SameX.new{p l:Addr}{H:Hp}{o:HO}(h:H l=none):SameX p H (L2.upd H l o):=λ b u _ e=>by rw[Ae (Af e h)];exact e
theorem Same.new{l:Addr}{H:Hp}{o:HO}(h:H l=none):Same H (L2.upd H l o):=λ b u e=>by rw[Ae (Af e h)];exact e
theorem Same.x{p:Addr}{H H':Hp}(a:Same H H'):SameX p H H':=λ b o _ e=>a b o e
def cW(acc:Addr)(n:Nat)(Pv:Nat->LUz->St->Hp->Prop)(i m:Nat)(σ:St)(H:Hp):Prop:=i<=n/\m=n-i/\∃xs,xs.length=i/\H acc=some (.lst xs)/\Pv i xs σ H
def cNx(acc:Addr)(n:Nat)(Pv:Nat->LUz->St->Hp->Prop)(i:Nat)(σ:St)(v:V)(H:Hp):Prop:=∃xs,H acc=some (.lst xs)/\xs.length<sizeLine/\∃m',m'<n-i/\cW acc n Pv (i+1) m' σ (upd H acc (.lst (xs++[v])))
theorem cNx.mk{acc:Addr}{n:Nat}{Pv:Nat->LUz->St->Hp->Prop}{i:Nat}{σ:St}{v:V}{H:Hp}{xs:LUz}(hn:n<=sizeLine)(hi:i<n)(hl:xs.length=i)(ha:H acc=some (.lst xs))(hp:Pv (i+1) (xs++[v]) σ (upd H acc (.lst (xs++[v])))) :
  cNx acc n Pv i σ v H:=⟨xs,ha,by lia,n-(i+1),by lia,hi,rfl,xs++[v],by rw[List.length_append,hl];rfl,upd_same,hp⟩
theorem Mj{lo:Int}{n:Nat}{g:TG}{te:TE}{σ:St}{H1:Hp}{acc:Addr}{Qr:Hp->Prop}(Pv:Nat->LUz->St->Hp->Prop)(h0:Pv 0 [] σ (upd H1 acc (.lst [])))
  (hs:∀i xs σ H,i<n->xs.length=i->H acc=some (.lst xs)->Pv i xs σ H->g (.int (lo+i)) σ H λ σ2 H2=>te σ2 H2 λ v H3=>cNx acc n Pv i σ2 v H3)
  (hd:∀xs σ H,xs.length=n->H acc=some (.lst xs)->Pv n xs σ H->Qr H) :
  ∃W:Nat->Nat->St->Hp->Prop,(∃m,W 0 m σ (upd H1 acc (.lst [])))/\∀i m σ1 H2,W i m σ1 H2 ->
   ((Itr lo n).stop i H2/\Qr H2)\/((Itr lo n).go i H2/\∀x H3,(Itr lo n).yld i H2 x H3->g x σ1 H3 λ σ4 H4=>te σ4 H4 λ v H5=>∃xs,H5 acc=some (.lst xs)/\xs.length<sizeLine/\∃m',m'<m/\W (i+1) m' σ4 (upd H5 acc (.lst (xs++[v])))):=by
 refine⟨cW acc n Pv,⟨n,Nat.zero_le _,rfl,[],rfl,upd_same,h0⟩,?_⟩;rintro i m σ1 H2 ⟨hi,rfl,xs,hl,ha,hp⟩;rcases Nat.lt_or_ge i n with h|h
 .refine .inr ⟨h,?_⟩;rintro x H3 ⟨rfl,rfl⟩;exact hs i xs σ1 H3 h hl ha hp
 .have e:i=n:=Nat.le_antisymm hi h;subst e;exact .inl ⟨Nat.le_refl _,hd xs σ1 H2 hl ha hp⟩
theorem AU{K:Frag}{a:Addr}{ys:LUz}{g:TG}{te:TE}{σ:St}{H1:Hp}{acc:Addr}{Qr:Hp->Prop}(Pv:Nat->LUz->St->Hp->Prop)(h0:Pv 0 [] σ (upd H1 acc (.lst [])))
  (hq:∀i xs σ H,i<=ys.length->H acc=some (.lst xs)->Pv i xs σ H->SqL K H a ys)
  (hs:∀i x xs σ H,ys[i]?=some x->i<ys.length->xs.length=i->H acc=some (.lst xs)->Pv i xs σ H->g x σ H λ σ2 H2=>te σ2 H2 λ v H3=>cNx acc ys.length Pv i σ2 v H3)
  (hd:∀xs σ H,xs.length=ys.length->H acc=some (.lst xs)->Pv ys.length xs σ H->Qr H) :
  ∃W:Nat->Nat->St->Hp->Prop,(∃m,W 0 m σ (upd H1 acc (.lst [])))/\∀i m σ1 H2,W i m σ1 H2 ->
   ((Itl K a).stop i H2/\Qr H2)\/((Itl K a).go i H2/\∀x H3,(Itl K a).yld i H2 x H3->g x σ1 H3 λ σ4 H4=>te σ4 H4 λ v H5=>∃xs,H5 acc=some (.lst xs)/\xs.length<sizeLine/\∃m',m'<m/\W (i+1) m' σ4 (upd H5 acc (.lst (xs++[v])))):=by
 refine⟨cW acc ys.length Pv,⟨ys.length,Nat.zero_le _,rfl,[],rfl,upd_same,h0⟩,?_⟩;rintro i m σ1 H2 ⟨hi,rfl,xs,hl,ha,hp⟩;have hsq:=hq i xs σ1 H2 hi ha hp;rcases Nat.lt_or_ge i ys.length with h|h
 .refine .inr ⟨⟨ys,ys[i],hsq,List.getElem?_eq_getElem h⟩,?_⟩;rintro x H3 ⟨rfl,hx⟩;exact hs i x xs σ1 H3 (hx ys hsq) h hl ha hp
 .have e:i=ys.length:=Nat.le_antisymm hi h;subst e;exact .inl ⟨⟨ys,hsq,Nat.le_refl _⟩,hd xs σ1 H2 hl ha hp⟩
section
variable{cmp:Nat->Nat->(Bool->Shared->Prop)->Shared->Prop}{key:Nat->Int}{N:Nat}{s:Shared}
variable(hcmp:∀i j (C:Bool->Shared->Prop),i<N->j<N->C (decide (key i<key j)) s->cmp i j C s)
include hcmp
end
section
variable{prog:Program}{w:World}{A:Around}{E:VPz}{s:Shared}
def BG(h:Heap)(a:Addr)(vs:LWz):Heap:=((h.update a (Obj.mapSeq λ_=>#[])).push (seqObj "tuple" vs.toArray 0)).push (seqObj "list" #[] 0)
theorem Jq{h:Heap}{a b:Addr}{vs:LWz}{o:Obj}(hb:b≠a)(e:h.get? b=some o):(BG h a vs).get? b=some o:=by
 unfold BG;exact Heap.get?_push_of_some _ (Heap.get?_push_of_some _ (by rw[Heap.get?_update_ne _ _ _ _ hb];exact e))
end
section
variable{X:Cx}
theorem DG:∀{ts:List Addr}{its:LWz},Vals (ts.map V.ref) its->its=ts.map Value.ref
 |[],_,.nil=>rfl
 |a::r,_,.cons h t=>by
  cases(show _=Value.ref a from h);rw[List.map_cons,DG t]
theorem Gm:∀(ts:List Addr),Vals (ts.map V.ref) (ts.map Value.ref)
 |[]=>.nil
 |a::r=>.cons rfl (Gm r)
end
section
variable{κ:Type}[DecidableEq κ]
def De(kvs:List (κ×V))(k:κ):Option V:=(kvs.find? λ kv=>decide (kv.1=k)).map (·.2)
def Bv(kvs:List (κ×V))(k:κ)(v:V):List (κ×V) :=
 if (kvs.any λ kv=>decide (kv.1=k))=true then kvs.map (λ kv=>if kv.1=k then (kv.1,v) else kv) else kvs++[(k,v)]
theorem Cg{p:κ×V}{r:List (κ×V)}{k:κ}(e:p.1=k):De (p::r) k=some p.2:=by simp[De,List.find?_cons,e]
theorem Ch{p:κ×V}{r:List (κ×V)}{k:κ}(e:¬p.1=k):De (p::r) k=De r k:=by simp[De,List.find?_cons,e]
theorem JW(k:κ):∀kvs:List (κ×V),(kvs.any λ kv=>decide (kv.1=k))=(De kvs k).isSome
 |[]=>rfl
 |p::r=>by
  rw[List.any_cons];by_cases e:p.1=k
  .simp only[Cg e,decide_eq_true e,Bool.true_or,Option.isSome_some]
  .rw[Ch e,decide_eq_false e,Bool.false_or];exact JW k r
theorem Dx(kvs:List (κ×V))(k:κ)(v:V):(Bv kvs k v).length<=kvs.length+1:=by
 unfold Bv;split
 .rw[List.length_map];lia
 .rw[List.length_append,List.length_cons,List.length_nil];lia
theorem RelO.isSome_eq{o:Option V}{u:Option Value}(r:RelO o u):o.isSome=u.isSome:=by
 cases o with
 |none=>cases u with
  |none=>rfl
  |some _=>exact(show False from r).elim
 |some _=>cases u with
  |none=>exact(show False from r).elim
  |some _=>rfl
theorem KV.val{kvs:List (κ×V)}{vs:List (κ×Value)}(r:KV kvs vs)(k:κ):RelO (De kvs k) (valueAt vs k):=by
 unfold KV at r
 induction r with
 |nil=>exact True.intro
 |@cons p q ps qs h t ih =>
  obtain⟨h1,h2⟩:=h;by_cases e:p.1=k
  .have e':q.1=k:=h1.symm.trans e;have b:valueAt (q::qs) k=some q.2:=by simp[valueAt,List.find?_cons,e']
   rw[Cg e,b];exact h2
  .have e':¬q.1=k:=λ z=>e (h1.trans z);have b:valueAt (q::qs) k=valueAt qs k:=by simp[valueAt,List.find?_cons,e']
   rw[Ch e,b];exact ih
theorem KV.any{kvs:List (κ×V)}{vs:List (κ×Value)}(r:KV kvs vs)(k:κ):(kvs.any λ kv=>decide (kv.1=k))=vs.any λ kv=>decide (kv.1=k):=by
 unfold KV at r
 induction r with
 |nil=>rfl
 |cons h t ih=>rw[List.any_cons,List.any_cons,ih,h.1]
theorem KV.repl{kvs:List (κ×V)}{vs:List (κ×Value)}(r:KV kvs vs)(k:κ){y:V}{u:Value}(ry:RelV y u) :
  KV (kvs.map λ kv=>if kv.1=k then (kv.1,y) else kv) (vs.map λ kv=>if kv.1=k then (kv.1,u) else kv):=by
 unfold KV at r |-
 induction r with
 |nil=>exact .nil
 |@cons p q ps qs h t ih =>
  rw[List.map_cons,List.map_cons];refine .cons ?_ ih;obtain⟨h1,h2⟩:=h;by_cases e:p.1=k
  .rw[if_pos e,if_pos (h1.symm.trans e)];exact⟨h1,ry⟩
  .rw[if_neg e,if_neg (λ z=>e (h1.trans z))];exact⟨h1,h2⟩
theorem KV.put{kvs:List (κ×V)}{vs:List (κ×Value)}(r:KV kvs vs)(k:κ){y:V}{u:Value}(ry:RelV y u):KV (Bv kvs k y) (stored vs k u):=by
 unfold Bv stored;rw[r.any k];by_cases e:(vs.any λ kv=>decide (kv.1=k))=true
 .rw[if_pos e,if_pos e];exact r.repl k ry
 .rw[if_neg e,if_neg e];exact Paired.snoc r ⟨rfl,ry⟩
theorem KV.length{kvs:List (κ×V)}{vs:List (κ×Value)}(r:KV kvs vs):kvs.length=vs.length:=Paired.length r
end
theorem MU{P:Program}{w:World}{k:Key}{u:Value}(r:RelV (kV k) u):(AS P w).is k u=true:=by
 cases k with
 |inl i=>obtain⟨t,e⟩:=(show ∃t,u=Value.int i t from r);subst e;exact K2 P w i t
 |inr x=>obtain⟨t,e⟩:=(show ∃t,u=Value.str x t from r);subst e;exact K1 P w x t
theorem Ii{P:Program}{w:World}:∀{ks:List Key}{us:LWz},Vals (ks.map kV) us->ItemsAre (AS P w) ks us
 |[],_,r=>by rw[List.map_nil]at r;cases r;exact .nil
 |k::ks,_,r=>by
  rw[List.map_cons]at r;cases r with
  |cons h t=>exact .cons (MU h) (Ii t)
abbrev KT(H:Hp):LKz->List (List Key×Addr×Value)->Prop:=Paired λ p q=>p.1=q.1/\H q.2.1=some (.tup (p.1.map kV))/\RelV p.2 q.2.2
theorem KT.val{H:Hp}{kvs:LKz}{xs:List (List Key×Addr×Value)}(r:KT H kvs xs)(k:List Key):RelO (De kvs k) ((atKey xs k).map (·.2)):=by
 induction r with
 |nil=>exact True.intro
 |@cons p q ps qs h t ih =>
  obtain⟨h1,_,h2⟩:=h;by_cases e:p.1=k
  .have e':q.1=k:=h1.symm.trans e;have b:atKey (q::qs) k=some q.2:=by simp[atKey,List.find?_cons,e']
   rw[Cg e,b];exact h2
  .have e':¬q.1=k:=λ z=>e (h1.trans z);have b:atKey (q::qs) k=atKey qs k:=by simp[atKey,List.find?_cons,e']
   rw[Ch e,b];exact ih
theorem KT.repl{H:Hp}{kvs:LKz}{xs:List (List Key×Addr×Value)}(r:KT H kvs xs)(k:List Key){y:V}{u:Value}(ry:RelV y u) :
  KT H (kvs.map λ kv=>if kv.1=k then (kv.1,y) else kv) (xs.map (putAt k u)):=by
 induction r with
 |nil=>exact .nil
 |@cons p q ps qs h t ih =>
  rw[List.map_cons,List.map_cons];refine .cons ?_ ih;obtain⟨h1,h2,h3⟩:=h;unfold putAt;by_cases e:p.1=k
  .rw[if_pos e,if_pos (h1.symm.trans e)];exact⟨h1,h2,ry⟩
  .rw[if_neg e,if_neg (λ z=>e (h1.trans z))];exact⟨h1,h2,h3⟩
theorem KT.put{H:Hp}{kvs:LKz}{xs:List (List Key×Addr×Value)}(r:KT H kvs xs)(k:List Key){b:Addr}{y:V}{u:Value}(hb:H b=some (.tup (k.map kV)))(ry:RelV y u) :
  KT H (Bv kvs k y) (storedH xs k b u):=by
 have e:(kvs.any λ kv=>decide (kv.1=k))=(atKey xs k).isSome:=by
  rw[JW,(r.val k).isSome_eq,Option.isSome_map]
 unfold Bv storedH;rw[e];by_cases q:(atKey xs k).isSome=true
 .rw[if_pos q,if_pos q];exact r.repl k ry
 .rw[if_neg q,if_neg q];exact Paired.snoc r ⟨rfl,hb,ry⟩
theorem KT.keeps{H H':Hp}{kvs:LKz}{xs:List (List Key×Addr×Value)}(r:KT H kvs xs)(ht:∀b ys,H b=some (.tup ys)->H' b=some (.tup ys)):KT H' kvs xs :=
 Paired.mapP r λ_ _ z=>⟨z.1,ht _ _ z.2.1,z.2.2⟩
section
variable{P:Program}{w:World}{H:Hp}{h:Heap}{a:Addr}
theorem Q4{u:HO}(ok:HOk P w H h)(e:Rd H a u):ObjOk P w H h a u:=e.ok ok
theorem Nd{kvs:List (Key×V)}(ok:HOk P w H h)(e:Rd H a (.dK kvs)):kvs.length<=sizeLine/\(a==sysModules)=false/\∃vs,KV kvs vs/\h.DictOf (AS P w) a vs :=
 show ObjOk P w H h a (.dK kvs) from Q4 ok e
theorem QB{kvs:List (Key×V)}(ok:HOk P w H h)(e:H a=some (.dK kvs)):kvs.length<=sizeLine/\(a==sysModules)=false/\∃vs,KV kvs vs/\h.DictOf (AS P w) a vs:=Nd ok (.inl e)
theorem Jt{ks:List Key}(ok:HOk P w H h)(e:H a=some (.tup (ks.map kV))):(tupleKind (AS P w)).is h ks a:=by
 obtain⟨_,its,r,o,h1,h2,n,h3⟩:=(show ObjOk P w H h a (.tup (ks.map kV)) from ok a _ e);exact⟨o,its.toArray,n,h1,h2,h3,by simpa using Ii r⟩
theorem Nc{kvs:LKz}(ok:HOk P w H h)(e:Rd H a (.dT kvs)):kvs.length<=sizeLine/\(a==sysModules)=false /\
  ∃xs,KT H kvs xs/\h.DictOfH (tupleKind (AS P w)) a xs:=by
 obtain⟨z,y,xs,r,o,es,ep,h1,h2,h3,h4,h5⟩:=(show ObjOk P w H h a (.dT kvs) from Q4 ok e);refine⟨z,y,xs,r,o,es,ep,h1,h2,h3,h4,λ x hx=>?_,h5⟩;have all:∀{l:LKz}{m:List (List Key×Addr×Value)},KT H l m->∀x∈m,(tupleKind (AS P w)).is h x.1 x.2.1:=by
  intro l m q
  induction q with
  |nil=>intro x hx;exact nomatch hx
  |@cons p q ps qs hq t ih =>
   intro x hx;rcases List.mem_cons.mp hx with e|hx
   .subst e;exact Jt ok (by rw[<-hq.1];exact hq.2.1)
   .exact ih x hx
 exact all r x hx
theorem QA{kvs:LKz}(ok:HOk P w H h)(e:H a=some (.dT kvs)):kvs.length<=sizeLine/\(a==sysModules)=false /\
  ∃xs,KT H kvs xs/\h.DictOfH (tupleKind (AS P w)) a xs:=Nc ok (.inl e)
end
def DGet(H:Hp)(a:Addr)(y:V)(r:Option V):Prop :=
 (∃kvs k,Rd H a (.dK kvs)/\y=kV k/\r=De kvs k)\/∃kvs k b,Rd H a (.dT kvs)/\y=.ref b/\H b=some (.tup (k.map kV))/\r=De kvs k
def DPut(H:Hp)(a:Addr)(y v:V)(H':Hp):Prop :=
 (∃kvs k,H a=some (.dK kvs)/\y=kV k/\kvs.length<sizeLine/\H'=upd H a (.dK (Bv kvs k v))) \/
 ∃kvs k b,H a=some (.dT kvs)/\y=.ref b/\H b=some (.tup (k.map kV))/\kvs.length<sizeLine/\H'=upd H a (.dT (Bv kvs k v))
theorem DGet.k{H:Hp}{a:Addr}{kvs:List (Key×V)}{k:Key}(e:H a=some (.dK kvs)):DGet H a (kV k) (De kvs k):=.inl ⟨kvs,k,.inl e,rfl,rfl⟩
theorem DGet.t{H:Hp}{a b:Addr}{kvs:LKz}{k:List Key}(e:H a=some (.dT kvs))(eb:H b=some (.tup (k.map kV))):DGet H a (.ref b) (De kvs k):=.inr ⟨kvs,k,b,.inl e,rfl,eb,rfl⟩
theorem DPut.k{H:Hp}{a:Addr}{kvs:List (Key×V)}{k:Key}{v:V}(e:H a=some (.dK kvs))(hl:kvs.length<sizeLine):DPut H a (kV k) v (upd H a (.dK (Bv kvs k v))):=.inl ⟨kvs,k,e,rfl,hl,rfl⟩
theorem DPut.t{H:Hp}{a b:Addr}{kvs:LKz}{k:List Key}{v:V}(e:H a=some (.dT kvs))(eb:H b=some (.tup (k.map kV)))(hl:kvs.length<sizeLine) :
  DPut H a (.ref b) v (upd H a (.dT (Bv kvs k v))):=.inr ⟨kvs,k,b,e,rfl,eb,hl,rfl⟩
section
variable{X:Cx}{pins:PNz}{σ:St}{H:Hp}{s:Shared}{a:Addr}{y v:V}{u r:Value}{o:Option V}{A:Around}{E:VPz}
theorem Inv.big(I:Inv X pins σ H s):sysModules<s.heap.objs.size:=by
 have h:mainGlobals<s.heap.objs.size:=(I.mod.glob.keeps I.bk).lt;exact Nat.lt_trans (by decide) h
theorem NY{Q:VPz}(hu:A.units+1<cLine)(I:Inv X pins σ H s)(g:DGet H a y (some v))(ry:RelV y u)(h:∀w' s',Inv X pins σ H s'->RelV v w'->Q w' s') :
  wpAny (model X.prog X.w) A (getItem (.ref a) u) Q E s:=by
 rcases g with ⟨kvs,k,e,ey,l⟩|⟨kvs,k,b,e,ey,eb,l⟩
 .subst ey;obtain⟨z,hd,vs,rel,dd⟩:=Nd I.hok e;obtain⟨w',hw,rw'⟩:=RelO.some_of (v:=v) (o:=valueAt vs k) (by rw[l];exact rel.val k);exact wpAny_getItem_of (MU ry) dd.mapOf hw (h w' _ (I.tok _) rw')
 .subst ey;cases(show u=Value.ref b from ry);obtain⟨z,hd,xs,rel,dd⟩:=Nc I.hok e;obtain⟨w',hw,rw'⟩:=RelO.some_of (v:=v) (o:=(atKey xs k).map (·.2)) (by rw[l];exact rel.val k);obtain⟨p,hp,hp2⟩:=Option.map_eq_some_iff.mp hw;refine wpAny_getItem_heap (tupleKind_room_in1 hu) (Jt I.hok eb) dd hp ?_;rw[hp2];exact h w' _ (I.tok _) rw'
theorem FR{h':Heap}{t':Nat}{ob:HO}(I:Inv X pins σ H s)(mu:Mut (H a))(hs:Heap.SameBut a s.heap h')(he:∃q,h'.get? a=some q)(new:ObjOk X.prog X.w (upd H a ob) h' a ob) :
  Inv X pins σ (upd H a ob) { s with heap:=h',toks:=t' } :=
 I.write (x:=a) (e:=a) mu (.inl rfl) (λ b q hb z=>(hs.2 b hb).trans z) he new
theorem Ph{P:Program}{w:World}{H':Hp}{h':Heap}{kvs:List (Key×V)}{vs:List (Key×Value)}(z:kvs.length<=sizeLine)(hd:(a==sysModules)=false)(rel:KV kvs vs)(dd:h'.DictOf (AS P w) a vs) :
  ObjOk P w H' h' a (.dK kvs):=⟨z,hd,vs,rel,dd⟩
theorem NX{H':Hp}{Q:Unit->Shared->Prop}(hu:A.units+1<cLine)(I:Inv X pins σ H s)(g:DPut H a y v H')(ry:RelV y u)(rv:RelV v r)(h:∀s',Inv X pins σ H' s'->Q () s') :
  wpAny (model X.prog X.w) A (setItem (.ref a) u r) Q E s:=by
 rcases g with ⟨kvs,k,e,ey,l,eH⟩|⟨kvs,k,b,e,ey,eb,l,eH⟩
 .subst ey eH;obtain⟨z,hd,vs,rel,dd⟩:=QB I.hok e;have hz:vs.length<=sizeLine:=by rw[<-rel.length];exact z
  have hl:(Bv kvs k v).length<=sizeLine:=by have:=Dx kvs k v;lia
  refine wpAny_setItem_pairs (hsz:=hz) (MU ry) dd λ h' dd' hs=>h _ ?_;have he:∃q,h'.get? a=some q:=let ⟨q,_,_,hq,_⟩:=dd';⟨q,hq⟩;exact FR I (by rw[e];exact True.intro) hs he (Ph hl hd (rel.put k rv) dd')
 .subst ey eH;cases(show u=Value.ref b from ry);obtain⟨z,hd,xs,rel,dd⟩:=QA I.hok e;have hz:xs.length<=sizeLine:=by rw[<-Paired.length rel];exact z
  have hl:(Bv kvs k v).length<=sizeLine:=by have:=Dx kvs k v;lia
  refine wpAny_setItem_heap (hsz:=hz) (tupleKind_room_in1 hu) (Jt I.hok eb) dd λ h' dd' hs=>h _ ?_;obtain⟨q,es,ep,hq,h2,h3,h4,_,h5⟩:=dd';refine FR I (by rw[e];exact True.intro) hs ⟨q,hq⟩ ⟨hl,hd,_,(rel.put k eb rv).keeps λ c ys ec=>?_,q,es,ep,hq,h2,h3,h4,h5⟩;rw[Ae (MP ec e (λ z=>nomatch z))];exact ec
end
def S6(i:Expr):Prop:=∀ov iv,subscripted i false ov iv=operate [ov,iv] (getItem ov iv)
theorem P5{prog:Program}{w:World}{A:Around}{E:VPz}{s:Shared}{env:Env}{value slice:Expr}{pos:Pos}{T id:String}{Q:VPz}
  (hl:typeLookup (.type T) "__getitem__"=pure (some (.builtin id))) (hs:S6 slice)
  (h:wpAny (model prog w) A (eval value env) (λ o s₁=>wpAny (model prog w) A (eval slice env) (λ i s₂=>s₂.TypeIs o T/\wpAny (model prog w) A (getItem o i) Q E s₂) E s₁) E s) :
  wpAny (model prog w) A (eval (.Subscript value slice pos) env) Q E s:=by
 refine Subscript_ (wpAny_mono h (λ o s₁ h₁=>wpAny_mono h₁ (λ i s₂ h₂=>?_) λ_ _ x=>x) λ_ _ x=>x);obtain⟨hT,h₂⟩:=h₂;unfold subscriptTail;refine wpAny_bind ?_;rw[getitemInPython_of_ne hT.not_modules];refine wpAny_bind (wpAny_specialOf hT hl ?_);have fin:wpAny (model prog w) A (subscripted slice false o i) (λ r s₃=>wpAny (model prog w) A (letTemporaryGo value o r >>= λ_=>pure r) Q E s₃) E s₂:=by
  rw[hs o i];exact wpAny_operating (wpAny_mono h₂ (λ r s₃ h₃=>wpAny_bind (wpAny_letTemporaryGo (wpAny_pure h₃))) λ_ _ x=>x)
 first
  |exact wpAny_pure (wpAny_bind fin)
  |exact wpAny_bind (wpAny_pure (wpAny_bind fin))
  |exact wpAny_bind fin
theorem KO{X:Cx}{pins:PNz}{σ:St}{H:Hp}{s:Shared}{a:Addr}{y:V}{o:Option V}(I:Inv X pins σ H s)(g:DGet H a y o):s.TypeIs (.ref a) "dict":=by
 rcases g with ⟨kvs,k,e,_,_⟩|⟨kvs,k,b,e,_,_,_⟩
 .obtain⟨_,_,vs,_,dd⟩:=Nd I.hok e;exact dd.typeIs
 .obtain⟨_,_,xs,_,dd⟩:=Nc I.hok e;exact dd.typeIs
def Q0(td ty:TE):TE:=λ σ H Q=>td σ H λ x H1=>ty σ H1 λ y H2=>∃a v,x=.ref a/\DGet H2 a y (some v)/\Q v H2
def RS(td ty tv:TE):TS:=λ D σ H=>tv σ H λ v H1=>td σ H1 λ x H2=>ty σ H2 λ y H3=>∃a H4,x=.ref a/\DPut H3 a y v H4/\D.nx σ H4
section
variable{X:Cx}{o i e value:Expr}{pos pos' tpos:Pos}{td ty tv:TE}
theorem E6(hu:X.A.units+1<cLine)(ho:PE X o td)(hi:PE X i ty)(hs:S6 i):PE X (.Subscript o i pos) (Q0 td ty):=by
 intro pins s σ H Q I h;refine P5 PySem.F.slot_dict_getitem.lookup hs (thn (ho pins s σ H _ I h) λ u s1 hz_=>?_);obtain⟨x,H1,I1,rx,q1⟩:=hz_;refine thn (hi pins s1 σ H1 _ I1 q1) λ iv s2 hz_=>?_;obtain⟨y,H2,I2,ry,a,v,ex,g,q2⟩:=hz_;subst ex;obtain rfl:u=Value.ref a:=rx;exact⟨KO I2 g,NY hu I2 g ry λ w' s3 I3 rw'=>⟨v,H2,I3,rw',q2⟩⟩
theorem E3(hu:X.A.units+1<cLine)(ho:PE X o td)(hi:PE X i ty)(hv:PE X value tv)(hs:swapsWith value (some (.Subscript o i pos')) pos.line X.env=pure false) :
  PS X (.Assign [.Subscript o i pos'] value pos) (RS td ty tv):=by
 intro pins s σ H D I h;refine wpAny_Assign_Subscript (thn (hv pins s σ H _ I h) λ r s1 hz_=>?_) hs;obtain⟨v,H1,I1,rv,q1⟩:=hz_;refine thn (ho pins s1 σ H1 _ I1 q1) λ u s2 hz_=>?_;obtain⟨x,H2,I2,rx,q2⟩:=hz_;refine thn (hi pins s2 σ H2 _ I2 q2) λ iv s3 hz_=>?_;obtain⟨y,H3,I3,ry,a,H4,ex,g,q3⟩:=hz_;subst ex;obtain rfl:u=Value.ref a:=rx;exact NX hu I3 g ry rv λ s4 I4=>⟨σ,H4,I4,q3⟩
end
theorem Pj{P:Program}{w:World}{H:Hp}(h:Heap)(hb:sysModules<h.objs.size):ObjOk P w H (h.push { cls:=.type "dict",data:=.dict #[] }) h.objs.size (.dK []) :=
 ⟨Nat.zero_le _,beq_eq_false_iff_ne.mpr (Ne.symm (Nat.ne_of_lt hb)),[],.nil,Heap.DictOf.new h⟩
theorem Pg{P:Program}{w:World}{H:Hp}(h:Heap)(hb:sysModules<h.objs.size):ObjOk P w H (h.push { cls:=.type "dict",data:=.dict #[] }) h.objs.size (.dT []) :=
 ⟨Nat.zero_le _,beq_eq_false_iff_ne.mpr (Ne.symm (Nat.ne_of_lt hb)),[],.nil,_,#[],0,Heap.get?_push_size _ rfl,⟨rfl,rfl,rfl⟩,rfl,rfl,List.nodup_nil⟩
def Lx:List (TE×TE)->St->Hp->(List (V×V)->Hp->Prop)->Prop
 |[],_,H,Q=>Q [] H
 | (tk,tv)::r,σ,H,Q=>tk σ H λ x H1=>tv σ H1 λ y H2=>Lx r σ H2 λ ps H3=>Q ((x,y)::ps) H3
abbrev VV:List (V×V)->List (Value×Value)->Prop:=Paired λ p q=>RelV p.1 q.1/\RelV p.2 q.2
def PPs(X:Cx)(pos:Pos)(keys:List (Option Expr))(values:List Expr)(trs:List (TE×TE)):Prop :=
 ∀(pins:PNz)(s:Shared)(σ:St)(H:Hp)(Q:List (V×V)->Hp->Prop),Inv X pins σ H s->Lx trs σ H Q ->
  wpAny (model X.prog X.w) X.A (evalPairs (pairTrees keys values X.env pos)) (λ vs s'=>∃ps H',Inv X pins σ H' s'/\VV ps vs/\Q ps H') X.xe s
theorem MJ{X:Cx}{pos:Pos}:PPs X pos [] [] []:=λ pins s σ H Q I h=>pairTrees_nil_walk ⟨[],H,I,.nil,h⟩
theorem E4{X:Cx}{pos:Pos}{k v:Expr}{ks:List (Option Expr)}{vs:List Expr}{tk tv:TE}{trs:List (TE×TE)}(hk:PE X k tk)(hv:PE X v tv)(hr:PPs X pos ks vs trs) :
  PPs X pos (some k::ks) (v::vs) ((tk,tv)::trs):=λ pins s σ H Q I h =>
 pairTrees_cons_walk (thn (hk pins s σ H _ I h) λ u s1 ⟨x,H1,I1,rx,q1⟩=>thn (hv pins s1 σ H1 _ I1 q1) λ w2 s2 ⟨y,H2,I2,ry,q2⟩ =>
  thn (hr pins s2 σ H2 _ I2 q2) λ ws s3 ⟨ps,H3,I3,rel,q3⟩=>⟨(x,y)::ps,H3,I3,.cons ⟨rx,ry⟩ rel,q3⟩)
def G0(kvs more:List (Key×V)):List (Key×V):=more.foldl (λ acc kv=>Bv acc kv.1 kv.2) kvs
theorem KV.merge:∀{more:List (Key×V)}{rs:List (Key×Value)}{kvs:List (Key×V)}{vs:List (Key×Value)},KV more rs->KV kvs vs->KV (G0 kvs more) (merged vs rs):=by
 intro more rs kvs vs r;unfold KV at r
 induction r generalizing kvs vs with
 |nil=>intro q;exact q
 |@cons p q ps qs h t ih =>
  intro r0;have e:KV (Bv kvs p.1 p.2) (stored vs q.1 q.2):=by
   have:=r0.put p.1 h.2;rw[<-h.1];exact this
  exact ih e
theorem DR:∀(more kvs:List (Key×V)),(G0 kvs more).length<=kvs.length+more.length
 |[],kvs=>by show kvs.length<=kvs.length+0;lia
 |p::r,kvs=>by
  have h1:=DR r (Bv kvs p.1 p.2);have h2:=Dx kvs p.1 p.2;show(G0 (Bv kvs p.1 p.2) r).length<=_;rw[List.length_cons];lia
theorem GM{P:Program}{w:World}:∀{kvs:List (Key×V)}{ws:List (Value×Value)},VV (kvs.map λ kv=>(kV kv.1,kv.2)) ws->∃rs,Carries (AS P w) ws rs/\KV kvs rs
 |[],_,r=>by rw[List.map_nil]at r;cases r;exact⟨[],True.intro,.nil⟩
 |p::kvs,_,r=>by
  rw[List.map_cons]at r;cases r with
  |@cons a b as bs h t =>
   obtain⟨rs,c,q⟩:=GM (P:=P) (w:=w) t;obtain⟨b1,b2⟩:=b;exact⟨(p.1,b2)::rs,⟨MU h.1,rfl,c⟩,.cons ⟨rfl,h.2⟩ q⟩
def RM(trs:List (TE×TE)):TE:=λ σ H Q=>∀p,H p=none->Lx trs σ (upd H p (.dK [])) λ ps H2=>H2 p=some (.dK [])/\∃kvs:List (Key×V),ps=kvs.map (λ kv=>(kV kv.1,kv.2))/\kvs.length<=15/\Q (.ref p) (upd H2 p (.dK (G0 [] kvs)))
theorem PU{X:Cx}{pos:Pos}{keys:List (Option Expr)}{values:List Expr}{trs:List (TE×TE)}(h:PPs X pos keys values trs)(hall:keys.all (·.isSome)=true)(hl:keys.length=values.length)(h0:keys≠[])
  (h15:keys.length<=15):PE X (.Dict keys values pos) (RM trs):=by
 intro pins s σ H Q I q;have hn:=I.hok.fresh (Nat.le_refl s.heap.objs.size);have I1:=I.laid (a:=s.heap.objs.size) (o:=.dK []) (h':=s.heap.push { cls:=.type "dict",data:=.dict #[] }) (t':=s.toks) (λ_ _ q=>Heap.get?_push_of_some _ q) (Nat.le_refl _) (Pj s.heap I.big);refine wpAny_Dict_walk (knd:=AS X.prog X.w) hall hl h0 h15 (thn (h pins _ σ _ _ I1 (q _ hn)) λ ws s2 hz_=>?_);obtain⟨ps,H2,I2,rel,e,kvs,ep,lk,q2⟩:=hz_;subst ep;obtain⟨rs,c,rk⟩:=GM (P:=X.prog) (w:=X.w) rel;obtain⟨z,hd,vs0,r0,dd⟩:=QB I2.hok e;cases r0;refine⟨rs,c,dd,λ h' dd' hs=>⟨.ref s.heap.objs.size,_,?_,rfl,q2⟩⟩;have hz:(G0 [] kvs).length<=sizeLine:=by
  have h1:=DR kvs [];rw[List.length_nil]at h1;rw[sizeLine_eq];lia
 have he:∃q,h'.get? s.heap.objs.size=some q:=let ⟨q,_,_,hq,_⟩:=dd';⟨q,hq⟩;exact FR I2 (by rw[e];exact True.intro) hs he (Ph hz hd (rk.merge .nil) dd')
def IsD(H:Hp)(a:Addr):Prop:=(∃kvs,Rd H a (.dK kvs))\/∃kvs,Rd H a (.dT kvs)
theorem Ru{X:Cx}{pins:PNz}{σ:St}{H:Hp}{s:Shared}{a:Addr}(I:Inv X pins σ H s)(d:IsD H a) :
  s.TypeIs (.ref a) "dict"/\(∀b,Value.ref a=.ref b->∃ob,s.heap.get? b=some ob/\ob.dict=none)/\(a==sysModules)=false:=by
 rcases d with ⟨kvs,e⟩|⟨kvs,e⟩
 .obtain⟨_,hd,vs,_,dd⟩:=Nd I.hok e;refine⟨dd.typeIs,λ b q=>?_,hd⟩;cases q;obtain⟨ob,_,_,h1,h2,_⟩:=dd;exact⟨ob,h1,h2.2.1⟩
 .obtain⟨_,hd,xs,_,dd⟩:=Nc I.hok e;refine⟨dd.typeIs,λ b q=>?_,hd⟩;cases q;obtain⟨ob,_,_,h1,h2,_⟩:=dd;exact⟨ob,h1,h2.2.1⟩
def Ite(K:Frag)(a:Addr):It :=
 ⟨λ i H=>∃xs x,SqL K H a xs/\xs[i]?=some x,λ i H y H'=>∃t x,(∀xs,SqL K H a xs->xs[i]?=some x)/\y=.ref t/\H t=none/\H'=upd H t (.tup [.int i,x]),λ i H=>∃xs,SqL K H a xs/\xs.length<=i⟩
theorem Il{X:Cx}{pins:PNz}{σ:St}{H:Hp}{s:Shared}{h':Heap}{e it:Addr}{t':Nat}{ys:LUz}(I:Inv X pins σ H s)(fe:Ep X pins H e)(fi:Ep X pins H it)
  (k:∀b o,b≠e->b≠it->s.heap.get? b=some o->h'.get? b=some o) (he:∃o,h'.get? e=some o) (hi:∃o,h'.get? it=some o)
  (new:ObjOk X.prog X.w (upd H s.heap.objs.size (.tup ys)) h' s.heap.objs.size (.tup ys)) :
  Inv X pins σ (upd H s.heap.objs.size (.tup ys)) { s with heap:=h',toks:=t' }:=by
 have hn:H s.heap.objs.size=none:=I.hok.fresh (Nat.le_refl _);obtain⟨e0,e1,e2,e3,e4,e5⟩:=fe;obtain⟨i0,i1,i2,i3,i4,i5⟩:=fi;have nt:∀b u,H b=some u->b≠e/\b≠it:=λ b u q=>⟨λ z=>(by rw[z,e0]at q;cases q),λ z=>(by rw[z,i0]at q;cases q)⟩;have nc:∀b,b∉[e,it]->b≠e/\b≠it:=λ b hb=>⟨λ z=>hb (by simp[z]),λ z=>hb (by simp[z])⟩;have ne:∀b u,H b=some u->b≠s.heap.objs.size:=λ b u q=>Af q hn;refine I.step (g':=s.gens) (d':=s.drawn) (ch:=[e,it]) (λ b hb=>?_) (λ b o _ _ hc q _=>k b o (nc b hc).1 (nc b hc).2 q) (λ b o _ _ hc q _=>⟨o.slots,k b o (nc b hc).1 (nc b hc).2 q⟩)
  (λ b o _ q n=>by rw[Ae (Nat.ne_of_lt (Heap.lt_size q))];exact n) (λ b o hc q=>⟨o,k b o (nc b hc).1 (nc b hc).2 q⟩) (λ b xs q=>by rw[Ae (ne b _ q)];exact q) (λ b o u q=>by rw[Ae (ne b _ q)];exact q)
  (λ b ps q=>⟨#[],by rw[Ae (ne b _ q),q];simp⟩) (λ m hm=>?_) (λ b u q=>?_) I.bare
 .rcases List.mem_cons.mp hb with rfl|hb
  .exact⟨e3,e1,e4,e5⟩
  .rw[List.mem_singleton.mp hb];exact⟨i3,i1,i4,i5⟩
 .obtain⟨o,es,ep,ho,r⟩:=hm;exact⟨o,es,ep,k _ o (Ne.symm e1) (Ne.symm i1) ho,r⟩
 .by_cases hb:b=s.heap.objs.size
  .subst hb;rw[upd_same]at q;cases q;exact new
  .rw[Ae hb]at q;refine(I.hok b u q).stay (λ c v hc z=>k c v ?_ ?_ z) (λ c z=>by rw[Ae (ne c _ z)];exact z) λ c xs z=>by rw[Ae (ne c _ z)];exact z
   .rcases hc with rfl|hc
    .exact(nt c u q).1
    .exact(nt c _ hc).1
   .rcases hc with rfl|hc
    .exact(nt c u q).2
    .exact(nt c _ hc).2
theorem Nx{P:Program}{w:World}{K:Frag}{es:List Expr}{k:Nat}{pos:Pos}(a e it:Addr)(hei:e≠it) :
  Mp P w K (.Tuple es k pos) (Ite K a) [e,it] e (λ i h=>(∃old,IsEnum h e it i old)/\h.IsListIter it a i) where
 mem:=by simp
 obj:=λ i h st b hb=>by
  obtain⟨⟨old,he⟩,⟨o,eo,c,d⟩⟩:=st;rcases List.mem_cons.mp hb with rfl|hb
  .exact⟨_,he,λ v z=>by
    have z':Data.fields _=Data.cell v:=z;cases z'⟩
  .rw[List.mem_singleton.mp hb];exact⟨o,eo,λ v z=>by rw[d]at z;cases z⟩
 keep:=λ i h h' st kk=>by
  obtain⟨⟨old,he⟩,st⟩:=st;exact⟨⟨old,kk e (by simp) _ he⟩,st.at λ o z=>kk it (by simp) o z⟩
 item:=by
  intro X hP hw hK hc i pins s σ H E I hf st hg;subst hP hw hK;obtain⟨⟨old,he⟩,st⟩:=st;obtain⟨xs,x,hq,hx⟩:=hg;obtain⟨its,rv,p,hz⟩:=I.list hq;obtain⟨u,hu,ru⟩:=rv.get hx;have fe:=hf e (by simp);have fi:=hf it (by simp);refine wpAny_pyNext_enum_item he st p.isList (x:=u) (by simpa using hu) hei λ h' he' st' ht hz' kk=>?_;refine⟨_,rfl,?_⟩;have ltE:e<s.heap.objs.size:=Heap.lt_size he;have hn:H s.heap.objs.size=none:=I.hok.fresh (Nat.le_refl _);have I1:Inv X pins σ (upd H s.heap.objs.size (.tup [.int i,x])) { s with heap:=h',toks:=s.toks+1 }:=by
   refine Il I fe fi kk ⟨_,he'⟩ (let ⟨o,eo,_⟩:=st';⟨o,eo⟩) ⟨?_,[.int i s.toks,u],.cons ⟨_,rfl⟩ (.cons ru .nil),⟨_,ht,rfl,_,rfl⟩⟩;show 2<=sizeLine;decide
  refine wpAny_letOwnedTupleGo_enum (s:={ s with heap:=h',toks:=s.toks+1 }) he' λ h2 he2 sb=>?_;have neE:e≠s.heap.objs.size:=Nat.ne_of_lt ltE;have fe2:(upd H s.heap.objs.size (.tup [.int i,x])) e=none:=by rw[Ae neE];exact fe.1
  have I2:Inv X pins σ (upd H s.heap.objs.size (.tup [.int i,x])) { ({ s with heap:=h',toks:=s.toks+1 }:Shared) with heap:=h2,toks:=s.toks+1 } :=
   I1.turned (t':=s.toks+1) (it:=e) (λ b o hb z=>(sb.2 b hb).trans z) fe2 fe.2.1 fe.2.2.2.1 fe.2.2.2.2.1 fe.2.2.2.2.2
  obtain⟨oi,hoi,_⟩:=id st;have ltI:it<s.heap.objs.size:=Heap.lt_size hoi;refine⟨.ref s.heap.objs.size,_,I2,rfl,⟨_,x,λ ys hy=>by rw[I.list_inj hy hq];exact hx,rfl,hn,rfl⟩,⟨⟨u,?_⟩,?_⟩,λ b hb=>?_⟩
  .have e1:((i+1:Nat):Int)=(i:Int)+1:=by push_cast;rfl
   rw[e1];exact he2
  .exact st'.at λ o z=>(sb.2 it (Ne.symm hei)).trans z
  .rcases List.mem_cons.mp hb with rfl|hb
   .exact fe2
   .rw[List.mem_singleton.mp hb,Ae (Nat.ne_of_lt ltI)];exact fi.1
 done:=by
  intro X hP hw hK hc i pins s σ H E I hf st hg;subst hP hw hK;obtain⟨⟨old,he⟩,st⟩:=st;obtain⟨xs,hq,hx⟩:=hg;obtain⟨its,rv,p,hz⟩:=I.list hq;obtain⟨f0,f1,f2,f3,f4,f5⟩:=hf it (by simp);have hl:=rv.length;exact wpAny_pyNext_enum_end (I.ok.hd hc) he st p.isList (by simp;lia) λ h' eb=>⟨rfl,I.turned (t':=s.toks) (λ b o hb z=>eb b o hb z) f0 f1 f3 f4 f5⟩
 self:=λ_ _ _ _ _ st h=>by
  obtain⟨⟨old,he⟩,_⟩:=st;exact wpAny_pyIter_enum he h
def Sq(K:Frag)(ta:TA):TI:=λ σ H R=>ta σ H λ vs H1=>∃a,vs=[.ref a]/\(∃xs,SqL K H1 a xs)/\R (Ite K a) H1
section
variable{X:Cx}
theorem Jc{a:Expr}{es:List Expr}{k:Nat}{tpos:Pos}{ta:TA}{p pos:Pos}(hg:Gl X "enumerate")(hm:X.mg "enumerate"=none)(ha:PA X [a] ta)(hs:starEach [a] X.env=[(false,eval a X.env)]:=by rfl) :
  PI X (.Tuple es k tpos) (.Call (.Name "enumerate" p) [a] [] pos) (Sq X.K ta):=by
 intro pins s σ H R I h;refine Call_ (Fc I hg hm boot_enumerate (PyProof.Rows.callWith_type1 (thn (ha pos pins s σ H _ I h) λ us s1 hz_=>?_) hs rfl));obtain⟨vs,H1,I1,r1,q1⟩:=hz_;obtain⟨b,e,⟨xs,hq⟩,q⟩:=q1;subst e;cases r1 with
 |cons r rr =>
  cases rr;cases r;obtain⟨its,rv,pl,hz⟩:=I1.list hq;refine call_enumerate_list pl.isList λ h' he hit hsz hk=>?_;have I2:Inv X pins σ H1 { s1 with heap:=h' }:=I1.kept (t':=s1.toks) hk;refine wpAny_pyIter_enum (s:={ s1 with heap:=h' }) he ?_;refine⟨s1.heap.objs.size+1,[s1.heap.objs.size+1,s1.heap.objs.size],_,_,H1,rfl,I2,Nx b _ _ (Nat.succ_ne_self _),⟨⟨_,he⟩,hit⟩,λ c hc=>?_,q⟩;rcases List.mem_cons.mp hc with rfl|hc
  .exact I1.fpOk (Nat.le_succ _) (I1.hok.fresh (Nat.le_succ _))
  .rw[List.mem_singleton.mp hc];exact I1.fpOk (Nat.le_refl _) (I1.hok.fresh (Nat.le_refl _))
end
theorem KC{K:Frag}{a:Addr}{xs:LUz}{g:TG}{tb:TS}{D:Er}{σ:St}{H:Hp}(Pv:Nat->St->Hp->Prop)(h0:Pv 0 σ H)(hl:∀i σ H,i<=xs.length->Pv i σ H->SqL K H a xs)
  (hs:∀i x σ H t,xs[i]?=some x->Pv i σ H->H t=none->g (.ref t) σ (upd H t (.tup [.int i,x])) λ σ2 H2=>tb { D with nx:=Pv (i+1),ct:=Pv (i+1),bk:=D.nx } σ2 H2) (hd:∀σ H,Pv xs.length σ H->D.nx σ H) :
  ∃W:Nat->Nat->St->Hp->Prop,(∃m,W 0 m σ H)/\∀i m σ H,W i m σ H ->
   ((Ite K a).stop i H/\D.nx σ H)\/((Ite K a).go i H/\∃N:St->Hp->Prop,(∀σ' H',N σ' H'->∃m',m'<m/\W (i+1) m' σ' H')/\∀x H',(Ite K a).yld i H x H'->g x σ H' λ σ2 H2=>tb { D with nx:=N,ct:=N,bk:=D.nx } σ2 H2):=by
 refine⟨λ i m σ H=>m=xs.length-i/\i<=xs.length/\Pv i σ H,⟨xs.length,by simp,Nat.zero_le _,h0⟩,?_⟩;rintro i m σ H ⟨rfl,hi,p⟩;have q:=hl i σ H hi p;by_cases hlt:i<xs.length
 .refine .inr ⟨⟨xs,xs[i],q,by simp[hlt]⟩,Pv (i+1),λ σ' H' p'=>⟨xs.length-(i+1),by lia,rfl,hlt,p'⟩,λ x H' y=>?_⟩;obtain⟨t,z,hz,rfl,ht,rfl⟩:=y;exact hs i z σ H t (hz xs q) p ht
 .have e:i=xs.length:=by lia
  subst e;exact .inl ⟨⟨xs,q,Nat.le_refl _⟩,hd σ H p⟩
open PySem.SeqAt
mutual
inductive D where
 |at (v:V)
 |tup (xs:Ds)
 |lst (xs:Ds)
inductive Ds where
 |nil
 |cons (d:D) (r:Ds)
end
mutual
def DIs(K:Frag)(H:Hp):D->V->Prop
 |.at u,v=>v=u/\Co u=true
 |.tup ds,v=>∃a xs,v=.ref a/\SqT K H a xs/\DIss K H ds xs
 |.lst ds,v=>∃a xs,v=.ref a/\SqL K H a xs/\DIss K H ds xs
def DIss(K:Frag)(H:Hp):Ds->LUz->Prop
 |.nil,xs=>xs=[]
 |.cons d r,xs=>∃x ys,xs=x::ys/\DIs K H d x/\DIss K H r ys
end
mutual
def dep:D->Nat
 |.at _=>0
 |.tup ds=>Bi ds+1
 |.lst ds=>Bi ds+1
def Bi:Ds->Nat
 |.nil=>0
 |.cons d r=>max (dep d) (Bi r)
end
mutual
def deq:D->D->Bool
 |.at u,.at v=>eqV u v
 |.tup xs,.tup ys=>D6 xs ys
 |.lst xs,.lst ys=>D6 xs ys
 |_,_=>false
def D6:Ds->Ds->Bool
 |.nil,.nil=>true
 |.cons d r,.cons e q=>deq d e&&D6 r q
 |_,_=>false
end
def Ds.len:Ds->Nat
 |.nil=>0
 |.cons _ r=>r.len+1
def Ds.get:Ds->Nat->D
 |.nil,_=>.at .non
 |.cons d _,0=>d
 |.cons _ r,i+1=>r.get i
theorem BH:∀(ds es:Ds),((List.range (min ds.len es.len)).all (λ j=>deq (ds.get j) (es.get j))&&ds.len==es.len)=D6 ds es
 |.nil,.nil=>rfl
 |.nil,.cons e q=>by simp[Ds.len,D6]
 |.cons d r,.nil=>by simp[Ds.len,D6]
 |.cons d r,.cons e q=>by
  have ih:=BH r q;rw[show D6 (.cons d r) (.cons e q)=(deq d e&&D6 r q) from by rw[D6],<-ih];show((List.range (min (r.len+1) (q.len+1))).all _&&(r.len+1==q.len+1))=_;rw[show min (r.len+1) (q.len+1)=min r.len q.len+1 by lia,List.range_succ_eq_map,List.all_cons,List.all_map,Bool.and_assoc];congr 1;rw[show(r.len+1==q.len+1)=(r.len==q.len) by simp];rfl
mutual
theorem Cp:∀{K:Frag}{H:Hp}(d:D){v:V},DIs K H d v->deq d d=true
 |_,_,.at u,v,h=>by
  obtain⟨_,hf⟩:=(show v=u/\Co u=true by simpa [DIs] using h);rw[deq];cases u<;>simp_all [Co,eqV]
 |_,_,.tup ds,v,h=>by
  rw[DIs]at h;obtain⟨a,xs,_,_,q⟩:=h;rw[deq];exact Fi ds q
 |_,_,.lst ds,v,h=>by
  rw[DIs]at h;obtain⟨a,xs,_,_,q⟩:=h;rw[deq];exact Fi ds q
theorem Fi:∀{K:Frag}{H:Hp}(ds:Ds){xs:LUz},DIss K H ds xs->D6 ds ds=true
 |_,_,.nil,_,_=>by rw[D6]
 |_,_,.cons d r,xs,h=>by
  rw[DIss]at h;obtain⟨x,ys,_,h1,h2⟩:=h;rw[D6,Cp d h1,Fi r h2];rfl
end
theorem DIss.len{K:Frag}{H:Hp}:∀{ds:Ds}{xs:LUz},DIss K H ds xs->ds.len=xs.length
 |.nil,xs,h=>by rw[DIss]at h;rw[h];rfl
 |.cons d r,xs,h=>by
  rw[DIss]at h;obtain⟨x,ys,rfl,_,h2⟩:=h;show r.len+1=ys.length+1;rw[DIss.len h2]
theorem DIss.get{K:Frag}{H:Hp}:∀{ds:Ds}{xs:LUz}{i:Nat}{x:V},DIss K H ds xs->xs[i]?=some x->DIs K H (ds.get i) x
 |.nil,xs,i,x,h,e=>by rw[DIss]at h;rw[h]at e;simp at e
 |.cons d r,xs,i,x,h,e=>by
  rw[DIss]at h;obtain⟨y,ys,rfl,h1,h2⟩:=h;cases i with
  |zero=>simp at e;subst e;exact h1
  |succ i =>
   show DIs K H (r.get i) x;exact DIss.get h2 (by simpa using e)
theorem FQ:∀(ds:Ds)(i:Nat),i<ds.len->dep (ds.get i)<=Bi ds
 |.nil,i,h=>absurd h (by simp[Ds.len])
 |.cons d r,0,_=>by show dep d<=_;rw[Bi];lia
 |.cons d r,i+1,h=>by
  have:=FQ r i (by simpa [Ds.len] using h);show dep (r.get i)<=_;rw[Bi];lia
section
variable{X:Cx}{pins:PNz}{σ:St}{H:Hp}{s:Shared}
mutual
theorem DIs.inj(I:Inv X pins σ H s):∀{d e:D}{v:V},DIs X.K H d v->DIs X.K H e v->d=e
 |.at u,.at w',v,h,h'=>by
  rw[DIs]at h;rw[DIs]at h';rw[<-h.1,<-h'.1]
 |.at u,.tup ds,v,h,h'=>by
  rw[DIs]at h;rw[DIs]at h';obtain⟨a,xs,e,_⟩:=h';have:=h.2;rw[<-h.1,e]at this;cases this
 |.at u,.lst ds,v,h,h'=>by
  rw[DIs]at h;rw[DIs]at h';obtain⟨a,xs,e,_⟩:=h';have:=h.2;rw[<-h.1,e]at this;cases this
 |.tup ds,.at u,v,h',h=>by
  rw[DIs]at h;rw[DIs]at h';obtain⟨a,xs,e,_⟩:=h';have:=h.2;rw[<-h.1,e]at this;cases this
 |.lst ds,.at u,v,h',h=>by
  rw[DIs]at h;rw[DIs]at h';obtain⟨a,xs,e,_⟩:=h';have:=h.2;rw[<-h.1,e]at this;cases this
 |.tup ds,.tup es,v,h,h'=>by
  rw[DIs]at h;rw[DIs]at h';obtain⟨a,xs,rfl,h1,h2⟩:=h;obtain⟨b,ys,e,k1,k2⟩:=h';cases e;have e:=I.tuple_inj h1 k1;subst e;rw[DIss.inj I h2 k2]
 |.lst ds,.lst es,v,h,h'=>by
  rw[DIs]at h;rw[DIs]at h';obtain⟨a,xs,rfl,h1,h2⟩:=h;obtain⟨b,ys,e,k1,k2⟩:=h';cases e;have e:=I.list_inj h1 k1;subst e;rw[DIss.inj I h2 k2]
 |.tup ds,.lst es,v,h,h'=>by
  rw[DIs]at h;rw[DIs]at h';obtain⟨a,xs,rfl,h1,h2⟩:=h;obtain⟨b,ys,e,k1,k2⟩:=h';cases e;obtain⟨_,_,t1,_⟩:=I.tuple h1;obtain⟨_,_,t2,_⟩:=I.list k1;exact absurd rfl (ne_of_list_tuple t2.isList (show s.heap.IsTuple a _ from t1))
 |.lst ds,.tup es,v,h,h'=>by
  rw[DIs]at h;rw[DIs]at h';obtain⟨a,xs,rfl,h1,h2⟩:=h;obtain⟨b,ys,e,k1,k2⟩:=h';cases e;obtain⟨_,_,t1,_⟩:=I.tuple k1;obtain⟨_,_,t2,_⟩:=I.list h1;exact absurd rfl (ne_of_list_tuple t2.isList (show s.heap.IsTuple a _ from t1))
theorem DIss.inj(I:Inv X pins σ H s):∀{ds es:Ds}{xs:LUz},DIss X.K H ds xs->DIss X.K H es xs->ds=es
 |.nil,.nil,xs,h,h'=>rfl
 |.nil,.cons d r,xs,h,h'=>by
  rw[DIss]at h;rw[DIss]at h';obtain⟨x,ys,e,_⟩:=h';rw[h]at e;cases e
 |.cons d r,.nil,xs,h',h=>by
  rw[DIss]at h;rw[DIss]at h';obtain⟨x,ys,e,_⟩:=h';rw[h]at e;cases e
 |.cons d r,.cons e q,xs,h,h'=>by
  rw[DIss]at h;rw[DIss]at h';obtain⟨x,ys,rfl,h1,h2⟩:=h;obtain⟨y,zs,e',k1,k2⟩:=h';cases e';rw[DIs.inj I h1 k1,DIss.inj I h2 k2]
end
theorem GD{A:Around}{u:V}{x:Value}{l:Addr}{items:Array Value}(r:RelV u x)(f:Co u=true)(hl:s.heap.IsTuple l items)(hu:A.units<cLine):EqAt A s x (.ref l) false/\EqAt A s (.ref l) x false:=by
 cases u with
 |non=>cases r;exact⟨.none_tuple hl hu,.tuple_none hl hu⟩
 |bl b=>cases r;exact⟨.bool_tuple b hl hu,.tuple_bool b hl hu⟩
 |int b=>obtain⟨t,rfl⟩:=r;exact⟨.int_tuple b t hl hu,.tuple_int b t hl hu⟩
 |str b=>obtain⟨t,rfl⟩:=r;exact⟨.str_tuple b t hl hu,.tuple_str b t hl hu⟩
 |_=>exact absurd (show false=true from f) Bool.false_ne_true
theorem GF{A:Around}{u:V}{x:Value}{l:Addr}{items:Array Value}(r:RelV u x)(f:Co u=true)(hl:s.heap.IsList l items)(hu:A.units<cLine):EqAt A s x (.ref l) false/\EqAt A s (.ref l) x false:=by
 cases u with
 |non=>cases r;exact⟨.none_list hl hu,.list_none hl hu⟩
 |bl b=>cases r;exact⟨.bool_list b hl hu,.list_bool b hl hu⟩
 |int b=>obtain⟨t,rfl⟩:=r;exact⟨.int_list b t hl hu,.list_int b t hl hu⟩
 |str b=>obtain⟨t,rfl⟩:=r;exact⟨.str_list b t hl hu,.list_str b t hl hu⟩
 |_=>exact absurd (show false=true from f) Bool.false_ne_true
theorem Pc(I:Inv X pins σ H s):∀(n:Nat)(A:Around)(d e:D)(x y:V)(u v:Value),dep d<=n->DIs X.K H d x->DIs X.K H e y->RelV x u->RelV y v->A.units+n<cLine->EqAt A s u v (deq d e):=by
 intro n
 induction n with
 |zero =>
  intro A d e x y u v hn hd he rx ry hu;cases d with
  |tup ds=>rw[dep]at hn;lia
  |lst ds=>rw[dep]at hn;lia
  | «at» p =>
   rw[DIs]at hd;obtain⟨rfl,hf⟩:=hd;cases e with
   | «at» q =>
    rw[DIs]at he;obtain⟨rfl,hg⟩:=he;rw[deq];exact Mg rx ry hf hg
   |tup es =>
    rw[DIs]at he;obtain⟨b,ys,rfl,h1,_⟩:=he;obtain⟨_,_,t,_⟩:=I.tuple h1;cases ry;rw[deq]
    .exact(GD rx hf (show s.heap.IsTuple b _ from t) hu).1
    all_goals (intros;simp_all)
   |lst es =>
    rw[DIs]at he;obtain⟨b,ys,rfl,h1,_⟩:=he;obtain⟨_,_,t,_⟩:=I.list h1;cases ry;rw[deq]
    .exact(GF rx hf t.isList hu).1
    all_goals (intros;simp_all)
 |succ n ih =>
  intro A d e x y u v hn hd he rx ry hu;have hu1:A.in1.units+n<cLine:=by show A.units+1+n<cLine;lia
  cases d with
  | «at» p =>
   rw[DIs]at hd;obtain⟨rfl,hf⟩:=hd;cases e with
   | «at» q =>
    rw[DIs]at he;obtain⟨rfl,hg⟩:=he;rw[deq];exact Mg rx ry hf hg
   |tup es =>
    rw[DIs]at he;obtain⟨b,ys,rfl,h1,_⟩:=he;obtain⟨_,_,t,_⟩:=I.tuple h1;cases ry;rw[deq]
    .exact(GD rx hf (show s.heap.IsTuple b _ from t) (by lia)).1
    all_goals (intros;simp_all)
   |lst es =>
    rw[DIs]at he;obtain⟨b,ys,rfl,h1,_⟩:=he;obtain⟨_,_,t,_⟩:=I.list h1;cases ry;rw[deq]
    .exact(GF rx hf t.isList (by lia)).1
    all_goals (intros;simp_all)
  |tup ds =>
   have hd0:=hd;rw[dep]at hn;rw[DIs]at hd;obtain⟨a,xs,rfl,h1,h2⟩:=hd;obtain⟨i1,r1,t1,_⟩:=I.tuple h1;cases rx;cases e with
   | «at» q =>
    rw[DIs]at he;obtain⟨rfl,hg⟩:=he;rw[deq]
    .exact(GD ry hg (show s.heap.IsTuple a _ from t1) (by lia)).2
    all_goals (intros;simp_all)
   |lst es =>
    rw[DIs]at he;obtain⟨b,ys,rfl,k1,_⟩:=he;obtain⟨_,_,t2,_⟩:=I.list k1;cases ry;rw[deq]
    .exact EqAt.tuple_list (show s.heap.IsTuple a _ from t1) t2.isList (by lia)
    all_goals (intros;simp_all)
   |tup es =>
    have he0:=he;rw[DIs]at he;obtain⟨b,ys,rfl,k1,k2⟩:=he;obtain⟨i2,r2,t2,_⟩:=I.tuple k1;cases ry;by_cases hab:a=b
    .subst hab;rw[DIs.inj I he0 hd0,Cp _ hd0];exact EqAt.same _
    .refine EqAt.of_refs hab ?_;have:=RcAt.tuples (A:=A) (e:=λ j=>deq (ds.get j) (es.get j)) (show s.heap.IsTuple a i1.toArray from t1) (show s.heap.IsTuple b i2.toArray from t2) (by lia) λ j g1 g2=>?_
     .have l1:=r1.length;have l2:=r2.length;have m1:=h2.len;have m2:=k2.len;rw[List.size_toArray,List.size_toArray,<-l1,<-l2,<-m1,<-m2,BH]at this;rw[deq];exact this
     .have l1:=r1.length;have l2:=r2.length;have m1:=h2.len;have g1':j<xs.length:=by simp at g1;lia
      have g2':j<ys.length:=by simp at g2;lia
      obtain⟨u1,e1,q1⟩:=r1.get (List.getElem?_eq_getElem g1');obtain⟨u2,e2,q2⟩:=r2.get (List.getElem?_eq_getElem g2');have d1:i1.toArray[j]=u1:=by
       have:i1[j]?=some i1.toArray[j]:=by simp
       rw[e1]at this;exact(Option.some.inj this).symm
      have d2:i2.toArray[j]=u2:=by
       have:i2[j]?=some i2.toArray[j]:=by simp
       rw[e2]at this;exact(Option.some.inj this).symm
      rw[d1,d2];exact ih _ _ _ _ _ _ _ (Nat.le_trans (FQ ds j (by lia)) (by lia)) (h2.get (List.getElem?_eq_getElem g1')) (k2.get (List.getElem?_eq_getElem g2')) q1 q2 hu1
  |lst ds =>
   have hd0:=hd;rw[dep]at hn;rw[DIs]at hd;obtain⟨a,xs,rfl,h1,h2⟩:=hd;obtain⟨i1,r1,t1,_⟩:=I.list h1;cases rx;cases e with
   | «at» q =>
    rw[DIs]at he;obtain⟨rfl,hg⟩:=he;rw[deq]
    .exact(GF ry hg t1.isList (by lia)).2
    all_goals (intros;simp_all)
   |tup es =>
    rw[DIs]at he;obtain⟨b,ys,rfl,k1,_⟩:=he;obtain⟨_,_,t2,_⟩:=I.tuple k1;cases ry;rw[deq]
    .exact EqAt.list_tuple t1.isList (show s.heap.IsTuple b _ from t2) (by lia)
    all_goals (intros;simp_all)
   |lst es =>
    have he0:=he;rw[DIs]at he;obtain⟨b,ys,rfl,k1,k2⟩:=he;obtain⟨i2,r2,t2,_⟩:=I.list k1;cases ry;by_cases hab:a=b
    .subst hab;rw[DIs.inj I he0 hd0,Cp _ hd0];exact EqAt.same _
    .refine EqAt.of_refs hab ?_;have l1:=r1.length;have l2:=r2.length;have m1:=h2.len;have m2:=k2.len;rw[deq];rw[<-BH];by_cases hz:ds.len=es.len
     .have:=RcAt.lists (A:=A) (e:=λ j=>deq (ds.get j) (es.get j)) t1.isList t2.isList (by simp;lia) (by lia) λ j g1 g2=>?_
      .rw[List.size_toArray,<-l1,<-m1]at this;rw[hz,Nat.min_self,beq_self_eq_true,Bool.and_true,<-hz];exact this
      .have g1':j<xs.length:=by simp at g1;lia
       have g2':j<ys.length:=by simp at g2;lia
       obtain⟨u1,e1,q1⟩:=r1.get (List.getElem?_eq_getElem g1');obtain⟨u2,e2,q2⟩:=r2.get (List.getElem?_eq_getElem g2');have d1:i1.toArray[j]=u1:=by
        have:i1[j]?=some i1.toArray[j]:=by simp
        rw[e1]at this;exact(Option.some.inj this).symm
       have d2:i2.toArray[j]=u2:=by
        have:i2[j]?=some i2.toArray[j]:=by simp
        rw[e2]at this;exact(Option.some.inj this).symm
       rw[d1,d2];exact ih _ _ _ _ _ _ _ (Nat.le_trans (FQ ds j (by lia)) (by lia)) (h2.get (List.getElem?_eq_getElem g1')) (k2.get (List.getElem?_eq_getElem g2')) q1 q2 hu1
     .have e0:(ds.len==es.len)=false:=by simpa using hz
      rw[e0,Bool.and_false];exact RcAt.lists_lengths t1.isList t2.isList (by simp;lia) (by lia)
end
section
variable{X:Cx}
theorem FP{pins:PNz}{σ:St}{H:Hp}{s:Shared}(I:Inv X pins σ H s){A:Around}{ds es:Ds}{xs ys:LUz}{i1 i2:LWz}(h2:DIss X.K H ds xs)(k2:DIss X.K H es ys)(r1:Vals xs i1)(r2:Vals ys i2)
  (hu:A.units+60<cLine) (hd:Bi ds<=50):∀j (g1:j<i1.toArray.size) (g2:j<i2.toArray.size),EqAt A.in1 s i1.toArray[j] i2.toArray[j] (deq (ds.get j) (es.get j)):=λ j g1 g2=>by
 have l1:=r1.length;have l2:=r2.length;have m1:=h2.len;have g1':j<xs.length:=by simp at g1;lia
 have g2':j<ys.length:=by simp at g2;lia
 obtain⟨u1,e1,q1⟩:=r1.get (List.getElem?_eq_getElem g1');obtain⟨u2,e2,q2⟩:=r2.get (List.getElem?_eq_getElem g2');have d1:i1.toArray[j]=u1:=by
  have:i1[j]?=some i1.toArray[j]:=by simp
  rw[e1]at this;exact(Option.some.inj this).symm
 have d2:i2.toArray[j]=u2:=by
  have:i2[j]?=some i2.toArray[j]:=by simp
  rw[e2]at this;exact(Option.some.inj this).symm
 rw[d1,d2];exact Pc I 50 _ _ _ _ _ _ _ (Nat.le_trans (FQ ds j (by lia)) hd) (h2.get (List.getElem?_eq_getElem g1')) (k2.get (List.getElem?_eq_getElem g2')) q1 q2 (by show A.units+1+50<cLine;lia)
def RY(K:Frag)(neg:Bool):R2:=λ x y H Q=>∃d e,DIs K H d x/\DIs K H e y/\(∃a,x=.ref a)/\(∃b,y=.ref b)/\dep d<=50/\Q (.bl (if neg then !deq d e else deq d e)) H
theorem OE{k:Nat}(hr:Room k X.A):OpR X (compareOp .Eq) (RY X.K false):=by
 intro pins s σ H x y v u Q I rx ry h;obtain⟨d,e,hd,he,⟨a,rfl⟩,⟨b,rfl⟩,hn,q⟩:=h;cases rx;cases ry;have hu:=hr.units;cases d with
 | «at» p=>rw[DIs]at hd;obtain⟨rfl,hf⟩:=hd;cases hf
 |tup ds =>
  rw[dep]at hn;rw[DIs]at hd;obtain⟨a',xs,e',h1,h2⟩:=hd;cases e';obtain⟨i1,r1,t1,_⟩:=I.tuple h1;cases e with
  | «at» p=>rw[DIs]at he;obtain⟨rfl,hf⟩:=he;cases hf
  |tup es =>
   rw[DIs]at he;obtain⟨b',ys,e',k1,k2⟩:=he;cases e';obtain⟨i2,r2,t2,_⟩:=I.tuple k1;refine RcAt.tuples (show s.heap.IsTuple a i1.toArray from t1) (show s.heap.IsTuple b i2.toArray from t2) (by lia) (FP I h2 k2 r1 r2 (by lia) (by lia)) _ _ _ _ ⟨.bl _,H,I,?_,q⟩;show Value.bool _=Value.bool _;rw[List.size_toArray,List.size_toArray,<-r1.length,<-r2.length,<-h2.len,<-k2.len,BH];simp only[Bool.false_eq_true,if_false];rw[deq]
  |lst es =>
   rw[DIs]at he;obtain⟨b',ys,e',k1,k2⟩:=he;cases e';obtain⟨i2,r2,t2,_⟩:=I.list k1;refine RcAt.tuple_list (show s.heap.IsTuple a _ from t1) t2.isList (by lia) _ _ _ _ ⟨.bl _,H,I,?_,q⟩;show Value.bool _=Value.bool _;simp only[Bool.false_eq_true,if_false];rw[deq]<;>(intros;simp_all)
 |lst ds =>
  rw[dep]at hn;rw[DIs]at hd;obtain⟨a',xs,e',h1,h2⟩:=hd;cases e';obtain⟨i1,r1,t1,_⟩:=I.list h1;cases e with
  | «at» p=>rw[DIs]at he;obtain⟨rfl,hf⟩:=he;cases hf
  |tup es =>
   rw[DIs]at he;obtain⟨b',ys,e',k1,k2⟩:=he;cases e';obtain⟨i2,r2,t2,_⟩:=I.tuple k1;refine RcAt.list_tuple t1.isList (show s.heap.IsTuple b _ from t2) (by lia) _ _ _ _ ⟨.bl _,H,I,?_,q⟩;show Value.bool _=Value.bool _;simp only[Bool.false_eq_true,if_false];rw[deq]<;>(intros;simp_all)
  |lst es =>
   rw[DIs]at he;obtain⟨b',ys,e',k1,k2⟩:=he;cases e';obtain⟨i2,r2,t2,_⟩:=I.list k1;have l1:=r1.length;have l2:=r2.length;have m1:=h2.len;have m2:=k2.len;by_cases hz:ds.len=es.len
   .refine RcAt.lists t1.isList t2.isList (by simp;lia) (by lia) (FP I h2 k2 r1 r2 (by lia) (by lia)) _ _ _ _ ⟨.bl _,H,I,?_,q⟩;show Value.bool _=Value.bool _;simp only[Bool.false_eq_true,if_false];rw[deq,<-BH,List.size_toArray,<-l1,<-m1,hz,Nat.min_self,beq_self_eq_true,Bool.and_true]
   .refine RcAt.lists_lengths t1.isList t2.isList (by simp;lia) (by lia) _ _ _ _ ⟨.bl _,H,I,?_,q⟩;show Value.bool _=Value.bool _;have e0:(ds.len==es.len)=false:=by simpa using hz
    simp only[Bool.false_eq_true,if_false];rw[deq,<-BH,e0,Bool.and_false]
theorem Je{k:Nat}(hr:Room k X.A):OpR X (compareOp .NotEq) (RY X.K true):=by
 intro pins s σ H x y v u Q I rx ry h;obtain⟨d,e,hd,he,⟨a,rfl⟩,⟨b,rfl⟩,hn,q⟩:=h;cases rx;cases ry;have hu:=hr.units;cases d with
 | «at» p=>rw[DIs]at hd;obtain⟨rfl,hf⟩:=hd;cases hf
 |tup ds =>
  rw[dep]at hn;rw[DIs]at hd;obtain⟨a',xs,e',h1,h2⟩:=hd;cases e';obtain⟨i1,r1,t1,_⟩:=I.tuple h1;cases e with
  | «at» p=>rw[DIs]at he;obtain⟨rfl,hf⟩:=he;cases hf
  |tup es =>
   rw[DIs]at he;obtain⟨b',ys,e',k1,k2⟩:=he;cases e';obtain⟨i2,r2,t2,_⟩:=I.tuple k1;refine RcNeAt.tuples (show s.heap.IsTuple a i1.toArray from t1) (show s.heap.IsTuple b i2.toArray from t2) (by lia) (FP I h2 k2 r1 r2 (by lia) (by lia)) _ _ _ _ ⟨.bl _,H,I,?_,q⟩;show Value.bool _=Value.bool _;rw[List.size_toArray,List.size_toArray,<-r1.length,<-r2.length,<-h2.len,<-k2.len,BH];simp only[if_true];rw[deq]
  |lst es =>
   rw[DIs]at he;obtain⟨b',ys,e',k1,k2⟩:=he;cases e';obtain⟨i2,r2,t2,_⟩:=I.list k1;refine RcNeAt.tuple_list (show s.heap.IsTuple a _ from t1) t2.isList (by lia) _ _ _ _ ⟨.bl _,H,I,?_,q⟩;show Value.bool _=Value.bool _;simp only[if_true];rw[deq]<;>first|rfl|(intros;simp_all)
 |lst ds =>
  rw[dep]at hn;rw[DIs]at hd;obtain⟨a',xs,e',h1,h2⟩:=hd;cases e';obtain⟨i1,r1,t1,_⟩:=I.list h1;cases e with
  | «at» p=>rw[DIs]at he;obtain⟨rfl,hf⟩:=he;cases hf
  |tup es =>
   rw[DIs]at he;obtain⟨b',ys,e',k1,k2⟩:=he;cases e';obtain⟨i2,r2,t2,_⟩:=I.tuple k1;refine RcNeAt.list_tuple t1.isList (show s.heap.IsTuple b _ from t2) (by lia) _ _ _ _ ⟨.bl _,H,I,?_,q⟩;show Value.bool _=Value.bool _;simp only[if_true];rw[deq]<;>first|rfl|(intros;simp_all)
  |lst es =>
   rw[DIs]at he;obtain⟨b',ys,e',k1,k2⟩:=he;cases e';obtain⟨i2,r2,t2,_⟩:=I.list k1;have l1:=r1.length;have l2:=r2.length;have m1:=h2.len;have m2:=k2.len;by_cases hz:ds.len=es.len
   .refine RcNeAt.lists t1.isList t2.isList (by simp;lia) (by lia) (FP I h2 k2 r1 r2 (by lia) (by lia)) _ _ _ _ ⟨.bl _,H,I,?_,q⟩;show Value.bool _=Value.bool _;simp only[if_true];rw[deq,<-BH,List.size_toArray,<-l1,<-m1,hz,Nat.min_self,beq_self_eq_true,Bool.and_true]
   .refine RcNeAt.lists_lengths t1.isList t2.isList (by simp;lia) (by lia) _ _ _ _ ⟨.bl _,H,I,?_,q⟩;show Value.bool _=Value.bool _;have e0:(ds.len==es.len)=false:=by simpa using hz
    simp only[if_true];rw[deq,<-BH,e0,Bool.and_false];rfl
end
structure M0(P:Program)(w:World)(K:Frag)(mg:MGz)(base:Heap)(k:Nat)(x:Str)(C:Addr)(ps:LSz)(sp:Sp):Prop where
 ex:∃(f:Addr)(fd:FuncData),Mk K C f/\A8 P w K mg base CX0 k f fd ps sp/\mg x=some (.ref C)/\Binds K fd ps []
structure GZ(P:Program)(w:World)(K:Frag)(mg:MGz)(base:Heap)(k:Nat)(C:Addr)(m:Str)(ps:LSz)(sp:Sp):Prop where
 cl:Cls K C
 ex:∃(f:Addr)(fd:FuncData),Pu K C m f/\A8 P w K mg base CX0 k f fd ps sp/\Binds K fd ps []
section
variable{X:Cx}{k j:Nat}{x m:Str}{C:Addr}{ps:LSz}{sp:Sp}{p pos apos:Pos}{e o:Expr}{es:List Expr}{t:TA}{ta:TE}
theorem ML(D:M0 X.prog X.w X.K X.mg X.base k x C ps sp)(hr:Room j X.A)(ha:PA X (e::es) t)(hj:k+1<=j:=by decide)(hg:Gl X x:=by rfl)(hdb:(x==("__debug__":Str))=false:=by decide)
  (he:starEach (e::es) X.env=(false,eval e X.env)::starEach es X.env:=by rfl) (hpl:(backTo pos (starEach es X.env)).any (·.1)=false:=by rfl):PE X (.Call (.Name x p) (e::es) [] pos) (Qz C sp [] E0 t):=by
 obtain⟨f,fd,M,F,hm,hb⟩:=D.ex;exact PR M F (hr.mono hj) hg hm hb .nil HZ ha hdb he hpl
theorem C4{pl:Sem Bool}(D:GZ X.prog X.w X.K X.mg X.base k C m ps sp)(hr:Room j X.A)(he:PE X o ta)(hj:k<=j:=by decide)
    (ht:eval (.Call (.Attribute o m apos) [] [] pos) X.env=(do
      let ov <-eval o X.env
      standAt apos.atName
      let (f,first) <-holding [ov] (getMethod ov m pl)
      callWith pos f first (backTo pos (starEach [] X.env)) (backToKw pos (keywordEach [] X.env))):=by rfl):PE X (.Call (.Attribute o m apos) [] [] pos) (JZ C m sp [] E0 ta QO):=by
  obtain⟨f,fd,M,F,hb⟩:=D.ex;exact OC he D.cl M F (hr.mono hj) hb .nil HZ ht
end
section
variable{X:Cx}{K:Frag}{pos:Pos}
theorem AV{es:List Expr}{k:Nat}{t:TGs}{n:Nat}(hc:X.calm=true)(h:PGs X es t)(hK:X.K=K:=by rfl)
  (hn:(assignEach es X.env).length=n:=by rfl) (hst:(assignEach es X.env).findIdx? (·.1)=none:=by rfl):PG X (.Tuple es k pos) (Sr K n t):=by
 subst hK;exact CW hc h hn hst
end
end L2
namespace GB
open PySem.W
open PySem L2
structure Rc where
 t:Int
 l:Int
 b:Int
 r:Int
 deriving DecidableEq
end GB
namespace L2
open PySem.W
open PySem PySem.Spec PyProof.Rows
section
variable{prog:Program}{w:World}{A:Around}{E:VPz}{h:Heap}{g:Array GenState}{d:Drawn}{t:Nat}{os:OsState}
 {nm qn:Str} {C N:Addr} {bs bm bmB:LWz} {hdct:Bool} {sn:LSz} {sub:LWz} {ab:Bool} {col:Option Bool} {dd:Option Addr} {k0 k1 k2 k3 k5:Option Value} {B newId initId:String}
def BW(h:Heap)(C:Addr)(rest:LWz):Heap:=(h.push { cls:=.type "tuple",data:=.seq rest.toArray }).push { cls:=.ref C,data:=.fields #[.ref h.objs.size,.none,.none,.none,.bool false,.none] }
theorem BP{C:Addr}{rest:LWz}{b:Addr}{o:Obj}(e:h.get? b=some o):(BW h C rest).get? b=some o:=Heap.get?_push_of_some _ (Heap.get?_push_of_some _ e)
theorem HW(C:Addr)(rest:LWz):(BW h C rest).get? (h.objs.size+1)=some { cls:=.ref C,data:=.fields #[.ref h.objs.size,.none,.none,.none,.bool false,.none] }:=by
 unfold BW;heap_get
theorem FV(F:ExcBaseFacts B newId initId bmB)(T:OwnTail h bmB bm){mN:MGz}{rest:LWz}{fI:Addr}{oI:Obj}{Q:Fin->Shared->Prop}
  (hC:h.get? C=some (excClassObj nm qn C N bs bm hdct sn sub ab col dd k0 k1 k2 k3 k5 newId)) (hn:h.Ns N mN) (hi:mN "__init__"=some (.ref fI)) (hfI:h.get? fI=some oI) (hfc:oI.cls=.type "function") (hrest:rest.length<=sizeLine)
  (hq:wpAny (model prog w) A (call (.ref fI) (.ref (h.objs.size+1)::rest)) (λ r s'=>r=.none/\Q (.done (.ret (.ref (h.objs.size+1)))) s') E ⟨BW h C rest,g,d,t,os⟩) :
  wpAny (model prog w) A (Builtin.«type.__call__» ⟨.ref C::rest,[]⟩) Q E ⟨h,g,d,t,os⟩:=by
 repeat (first|with_reducible refine wpAny_loadPart_at hC ?_|with_reducible refine wpAny_madeBy_exc hC ?_|wp_step)
 refine codeAny_call_builtin_code (Code.quiet_builtin _ F.quiet) (wpAny_check_new_subT F T hC (codeAny_exc_new_subT F T hC ?_ hrest));show wpAny _ _ _ _ _ ⟨BW h C rest,g,d,t,os⟩;have c1:(BW h C rest).get? C=_:=BP hC;have n1:(BW h C rest).Ns N mN:=let ⟨o,es,ep,e,r⟩:=hn;⟨o,es,ep,BP e,r⟩;have e1:=HW (h:=h) C rest;have T1:OwnTail (BW h C rest) bmB bm:=T.keeps λ_ _ e=>BP e;have cc:(Value.ref C::bm).contains (.ref C)=true:=by simp
 unfold isInstance
 repeat (first|with_reducible refine wpAny_loadPart_at e1 ?_|(with_reducible refine wpAny_isSubtype_exc c1 ?_;rw[cc])|wp_step)
 show wpAny _ _ (typeLookup (.ref C) _) _ _ _;refine wpAny_typeLookup_tail c1 n1 T1 F.mroIs F.init.lookup ?_;rw[hi];refine wpAny_holding (wpAny_bind ?_);unfold bindSpecial;refine wpAny_bind (wpAny_typeOf (T:="function") ⟨_,BP hfI,hfc⟩ ?_);rw[if_pos (by decide)];refine wpAny_pure (wpAny_bind (wpAny_mono hq (λ r s' hr=>?_) λ_ _ x=>x));obtain⟨rfl,hQ⟩:=hr
 wp_walk
 exact hQ
theorem Og(F:ExcBaseFacts B newId initId bmB)(T:OwnTail h bmB bm){mN:MGz}{rest:LWz}{fI:Addr}{oI:Obj}{Q:VPz}
  (hC:h.get? C=some (excClassObj nm qn C N bs bm hdct sn sub ab col dd k0 k1 k2 k3 k5 newId)) (hn:h.Ns N mN) (hi:mN "__init__"=some (.ref fI)) (hfI:h.get? fI=some oI) (hfc:oI.cls=.type "function") (hrest:rest.length<=sizeLine)
  (hq:wpAny (model prog w) (A.under (.builtin "type.__call__" ⟨.ref C::rest,[]⟩)) (call (.ref fI) (.ref (h.objs.size+1)::rest)) (λ r s'=>r=.none/\Q (.ref (h.objs.size+1)) s') E ⟨BW h C rest,g,d,t,os⟩) :
  wpAny (model prog w) A (call (.ref C) rest) Q E ⟨h,g,d,t,os⟩:=by
 have l1:=tc_lookup;have l2:=tc_bind (.ref C);have ty:(⟨h,g,d,t,os⟩:Shared).TypeIs (.ref C) "type":=⟨_,hC,rfl⟩;refine wpAny_call (codeAny_of_tree ?_);show wpAny _ _ (callAny (.ref C) _) _ _ _
 repeat (any_goals (first|assumption|with_reducible refine wpAny_loadPart_at hC ?_|wp_step))
 exact⟨rfl,codeAny_call_builtin_at (Code.quiet_builtin _ (by decide +kernel)) entry_typeCall (wpAny_check_type_call_sub hC (FV F T hC hn hi hfI hfc hrest hq))⟩
end
open PySem.Builtin PySem.Builtin.ObjectAttr
def vErr:LWz:=[.type "ValueError",.type "Exception",.type "BaseException",.type "object"]
def Fh:LWz->Bool
 |[]=>false
 |x::r=>(match x with|.ref _=>Fh r|_=>false)||(x::r==vErr)
theorem Gk(self:Value):∀{l:LWz},Fh l=true->refuseLoop self "__setattr__" l=pure ()
 |[],e=>by cases e
 |x::r,e=>by
  unfold Fh at e;rw[Bool.or_eq_true]at e;rcases e with e|e
  .cases x<;>first|(rw[refuseLoop_ref];exact Gk self e)|cases e
  .rw[show x::r=vErr from beq_iff_eq.mp e];exact PySem.F.store_ValueError.passes self
theorem Na{T:String}(hT:vErr.contains (.type T)=true):∀{l:LWz},Fh l=true->l.contains (.type T)=true
 |[],e=>by cases e
 |x::r,e=>by
  unfold Fh at e;rw[Bool.or_eq_true]at e;rcases e with e|e
  .cases x<;>first|(rw[List.contains_cons,Na hT e,Bool.or_true])|cases e
  .rw[show x::r=vErr from beq_iff_eq.mp e];exact hT
def excIn(K:Frag)(C:Addr):Bool:=(clsIn K C).any λ cd=>Fh cd.mro
section
variable{prog:Program}{w:World}{A:Around}{E:VPz}{R:Result->Shared->Prop}{s:Shared}{K:Frag}{x C:Addr}{ox:Obj}{od:Option Obj}{name:Str}{tk:Tok}{v:Value}
theorem MO(X:K.In s.heap)(I:InstAt s.heap x ox C od)(hp:excIn K C=true)(ht:findIn K (.ref C) name=some none)
  (h:wpAny (model prog w) A.in1 (storeInOwnDict (.ref x) (.ref C) (.str name tk) name v false)
   (λ fin s'=>match fin with|.done f=>R (.ok f) s'|.again c'=>c'.quiet=true/\codeAny (model prog w) A c' R s') (λ e s'=>R (.error e) s') s) :
  codeAny (model prog w) A (.call (.builtin "object.__setattr__") ⟨[.ref x,.str name tk,v],[]⟩) R s:=by
 have SF:=PySem.F.store_object;obtain⟨cd,hc,ho⟩:=any_some hp;have ne:cd.mro.isEmpty=false:=by cases q:cd.mro with|nil=>rw[q]at ho;cases ho|cons _ _=>rfl
 have tO:Looks (model prog w) s.heap (isInstance (.ref x) (.type "object")) true:=I.type.andThen (looks_mroIn X (by
  unfold mroIn;rw[hc,Option.bind_some,ne];show some (cd.mro.contains (.type "object"))=some true;rw[Na (by decide +kernel) ho]))
 have tM:Looks (model prog w) s.heap (mroOf (.ref C)) cd.mro:=(looks_clsIn X hc).andThen .now;refine codeAny_call_builtin SF.slot.plain SF.entry (@check_slot (model prog w) _ _ s "object.__setattr__" "object" "__setattr__" (.ref x) [.str name tk,v] [] _ SF.kind SF.split tO (SF.args (.ref x) (.str name tk) v) ?_);rw[osa_eq,refuse_eq];refine wpAny_bind (wpAny_bind (I.type.here (wpAny_bind (tM.here ?_))));rw[Gk _ ho];exact wpAny_pure (wpAny_bind (I.type.here (wpAny_bind ((looks_findIn X ht).here (wpAny_bind (wpAny_pure h))))))
theorem O1{vs:Array Value}{sl:AOz}{Q:Unit->Shared->Prop}(X:K.In s.heap)(hx:s.heap.get? x=some ⟨.ref C,none,.fields vs,sl⟩)(hs:findIn K (.ref C) "__setattr__"=some (some (.builtin "object.__setattr__")))
  (hp:excIn K C=true) (hh:hasDictIn K C=true) (ht:findIn K (.ref C) name=some none)
  (h:∀h',h'.get? x=some ⟨.ref C,some s.heap.objs.size,.fields vs,sl⟩->h'.Ns1 s.heap.objs.size (λ y=>if y=name then some v else none)->(∀b o,b≠x->s.heap.get? b=some o->h'.get? b=some o)->Q () { s with heap:=h',toks:=s.toks+2 }) :
  wpAny (model prog w) A (setAttr (.ref x) name v) Q E s:=by
 have I:InstAt s.heap x ⟨.ref C,none,.fields vs,sl⟩ C none:=⟨hx,rfl,rfl,trivial⟩;obtain⟨cd,hc,hd'⟩:=any_some hh;have nx:x≠s.heap.objs.size:=Nat.ne_of_lt (Heap.lt_size hx);refine set_plain X I hs (MO (s:={ s with toks:=s.toks+1 }) X I hp ht ?_);refine wpAny_bind (wpAny_pure (wpAny_bind (wpAny_bind (wpAny_loadPart hx (wpAny_bind (Looks.here (s:={ s with toks:=s.toks+1 }) (looks_clsIn X hc) ?_))))));rw[hd'];refine wpAny_bind (wpAny_alloc (wpAny_bind (wpAny_update (Heap.get?_push_of_some _ hx) (wpAny_pure ?_))));generalize hH:(s.heap.push { cls:=.type "dict",data:=.dict #[] }).update x (λ o=>{ o with dict:=some s.heap.objs.size })=H1;have hx1:H1.get? x=some ⟨.ref C,some s.heap.objs.size,.fields vs,sl⟩:=by
  rw[<-hH];exact Heap.get?_update_self _ (Heap.get?_push_of_some _ hx) rfl
 have hd1:H1.get? s.heap.objs.size=some { cls:=.type "dict",data:=.dict #[] }:=by
  rw[<-hH,Heap.get?_update_ne _ _ _ _ (Ne.symm nx)];exact Heap.get?_push_size _ rfl
 have hk1:∀b o,b≠x->s.heap.get? b=some o->H1.get? b=some o:=λ b o hb e=>by
  rw[<-hH,Heap.get?_update_ne _ _ _ _ hb];exact Heap.get?_push_of_some _ e
 have hn1:H1.Ns1 s.heap.objs.size (λ_=>none):=Heap.Ns1.of_empty ⟨_,#[],_,hd1,rfl,λ e he=>absurd he (by simp),λ_=>rfl⟩;refine wpAny_bind (wpAny_pure (wpAny_bind (wpAny_nsSet1 (s:={ s with heap:=H1,toks:=s.toks+1 }) hn1 λ h' hn2 hs2=>?_)));obtain⟨oD,esD,epD,hoD,hdD,hcD⟩:=hn2.count (Within.cons name v Within.nil);refine wpAny_bind (wpAny_lookBehind hoD (by rw[hdD];exact pastItsLine_dict (Nat.le_trans hcD (by rw[List.length_cons,List.length_nil,sizeLine_eq];lia))) ?_);exact wpAny_pure (h _ ((hs2.2 _ nx).trans hx1) hn2 λ b o hb e=>(hs2.2 _ (Nat.ne_of_lt (Heap.lt_size e))).trans (hk1 b o hb e))
theorem PC{vs:Array Value}{sl:AOz}{dx:Addr}{mA:MGz}{ns:LSz}{Q:Unit->Shared->Prop}(X:K.In s.heap)(hx:s.heap.get? x=some ⟨.ref C,some dx,.fields vs,sl⟩)(hn:s.heap.Ns1 dx mA)(hne:dx≠x)
  (hs:findIn K (.ref C) "__setattr__"=some (some (.builtin "object.__setattr__"))) (hp:excIn K C=true) (hh:hasDictIn K C=true) (ht:findIn K (.ref C) name=some none) (hw:PySem.Within mA ns) (hsz:ns.length<=sizeLine)
  (h:∀h',h'.get? x=some ⟨.ref C,some dx,.fields vs,sl⟩->h'.Ns1 dx (λ y=>if y=name then some v else mA y)->Heap.SameBut dx s.heap h'->Q () { s with heap:=h',toks:=s.toks+2 }) :
  wpAny (model prog w) A (setAttr (.ref x) name v) Q E s:=by
 obtain⟨od,ho⟩:∃o,s.heap.get? dx=some o:=let ⟨o,_,_,e,_⟩:=hn;⟨o,e⟩;have I:InstAt s.heap x ⟨.ref C,some dx,.fields vs,sl⟩ C (some od):=⟨hx,rfl,rfl,ho⟩;obtain⟨cd,hc,hd'⟩:=any_some hh;refine set_plain X I hs (MO (s:={ s with toks:=s.toks+1 }) X I hp ht ?_);refine wpAny_bind (wpAny_pure (wpAny_bind (wpAny_bind (wpAny_loadPart hx (wpAny_bind (Looks.here (s:={ s with toks:=s.toks+1 }) (looks_clsIn X hc) ?_))))));rw[hd'];refine wpAny_pure (a:=some dx) (wpAny_bind (wpAny_pure (wpAny_bind (wpAny_nsSet1 (s:={ s with toks:=s.toks+1 }) hn λ h' hn2 hs2=>?_))));obtain⟨oD,esD,epD,hoD,hdD,hcD⟩:=hn2.count (Within.cons name v hw);refine wpAny_bind (wpAny_lookBehind hoD (by rw[hdD];exact pastItsLine_dict (Nat.le_trans hcD (by rw[List.length_cons];lia))) ?_);exact wpAny_pure (h _ ((hs2.2 _ (Ne.symm hne)).trans hx) hn2 hs2)
end
def HJ(C x:Addr):HO:=.ext λ h=>∃vs sl,h.get? x=some ⟨.ref C,none,.fields vs,sl⟩/\vs[1]?=some Value.none
def DP(C dx x:Addr):HO:=.ext λ h=>∃vs sl,h.get? x=some ⟨.ref C,some dx,.fields vs,sl⟩/\vs[1]?=some Value.none
def JO(C:Addr)(d:Option Addr)(x T:Addr):HO:=.ext λ h=>∃vs sl,h.get? x=some ⟨.ref C,d,.fields vs,sl⟩/\vs[1]?=some (.ref T)
def DD(dx:Addr)(fs:LFz):HO:=.ext λ h=>∃mA,h.Ns1 dx mA/\(∀f,RelO (fs.lookup f) (mA f))/\PySem.Within mA (fs.map (·.1))
section
variable{P:Program}{w:World}{H:Hp}{h:Heap}{x C dx:Addr}{fs:LFz}
theorem Qo{vs:Array Value}{sl:AOz}(e:h.get? x=some ⟨.ref C,none,.fields vs,sl⟩)(f:vs[1]?=some Value.none):ObjOk P w H h x (HJ C x) :=
 ⟨⟨vs,sl,e,f⟩,⟨_,e⟩,λ_ _ ⟨vs,sl,e,f⟩ k=>⟨vs,sl,k _ e,f⟩⟩
theorem Qn{vs:Array Value}{sl:AOz}(e:h.get? x=some ⟨.ref C,some dx,.fields vs,sl⟩)(f:vs[1]?=some Value.none):ObjOk P w H h x (DP C dx x) :=
 ⟨⟨vs,sl,e,f⟩,⟨_,e⟩,λ_ _ ⟨vs,sl,e,f⟩ k=>⟨vs,sl,k _ e,f⟩⟩
theorem Qm{d:Option Addr}{T:Addr}{vs:Array Value}{sl:AOz}(e:h.get? x=some ⟨.ref C,d,.fields vs,sl⟩)(f:vs[1]?=some (.ref T)):ObjOk P w H h x (JO C d x T) :=
 ⟨⟨vs,sl,e,f⟩,⟨_,e⟩,λ_ _ ⟨vs,sl,e,f⟩ k=>⟨vs,sl,k _ e,f⟩⟩
theorem Nb{mA:MGz}(n:h.Ns1 dx mA)(r:∀f,RelO (fs.lookup f) (mA f))(wi:PySem.Within mA (fs.map (·.1))):ObjOk P w H h dx (DD dx fs) :=
 ⟨⟨mA,n,r,wi⟩,let ⟨o,_,_,e,_⟩:=n;⟨o,e⟩,λ_ _ ⟨mA,n,r,wi⟩ k=>⟨mA,n.at k,r,wi⟩⟩
end
structure XCls(K:Frag)(C:Addr):Prop where
 ga:findIn K (.ref C) "__getattribute__"=some (some (.builtin "BaseException.__getattribute__"))
 gh:findIn K (.ref C) "__getattr__"=some none
 hd:hasDictIn K C=true
 sa:findIn K (.ref C) "__setattr__"=some (some (.builtin "object.__setattr__"))
 ex:L2.excIn K C=true
 ca:findIn K (.ref C) "__class__"=some (some (.builtin "object.__class__"))
 gn:specialIn K (.builtin "object.__class__") "__get__"=some (some (.builtin "getset_descriptor.__get__"))
 tk:takesIn K (.builtin "object.__class__")=some true
 mo:mroIn K C (.type "object")=some true
def JQ(K:Frag)(C:Addr):Bool:=(findIn K (.ref C) "__getattribute__"==some (some (.builtin "BaseException.__getattribute__")))&&(findIn K (.ref C) "__getattr__"==some none)&&hasDictIn K C&&(findIn K (.ref C) "__setattr__"==some (some (.builtin "object.__setattr__")))&&L2.excIn K C &&
 (findIn K (.ref C) "__class__"==some (some (.builtin "object.__class__")))&&(specialIn K (.builtin "object.__class__") "__get__"==some (some (.builtin "getset_descriptor.__get__"))) &&
 (takesIn K (.builtin "object.__class__")==some true)&&(mroIn K C (.type "object")==some true)
theorem XCls.of{K:Frag}{C:Addr}(h:JQ K C=true):XCls K C:=by
 unfold JQ at h;simp only[Bool.and_eq_true,beq_iff_eq]at h;obtain⟨⟨⟨⟨⟨⟨⟨⟨a,a'⟩,b⟩,c⟩,d⟩,e⟩,f⟩,g⟩,i⟩:=h;exact⟨a,a',b,c,d,e,f,g,i⟩
section
variable{X:Cx}{pins:PNz}{σ:St}{H:Hp}{s:Shared}{a C dx:Addr}{fs:LFz}{f:Str}{v:V}{A:Around}{E:VPz}
theorem GH{φ:Heap->Prop}{b c:Addr}(h:H b=some (.ext φ)):H b≠some (.own c):=λ e=>by rw[h]at e;cases e
theorem L4{y:V}{u:Value}{Q:Unit->Shared->Prop}(I:Inv X pins σ H s)(e:H a=some (HJ C a))(c:XCls X.K C)(n:NoAttr X.K C f)(ry:RelV y u)
  (h:∀s' d,H d=none->Inv X pins σ (upd (upd H d (DD d [(f,y)])) a (DP C d a)) s'->Q () s'):wpAny (model X.prog X.w) A (setAttr (.ref a) f u) Q E s:=by
 obtain⟨⟨vs,sl,hx,hv1⟩,_⟩:=(show ObjOk X.prog X.w H s.heap a (HJ C a) from I.hok a _ e);refine O1 I.kIn hx c.sa c.ex c.hd n λ h' h1 h2 k=>?_;have hn:H s.heap.objs.size=none:=I.hok.fresh (Nat.le_refl _);have nea:s.heap.objs.size≠a:=Ne.symm (Af e hn);refine h _ s.heap.objs.size hn ?_;have e':∀b o,H b=some o->b≠s.heap.objs.size:=λ b o q=>Af q hn;have lt:∀b o,s.heap.get? b=some o->b≠s.heap.objs.size:=λ b o q=>Nat.ne_of_lt (Heap.lt_size q);have na:∀b o,H b=some o->(∀φ,o≠.ext φ)->b≠a:=λ b o q z t=>by subst t;rw[e]at q;cases q;exact z _ rfl
 refine I.un (h':=h') (t':=s.toks+2) ⟨λ b o q m _ _=>k b o (λ z=>by rw[z,e]at m;cases m) q,λ b o q m _ _=>⟨o.slots,k b o (λ z=>by rw[z,e]at m;cases m) q⟩,
  λ b o q m _=>by rw[Ae (λ z=>by rw[z,e]at m;cases m),Ae (lt b o q)];exact m,λ b o q _=>?_,λ b xs q=>by rw[Ae (na b _ q (λ φ z=>by cases z)),Ae (e' b _ q)];exact q,
  λ b o u q=>by rw[Ae (na b _ q (λ φ z=>by cases z)),Ae (e' b _ q)];exact q,λ b ps q=>⟨#[],by rw[Ae (na b _ q (λ φ z=>by cases z)),Ae (e' b _ q),q];simp⟩⟩ λ b o q=>?_
 .by_cases hb:b=a
  .subst hb;exact⟨_,h1⟩
  .exact⟨o,k b o hb q⟩
 .by_cases hb:b=a
  .subst hb;rw[upd_same]at q;cases q;exact Qn h1 hv1
  .rw[Ae hb]at q;by_cases hd:b=s.heap.objs.size
   .subst hd;rw[upd_same]at q;cases q;refine Nb h2 (λ g=>?_) λ g hg=>?_
    .show RelO (List.lookup g [(f,y)]) (if g=f then some u else none);by_cases q:g=f
     .have hb:(g==f)=true:=beq_iff_eq.mpr q;rw[if_pos q];simp only[List.lookup,hb];exact ry
     .have hb:(g==f)=false:=beq_eq_false_iff_ne.mpr q;rw[if_neg q];simp only[List.lookup,hb];exact True.intro
    .by_cases q:g=f
     .rw[q];simp
     .exact absurd (if_neg q) hg
   .rw[Ae hd]at q;refine(I.hok b o q).stay (λ cc w' hc z=>k cc w' ?_ z) (λ cc z=>?_) λ cc xs z=>?_
    .rcases hc with rfl|hc
     .exact hb
     .exact λ t=>GH e (t ▸ hc)
    .rw[Ae (λ t=>GH e (t ▸ z)),Ae (e' cc _ z)];exact z
    .rw[Ae (na cc _ z (λ φ t=>by cases t)),Ae (e' cc _ z)];exact z
theorem N0{y:V}{u:Value}{Q:Unit->Shared->Prop}(I:Inv X pins σ H s)(e:H a=some (DP C dx a))(ed:H dx=some (DD dx fs))(c:XCls X.K C)(n:NoAttr X.K C f)(hl:fs.length<1000)(ry:RelV y u)
  (h:∀s',Inv X pins σ (upd H dx (DD dx (Bn f y fs))) s'->Q () s'):wpAny (model X.prog X.w) A (setAttr (.ref a) f u) Q E s:=by
 obtain⟨⟨vs,sl,hx,_⟩,_⟩:=(show ObjOk X.prog X.w H s.heap a (DP C dx a) from I.hok a _ e);obtain⟨⟨mA,hn,r,wi⟩,_⟩:=(show ObjOk X.prog X.w H s.heap dx (DD dx fs) from I.hok dx _ ed);have hne:dx≠a:=λ z=>by
  subst z;obtain⟨o,es,ep,ho,hd,_⟩:=hn;rw[hx]at ho;cases ho;cases hd
 have hz:(fs.map (·.1)).length<=sizeLine:=by rw[List.length_map,sizeLine_eq];lia
 refine PC I.kIn hx hn hne c.sa c.ex c.hd n wi hz λ h' h1 h2 sb=>h _ ?_;have hd:∃o,h'.get? dx=some o:=let ⟨o,_,_,e',_⟩:=h2;⟨o,e'⟩;refine I.write (x:=dx) (e:=dx) (t':=s.toks+2) (by rw[ed];exact True.intro) (.inl rfl) (λ b q hb z=>(sb.2 b hb).trans z) hd (Nb h2 (λ g=>?_) λ g hg=>?_)
 .show RelO ((Bn f y fs).lookup g) (if g=f then some u else mA g);rw[A7];by_cases q:g=f
  .rw[if_pos q,if_pos q];exact ry
  .rw[if_neg q,if_neg q];exact r g
 .by_cases q:g=f
  .rw[q];exact(CI f y fs).1
  .refine(CI f y fs).2 g (wi g λ z=>hg ?_);show(if g=f then some u else mA g)=none;rw[if_neg q];exact z
end
def RQ(K:Frag)(ta tv:TE)(f:Str):TS:=λ D σ H=>tv σ H λ y H1=>ta σ H1 λ x H2=>∃a C,x=.ref a/\XCls K C/\NoAttr K C f /\
 ((H2 a=some (HJ C a)/\∀d,H2 d=none->D.nx σ (upd (upd H2 d (DD d [(f,y)])) a (DP C d a)))\/∃dx fs,H2 a=some (DP C dx a)/\H2 dx=some (DD dx fs)/\fs.length<1000/\D.nx σ (upd H2 dx (DD dx (Bn f y fs))))
section
variable{X:Cx}{o e value:Expr}{f:Str}{pos pos':Pos}{ta tv:TE}
theorem IZ(ha:PE X o ta)(hv:PE X value tv)(hs:swapsWith value (some (.Attribute o f pos')) pos.line X.env=pure false):PS X (.Assign [.Attribute o f pos'] value pos) (RQ X.K ta tv f):=by
 intro pins s σ H D I h;refine plainObj_wpAny_Assign_Attribute (thn (hv pins s σ H _ I h) λ u s1 hz_=>?_) hs;obtain⟨y,H1,I1,ry,q⟩:=hz_;refine thn (ha pins s1 σ H1 _ I1 q) λ ov s2 hz_=>?_;obtain⟨x,H2,I2,rx,a,C,ex,c,n,q2⟩:=hz_;subst ex;obtain rfl:ov=Value.ref a:=rx;rcases q2 with ⟨e0,q2⟩|⟨dx,fs,e1,e2,l,q2⟩
 .exact L4 I2 e0 c n ry λ s3 d hd I3=>⟨σ,_,I3,q2 d hd⟩
 .exact N0 I2 e1 e2 c n l ry λ s3 I3=>⟨σ,_,I3,q2⟩
end
def C6(K:Frag)(C:Addr)(fI:Addr):Bool:=match K.lookup C with
 |some ⟨.type "type",_,.cls cd,sl⟩=>(match cd.mro,sl.toList with
  |.ref C'::bm,[_,_,_,_,some (.builtin n),_]=>C'==C&&n=="ValueError.__new__"&&!cd.hasDel&&tailIn K vErr bm&&nsOkIn K cd.ns&&nsIn K cd.ns "__init__"==some (some (.ref fI))
  |_,_=>false)
 |_=>false
theorem LO{K:Frag}{h:Heap}{N:Addr}{mg:MGz}{n:Str}{v:Value}(X:K.In h)(G:h.Ns N mg)(e:nsIn K N n=some (some v)):mg n=some v:=by
 obtain⟨o,es,ep,ho,hd,_,hf⟩:=G;unfold nsIn at e;split at e
 .rename_i c d es' n' sl q;have:=X _ _ q;rw[ho]at this;cases this;cases hd;split at e
  .rename_i e' he;cases e;rw[<-hf];unfold nsFind findBy;rw[<-Array.find?_toList,he];rfl
  .split at e<;>cases e
 .cases e
structure XMk(K:Frag)(C fI:Addr):Prop where
 cl:XCls K C
 ei:C6 K C fI=true
 kp:keepIn K (.ref C)=true
 fn:isFn K (.ref fI)=true
theorem XMk.call{K:Frag}{C fI:Addr}(M:XMk K C fI){prog:Program}{w:World}{A:Around}{E:VPz}{s:Shared}{rest:LWz}{Q:VPz}(X:K.In s.heap)(hrest:rest.length<=sizeLine)
  (hq:wpAny (model prog w) (A.under (.builtin "type.__call__" ⟨.ref C::rest,[]⟩)) (call (.ref fI) (.ref (s.heap.objs.size+1)::rest)) (λ r s'=>r=.none/\Q (.ref (s.heap.objs.size+1)) s') E { s with heap:=BW s.heap C rest }) :
  wpAny (model prog w) A (call (.ref C) rest) Q E s:=by
 obtain⟨hh,g,d,t,os⟩:=s;have q:=M.ei;have fnt:typeIn K (.ref fI)=some (.type "function"):=beq_iff_eq.mp M.fn;have hfI:∃oI:Obj,hh.get? fI=some oI/\oI.cls=.type "function":=by
  cases z:K.lookup fI with
  |none=>simp[typeIn,z]at fnt
  |some o=>exact⟨o,X _ _ z,by simpa [typeIn,z] using fnt⟩
 obtain⟨oI,hoI,hcI⟩:=hfI;unfold C6 at q;split at q
 .rename_i dd cd sl ho;split at q
  .rename_i C' bm k0 k1 k2 k3 n k5 hm hs;simp only[Bool.and_eq_true,beq_iff_eq,Bool.not_eq_true']at q;obtain⟨⟨⟨⟨⟨rfl,rfl⟩,hdel⟩,ht⟩,hok⟩,hni⟩:=q;obtain⟨nm,bs,mro,ns,qn,hd,sn,sub,ab,col,del⟩:=cd;dsimp only at hm hdel hok hni;subst hm hdel;have hsl:sl=#[k0,k1,k2,k3,some (.builtin "ValueError.__new__"),k5]:=by
    obtain⟨l⟩:=sl;simp only at hs;rw[hs]
   subst hsl;have G:hh.Ns ns (hh.nsMap ns):=.of_isNs (isNs_of_in X hok);exact Og PySem.F.excBase_ValueError (tail_of_in X ht) (X _ _ ho) G (LO X G hni) hoI hcI hrest hq
  .cases q
 .cases q
theorem ObjOk.there{P:Program}{w:World}{H:Hp}{h:Heap}{a:Addr}{o:HO}(x:ObjOk P w H h a o):∃u,h.get? a=some u:=by
 cases o with
 |lst xs=>obtain⟨_,_,_,_,e⟩:=x;exact⟨_,e⟩
 |tup xs=>obtain⟨_,_,_,p⟩:=x;obtain⟨_,e,_⟩:=p;exact⟨_,e⟩
 |dK kvs=>obtain⟨_,_,_,_,o,_,_,e,_⟩:=x;exact⟨_,e⟩
 |dT kvs=>obtain⟨_,_,_,_,o,_,_,e,_⟩:=x;exact⟨_,e⟩
 |set S n=>obtain⟨o,_,_,_,e,_⟩:=x;exact⟨_,e⟩
 |ins C dx fs=>obtain⟨_,_,_,e,_⟩:=x;exact⟨_,e⟩
 |own y=>obtain⟨_,e⟩:=x;exact⟨_,e⟩
 |xd fs=>obtain⟨_,⟨_,_,_,e,_⟩,_⟩:=x;exact⟨_,e⟩
 |rng lo hi=>obtain⟨_,_,_,e⟩:=x;exact⟨_,e⟩
 |frz ob u=>obtain⟨e,_⟩:=x;exact⟨_,e⟩
 |tbl ps=>exact⟨_,(show h.get? a=some _ from x)⟩
 |met f y=>exact⟨_,(show h.get? a=some _ from x)⟩
 |ext φ=>obtain⟨_,⟨_,e⟩,_⟩:=x;exact⟨_,e⟩
def P8(C:Addr)(names:LSz):Sp:=λ vs H Q _=>∃x ws,vs=.ref x::ws/\ws.length=names.length/\H x=some (HJ C x) /\
 ∀d H',H d=none->H' x=some (DP C d x)->H' d=some (DD d (names.zip ws))->(∀a o,a≠x->H a=some o->H' a=some o)->Q .non H'
structure Nn(P:Program)(w:World)(K:Frag)(mg:MGz)(base:Heap)(k:Nat)(x:Str)(C:Addr)(ps names:LSz):Prop where
 few:names.length<=1000
 ex:∃(f:Addr)(fd:FuncData),XMk K C f/\A8 P w K mg base CX0 k f fd ps (P8 C names)/\mg x=some (.ref C)/\Binds K fd ps []
section
variable{X:Cx}{CX:CXT}{k j:Nat}{f C:Addr}{fd:FuncData}{ps names:LSz}{sp:Sp}{E:XK}{x m:Str}{p pos apos:Pos}{e o:Expr}{es:List Expr}{ta:TE}{t:TA}
theorem PF{pins:PNz}{σ:St}{H:Hp}{s:Shared}{Q:VK}{us:LWz}{vs:LUz}(M:XMk X.K C f)(F:A8 X.prog X.w X.K X.mg X.base CX k f fd ps sp)(hr:Room (k+1) X.A)(hb:Binds X.K fd ps [])
  (hx:C7 CX X E) (I:Inv X pins σ H s) (r:Vals vs us) (hz:vs.length<=1000)
  (h:∀x,H x=none->sp (.ref x::vs) (upd H x (HJ C x)) (λ v H2=>v=.non/\Q (.ref x) H2) E) :
  wpAny (model X.prog X.w) X.A (call (.ref C) us) (EP X pins σ Q) X.xe s:=by
 have hq:=h (s.heap.objs.size+1) (I.hok.fresh (Nat.le_succ _));have hus:us.length<=sizeLine:=by rw[<-r.length,sizeLine_eq];lia
 have I2:Inv X pins σ (upd H (s.heap.objs.size+1) (HJ C (s.heap.objs.size+1))) { s with heap:=BW s.heap C us } :=
  I.laid (t':=s.toks) (λ b u z=>BP z) (Nat.le_succ _) (Qo (HW C us) rfl)
 have r2:Vals (V.ref (s.heap.objs.size+1)::vs) (Value.ref (s.heap.objs.size+1)::us):=.cons rfl r;have hl:(Value.ref (s.heap.objs.size+1)::us++[]).length=ps.length:=by
  have e:=r2.length;rw[F.len _ _ _ _ hq]at e;rw[List.append_nil];exact e.symm
 have hb2:=hb { s with heap:=BW s.heap C us } (Value.ref (s.heap.objs.size+1)::us) I2.kIn hl;rw[List.append_nil]at hb2;refine M.call I.kIn hus (wpAny_call (codeAny_mono (F.run _ X.stack _ _ ⟨Value.ref (s.heap.objs.size+1)::us,[]⟩ (Value.ref (s.heap.objs.size+1)::us) _ _ E (hr.make C us [])
  (I2.env0.make C us []) hb2 r2 hq) λ r s' hq'=>?_))
 cases r with
 |error e=>exact hx pins σ _ _ e s' I2 hq'
 |ok fl =>
  cases fl with
  |ret u =>
   obtain⟨v,H',I3,rv,ev,q3⟩:=I2.after hq';subst ev;exact⟨rv,⟨V.ref (s.heap.objs.size+1),H',I3,rfl,q3⟩⟩
  |next=>exact False.elim hq'
  |brk=>exact False.elim hq'
  |cont=>exact False.elim hq'
end
structure GY(fr tt:List Addr)(e T:Addr)(fl cls:Value)(d:Option Addr)(h h':Heap):Prop where
 nT:h.get? T=none
 keep:∀b o,b≠e->b∉fr->b∉tt->h.get? b=some o->h'.get? b=some o
 slot:∀b o,b∈fr->h.get? b=some o->∃sl,h'.get? b=some { o with slots:=sl }
 exc:∃vs sl,h'.get? e=some ⟨cls,d,.fields vs,sl⟩/\vs[1]?=some (.ref T)
 tb:∃o ts,h'.get? T=some o/\o.data=.fields ts/\ts[3]?=some fl
 old:∀t o ts,t∈tt->t≠e->h.get? t=some o->o.data=.fields ts->3<ts.size->∃o' ts',h'.get? t=some o'/\o'.data=.fields ts'/\ts'[3]?=some Value.none
section
variable{M:Model}{A:Around}{E:VPz}{s:Shared}{base:Heap}{env:Env}{outer:List Env}{L e:Addr}{cls:Value}{d:Option Addr}{vs:Array Value}{sl:AOz}{Q:Unit->Shared->Prop}
theorem Gz{head:Value}{hadNext:Bool}(hfr:A.frames=some (env::outer))(hl:s.heap.FunFrames base (env::outer))(hf:env.frame=some L)(he:s.heap.get? e=some ⟨cls,d,.fields vs,sl⟩)(hsz:1<vs.size)
    (h:∀h' T,GY (frs (env::outer)) [] e T (rawInt L) cls d s.heap h'->Q () { s with heap:=h' }) :
    wpAny M A (do
      let a <-frameOf env
      let pl <-entryPlaceOf L hadNext
      let b <-EntryCells.newEntry head a .none (rawInt L) .none pl
      setField (.ref e) 1 b) Q E s:=by
  have hne:e∉frs (env::outer):=λ hm=>by
    obtain⟨_,o,ho,hnf⟩:=hl.mem hm;rw[he]at ho;cases ho;exact hnf vs rfl
  refine wpAny_bind (wpAny_frameOf_fun hfr hl hf λ h₁ hs=>wpAny_bind (wpAny_entryPlaceOf λ pl hpl=>?_));unfold EntryCells.newEntry newFields;refine wpAny_bind (wpAny_newObj_type ?_ (hpl.sizeOk5 _ _ _ _ _));have e1:h₁.get? e=some ⟨cls,d,.fields vs,sl⟩:=(hs.2.1 e hne).trans he;generalize hob:({ cls:=.type "traceback",dict:=none,data:=.fields ([head,.ref L,.none,rawInt L,.none]++(if pl.isEmpty then List.replicate 6 Value.none else pl)).toArray }:Obj)=ob;have hfb:ob.isFreed=false:=by rw[<-hob];rfl
  have e2:=Heap.get?_push_of_some (h:=h₁) ob e1;refine wpAny_setField e2 rfl hsz (h _ h₁.objs.size ?_);have nTe:h₁.objs.size≠e:=Nat.ne_of_gt (Heap.lt_size e1);have kp:∀b o,b≠e->h₁.get? b=some o->((h₁.push ob).update e (Obj.mapFields (·.setIfInBounds 1 (Value.ref h₁.objs.size)))).get? b=some o:=λ b o nb hb=>by
    rw[Heap.get?_update_other _ _ (Ne.symm nb)];exact Heap.get?_push_of_some _ hb
  refine⟨Heap.get?_none_of_le (Nat.le_of_eq hs.1.symm),λ b o nb nf _ hb=>kp b o nb ((hs.2.1 b nf).trans hb),λ b o bf hb=>?_,⟨vs.setIfInBounds 1 (.ref h₁.objs.size),sl,?_,by simp[hsz]⟩,⟨ob,([head,.ref L,.none,rawInt L,.none]++(if pl.isEmpty then List.replicate 6 Value.none else pl)).toArray,?_,by rw[<-hob],?_⟩,λ_ _ _ z=>nomatch z⟩
  · obtain⟨sl',z⟩:=hs.2.2 b o hb
    exact⟨sl',kp b _ (λ q=>hne (q ▸ bf)) z⟩
  · exact Heap.get?_update_self _ e2 rfl
  · rw[Heap.get?_update_other _ _ (Ne.symm nTe)];exact Heap.get?_push_size _ hfb
  · simp
theorem Kx(hfr:A.frames=some (env::outer))(hl:s.heap.FunFrames base (env::outer))(hf:env.frame=some L)(he:s.heap.get? e=some ⟨cls,d,.fields vs,sl⟩)(h1:vs[1]?=some Value.none)
  (h:∀h' T,GY (frs (env::outer)) [] e T (rawInt L) cls d s.heap h'->Q () { s with heap:=h' }):wpAny M A (noteFrame (.ref e) env) Q E s:=by
 unfold noteFrame;simp only[hf];refine wpAny_bind (wpAny_field he rfl h1 ?_);rw[if_neg (by decide)];exact Gz hfr hl hf he (Array.getElem?_eq_some_iff.mp h1).1 h
theorem NA{T1:Addr}{oT:Obj}{ts:Array Value}(hfr:A.frames=some (env::outer))(hl:s.heap.FunFrames base (env::outer))(hf:env.frame=some L)(he:s.heap.get? e=some ⟨cls,d,.fields vs,sl⟩)(h1:vs[1]?=some (.ref T1))
  (hT:s.heap.get? T1=some oT) (hd:oT.data=.fields ts) (h3:ts[3]?=some Value.none) (ne:T1≠e)
  (h:∀h' T,GY (frs (env::outer)) [T1] e T (rawInt L) cls d s.heap h'->Q () { s with heap:=h' }):wpAny M A (noteFrame (.ref e) env) Q E s:=by
 unfold noteFrame;simp only[hf];refine wpAny_bind (wpAny_field he rfl h1 ?_);rw[if_pos (show(Value.ref T1 != Value.none)=true from by simp)];refine wpAny_bind (wpAny_field hT hd h3 ?_);rw[if_neg (show ¬((Value.none==rawInt L)=true) from by simp[rawInt])];have hs3:3<ts.size:=(Array.getElem?_eq_some_iff.mp h3).1;refine wpAny_bind (wpAny_setField hT hd hs3 ?_);have oth:∀b,b≠T1->(s.heap.update T1 (Obj.mapFields (·.setIfInBounds 3 Value.none))).get? b=s.heap.get? b:=λ b hb=>Heap.get?_update_other _ _ (Ne.symm hb);have nT1:T1∉frs (env::outer):=λ hm=>by
  obtain⟨_,o,ho,hnf⟩:=hl.mem hm;rw[hT]at ho;cases ho;exact hnf ts hd
 have self:(s.heap.update T1 (Obj.mapFields (·.setIfInBounds 3 Value.none))).get? T1=some (Obj.mapFields (·.setIfInBounds 3 Value.none) oT):=Heap.get?_update_self _ hT (Obj.isFreed_of_fields (Obj.data_mapFields hd _));refine Gz (s:={ s with heap:=s.heap.update T1 (Obj.mapFields (·.setIfInBounds 3 Value.none)) }) hfr (hl.of_keeps λ b o hb hnf=>⟨o,(oth b λ q=>?_).trans hb,rfl⟩) hf ((oth e (Ne.symm ne)).trans he) (Array.getElem?_eq_some_iff.mp h1).1 λ h' T n=>h h' T ?_
 .rw[q,hT]at hb;cases hb;exact hnf ts hd
 .have nT':s.heap.get? T=none:=by
   by_cases q:T=T1
   .have:=n.nT;rw[q]at this;rw[self]at this;cases this
   .rw[<-oth T q];exact n.nT
  refine⟨nT',λ b o nb nf nt hb=>n.keep b o nb nf (by simp) ((oth b (by simpa using nt)).trans hb),λ b o bf hb=>n.slot b o bf ((oth b λ q=>nT1 (q ▸ bf)).trans hb),n.exc,n.tb,λ t o us ht hte hb hdo hsz=>?_⟩;obtain rfl:t=T1:=by simpa using ht
  rw[hT]at hb;cases hb;rw[hd]at hdo;cases hdo;exact⟨_,_,n.keep t _ hte nT1 (by simp) self,Obj.data_mapFields hd _,by simp[hs3]⟩
theorem GC{T:Addr}{oT:Obj}{ts:Array Value}(he:s.heap.get? e=some ⟨cls,d,.fields vs,sl⟩)(h1:vs[1]?=some (.ref T))(hT:s.heap.get? T=some oT)(hd:oT.data=.fields ts)(hs3:3<ts.size)
  (h:∀h',(∀b,b≠T->h'.get? b=s.heap.get? b)->(∃o' ts',h'.get? T=some o'/\o'.data=.fields ts'/\ts'[3]?=some Value.none)->Q () { s with heap:=h' }):wpAny M A (setFlight (.ref e) none) Q E s:=by
 unfold setFlight;refine wpAny_bind (wpAny_field he rfl h1 ?_);rw[if_pos (show(Value.ref T != Value.none)=true from by simp)];refine wpAny_setField hT hd hs3 (h _ (λ b hb=>Heap.get?_update_other _ _ (Ne.symm hb)) ⟨_,_,Heap.get?_update_self _ hT (Obj.isFreed_of_fields (Obj.data_mapFields hd _)),Obj.data_mapFields hd _,by simp[hs3]⟩)
end
section
variable{prog:Program}{w:World}{A:Around}{E:VPz}{s:Shared}{K:Frag}{C fI e:Addr}{d:Option Addr}{env:Env}
theorem LC{x:Sem Value}{Q:Flow->Shared->Prop}(M:XMk K C fI)(hh:A.handled=none)
  (h:wpAny (model prog w) A x (λ v s₁=>∃e d vs sl,v=.ref e/\K.In s₁.heap/\s₁.heap.get? e=some ⟨.ref C,d,.fields vs,sl⟩/\vs[1]?=some Value.none/\E (.ref e) s₁) E s) :
  wpAny (model prog w) A (raiseStmt env (some x) none) Q E s:=by
 unfold raiseStmt;refine wpAny_bind (wpAny_mono h (λ v s₁ h₁=>?_) λ_ _ x=>x);obtain⟨e,d,vs,sl',rfl,X,he,h1,hE⟩:=h₁;obtain⟨hp,g,dr,tk,os⟩:=s₁;have q:=M.ei;unfold C6 at q;split at q
 .rename_i dd cd sl ho;split at q
  .rename_i C' bm k0 k1 k2 k3 n k5 hm hs;simp only[Bool.and_eq_true,beq_iff_eq,Bool.not_eq_true']at q;obtain⟨⟨⟨⟨⟨rfl,rfl⟩,hdel⟩,ht⟩,hok⟩,hni⟩:=q;obtain⟨nm,bs,mro,ns,qn,hd,sn,sub,ab,col,del⟩:=cd;dsimp only at hm hdel hok hni;subst hm hdel;have hsl:sl=#[k0,k1,k2,k3,some (.builtin "ValueError.__new__"),k5]:=by
    obtain⟨l⟩:=sl;simp only at hs;rw[hs]
   subst hsl;have hC:hp.get? C'=some (excClassObj nm qn C' ns bs bm hd sn sub ab col dd k0 k1 k2 k3 k5 "ValueError.__new__"):=X _ _ ho;have hcB:(Value.ref C'::bm).contains (.type "BaseException")=true:=by
    rw[List.contains_cons,(tail_of_in X ht).hasType (show vErr.contains (.type "BaseException")=true by decide +kernel)];exact Bool.or_true _
   repeat (first|with_reducible refine wpAny_field he rfl h1 ?_|with_reducible refine wpAny_loadPart_at he ?_|with_reducible refine wpAny_loadPart_at hC ?_|(with_reducible refine wpAny_isSubtype_exc hC ?_;rw[hcB])|wp_step)
   exact wpAny_raiseNew_none hh hE
  .cases q
 .cases q
end
def TbO(T:Addr):HO:=.ext λ h=>∃o ts,h.get? T=some o/\o.data=.fields ts/\ts[3]?=some Value.none
theorem Lw{P:Program}{w:World}{H:Hp}{h:Heap}{T:Addr}(t:∃o ts,h.get? T=some o/\o.data=.fields ts/\ts[3]?=some Value.none):ObjOk P w H h T (TbO T) :=
 ⟨t,let ⟨o,_,e,_⟩:=t;⟨o,e⟩,λ_ _ ⟨o,ts,e,r⟩ k=>⟨o,ts,k _ e,r⟩⟩
def Nt(H:Hp)(x C:Addr)(d:Option Addr):Prop:=(d=none/\H x=some (HJ C x))\/∃dx,d=some dx/\H x=some (DP C dx x)
def DC(H:Hp)(x C:Addr)(d:Option Addr)(T:Addr):Prop:=H x=some (JO C d x T)/\H T=some (TbO T)/\T≠x
def AD(H:Hp)(x C:Addr)(d:Option Addr)(T:Addr):Hp:=upd (upd H T (TbO T)) x (JO C d x T)
theorem Dh{H:Hp}{x C T:Addr}{d:Option Addr}:AD H x C d T x=some (JO C d x T):=upd_same
theorem Ey{H:Hp}{x C T:Addr}{d:Option Addr}(n:T≠x):AD H x C d T T=some (TbO T):=by unfold AD;rw[Ae n,upd_same]
theorem Bb{H:Hp}{x C T b:Addr}{d:Option Addr}(n:b≠x)(m:b≠T):AD H x C d T b=H b:=by unfold AD;rw[Ae n,Ae m]
section
variable{X:Cx}{pins:PNz}{σ:St}{H:Hp}{s:Shared}{x C T:Addr}{d:Option Addr}{h1 h2:Heap}{fl:Value}{tt:List Addr}
theorem Qa(I:Inv X pins σ H s){φ:Heap->Prop}(hx:H x=some (.ext φ))(htt:∀t∈tt,H t=some (TbO t)/\t≠x)(n:GY (frs X.stack) tt x T fl (.ref C) d s.heap h1)(k2:∀b,b≠T->h2.get? b=h1.get? b)
  (t2:∃o ts,h2.get? T=some o/\o.data=.fields ts/\ts[3]?=some Value.none):H T=none/\T≠x/\Un (frs X.stack) [] H (AD H x C d T) s.heap h2/\HOk X.prog X.w (AD H x C d T) h2:=by
 have hT:H T=none:=by
  cases q:H T with
  |none=>rfl
  |some u =>
   obtain⟨o,ho⟩:=(I.hok T u q).there;rw[n.nT]at ho;cases ho
 have nTx:T≠x:=λ z=>by rw[z,hx]at hT;cases hT
 have tn:∀b o,s.heap.get? b=some o->b≠T:=λ b o e z=>by rw[z,n.nT]at e;cases e
 have un:∀b,H b=none->b≠x:=λ b e z=>by rw[z,hx]at e;cases e
 have ut:∀b,H b=none->b∉tt:=λ b e z=>by rw[(htt b z).1]at e;cases e
 have hb:∀b u,H b=some u->b≠T:=λ b u e z=>by rw[z,hT]at e;cases e
 have old:∀t∈tt,∃o' ts',h2.get? t=some o'/\o'.data=.fields ts'/\ts'[3]?=some Value.none:=λ t ht=>by
  obtain⟨e,ne⟩:=htt t ht;obtain⟨⟨o,ts,e1,e2,e3⟩,_⟩:=(show ObjOk X.prog X.w H s.heap t (TbO t) from I.hok t _ e);obtain⟨o',ts',f1,f2,f3⟩:=n.old t o ts ht ne e1 e2 (Array.getElem?_eq_some_iff.mp e3).1;exact⟨o',ts',(k2 t (hb t _ e)).trans f1,f2,f3⟩
 have exc:∃vs sl,h2.get? x=some ⟨.ref C,d,.fields vs,sl⟩/\vs[1]?=some (.ref T):=by
  obtain⟨vs,sl,e1,e2⟩:=n.exc;exact⟨vs,sl,(k2 x (Ne.symm nTx)).trans e1,e2⟩
 have ne_ext:∀b u,H b=some u->(∀ψ,u≠.ext ψ)->b≠x:=λ b u e z q=>by rw[q,hx]at e;cases e;exact z _ rfl
 refine⟨hT,nTx,⟨λ b o q e nf _=>?_,λ b o q e bf _=>?_,λ b o q e _=>?_,λ b o q _=>?_,λ b xs e=>?_,λ b o u e=>?_,λ b ps e=>⟨#[],?_⟩⟩,λ b u e=>?_⟩
 .exact(k2 b (tn b o q)).trans (n.keep b o (un b e) nf (ut b e) q)
 .obtain⟨sl,z⟩:=n.slot b o bf q;exact⟨sl,(k2 b (tn b o q)).trans z⟩
 .rw[Bb (un b e) (tn b o q)];exact e
 .by_cases z:b=x
  .obtain⟨vs,sl,e1,_⟩:=exc;exact⟨_,z ▸ e1⟩
  .by_cases zf:b∈frs X.stack
   .obtain⟨sl,z⟩:=n.slot b o zf q;exact⟨_,(k2 b (tn b o q)).trans z⟩
   .by_cases zt:b∈tt
    .obtain⟨o',_,e1,_⟩:=old b zt;exact⟨o',e1⟩
    .exact⟨o,(k2 b (tn b o q)).trans (n.keep b o z zf zt q)⟩
 .rw[Bb (ne_ext b _ e λ ψ z=>by cases z) (hb b _ e)];exact e
 .rw[Bb (ne_ext b _ e λ ψ z=>by cases z) (hb b _ e)];exact e
 .rw[Bb (ne_ext b _ e λ ψ z=>by cases z) (hb b _ e),e];simp
 .by_cases z:b=x
  .subst z;rw[Dh]at e;cases e;obtain⟨vs,sl,e1,e2⟩:=exc;exact Qm e1 e2
  .by_cases zT:b=T
   .subst zT;rw[Ey nTx]at e;cases e;exact Lw t2
   .rw[Bb z zT]at e;by_cases zt:b∈tt
    .rw[(htt b zt).1]at e;cases e;exact Lw (old b zt)
    .have own_ne:∀c,H c=some (.own b)->c≠x/\c≠T:=λ c hc=>⟨ne_ext c _ hc (λ ψ z=>by cases z),hb c _ hc⟩;refine(I.hok b u e).stay (λ c v hc q=>?_) (λ c q=>?_) λ c xs q=>?_
     .have hcH:∃y,H c=some y:=by
       rcases hc with rfl|hc
       .exact⟨u,e⟩
       .exact⟨_,hc⟩
      obtain⟨y,hy⟩:=hcH;refine(k2 c (hb c y hy)).trans (n.keep c v ?_ (λ zf=>by rw[I.stkFree c zf]at hy;cases hy) (λ zt'=>?_) q)
      .rcases hc with rfl|hc
       .exact z
       .exact(own_ne c hc).1
      .rcases hc with rfl|hc
       .exact zt zt'
       .rw[(htt c zt').1]at hc;cases hc
     .rw[Bb (own_ne c q).1 (own_ne c q).2];exact q
     .rw[Bb (ne_ext c _ q λ ψ z=>by cases z) (hb c _ q)];exact q
theorem Fq{E:VPz}{Q:Unit->Shared->Prop}(I:Inv X pins σ H s)(hst:X.stack=X.env::X.outer)(hfr:X.env.frame=some X.env.locals)(hf:Nt H x C d\/∃T,DC H x C d T)
  (h:∀h' T,H T=none->T≠x->Inv X pins σ (AD H x C d T) { s with heap:=h' }->Q () { s with heap:=h' }) :
  wpAny (model X.prog X.w) X.A (noteFrame (.ref x) X.env) (λ_ s₂=>wpAny (model X.prog X.w) X.A (setFlight (.ref x) none) Q E s₂) E s:=by
 have fr:X.A.frames=some (X.env::X.outer):=hst ▸ I.ok.frames;have ff:s.heap.FunFrames X.base (X.env::X.outer):=hst ▸ I.stack;have rest:∀{φ:Heap->Prop}{tt:List Addr}(hx:H x=some (.ext φ))(htt:∀t∈tt,H t=some (TbO t)/\t≠x)(h1:Heap)(T:Addr),GY (frs (X.env::X.outer)) tt x T (rawInt X.env.locals) (.ref C) d s.heap h1 ->
   wpAny (model X.prog X.w) X.A (setFlight (.ref x) none) Q E { s with heap:=h1 }:=λ{φ tt} hx htt h1 T n=>by
  obtain⟨vs,sl,e1,e2⟩:=n.exc;obtain⟨o,ts,f1,f2,f3⟩:=n.tb;refine GC (s:={ s with heap:=h1 }) e1 e2 f1 f2 (Array.getElem?_eq_some_iff.mp f3).1 λ h2 k2 t2=>?_;obtain⟨hT,nT,un,ok⟩:=Qa I hx htt (hst ▸ n) k2 t2;exact h h2 T hT nT (I.call (g':=s.gens) (d':=s.drawn) (t':=s.toks) (ch:=[]) un ok I.bare (λ b z=>absurd z (by simp)))
 rcases hf with (⟨rfl,hx⟩|⟨dx,rfl,hx⟩)|⟨T,hx,hT,ne⟩
 .obtain⟨⟨vs,sl,e1,e2⟩,_⟩:=(show ObjOk X.prog X.w H s.heap x (HJ C x) from I.hok x _ hx);exact Kx fr ff hfr e1 e2 λ h1 T n=>rest (tt:=[]) hx (λ t z=>absurd z (by simp)) h1 T n
 .obtain⟨⟨vs,sl,e1,e2⟩,_⟩:=(show ObjOk X.prog X.w H s.heap x (DP C dx x) from I.hok x _ hx);exact Kx fr ff hfr e1 e2 λ h1 T n=>rest (tt:=[]) hx (λ t z=>absurd z (by simp)) h1 T n
 .obtain⟨⟨vs,sl,e1,e2⟩,_⟩:=(show ObjOk X.prog X.w H s.heap x (JO C d x T) from I.hok x _ hx);obtain⟨⟨o,ts,f1,f2,f3⟩,_⟩:=(show ObjOk X.prog X.w H s.heap T (TbO T) from I.hok T _ hT);exact NA fr ff hfr e1 e2 f1 f2 f3 ne λ h1 T' n=>rest (tt:=[T]) hx (λ t z=>by rw[List.mem_singleton.mp z];exact⟨hT,ne⟩) h1 T' n
theorem NK{E:VPz}{Q:Unit->Shared->Prop}(I:Inv X pins σ H s)(hst:X.stack=X.env::X.outer)(hfr:X.env.frame=some X.env.locals)(hf:Nt H x C d\/∃T,DC H x C d T)
  (h:∀h' T,H T=none->T≠x->Inv X pins σ (AD H x C d T) { s with heap:=h' }->Q () { s with heap:=h' }):wpAny (model X.prog X.w) X.A (leaving X.env (.ref x)) Q E s:=by
 unfold leaving;exact wpAny_bind (Fq I hst hfr hf h)
end
def CX1(P:Program)(w:World):CXT:=λ outer H s E e s'=>∃x T C d H',e=Value.ref x/\s'.os=s.os/\AllBare s'.gens/\Un (frs outer) [] H H' s.heap s'.heap/\HOk P w H' s'.heap/\DC H' x C d T/\E (.ref x) d H'
def R5(X:Cx)(E:XK):Prop:=∀(pins:PNz)(σ:St)(H:Hp)(s:Shared)(x C:Addr)(d:Option Addr),Inv X pins σ H s->(Nt H x C d\/∃T,DC H x C d T) ->
 (∀T,H T=none->T≠x->E (.ref x) d (AD H x C d T))->X.xe (.ref x) s
section
variable{P:Program}{w:World}{K:Frag}{mg:MGz}{base:Heap}{N:LSz}{qual:Str}{scope:Scope}{f:Addr}{cd:Value}{A:Around}{outer:List Env}{s:Shared}{H:Hp}{E E₁:XK}
theorem IJ:R5 (Cd (CX1 P w) P w K mg base N qual scope f cd A outer s H E) E:=by
 intro pins σ H1 s1 x C d I hf hE;exact NK I rfl rfl hf λ h' T hT nT I'=>⟨x,T,C,d,_,rfl,I'.os,I'.bare,I'.base,I'.hok,⟨Dh,Ey nT,nT⟩,hE T hT nT⟩
end
section
variable{X:Cx}{E E₁:XK}
theorem Re(hX:R5 X E)(h:∀x C d T T2 H',E₁ (.ref x) d H'->DC H' x C d T->H' T2=none->T2≠x->E (.ref x) d (AD H' x C d T2)):C7 (CX1 X.prog X.w) X E₁:=by
 rintro pins σ H s e s' I ⟨x,T,C,d,H',rfl,os,bare,un,hok,fl,q⟩;obtain⟨hh,g,dr,t,os'⟩:=s';obtain rfl:os'=s.os:=os;exact hX pins σ H' _ x C d (I.call (h':=hh) (g':=g) (d':=dr) (t':=t) (ch:=[]) un hok bare (λ b z=>absurd z (by simp))) (.inr ⟨T,fl⟩) λ T2 h2 n2=>h x C d T T2 H' q fl h2 n2
end
theorem Fun.okx{P:Program}{w:World}{K:Frag}{mg:MGz}{base:Heap}{x qual:Str}{st:Stmt}{f:Addr}{fd:FuncData}{N ps:LSz}{k:Nat}{sp:Sp}(F:Fun K x qual st f fd)(S:Aq N ps (Ag st))(len:∀vs H Q E,sp vs H Q E->vs.length=ps.length)
  (hbody:∀(cdv:Value)(A:Around)(outer:List Env)(s:Shared)(H:Hp)(vs:LUz)(Q:VK)(E:XK),Room k (A.deeper (envOfC qual (Ag st) s.heap.objs.size f cdv))->sp vs H Q E ->
   ∃t,PSs (Cd (CX1 P w) P w K mg base N qual (Ag st) f cdv A outer s H E) (A4 st) t/\t { nx:=λ_ H'=>Q .non H',rt:=Q } (start N vs) H):A8 P w K mg base (CX1 P w) (k+1) f fd ps sp:=by
 obtain⟨oc,od,kV,doc,pm,an,cdv,ct,osl,rfl,lk,hcd⟩:=F.ex;exact KD lk hcd S len λ A outer s H vs Q E hr hsp=>hbody cdv A outer s H vs Q E hr hsp
def QV(C:Addr)(names:LSz)(E:XK)(t:TA):TS:=λ_ σ H=>t σ H λ vs H1=>vs.length=names.length /\
 ∀y dx T H2,H1 y=none->Same H1 H2->H2 y=some (DP C dx y)->H2 dx=some (DD dx (names.zip vs))->dx≠y->H2 T=none->T≠y->E (.ref y) (some dx) (AD H2 y C (some dx) T)
section
variable{X:Cx}{k j:Nat}{x:Str}{C:Addr}{ps names:LSz}{sp:Sp}{p pos cpos:Pos}{e:Expr}{es:List Expr}{t:TA}{E E₁:XK}
theorem Kj(hX:R5 X E)(D:Nn X.prog X.w X.K X.mg X.base k x C ps names)(hr:Room j X.A)(ha:PA X (e::es) t)(hc:X.calm=true:=by rfl)(hj:k+1<=j:=by decide)(hg:Gl X x:=by rfl)(hdb:(x==("__debug__":Str))=false:=by decide)
  (he:starEach (e::es) X.env=(false,eval e X.env)::starEach es X.env:=by rfl) (hpl:(backTo cpos (starEach es X.env)).any (·.1)=false:=by rfl):PS X (.Raise (some (.Call (.Name x p) (e::es) [] cpos)) none pos) (QV C names E t):=by
 intro pins s σ H Dd I h;obtain⟨f,fd,M,F,hm,hb⟩:=D.ex;have pe:wpAny (model X.prog X.w) X.A (eval (.Call (.Name x p) (e::es) [] cpos) X.env) (EP X pins σ λ v H2=>∃y d,v=V.ref y/\Nt H2 y C d/\∀T,H2 T=none->T≠y->E (.ref y) d (AD H2 y C d T)) X.xe s:=by
  refine wpAny_Call_Name_kw (DM I hg hm ?_ hdb);refine callWith_K (h₀:=X.base) I.ok.mod.kin M.kp (thn (ha cpos pins s σ H _ I h) λ us s1 ⟨vs,H1,I1,r,hl,q⟩=>⟨I1.kIn,?_⟩) he hpl;refine PF M F (hr.mono hj) hb HZ I1 r (hl ▸ D.few) λ y hy=>⟨y,vs,rfl,hl,upd_same,λ d H' hd h1 h2 hs=>⟨rfl,y,some d,rfl,.inr ⟨d,rfl,h1⟩,λ T hT nT=>?_⟩⟩;refine q y d T H' hy (λ a o ho=>hs a o (Af ho hy) ?_) h1 h2 (λ z=>by rw[z,upd_same]at hd;cases hd) hT nT;rw[Ae (Af ho hy)];exact ho
 rw[arm_exec_Raise];simp only[evalOpt,Option.map];refine wpAny_bind (wpAny_standAt (LC M (I.ok.hd hc) ?_));refine wpAny_bind (thn pe λ v s1 ⟨u,H2,I2,r,y,d,ey,fr,hE⟩=>wpAny_bind (wpAny_standAt (wpAny_pure ?_)));subst ey;obtain rfl:v=Value.ref y:=r;have ob:∃vs sl,s1.heap.get? y=some ⟨.ref C,d,.fields vs,sl⟩/\vs[1]?=some Value.none:=by
  rcases fr with ⟨rfl,hx⟩|⟨dx,rfl,hx⟩
  .exact(show ObjOk X.prog X.w H2 s1.heap y (HJ C y) from I2.hok y _ hx).1
  .exact(show ObjOk X.prog X.w H2 s1.heap y (DP C dx y) from I2.hok y _ hx).1
 obtain⟨vs,sl,e1,e2⟩:=ob;exact⟨y,d,vs,sl,rfl,I2.kIn,e1,e2,hX pins σ H2 s1 y C d I2 (.inl fr) hE⟩
end
def EE:Nat->Heap
 |0=>{}
 |n+1=>(EE n).push { cls:=.type "dict",data:=.dict #[] }
theorem ED:∀n,(EE n).objs.size=n
 |0=>rfl
 |n+1=>by rw[EE,Heap.size_push,ED n]
theorem Pa{C C' x T T':Addr}{d d':Option Addr}(h:JO C d x T=JO C' d' x T'):C=C'/\d=d'/\T=T':=by
 have h:(HO.ext λ h=>∃vs sl,h.get? x=some ⟨.ref C,d,.fields vs,sl⟩/\vs[1]?=some (.ref T))=HO.ext λ h=>∃vs sl,h.get? x=some ⟨.ref C',d',.fields vs,sl⟩/\vs[1]?=some (.ref T'):=h;injection h with h;have e:=congrFun h ((EE x).push ⟨.ref C,d,.fields #[.none,.ref T],#[]⟩);have g:((EE x).push ⟨.ref C,d,.fields #[.none,.ref T],#[]⟩).get? x=some ⟨.ref C,d,.fields #[.none,.ref T],#[]⟩:=Heap.get?_push_at (ED x).symm rfl;have q:=e.mp ⟨_,_,g,rfl⟩;obtain⟨vs,sl,e1,e2⟩:=q;rw[g]at e1;cases e1;cases e2;exact⟨rfl,rfl,rfl⟩
def XR(H:Hp)(x C:Addr)(d:Option Addr)(fs:LFz):Prop:=(∃dx,d=some dx/\dx≠x/\H dx=some (DD dx fs))/\∃T,H x=some (JO C d x T)
theorem QI{H1 H2:Hp}{y C dx T:Addr}{fs:LFz}(hy:H1 y=none)(s:Same H1 H2)(e:H2 y=some (DP C dx y))(ed:H2 dx=some (DD dx fs))(hT:H2 T=none)(nd:dx≠y) :
  XR (AD H2 y C (some dx) T) y C (some dx) fs/\Same H1 (AD H2 y C (some dx) T) :=
 ⟨⟨⟨dx,rfl,nd,by rw[Bb nd (Af ed hT)];exact ed⟩,T,Dh⟩,λ a o ho=>by rw[Bb (Af ho hy) (Af (s a o ho) hT)];exact s a o ho⟩
theorem Qw{H H1:Hp}{x C C':Addr}{d:Option Addr}{T T2:Addr}{fs:LFz}(hx:H1 x=none)(s:Same H1 H)(r:XR H x C d fs)(fl:DC H x C' d T)(hT:H T2=none) :
  C=C'/\XR (AD H x C' d T2) x C d fs/\Same H1 (AD H x C' d T2):=by
 obtain⟨⟨dx,rfl,nd,ed⟩,T',e⟩:=r;have q:C=C':=by
  have:=fl.1;rw[e]at this;exact(Pa (Option.some.inj this)).1
 subst q;exact⟨rfl,⟨⟨dx,rfl,nd,by rw[Bb nd (Af ed hT)];exact ed⟩,T2,Dh⟩,λ a o ho=>by rw[Bb (Af ho hx) (Af (s a o ho) hT)];exact s a o ho⟩
def Rf(H:Hp)(E:XK)(C:Addr)(P:LFz->Hp->Prop):Prop:=∀x d fs H',H x=none->Same H H'->XR H' x C (some d) fs->P fs H'->E (.ref x) (some d) H'
theorem Rf.raise{H H1 H2:Hp}{E:XK}{C y dx T:Addr}{P:LFz->Hp->Prop}{fs:LFz}(r:Rf H E C P)(s1:Same H H1)(hy:H1 y=none)(s:Same H1 H2)(e:H2 y=some (DP C dx y))(ed:H2 dx=some (DD dx fs))(nd:dx≠y)
  (hT:H2 T=none) (p:P fs (AD H2 y C (some dx) T)):E (.ref y) (some dx) (AD H2 y C (some dx) T):=by
 obtain⟨a,b⟩:=QI hy s e ed hT nd;have hy0:H y=none:=by
  cases q:H y with
  |none=>rfl
  |some o=>rw[s1 y o q]at hy;cases hy
 exact r y dx fs _ hy0 (s1.trans b) a p
def XE(H:Hp)(R:Addr->LFz->Hp->Prop):XK:=λ v d H'=>∃x C dx fs,v=.ref x/\d=some dx/\H x=none/\Same H H'/\XR H' x C (some dx) fs/\R C fs H'
theorem XE.rf{H:Hp}{R:Addr->LFz->Hp->Prop}{C:Addr}{P:LFz->Hp->Prop}(h:∀fs H',P fs H'->R C fs H'):Rf H (XE H R) C P:=λ x d fs H' hx s r p=>⟨x,C,d,fs,rfl,rfl,hx,s,r,h fs H' p⟩
theorem XE.on{H H0:Hp}{R:Addr->LFz->Hp->Prop}{E:XK}(s0:Same H0 H)(st:∀C fs H' x C' d T2,R C fs H'->(∃φ,H' x=some (.ext φ))->H' T2=none->R C fs (AD H' x C' d T2))(hE:∀C,Rf H0 E C (R C)) :
  ∀x C d T T2 H',XE H R (.ref x) d H'->DC H' x C d T->H' T2=none->T2≠x->E (.ref x) d (AD H' x C d T2):=by
 rintro x C d T T2 H' ⟨x',C',dx,fs,ev,rfl,hx,s,r,p⟩ fl hT2 nT2;obtain rfl:x=x':=Value.ref.inj ev;have hx0:H0 x=none:=by
  cases q:H0 x with
  |none=>rfl
  |some o=>rw[s0 x o q]at hx;cases hx
 obtain⟨rfl,r2,s2⟩:=Qw hx s r fl hT2;exact hE C' x dx fs _ hx0 (s0.trans s2) r2 (st C' fs H' x C' (some dx) T2 p ⟨_,fl.1⟩ hT2)
def Stb(P:LFz->Hp->Prop):Prop:=∀fs H' x C' d T2,P fs H'->(∃φ,H' x=some (.ext φ))->H' T2=none->P fs (AD H' x C' d T2)
def RU(H:Hp)(E:XK):Addr->LFz->Hp->Prop:=λ C fs H'=>∃P,Rf H E C P/\P fs H'/\Stb P
theorem Rg{H:Hp}{E:XK}:∀x C d T T2 H',XE H (RU H E) (.ref x) d H'->DC H' x C d T->H' T2=none->T2≠x->E (.ref x) d (AD H' x C d T2) :=
 XE.on (Same.refl H) (λ C fs H' x C' d T2 ⟨P,r,p,st⟩ hx hT=>⟨P,r,st fs H' x C' d T2 p hx hT,st⟩) λ C x d fs H' hx s r ⟨P,rf,p,_⟩=>rf x d fs H' hx s r p
theorem ST{H H2:Hp}{E:XK}{C:Addr}{P:LFz->Hp->Prop}(s:Same H H2)(r:Rf H E C P)(st:Stb P):Rf H2 (XE H (RU H E)) C P:=λ x d fs H' hx s2 xr p=>by
 have hx0:H x=none:=by
  cases q:H x with
  |none=>rfl
  |some o=>rw[s x o q]at hx;cases hx
 exact⟨x,C,d,fs,rfl,rfl,hx0,s.trans s2,xr,P,r,p,st⟩
section
variable{X:Cx}{pins:PNz}{σ:St}{H:Hp}{s:Shared}
abbrev Cx.suite(X:Cx)(x:Addr):Cx:={ X with A:=X.A.mark (some (.ref x)),calm:=false,xe:=λ_ _=>False }
theorem Inv.suite(I:Inv X pins σ H s)(x:Addr):Inv (X.suite x) pins σ H s :=
 ⟨⟨I.ok.mod,I.ok.kind,I.ok.glob,I.ok.blt,I.ok.above,I.ok.inj,I.ok.has,I.ok.cab,(λ z=>nomatch z),I.ok.frames,I.ok.stk,I.ok.exf,I.ok.bs,I.ok.bsz,I.ok.noex,I.ok.exfs,I.ok.funs,I.ok.frf⟩,I.os,I.bare,I.base,I.loc,I.cell,I.free,I.freeC,I.pin,I.hok,I.len⟩
theorem Inv.unsuite{ok:X.Ok}{x:Addr}(I:Inv (X.suite x) pins σ H s):Inv X pins σ H s :=
 ⟨ok,I.os,I.bare,I.base,I.loc,I.cell,I.free,I.freeC,I.pin,I.hok,I.len⟩
end
def PX(X:Cx)(e:Expr)(t:TE)(E:XK):Prop:=∀(pins:PNz)(s:Shared)(σ:St)(H:Hp)(Q:VK)(Ex:VPz),Inv X pins σ H s->t σ H Q ->
 (∀x T C d H' s',Inv X pins σ H' s'->DC H' x C d T->E (.ref x) d H'->Ex (.ref x) s')->wpAny (model X.prog X.w) X.A (eval e X.env) (EP X pins σ Q) Ex s
def Ly(wi:TI)(g:TG)(tc:TT)(te:TE)(fr:List (Option Nat)):TE:=λ σ H Q=>wi σ H λ J H1=>∀acc,H1 acc=none->∃W:Nat->Nat->St->Hp->Prop,(∃m,W 0 m (stC fr σ) (upd H1 acc (.lst [])))/\∀i m σ1 H2,W i m σ1 H2 ->
 (J.stop i H2/\Q (.ref acc) H2)\/(J.go i H2/\∀x H3,J.yld i H2 x H3->g x σ1 H3 λ σ4 H4=>tc σ4 H4 λ b Hb=>match b with
  |true=>te σ4 Hb λ v H5=>∃xs,H5 acc=some (.lst xs)/\xs.length<sizeLine/\∃m',m'<m/\W (i+1) m' σ4 (upd H5 acc (.lst (xs++[v])))
  |false=>∃m',m'<m/\W (i+1) m' σ4 Hb)
section
variable{prog:Program}{w:World}{A:Around}{R:Result->Shared->Prop}{s:Shared}
theorem Hv{elt target iter cnd:Expr}{scope:Scope}{pos:Pos}{it acc:Value}{env:Env}(I:Nat->Shared->Prop)
    (turn:∀n s,I n s->wpAny (model prog w) A (pyNext it) (λ r s₁=>match r with
      |none=>R (.ok .next) s₁
      |some v=>wpAny (model prog w) A (letOwnedTupleGo target it v) (λ_ s₁=>wpAny (model prog w) A (assign target env v) (λ_ s₂ =>
          wpAny (model prog w) A (forIn [cnd] true λ c r=>if r=true then do let ok <-isTrue c env (eval c env);pure (ForInStep.yield ok) else pure (ForInStep.yield r)) (λ ok s₃ =>
            if ok=true then wpAny (model prog w) A (eval elt env) (λ x s₄=>wpAny (model prog w) A (call (.builtin "list.append") [acc,x]) (λ_ s₅=>∃m,m<n/\I m s₅) (notedBy (model prog w) A env λ e s'=>R (.error e) s') s₄)
              (notedBy (model prog w) A env λ e s'=>R (.error e) s') s₃
            else ∃m,m<n/\I m s₃) (notedBy (model prog w) A env λ e s'=>R (.error e) s') s₂)
          (notedBy (model prog w) A env λ e s'=>R (.error e) s') s₁) (notedBy (model prog w) A env λ e s'=>R (.error e) s') s₁) (notedBy (model prog w) A env λ e s'=>R (.error e) s') s)
    (n:Nat) (h:I n s) :
    codeAny (model prog w) A (.compLoop (.ListComp elt [⟨target,iter,[cnd],0⟩] scope pos) 0 it acc env) R s:=by
  refine codeAny_loop rfl I (λ n s hI=>?_) n h;show wpAny _ _ ((compTurn (.ListComp elt [⟨target,iter,[cnd],0⟩] scope pos) 0 it acc env).onRaise (λ x=>do noteFrame x env;theTreesLotGoes x)) _ _ s;refine wpAny_noted ?_;rw[compTurn_list];refine wpAny_bind (wpAny_standAt (wpAny_bind (wpAny_mono (turn n s hI) (λ r s₁ h₁=>?_) λ_ _ h'=>h')));cases r with
  |none=>exact wpAny_pure h₁
  |some v =>
    refine wpAny_bind (wpAny_mono h₁ (λ_ s₁ h₁=>?_) λ_ _ h'=>h');refine wpAny_bind (wpAny_mono h₁ (λ_ s₂ h₂=>wpAny_bind (wpAny_mono h₂ (λ ok s₃ h₃=>?_) λ_ _ h'=>h')) λ_ _ h'=>h');cases ok with
    |false=>exact wpAny_pure ⟨rfl,h₃⟩
    |true=>exact wpAny_bind (wpAny_bind (wpAny_mono h₃ (λ x s₄ h₄=>wpAny_bind (wpAny_mono h₄ (λ_ s₅ h₅=>wpAny_pure (wpAny_pure ⟨rfl,h₅⟩)) λ_ _ h'=>h')) λ_ _ h'=>h'))
end
section
variable{X:Cx}{elt tg iter:Expr}{scope:Scope}{pos:Pos}{wi:TI}{g:TG}{te:TE}{N:LSz}{fr:List (Option Nat)}
variable{cnd:Expr}{tc:TT}
theorem GL{pins:PNz}{σ:St}{H:Hp}{s:Shared}{Q:VK}{cl:List (Str×Addr)}{R:Value->Addr->Result->Shared->Prop}(hc:X.calm=true)(I:Inv X pins σ H s)(hi:PI X tg iter wi)
  (hg:∀cl C s H ex,PG (AQ X scope cl N C s H ex) tg g) (hcn:∀cl C s H ex,PT (AQ X scope cl N C s H ex) cnd tc) (he:∀cl C s H ex,PE (AQ X scope cl N C s H ex) elt te) (ck:EQ X.env.scope X.N scope N fr)
  (c1:∀x c,cl.lookup x=some c->X.env.cells.lookup x=some c) (c2:∀x,(x,NameKind.free)∈scope.names->∃c,cl.lookup x=some c)
  (h:Ly wi g tc te fr σ H Q)
  (hR:∀acc C s' H' m,s'.heap.Ns C m->Ep X pins H' C->Inv X pins σ H' s'->Q (.ref acc) H'->R (.ref acc) C (.ok .next) s') :
  wpAny (model X.prog X.w) X.A (eval iter X.env) (λ x s₁=>wpAny (model X.prog X.w) X.A (pyIter x) (λ it s₂=>wpAny (model X.prog X.w) X.A (newList []) (λ acc s₃ =>
   wpAny (model X.prog X.w) X.A (newFunctionEnv scope X.env.globals cl [] X.env.qual none .none (some X.env)) (λ cenv s₄ =>
    codeAny (model X.prog X.w) X.A (.compStart (.ListComp elt [⟨tg,iter,[cnd],0⟩] scope pos) 0 it acc { cenv with scope:=relabel scope X.env }) (R acc cenv.locals) s₄) X.xe s₃) X.xe s₂) X.xe s₁) X.xe s:=by
 refine thn (hi pins s σ H _ I h) λ v s1 h1=>thn h1 λ itv s2 h2=>?_;obtain⟨it,fp,tn,J,H2,e,I2,T,st2,f2,q2⟩:=h2;subst e;refine wpAny_newObj_type (wpAny_newFunctionEnv ck.nocell (by intro y hy;simp at hy) (λ h₁ hns₁ hsb₁=>?_) ck.kind);dsimp only at hns₁ hsb₁ |-;have I3:Inv X pins σ (upd H2 s2.heap.objs.size (.lst [])) { s2 with heap:=s2.heap.push { cls:=.type "list",dict:=none,data:=.seq ([]:LWz).toArray } }:=I2.lnew (t':=s2.toks) (its:=[]) .nil (Nat.zero_le _);have acc0:H2 s2.heap.objs.size=none:=I2.fresh;obtain⟨W,⟨m0,w0⟩,turn⟩:=q2 s2.heap.objs.size acc0;generalize hH3:s2.heap.push { cls:=.type "list",dict:=none,data:=.seq ([]:LWz).toArray }=h3 at hns₁ hsb₁ I3 |-;have hz3:h3.objs.size=s2.heap.objs.size+1:=by rw[<-hH3,Heap.size_push]
 have k23:∀b o,s2.heap.get? b=some o->h3.get? b=some o:=λ b o e=>by rw[<-hH3];exact Heap.get?_push_of_some _ e
 have k34:∀b o,h3.get? b=some o->h₁.get? b=some o:=λ b o e=>hsb₁.extBut b o (Nat.ne_of_lt (Heap.lt_size e)) (Heap.get?_push_of_some _ e);have fpo:∀b∈fp,∃o,s2.heap.get? b=some o/\∀v,o.data≠.cell v:=T.obj 0 _ st2;have hex:∀b∈fp,Ep X pins (upd H2 s2.heap.objs.size (.lst [])) b/\b<h3.objs.size:=λ b hb=>by
  obtain⟨o,eo,_⟩:=fpo b hb;have lt:=Heap.lt_size eo;obtain⟨f0,fr'⟩:=f2 b hb;exact⟨⟨by rw[Ae (Nat.ne_of_lt lt)];exact f0,fr'⟩,by rw[hz3];exact Nat.lt_succ_of_lt lt⟩
 have I4:Inv (AQ X scope cl N h3.objs.size { s2 with heap:=h3 } (upd H2 s2.heap.objs.size (.lst [])) fp) [] (stC fr σ) (upd H2 s2.heap.objs.size (.lst [])) { s2 with heap:=h₁,toks:=s2.toks+([]:List (Str×Value)).length } :=
  GK I3 ck c1 c2 hex (Nat.le_refl _) hns₁ k34 rfl rfl
 have stat:∀{H':Hp},(∀b∈fp,H' b=none)->∀b∈fp,Ep (AQ X scope cl N h3.objs.size { s2 with heap:=h3 } (upd H2 s2.heap.objs.size (.lst [])) fp) [] H' b:=λ hn b hb =>
  ⟨hn b hb,(I4.ok.exf b hb).1,I4.ok.exfs b hb,.inl hb,(I4.ok.exf b hb).2,λ p hp=>by simp at hp⟩
 have stn:∀i h h',tn i h->(∀b o,h.get? b=some o->h'.get? b=some o)->tn i h':=λ i h h' st kk=>T.keep i h h' st λ b _ o e=>kk b o e;have loop:codeAny (model X.prog X.w) X.A (.compLoop (.ListComp elt [⟨tg,iter,[cnd],0⟩] scope pos) 0 (.ref it) (.ref s2.heap.objs.size) (compEnvC scope cl h3.objs.size X.env)) (R (.ref s2.heap.objs.size) h3.objs.size)
   { s2 with heap:=h₁,toks:=s2.toks+([]:List (Str×Value)).length }:=by
  refine Hv (λ n s'=>∃i σ' H',Inv (AQ X scope cl N h3.objs.size { s2 with heap:=h3 } (upd H2 s2.heap.objs.size (.lst [])) fp) [] σ' H' s'/\tn i s'.heap/\(∀b∈fp,H' b=none)/\W i n σ' H') ?_ m0
   ⟨0,_,_,I4,stn _ _ _ st2 λ b o e=>k34 b o (k23 b o e),λ b hb=>(hex b hb).1.1,w0⟩
  rintro n s3 ⟨i,σ3,H3,J3,st3,fr3,w3⟩;rcases turn i n σ3 H3 w3 with ⟨stop,qn⟩|⟨go,step⟩
  .refine Bq (thn (T.done (AQ X scope cl N h3.objs.size { s2 with heap:=h3 } (upd H2 s2.heap.objs.size (.lst [])) fp) rfl rfl rfl hc i [] s3 σ3 H3 (λ_ _=>False) J3 (stat fr3) st3 stop) λ r s4 hz_=>?_);obtain⟨hr,J4⟩:=hz_;subst hr;obtain⟨mc,hmc,_⟩:=J4.loc;have I5:Inv X pins σ H3 s4:=I3.call' (ch:=fp) J4.os J4.base J4.hok J4.bare λ b hb=>⟨(hex b hb).1.2.2.2.1,(hex b hb).1.2.1,(hex b hb).1.2.2.2.2.1,(hex b hb).1.2.2.2.2.2⟩;exact hR _ _ s4 H3 mc hmc (I3.fpOk (Nat.le_refl _) J4.free) I5 qn
  .refine Bq (thn (T.item (AQ X scope cl N h3.objs.size { s2 with heap:=h3 } (upd H2 s2.heap.objs.size (.lst [])) fp) rfl rfl rfl hc i [] s3 σ3 H3 (λ_ _=>False) J3 (stat fr3) st3 go) λ r s4 hz_=>?_);obtain⟨u,hr,h4⟩:=hz_;subst hr;refine Bq (thn h4 λ_ s5 hz_=>?_);obtain⟨x,H5,J5,r5,y5,st5,fr5⟩:=hz_;have J5':=J5.pinned (stat fr5) (T.obj _ _ st5);refine Bq (thn (hg _ _ _ _ _ _ s5 σ3 H5 x u _ J5' r5 (step x H5 y5)) λ_ s6 hz_=>?_);obtain⟨σ6,H6,J6,q6⟩:=hz_;refine wpAny_tests_one (Bq (thn (hcn _ _ _ _ _ _ s6 σ6 H6 _ J6 q6) λ b sb hz_=>?_));obtain⟨Hb,Jb,qb⟩:=hz_;cases b with
   |false =>
    obtain⟨m',hm',w7⟩:=qb;refine ite_ff ⟨m',hm',i+1,σ6,_,Jb.unpinned,T.keep _ _ _ st5 λ b hb o e=>(Jb.pin (b,o) (List.mem_append_right _ (List.mem_append_right _ (Bd hb e)))).1,λ b hb=>?_,w7⟩;obtain⟨o,e,d⟩:=T.obj _ _ st5 b hb;exact(Jb.pin (b,o) (List.mem_append_right _ (List.mem_append_right _ (Bd hb e)))).2.1
   |true =>
    refine ite_tt ?_;refine Bq (thn (he _ _ _ _ _ _ sb σ6 Hb _ Jb qb) λ y s7 hz_=>?_);obtain⟨v7,H7,J7,r7,xs,hx,hz,m',hm',w7⟩:=hz_;refine Bq (thn (Bc _ s7 σ6 H7 (.ref s2.heap.objs.size) [v7] (.ref s2.heap.objs.size) [y] (λ v H8=>H8=upd H7 s2.heap.objs.size (.lst (xs++[v7]))) J7 rfl (.cons r7 .nil) ⟨_,xs,v7,rfl,rfl,hx,hz,rfl⟩) λ_ s8 hz_=>?_);obtain⟨_,H8,J8,_,e8⟩:=hz_;subst e8;refine⟨m',hm',i+1,σ6,_,J8.unpinned,T.keep _ _ _ st5 λ b hb o e=>(J8.pin (b,o) (List.mem_append_right _ (List.mem_append_right _ (Bd hb e)))).1,λ b hb=>?_,w7⟩;obtain⟨o,e,d⟩:=T.obj _ _ st5 b hb;exact(J8.pin (b,o) (List.mem_append_right _ (List.mem_append_right _ (Bd hb e)))).2.1
 exact codeAny_compStart_list loop (T.self _ 0 _ _ _ (stn _ _ _ st2 λ b o e=>k34 b o (k23 b o e)) loop)
theorem CF(hc:X.calm=true)(hi:PI X tg iter wi)(hg:∀cl C s H ex,PG (AQ X scope cl N C s H ex) tg g)(hcn:∀cl C s H ex,PT (AQ X scope cl N C s H ex) cnd tc)(he:∀cl C s H ex,PE (AQ X scope cl N C s H ex) elt te)
  (hk:EF X.env.scope X.N scope N fr=true:=by rfl) (hs:∀x,foldedSetIterable iter X.env x=pure x:=by intro _;rfl):PE X (.ListComp elt [⟨tg,iter,[cnd],0⟩] scope pos) (Ly wi g tc te fr):=by
 intro pins s σ H Q I h;have ck:=El hk;obtain⟨cl,e1,c1,c2⟩:=JD I.ok ck;rw[eval_ListComp];refine wpAny_comprehension_free (use:=none) (Q:=EP X pins σ Q) rfl hs e1 ck.kind ck.loc (GL (R:=λ acc C=>compPost (model X.prog X.w) X.A X.xe none (EP X pins σ Q) acc C) hc I hi hg hcn he ck c1 c2 h λ acc C s' H' m hn f I' q=>?_);obtain⟨f0,f1,f2,f3,f4,f5⟩:=f;exact⟨m,hn,λ h' hs'=>⟨.ref acc,H',I'.turned (t':=s'.toks) (λ b o hb e=>hs'.extBut b o hb e) f0 f1 f3 f4 f5,rfl,q⟩⟩
theorem Fp{y:Str}{py spos:Pos}{gy:TG}(hc:X.calm=true)(hy:PG X (.Name y py) gy)(hi:PI X tg iter wi)(hg:∀cl C s H ex,PG (AQ X scope cl N C s H ex) tg g)(hcn:∀cl C s H ex,PT (AQ X scope cl N C s H ex) cnd tc)(he:∀cl C s H ex,PE (AQ X scope cl N C s H ex) elt te)
    (hk:EF X.env.scope X.N scope N fr=true:=by rfl) (hsw:swapsWith (.ListComp elt [⟨tg,iter,[cnd],0⟩] scope pos) (some (.Name y py)) spos.line X.env=pure true:=by rfl) (hs:∀x,foldedSetIterable iter X.env x=pure x:=by intro _;rfl) :
    PS X (.Assign [.Name y py] (.ListComp elt [⟨tg,iter,[cnd],0⟩] scope pos) spos) (QS (Ly wi g tc te fr) gy):=by
  intro pins s σ H D I h;have ck:=El hk;obtain⟨cl,e1,c1,c2⟩:=JD I.ok ck;rw[exec_Assign_Name_used _ _ _ _ hsw];refine wpAny_bind (wpAny_standAt (wpAny_bind ?_));show wpAny _ X.A (do let _ <-comprehension (.ListComp elt [⟨tg,iter,[cnd],0⟩] scope pos) scope X.env _ (newList []) false (eval iter X.env) (some (assign (.Name y py) X.env))) _ _ s;refine wpAny_bind (wpAny_mono (wpAny_comprehension_free (use:=some (assign (.Name y py) X.env)) (Q:=λ_ s'=>SP X pins D .next s') rfl hs e1 ck.kind ck.loc
    (GL (R:=λ acc C=>compPost (model X.prog X.w) X.A X.xe (some (assign (.Name y py) X.env)) (λ_ s'=>SP X pins D .next s') acc C) hc I hi hg hcn he ck c1 c2 h λ acc C s' H' m hn f I' q=>?_)) (λ_ s' hq=>wpAny_pure (wpAny_pure hq)) λ_ _ e=>e)
  show wpAny _ X.A (assign (.Name y py) X.env (.ref acc)) _ _ _;obtain⟨oC,es,ep,hoC,hdC,hrC⟩:=id hn;have IP:=I'.pinned (fp:=[C]) (λ b hb=>by rw[List.mem_singleton.mp hb];exact f) (λ b hb=>by rw[List.mem_singleton.mp hb];exact⟨oC,hoC,λ v z=>by rw[hdC]at z;cases z⟩);refine thn (hy _ s' σ H' (.ref acc) (.ref acc) _ IP rfl q) λ_ s'' ⟨σ6,H6,I6,q6⟩=>?_;have pC:=I6.pin (C,oC) (List.mem_append_right _ (List.mem_append_right _ (Bd (List.mem_singleton.mpr rfl) hoC)));obtain⟨f0,f1,f2,f3,f4,f5⟩:=f;exact⟨m,⟨oC,es,ep,pC.1,hdC,hrC⟩,λ h' hs'=>⟨σ6,H6,I6.unpinned.turned (t':=s''.toks) (λ b o hb e=>hs'.extBut b o hb e) pC.2.1 f1 f3 f4 f5,q6⟩⟩
end
section
variable{X:Cx}{a b c d:Expr}{ta tb tc td:TE}{pos:Pos}
theorem Ct{K:Frag}(hK:X.K=K:=by rfl):IxR X (RW K):=by subst hK;exact Ak
theorem Dy{K:Frag}(hK:X.K=K:=by rfl):IxR X (RX K):=by subst hK;exact Cc
end
def fW(acc:Addr)(n:Nat)(Pv:Nat->LUz->St->Hp->Prop)(i m:Nat)(σ:St)(H:Hp):Prop:=i<=n/\m=n-i/\∃xs,xs.length<=i/\H acc=some (.lst xs)/\Pv i xs σ H
def fNx(acc:Addr)(n:Nat)(Pv:Nat->LUz->St->Hp->Prop)(i:Nat)(σ:St)(v:V)(H:Hp):Prop:=∃xs,H acc=some (.lst xs)/\xs.length<sizeLine/\∃m',m'<n-i/\fW acc n Pv (i+1) m' σ (upd H acc (.lst (xs++[v])))
def fSk(acc:Addr)(n:Nat)(Pv:Nat->LUz->St->Hp->Prop)(i:Nat)(σ:St)(H:Hp):Prop:=∃m',m'<n-i/\fW acc n Pv (i+1) m' σ H
theorem fNx.mk{acc:Addr}{n:Nat}{Pv:Nat->LUz->St->Hp->Prop}{i:Nat}{σ:St}{v:V}{H:Hp}{xs:LUz}(hn:n<=sizeLine)(hi:i<n)(hl:xs.length<=i)(ha:H acc=some (.lst xs))(hp:Pv (i+1) (xs++[v]) σ (upd H acc (.lst (xs++[v])))) :
  fNx acc n Pv i σ v H:=⟨xs,ha,by lia,n-(i+1),by lia,hi,rfl,xs++[v],by rw[List.length_append,List.length_singleton];lia,upd_same,hp⟩
theorem fSk.mk{acc:Addr}{n:Nat}{Pv:Nat->LUz->St->Hp->Prop}{i:Nat}{σ:St}{H:Hp}{xs:LUz}(hi:i<n)(hl:xs.length<=i)(ha:H acc=some (.lst xs))(hp:Pv (i+1) xs σ H):fSk acc n Pv i σ H:=⟨n-(i+1),by lia,hi,rfl,xs,by lia,ha,hp⟩
theorem BM{K:Frag}{a:Addr}{ys:LUz}{g:TG}{tc:TT}{te:TE}{σ:St}{H1:Hp}{acc:Addr}{Qr:Hp->Prop}(Pv:Nat->LUz->St->Hp->Prop)(h0:Pv 0 [] σ (upd H1 acc (.lst [])))
  (hq:∀i xs σ H,i<=ys.length->H acc=some (.lst xs)->Pv i xs σ H->SqL K H a ys)
  (hs:∀i x xs σ H,ys[i]?=some x->i<ys.length->xs.length<=i->H acc=some (.lst xs)->Pv i xs σ H->g x σ H λ σ2 H2=>tc σ2 H2 λ b Hb=>match b with
   |true=>te σ2 Hb λ v H3=>fNx acc ys.length Pv i σ2 v H3
   |false=>fSk acc ys.length Pv i σ2 Hb)
  (hd:∀xs σ H,xs.length<=ys.length->H acc=some (.lst xs)->Pv ys.length xs σ H->Qr H) :
  ∃W:Nat->Nat->St->Hp->Prop,(∃m,W 0 m σ (upd H1 acc (.lst [])))/\∀i m σ1 H2,W i m σ1 H2 ->
   ((Itl K a).stop i H2/\Qr H2)\/((Itl K a).go i H2/\∀x H3,(Itl K a).yld i H2 x H3->g x σ1 H3 λ σ4 H4=>tc σ4 H4 λ b Hb=>match b with
    |true=>te σ4 Hb λ v H5=>∃xs,H5 acc=some (.lst xs)/\xs.length<sizeLine/\∃m',m'<m/\W (i+1) m' σ4 (upd H5 acc (.lst (xs++[v])))
    |false=>∃m',m'<m/\W (i+1) m' σ4 Hb):=by
 refine⟨fW acc ys.length Pv,⟨ys.length,Nat.zero_le _,rfl,[],Nat.le_refl _,upd_same,h0⟩,?_⟩;rintro i m σ1 H2 ⟨hi,rfl,xs,hl,ha,hp⟩;have hsq:=hq i xs σ1 H2 hi ha hp;rcases Nat.lt_or_ge i ys.length with h|h
 .refine .inr ⟨⟨ys,ys[i],hsq,List.getElem?_eq_getElem h⟩,?_⟩;rintro x H3 ⟨rfl,hx⟩;exact hs i x xs σ1 H3 (hx ys hsq) h hl ha hp
 .have e:i=ys.length:=Nat.le_antisymm hi h;subst e;exact .inl ⟨⟨ys,hsq,Nat.le_refl _⟩,hd xs σ1 H2 hl ha hp⟩
theorem Paired.get{α β:Type}{F:α->β->Prop}:∀{l₁:List α}{l₂:List β},Paired F l₁ l₂->∀{i:Nat}{a:α},l₁[i]?=some a->∃b,l₂[i]?=some b/\F a b
 |_,_,.nil,i,a,h=>by simp at h
 |_,_,.cons f t,0,a,h=>by
  simp only[List.getElem?_cons_zero,Option.some.injEq]at h;subst h;exact⟨_,rfl,f⟩
 |_,_,.cons f t,i+1,a,h=>by
  simp only[List.getElem?_cons_succ]at h |-;exact Paired.get t h
section
variable{prog:Program}{w:World}{A:Around}{E:VPz}{s:Shared}{it d v:Addr}{i n ep:Nat}{od:Obj}{es:Array DictEntry}{k0 v0:Value}
theorem Mb{Q:VPz}(hs:(d==sysModules)=false)(hT:s.TypeIs (.ref d) "dict")
  (fin:Q (.ref s.heap.objs.size) { s with heap:=s.heap.push { cls:=.type "dict_items",data:=.fields #[.ref d] } }):wpAny (model prog w) A (call (.builtin "dict.items") [.ref d]) Q E s:=by
 refine wpAny_call_entry PySem.F.slot_dict_items hT PySem.F.entry_dict_items ?_ (PySem.F.args_dict_items_1 _);unfold Builtin.«dict.items» Builtin.Dict.noArgs;refine wpAny_bind (wpAny_bind (wpAny_notOrdered_dict hT ?_));show wpAny (model prog w) _ (pure d) _ _ s;refine wpAny_pure ?_;unfold Builtin.Dict.showsAll;have no:¬(d==sysModules)=true:=by rw[hs];exact Bool.false_ne_true
 rw[if_neg no];exact wpAny_bind (wpAny_pure (wpAny_bind (wpAny_newObj_type (wpAny_pure ⟨_,rfl,fin⟩))))
theorem K8{Q:VPz}(hv:s.heap.IsItemsView v d)(hd:s.heap.get? d=some od)(dd:od.data=.dict es ep)(hn:es.size=n)
  (fin:Q (.ref s.heap.objs.size) { s with heap:=s.heap.push { cls:=.type "dict_itemiterator",data:=.fields #[.none,.bool false,.ref d,.int 0 0,.int n 0,.int ep 0,.none,.none] } }) :
  wpAny (model prog w) A (pyIter (.ref v)) Q E s:=by
 obtain⟨ov,g1,g2,g3⟩:=id hv;refine wpAny_pyIter_slot hv.typeIs PySem.F.slot_dict_items_iter (wpAny_call_entry PySem.F.slot_dict_items_iter hv.typeIs PySem.F.entry_dict_items_iter ?_ (PySem.F.args_dict_items_iter_1 _));unfold Builtin.«dict_items.__iter__» Builtin.Dict_items.dictOf Builtin.Dict_items.newIterator;refine wpAny_bind (wpAny_pure (wpAny_bind (wpAny_bind (wpAny_field g1 g3 (x:=.ref d) rfl (wpAny_pure ?_)))));refine wpAny_bind (wpAny_bind (wpAny_dictEntries hd dd (wpAny_bind (wpAny_dictEpoch hd dd ?_))));have own:Builtin.Dict_items.ownsTuple "dict_itemiterator"=true:=by decide
 simp only[own,if_true];refine wpAny_newObj_type (wpAny_pure ⟨_,rfl,"dict_itemiterator",_,⟨_,Heap.get?_push_size _ rfl,rfl⟩,PySem.F.slot_dict_itemiterator_next.lookup,?_⟩) ?_
 .subst hn
  simpa [rawInt,Builtin.Dict_items.ownedTupleFields] using fin
 .simp only[sizeOk,Builtin.Dict_items.ownedTupleFields,List.size_toArray,List.length_append,List.length_cons,List.length_nil,sizeLine_eq];lia
theorem NB{e:DictEntry}{Q:Option Value->Shared->Prop}(g:IsItemIter s.heap it d i n ep k0 v0)(hd:s.heap.get? d=some od)(dd:od.data=.dict es ep)(hn:es.size=n)(he:es[i]?=some e)
  (fin:∀h',IsItemIterOut h' it d (i+1) n ep e.key e.val s.heap.objs.size->h'.get? s.heap.objs.size=some { cls:=.type "tuple",data:=.seq #[e.key,e.val] } ->
   (∀b o,b≠it->s.heap.get? b=some o->h'.get? b=some o)->Q (some (.ref s.heap.objs.size)) { s with heap:=h' }):wpAny (model prog w) A (pyNext (.ref it)) Q E s:=by
 obtain⟨hp,gs,dr,tk,os⟩:=s;have ty:Shared.TypeIs ⟨hp,gs,dr,tk,os⟩ (.ref it) "dict_itemiterator":=⟨_,g,rfl⟩;have lt:=(Array.getElem?_eq_some_iff.mp he).1;unfold pyNext;refine wpAny_bind (wpAny_attempt (wpAny_callSpecial?_slot (name:=Str.ofString "__next__") ty PySem.F.slot_dict_itemiterator_next (wpAny_call_entry PySem.F.slot_dict_itemiterator_next ty PySem.F.entry_dict_itemiterator_next ?_ (PySem.F.args_dict_itemiterator_next_1 _))));refine wpAny_bind (wpAny_pure (wpAny_bind (wpAny_bind ?_)))
 first|refine wpAny_bind (wpAny_typeNameOfWhole_itemiter ty (wpAny_pure ?_))|refine wpAny_bind (wpAny_typeNameOf_itemiter ty (wpAny_pure ?_))
 refine wpAny_bind (wpAny_fieldsOf g rfl ?_);have own:Builtin.Dict_items.ownsTuple "dict_itemiterator"=true:=by decide
 have nn:¬((Value.ref d==Value.none)=true):=Bool.false_ne_true;simp only[own,if_true];show wpAny (model prog w) _ (if (Value.ref d==Value.none)=true then _ else _) _ _ _;rw[if_neg nn];refine wpAny_bind (wpAny_pure (wpAny_bind (wpAny_dictEntries hd dd ?_)));rw[if_neg (by rw[hn];simp)];refine wpAny_bind (wpAny_pure (wpAny_bind (wpAny_dictEpoch hd dd ?_)));rw[if_neg (by simp)];refine wpAny_pure ?_;simp only[show ¬((i:Int)<0) from by lia,if_false,Int.toNat_natCast,he];refine wpAny_bind ?_
 first|refine wpAny_bind (wpAny_typeNameOfWhole_itemiter ty (wpAny_pure ?_))|refine wpAny_bind (wpAny_typeNameOf_itemiter ty (wpAny_pure ?_))
 refine wpAny_bind (wpAny_isOneOf_itemiter ty ?_);show wpAny (model prog w) _ (setField (.ref it) 3 (rawInt ((i:Int)+1)) >>= _) _ _ ⟨hp,gs,dr,tk,os⟩;refine wpAny_bind (wpAny_setField_rec g (by simp) λ h1 g1 b1=>?_)
 replace b1:Heap.SameBut it hp h1:=b1
 replace g1:IsItemIter h1 it d (i+1) n ep k0 v0:=by
  have z:((i+1:Nat):Int)=(i:Int)+1:=by lia
  unfold IsItemIter;rw[z];simpa [rawInt] using g1
 have ty1:Shared.TypeIs ⟨h1,gs,dr,tk,os⟩ (.ref it) "dict_itemiterator":=⟨_,g1,rfl⟩;refine wpAny_bind (wpAny_holding (wpAny_bind (wpAny_isOneOf_itemiter ty1 (wpAny_bind (wpAny_isOneOf_itemiter ty1 ?_)))));show wpAny (model prog w) _ (Builtin.Dict_items.pairFromOwner (.ref it) 6 e.key e.val) _ _ ⟨h1,gs,dr,tk,os⟩;unfold Builtin.Dict_items.pairFromOwner Builtin.Dict_items.ownedTupleIsFree;refine wpAny_bind (wpAny_newTuple ?_);have z1:h1.objs.size=hp.objs.size:=b1.1;have il:it<hp.objs.size:=Heap.lt_size g;obtain⟨h2,e2⟩:∃h2,h2=h1.push { cls:=.type "tuple",data:=.seq #[e.key,e.val] }:=⟨_,rfl⟩;have g2:IsItemIter h2 it d (i+1) n ep k0 v0:=by rw[e2];exact Heap.get?_push_of_some _ g1
 have t2:h2.get? hp.objs.size=some { cls:=.type "tuple",data:=.seq #[e.key,e.val] }:=by rw[e2,<-z1];exact Heap.get?_push_size _ rfl
 have k2:∀b o,b≠it->hp.get? b=some o->h2.get? b=some o:=λ b o nb q=>by rw[e2];exact Heap.get?_push_of_some _ (b1.extBut b o nb q)
 show wpAny (model prog w) _ _ _ _ ⟨h1.push { cls:=.type "tuple",data:=.seq #[e.key,e.val] },gs,dr,tk,os⟩;rw[z1,<-e2];clear e2 g1 b1 ty1 z1;refine wpAny_bind (wpAny_bind (wpAny_field g2 rfl (x:=.none) rfl (wpAny_pure ?_)));simp only[if_true];refine wpAny_bind (wpAny_field g2 rfl (x:=k0) rfl (wpAny_bind (wpAny_field g2 rfl (x:=v0) rfl ?_)));refine wpAny_bind (wpAny_setField_rec g2 (by simp) λ h3 g3 b3=>?_)
 replace b3:Heap.SameBut it h2 h3:=b3
 replace g3:IsItemIter h3 it d (i+1) n ep e.key v0:=g3
 refine wpAny_bind (wpAny_setField_rec g3 (by simp) λ h4 g4 b4=>?_)
 replace b4:Heap.SameBut it h3 h4:=b4
 replace g4:IsItemIter h4 it d (i+1) n ep e.key e.val:=g4
 refine wpAny_bind (wpAny_setField_rec g4 (by simp) λ h5 g5 b5=>?_)
 replace b5:Heap.SameBut it h4 h5:=b5
 replace g5:IsItemIterOut h5 it d (i+1) n ep e.key e.val hp.objs.size:=g5
 refine wpAny_bind (wpAny_setField_rec g5 (by simp) λ h6 g6 b6=>?_)
 replace b6:Heap.SameBut it h5 h6:=b6
 have far:∀b o,b≠it->h2.get? b=some o->h6.get? b=some o:=λ b o nb q=>b6.extBut b o nb (b5.extBut b o nb (b4.extBut b o nb (b3.extBut b o nb q)));exact wpAny_bind (wpAny_letGo (wpAny_pure (wpAny_pure ⟨_,rfl,wpAny_pure (fin h6 g6 (far _ _ (Nat.ne_of_gt il) t2) λ b o nb q=>far b o nb (k2 b o nb q))⟩)))
theorem NC{Q:Option Value->Shared->Prop}(hh:A.handled=none)(g:IsItemIter s.heap it d i n ep k0 v0)(hd:s.heap.get? d=some od)(dd:od.data=.dict es ep)(hn:es.size=n)(he:n<=i)
  (fin:∀h',Heap.ExtBut it s.heap h'->Q none { s with heap:=h' }):wpAny (model prog w) A (pyNext (.ref it)) Q E s:=by
 have ty:s.TypeIs (.ref it) "dict_itemiterator":=⟨_,g,rfl⟩;unfold pyNext;refine wpAny_bind (wpAny_attempt (wpAny_callSpecial?_slot (name:=Str.ofString "__next__") ty PySem.F.slot_dict_itemiterator_next (wpAny_call_entry PySem.F.slot_dict_itemiterator_next ty PySem.F.entry_dict_itemiterator_next ?_ (PySem.F.args_dict_itemiterator_next_1 _))));refine wpAny_bind (wpAny_pure (wpAny_bind (wpAny_bind ?_)))
 first|refine wpAny_bind (wpAny_typeNameOfWhole_itemiter ty (wpAny_pure ?_))|refine wpAny_bind (wpAny_typeNameOf_itemiter ty (wpAny_pure ?_))
 refine wpAny_bind (wpAny_fieldsOf g rfl ?_);have own:Builtin.Dict_items.ownsTuple "dict_itemiterator"=true:=by decide
 have nn:¬((Value.ref d==Value.none)=true):=Bool.false_ne_true;simp only[own,if_true];show wpAny (model prog w) _ (if (Value.ref d==Value.none)=true then _ else _) _ _ s;rw[if_neg nn];refine wpAny_bind (wpAny_pure (wpAny_bind (wpAny_dictEntries hd dd ?_)));rw[if_neg (by rw[hn];simp)];refine wpAny_bind (wpAny_pure (wpAny_bind (wpAny_dictEpoch hd dd ?_)));rw[if_neg (by simp)];refine wpAny_pure ?_;have off:es[i]?=none:=Array.getElem?_eq_none (by lia);simp only[show ¬((i:Int)<0) from by lia,if_false,Int.toNat_natCast,off];refine wpAny_bind ?_
 first|refine wpAny_bind (wpAny_typeNameOfWhole_itemiter ty (wpAny_pure ?_))|refine wpAny_bind (wpAny_typeNameOf_itemiter ty (wpAny_pure ?_))
 show wpAny (model prog w) _ (setField (.ref it) 2 .none >>= _) _ _ s;refine wpAny_bind (wpAny_setField g rfl (by simp) ?_);show wpAny (model prog w) _ (newExc (.type "StopIteration") [] >>= _) _ _ _;refine wpAny_bind ?_;simp only[newExc,newTuple];refine wpAny_bind (wpAny_newObj_type (wpAny_bind (m:=firstArgMember _ _) (wpAny_of_eq (a:=Value.none) (by first|rfl|(simp only[firstArgMember];rfl)) (wpAny_newObj_type ?_ (by size_fits)))) (by size_fits));simp only[raiseNew];refine wpAny_bind (wpAny_handled ?_);have hh1:A.in1.handled=none:=hh;rw[hh1];refine wpAny_bind (wpAny_pure (wpAny_throw ?_));refine wpAny_bind (wpAny_isInstance (T:="StopIteration") (b:=true) ⟨_,Heap.get?_push_size _ rfl,rfl⟩ isSubtype_stop ?_);exact wpAny_pure (fin _ (((Heap.SameBut.update ..).extBut.push _).push _))
end
def Itn(a:Addr)(ob:Obj):It :=
 ⟨λ i H=>∃kvs p,H a=some (.frz ob (.dT kvs))/\kvs[i]?=some p,
  λ i H y H'=>∃t b p,(∀kvs,H a=some (.frz ob (.dT kvs))->kvs[i]?=some p)/\H b=some (.tup (p.1.map kV))/\y=.ref t/\H t=none/\H'=upd H t (.tup [.ref b,p.2]),
  λ i H=>∃kvs,H a=some (.frz ob (.dT kvs))/\kvs.length<=i⟩
theorem MX{P:Program}{w:World}{H:Hp}{h:Heap}{a:Addr}{ob:Obj}{kvs:LKz}{ents:Array DictEntry}{ep:Nat}(ok:HOk P w H h)(e:H a=some (.frz ob (.dT kvs)))(hd:ob.data=.dict ents ep) :
  h.get? a=some ob/\∃xs,KT H kvs xs/\ents.toList=xs.map (entryOfKey (tupleKind (AS P w)))/\ents.size=kvs.length:=by
 obtain⟨ho,_,_,xs,rel,o,es,ep',h1,h2,h3,h4,h5⟩:=(show ObjOk P w H h a (.frz ob (.dT kvs)) from ok a _ e);rw[ho]at h1;cases h1;rw[hd]at h3;cases h3;refine⟨ho,xs,rel,h4,?_⟩;rw[size_of_entries h4];exact(Paired.length rel).symm
theorem JX{P:Program}{w:World}{K:Frag}{es:List Expr}{k:Nat}{pos:Pos}(a it:Addr){ob:Obj}{ents:Array DictEntry}{n ep:Nat}(hd:ob.data=.dict ents ep)(hn:ents.size=n) :
  Mp P w K (.Tuple es k pos) (Itn a ob) [it] it (λ i h=>∃ok ov,IsItemIter h it a i n ep ok ov) where
 mem:=by simp
 obj:=λ i h st b hb=>by
  obtain⟨ok,ov,he⟩:=st;rw[List.mem_singleton.mp hb];exact⟨_,he,λ v z=>by
   have z':Data.fields _=Data.cell v:=z;cases z'⟩
 keep:=λ i h h' st kk=>by
  obtain⟨ok,ov,he⟩:=st;exact⟨ok,ov,kk it (by simp) _ he⟩
 item:=by
  intro X hP hw hK hc i pins s σ H E I hf st hg;subst hP hw hK;obtain⟨ok,ov,he⟩:=st;obtain⟨kvs,p,hq,hx⟩:=hg;obtain⟨ho,xs,rel,hes,hl⟩:=MX I.hok hq hd;obtain⟨⟨k',b,u⟩,hu,hk',hb,ru⟩:=Paired.get rel hx;have fi:=hf it (by simp);have hei:ents[i]?=some ⟨(tupleKind (AS X.prog X.w)).hash k',.ref b,u⟩:=by rw[entry_at hes i,hu];rfl
  refine NB he ho hd hn hei λ h' ho' hT kk=>?_;refine⟨_,rfl,?_⟩;have hfr:H s.heap.objs.size=none:=I.hok.fresh (Nat.le_refl _);have ltI:it<s.heap.objs.size:=Heap.lt_size he;have I1:Inv X pins σ (upd H s.heap.objs.size (.tup [.ref b,p.2])) { s with heap:=h',toks:=s.toks }:=by
   refine Il I fi fi (λ b o nb _ z=>kk b o nb z) ⟨_,ho'⟩ ⟨_,ho'⟩ ⟨?_,[.ref b,u],.cons rfl (.cons ru .nil),⟨_,hT,rfl,_,rfl⟩⟩;show 2<=sizeLine;decide
  refine wpAny_letOwnedTupleGo_items (s:={ s with heap:=h' }) ho' λ h2 he2 sb=>?_;have nI:it≠s.heap.objs.size:=Nat.ne_of_lt ltI;have fi2:(upd H s.heap.objs.size (.tup [.ref b,p.2])) it=none:=by rw[Ae nI];exact fi.1
  have I2:Inv X pins σ (upd H s.heap.objs.size (.tup [.ref b,p.2])) { ({ s with heap:=h',toks:=s.toks }:Shared) with heap:=h2,toks:=s.toks } :=
   I1.turned (t':=s.toks) (it:=it) (λ b o hb z=>(sb.2 b hb).trans z) fi2 fi.2.1 fi.2.2.2.1 fi.2.2.2.2.1 fi.2.2.2.2.2
  refine⟨.ref s.heap.objs.size,_,I2,rfl,⟨_,b,p,λ ys hy=>?_,hb,rfl,hfr,rfl⟩,⟨_,_,he2⟩,λ b hb=>?_⟩
  .rw[hq]at hy;cases hy;exact hx
  .rw[List.mem_singleton.mp hb];exact fi2
 done:=by
  intro X hP hw hK hc i pins s σ H E I hf st hg;subst hP hw hK;obtain⟨ok,ov,he⟩:=st;obtain⟨kvs,hq,hx⟩:=hg;obtain⟨ho,xs,rel,hes,hl⟩:=MX I.hok hq hd;obtain⟨f0,f1,f2,f3,f4,f5⟩:=hf it (by simp);exact NC (I.ok.hd hc) he ho hd hn (by lia) λ h' eb=>⟨rfl,I.turned (t':=s.toks) (λ b o hb z=>eb b o hb z) f0 f1 f3 f4 f5⟩
 self:=λ_ _ _ _ _ st h=>by
  obtain⟨ok,ov,he⟩:=st;exact kcp_self he h
def Qg(td:TE):TI:=λ σ H R=>td σ H λ x H1=>∃a kvs,x=.ref a/\H1 a=some (.dT kvs)/\∀ob,R (Itn a ob) (upd H1 a (.frz ob (.dT kvs)))
section
variable{X:Cx}
theorem N6{o:Expr}{es:List Expr}{k:Nat}{tpos apos cpos:Pos}{td:TE}(hp:PE X o td)
  (hb:attributeBase o "items" X.env (eval o X.env)=eval o X.env:=by rfl) (hline:(apos.endLine==cpos.line)=true:=by rfl) :
  PI X (.Tuple es k tpos) (.Call (.Attribute o "items" apos) [] [] cpos) (Qg td):=by
 intro pins s σ H R I h;refine wpAny_Call_method0_late hb hline (thn (hp pins s σ H _ I h) λ v s1 hz_=>?_);obtain⟨x,H1,I1,r1,q1⟩:=hz_;obtain⟨a,kvs,e,ea,q⟩:=q1;subst e;cases r1;obtain⟨hty,hnd,hsys⟩:=Ru I1 (.inr ⟨kvs,.inl ea⟩);refine⟨"dict","dict.items",PySem.F.plainAttrs_dict,PySem.F.slot_dict_items,PySem.F.type_dict_items,hty,hnd,Calls.callWith_builtin rfl (PySem.evalArgs_none ?_)⟩;refine Mb hsys hty ?_;obtain⟨_,_,xs,rel,ob,ents,ep,g1,g2,g3,g4,g5⟩:=(show ObjOk X.prog X.w H1 s1.heap a (.dT kvs) from I1.hok a _ ea);refine K8 (n:=ents.size) ⟨_,Heap.get?_push_size _ rfl,rfl,rfl⟩ (Heap.get?_push_of_some _ g1) g3 rfl ?_;have I2:Inv X pins σ H1 { s1 with heap:=s1.heap.push { cls:=.type "dict_items",data:=.fields #[.ref a] },toks:=s1.toks }:=I1.kept λ b u z=>Heap.get?_push_of_some _ z;have I3:=I2.kept (h':=(s1.heap.push { cls:=.type "dict_items",data:=.fields #[.ref a] }).push { cls:=.type "dict_itemiterator",data:=.fields #[.none,.bool false,.ref a,.int 0 0,.int ents.size 0,.int ep 0,.none,.none] }) (t':=s1.toks) λ b u z=>Heap.get?_push_of_some _ z;have g1':((s1.heap.push { cls:=.type "dict_items",data:=.fields #[.ref a] }).push { cls:=.type "dict_itemiterator",data:=.fields #[.none,.bool false,.ref a,.int 0 0,.int ents.size 0,.int ep 0,.none,.none] }).get? a=some ob:=Heap.get?_push_of_some _ (Heap.get?_push_of_some _ g1);have new:ObjOk X.prog X.w (upd H1 a (.frz ob (.dT kvs))) ((s1.heap.push { cls:=.type "dict_items",data:=.fields #[.ref a] }).push { cls:=.type "dict_itemiterator",data:=.fields #[.none,.bool false,.ref a,.int 0 0,.int ents.size 0,.int ep 0,.none,.none] }) a (.frz ob (.dT kvs)):=by
  obtain⟨y1,y2,ys,yr,y3⟩:=(show ObjOk X.prog X.w H1 _ a (.dT kvs) from I3.hok a _ ea);refine⟨g1',y1,y2,ys,KT.keeps yr λ c zs ec=>?_,y3⟩;rw[Ae (MP ec ea (λ z=>nomatch z))];exact ec
 have I4:=I3.write (x:=a) (e:=a) (o:=.frz ob (.dT kvs)) (h':=(s1.heap.push { cls:=.type "dict_items",data:=.fields #[.ref a] }).push { cls:=.type "dict_itemiterator",data:=.fields #[.none,.bool false,.ref a,.int 0 0,.int ents.size 0,.int ep 0,.none,.none] }) (t':=s1.toks)
  (by rw[ea];exact True.intro) (.inl rfl) (λ b u _ z=>z) ⟨ob,g1'⟩ new
 have na:s1.heap.objs.size+1≠a:=Nat.ne_of_gt (Nat.lt_succ_of_lt (Heap.lt_size g1));refine⟨(s1.heap.push { cls:=.type "dict_items",data:=.fields #[.ref a] }).objs.size,[(s1.heap.push { cls:=.type "dict_items",data:=.fields #[.ref a] }).objs.size],_,_,_,rfl,I4,JX a _ g3 rfl,⟨_,_,Heap.get?_push_size _ rfl⟩,λ b hb'=>?_,q ob⟩;rw[List.mem_singleton.mp hb'];refine I2.fpOk (Nat.le_refl _) ?_;rw[Ae (by rw[Heap.size_push];exact na)];exact I2.hok.fresh (Nat.le_refl _)
end
section
variable{prog:Program}{w:World}{A:Around}{E:VPz}{s:Shared}{R:Result->Shared->Prop}{I:Addr}{fp wr:List Addr}{n:Nat}{P:Nat->Value->Prop}{St:Nat->Heap->Prop}
def SE(prog:Program)(w:World)(A:Around)(G:Heap->Prop)(P:Nat->Value->Prop)(lt:Nat->Nat->Bool):Prop :=
 ∀i j vi vj (s:Shared) (Q:VPz) (E:VPz),G s.heap->P i vi->P j vj->Q (.bool (lt i j)) s->wpAny (model prog w) A (richCompare .Lt vi vj) Q E s
theorem NE(wk:Walks prog w A.in1 I fp wr n P St)(lt:Nat->Nat->Bool)(B:Addr)(hB:B∉fp){G:Heap->Prop}(hG:∀h h',G h->(∀b o,b∉wr->b≠B->h.get? b=some o->h'.get? b=some o)->G h')(cmp:SE prog w A.in1 G P lt) :
  ∀(r j:Nat)(s:Shared)(cur:Value)(c:Nat),n-(j+1)=r->j+1<=n->G s.heap->St (j+1) s.heap->P (argBest lt j) cur->s.heap.get? B=some { cls:=.type "list",dict:=none,data:=.seq #[cur,cur] c,slots:=#[] } ->
  (∀v h' tk,P (argBest lt (n-1)) v->(∀b o,b∉wr->b≠B->s.heap.get? b=some o->h'.get? b=some o)->R (.ok (.ret v)) { s with heap:=h',toks:=tk }) ->
  codeAny (model prog w) A (.builtin "min.loop" ⟨[.ref I,.none,.ref B],[]⟩) R s:=by
 have nB:B∉wr:=λ z=>hB (wk.sub _ z);have name:(toString "min"++toString ".loop":String)="min.loop":=by decide
 intro r
 induction r with
 |zero =>
  intro j s cur c hr hj gs st pc gB fin;have hend:j+1=n:=by lia
  refine codeAny_builtin PySem.F.entry_min_loop ?_;rw[Around.under_plainId PySem.F.plain_min_loop _];show wpAny (model prog w) A.in1 (seqItems? (.ref B) >>= _) _ _ s;refine wpAny_bind (wpAny_seqItems gB rfl ?_);show wpAny (model prog w) A.in1 (tryCatch (pyNext (.ref I)) _ >>= _) _ _ s;refine wpAny_bind (wpAny_tryCatch (wk.done s _ _ (hend ▸ st) λ h1 tk kp=>?_));have gB1:=kp B _ nB gB;show wpAny (model prog w) A.in1 (updateSeq B (λ_=>#[]) >>= _) _ _ _;refine wpAny_bind ?_;refine wpAny_updateSeq gB1 rfl (wpAny_bind (wpAny_letGo (wpAny_pure ?_)));refine fin cur _ tk (by rw[<-hend];exact pc) λ b o bw bB z=>?_;exact(Heap.get?_update_other _ _ (Ne.symm bB)).trans (kp b o bw z)
 |succ r ih =>
  intro j s cur c hr hj gs st pc gB fin;have more:j+1<n:=by lia
  refine codeAny_builtin PySem.F.entry_min_loop ?_;rw[Around.under_plainId PySem.F.plain_min_loop _];show wpAny (model prog w) A.in1 (seqItems? (.ref B) >>= _) _ _ s;refine wpAny_bind (wpAny_seqItems gB rfl ?_);show wpAny (model prog w) A.in1 (tryCatch (pyNext (.ref I)) _ >>= _) _ _ s;refine wpAny_bind (wpAny_tryCatch (wk.item (j+1) s _ _ more st λ v h1 tk pv st1 kp=>?_));have gB1:=kp B _ nB gB;have gs1:G h1:=hG _ _ gs λ b o bw _ z=>kp b o bw z;show wpAny (model prog w) A.in1 (tryCatch (holding [v,v] (richCompare .Lt v cur >>= _)) _ >>= _) _ _ _;refine wpAny_bind (wpAny_tryCatch (wpAny_holding (wpAny_bind (cmp (j+1) (argBest lt j) v cur _ _ _ gs1 pv pc ?_))));refine wpAny_bind (wpAny_holding (wpAny_truthy_bool (wpAny_bind (wpAny_letGo (wpAny_pure ?_)))));cases q:lt (j+1) (argBest lt j) with
  |true =>
   simp only[if_true];refine wpAny_bind ?_;refine wpAny_updateSeq gB1 rfl (wpAny_bind (wpAny_letGo ?_));rw[name];refine wpAny_pure ⟨plainId_quiet PySem.F.plain_min_loop _,ih (j+1) _ v _ (by lia) more (hG _ _ gs1 λ b o _ bB z=>?_) (wk.frame _ _ _ st1 λ b bf o z=>?_) (by simp only[argBest,q,if_true];exact pv) (Heap.get?_update_self _ gB1 rfl) λ v2 h2 tk2 p2 k2=>?_⟩
   .exact(Heap.get?_update_other _ _ (Ne.symm bB)).trans z
   .have ne:B≠b:=λ z2=>hB (by rw[z2];exact bf);exact(Heap.get?_update_other _ _ ne).trans z
   .exact fin v2 h2 tk2 p2 λ b o bw bB z=>k2 b o bw bB ((Heap.get?_update_other _ _ (Ne.symm bB)).trans (kp b o bw z))
  |false =>
   simp only[Bool.false_eq_true,if_false];refine wpAny_bind (wpAny_letGo ?_);rw[name];refine wpAny_pure ⟨plainId_quiet PySem.F.plain_min_loop _,ih (j+1) _ cur c (by lia) more gs1 st1 (by simp only[argBest,q,Bool.false_eq_true,if_false];exact pc) gB1 λ v2 h2 tk2 p2 k2=>?_⟩;exact fin v2 h2 tk2 p2 λ b o bw bB z=>k2 b o bw bB (kp b o bw z)
theorem Sj{Q:VPz}{l:Addr}{items:Array Value}{lt:Nat->Nat->Bool}(hh:A.handled=none)(hl:s.heap.IsList l items)(hne:0<items.size)
  (cmp:SE prog w A.in1 (λ h=>∀b o,s.heap.get? b=some o->h.get? b=some o) (λ i v=>items[i]?=some v) lt)
  (fin:∀v h' tk,items[argBest lt (items.size-1)]?=some v->(∀b o,s.heap.get? b=some o->h'.get? b=some o)->Q v { s with heap:=h',toks:=tk }) :
  wpAny (model prog w) A (call (.builtin "min") [.ref l]) Q E s:=by
 have name:(toString "min"++toString ".loop":String)="min.loop":=by decide
 refine call_function_tree PySem.F.kind_min PySem.F.plain_min PySem.F.entry_min (PySem.F.args_min1 _) ?_;show wpAny (model prog w) A.in1 (Builtin.Builtins.bindParams "min" ["key","default"] 0 ⟨[],[]⟩ >>= _) _ _ s;refine wpAny_bind (wpAny_of_eq (show Builtin.Builtins.bindParams "min" ["key","default"] 0 ⟨[],[]⟩=pure [none,none] from rfl) ?_);refine wpAny_bind (wpAny_pure ?_);refine wpAny_bind (wpAny_pyIter_list hl ?_);refine wpAny_bind (wpAny_newList ?_ (Nat.zero_le _));rw[name];obtain⟨ol,hol,rl⟩:=id hl;have hlt:l<s.heap.objs.size:=Heap.lt_size hol;have sz:(s.heap.push { cls:=.type "list_iterator",data:=.fields #[.ref l,.int 0 0] }).objs.size=s.heap.objs.size+1:=Heap.size_push ..;have wk:=Walks.list (prog:=prog) (w:=w) (A:=A.in1) hh s.heap.objs.size l (Nat.ne_of_lt hlt) items;have st0:(((s.heap.push { cls:=.type "list_iterator",data:=.fields #[.ref l,.int 0 0] }).push { cls:=.type "list",data:=.seq #[] }).IsListIter s.heap.objs.size l 0)/\((s.heap.push { cls:=.type "list_iterator",data:=.fields #[.ref l,.int 0 0] }).push { cls:=.type "list",data:=.seq #[] }).IsList l items:=⟨⟨_,Heap.get?_push_of_some _ (Heap.get?_push_size _ rfl),rfl,rfl⟩,ol,Heap.get?_push_of_some _ (Heap.get?_push_of_some _ hol),rl⟩;have nB:(s.heap.push { cls:=.type "list_iterator",data:=.fields #[.ref l,.int 0 0] }).objs.size∉[s.heap.objs.size,l]:=λ z=>by
  rw[sz]at z;rcases List.mem_cons.mp z with z|z
  .exact absurd z (Nat.succ_ne_self _)
  .have z:=List.mem_singleton.mp z;exact absurd hlt (by rw[<-z];exact Nat.not_lt.mpr (Nat.le_succ _))
 have nW:(s.heap.push { cls:=.type "list_iterator",data:=.fields #[.ref l,.int 0 0] }).objs.size∉[s.heap.objs.size]:=λ z=>nB (by rw[List.mem_singleton.mp z];simp);have old:∀b o,s.heap.get? b=some o->b∉[s.heap.objs.size]/\b≠(s.heap.push { cls:=.type "list_iterator",data:=.fields #[.ref l,.int 0 0] }).objs.size:=λ b o z=>by
  have lt:=Heap.lt_size z;refine⟨λ z2=>?_,λ z2=>?_⟩
  .have z2:=List.mem_singleton.mp z2;rw[z2]at lt;exact absurd lt (Nat.lt_irrefl _)
  .rw[sz]at z2;rw[z2]at lt;exact absurd lt (Nat.not_lt.mpr (Nat.le_succ _))
 have hG:∀h h':Heap,(∀b o,s.heap.get? b=some o->h.get? b=some o)->(∀b o,b∉[s.heap.objs.size]->b≠(s.heap.push { cls:=.type "list_iterator",data:=.fields #[.ref l,.int 0 0] }).objs.size->h.get? b=some o->h'.get? b=some o)->(∀b o,s.heap.get? b=some o->h'.get? b=some o):=λ h h' g k b o z=>k b o (old b o z).1 (old b o z).2 (g b o z);have g0:∀b o,s.heap.get? b=some o->((s.heap.push { cls:=.type "list_iterator",data:=.fields #[.ref l,.int 0 0] }).push { cls:=.type "list",data:=.seq #[] }).get? b=some o:=λ b o z=>Heap.get?_push_of_some _ (Heap.get?_push_of_some _ z);have gB:=Heap.get?_push_size (s.heap.push { cls:=.type "list_iterator",data:=.fields #[.ref l,.int 0 0] }) (o:={ cls:=.type "list",data:=.seq #[] }) rfl;refine wpAny_pure ⟨plainId_quiet PySem.F.plain_min_loop _,?_⟩;refine codeAny_builtin PySem.F.entry_min_loop ?_;rw[Around.under_plainId PySem.F.plain_min_loop _];show wpAny (model prog w) A.in1 (seqItems? (.ref _) >>= _) _ _ _;refine wpAny_bind (wpAny_seqItems gB rfl ?_);show wpAny (model prog w) A.in1 (tryCatch (pyNext (.ref _)) _ >>= _) _ _ _;refine wpAny_bind (wpAny_tryCatch (wk.item 0 _ _ _ hne st0 λ v h1 tk pv st1 kp=>?_));have gB1:=kp _ _ nW gB;show wpAny (model prog w) A.in1 (updateSeq _ (λ_=>#[v,v]) >>= _) _ _ _;refine wpAny_bind ?_;refine wpAny_updateSeq gB1 rfl ?_;rw[name];have g1:∀b o,s.heap.get? b=some o->h1.get? b=some o:=λ b o z=>kp b o (old b o z).1 (g0 b o z);refine wpAny_pure ⟨plainId_quiet PySem.F.plain_min_loop _,NE wk lt _ nB hG cmp _ 0 _ v _ rfl hne (λ b o z=>(Heap.get?_update_other _ _ (Ne.symm (old b o z).2)).trans (g1 b o z)) (wk.frame _ _ _ st1 λ b bf o z=>?_) pv (Heap.get?_update_self _ gB1 rfl) λ v2 h2 tk2 p2 k2=>?_⟩
 .exact(Heap.get?_update_other _ _ (λ z2=>nB (by rw[z2];exact bf))).trans z
 .exact fin v2 h2 tk2 p2 λ b o z=>k2 b o (old b o z).1 (old b o z).2 ((Heap.get?_update_other _ _ (Ne.symm (old b o z).2)).trans (g1 b o z))
end
theorem Ml{K:Frag}{a:Addr}{ys:LUz}{g:TG}{tc:TT}{te:TE}{σ:St}{H1:Hp}{acc:Addr}{Qr:Hp->Prop}(Pv:Nat->LUz->St->Hp->Prop)(h0:Pv 0 [] σ (upd H1 acc (.lst [])))
  (hq:∀i xs σ H,i<=ys.length->H acc=some (.lst xs)->Pv i xs σ H->SqL K H a ys)
  (hs:∀i x t xs σ H,ys[i]?=some x->i<ys.length->xs.length<=i->H acc=some (.lst xs)->Pv i xs σ H->H t=none->g (.ref t) σ (upd H t (.tup [.int i,x])) λ σ2 H2=>tc σ2 H2 λ b Hb=>match b with
   |true=>te σ2 Hb λ v H3=>fNx acc ys.length Pv i σ2 v H3
   |false=>fSk acc ys.length Pv i σ2 Hb)
  (hd:∀xs σ H,xs.length<=ys.length->H acc=some (.lst xs)->Pv ys.length xs σ H->Qr H) :
  ∃W:Nat->Nat->St->Hp->Prop,(∃m,W 0 m σ (upd H1 acc (.lst [])))/\∀i m σ1 H2,W i m σ1 H2 ->
   ((Ite K a).stop i H2/\Qr H2)\/((Ite K a).go i H2/\∀x H3,(Ite K a).yld i H2 x H3->g x σ1 H3 λ σ4 H4=>tc σ4 H4 λ b Hb=>match b with
    |true=>te σ4 Hb λ v H5=>∃xs,H5 acc=some (.lst xs)/\xs.length<sizeLine/\∃m',m'<m/\W (i+1) m' σ4 (upd H5 acc (.lst (xs++[v])))
    |false=>∃m',m'<m/\W (i+1) m' σ4 Hb):=by
 refine⟨fW acc ys.length Pv,⟨ys.length,Nat.zero_le _,rfl,[],Nat.le_refl _,upd_same,h0⟩,?_⟩;rintro i m σ1 H2 ⟨hi,rfl,xs,hl,ha,hp⟩;have hsq:=hq i xs σ1 H2 hi ha hp;rcases Nat.lt_or_ge i ys.length with h|h
 .refine .inr ⟨⟨ys,ys[i],hsq,by simp[h]⟩,λ x H3 y=>?_⟩;obtain⟨t,z,hz,rfl,ht,rfl⟩:=y;exact hs i z t xs σ1 H2 (hz ys hsq) h hl ha hp ht
 .have e:i=ys.length:=Nat.le_antisymm hi h;subst e;exact .inl ⟨⟨ys,hsq,Nat.le_refl _⟩,hd xs σ1 H2 hl ha hp⟩
structure M1(K:Frag)(C:Addr):Prop where
 cl:Cls K C
 ha:findIn K (.ref C) "__class__"=some (some (.builtin "object.__class__"))
 hn:specialIn K (.builtin "object.__class__") "__get__"=some (some (.builtin "getset_descriptor.__get__"))
 htk:takesIn K (.builtin "object.__class__")=some true
 hm:mroIn K C (.type "object")=some true
section
variable{X:Cx}
theorem Da:Dc X (.builtin "isinstance") (λ xs H Q=>∃a C dx fs c u b,xs=[.ref a,c]/\H a=some (.ins C dx fs)/\M1 X.K C/\RelV c u/\(∀u',RelV c u'->u'=u)/\kitOne X.K (.ref C) u=some b/\Q (.bl b) H):=by
 intro pins s σ H xs us Q I r h;obtain⟨a,C,dx,fs,c,u,b,rfl,he,hc,ru,uq,hk,q⟩:=h;obtain⟨v1,v2,rfl,r1,r2⟩:=Qx r;have:=uq v2 r2;subst this;exact Ij I r1 (.ins he hc.cl hc.ha hc.hn hc.htk hc.hm) hk λ tk=>⟨.bl b,H,I.tok tk,rfl,q⟩
end
def Itv(K:Frag)(a:Addr)(n:Nat):It :=
 ⟨λ i H=>∃xs,SqL K H a xs/\xs.length=n/\i<n,λ i H x H'=>H'=H/\∀xs,SqL K H a xs->xs[n-1-i]?=some x,λ i H=>n<=i⟩
theorem Os{P:Program}{w:World}{K:Frag}{tg:Expr}(a it:Addr)(n:Nat):Mp P w K tg (Itv K a n) [it] it (λ i h=>i<=n/\h.IsRevIter it a ((n:Int)-1-i)) where
 mem:=by simp
 obj:=λ i h st b hb=>by
  have e:b=it:=by simpa using hb
  subst e;obtain⟨_,o,e,c,d⟩:=st;exact⟨o,e,λ v z=>by rw[d]at z;cases z⟩
 keep:=λ i h h' st k=>⟨st.1,st.2.at λ o e=>k it (by simp) o e⟩
 item:=by
  intro X hP hw hK hc i pins s σ H E I hf st hg;subst hP hw hK;obtain⟨xs,hq,hn,hi⟩:=hg;obtain⟨hin,st⟩:=st;obtain⟨its,rv,p,hz⟩:=I.list hq;have hx:xs[n-1-i]?=some (xs[n-1-i]'(by lia)):=List.getElem?_eq_getElem (by lia);obtain⟨u,hu,ru⟩:=rv.get hx;obtain⟨f0,f1,f2,f3,f4,f5⟩:=hf it (by simp);have st':s.heap.IsRevIter it a (((n-1-i:Nat):Int)):=by
   rw[show(((n-1-i:Nat):Int))=(n:Int)-1-i by lia];exact st
  refine wpAny_pyNext_rev_item st' p.isList (x:=u) (by simpa using hu) λ h' st' sb=>?_;have I1:Inv X pins σ H { s with heap:=h' }:=I.turned (t':=s.toks) (λ b o hb e=>(sb.2 b hb).trans e) f0 f1 f3 f4 f5;obtain⟨o,e,c,d⟩:=id st';refine⟨u,rfl,MW (s:={ s with heap:=h' }) e c d (by decide) ⟨_,H,I1,ru,⟨rfl,λ ys hy=>by rw[I.list_inj hy hq];exact hx⟩,⟨by lia,?_⟩,λ b hb=>(hf b hb).1⟩⟩;rw[show(n:Int)-1-((i+1:Nat):Int)=((n-1-i:Nat):Int)-1 by lia];exact st'
 done:=by
  intro X hP hw hK hc i pins s σ H E I hf st hg;subst hP hw hK;obtain⟨hin,st⟩:=st;obtain⟨f0,f1,f2,f3,f4,f5⟩:=hf it (by simp);have e:i=n:=Nat.le_antisymm hin hg;subst e;rw[show(i:Int)-1-(i:Int)=-1 by lia]at st;exact wpAny_pyNext_rev_end (I.ok.hd hc) st λ h' eb=>⟨rfl,I.turned (t':=s.toks) (λ b o hb e=>eb b o hb e) f0 f1 f3 f4 f5⟩
 self:=λ_ _ _ _ _ st h=>wpAny_pyIter_revIter st.2 h
def Tg(K:Frag)(ta:TA):TI:=λ σ H R=>ta σ H λ vs H1=>∃a xs,vs=[.ref a]/\SqL K H1 a xs/\R (Itv K a xs.length) H1
theorem Hw:bootBuiltins "reversed"=some (.type "reversed"):=rfl
section
variable{X:Cx}{tg:Expr}
theorem PN{a:Expr}{ta:TA}{p pos:Pos}(hg:Gl X "reversed")(hm:X.mg "reversed"=none)(ha:PA X [a] ta)(hs:starEach [a] X.env=[(false,eval a X.env)]:=by rfl) :
  PI X tg (.Call (.Name "reversed" p) [a] [] pos) (Tg X.K ta):=by
 intro pins s σ H R I h;refine Call_ (Fc I hg hm Hw (PyProof.Rows.callWith_type1 (thn (ha pos pins s σ H _ I h) λ us s1 hz_=>?_) hs rfl));obtain⟨vs,H1,I1,r1,q1⟩:=hz_;obtain⟨b,xs,e,hq,q⟩:=q1;subst e;cases r1 with
 |cons r rr =>
  cases rr;cases r;obtain⟨its,rv,pl,hz⟩:=I1.list hq;have hl:=rv.length;refine call_reversed_list pl.isList ?_;have I2:Inv X pins σ H1 { s1 with heap:=s1.heap.push (revObj b ((its.toArray.size:Int)-1)) }:=I1.kept (t':=s1.toks) λ c o e=>Heap.get?_push_of_some _ e;refine wpAny_pyIter_revIter (s:={ s1 with heap:=s1.heap.push (revObj b ((its.toArray.size:Int)-1)) }) ⟨_,Heap.get?_push_size _ rfl,rfl,rfl⟩ ?_;refine⟨s1.heap.objs.size,[s1.heap.objs.size],_,_,H1,rfl,I2,Os b _ xs.length,⟨Nat.zero_le _,⟨_,Heap.get?_push_size _ rfl,rfl,?_⟩⟩,λ c hc=>?_,q⟩
  .show Data.fields _=Data.fields _;rw[show((its.toArray.size:Int)-1)=(xs.length:Int)-1-((0:Nat):Int) by rw[List.size_toArray,<-hl];lia]
  .have e:c=s1.heap.objs.size:=by simpa using hc
   subst e;exact I1.fpOk (Nat.le_refl _) (I1.hok.fresh (Nat.le_refl _))
end
theorem Qk{K:Frag}{a:Addr}{xs:LUz}{g:TG}{tb:TS}{D:Er}{σ:St}{H:Hp}(Pv:Nat->St->Hp->Prop)(h0:Pv 0 σ H)(hl:∀i σ H,i<=xs.length->Pv i σ H->SqL K H a xs)
  (hs:∀i x σ H,xs[xs.length-1-i]?=some x->i<xs.length->Pv i σ H->g x σ H λ σ2 H2=>tb { D with nx:=Pv (i+1),ct:=Pv (i+1),bk:=D.nx } σ2 H2) (hd:∀σ H,Pv xs.length σ H->D.nx σ H) :
  ∃W:Nat->Nat->St->Hp->Prop,(∃m,W 0 m σ H)/\∀i m σ H,W i m σ H ->
   ((Itv K a xs.length).stop i H/\D.nx σ H)\/((Itv K a xs.length).go i H/\∃N:St->Hp->Prop,(∀σ' H',N σ' H'->∃m',m'<m/\W (i+1) m' σ' H')/\∀x H',(Itv K a xs.length).yld i H x H'->g x σ H' λ σ2 H2=>tb { D with nx:=N,ct:=N,bk:=D.nx } σ2 H2):=by
 refine⟨λ i m σ H=>m=xs.length-i/\i<=xs.length/\Pv i σ H,⟨xs.length,by simp,Nat.zero_le _,h0⟩,?_⟩;rintro i m σ H ⟨rfl,hi,p⟩;have q:=hl i σ H hi p;by_cases hlt:i<xs.length
 .refine .inr ⟨⟨xs,q,rfl,hlt⟩,Pv (i+1),λ σ' H' p'=>⟨xs.length-(i+1),by lia,rfl,hlt,p'⟩,λ x H' y=>?_⟩;obtain⟨e,y⟩:=y;subst e;exact hs i x σ _ (y xs q) hlt p
 .have e:i=xs.length:=by lia
  subst e;exact .inl ⟨Nat.le_refl _,hd σ H p⟩
theorem LV{M:Model}{A:Around}{E:VPz}{s:Shared}{K:Frag}{G C e:Addr}{d:Option Addr}{dt:Data}{sl':AOz}{Q:Bool->Shared->Prop}(X:K.In s.heap){fI:Addr}(hG:C6 K G fI=true)
  (he:s.heap.get? e=some ⟨.ref C,d,dt,sl'⟩) (hs:mroIn K C (.ref G)=some true) (h:Q true s):wpAny M A (excMatches (.ref e) (.ref G)) Q E s:=by
 have LS:=looks_mroIn (M:=M) X hs;obtain⟨hp,g,dr,tk,os⟩:=s;have q:=hG;unfold C6 at q;split at q
 .rename_i dd cd sl ho;split at q
  .rename_i C' bm k0 k1 k2 k3 n k5 hm hs;simp only[Bool.and_eq_true,beq_iff_eq,Bool.not_eq_true']at q;obtain⟨⟨⟨⟨⟨rfl,rfl⟩,hdel⟩,ht⟩,hok⟩,hni⟩:=q;obtain⟨nm,bs,mro,ns,qn,hd,sn,sub,ab,col,del⟩:=cd;dsimp only at hm hdel hok hni;subst hm hdel;have hsl:sl=#[k0,k1,k2,k3,some (.builtin "ValueError.__new__"),k5]:=by
    obtain⟨l⟩:=sl;simp only at hs;rw[hs]
   subst hsl;have hC:hp.get? C'=some (excClassObj nm qn C' ns bs bm hd sn sub ab col dd k0 k1 k2 k3 k5 "ValueError.__new__"):=X _ _ ho;have hcB:(Value.ref C'::bm).contains (.type "BaseException")=true:=by
    rw[List.contains_cons,(tail_of_in X ht).hasType (show vErr.contains (.type "BaseException")=true by decide +kernel)];exact Bool.or_true _
   have f:=tc_notTuple;unfold excMatches
   repeat (first|with_reducible refine wpAny_loadPart_at he ?_|with_reducible refine wpAny_loadPart_at hC ?_|(with_reducible refine wpAny_isSubtype_exc hC ?_;rw[hcB])|(with_reducible refine LS.at ?_)|wp_step)
   exact h
  .cases q
 .cases q
structure FunD(K:Frag)(x qual:Str)(st:Stmt)(f:Addr)(fd:FuncData):Prop where
 ex:∃(oc:Value)(od:Option Addr)(T:Addr)(kV doc pm:Value)(an:Option Addr)(cdv ct:Value)(osl:AOz)(o:Obj)(n:Nat),
  fd=fnOf x qual (Ba st) (A4 st) (Ag st) (.ref T) kV doc pm an cdv ct/\K.lookup f=some ⟨oc,od,.func fd,osl⟩/\codeIn K cdv qual=true/\K.lookup T=some o/\o.data=.seq #[.none] n
 kp:keepIn K (.ref f)=true
section
variable{P:Program}{w:World}{K:Frag}{mg:MGz}{base:Heap}
theorem FunD.ok{x qual:Str}{st:Stmt}{f:Addr}{fd:FuncData}{N ps:LSz}{k:Nat}{sp:Sp}(F:FunD K x qual st f fd)(S:Aq N ps (Ag st))(len:∀vs H Q E,sp vs H Q E->vs.length=ps.length)
  (hbody:∀(cdv:Value)(A:Around)(outer:List Env)(s:Shared)(H:Hp)(vs:LUz)(Q:VK)(E:XK),Room k (A.deeper (envOfC qual (Ag st) s.heap.objs.size f cdv))->sp vs H Q E ->
   ∃t,PSs (Cd CX0 P w K mg base N qual (Ag st) f cdv A outer s H E).nox (A4 st) t/\t { nx:=λ_ H'=>Q .non H',rt:=Q } (start N vs) H):A8 P w K mg base CX0 (k+1) f fd ps sp:=by
 obtain⟨oc,od,T,kV,doc,pm,an,cdv,ct,osl,o,n,rfl,lk,hcd,lT,dT⟩:=F.ex;refine KD lk hcd S len λ A outer s H vs Q E hr hsp=>?_;obtain⟨t,h,q⟩:=hbody cdv A outer s H vs Q E hr hsp;exact⟨t,h.nox,q⟩
theorem FunD.binds{x qual:Str}{st:Stmt}{f:Addr}{fd:FuncData}{ps:LSz}{ds:LWz}(F:FunD K x qual st f fd)
  (h:∀(T:Addr)(kV doc pm:Value)(an:Option Addr)(cdv ct:Value)(us:LWz),(us++ds).length=ps.length->∃k:Option (Array Value)->Sem (List (Str×Value)),
   bindArgs (fnOf x qual (Ba st) (A4 st) (Ag st) (.ref T) kV doc pm an cdv ct) ⟨us,[]⟩=seqItems? (.ref T) >>= k/\k (some #[.none])=pure (ps.zip (us++ds))):Binds K fd ps ds:=by
 obtain⟨oc,od,T,kV,doc,pm,an,cdv,ct,osl,o,n,rfl,lk,hcd,lT,dT⟩:=F.ex;intro s us X hl;obtain⟨k,h1,h2⟩:=h T kV doc pm an cdv ct us hl;exact .of_defaults rfl (X _ _ lT) dT h1 h2
end
mutual
def DAt(H:Hp):D->V->Prop
 |.at u,v=>v=u/\Co u=true
 |.tup ds,v=>∃a xs,v=.ref a/\H a=some (.tup xs)/\HK H ds xs
 |.lst ds,v=>∃a xs,v=.ref a/\H a=some (.lst xs)/\HK H ds xs
def HK(H:Hp):Ds->LUz->Prop
 |.nil,xs=>xs=[]
 |.cons d r,xs=>∃x ys,xs=x::ys/\DAt H d x/\HK H r ys
end
mutual
theorem Pl{H H':Hp}(s:Same H H'):∀(d:D){v:V},DAt H d v->DAt H' d v
 |.at u,v,h=>by rw[DAt]at h |-;exact h
 |.tup ds,v,h=>by
  rw[DAt]at h |-;obtain⟨a,xs,e,q,r⟩:=h;exact⟨a,xs,e,s _ _ q,Fj s ds r⟩
 |.lst ds,v,h=>by
  rw[DAt]at h |-;obtain⟨a,xs,e,q,r⟩:=h;exact⟨a,xs,e,s _ _ q,Fj s ds r⟩
theorem Fj{H H':Hp}(s:Same H H'):∀(ds:Ds){xs:LUz},HK H ds xs->HK H' ds xs
 |.nil,xs,h=>by rw[HK]at h |-;exact h
 |.cons d r,xs,h=>by
  rw[HK]at h |-;obtain⟨x,ys,e,p,q⟩:=h;exact⟨x,ys,e,Pl s d p,Fj s r q⟩
end
mutual
theorem Rw{K:Frag}{H:Hp}:∀(d:D){v:V},DAt H d v->DIs K H d v
 |.at u,v,h=>by rw[DAt]at h;rw[DIs];exact h
 |.tup ds,v,h=>by
  rw[DAt]at h;rw[DIs];obtain⟨a,xs,e,q,r⟩:=h;exact⟨a,xs,e,SqT.of q,JB ds r⟩
 |.lst ds,v,h=>by
  rw[DAt]at h;rw[DIs];obtain⟨a,xs,e,q,r⟩:=h;exact⟨a,xs,e,SqL.of q,JB ds r⟩
theorem JB{K:Frag}{H:Hp}:∀(ds:Ds){xs:LUz},HK H ds xs->DIss K H ds xs
 |.nil,xs,h=>by rw[HK]at h;rw[DIss];exact h
 |.cons d r,xs,h=>by
  rw[HK]at h;rw[DIss];obtain⟨x,ys,e,p,q⟩:=h;exact⟨x,ys,e,Rw d p,JB r q⟩
end
def DE(c:Addr)(q:Str):HO:=.ext λ h=>∃o vs t,h.get? c=some o/\o.data=.fields vs/\vs[1]?=some (.str q t)
def BI(f:Addr)(o:Obj):HO:=.ext λ h=>h.get? f=some o
theorem Od{P:Program}{w:World}{H:Hp}{h:Heap}{c:Addr}{q:Str}(x:ObjOk P w H h c (DE c q)):h.CodeRec (.ref c) q:=by
 obtain⟨⟨o,vs,t,e,d,v⟩,_⟩:=x;exact⟨c,o,vs,t,rfl,e,d,v⟩
theorem Po{P:Program}{w:World}{H:Hp}{h:Heap}{c:Addr}{q:Str}(x:h.CodeRec (.ref c) q):ObjOk P w H h c (DE c q):=by
 obtain⟨c',o,vs,t,e,g,d,v⟩:=x;cases e;exact⟨⟨o,vs,t,g,d,v⟩,⟨o,g⟩,λ h1 h2 ⟨o,vs,t,e,d,v⟩ k=>⟨o,vs,t,k o e,d,v⟩⟩
theorem Jn{P:Program}{w:World}{H:Hp}{h:Heap}{f:Addr}{o:Obj}(x:h.get? f=some o):ObjOk P w H h f (BI f o):=⟨x,⟨o,x⟩,λ h1 h2 e k=>k o e⟩
section
variable{X:Cx}{pins:PNz}{σ:St}{H:Hp}{s:Shared}{h1:Heap}
theorem Inv.grow{T c':Addr}{ps more:Array Value}{o:HO}{t':Nat}(I:Inv X pins σ H s)(hT:H T=some (.tbl ps))(k:∀b u,b≠T->s.heap.get? b=some u->h1.get? b=some u)(eT:h1.get? T=some (tabObj (ps++more)))
  (hc:s.heap.objs.size<=c') (new:ObjOk X.prog X.w (upd (upd H T (.tbl (ps++more))) c' o) h1 c' o):Inv X pins σ (upd (upd H T (.tbl (ps++more))) c' o) { s with heap:=h1,toks:=t' }:=by
 have hn:H c'=none:=I.hok.fresh hc;have nT:T≠c':=Af hT hn;have ne:∀{b:Addr}{u:HO},H b=some u->(∀ps,u≠.tbl ps)->b≠T:=λ{b u} e nu z=>by rw[z,hT]at e;cases e;exact nu _ rfl
 have to:∀{b:Addr}{u:HO},H b=some u->(∀ps,u≠.tbl ps)->(upd (upd H T (.tbl (ps++more))) c' o) b=some u:=λ{b u} e nu=>by rw[Ae (Af e hn),Ae (ne e nu)];exact e
 refine I.un ⟨λ b u q n _ _=>k b u (λ z=>by rw[z,hT]at n;cases n) q,λ b u q n _ _=>⟨u.slots,k b u (λ z=>by rw[z,hT]at n;cases n) q⟩,λ b u q n _=>?_,λ b u q _=>?_,
  λ b xs q=>to q (λ_ z=>nomatch z),λ b u xs q=>to q (λ_ z=>nomatch z),λ b ps' q=>?_⟩ λ b u e=>?_
 .rw[Ae (Nat.ne_of_lt (Nat.lt_of_lt_of_le (Heap.lt_size q) hc)),Ae (λ z=>by rw[z,hT]at n;cases n)];exact n
 .by_cases z:b=T
  .exact⟨_,by rw[z];exact eT⟩
  .exact⟨u,k b u z q⟩
 .by_cases z:b=T
  .subst z;rw[hT]at q;cases q;exact⟨more,by rw[Ae nT,upd_same]⟩
  .exact⟨#[],by rw[Ae (Af q hn),Ae z,q];simp⟩
 .by_cases z:b=c'
  .subst z;rw[upd_same]at e;cases e;exact new
  .rw[Ae z]at e;by_cases zT:b=T
   .subst zT;rw[upd_same]at e;cases e;exact eT
   .rw[Ae zT]at e;refine(I.hok b u e).stay (λ c v hcb r=>k c v ?_ r) (λ c r=>to r (λ_ z=>nomatch z)) λ c xs r=>to r (λ_ z=>nomatch z);rcases hcb with rfl|hcb
    .exact zT
    .exact ne hcb (λ_ z=>nomatch z)
end
structure R8(K:Frag)(mg:MGz):Prop where
 ex:∃bm sl,mg "__builtins__"=some (.ref bm)/\bm≠builtinsNs/\bm≠mainGlobals/\K.lookup bm=some ⟨.type "module",some builtinsNs,.plain,sl⟩
abbrev BZ(mg:MGz)(qual:Str)(params:Arguments)(body:Expr)(scope:Scope)(clos:List (Str×Addr))(c':Addr)(ctv:Value):Obj:=kla_obj "<lambda>" qual params body scope clos ((mg "__name__").getD .none) c' ctv
def RJ(mg:MGz)(T:Addr)(pos:Pos)(params:Arguments)(body:Expr)(scope:Scope)(clos:List (Str×Addr))(qual:Str):TE:=λ σ H Q=>∃ps,H T=some (.tbl ps)/\TriplesOk ps.toList /\
 ((codeAmong pos ps.toList=none/\∀c' f ctv,H c'=none->H f=none->c'≠f->c'≠T->f≠T->Q (.ref f) (upd (upd (upd H T (.tbl (ps++#[rawInt pos.line,rawInt pos.col,.ref c']))) c' (DE c' qual)) f (BI f (BZ mg qual params body scope clos c' ctv)))) \/
  ∃c',codeAmong pos ps.toList=some (.ref c')/\H c'=some (DE c' qual)/\∀f ctv,H f=none->Q (.ref f) (upd H f (BI f (BZ mg qual params body scope clos c' ctv))))
section
variable{X:Cx}
theorem Ra{params:Arguments}{body:Expr}{scope:Scope}{pos:Pos}{c T:Addr}{clos:List (Str×Addr)}{qual:Str}(hcode:X.env.code=.ref c)(hC:∀h,X.K.In h->CodeHd h c T)(hB:R8 X.K X.mg)(hdef:defaultsOf params X.env=([],[]))
  (hcl:closureFor scope X.env=pure clos) (hq:X.env.qual++"<lambda>"=qual):PE X (.Lambda params body scope pos) (RJ X.mg T pos params body scope clos qual):=by
 intro pins s σ H Q I h;obtain⟨ps,hT,ht,alt⟩:=h;have hP:s.heap.get? T=some (tabObj ps):=I.hok T _ hT;have hg:s.heap.Ns mainGlobals X.mg:=I.mod.glob.keeps I.bk;obtain⟨bm,sl,b1,b2,b3,b4⟩:=hB.ex;have hbm:X.base.get? bm=some ⟨.type "module",some builtinsNs,.plain,sl⟩:=I.mod.kin bm _ b4;have hbT:bm≠T:=λ z=>by
  have:=(I.bs bm _ hbm).2;rw[z,hT]at this;cases this
 have hgT:mainGlobals≠T:=λ z=>by
  obtain⟨o,es,ep,e,_⟩:=I.mod.glob;have:=(I.bs _ _ e).2;rw[z,hT]at this;cases this
 have hb:s.heap.BuiltinsAt X.mg T:=⟨bm,_,b1,b2,b3,hbT,I.bk bm _ hbm,rfl,rfl,rfl⟩;refine kla_eval hdef ?_;rw[hq];rcases alt with ⟨hnf,q⟩|⟨c',hf,hc',q⟩
 .refine kla_makeFunction hcl I.ok.glob hg hcode (hC _ I.kIn) hP ht hnf hgT hb λ c' ctv h' tk hx hge hlt hrec htb=>?_;have I1:=I.grow (t':=tk) (h1:=h') (c':=c') (o:=DE c' qual) (more:=#[rawInt pos.line,rawInt pos.col,.ref c']) hT (λ b u nb e=>hx b u nb e) htb hge (Po hrec);have hn:H c'=none:=I.hok.fresh hge;have hnf':H h'.objs.size=none:=I.hok.fresh (Nat.le_trans hge (Nat.le_of_lt hlt));have I2:=I1.laid (a:=h'.objs.size) (o:=BI h'.objs.size (BZ X.mg qual params body scope clos c' ctv)) (t':=tk) (h':=h'.push (BZ X.mg qual params body scope clos c' ctv)) (λ b u e=>Heap.get?_push_of_some _ e) (Nat.le_refl _) (Jn (Heap.get?_push_size _ rfl));exact⟨.ref h'.objs.size,_,I2,rfl,q c' h'.objs.size ctv hn hnf' (Nat.ne_of_lt hlt) (Ne.symm (Af hT hn)) (Ne.symm (Af hT hnf'))⟩
 .refine kla_makeFunctionHit hcl I.ok.glob hg hcode (hC _ I.kIn) hP ht hf hb λ ctv h' tk hk hsz=>?_;have hnf':H h'.objs.size=none:=I.hok.fresh hsz;have I1:=I.kept (t':=tk) hk;have I2:=I1.laid (a:=h'.objs.size) (o:=BI h'.objs.size (BZ X.mg qual params body scope clos c' ctv)) (t':=tk) (h':=h'.push (BZ X.mg qual params body scope clos c' ctv)) (λ b u e=>Heap.get?_push_of_some _ e) (Nat.le_refl _) (Jn (Heap.get?_push_size _ rfl));exact⟨.ref h'.objs.size,_,I2,rfl,q h'.objs.size ctv hnf'⟩
end
theorem Rl{M:Model}{A:Around}{E:VPz}{s:Shared}{kd:SortKind}{κ:Value->Int}{S:Keyed->Prop}(h:∀x y,S x->S y->∀C:Bool->Shared->Prop,C (decide (κ x.1<κ y.1)) s->wpAny M A (keyLt' kd x.1 y.1) C (λ_ _=>False) s):LtG M A E s kd (λ p=>κ p.1) S:=λ x y hx hy st Q hk hq=>by
 rw[lt'_eq];refine wpS_bind (wpS_get ?_);rw[hk];refine wpS_bind (wpS_lift (wpAny_attempt (wpAny_mono (h x y hx hy (λ b s'=>b=decide (κ x.1<κ y.1)/\s'=s) ⟨rfl,rfl⟩) (λ b s' hb=>?_) λ_ _ z=>z.elim)));obtain⟨rfl,rfl⟩:=hb;exact⟨rfl,wpS_pure hq⟩
theorem E5{α β:Type}{f:α->β}{l m:List β}(h:l.Perm m):∀ts:List α,m=ts.map f->∃ts':List α,ts'.Perm ts/\l=ts'.map f:=by
 induction h with
 |nil =>
  intro ts e;rw[List.map_eq_nil_iff.mp e.symm];exact⟨[],.nil,rfl⟩
 |cons x p ih =>
  intro ts e;obtain⟨t,r,rfl,e1,e2⟩:=List.map_eq_cons_iff.mp e.symm;obtain⟨r',p',e'⟩:=ih r e2.symm;exact⟨t::r',p'.cons t,by rw[e',List.map_cons,e1]⟩
 |swap x y l =>
  intro ts e;obtain⟨t,r,rfl,e1,e2⟩:=List.map_eq_cons_iff.mp e.symm;obtain⟨u,q,rfl,e3,e4⟩:=List.map_eq_cons_iff.mp e2;exact⟨u::t::q,List.Perm.swap _ _ _,by rw[List.map_cons,List.map_cons,e1,e3,e4]⟩
 |trans p q ih1 ih2 =>
  intro ts e;obtain⟨t2,p2,e2⟩:=ih2 ts e;obtain⟨t1,p1,e1⟩:=ih1 t2 e2;exact⟨t1,p1.trans p2,e1⟩
section
variable{prog:Program}{w:World}{A:Around}{E:VPz}{s:Shared}
theorem On{vs:LWz}{p:Keyed}(h:p∈vs.zip vs):p.1=p.2/\p.2∈vs:=by
 induction vs with
 |nil=>simp at h
 |cons v r ih =>
  rw[List.zip_cons_cons]at h;rcases List.mem_cons.mp h with rfl|h
  .exact⟨rfl,List.mem_cons_self⟩
  .exact⟨(ih h).1,List.mem_cons_of_mem _ (ih h).2⟩
theorem F7{a:Addr}{vs:LWz}{n:Nat}{P:PySem.Fin->Shared->Prop}{kd:SortKind}{κ:Value->Int}(ho:s.heap.get? a=some (seqObj "list" vs.toArray n))(hz:vs.length<=sizeLine)
  (hK:∀(Q:SortKind->Shared->Prop)(E:VPz),2<=vs.length->Q kd { s with heap:=BG s.heap a vs }->wpAny (model prog w) A (keyKind' vs.toArray) Q E { s with heap:=BG s.heap a vs })
  (hL:∀x∈vs,∀y∈vs,∀(C:Bool->Shared->Prop),C (decide (κ x<κ y)) { s with heap:=BG s.heap a vs }->wpAny (model prog w) A (keyLt' kd x y) C (λ_ _=>False) { s with heap:=BG s.heap a vs })
  (h:∀zs:LWz,zs.Perm vs->(zs.map κ).Pairwise (·<=·)->P (.done (.ret .none)) { s with heap:=sortedHeap s.heap a vs zs.toArray }) :
  wpAny (model prog w) A (Builtin.«list.sort» ⟨[.ref a],[]⟩) P E s:=by
 rw[list_sort_plain];have ha:a<s.heap.objs.size:=Heap.lt_size ho;refine wpAny_bind (listItems_at ho rfl ?_);refine wpAny_bind (listUpdate_at ho rfl ?_ (by rw[List.size_toArray];exact hz) (Nat.zero_le _));obtain⟨e1,ho1⟩:∃e1,(s.heap.update a (Obj.mapSeq λ_=>#[])).get? a=some (seqObj "list" #[] e1):=⟨_,get?_update_seq ho (λ_=>#[])⟩;refine wpAny_bind (seqEpoch_at ho1 rfl ?_);refine wpAny_bind (wpAny_newTuple ?_ hz);refine wpAny_bind (wpAny_newList ?_ (Nat.zero_le _));refine wpAny_holding ?_;have ho6:(BG s.heap a vs).get? a=some (seqObj "list" #[] e1):=by
  unfold BG;rw[Heap.get?_push_ne _ _ _ (by rw[size_push',Heap.size_update];exact Nat.ne_of_lt (Nat.lt_succ_of_lt ha)),Heap.get?_push_ne _ _ _ (by rw[Heap.size_update];exact Nat.ne_of_lt ha)];exact ho1
 show wpAny (model prog w) A _ P E { s with heap:=BG s.heap a vs };dsimp only;have hsz:vs.toArray.size=vs.length:=by simp
 have zl:((vs.toArray.zip vs.toArray).toList:List Keyed)=vs.zip vs:=by simp
 by_cases h2:vs.toArray.size<2
 .rw[if_pos h2,if_pos h2];refine wpAny_bind (wpAny_pure ?_);rw[StateT.run_pure];refine wpAny_bind (wpAny_pure ?_);dsimp only;refine wpAny_bind (seqEpoch_at ho6 rfl ?_);refine wpAny_bind (listUpdate_at ho6 rfl ?_ (Nat.zero_le _) (by rw[Array.size_map];show(pairsOf vs).size<=_;rw[pairsOf_size];lia));simp only[bne_self_eq_false,Bool.false_eq_true,if_false];have hh:=h vs (List.Perm.refl _) (by
   rw[hsz]at h2;clear hL hK h ho ho1 ho6 hz zl hsz
   match vs,h2 with
   |[],_=>exact List.Pairwise.nil
   |[x],_=>exact List.pairwise_singleton _ _)
  have e2:(arrOf (SortSt.mk' general' (vs.toArray.zip vs.toArray) #[] 7 none)).map (·.2)=vs.toArray:=by
   show(vs.toArray.zip vs.toArray).map (·.2)=vs.toArray;apply Array.ext';simp[List.map_snd_zip]
  refine wpAny_pure ?_;rw[e2];exact hh
 .rw[if_neg h2,if_neg h2];have h2':2<=vs.length:=by lia
  refine wpAny_bind (hK _ _ h2' ?_);refine wpAny_bind (wpAny_mono (Hh (A:=A) (E:=E) (s:={ s with heap:=BG s.heap a vs }) (M:=model prog w) (kd:=kd) (κ:=λ p=>κ p.1) (S:=λ p=>p∈vs.zip vs) (st:=SortSt.mk' kd (vs.toArray.zip vs.toArray) #[] 7 none)
   (Q:=λ_ st'=>(arrOf st').toList.Perm (vs.zip vs)/\failedOf st'=none/\Rise (λ p:Keyed=>κ p.1) (arrOf st').toList) (Rl λ x y hx hy C hc=>hL _ (List.of_mem_zip hx).1 _ (List.of_mem_zip hy).1 C hc) rfl rfl rfl
   (λ x hx=>by rw[<-zl];exact hx) λ u p f r=>⟨by rw[<-zl];exact Array.perm_iff_toList_perm.mp p,f,r⟩) ?_ λ_ _ e=>e)
  rintro⟨⟨⟩,st'⟩ s' ⟨rfl,hp,hf,hr⟩;dsimp only;have hout:(arrOf st').map (·.2)=List.toArray ((arrOf st').toList.map (·.2)):=by
   apply Array.ext';rw[Array.toList_map]
  have pz:((arrOf st').toList.map (·.2)).Perm vs:=by
   have:=hp.map (·.2);rwa [show(vs.zip vs).map (·.2)=vs from by simp[List.map_snd_zip]]at this
  have sz:(((arrOf st').toList.map (·.2)).map κ).Pairwise (·<=·):=by
   rw[List.map_map];have e:(arrOf st').toList.map (κ∘λ x=>x.2)=(arrOf st').toList.map λ p=>κ p.1:=List.map_congr_left λ p hp'=>by
    show κ p.2=κ p.1;rw[(On (hp.mem_iff.mp hp')).1]
   rw[e];exact List.pairwise_map.mpr hr
  rw[hout];refine wpAny_bind (seqEpoch_at ho6 rfl ?_);refine wpAny_bind (listUpdate_at ho6 rfl ?_ (Nat.zero_le _) (by show(List.toArray _).size<=_;rw[List.size_toArray,pz.length_eq];lia));rw[hf];simp only[bne_self_eq_false,Bool.false_eq_true,if_false];exact wpAny_pure (h _ pz sz)
theorem P9{l:Addr}{vs:LWz}{kd:SortKind}{κ:Value->Int}{Q:VPz}(hl:s.heap.IsList l vs.toArray)(hz:vs.length<=sizeLine)
  (hK:∀(h':Heap),(∀b o,s.heap.get? b=some o->h'.get? b=some o)->∀(Q:SortKind->Shared->Prop)(E:VPz),2<=vs.length->Q kd { s with heap:=h' }->wpAny (model prog w) A.in1.in1 (keyKind' vs.toArray) Q E { s with heap:=h' })
  (hL:∀(h':Heap),(∀b o,s.heap.get? b=some o->h'.get? b=some o)->∀x∈vs,∀y∈vs,∀(C:Bool->Shared->Prop),C (decide (κ x<κ y)) { s with heap:=h' }->wpAny (model prog w) A.in1.in1 (keyLt' kd x y) C (λ_ _=>False) { s with heap:=h' })
  (h:∀zs:LWz,zs.Perm vs->(zs.map κ).Pairwise (·<=·)->Q (.ref (s.heap.objs.size+1)) { s with heap:=sortedAll s.heap vs zs.toArray }) :
  wpAny (model prog w) A (call (.builtin "sorted") [.ref l]) Q E s:=by
 refine Calls.call_function_entry kind_sorted plain_sorted entry_sorted (args_sorted1 _) ?_;unfold Builtin.«sorted»;refine wpAny_bind (m:=checkCount "sorted" 1 1 _) (wpAny_pure ?_);refine wpAny_bind (collect_list hl ?_ hz);refine wpAny_bind (wpAny_newList ?_ hz);have hsz:((s.heap.push (seqObj "list" #[] 0)).update s.heap.objs.size (Obj.mapSeq (·++vs.toArray))).objs.size=s.heap.objs.size+1:=by
  rw[Heap.size_update,size_push']
 have hoL:(((s.heap.push (seqObj "list" #[] 0)).update s.heap.objs.size (Obj.mapSeq (·++vs.toArray))).push (seqObj "list" vs.toArray 0)).get? (s.heap.objs.size+1)=some (seqObj "list" vs.toArray 0):=by
  rw[<-hsz];exact Heap.get?_push_size _ rfl
 have keep:∀b o,s.heap.get? b=some o->(((s.heap.push (seqObj "list" #[] 0)).update s.heap.objs.size (Obj.mapSeq (·++vs.toArray))).push (seqObj "list" vs.toArray 0)).get? b=some o:=λ b o q=>by
  have hlt:b<s.heap.objs.size:=Heap.lt_size q;rw[Heap.get?_push_ne _ _ _ (by rw[hsz];exact Nat.ne_of_lt (Nat.lt_succ_of_lt hlt)),Heap.get?_update_ne _ _ _ _ (Nat.ne_of_lt hlt),Heap.get?_push_ne _ _ _ (Nat.ne_of_lt hlt)];exact q
 show wpAny _ _ _ _ _ { s with heap:=((s.heap.push (seqObj "list" #[] 0)).update s.heap.objs.size (Obj.mapSeq (·++vs.toArray))).push (seqObj "list" vs.toArray 0) };rw[hsz];have mid:∀b o,s.heap.get? b=some o->(BG (((s.heap.push (seqObj "list" #[] 0)).update s.heap.objs.size (Obj.mapSeq (·++vs.toArray))).push (seqObj "list" vs.toArray 0)) (s.heap.objs.size+1) vs).get? b=some o:=λ b o q =>
  Jq (Nat.ne_of_lt (Nat.lt_succ_of_lt (Heap.lt_size q))) (keep b o q)
 refine wpAny_bind (wpAny_holding (wpAny_call_entry slot_list_sort ⟨_,hoL,rfl⟩ entry_list_sort (F7 (kd:=kd) (κ:=κ) (s:={ s with heap:=((s.heap.push (seqObj "list" #[] 0)).update s.heap.objs.size (Obj.mapSeq (·++vs.toArray))).push (seqObj "list" vs.toArray 0) }) hoL hz (λ Q E h2 hq=>hK _ mid Q E h2 hq) (λ x hx y hy C hc=>hL _ mid x hx y hy C hc) λ zs a1 a2=>⟨_,rfl,?_⟩) (args_list_sort _)));exact wpAny_pure ⟨_,rfl,h zs a1 a2⟩
end
section
variable{X:Cx}
def Pw(X:Cx)(A:Around)(σ:St)(H:Hp)(kvs:LUz)(kd:SortKind)(κ:Value->Int):Prop:=∀(ks:LWz)(pins:PNz)(s:Shared),Vals kvs ks->Inv X pins σ H s ->
 (∀(C:SortKind->Shared->Prop)(E:VPz),2<=ks.length->C kd s->wpAny (model X.prog X.w) A (keyKind' ks.toArray) C E s) /\
 ∀x∈ks,∀y∈ks,∀C:Bool->Shared->Prop,C (decide (κ x<κ y)) s->wpAny (model X.prog X.w) A (keyLt' kd x y) C (λ_ _=>False) s
theorem L3{pins:PNz}{σ:St}{H:Hp}{s:Shared}{p:Addr}{β:Type}{ts:List (Addr×β)}{K:Addr×β->Int}{kd:SortKind}{κ:Value->Int}{Q:VK}(I:Inv X pins σ H s)(hp:SqL X.K H p (ts.map λ t=>V.ref t.1))(G:Pw X X.A.in1.in1 σ H (ts.map λ t=>V.ref t.1) kd κ)(hκ:∀t∈ts,κ (.ref t.1)=K t)
  (q:∀l (ts':List (Addr×β)),H l=none->ts'.Perm ts->(ts'.map K).Pairwise (·<=·)->Q (.ref l) (upd H l (.lst (ts'.map λ t=>V.ref t.1)))):wpAny (model X.prog X.w) X.A (call (.builtin "sorted") [.ref p]) (EP X pins σ Q) X.xe s:=by
 obtain⟨its,rv,pl,hz⟩:=I.list hp;have hits:its=ts.map λ t=>Value.ref t.1:=by
  have:=DG (ts:=ts.map (·.1)) (its:=its) (by rw[List.map_map];exact rv);rw[this,List.map_map];rfl
 rw[List.length_map]at hz;have hlen:its.length=ts.length:=by rw[hits,List.length_map]
 refine P9 (kd:=kd) (κ:=κ) pl.isList (by rw[hlen];exact hz) (λ h' k Q' E' h2 hq=>?_) (λ h' k x hx y hy C hc=>?_) λ zs pz sz=>?_
 .exact(G its pins { s with heap:=h' } rv (I.kept (t':=s.toks) k)).1 Q' E' h2 hq
 .exact(G its pins { s with heap:=h' } rv (I.kept (t':=s.toks) k)).2 x hx y hy C hc
 .obtain⟨ts',pt,ez⟩:=E5 (f:=λ t:Addr×β=>Value.ref t.1) (l:=zs) (m:=its) pz ts hits;subst ez;obtain⟨e,he⟩:=sortedAll_at s.heap its (List.toArray (ts'.map λ t=>Value.ref t.1));have hn:H (s.heap.objs.size+1)=none:=I.hok.fresh (Nat.le_succ _);refine⟨.ref (s.heap.objs.size+1),_,I.laid (o:=.lst (ts'.map λ t=>V.ref t.1)) (t':=s.toks) (λ b o z=>sortedAll_old z) (Nat.le_succ _) ⟨?_,_,e,?_,he⟩,rfl,q _ _ hn pt ?_⟩
  .rw[List.length_map,pt.length_eq];exact hz
  .have:=Gm (ts'.map (·.1));rw[List.map_map,List.map_map]at this;exact this
  .rw[List.map_map]at sz;rw[show ts'.map K=ts'.map (κ∘λ t=>Value.ref t.1) from List.map_congr_left λ t ht=>(hκ t (pt.mem_iff.mp ht)).symm];exact sz
end
def AO:List Int->Ds
 |[]=>.nil
 |i::r=>.cons (.at (.int i)) (AO r)
theorem B8{K:Frag}{H:Hp}:∀(ns:List Int),DIss K H (AO ns) (ns.map V.int)
 |[]=>by
  show DIss K H .nil [];rw[DIss]
 |i::r=>by
  show DIss K H (.cons (.at (.int i)) (AO r)) (.int i::r.map V.int);rw[DIss];exact⟨_,_,rfl,by rw[DIs];exact⟨rfl,rfl⟩,B8 r⟩
theorem B4:∀(ns:List Int),Bi (AO ns)=0
 |[]=>by rw[AO,Bi]
 |i::r=>by rw[AO,Bi,dep,B4 r];rfl
theorem DN:∀(ns ms:List Int),D6 (AO ns) (AO ms)=decide (ns=ms)
 |[],[]=>by rw[AO,D6,decide_eq_true rfl]
 |[],j::q=>by rw[AO,AO,D6,decide_eq_false (by intro z;cases z)]<;>(intros;contradiction)
 |i::r,[]=>by rw[AO,AO,D6,decide_eq_false (by intro z;cases z)]<;>(intros;contradiction)
 |i::r,j::q=>by
  rw[AO,AO,D6,DN r q,deq];by_cases h:i=j
  .subst h;by_cases h2:r=q
   .subst h2;simp[eqV]
   .rw[decide_eq_false h2,decide_eq_false (λ z=>h2 (List.cons.inj z).2),Bool.and_false]
  .rw[decide_eq_false (λ z=>h (List.cons.inj z).1)];have:eqV (.int i) (.int j)=false:=by simp[eqV,h]
   rw[this];rfl
abbrev Rwt:=Addr×List Int×Addr×List Int
abbrev rks(t:Rwt):List Int:=t.2.1++t.2.2.2
def Ps(H:Hp)(n m:Nat)(t:Rwt):Prop:=H t.1=some (.tup (t.2.1.map V.int++[.ref t.2.2.1]))/\H t.2.2.1=some (.tup (t.2.2.2.map V.int))/\t.2.1.length=n+1/\t.2.2.2.length=m+1
def FU:LUz->List Int
 |.int i::r=>i::FU r
 |_=>[]
def Op:LUz->Addr
 |[.ref p]=>p
 |_::r=>Op r
 |[]=>0
theorem HP{p:Addr}:∀(ns:List Int),FU (ns.map V.int++[.ref p])=ns
 |[]=>rfl
 |i::r=>by show i::FU (r.map V.int++[.ref p])=_;rw[HP r]
theorem HQ:∀(ns:List Int),FU (ns.map V.int)=ns
 |[]=>rfl
 |i::r=>by show i::FU (r.map V.int)=_;rw[HQ r]
theorem HN{p:Addr}:∀(ns:List Int),Op (ns.map V.int++[.ref p])=p
 |[]=>rfl
 |i::r=>by
  have:=HN (p:=p) r;rw[List.map_cons,List.cons_append];cases hr:r.map V.int++[V.ref p] with
  |nil=>rw[hr]at this;simp at hr
  |cons x y=>rw[hr]at this;exact this
def L7(H:Hp)(key:List Int->Int)(a:Addr):Int:=match H a with
 |some (.tup vs)=>key (FU vs++match H (Op vs) with
  |some (.tup us)=>FU us
  |_=>[])
 |_=>0
def OQ(H:Hp)(key:List Int->Int):Value->Int
 |.ref a=>L7 H key a
 |_=>0
theorem Fd{H:Hp}{key:List Int->Int}{n m:Nat}{t:Rwt}(h:Ps H n m t):OQ H key (.ref t.1)=key (rks t):=by
 obtain⟨h1,h2,_,_⟩:=h;show L7 H key t.1=_;unfold L7;rw[h1];dsimp only;rw[HP,HN,h2];dsimp only;rw[HQ]
theorem JV{p:Addr}:∀{ns:List Int}{zs:LWz},Vals (ns.map V.int++[.ref p]) zs->∃vs,zs=vs++[.ref p]/\IntsAre vs ns
 |[],zs,h=>by
  cases h with
  |cons h t =>
   cases t;cases(show _=Value.ref p from h);exact⟨[],rfl,.nil⟩
 |i::r,zs,h=>by
  rw[List.map_cons,List.cons_append]at h;cases h with
  |cons h t =>
   obtain⟨tk,rfl⟩:=(show ∃t,_=Value.int i t from h);obtain⟨vs,rfl,hv⟩:=JV t;exact⟨_,rfl,.cons i tk hv⟩
section
variable{prog:Program}{w:World}{A:Around}{s:Shared}
theorem G7{fin:Bool}{Q:Bool->Shared->Prop}{x y:Value}{as bs:List Int}(last:∀i,0<i->Q (HT.lexLt as bs) s->KatLex prog w A true fin Q [(x,y)] i s) :
  ∀{vs ws:LWz}{ns ms:List Int}(i:Nat),IntsAre vs ns->IntsAre ws ms->(0<i\/ns≠[])->ns.length=ms.length->Q (HT.lexLt (ns++as) (ms++bs)) s->KatLex prog w A true fin Q ((vs++[x]).zip (ws++[y])) i s
 |_,_,_,_,i,.nil,.nil,hi,_,hq=>last i (hi.resolve_right (λ z=>z rfl)) hq
 |_,_,_,_,i,.cons n t hn,.cons m u hm,_,hl,hq=>by
  rw[List.cons_append,List.cons_append,List.zip_cons_cons];rw[List.cons_append,List.cons_append,HT.lexLt_cons]at hq;refine kat_cons (wpAny_eqBool_int (kat_go (λ e=>kat_yes ?_) λ e=>kat_no ?_))
  .have e':n=m:=by simpa using e
   rw[if_pos e']at hq;exact G7 last (i+1) hn hm (.inl (Nat.succ_pos _)) (by simpa using hl) hq
  .have e':¬n=m:=by simpa using e
   rw[if_neg e']at hq;by_cases hi:i=0
   .subst hi;exact oneLt_int hq
   .have hb:(true&&i==0)=false:=by simp[hi]
    rw[hb];exact kat_one _ _ (lt_int hq)
end
theorem EB{h:Heap}{β:Type}:∀{ts:List (Addr×β)},(∀t∈ts,∃items n tk zs,IsTup h t.1 items/\items.toList=Value.int n tk::zs)->∃fs,KatTups h (ts.map λ t=>Value.ref t.1) fs/\fs.length=ts.length/\∀v∈fs,∃n tk,v=Value.int n tk
 |[],_=>⟨[],KatTups.nil,rfl,λ v hv=>nomatch hv⟩
 |t::r,hh=>by
  obtain⟨fs,h1,h2,h3⟩:=EB (ts:=r) λ u hu=>hh u (List.mem_cons_of_mem _ hu);obtain⟨items,x,tk,zs,⟨o,ho,hc,n,hd⟩,e⟩:=hh t List.mem_cons_self;have hf:items[0]?=some (Value.int x tk):=by
   rw[<-Array.getElem?_toList,e];rfl
  exact⟨_,KatTups.cons ho hc hd hf h1,by simp[h2],λ v hv=>by
   rcases List.mem_cons.mp hv with rfl|hv
   .exact⟨x,tk,rfl⟩
   .exact h3 v hv⟩
theorem IV{X:Cx}{pins:PNz}{σ:St}{H:Hp}{s:Shared}{n m:Nat}{t:Rwt}(I:Inv X pins σ H s)(h:Ps H n m t):(∃vs,IsTup s.heap t.1 (vs++[Value.ref t.2.2.1]).toArray/\IntsAre vs t.2.1)/\∃items,IsTup s.heap t.2.2.1 items/\IntsAre items.toList t.2.2.2:=by
 obtain⟨h1,h2,_,_⟩:=h;obtain⟨_,zs,rz,tz⟩:=(show ObjOk X.prog X.w H s.heap t.1 (.tup (t.2.1.map V.int++[.ref t.2.2.1])) from I.hok _ _ h1);obtain⟨_,zs2,rz2,tz2⟩:=(show ObjOk X.prog X.w H s.heap t.2.2.1 (.tup (t.2.2.2.map V.int)) from I.hok _ _ h2);obtain⟨vs,rfl,hv⟩:=JV rz;exact⟨⟨vs,tz,hv⟩,_,tz2,by simpa using Eg rz2⟩
theorem Ma{X:Cx}{A:Around}{σ:St}{H:Hp}{ts:List Rwt}{n m:Nat}{key:List Int->Int}(hu:A.units+8<cLine)(ht:∀t∈ts,Ps H n m t)
  (hkey:∀t∈ts,∀u∈ts,HT.lexLt (rks t) (rks u)=decide (key (rks t)<key (rks u))):Pw X A σ H (ts.map λ t=>V.ref t.1) (tuples' true) (OQ H key):=λ ks pins s rk I=>by
 have hks:ks=ts.map λ t=>Value.ref t.1:=by
  have:=DG (ts:=ts.map (·.1)) (its:=ks) (by rw[List.map_map];exact rk);rw[this,List.map_map];rfl
 subst hks;have tup:=λ t htm=>IV I (ht t htm);refine⟨λ C E h2 hc=>?_,λ x hx y hy C hc=>?_⟩
 .obtain⟨fs,f1,f2,f3⟩:=EB (h:=s.heap) (ts:=ts) λ t htm=>by
   obtain⟨⟨vs,tv,hv⟩,_⟩:=tup t htm;have l:=(ht t htm).2.2.1;generalize t.2.1=ns at hv l;cases hv with
   |nil=>simp at l
   |cons i tk hz=>exact⟨_,i,tk,_,tv,rfl⟩
  rw[List.length_map]at h2;exact kat_kind (T:=Value.type "int") f1 (by lia) (λ v hv=>by obtain⟨n,tk,rfl⟩:=f3 v hv;exact .now) (by decide) hc
 .obtain⟨t,mt,rfl⟩:=List.mem_map.mp hx;obtain⟨u,mu,rfl⟩:=List.mem_map.mp hy;obtain⟨⟨v1,⟨o1,g1,c1,n1,d1⟩,z1⟩,i1,tp1,y1⟩:=tup t mt;obtain⟨⟨v2,⟨o2,g2,c2,n2,d2⟩,z2⟩,i2,tp2,y2⟩:=tup u mu;have ra:=ht t mt;have rb:=ht u mu;rw[Fd ra,Fd rb,<-hkey t mt u mu]at hc;obtain⟨a1,a2,a3,a4⟩:=ra;obtain⟨b1,b2,b3,b4⟩:=rb;have l1:=z1.length;have l2:=z2.length;refine kat_lt g1 d1 g2 d2 ?_;rw[List.toList_toArray,List.toList_toArray];have fin:decide ((v1++[Value.ref t.2.2.1]).toArray.size<(v2++[Value.ref u.2.2.1]).toArray.size)=false:=decide_eq_false (by simp;lia);rw[fin];refine G7 (as:=t.2.2.2) (bs:=u.2.2.2) (λ i hi hq=>?_) 0 z1 z2 (.inr (λ z=>by rw[z]at a3;simp at a3)) (by lia) hc;have D1:DIs X.K H (.tup (AO t.2.2.2)) (.ref t.2.2.1):=by rw[DIs];exact⟨_,_,rfl,SqT.of a2,B8 _⟩
  have D2:DIs X.K H (.tup (AO u.2.2.2)) (.ref u.2.2.1):=by rw[DIs];exact⟨_,_,rfl,SqT.of b2,B8 _⟩
  have dp:dep (.tup (AO t.2.2.2))<=1:=by rw[dep,B4];lia
  have eqp:SeqAt.EqAt A s (.ref t.2.2.1) (.ref u.2.2.1) (decide (t.2.2.2=u.2.2.2)):=by
   have:=Pc I 1 A (.tup (AO t.2.2.2)) (.tup (AO u.2.2.2)) (.ref t.2.2.1) (.ref u.2.2.1) (.ref t.2.2.1) (.ref u.2.2.1) dp D1 D2 rfl rfl (by lia);rwa [deq,DN]at this
  refine kat_cons (eqp _ _ _ _ (kat_go (λ e=>kat_yes (kat_nil ?_)) λ e=>kat_no ?_))
  .have e:=of_decide_eq_true e;rw[e]at hq;have z:∀ns:List Int,HT.lexLt ns ns=false:=λ ns=>by
    induction ns with
    |nil=>rfl
    |cons i r ih=>rw[HT.lexLt_cons,if_pos rfl,ih]
   rw[z]at hq;exact hq
  .have hb:(true&&i==0)=false:=by simp;lia
   rw[hb];exact kat_one _ _ (HT.lt_tupInts tp1 tp2 y1 y2 (by lia) hq)
section
variable{X:Cx}
theorem CZ{k:Nat}(hr:Room k X.A):Dc X (.builtin "sorted") (λ xs H Q=>∃(p:Addr)(ts:List Rwt)(n m:Nat)(key:List Int->Int),xs=[.ref p]/\SqL X.K H p (ts.map λ t=>V.ref t.1) /\
  (∀t∈ts,Ps H n m t)/\(∀t∈ts,∀u∈ts,HT.lexLt (rks t) (rks u)=decide (key (rks t)<key (rks u))) /\
  ∀l (ts':List Rwt),H l=none->ts'.Perm ts->(ts'.map λ t=>key (rks t)).Pairwise (·<=·)->Q (.ref l) (upd H l (.lst (ts'.map λ t=>V.ref t.1)))):=by
 intro pins s σ H xs us Q I r h;obtain⟨p,ts,n,m,key,rfl,hp,ht,hkey,q⟩:=h;obtain⟨u,rfl,ru⟩:=Ev r;cases ru;exact L3 I hp (Ma (by have:=hr.units;show X.A.units+1+1+8<_;lia) ht hkey) (λ t hm=>Fd (ht t hm)) q
end
theorem OS{vs:LWz}{ns ms:List Int}(a:IntsAre vs ns)(b:IntsAre vs ms):ns=ms:=by
 induction a generalizing ms with
 |nil=>cases b;rfl
 |cons n t _ ih=>cases b with|cons _ _ h=>rw[ih h]
theorem EC{vs:LWz}{ns:List Int}(a:IntsAre vs ns):∀(j:Nat)(h:j<vs.length),∃tk,vs[j]=Value.int (ns.getD j 0) tk:=by
 induction a with
 |nil=>intro j h;simp at h
 |cons n t _ ih =>
  intro j h;cases j with
  |zero=>exact⟨t,rfl⟩
  |succ j=>exact ih j (by simpa using h)
theorem Mn:∀{ns ms:List Int},((List.range (min ns.length ms.length)).all (λ j=>ns.getD j 0==ms.getD j 0)&&ns.length==ms.length)=decide (ns=ms):=by
 intro ns ms;rw[Bool.eq_iff_iff,Bool.and_eq_true,List.all_eq_true,decide_eq_true_iff]
 constructor
 .rintro⟨h,l⟩;have l:=eq_of_beq l;apply List.ext_getElem l;intro i h1 h2;have:=eq_of_beq (h i (List.mem_range.mpr (by lia)));rw[List.getD_eq_getElem?_getD,List.getD_eq_getElem?_getD,List.getElem?_eq_getElem h1,List.getElem?_eq_getElem h2]at this;exact this
 .rintro rfl;exact⟨λ x _=>beq_self_eq_true _,beq_self_eq_true _⟩
theorem J1{A:Around}{s:Shared}{a b:Addr}{i1 i2:Array Value}{ns ms:List Int}(h1:IsTup s.heap a i1)(h2:IsTup s.heap b i2)(n1:IntsAre i1.toList ns)(n2:IntsAre i2.toList ms)(hu:A.units+1<cLine):SeqAt.EqAt A s (.ref a) (.ref b) (decide (ns=ms)):=by
 by_cases hab:a=b
 .subst hab;obtain⟨o1,g1,c1,m1,d1⟩:=h1;obtain⟨o2,g2,c2,m2,d2⟩:=h2;rw[g1]at g2;cases g2;rw[d1]at d2;cases d2;rw[OS n1 n2,decide_eq_true rfl];exact SeqAt.EqAt.same _
 .refine SeqAt.EqAt.of_refs hab ?_;have l1:=n1.length;have l2:=n2.length;rw[Array.length_toList]at l1 l2;have:=SeqAt.RcAt.tuples (A:=A) (e:=λ j=>ns.getD j 0==ms.getD j 0) (show s.heap.IsTuple a i1 from h1) (show s.heap.IsTuple b i2 from h2) (by lia) λ j g1 g2=>by
   obtain⟨t1,e1⟩:=EC n1 j (by simpa using g1);obtain⟨t2,e2⟩:=EC n2 j (by simpa using g2);rw[Array.getElem_toList]at e1 e2;rw[e1,e2];exact SeqAt.EqAt.int_int _ _ _ _
  rw[l1,l2,Mn]at this;exact this
section
open PySem.SeqAt
open PySem.AutoSeq1 (wpAny_loadPart')
open PySem.MeetsSeq PySem.MeetsSeq2 PySem.MeetsSeq3
theorem G3:∀ns:List Int,HT.lexLt ns ns=false
 |[]=>rfl
 |i::r=>by rw[HT.lexLt_cons,if_pos rfl,G3 r]
inductive DB(h:Heap):LWz->LWz->List Int->List Int->Prop
 |nil:DB h [] [] [] []
 |last {p q:Addr} {i1 i2:Array Value} {ns ms:List Int}:IsTup h p i1->IsTup h q i2->IntsAre i1.toList ns->IntsAre i2.toList ms->DB h [.ref p] [.ref q] ns ms
 |cons {i j:Int} {tk tj:Tok} {vs ws:LWz} {ns ms:List Int}:DB h vs ws ns ms->DB h (.int i tk::vs) (.int j tj::ws) (i::ns) (j::ms)
theorem HV{h:Heap}{p q:Addr}{i1 i2:Array Value}{as bs:List Int}(hp:IsTup h p i1)(hq:IsTup h q i2)(ha:IntsAre i1.toList as)(hb:IntsAre i2.toList bs):∀{vs ws:LWz}{ns ms:List Int},IntsAre vs ns->IntsAre ws ms->ns.length=ms.length->DB h (vs++[.ref p]) (ws++[.ref q]) (ns++as) (ms++bs)
 |_,_,_,_,.nil,.nil,_=>.last hp hq ha hb
 |_,_,_,_,.cons n t r,.cons m u r',hl=>.cons (HV hp hq ha hb r r' (by simpa using hl))
theorem Hj(l b:Addr)(items items2:Array Value)(n n2:Nat)(dd dd2:Option Addr)(sl sl2:AOz)(ns ms:List Int)(hsz:items.size=items2.size) :
  Meets (Builtin.«tuple.__lt__» ⟨[.ref l,.ref b],[]⟩)
   (λ A R s=>s.heap.get? l=some { cls:=.type "tuple",dict:=dd,data:=.seq items n,slots:=sl }/\s.heap.get? b=some { cls:=.type "tuple",dict:=dd2,data:=.seq items2 n2,slots:=sl2 }/\A.units+3<cLine/\DB s.heap items.toList items2.toList ns ms /\
    R (.ok (.ret (.bool (HT.lexLt ns ms)))) s) :=
 .of_wp λ prog w A R s h=>by
  obtain⟨hp,g,d,tk,os⟩:=s;obtain⟨hl,hb,hu,hr,h⟩:=h;have f2:=AutoSeq1.sub_tuple_tuple
  wp_walk using wpAny_loadPart' hl,wpAny_loadPart' hb,wpAny_forIn_list _ (λ rest b s'=>b.1=none/\s'=⟨hp,g,d,tk,os⟩/\∃(vs ws:LWz)(ns' ms':List Int),rest=vs.zip ws /\
   DB hp vs ws ns' ms'/\R (.ok (.ret (.bool (HT.lexLt ns' ms')))) ⟨hp,g,d,tk,os⟩) _
  case turn =>
   rintro⟨y,x⟩ rest b s' ⟨hb',rfl,vs,ws,ns',ms',hz,hra,hR⟩;cases hra with
   |nil=>cases hz
   |last t1 t2 e1 e2 =>
    rw[List.zip_cons_cons]at hz;injection hz with hyx hrest;injection hyx with hy hx;subst hy hx;have he:=J1 (A:=A.in1) (s:=⟨hp,g,d,tk,os⟩) t1 t2 e1 e2 (by show A.units+1+1<cLine;lia);refine wpAny_bind (he prog w _ _ ?_);by_cases q:ns'=ms'
    .rw[decide_eq_true q];rw[q,G3]at hR
     wp_walk
     exact⟨rfl,rfl,[],[],[],[],hrest,.nil,hR⟩
    .rw[decide_eq_false q];have hri:=λ Q' E' q'=>HT.lt_tupInts (prog:=prog) (w:=w) (A:=A.in1) (Q:=Q') (E:=E') (s:=⟨hp,g,d,tk,os⟩) t1 t2 e1 e2 (by show A.units+1<cLine;lia) q';have hri:∀(E':VPz)(Q':VPz),Q' (.bool (HT.lexLt ns' ms')) ⟨hp,g,d,tk,os⟩->wpAny (model prog w) A.in1 (richCompare .Lt _ _) Q' E' ⟨hp,g,d,tk,os⟩:=λ E' Q' q'=>hri Q' E' q'
     wp_walk using hri
     exact⟨_,rfl,by simpa using hR⟩
   |cons hra' =>
    rename_i i j tk1 tj1 vs' ws' ns'' ms'';rw[List.zip_cons_cons]at hz;injection hz with hyx hrest;injection hyx with hy hx;subst hy hx;rw[HT.lexLt_cons]at hR;obtain⟨e,he,hiff⟩:=HT.eqAt_int A.in1 ⟨hp,g,d,tk,os⟩ i tk1 j tj1;refine wpAny_bind (he prog w _ _ ?_);cases e with
    |true =>
     rw[if_pos (hiff.mp rfl)]at hR
     wp_walk
     exact⟨rfl,rfl,_,_,_,_,hrest,hra',hR⟩
    |false =>
     rw[if_neg (λ q=>absurd (hiff.mpr q) Bool.false_ne_true)]at hR;have hri:=HT.rcLt_int A.in1 ⟨hp,g,d,tk,os⟩ i tk1 j tj1 prog w
     wp_walk using hri
     exact⟨_,rfl,by simpa using hR⟩
  case fin =>
   rintro⟨b1,b2⟩ s' ⟨hb',rfl,vs,ws,ns',ms',hz,hra,hR⟩;simp only at hb';subst hb';have hv:HT.lexLt ns' ms'=decide (items.size<items2.size):=by
    cases hra with
    |nil=>exact(decide_eq_false (by lia)).symm
    |last t1 t2 e1 e2=>rw[List.zip_cons_cons]at hz;cases hz
    |cons hra'=>rw[List.zip_cons_cons]at hz;cases hz
   rw[hv]at hR
   wp_walk
   exact⟨_,rfl,by simpa [Builtin.Tuple.tupleCompareSizes] using hR⟩
  exact⟨rfl,rfl,_,_,_,_,rfl,hr,h⟩
end
theorem Qc{prog:Program}{w:World}{A:Around}{E:VPz}{s:Shared}{l b:Addr}{items items2:Array Value}{ns ms:List Int}{Q:VPz}(hl:IsTup s.heap l items)(hb:IsTup s.heap b items2)(hsz:items.size=items2.size)(hr:DB s.heap items.toList items2.toList ns ms)
  (hu:A.units+3<cLine) (h:Q (.bool (HT.lexLt ns ms)) s):wpAny (model prog w) A (compareOp .Lt (.ref l) (.ref b)) Q E s:=by
 obtain⟨⟨cls,dd,data,sl⟩,ho,hc,n,hd⟩:=id hl;obtain⟨⟨cls2,dd2,data2,sl2⟩,ho2,hc2,n2,hd2⟩:=id hb;simp only at hc hd hc2 hd2;subst hc hd hc2 hd2;exact richCompare_meets_room (op:=.Lt) ⟨_,ho,rfl⟩ ⟨_,ho2,rfl⟩ PySem.F.slot_tuple_lt PySem.F.entry_tuple_lt (PySem.F.args_tuple_lt_2 _ _) (Hj l b items items2 n n2 dd dd2 sl sl2 ns ms hsz)
  ⟨ho,ho2,hu,hr,show Value.bool (HT.lexLt ns ms)≠Value.notImplemented/\Q (.bool (HT.lexLt ns ms)) s from ⟨(λ x=>nomatch x),h⟩⟩ (by lia)
theorem KW(f:Nat->Int):∀k,argBest (λ i j=>decide (f i<f j)) k<=k/\∀j,j<=k->f (argBest (λ i j=>decide (f i<f j)) k)<=f j
 |0=>⟨Nat.le_refl _,λ j hj=>by rw[Nat.le_zero.mp hj];exact Int.le_refl _⟩
 |k+1=>by
  obtain⟨h1,h2⟩:=KW f k;unfold argBest;by_cases q:f (k+1)<f (argBest (λ i j=>decide (f i<f j)) k)
  .rw[if_pos (decide_eq_true q)];refine⟨Nat.le_refl _,λ j hj=>?_⟩;rcases Nat.lt_or_ge j (k+1) with l|l
   .have:=h2 j (by lia);lia
   .rw[show j=k+1 from by lia];exact Int.le_refl _
  .rw[if_neg (by rw[decide_eq_false q];exact Bool.false_ne_true)];refine⟨by lia,λ j hj=>?_⟩;rcases Nat.lt_or_ge j (k+1) with l|l
   .exact h2 j (by lia)
   .rw[show j=k+1 from by lia];lia
section
variable{X:Cx}
theorem MS{pins:PNz}{σ:St}{H:Hp}{s:Shared}{p:Addr}{β:Type}{ts:List (Addr×β)}{K:Addr×β->Int}{Q:VK}(I:Inv X pins σ H s)(hp:SqL X.K H p (ts.map λ t=>V.ref t.1))(hc:X.calm=true)(hn:ts≠[])
  (cmp:∀t∈ts,∀u∈ts,∀(s':Shared)(Q':VPz)(E':VPz),(∀b o,s.heap.get? b=some o->s'.heap.get? b=some o)->Q' (.bool (decide (K t<K u))) s'->wpAny (model X.prog X.w) X.A.in1 (compareOp .Lt (.ref t.1) (.ref u.1)) Q' E' s')
  (q:∀t∈ts,(∀u∈ts,K t<=K u)->Q (.ref t.1) H):wpAny (model X.prog X.w) X.A (call (.builtin "min") [.ref p]) (EP X pins σ Q) X.xe s:=by
 obtain⟨its,rv,pl,hz⟩:=I.list hp;have hits:its=ts.map λ t=>Value.ref t.1:=by
  have:=DG (ts:=ts.map (·.1)) (its:=its) (by rw[List.map_map];exact rv);rw[this,List.map_map];rfl
 subst hits;have len:0<ts.length:=List.length_pos_iff.mpr hn;have at_:∀(i:Nat)(v:Value),(ts.map λ t=>Value.ref t.1).toArray[i]?=some v->∃t,ts[i]?=some t/\v=.ref t.1:=λ i v e=>by
  rw[List.getElem?_toArray,List.getElem?_map]at e;cases z:ts[i]? with
  |none=>rw[z]at e;cases e
  |some t=>rw[z]at e;exact⟨t,rfl,(Option.some.inj e).symm⟩
 have gd:∀(i:Nat)(t:Addr×β),ts[i]?=some t->((ts.map K).getD i 0)=K t:=λ i t e=>by
  rw[List.getD_eq_getElem?_getD,List.getElem?_map,e];rfl
 refine Sj (lt:=λ i j=>decide ((ts.map K).getD i 0<(ts.map K).getD j 0)) (I.ok.hd hc) pl.isList (by simpa using len) ?_ λ v h' tk hv hk=>?_
 .intro i j vi vj s' Q' E' g hi hj hq;obtain⟨ti,e1,rfl⟩:=at_ i vi hi;obtain⟨tj,e2,rfl⟩:=at_ j vj hj;dsimp only at hq;rw[gd i ti e1,gd j tj e2]at hq;exact cmp ti (List.mem_of_getElem? e1) tj (List.mem_of_getElem? e2) s' Q' E' g hq
 .obtain⟨b1,b2⟩:=KW (λ i=>(ts.map K).getD i 0) ((ts.map λ t=>Value.ref t.1).toArray.size-1);obtain⟨t,e1,rfl⟩:=at_ _ v hv;refine⟨.ref t.1,H,I.kept (t':=tk) hk,rfl,q t (List.mem_of_getElem? e1) λ u hu'=>?_⟩;obtain⟨j,hj⟩:=List.mem_iff_getElem?.mp hu';have:=b2 j (by have:=(List.getElem?_eq_some_iff.mp hj).1;simp;lia);rw[gd j u hj,gd _ t e1]at this;exact this
theorem Oe{k:Nat}(hr:Room k X.A):Dc X (.builtin "min") (λ xs H Q=>∃(p:Addr)(ts:List Rwt)(n m:Nat)(key:List Int->Int),xs=[.ref p]/\SqL X.K H p (ts.map λ t=>V.ref t.1)/\X.calm=true/\ts≠[] /\
  (∀t∈ts,Ps H n m t)/\(∀t∈ts,∀u∈ts,HT.lexLt (rks t) (rks u)=decide (key (rks t)<key (rks u)))/\∀t∈ts,(∀u∈ts,key (rks t)<=key (rks u))->Q (.ref t.1) H):=by
 intro pins s σ H xs us Q I r h;obtain⟨p,ts,n,m,key,rfl,hp,hc,hn,ht,hkey,q⟩:=h;obtain⟨u,rfl,ru⟩:=Ev r;cases ru;refine MS (K:=λ t=>key (rks t)) I hp hc hn (λ t mt u mu s' Q' E' g hq=>?_) q;obtain⟨⟨v1,⟨o1,g1,c1⟩,z1⟩,i1,⟨p1,k1,l1⟩,y1⟩:=IV I (ht t mt);obtain⟨⟨v2,⟨o2,g2,c2⟩,z2⟩,i2,⟨p2,k2,l2⟩,y2⟩:=IV I (ht u mu);have a3:=(ht t mt).2.2.1;have b3:=(ht u mu).2.2.1;have w1:=z1.length;have w2:=z2.length;rw[<-hkey t mt u mu]at hq;refine Qc (s:=s') ⟨o1,g _ _ g1,c1⟩ ⟨o2,g _ _ g2,c2⟩ (by simp;lia) ?_ (by have:=hr.units;show X.A.units+1+3<_;lia) hq;rw[List.toList_toArray,List.toList_toArray];exact HV ⟨p1,g _ _ k1,l1⟩ ⟨p2,g _ _ k2,l2⟩ y1 y2 z1 z2 (by lia)
theorem Of{k:Nat}(hr:Room k X.A):Dc X (.builtin "min") (λ xs H Q=>∃(p:Addr)(ts:List (Addr×List Int))(key:List Int->Int),xs=[.ref p]/\SqL X.K H p (ts.map λ t=>V.ref t.1)/\X.calm=true/\ts≠[] /\
  (∀t∈ts,H t.1=some (.tup (t.2.map V.int)))/\(∀t∈ts,∀u∈ts,HT.lexLt t.2 u.2=decide (key t.2<key u.2))/\∀t∈ts,(∀u∈ts,key t.2<=key u.2)->Q (.ref t.1) H):=by
 intro pins s σ H xs us Q I r h;obtain⟨p,ts,key,rfl,hp,hc,hn,ht,hkey,q⟩:=h;obtain⟨u,rfl,ru⟩:=Ev r;cases ru;refine MS (K:=λ t=>key t.2) I hp hc hn (λ t mt u mu s' Q' E' g hq=>?_) q;have tup:∀t∈ts,∃items,IsTup s.heap t.1 items/\IntsAre items.toList t.2:=λ t htm=>by
  obtain⟨_,zs,rz,tz⟩:=(show ObjOk X.prog X.w H s.heap t.1 (.tup (t.2.map V.int)) from I.hok _ _ (ht t htm));exact⟨_,tz,by simpa using Eg rz⟩
 obtain⟨i1,⟨o1,g1,c1⟩,z1⟩:=tup t mt;obtain⟨i2,⟨o2,g2,c2⟩,z2⟩:=tup u mu;rw[<-hkey t mt u mu]at hq;exact HT.lt_tupInts (s:=s') ⟨o1,g _ _ g1,c1⟩ ⟨o2,g _ _ g2,c2⟩ z1 z2 (by have:=hr.units;show X.A.units+1<_;lia) hq
end
def Pt(Ts:List Addr)(H:Hp):Prop:=(∀b,H b=none\/(∃o xs,H b=some (.frz o (.lst xs)))\/(b∈Ts/\H b=some (.tbl #[])))/\∀T∈Ts,H T=some (.tbl #[])
theorem JF{h:Heap}{c T:Addr}(x:CodeHd h c T):isCodeTable h T:=by
 obtain⟨o,vs,file,tf,flags,tg,inF,text,tt,e1,e2,e3,e4,_⟩:=x;exact⟨c,o,vs,e1,e2,e3,e4⟩
theorem law_callT{P:Program}{w:World}{K:Frag}{mg mb:MGz}{CX:CXT}{k:Nat}{fa a:Addr}{fd:FuncData}{x:Str}{sp:Sp}{s₁:Shared}{vs:LWz}{ns:List Int}{Ts:List Addr}
  (KX:K.In s₁.heap) (hns:s₁.heap.Ns mainGlobals mg) (hb:s₁.heap.Ns builtinsNs mb) (hbb:∀x:Str,x≠"__name__"->mb x=bootBuiltins x) (hlim:s₁.heap.NoLimit) (hg:s₁.gens=#[])
  (ha:s₁.heap.get? a=some { cls:=.type "list",data:=.seq vs.toArray }) (hi:IntsAre vs ns) (hl:ns.length<=sizeLine) (hr:Room k callerA)
  (hT:∀T∈Ts,s₁.heap.get? T=some (tabObj #[])/\K.lookup T=none/\∃c,CodeHd s₁.heap c T)
  (F:∀base:Heap,K.In base->base.Ns mainGlobals mg->A8 P w K mg base CX k fa fd [x] sp) (hbind:∀(s:Shared)(u:Value),BindsTo s fd ⟨[u],[]⟩ [(x,u)])
  (hsp:∀H:Hp,Pt Ts H->SqL K H a (ns.map V.int)->sp [.ref a] H (λ v _=>v=.bl true) λ_ _ _=>False)
  (hCX:∀H e s',CX [] H s₁ (λ_ _ _=>False) e s'->False) :
  codeAny (model P w) callerA (.call (.ref fa) ⟨[.ref a],[]⟩) (λ r s'=>r=.ok (.ret (.bool true))/\OldK s₁.heap s'.heap/\s'.os=s₁.os/\AllBare s'.gens) s₁:=by
 have rv:=HM hi;have lenV:=hi.length;have core:∀H:Hp,Pt Ts H->SqL K H a (ns.map V.int)->HOk P w H s₁.heap->(∀b,H b≠none->b=a\/b∈Ts)->(H a≠none->K.lookup a=none) ->
   codeAny (model P w) callerA (.call (.ref fa) ⟨[.ref a],[]⟩) (λ r s'=>r=.ok (.ret (.bool true))/\OldK s₁.heap s'.heap/\s'.os=s₁.os/\AllBare s'.gens) s₁:=by
  intro H hO hS hok hA hK;have base_of:∀{b:Addr}{o:Obj},s₁.heap.get? b=some o->H b=none->(Jw s₁.heap H).get? b=some o:=λ e n=>OU e n;have noA:∀{b:Addr}{o:Obj}{es:Array DictEntry}{ep:Nat},s₁.heap.get? b=some o->o.data=.dict es ep->H b=none:=λ{b o es ep} e d=>by
   cases q:H b with
   |none=>rfl
   |some u =>
    rcases hA b (by rw[q];simp) with e'|e'
    .subst e';rw[ha]at e;cases e;have d':Data.seq vs.toArray _=Data.dict es ep:=d;cases d'
    .rw[(hT b e').1]at e;cases e;cases d
  have nsK:∀{b:Addr}{m:MGz},s₁.heap.Ns b m->(Jw s₁.heap H).Ns b m:=λ{b m} ⟨o,es,ep,e,d,r⟩=>⟨o,es,ep,base_of e (noA e d),d,r⟩;have hKb:K.In (Jw s₁.heap H):=λ b o e=>base_of (KX b o e) (by
   cases q:H b with
   |none=>rfl
   |some u =>
    rcases hA b (by rw[q];simp) with e'|e'
    .subst e';rw[hK (by rw[q];simp)]at e;cases e
    .rw[(hT b e').2.1]at e;cases e)
  have hM:Mod K mg (Jw s₁.heap H):=⟨hKb,nsK hns,⟨mb,nsK hb,hbb⟩,let ⟨mc,h1,h2⟩:=hlim;⟨mc,nsK h1,h2⟩⟩;have e0:Env0 P w K mg (Jw s₁.heap H) callerA [] s₁ H:=⟨rfl,hM,λ b o e=>PZ e,Nat.le_of_eq (NR _ _),trivial,λ b hb=>absurd (show b∈([]:List Addr) from hb) (by simp),hok,.of_eq hg⟩;refine codeAny_mono ((F _ hKb (nsK hns)).run callerA [] s₁ H ⟨[.ref a],[]⟩ [.ref a] [.ref a] _ _ hr e0 (hbind s₁ (.ref a)) (.cons rfl .nil) (hsp H hO hS)) λ r s' h=>?_;cases r with
  |error e=>exact(hCX H e s' h).elim
  |ok fl =>
   cases fl with
   |next=>exact False.elim h
   |brk=>exact False.elim h
   |cont=>exact False.elim h
   |ret u =>
    obtain⟨v,H',os,bare,un,hok',r',q⟩:=h;have q':v=.bl true:=q;subst q';obtain rfl:u=Value.bool true:=r';have old:∀b o,s₁.heap.get? b=some o->asItWas s₁.heap s'.heap b o/\∃o',s'.heap.get? b=some o':=λ b o e=>by
     cases q:H b with
     |none =>
      have:=un.keep b o e q (by intro z;exact absurd (show b∈([]:List Addr) from z) (by simp)) (by simp);exact⟨.inl this,_,this⟩
     |some u =>
      rcases hO.1 b with z|⟨ob,xs,z⟩|⟨hb',z⟩
      .rw[q]at z;cases z
      .have z2:=un.frzs b ob _ z;obtain⟨e1,_⟩:=hok b _ z;obtain⟨e2,_⟩:=hok' b _ z2;rw[e]at e1;cases e1;exact⟨.inl e2,_,e2⟩
      .obtain⟨more,z2⟩:=un.tbls b #[] z;have e2:s'.heap.get? b=some (tabObj (#[]++more)):=hok' b _ z2;obtain⟨e1,_,c,hc⟩:=hT b hb';rw[e]at e1;cases e1;exact⟨.inr (.inl ⟨JF hc,rfl,#[],more,rfl,e2⟩),_,e2⟩
    exact⟨rfl,⟨λ b o e=>(old b o e).1,λ b o e=>(old b o e).2⟩,os,bare⟩
 have aT:a∉Ts:=λ z=>by
  have e:=(hT a z).1;rw[ha]at e;cases e
 have tblT:∀T∈Ts,∀H:Hp,ObjOk P w H s₁.heap T (.tbl #[]):=λ T z H=>(hT T z).1;cases hk:K.lookup a with
 |some o =>
  have e:=KX a o hk;rw[ha]at e;cases e;refine core (λ b=>if b∈Ts then some (.tbl #[]) else none) ⟨λ b=>?_,λ T z=>if_pos z⟩ (.inr ⟨_,vs.toArray,_,hk,rfl,rfl,rfl,by rw[List.size_toArray,lenV];exact hl,by simpa using rv⟩) (λ b u z=>?_) (λ b z=>?_) λ z=>absurd (if_neg aT) z
  .by_cases hb:b∈Ts
   .exact .inr (.inr ⟨hb,if_pos hb⟩)
   .exact .inl (if_neg hb)
  .by_cases hb:b∈Ts
   .have z':=(if_pos hb).symm.trans z;cases z';exact tblT b hb _
   .have z':=(if_neg hb).symm.trans z;cases z'
  .by_cases hb:b∈Ts
   .exact .inr hb
   .exact absurd (if_neg hb) z
 |none =>
  refine core (λ b=>if b=a then some (.frz { cls:=.type "list",data:=.seq vs.toArray } (.lst (ns.map V.int))) else if b∈Ts then some (.tbl #[]) else none) ⟨λ b=>?_,λ T z=>?_⟩ (.inl (.inr ⟨{ cls:=.type "list",data:=.seq vs.toArray },if_pos rfl⟩)) (λ b u z=>?_) (λ b z=>?_) λ_=>hk
  .by_cases hb:b=a
   .exact .inr (.inl ⟨_,_,if_pos hb⟩)
   .by_cases hb2:b∈Ts
    .exact .inr (.inr ⟨hb2,(if_neg hb).trans (if_pos hb2)⟩)
    .exact .inl ((if_neg hb).trans (if_neg hb2))
  .have ne:¬T=a:=λ e=>aT (by rw[<-e];exact z);exact(if_neg ne).trans (if_pos z)
  .by_cases hb:b=a
   .have z':=(if_pos hb).symm.trans z;cases z';subst hb;exact⟨ha,by rw[List.length_map];exact hl,vs,_,rv,ha⟩
   .by_cases hb2:b∈Ts
    .have z':=((if_neg hb).trans (if_pos hb2)).symm.trans z;cases z';exact tblT b hb2 _
    .have z':=((if_neg hb).trans (if_neg hb2)).symm.trans z;cases z'
  .by_cases hb:b=a
   .exact .inl hb
   .by_cases hb2:b∈Ts
    .exact .inr hb2
    .exact absurd ((if_neg hb).trans (if_neg hb2)) z
theorem walk_ofT{l:OpenLaw}{n k:Nat}{q:Program}{loose:LSz}{XP:(MGz)->Heap->Prop}{YP:World->Heap->Prop}{d:DefRec}{K:Params->Frag}{CX:World->CXT}{sp:World->Sp}{x:Str}{Ts:List Addr}
  (hn:l.most=some n) (hn2:n<=sizeLine) (hdf:d.params.defaults=[]) (hr:Room k callerA)
  (hY:∀(w:World)(h:Heap),YP w h->(K w.params).In h) (hT:∀(w:World)(h:Heap),YP w h->∀T∈Ts,h.get? T=some (tabObj #[])/\(K w.params).lookup T=none/\∃c,CodeHd h c T)
  (F:∀(w:World)(mg:MGz)(fa:Addr)(h:Heap),(K w.params).In h->h.Ns mainGlobals mg->mg d.name=some (.ref fa) ->
   ∃fd:FuncData,(∀(s:Shared)(u:Value),BindsTo s fd ⟨[u],[]⟩ [(x,u)]) /\
    ∀base:Heap,(K w.params).In base->base.Ns mainGlobals mg->A8 l.prog w (K w.params) mg base (CX w) k fa fd [x] (sp w))
  (hsp:∀(w:World)(H:Hp)(a:Addr)(ns:List Int),ns.length<=n->Pt Ts H->SqL (K w.params) H a (ns.map V.int)->sp w [.ref a] H (λ v _=>v=.bl true) λ_ _ _=>False)
  (hCX:∀(w:World)(H:Hp)(s:Shared)(e:Value)(s':Shared),CX w [] H s (λ_ _ _=>False) e s'->False) :
  WalkO q loose XP YP l.row.toRowW d [] (λ f vs=>PySem.call f vs):=by
 refine Att.attach_call hn hdf λ w s₀ s₁ mg mb fa o pm cd doc a vs ns G Y ho hd hcd hmg hobj hints hlen hg=>?_;have KX:=hY w _ Y;obtain⟨fd,hb,hF⟩:=F w mg fa _ KX G.T.g hmg;exact law_callT KX G.T.g G.T.b G.T.builtins G.T.nolimit hg hobj hints (Nat.le_trans hlen hn2) hr (hT w _ Y) hF hb (λ H hO hS=>hsp w H a ns hlen hO hS) λ H e s'=>hCX w H s₁ e s'
structure FunC(K:Frag)(x qual:Str)(st:Stmt)(f:Addr)(fd:FuncData)(c:Addr):Prop where
 ex:∃(oc:Value)(od:Option Addr)(kV doc pm:Value)(an:Option Addr)(ct:Value)(osl:AOz),
  fd=fnOf x qual (Ba st) (A4 st) (Ag st) .none kV doc pm an (.ref c) ct/\K.lookup f=some ⟨oc,od,.func fd,osl⟩/\codeIn K (.ref c) qual=true
 kp:keepIn K (.ref f)=true
section
variable{P:Program}{w:World}{K:Frag}{mg:MGz}{base:Heap}{x qual:Str}{st:Stmt}{f c:Addr}{fd:FuncData}{N ps:LSz}{k:Nat}{sp:Sp}
theorem FunC.fn(F:FunC K x qual st f fd c):Fun K x qual st f fd:=by
 obtain⟨oc,od,kV,doc,pm,an,ct,osl,e,lk,hcd⟩:=F.ex;exact⟨⟨oc,od,kV,doc,pm,an,.ref c,ct,osl,e,lk,hcd⟩,F.kp⟩
theorem Qj{oc:Value}{od an:Option Addr}{osl:AOz}{kV doc pm cdv ct:Value}(l:K.lookup f=some ⟨oc,od,.func (fnOf x qual (Ba st) (A4 st) (Ag st) .none kV doc pm an cdv ct),osl⟩)
  (cc:codeIn K cdv qual=true) (kp:keepIn K (.ref f)=true) (e:cdv=.ref c):FunC K x qual st f (fnOf x qual (Ba st) (A4 st) (Ag st) .none kV doc pm an cdv ct) c:=by
 subst e;exact⟨⟨oc,od,kV,doc,pm,an,ct,osl,rfl,l,cc⟩,kp⟩
end
def JG(K:Frag)(c T:Addr):Bool:=match K.lookup c with
 |some o=>match o.data with
  |.fields vs=>(o.cls==.type "code")&&(vs[11]?==some (.ref T))&&(match vs.getD 18 .none with|.str _ _=>true|_=>false)&&(match vs.getD 7 .none with|.int _ _=>true|_=>false)&&(match vs.getD 9 .none with|.bool _=>true|_=>false)&&(match vs.getD 10 .none with|.int _ _=>true|_=>false)&&(c != T)
  |_=>false
 |none=>false
theorem codeTB_of{K:Frag}{c T:Addr}(h:JG K c T=true):∀hp:Heap,K.In hp->CodeHd hp c T:=λ hp KX=>by
 unfold JG at h;cases e:K.lookup c with
 |none=>rw[e]at h;cases h
 |some o =>
  rw[e]at h;cases d:o.data with
  |fields vs =>
   simp only[d,Bool.and_eq_true]at h;obtain⟨⟨⟨⟨⟨⟨h1,h2⟩,h3⟩,h4⟩,h5⟩,h6⟩,h7⟩:=h;have h2:vs[11]?=some (.ref T):=eq_of_beq h2;have e18:∃a b,vs.getD 18 .none=.str a b:=by
    generalize vs.getD 18 .none=v at h3;cases v with
    |str a b=>exact⟨a,b,rfl⟩
    |_=>cases h3
   have e7:∃a b,vs.getD 7 .none=.int a b:=by
    generalize vs.getD 7 .none=v at h4;cases v with
    |int a b=>exact⟨a,b,rfl⟩
    |_=>cases h4
   have e9:∃a,vs.getD 9 .none=.bool a:=by
    generalize vs.getD 9 .none=v at h5;cases v with
    |bool a=>exact⟨a,rfl⟩
    |_=>cases h5
   have e10:∃a b,vs.getD 10 .none=.int a b:=by
    generalize vs.getD 10 .none=v at h6;cases v with
    |int a b=>exact⟨a,b,rfl⟩
    |_=>cases h6
   obtain⟨f1,f2,e18⟩:=e18;obtain⟨g1,g2,e7⟩:=e7;obtain⟨i1,e9⟩:=e9;obtain⟨t1,t2,e10⟩:=e10;refine⟨o,vs,f1,f2,g1,g2,i1,t1,t2,KX c o e,eq_of_beq h1,d,h2,?_,e18,e7,e9,e10,?_⟩
   .rw[Array.getD_eq_getD_getElem?,h2];rfl
   .intro z;rw[z]at h7;simp at h7
  |_=>simp only[d]at h;cases h
def SameN(H H':Hp):Prop:=∀a o,H a=some o->(∀ps,o≠.tbl ps)->H' a=some o
theorem Same.n{H H':Hp}(s:Same H H'):SameN H H':=λ a o e _=>s a o e
theorem SameN.tup{H H':Hp}(s:SameN H H'){a:Addr}{xs:LUz}(e:H a=some (.tup xs)):H' a=some (.tup xs):=s a _ e λ_ z=>nomatch z
theorem SameN.lst{H H':Hp}(s:SameN H H'){a:Addr}{xs:LUz}(e:H a=some (.lst xs)):H' a=some (.lst xs):=s a _ e λ_ z=>nomatch z
def TabOk(pos:Pos)(qual:Str)(T:Addr)(H:Hp):Prop:=∃ps,H T=some (.tbl ps)/\TriplesOk ps.toList/\(codeAmong pos ps.toList=none\/∃c',codeAmong pos ps.toList=some (.ref c')/\H c'=some (DE c' qual))
theorem TabOk.same{pos:Pos}{qual:Str}{T:Addr}{H H':Hp}(h:TabOk pos qual T H)(s:Same H H'):TabOk pos qual T H':=by
 obtain⟨ps,e,t,c⟩:=h;refine⟨ps,s _ _ e,t,?_⟩;rcases c with c|⟨c',c1,c2⟩
 .exact .inl c
 .exact .inr ⟨c',c1,s _ _ c2⟩
theorem TabOk.new{pos:Pos}{qual:Str}{T:Addr}{H:Hp}(h:H T=some (.tbl #[])):TabOk pos qual T H:=⟨#[],h,trivial,.inl rfl⟩
theorem Ew{a b c:Int}{t u:Tok}{v:Value}:∀(l:LWz),TriplesOk l->TriplesOk (l++[.int a t,.int b u,v])
 |[],_=>trivial
 |.int _ _::.int _ _::_::rest,h=>Ew (c:=c) rest h
section
variable{X:Cx}
theorem CK:Dc X (.builtin "sum") (λ xs H Q=>∃(p:Addr)(ns:List Int),xs=[.ref p]/\SqL X.K H p (ns.map V.int)/\X.calm=true/\Q (.int ns.sum) H):=by
 intro pins s σ H xs us Q I r h;obtain⟨p,ns,rfl,hp,hc,q⟩:=h;obtain⟨u,rfl,ru⟩:=Ev r;cases ru;obtain⟨its,rv,pl,hz⟩:=I.list hp;have hi:=Eg rv;obtain⟨xs,hx⟩:=hi.allInts.items;have hl':s.heap.IsList p (intItems xs):=hx ▸ pl.isList;refine sum_intListG (I.ok.hd hc) hl' λ h' tk t' hk=>?_;have e1:ns=xs.toList.map (·.1):=by
  rw[<-nums_intItems,<-hx];exact(show numsOf its.toArray.toList=ns from hi.numsOf).symm
 have e2:preSum (numAt xs) xs.size=ns.sum:=by
  rw[preSum_eq,List.take_of_length_le (by simp),e1]
 rw[e2];exact⟨.int ns.sum,H,I.kept (t':=tk) hk,⟨t',rfl⟩,q⟩
end
end L2
namespace HT
open PySem.W
open PySem PySem.Spec PyProof.Rows
end HT
namespace L2
open PySem.W
open PySem PySem.Spec PyProof.Rows
theorem QT{n:Nat}(h:n<=30000):n<sizeLine:=Nat.lt_of_le_of_lt h (by decide)
section
variable{P:Program}{w:World}{K:Frag}{mg:MGz}{base:Heap}{x qual:Str}{st:Stmt}{f c:Addr}{fd:FuncData}{N ps:LSz}{k:Nat}{sp:Sp}
theorem FunC.ok(F:FunC K x qual st f fd c)(S:Aq N ps (Ag st))(len:∀vs H Q E,sp vs H Q E->vs.length=ps.length)
  (hbody:∀(A:Around)(outer:List Env)(s:Shared)(H:Hp)(vs:LUz)(Q:VK)(E:XK),Room k (A.deeper (envOfC qual (Ag st) s.heap.objs.size f (.ref c)))->sp vs H Q E ->
   ∃t,PSs (Cd CX0 P w K mg base N qual (Ag st) f (.ref c) A outer s H E).nox (A4 st) t/\t { nx:=λ_ H'=>Q .non H',rt:=Q } (start N vs) H):A8 P w K mg base CX0 (k+1) f fd ps sp:=by
 obtain⟨oc,od,kV,doc,pm,an,ct,osl,rfl,lk,hcd⟩:=F.ex;refine KD lk hcd S len λ A outer s H vs Q E hr hsp=>?_;obtain⟨t,h,q⟩:=hbody A outer s H vs Q E hr hsp;exact⟨t,h.nox,q⟩
end
def tkd(H:Hp)(L:PNz):Hp:=λ a=>match L.lookup a with|some o=>some (BI a o)|none=>H a
def utk(H:Hp)(L:PNz):Hp:=λ a=>match L.lookup a with|some _=>none|none=>H a
section
variable{P:Program}{w:World}{H H':Hp}{h h':Heap}{a:Addr}{o:Obj}{L:PNz}{fs:List Addr}
theorem FX(e:L.lookup a=some o):tkd H L a=some (BI a o):=by unfold tkd;rw[e]
theorem AR(e:L.lookup a=none):tkd H L a=H a:=by unfold tkd;rw[e]
theorem ER(e:L.lookup a=some o):utk H L a=none:=by unfold utk;rw[e]
theorem Bj(e:L.lookup a=none):utk H L a=H a:=by unfold utk;rw[e]
theorem CB(e:H a=none):utk H L a=none:=by
 cases q:L.lookup a with
 |none=>rw[Bj q];exact e
 |some o=>exact ER q
theorem Dv{u:HO}(hL:∀a o,L.lookup a=some o->H a=none)(e:H a=some u):L.lookup a=none:=by
 cases q:L.lookup a with
 |none=>rfl
 |some o=>rw[hL a o q]at e;cases e
theorem DI{u:HO}(hL:∀a o,L.lookup a=some o->H a=some (BI a o))(e:H a=some u)(n:∀o,u≠BI a o):L.lookup a=none:=by
 cases q:L.lookup a with
 |none=>rfl
 |some o=>rw[hL a o q]at e;cases e;exact absurd rfl (n o)
theorem HOk.tkd(hok:HOk P w H h)(hL:∀a o,L.lookup a=some o->H a=none)(hc:∀a o,L.lookup a=some o->h.get? a=some o):HOk P w (tkd H L) h:=λ a u e=>by
 cases q:L.lookup a with
 |some o =>
  rw[FX q]at e;cases e;exact Jn (hc a o q)
 |none =>
  rw[AR q]at e;exact(hok a u e).stay (λ_ _ _ z=>z) (λ b z=>by rw[AR (Dv hL z)];exact z) (λ b xs z=>by rw[AR (Dv hL z)];exact z)
theorem HOk.utk(hok:HOk P w H h)(hL:∀a o,L.lookup a=some o->H a=some (BI a o)):HOk P w (utk H L) h:=λ a u e=>by
 cases q:L.lookup a with
 |some o=>rw[ER q]at e;cases e
 |none =>
  rw[Bj q]at e;exact(hok a u e).stay (λ_ _ _ z=>z) (λ b z=>by rw[Bj (DI hL z (λ_ z=>nomatch z))];exact z) (λ b xs z=>by rw[Bj (DI hL z (λ_ z=>nomatch z))];exact z)
theorem Un.utk(u:Un fs [] (L2.tkd H L) H' h h')(hok:HOk P w H' h')(hL:∀a o,L.lookup a=some o->H a=none)(hc:∀a o,L.lookup a=some o->h.get? a=some o)(hf:∀a o,L.lookup a=some o->a∉fs)(hk:∀a o,L.lookup a=some o->H' a=some (BI a o)):Un fs [] H (L2.utk H' L) h h' where
 keep b o q n nf nx:=by
  cases e:L.lookup b with
  |some o' =>
   rw[hc b o' e]at q;cases q;exact(hok b _ (hk b o e)).1
  |none=>exact u.keep b o q (by rw[AR e];exact n) nf nx
 slot b o q n hb nx:=by
  cases e:L.lookup b with
  |some o'=>exact absurd hb (hf b o' e)
  |none=>exact u.slot b o q (by rw[AR e];exact n) hb nx
 free b o q n nx:=by
  cases e:L.lookup b with
  |some o'=>exact ER e
  |none=>rw[Bj e];exact u.free b o q (by rw[AR e];exact n) nx
 there b o q nx:=u.there b o q nx
 tups b xs e:=by
  have n:=Dv hL e;rw[Bj n];exact u.tups b xs (by rw[AR n];exact e)
 frzs b o v e:=by
  have n:=Dv hL e;rw[Bj n];exact u.frzs b o v (by rw[AR n];exact e)
 tbls b ps e:=by
  have n:=Dv hL e;rw[Bj n];exact u.tbls b ps (by rw[AR n];exact e)
theorem Un.tkd(u:Un fs [] (L2.utk H L) H' h h')(hL:∀a o,L.lookup a=some o->H a=some (BI a o)):Un fs [] H (L2.tkd H' L) h h':=by
 have out:∀{b},H b=none->L.lookup b=none:=λ{b} n=>by
  cases e:L.lookup b with
  |none=>rfl
  |some o=>rw[hL b o e]at n;cases n
 exact {
  keep:=λ b o q n nf nx=>u.keep b o q (CB n) nf nx
  slot:=λ b o q n hb nx=>u.slot b o q (CB n) hb nx
  free:=λ b o q n nx=>by rw[AR (out n)];exact u.free b o q (CB n) nx
  there:=λ b o q nx=>u.there b o q nx
  tups:=λ b xs e=>by
   have n:=DI hL e (λ_ z=>nomatch z);rw[AR n];exact u.tups b xs (by rw[Bj n];exact e)
  frzs:=λ b o v e=>by
   have n:=DI hL e (λ_ z=>nomatch z);rw[AR n];exact u.frzs b o v (by rw[Bj n];exact e)
  tbls:=λ b ps e=>by
   have n:=DI hL e (λ_ z=>nomatch z);rw[AR n];exact u.tbls b ps (by rw[Bj n];exact e) }
end
def FvOk(P:Program)(w:World)(K:Frag)(mg:MGz)(base:Heap)(k:Nat)(H:Hp)(f:Addr)(sp:Sp):Prop :=
 (∃o fd,H f=some (BI f o)/\o.data=.func fd)/\∀(A:Around)(outer:List Env)(s:Shared)(H':Hp)(us:LWz)(vs:LUz)(Q:VK)(E:XK),Same H H'->Room k A->Env0 P w K mg base A outer s H'->Vals vs us->sp vs H' Q E ->
  codeAny (model P w) A (.call (.ref f) ⟨us,[]⟩) (CR CX0 outer P w H' s Q E) s
theorem FvOk.same{P:Program}{w:World}{K:Frag}{mg:MGz}{base:Heap}{k:Nat}{H H':Hp}{f:Addr}{sp:Sp}(h:FvOk P w K mg base k H f sp)(s:Same H H'):FvOk P w K mg base k H' f sp :=
 ⟨let ⟨o,fd,e,d⟩:=h.1;⟨o,fd,s _ _ e,d⟩,λ A outer sh H2 us vs Q E s2=>h.2 A outer sh H2 us vs Q E (s.trans s2)⟩
theorem FvOk.imp{P:Program}{w:World}{K:Frag}{mg:MGz}{base:Heap}{k:Nat}{H:Hp}{f:Addr}{sp sp':Sp}(h:FvOk P w K mg base k H f sp)(i:∀vs H' Q E,Same H H'->sp' vs H' Q E->sp vs H' Q E):FvOk P w K mg base k H f sp' :=
 ⟨h.1,λ A outer sh H2 us vs Q E s2 hr e0 r q=>h.2 A outer sh H2 us vs Q E s2 hr e0 r (i vs H2 Q E s2 q)⟩
def tFv(P:Program)(w:World)(K:Frag)(mg:MGz)(base:Heap)(k:Nat)(tv:TE)(t:TA):TE:=λ σ H Q=>tv σ H λ v H1=>∃f sp,v=.ref f/\FvOk P w K mg base k H1 f sp/\t σ H1 λ vs H2=>Same H1 H2/\sp vs H2 Q E0
section
variable{X:Cx}{k j:Nat}{y:Str}{p pos:Pos}{e:Expr}{es:List Expr}{tv:TE}{t:TA}
theorem Sa(hr:Room j X.A)(hv:PE X (.Name y p) tv)(ha:PA X (e::es) t)(hj:k<=j:=by decide)
  (he:starEach (e::es) X.env=(false,eval e X.env)::starEach es X.env:=by rfl) (hpl:(backTo pos (starEach es X.env)).any (·.1)=false:=by rfl):PE X (.Call (.Name y p) (e::es) [] pos) (tFv X.prog X.w X.K X.mg X.base k tv t):=by
 intro pins s σ H Q I h;refine wpAny_Call_Name_kw (thn (hv pins s σ H _ I h) λ u s1 hz_=>?_);obtain⟨v,H1,I1,r1,f,sp,e1,F,q1⟩:=hz_;subst e1;cases r1;have fnat:∀{H2:Hp}{s2:Shared},Same H1 H2->Inv X pins σ H2 s2->FnAt f s2.heap:=λ{H2 s2} sm I2=>by
  obtain⟨o,fd,e,d⟩:=F.1;have:=(show ObjOk X.prog X.w H2 s2.heap f (BI f o) from I2.hok f _ (sm _ _ e)).1;obtain⟨oc,od,dt,sl⟩:=o;cases d;exact⟨_,_,_,_,this⟩
 refine callWith_F (fnat (Same.refl _) I1) (thn (ha pos pins s1 σ H1 _ I1 q1) λ us s2 ⟨vs,H2,I2,r,sm,q⟩=>⟨fnat sm I2,?_⟩) he hpl;refine wpAny_call (codeAny_mono (F.2 X.A X.stack s2 H2 us vs Q E0 sm (hr.mono hj) I2.env0 r q) λ r s' hq=>?_);cases r with
 |error e=>exact HZ pins σ H2 s2 e s' I2 hq
 |ok fl =>
  cases fl with
  |ret u=>exact I2.after hq
  |next=>exact False.elim hq
  |brk=>exact False.elim hq
  |cont=>exact False.elim hq
end
theorem Ie{g:Addr->Obj}:∀{l:List Addr}{a:Addr},(l.map λ c=>(c,g c)).lookup a=if a∈l then some (g a) else none
 |[],a=>by simp
 |c::r,a=>by
  rw[List.map_cons,List.lookup_cons];by_cases e:a=c
  .subst e;simp
  .have:(a==c)=false:=by simpa using e
   rw[this];show List.lookup a (r.map λ c=>(c,g c))=_;rw[Ie];simp[e]
structure Nu(N:LSz)(clos:List (Str×Addr))(σ:St)(H:Hp)(L:PNz):Prop where
 new:∀a o,L.lookup a=some o->H a=none
 has:∀p∈clos,∃o v,L.lookup p.2=some o/\o.data=.cell v
 val:∀p∈clos,∀(i:Nat)(v:V),N[i]?=some p.1->σ[i]?=some (some v)->∃o u,L.lookup p.2=some o/\o.data=.cell (some u)/\RelV v u
def QR(N:LSz)(clos:List (Str×Addr))(sp:Sp)(t:TA):TE:=λ σ H Q=>t σ H λ vs H1=>∀L,Nu N clos σ H1 L->sp vs (tkd H1 L) (λ v H2=>(∀a o,L.lookup a=some o->H2 a=some (BI a o))/\Q v (utk H2 L)) E0
section
variable{X:Cx}{k j:Nat}{x:Str}{ps:LSz}{sp:Sp}{p pos:Pos}{e:Expr}{es:List Expr}{t:TA}{clos:List (Str×Addr)}
theorem Rb(D:A5 X.prog X.w X.K X.mg X.base k x ps sp)(hr:Room j X.A)(ha:PA X (e::es) t)(hcl:∀p∈clos,X.env.cells.lookup p.1=some p.2/\X.env.kindOf p.1=some .cell)(hfn:∀y,X.fn y=true)(hex:X.ex=[])(hj:k<=j:=by decide)(hg:Gl X x:=by rfl)(hdb:(x==("__debug__":Str))=false:=by decide)
  (he:starEach (e::es) X.env=(false,eval e X.env)::starEach es X.env:=by rfl) (hpl:(backTo pos (starEach es X.env)).any (·.1)=false:=by rfl):PE X (.Call (.Name x p) (e::es) [] pos) (QR X.N clos sp t):=by
 obtain⟨f,fd,F,hm,hk,hb⟩:=D.ex;intro pins s σ H Q I h;refine wpAny_Call_Name_kw (DM I hg hm ?_ hdb);refine callWith_K (h₀:=X.base) I.ok.mod.kin hk (thn (ha pos pins s σ H _ I h) λ us s1 ⟨vs,H1,I1,r,q⟩=>⟨I1.kIn,?_⟩) he hpl
 let g:Addr->Obj:=λ c=>(s1.heap.get? c).getD ⟨.none,none,.plain,#[]⟩
 let L:PNz:=(clos.map (·.2)).map λ c=>(c,g c)
 have hLk:∀a,L.lookup a=if a∈clos.map (·.2) then some (g a) else none:=λ a=>Ie;have hcell:∀p∈clos,∃v,s1.heap.IsCell p.2 v:=λ p hp=>I1.cell p.1 p.2 (hcl p hp).1;have hin:∀a o,L.lookup a=some o->∃p∈clos,p.2=a/\s1.heap.get? a=some o:=λ a o e=>by
  rw[hLk]at e;split at e
  .rename_i hm;obtain⟨p,hp,rfl⟩:=List.mem_map.mp hm;refine⟨p,hp,rfl,?_⟩;obtain⟨v,o',ho',_⟩:=hcell p hp;cases e;show _=some ((s1.heap.get? p.2).getD _);rw[ho'];rfl
  .cases e
 have hof:∀p∈clos,∀o,s1.heap.get? p.2=some o->L.lookup p.2=some o:=λ p hp o e=>by
  rw[hLk,if_pos (List.mem_map.mpr ⟨p,hp,rfl⟩)];show some ((s1.heap.get? p.2).getD _)=_;rw[e];rfl
 have hnew:∀a o,L.lookup a=some o->H1 a=none:=λ a o e=>by
  obtain⟨p,hp,rfl,_⟩:=hin a o e;exact I1.freeC p.1 p.2 (hcl p hp).1
 have hget:∀a o,L.lookup a=some o->s1.heap.get? a=some o:=λ a o e=>let ⟨_,_,_,z⟩:=hin a o e;z;have habove:∀a o,L.lookup a=some o->X.s₀.heap.objs.size<=a:=λ a o e=>by
  obtain⟨p,hp,rfl,_⟩:=hin a o e;exact I1.ok.cab p.1 p.2 (hfn _) (hcl p hp).1
 have hnf:∀a o,L.lookup a=some o->a∉frs X.stack:=λ a o e hb=>by
  have ab:=habove a o e;obtain⟨p,hp,rfl,_⟩:=hin a o e;rcases List.mem_cons.mp (I1.stkSub _ hb) with z|z
  .exact I1.cne p.1 p.2 (hcl p hp).1 z
  .obtain⟨_,o',ho',_⟩:=I1.ok.funs.mem z;exact absurd (Nat.lt_of_lt_of_le (Heap.lt_size ho') ab) (Nat.lt_irrefl _)
 have CA:Nu X.N clos σ H1 L:=by
  refine⟨hnew,λ p hp=>?_,λ p hp i v hi hv=>?_⟩
  .obtain⟨v,o,ho,hd⟩:=hcell p hp;exact⟨o,v,hof p hp o ho,hd⟩
  .obtain⟨m,hns,hloc⟩:=I1.loc;obtain⟨u,ru,hlook⟩:=hloc i p.1 v hi hv (.inr (.inl (hcl p hp).2));rcases hlook with ⟨k1,_⟩|⟨_,c,hc,o,ho,hd⟩
   .rw[(hcl p hp).2]at k1;cases k1
   .rw[(hcl p hp).1]at hc;cases hc;exact⟨o,u,hof p hp o ho,hd,ru⟩
 have hsp:=q L CA;have e0:Env0 X.prog X.w X.K X.mg X.base X.A X.stack s1 (tkd H1 L):=by
  have z:=I1.env0;refine⟨z.frames,z.mod,λ b o e=>?_,z.bsz,z.funs,λ b hb=>?_,z.hok.tkd hnew hget,z.bare⟩
  .refine⟨(z.bs b o e).1,?_⟩;cases q:L.lookup b with
   |none=>rw[AR q];exact(z.bs b o e).2
   |some o'=>exact absurd (Nat.lt_of_lt_of_le (Heap.lt_size e) (Nat.le_trans I1.ok.bsz (habove b o' q))) (Nat.lt_irrefl _)
  .cases q:L.lookup b with
   |none=>rw[AR q];exact z.frf b hb
   |some o'=>exact absurd hb (hnf b o' q)
 have hl:us.length=ps.length:=by rw[<-r.length];exact F.len _ _ _ _ hsp
 have hbd:=hb s1 us I1.kIn (by rw[List.append_nil];exact hl);rw[List.append_nil]at hbd;refine wpAny_call (codeAny_mono (F.run X.A X.stack s1 (tkd H1 L) ⟨us,[]⟩ us vs _ E0 (hr.mono hj) e0 hbd r hsp) λ rs s' hq=>?_);cases rs with
 |error e=>exact HZ pins σ H1 s1 e s' I1 (by exact hq)
 |ok fl =>
  cases fl with
  |ret u =>
   obtain⟨v,H2,os,bare,un,hok,rv,hkp,q2⟩:=hq;exact I1.after ⟨v,utk H2 L,os,bare,un.utk hok hnew hget hnf hkp,hok.utk hkp,rv,q2⟩
  |next=>exact False.elim hq
  |brk=>exact False.elim hq
  |cont=>exact False.elim hq
end
def Qp(P:Program)(w:World)(K:Frag)(mg:MGz)(base:Heap)(N:LSz)(qual:Str)(scope:Scope)(f:Addr)(cd:Value)(clos:List (Str×Addr))(A:Around)(outer:List Env)(s:Shared)(H Hx:Hp)(E:XK):Cx where
 prog:=P
 w:=w
 K:=K
 mg:=mg
 base:=base
 A:=A.deeper (envX qual scope s.heap.objs.size f cd clos)
 N:=N
 s₀:=s
 H₀:=H
 env:=envX qual scope s.heap.objs.size f cd clos
 outer:=outer
 stack:=envX qual scope s.heap.objs.size f cd clos::outer
 ex:=[]
 calm:=true
 fn:=λ_=>false
 pn:=[]
 xe:=λ e s'=>wpAny (model P w) (A.deeper (envX qual scope s.heap.objs.size f cd clos)) (leaving (envX qual scope s.heap.objs.size f cd clos) e) (λ_ s''=>CX0 outer Hx s E e s'') (λ e' s''=>CX0 outer Hx s E e' s'') s'
structure Li(pn:Str)(fs:LSz)(sc:Scope):Prop where
 kind:sc.kind=.function
 co:sc.isCoroutine=false
 gen:sc.isGenerator=false
 par:sc.names.lookup pn=some .local
 nocell:∀y∈sc.names,y.2≠.cell
 free:∀y,sc.names.lookup y=some .free->y∈fs
 isfree:∀y∈fs,sc.names.lookup y=some .free
theorem Rv{P:Program}{w:World}{K:Frag}{mg:MGz}{base:Heap}{k:Nat}{H:Hp}{f c':Addr}{params:Arguments}{body:Expr}{scope:Scope}{qual pn:Str}{ctv:Value}{fs:LSz}{clos:List (Str×Addr)}{cv:LUz}{L:PNz}{te:TE}
  (hf:H f=some (BI f (BZ mg qual params body scope clos c' ctv))) (hc:H c'=some (DE c' qual)) (S:Li pn fs scope) (hlen:cv.length=fs.length) (hkeys:∀y,(∃c,clos.lookup y=some c)↔y∈fs) (hinj:∀x y c,clos.lookup x=some c->clos.lookup y=some c->x=y)
  (hL:∀a o,L.lookup a=some o->H a=some (BI a o)) (hcell:∀p∈clos,∃o v,L.lookup p.2=some o/\o.data=.cell v) (hval:∀p∈clos,∀(i:Nat)(v:V),fs[i]?=some p.1->cv[i]?=some v->∃o u,L.lookup p.2=some o/\o.data=.cell (some u)/\RelV v u)
  (hb:∀(s:Shared)(u:Value),BindsTo s (kla_fn "<lambda>" qual params body scope clos ((mg "__name__").getD .none) (.ref c') ctv) ⟨[u],[]⟩ ([pn].zip [u]))
  (hbody:∀(A:Around)(outer:List Env)(s:Shared)(H Hx:Hp)(E:XK),Room k (A.deeper (envX qual scope s.heap.objs.size f (.ref c') clos))->PE (Qp P w K mg base (pn::fs) qual scope f (.ref c') clos A outer s H Hx E) body te) :
  FvOk P w K mg base (k+1) H f (λ vs H' Q _=>∃v,vs=[v]/\te (some v::cv.map some) (utk H' L) (λ v' H2=>Q v' (tkd H2 L))):=by
 refine⟨⟨_,_,hf,rfl⟩,λ A outer s H' us vs Q E sm hr e0 r h=>?_⟩;obtain⟨v,rfl,h⟩:=h;obtain⟨u,rfl,ru⟩:=Ev r;have hL':∀a o,L.lookup a=some o->H' a=some (BI a o):=λ a o e=>sm _ _ (hL a o e);have hget:∀a o,L.lookup a=some o->s.heap.get? a=some o:=λ a o e=>(show ObjOk P w H' s.heap a (BI a o) from e0.hok a _ (hL' a o e)).1;have lim:s.heap.NoLimit:=e0.mod.nolimit.keeps λ b o e=>(e0.bs b o e).1;have ho:s.heap.get? f=some (BZ mg qual params body scope clos c' ctv):=(show ObjOk P w H' s.heap f (BI f _) from e0.hok f _ (sm _ _ hf)).1;refine kla_callFunE hr.depth ho rfl S.co S.gen rfl (Od (e0.hok c' _ (sm _ _ hc))) (hb s u _ _ _ _ ?_);refine wpAny_newFunctionEnv S.nocell (λ y hy=>?_) (λ h1 hns hsb=>?_) S.kind
 .rw[List.mem_singleton.mp (show y∈[(pn,u)] from hy)];exact S.par
 have hk:∀b o,s.heap.get? b=some o->h1.get? b=some o:=λ b o e=>hsb.extBut b o (Nat.ne_of_lt (Heap.lt_size e)) (Heap.get?_push_of_some _ e);refine⟨lim.keeps hk,?_⟩;show codeAny _ _ (.expr body (envX qual scope s.heap.objs.size f (.ref c') clos)) _ _;refine kla_codeExpr ?_;have noA:∀b:Addr,b∉(Qp P w K mg base (pn::fs) qual scope f (.ref c') clos A outer s (utk H' L) H' E).ex:=λ b z=>absurd (show b∈([]:List Addr) from z) (by simp);have mem:∀y c,clos.lookup y=some c->(y,c)∈clos:=λ y c e=>PySem.mem_of_lookup e;have I:Inv (Qp P w K mg base (pn::fs) qual scope f (.ref c') clos A outer s (utk H' L) H' E) [] (some v::cv.map some) (utk H' L) { s with heap:=h1,toks:=s.toks+([pn].zip [u]).length }:=by
  refine⟨⟨e0.mod,S.kind,rfl,rfl,Nat.le_refl _,hinj,λ y hy=>?_,λ y c z=>absurd z (by simp[Qp]),λ_=>hr.hd,Around.frames_deeper e0.frames,.inr ⟨rfl,rfl⟩,λ b z=>absurd z (noA b),λ b o e=>⟨(e0.bs b o e).1,CB (e0.bs b o e).2⟩,e0.bsz,λ b _ _=>noA b,λ b z=>absurd z (noA b),e0.funs,λ b hb=>CB (e0.frf b hb)⟩,
   rfl,e0.bare,Un.kept hk,⟨_,hns,λ i y vv h1' h2 h3=>?_⟩,λ y c e=>?_,CB (e0.hok.fresh (Nat.le_refl _)),λ y c e=>?_,λ p hp=>absurd (show p∈([]:PNz) from hp) (by simp),(e0.hok.utk hL').kept hk,?_⟩
  .have hy:scope.names.lookup y=some .cell\/scope.names.lookup y=some .free:=hy;rcases hy with hy|hy
   .exact absurd rfl (S.nocell _ (PySem.mem_of_lookup hy))
   .exact(hkeys y).mpr (S.free y hy)
  .have h1':(pn::fs)[i]?=some y:=h1';cases i with
   |zero =>
    cases h1';cases h2;exact⟨u,ru,.inl ⟨S.par,by simp⟩⟩
   |succ i =>
    have h1':fs[i]?=some y:=h1';have h2:(cv.map some)[i]?=some (some vv):=h2;rw[List.getElem?_map]at h2;obtain⟨z,hz,e⟩:=Option.map_eq_some_iff.mp h2;cases e;obtain⟨c,hc'⟩:=(hkeys y).mpr (List.mem_of_getElem? h1');obtain⟨o,u',ho',hd,rv⟩:=hval (y,c) (mem y c hc') i vv h1' hz;exact⟨u',rv,.inr ⟨.inr (S.isfree y (List.mem_of_getElem? h1')),c,hc',o,hk _ _ (hget _ _ ho'),hd⟩⟩
  .obtain⟨o,vv,ho',hd⟩:=hcell (y,c) (mem y c e);exact⟨vv,o,hk _ _ (hget _ _ ho'),hd⟩
  .obtain⟨o,vv,ho',hd⟩:=hcell (y,c) (mem y c e);exact ER ho'
  .show(some v::cv.map some).length=(pn::fs).length;rw[List.length_cons,List.length_cons,List.length_map,hlen]
 refine wpAny_mono (hbody A outer s (utk H' L) H' E (hr.deeper _) [] _ _ _ _ I h) (λ u2 s' ⟨v2,H2,J,rv,q⟩=>?_) λ e s' z=>z;have un:Un (frs outer) [] (utk H' L) H2 s.heap s'.heap:=J.base;have hnf:∀a o,L.lookup a=some o->a∉frs outer:=λ a o e hb=>by
  have:=e0.frf a hb;rw[hL' a o e]at this;cases this
 exact⟨v2,tkd H2 L,J.os,J.bare,un.tkd hL',J.hok.tkd (λ a o e=>un.free a o (hget a o e) (ER e) (by simp)) (λ a o e=>un.keep a o (hget a o e) (ER e) (hnf a o e) (by simp)),rv,q⟩
theorem TabOk.lamC{clos:List (Str×Addr)}{mg:MGz}{pos:Pos}{qual:Str}{T:Addr}{params:Arguments}{body:Expr}{scope:Scope}{σ:St}{H:Hp}{Q:VK}(h:TabOk pos qual T H)
  (q:∀c' f ctv H',SameX T H H'->TabOk pos qual T H'->H' f=some (BI f (BZ mg qual params body scope clos c' ctv))->H' c'=some (DE c' qual)->(∀b,H b=none->H' b=none\/b=c'\/b=f)->Q (.ref f) H'):RJ mg T pos params body scope clos qual σ H Q:=by
 obtain⟨ps,e,t,c⟩:=h;refine⟨ps,e,t,?_⟩;rcases c with c|⟨c',c1,c2⟩
 .refine .inl ⟨c,λ c' f ctv hc hf n1 n2 n3=>?_⟩;have eT:(upd (upd (upd H T (.tbl (ps++#[rawInt pos.line,rawInt pos.col,.ref c']))) c' (DE c' qual)) f (BI f (BZ mg qual params body scope clos c' ctv))) T=some (.tbl (ps++#[rawInt pos.line,rawInt pos.col,.ref c'])):=by
   rw[Ae (Ne.symm n3),Ae (Ne.symm n2),upd_same]
  have eC:(upd (upd (upd H T (.tbl (ps++#[rawInt pos.line,rawInt pos.col,.ref c']))) c' (DE c' qual)) f (BI f (BZ mg qual params body scope clos c' ctv))) c'=some (DE c' qual):=by
   rw[Ae n1,upd_same]
  refine q c' f ctv _ (λ a o ea no=>?_) ⟨_,eT,?_,.inr ⟨c',?_,eC⟩⟩ upd_same eC λ b hb=>?_
  .rw[Ae (Af no hf),Ae (Af no hc),Ae ea];exact no
  .rw[Array.toList_append];exact Ew (c:=0) _ t
  .rw[Array.toList_append];exact codeAmong_snoc _ t c
  .by_cases h1:b=f
   .exact .inr (.inr h1)
   .by_cases h2:b=c'
    .exact .inr (.inl h2)
    .refine .inl ?_;rw[Ae h1,Ae h2,Ae (λ z=>by rw[z,e]at hb;cases hb)];exact hb
 .refine .inr ⟨c',c1,c2,λ f ctv hf=>?_⟩;have s:Same H (upd H f (BI f (BZ mg qual params body scope clos c' ctv))):=Same.new hf;refine q c' f ctv _ s.x (TabOk.same ⟨ps,e,t,.inr ⟨c',c1,c2⟩⟩ s) upd_same (s _ _ c2) λ b hb=>?_;by_cases h1:b=f
  .exact .inr (.inr h1)
  .exact .inl (by rw[Ae h1];exact hb)
theorem TabOk.tbl{pos:Pos}{qual:Str}{T:Addr}{H:Hp}(h:TabOk pos qual T H):∃ps,H T=some (.tbl ps):=let ⟨ps,e,_⟩:=h;⟨ps,e⟩
theorem SameX.toN{T:Addr}{H H':Hp}(s:SameX T H H')(hT:∃ps,H T=some (.tbl ps)):SameN H H':=λ a o e n=>s a o (λ z=>by obtain⟨ps,e'⟩:=hT;rw[z,e']at e;cases e;exact n _ rfl) e
theorem O2{H H':Hp}{L:PNz}(hL:∀a o,L.lookup a=some o->H a=none)(s:Same (tkd H L) H'):Same H (utk H' L)/\∀a o,L.lookup a=some o->H' a=some (BI a o) :=
 ⟨λ a o e=>by
  have n:=Dv hL e;rw[Bj n];exact s _ _ (by rw[AR n];exact e),λ a o e=>s _ _ (FX e)⟩
theorem IM{H:Hp}{L:PNz}{a:Addr}{u:HO}(hL:∀a o,L.lookup a=some o->H a=some (BI a o))(e:H a=some u)(n:∀o,u≠BI a o):utk H L a=some u:=by rw[Bj (DI hL e n)];exact e
theorem HOk.thaw{P:Program}{w:World}{H:Hp}{h:Heap}{a:Addr}{ob:Obj}{u:HO}(ok:HOk P w H h)(e:H a=some (.frz ob u)):HOk P w (upd H a u) h:=λ b v q=>by
 have ho:∀b y,H b=some (.own y)->(upd H a u) b=some (.own y):=λ b y z=>by rw[Ae (λ c=>by rw[c,e]at z;cases z)];exact z
 have ht:∀b xs,H b=some (.tup xs)->(upd H a u) b=some (.tup xs):=λ b xs z=>by rw[Ae (λ c=>by rw[c,e]at z;cases z)];exact z
 by_cases hb:b=a
 .subst hb;rw[upd_same]at q;cases q;exact(show h.get? b=some ob/\ObjOk P w H h b u from ok b _ e).2.stay (λ_ _ _ r=>r) (λ c r=>ho c _ r) ht
 .rw[Ae hb]at q;exact(ok b v q).stay (λ_ _ _ r=>r) (λ c r=>ho c _ r) ht
theorem Inv.thaw{X:Cx}{pins:PNz}{σ:St}{H:Hp}{s:Shared}{a:Addr}{ob:Obj}{u:HO}(I:Inv X pins σ H s)(e:H a=some (.frz ob u))(n:∀o v,X.H₀ a≠some (.frz o v)):Inv X pins σ (upd H a u) s:=by
 have ne:∀{b:Addr},H b=none->b≠a:=λ z c=>by rw[c,e]at z;cases z
 refine⟨I.ok,I.os,I.bare,⟨I.base.keep,I.base.slot,λ b o q r hx=>?_,I.base.there,λ b xs q=>?_,λ b o v q=>?_,λ b ps q=>?_⟩,I.loc,I.cell,?_,λ x c q=>?_,λ p hp=>?_,I.hok.thaw e,I.len⟩
 .have:=I.base.free b o q r hx;rw[Ae (ne this)];exact this
 .have:=I.base.tups b xs q;rw[Ae (λ c=>by rw[c,e]at this;cases this)];exact this
 .have:=I.base.frzs b o v q;rw[Ae (λ c=>by rw[c]at q;exact n o v q)];exact this
 .obtain⟨more,this⟩:=I.base.tbls b ps q;exact⟨more,by rw[Ae (λ c=>by rw[c,e]at this;cases this)];exact this⟩
 .rw[Ae (ne I.free)];exact I.free
 .rw[Ae (ne (I.freeC x c q))];exact I.freeC x c q
 .obtain⟨p1,p2,p3⟩:=I.pin p hp;exact⟨p1,by rw[Ae (ne p2)];exact p2,p3⟩
def RF(H₀:Hp)(te:TE):TE:=λ σ H Q=>te σ H λ v H'=>∃(a:Addr)(ob:Obj)(u:HO),H' a=some (.frz ob u)/\(∀o w,H₀ a≠some (.frz o w))/\Q v (upd H' a u)
theorem PP{X:Cx}{e:Expr}{te:TE}(h:PE X e te):PE X e (RF X.H₀ te):=by
 intro pins s σ H Q I q;refine thn (h pins s σ H _ I q) λ u s1 ⟨x,H1,I1,rx,a,ob,w,ea,n,q1⟩=>⟨x,_,I1.thaw ea n,rx,q1⟩
theorem JC{a:Addr}{ob:Obj}{kvs:LKz}{g:TG}{tc:TT}{te:TE}{σ:St}{H1:Hp}{acc:Addr}{Qr:Hp->Prop}(Pv:Nat->LUz->St->Hp->Prop)(h0:Pv 0 [] σ (upd H1 acc (.lst [])))
  (hq:∀i xs σ H,i<=kvs.length->H acc=some (.lst xs)->Pv i xs σ H->H a=some (.frz ob (.dT kvs)))
  (hs:∀i p t b xs σ H,kvs[i]?=some p->i<kvs.length->xs.length<=i->H acc=some (.lst xs)->Pv i xs σ H->H b=some (.tup (p.1.map kV))->H t=none->g (.ref t) σ (upd H t (.tup [.ref b,p.2])) λ σ2 H2=>tc σ2 H2 λ b Hb=>match b with
   |true=>te σ2 Hb λ v H3=>fNx acc kvs.length Pv i σ2 v H3
   |false=>fSk acc kvs.length Pv i σ2 Hb)
  (hd:∀xs σ H,xs.length<=kvs.length->H acc=some (.lst xs)->Pv kvs.length xs σ H->Qr H) :
  ∃W:Nat->Nat->St->Hp->Prop,(∃m,W 0 m σ (upd H1 acc (.lst [])))/\∀i m σ1 H2,W i m σ1 H2 ->
   ((Itn a ob).stop i H2/\Qr H2)\/((Itn a ob).go i H2/\∀x H3,(Itn a ob).yld i H2 x H3->g x σ1 H3 λ σ4 H4=>tc σ4 H4 λ b Hb=>match b with
    |true=>te σ4 Hb λ v H5=>∃xs,H5 acc=some (.lst xs)/\xs.length<sizeLine/\∃m',m'<m/\W (i+1) m' σ4 (upd H5 acc (.lst (xs++[v])))
    |false=>∃m',m'<m/\W (i+1) m' σ4 Hb):=by
 refine⟨fW acc kvs.length Pv,⟨kvs.length,Nat.zero_le _,rfl,[],Nat.le_refl _,upd_same,h0⟩,?_⟩;rintro i m σ1 H2 ⟨hi,rfl,xs,hl,ha,hp⟩;have hsq:=hq i xs σ1 H2 hi ha hp;rcases Nat.lt_or_ge i kvs.length with h|h
 .refine .inr ⟨⟨kvs,kvs[i],hsq,List.getElem?_eq_getElem h⟩,?_⟩;rintro x H3 ⟨t,b,z,hz,hb,rfl,ht,rfl⟩;exact hs i z t b xs σ1 _ (hz kvs hsq) h hl ha hp hb ht
 .have e:i=kvs.length:=Nat.le_antisymm hi h;subst e;exact .inl ⟨⟨kvs,hsq,Nat.le_refl _⟩,hd xs σ1 H2 hl ha hp⟩
theorem MM{X:Cx}{K:Frag}{e:Expr}{f:Str}{pos:Pos}{ta:TE}(he:PE X e ta)(hb:attributeBase e f X.env (eval e X.env)=eval e X.env)(hK:X.K=K:=by rfl):PE X (.Attribute e f pos) (RK K ta f):=by subst hK;exact Bo he hb
def QQ(tk tv:TE):TE:=λ σ H Q=>∀p,H p=none->tk σ (upd H p (.dT [])) λ x H1=>tv σ H1 λ y H2=>H2 p=some (.dT [])/\∃(b:Addr)(ks:List Key),x=.ref b/\H2 b=some (.tup (ks.map kV))/\Q (.ref p) (upd H2 p (.dT [(ks,y)]))
theorem OD{X:Cx}{pos:Pos}{k v:Expr}{tk tv:TE}(hu:X.A.units+1<cLine)(hk:PE X k tk)(hv:PE X v tv):PE X (.Dict [some k] [v] pos) (QQ tk tv):=by
 intro pins s σ H Q I q;have hn:=I.hok.fresh (Nat.le_refl s.heap.objs.size);have I1:=I.laid (a:=s.heap.objs.size) (o:=.dT []) (h':=s.heap.push { cls:=.type "dict",data:=.dict #[] }) (t':=s.toks) (λ_ _ q=>Heap.get?_push_of_some _ q) (Nat.le_refl _) (Pg s.heap I.big);have hp:PPs X pos [some k] [v] [(tk,tv)]:=E4 hk hv MJ;have hl:=pairTrees_length [some k] [v] X.env pos rfl rfl;have hl1:(pairTrees [some k] [v] X.env pos).length=1:=hl;rw[arm_eval_Dict,zip_pairTrees [some k] [v] X.env pos rfl rfl,dictDisplay_pairs _ (λ z=>by rw[z]at hl1;simp at hl1) (by lia)];refine wpAny_bind (wpAny_standAt (wpAny_bind ?_));unfold subDict;refine wpAny_bind (wpAny_alloc ?_);refine wpAny_bind (wpAny_holding ?_);rw[if_pos (by lia)];refine wpAny_bind (thn (hp pins _ σ _ (λ ps H2=>match ps with
  |[(x,y)]=>H2 s.heap.objs.size=some (.dT [])/\∃(b:Addr)(ks:List Key),x=.ref b/\H2 b=some (.tup (ks.map kV))/\Q (.ref s.heap.objs.size) (upd H2 s.heap.objs.size (.dT [(ks,y)]))
  |_=>False) I1 (q _ hn)) λ ws s2 ⟨ps,H2,I2,rel,z⟩=>?_)
 cases rel with
 |nil=>exact z.elim
 |@cons p u _ _ hxy r0 =>
  cases r0 with
  |cons _ _=>exact z.elim
  |nil =>
   obtain⟨x,y⟩:=p;obtain⟨e,b,ks,ex,eb,q2⟩:=z;obtain⟨u1,u2⟩:=u;subst ex;obtain⟨rx,ry⟩:=hxy;cases(show u1=Value.ref b from rx);obtain⟨z0,hd,xs,rel0,dd⟩:=QA I2.hok e;cases rel0;refine wpAny_holding ?_;rw[List.forIn_cons];refine wpAny_bind (wpAny_bind (wpAny_bind (wpAny_dictSet_heap (knd:=tupleKind (AS X.prog X.w)) (show X.A.units<cLine by lia) (Jt I2.hok eb) dd (λ h' dd' hs=>wpAny_pure ?_) (Nat.zero_le _))));dsimp only;rw[List.forIn_nil];refine wpAny_pure (wpAny_pure (wpAny_pure (wpAny_pure ⟨.ref s.heap.objs.size,_,?_,rfl,q2⟩)));obtain⟨o,es,ep,hq,h2,h3,h4,_,h5⟩:=dd';refine FR I2 (by rw[e];exact True.intro) hs ⟨o,hq⟩ ⟨(show 1<=sizeLine from by decide),hd,_,(KT.put (kvs:=[]) (xs:=[]) .nil ks eb ry).keeps λ c ys ec=>?_,o,es,ep,hq,h2,h3,h4,h5⟩;rw[Ae (MP ec e (λ z=>nomatch z))];exact ec
structure Iu(P:Program)(w:World)(K:Frag)(mg:MGz)(base:Heap)(k:Nat)(C:Addr)(m:Str)(ps:LSz)(sp:Sp):Prop where
 cl:Cls K C
 ex:∃(f:Addr)(fd:FuncData),Pu K C m f/\A8 P w K mg base (CX1 P w) k f fd ps sp/\Binds K fd ps []
section
variable{X:Cx}{k j:Nat}{x m:Str}{C:Addr}{ps:LSz}{sp:Sp}{p pos apos:Pos}{e o:Expr}{es:List Expr}{t:TA}{ta:TE}{E₁:XK}
theorem QZ{pl:Sem Bool}(D:Iu X.prog X.w X.K X.mg X.base k C m ps sp)(hr:Room j X.A)(hx:C7 (CX1 X.prog X.w) X E₁)(he:PE X o ta)(ha:PA X (e::es) t)(hj:k<=j:=by decide)
    (hst:starEach (e::es) X.env=(false,eval e X.env)::starEach es X.env:=by rfl) (hpl:(backTo pos (starEach es X.env)).any (·.1)=false:=by rfl)
    (ht:eval (.Call (.Attribute o m apos) (e::es) [] pos) X.env=(do
      let ov <-eval o X.env
      standAt apos.atName
      let (f,first) <-holding [ov] (getMethod ov m pl)
      callWith pos f first (backTo pos (starEach (e::es) X.env)) (backToKw pos (keywordEach [] X.env))):=by rfl):PE X (.Call (.Attribute o m apos) (e::es) [] pos) (JZ C m sp [] E₁ ta t):=by
  obtain⟨f,fd,M,F,hb⟩:=D.ex;exact PQ he D.cl M F (hr.mono hj) hb .nil hx ha hst hpl ht
end
structure FunF(K:Frag)(x qual:Str)(st:Stmt)(f:Addr)(fd:FuncData)(dv:Value):Prop where
 ex:∃(oc:Value)(od:Option Addr)(T:Addr)(kV doc pm:Value)(an:Option Addr)(cdv ct:Value)(osl:AOz)(o:Obj)(n:Nat),
  fd=fnOf x qual (Ba st) (A4 st) (Ag st) (.ref T) kV doc pm an cdv ct/\K.lookup f=some ⟨oc,od,.func fd,osl⟩/\codeIn K cdv qual=true/\K.lookup T=some o/\o.data=.seq #[dv] n
 kp:keepIn K (.ref f)=true
theorem FunF.okx{P:Program}{w:World}{K:Frag}{mg:MGz}{base:Heap}{x qual:Str}{st:Stmt}{f:Addr}{fd:FuncData}{dv:Value}{N ps:LSz}{k:Nat}{sp:Sp}(F:FunF K x qual st f fd dv)(S:Aq N ps (Ag st))(len:∀vs H Q E,sp vs H Q E->vs.length=ps.length)
  (hbody:∀(cdv:Value)(A:Around)(outer:List Env)(s:Shared)(H:Hp)(vs:LUz)(Q:VK)(E:XK),Room k (A.deeper (envOfC qual (Ag st) s.heap.objs.size f cdv))->sp vs H Q E ->
   ∃t,PSs (Cd (CX1 P w) P w K mg base N qual (Ag st) f cdv A outer s H E) (A4 st) t/\t { nx:=λ_ H'=>Q .non H',rt:=Q } (start N vs) H):A8 P w K mg base (CX1 P w) (k+1) f fd ps sp:=by
 obtain⟨oc,od,T,kV,doc,pm,an,cdv,ct,osl,o,n,rfl,lk,hcd,lT,dT⟩:=F.ex;exact KD lk hcd S len λ A outer s H vs Q E hr hsp=>hbody cdv A outer s H vs Q E hr hsp
theorem FunF.binds{K:Frag}{x qual:Str}{st:Stmt}{f:Addr}{fd:FuncData}{dv:Value}{ps:LSz}{ds:LWz}(F:FunF K x qual st f fd dv)
  (h:∀(T:Addr)(kV doc pm:Value)(an:Option Addr)(cdv ct:Value)(us:LWz),(us++ds).length=ps.length->∃k:Option (Array Value)->Sem (List (Str×Value)),
   bindArgs (fnOf x qual (Ba st) (A4 st) (Ag st) (.ref T) kV doc pm an cdv ct) ⟨us,[]⟩=seqItems? (.ref T) >>= k/\k (some #[dv])=pure (ps.zip (us++ds))):Binds K fd ps ds:=by
 obtain⟨oc,od,T,kV,doc,pm,an,cdv,ct,osl,o,n,rfl,lk,hcd,lT,dT⟩:=F.ex;intro s us X hl;obtain⟨k,h1,h2⟩:=h T kV doc pm an cdv ct us hl;exact .of_defaults rfl (X _ _ lT) dT h1 h2
section
variable{X:Cx}{k j:Nat}{x m:Str}{C:Addr}{ps:LSz}{sp:Sp}{p pos apos:Pos}{e o:Expr}{es:List Expr}{t:TA}{ta:TE}{E:XK}
theorem RZ{pl:Sem Bool}(D:Iu X.prog X.w X.K X.mg X.base k C m ps sp)(hr:Room j X.A)(ho:PE X.nox o ta)(ha:PA X.nox (e::es) t)(hj:k<=j:=by decide)
    (hst:starEach (e::es) X.env=(false,eval e X.env)::starEach es X.env:=by rfl) (hpl:(backTo pos (starEach es X.env)).any (·.1)=false:=by rfl)
    (ht:eval (.Call (.Attribute o m apos) (e::es) [] pos) X.env=(do
      let ov <-eval o X.env
      standAt apos.atName
      let (f,first) <-holding [ov] (getMethod ov m pl)
      callWith pos f first (backTo pos (starEach (e::es) X.env)) (backToKw pos (keywordEach [] X.env))):=by rfl):PX X (.Call (.Attribute o m apos) (e::es) [] pos) (JZ C m sp [] E ta t) E:=by
  obtain⟨f,fd,M,F,hb⟩:=D.ex;intro pins s σ H Q Ex I h hx;refine methodCall_KW (pl:=pl) (wpAny_mono (ho pins s σ H _ (I.wish _) h) (λ u s1 hz_=>?_) λ_ _ z=>False.elim z) ht;obtain⟨y,H1,I1',rx,a,dx,fs,ex,ea,l,q⟩:=hz_;have I1:Inv X pins σ H1 s1:=I1'.unwish;subst ex;obtain rfl:u=Value.ref a:=rx;refine Eh I1 ea D.cl M l ?_;refine callWith_K (first:=[.ref a]) (h₀:=X.base) I.ok.mod.kin M.kp (wpAny_mono (ha pos pins s1 σ H1 _ (I1.wish _) q) (λ us s2 ⟨vs,H2,I2',r,q2⟩=>⟨I2'.unwish.kIn,?_⟩) λ_ _ z=>False.elim z) hst hpl;have I2:Inv X pins σ H2 s2:=I2'.unwish;have q2:sp ((.ref a::vs)++[]) H2 Q E:=q2;rw[List.append_nil]at q2;have r2:Vals (.ref a::vs) (Value.ref a::us):=.cons rfl r;have hl:(Value.ref a::us).length=ps.length:=by rw[<-r2.length];exact F.len _ _ _ _ q2
  have hb2:=hb s2 (Value.ref a::us) I2.kIn (by rw[List.append_nil];exact hl);rw[List.append_nil]at hb2;refine wpAny_call (codeAny_mono (F.run X.A X.stack s2 H2 ⟨Value.ref a::us,[]⟩ (Value.ref a::us) (.ref a::vs) Q E (hr.mono hj) I2.env0 hb2 r2 q2) λ r s' hq=>?_);cases r with
  |error e =>
    obtain⟨x,T,C,d,H',rfl,os,bare,un,hok,fl,q'⟩:=hq;exact hx x T C d H' s' (I2.call' (ch:=[]) os un hok bare (λ b z=>absurd z (by simp))) fl q'
  |ok fl =>
    cases fl with
    |ret u=>exact I2.after hq
    |next=>exact False.elim hq
    |brk=>exact False.elim hq
    |cont=>exact False.elim hq
end
def RR(K:Frag)(i:Nat)(G:Addr)(te:XK->TE)(ts:TS):TS:=λ D σ H=>∃E₁:XK,te E₁ σ H (λ v H1=>D.nx (σ.set i (some v)) H1) /\
 ∀x C d T T2 H',E₁ (.ref x) d H'->DC H' x C d T->H' T2=none->T2≠x->mroIn K C (.ref G)=some true/\ts D σ (AD H' x C d T2)
section
variable{X:Cx}{i:Nat}{n g:Str}{G:Addr}{value:Expr}{b₀:Stmt}{suite:List Stmt}{np apos gp hpos pos:Pos}{te:XK->TE}{ts:TS}
theorem LD(hN:X.N.Nodup)(hi:X.N[i]?=some n)(hx:Loc X.env.scope n)(he:∀E,PX X value (te E) E)(hgl:Gl X g)(hg:X.mg g=some (.ref G))
  (hG:∃fI,C6 X.K G fI=true) (hst:X.stack=X.env::X.outer) (hfr:X.env.frame=some X.env.locals) (hs:∀x,PSs (X.suite x) (b₀::suite) ts)
  (hsw:swapsWith value (some (.Name n np)) apos.line X.env=pure false:=by rfl) (hf:X.fn n=true\/X.env.scope.names.lookup n=some .local:=by first|exact .inl rfl|exact .inr rfl|assumption) (hdb:(g==("__debug__":Str))=false:=by decide) :
  PS X (.Try [.Assign [.Name n np] value apos] [.ExceptHandler (some (.Name g gp)) none (b₀::suite) hpos] [] [] pos) (RR X.K i G te ts):=by
 intro pins s σ H D I ⟨E₁,h,hh⟩;obtain⟨fI,hG⟩:=hG;rw[arm_exec_Try];refine wpAny_bind (wpAny_standAt (wpAny_tryStmt_except ?_));refine wpAny_execs_cons (wpAny_Assign_Name (thn (he E₁ pins s σ H _ _ I h λ x T C d H' s' I' fl q=>?_) λ v s1 ⟨y,H1,I1,r1,q1⟩=>?_) hsw)
 .refine Fq I' hst hfr (.inr ⟨T,fl⟩) λ h' T2 hT2 nT2 I2=>?_;obtain⟨hsub,hts⟩:=hh x C d T T2 H' q fl hT2 nT2;have fl2:DC (AD H' x C d T2) x C d T2:=⟨Dh,Ey nT2,nT2⟩;obtain⟨⟨vs,sl,e1,e2⟩,_⟩:=(show ObjOk X.prog X.w (AD H' x C d T2) h' x (JO C d x T2) from I2.hok x _ fl2.1);obtain⟨⟨o,tv,f1,f2,f3⟩,_⟩:=(show ObjOk X.prog X.w (AD H' x C d T2) h' T2 (TbO T2) from I2.hok T2 _ fl2.2.1);refine wpAny_handleBy_cons (codeAny_handlers_test (DM (X:=X.suite x) (I2.suite x) hgl hg (LV I2.kIn hG e1 hsub ?_) hdb)) (by intro z;cases z);show codeAny _ _ _ _ _;refine codeAny_handlers_suite (GC e1 e2 f1 f2 (Array.getElem?_eq_some_iff.mp f3).1 λ h3 k3 t3=>?_);have same:upd (AD H' x C d T2) T2 (TbO T2)=AD H' x C d T2:=funext λ b=>by
   by_cases z:b=T2
   .rw[z,upd_same,Ey nT2]
   .rw[Ae z]
  have I3:Inv X pins σ (AD H' x C d T2) { s' with heap:=h3 }:=by
   have:=I2.write (x:=T2) (e:=T2) (h':=h3) (o:=TbO T2) (t':=s'.toks) (by rw[fl2.2.1];exact True.intro) (.inl rfl) (λ b u nb z=>(k3 b nb).trans z) (let ⟨o,_,e,_⟩:=t3;⟨o,e⟩) (Lw t3);rw[same]at this;exact this
  refine wpAny_mono (hs x pins _ _ _ D (I3.suite x) hts) (λ fl s5 q5=>?_) λ_ _ z=>False.elim z;cases fl with
  |next=>obtain⟨σ',H5,I5,q⟩:=q5;exact⟨_,H5,I5.unsuite (ok:=I.ok),q⟩
  |brk=>obtain⟨σ',H5,I5,q⟩:=q5;exact⟨_,H5,I5.unsuite (ok:=I.ok),q⟩
  |cont=>obtain⟨σ',H5,I5,q⟩:=q5;exact⟨_,H5,I5.unsuite (ok:=I.ok),q⟩
  |ret u=>obtain⟨v,σ',H5,I5,r,q⟩:=q5;exact⟨v,_,H5,I5.unsuite (ok:=I.ok),r,q⟩
 .exact FY I1 hN hi hx r1 (λ s2 I2=>wpAny_execs_nil (wpAny_execs_nil ⟨_,H1,I2,q1⟩)) hf
end
end L2
namespace K72
open PySem.W
open PySem L2
def top(i:Nat):Stmt:=PySem.Challenge.pw_glazebench_k72_whole_no_glass_lost.main.body.getD i (.Pass ⟨0,0,0,0⟩)
abbrev Cl:Stmt:=A3 (top 4) 0
abbrev Cm:Stmt:=A3 (top 6) 0
abbrev DY:Stmt:=top 9
abbrev EX:Stmt:=top 10
abbrev EW:Stmt:=top 11
abbrev EY:Stmt:=top 12
abbrev Cz:Stmt:=top 13
abbrev Br:Stmt:=A3 (top 19) 0
abbrev Ck:Stmt:=A3 (top 20) 0
abbrev CT:Stmt:=A3 (top 21) 0
abbrev Eb:Stmt:=top 25
abbrev Dl:Stmt:=top 26
abbrev CO:Stmt:=top 27
abbrev Cy:Stmt:=top 29
abbrev Cw:Stmt:=top 30
abbrev Cv:Stmt:=top 32
abbrev Dk:Stmt:=top 33
abbrev DZ:Stmt:=top 36
abbrev Cj:Stmt:=top 37
abbrev IU:Stmt:=top 40
abbrev Ea:Stmt:=top 41
abbrev AT:Stmt:=top 42
abbrev CU:Stmt:=A3 (top 43) 0
abbrev Bm:Stmt:=A3 (top 43) 1
abbrev BD:Stmt:=A3 (top 43) 2
abbrev BV:Stmt:=A3 (top 43) 3
abbrev Cn:Stmt:=A3 (top 43) 4
abbrev C1:Stmt:=A3 (top 43) 5
abbrev BB:Stmt:=A3 (top 43) 6
abbrev B6:Stmt:=A3 (top 43) 7
abbrev Dq:Stmt:=top 45
abbrev Dp:Stmt:=top 46
abbrev BA:Stmt:=top 47
abbrev Dn:Stmt:=top 48
abbrev CP:Stmt:=top 49
abbrev Dm:Stmt:=top 50
abbrev C0:Stmt:=top 51
abbrev Do:Stmt:=top 52
abbrev Dr:Stmt:=top 53
abbrev CS:Stmt:=top 54
abbrev CQ:Stmt:=top 55
abbrev B9:Stmt:=top 56
abbrev Bu:Stmt:=top 57
theorem nw{H:Hp}{c:Addr}(o:HO)(n:H c=none):∃G,upd H c o=G/\Same H G/\G c=some o:=⟨_,rfl,Same.new n,upd_same⟩
def Ai{α:Type}(ts:List (Addr×α)):LUz:=ts.map λ t=>V.ref t.1
theorem AC{α:Type}{ts:List (Addr×α)}{i:Nat}{x:V}(h:(Ai ts)[i]?=some x):∃u,ts[i]?=some u/\x=.ref u.1:=by
 rw[Ai,List.getElem?_map]at h;cases e:ts[i]? with
 |none=>rw[e]at h;cases h
 |some u=>rw[e]at h;exact⟨u,rfl,(Option.some.inj h).symm⟩
theorem Al{α:Type}(ts:List (Addr×α)):(Ai ts).length=ts.length:=List.length_map ..
theorem EC{xs:List Int}{i:Nat}{x:V}(h:(xs.map V.int)[i]?=some x):∃z,xs[i]?=some z/\x=.int z:=by
 rw[List.getElem?_map]at h;cases e:xs[i]? with
 |none=>rw[e]at h;cases h
 |some z=>rw[e]at h;exact⟨z,rfl,(Option.some.inj h).symm⟩
theorem Cq{H H':Hp}(s:Same H H'){a:Addr}(h:H' a=none):H a=none:=by
 cases q:H a with
 |none=>rfl
 |some o=>rw[s a o q]at h;cases h
def wd(u:Bool):Str:=if u=true then "upright" else "level"
theorem Cu(u v:Bool):decide (V.str (wd u)=V.str (wd v))=(u==v):=by cases u<;>cases v<;>decide +kernel
theorem Eu(u:Bool):decide (V.str (wd u)=V.str "whole")=false:=by cases u<;>decide +kernel
inductive Tr where
 |whole (m:Option Int)
 |cut (u:Bool) (k:Int) (x y:Tr)
def Tr.dp:Tr->Nat
 |.whole _=>0
 |.cut _ _ x y=>max x.dp y.dp+1
def Tr.sz:Tr->Nat
 |.whole _=>1
 |.cut _ _ x y=>x.sz+y.sz
def Bl:Option Int->V
 |none=>.non
 |some i=>.int i
def Told(H:Hp):Tr->V->Prop
 |.whole m,v=>∃a,v=.ref a/\H a=some (.tup [.str "whole",Bl m])
 |.cut u k x y,v=>∃a vx vy,v=.ref a/\H a=some (.tup [.str (wd u),.int k,vx,vy])/\Told H x vx/\Told H y vy
theorem Told.same{H H':Hp}(s:Same H H'):∀{t:Tr}{v:V},Told H t v->Told H' t v
 |.whole m,v,h=>by
  rw[Told]at h |-;obtain⟨a,e,h⟩:=h;exact⟨a,e,s _ _ h⟩
 |.cut u k x y,v,h=>by
  rw[Told]at h |-;obtain⟨a,vx,vy,e,h,h1,h2⟩:=h;exact⟨a,vx,vy,e,s _ _ h,Told.same s h1,Told.same s h2⟩
def Fit:Tr->Int->Int->Prop
 |.whole _,_,_=>True
 |.cut u k x y,w,h=>if u=true then (1<=k/\k<w/\Fit x k h/\Fit y (w-k) h) else (1<=k/\k<h/\Fit x w k/\Fit y w (h-k))
theorem Fg:∀{t:Tr}{w h:Int},1<=w->1<=h->Fit t w h->(t.dp:Int)+2<=w+h
 |.whole _,w,h,hw,hh,_=>by show((0:Nat):Int)+2<=_;lia
 |.cut u k x y,w,h,hw,hh,f=>by
  rw[Fit]at f;show((max x.dp y.dp+1:Nat):Int)+2<=_;cases u with
  |true =>
   obtain⟨a,b,c,d⟩:=f;have:=Fg a hh c;have:=Fg (by lia) hh d;lia
  |false =>
   obtain⟨a,b,c,d⟩:=f;have:=Fg hw a c;have:=Fg hw (by lia) d;lia
theorem Ej:∀{t:Tr}{w h:Int},1<=w->1<=h->Fit t w h->(t.sz:Int)<=w*h
 |.whole _,w,h,hw,hh,_=>by
  show((1:Nat):Int)<=_;have:=Int.mul_le_mul hw hh (by lia) (by lia);lia
 |.cut u k x y,w,h,hw,hh,f=>by
  rw[Fit]at f;show((x.sz+y.sz:Nat):Int)<=_;cases u with
  |true =>
   obtain⟨a,b,c,d⟩:=f;have h1:=Ej a hh c;have h2:=Ej (by lia) hh d;rw[Int.sub_mul]at h2;lia
  |false =>
   obtain⟨a,b,c,d⟩:=f;have h1:=Ej hw a c;have h2:=Ej hw (by lia) d;rw[Int.mul_sub]at h2;lia
theorem Bz{x0 x1:V}:atI [x0,x1] 0=some x0:=rfl
theorem By{x0 x1:V}:atI [x0,x1] 1=some x1:=rfl
theorem Su{j:Int}(z:Int)(h:0<j)(h2:j<18446744073709551616):QH z j:=⟨h,Nat.lt_trans (G2 (k:=64) (by decide) (by lia)) (by decide)⟩
theorem Ic{a b:Int}(h1:-18446744073709551616<a)(h2:a<18446744073709551616)(h3:-18446744073709551616<b)(h4:b<18446744073709551616):IntMulOk a b:=by
 have c:(2:Nat)^128=340282366920938463463374607431768211456:=by decide +kernel
 refine OI ?_ ?_<;>rw[c]<;>lia
theorem R3{L:LUz}{i:Int}(h0:0<=i)(h1:i<L.length):∃v,atI L i=some v/\v∈L:=by
 have h:i.toNat<L.length:=by lia
 have e:=B3 (List.getElem?_eq_getElem h);rw[Int.toNat_of_nonneg h0]at e;exact⟨_,e,List.getElem_mem h⟩
theorem Qt{ns:List Int}{k:Int}(h0:0<=k)(h1:k<(ns.length:Int)):∃z,atI (ns.map V.int) k=some (.int z):=by
 have hk:k.toNat<ns.length:=by lia
 have hz:(ns.map V.int)[k.toNat]?=some (.int ns[k.toNat]):=by rw[List.getElem?_map,List.getElem?_eq_getElem hk];rfl
 have e:=B3 hz;rw[Int.toNat_of_nonneg h0]at e;exact⟨_,e⟩
theorem QJ{H:Hp}{a:Addr}{xs:LUz}(h:H a=some (.tup xs)):tyS H (.ref a)=some "tuple":=by
 show tyO (H a)=some "tuple";rw[h];rfl
theorem at0{x0 x1 x2 x3:V}:atI [x0,x1,x2,x3] 0=some x0:=rfl
theorem at1{x0 x1 x2 x3:V}:atI [x0,x1,x2,x3] 1=some x1:=rfl
theorem at2{x0 x1 x2 x3:V}:atI [x0,x1,x2,x3] 2=some x2:=rfl
theorem at3{x0 x1 x2 x3:V}:atI [x0,x1,x2,x3] 3=some x3:=rfl
theorem Nm{x0 x1 x2:V}:atI [x0,x1,x2] 0=some x0:=rfl
theorem Nl{x0 x1 x2:V}:atI [x0,x1,x2] 1=some x1:=rfl
theorem Sx{x0 x1 x2:V}:atI [x0,x1,x2] 2=some x2:=rfl
theorem R1{x:V}{r:LUz}:atI (x::r) 0=some x:=B3 (xs:=x::r) (j:=0) (v:=x) rfl
inductive Iy(vs:LUz)(H:Hp)(Q:VK)(E:XK):Prop
 |mk (i:Int) (h0:vs=[.int i]) (h1:Q (.bl true) H):Iy vs H Q E
def Ka:Sp:=λ vs H Q E=>Iy vs H Q E
inductive Lk(vs:LUz)(H:Hp)(Q:VK)(E:XK):Prop
 |mk (i:Int) (h0:vs=[.int i]) (h1:1<=i) (h2:i<=12) (h3:Q (.bl true) H):Lk vs H Q E
def IQ:Sp:=λ vs H Q E=>Lk vs H Q E
inductive IA(vs:LUz)(H:Hp)(Q:VK)(E:XK):Prop
 |mk (w h:Int) (h0:vs=[.int w,.int h]) (h1:1<=w) (h2:w<=12) (h3:1<=h) (h4:h<=12) (h5:∀H',Same H H'->Q .non H'):IA vs H Q E
def Kc:Sp:=λ vs H Q E=>IA vs H Q E
inductive Lo(K:Frag)(vs:LUz)(H:Hp)(Q:VK)(E:XK):Prop
 |mk (a:Addr) (ns:List Int) (k:Int) (h0:vs=[.ref a,.int k]) (h1:SqL K H a (ns.map V.int)) (h2:0<=k) (h3:∀z,Q (.int z) H):Lo K vs H Q E
def MC(K:Frag) :Sp:=λ vs H Q E=>Lo K vs H Q E
inductive Ln(vs:LUz)(H:Hp)(Q:VK)(E:XK):Prop
 |mk (c n m:Int) (h0:vs=[.int c,.int n,.int m]) (h1:0<=n) (h2:n<=1000) (h3:0<m) (h4:∀r,0<=r->r<m->Q (.int r) H):Ln vs H Q E
def IS:Sp:=λ vs H Q E=>Ln vs H Q E
inductive En where
 |w (m:Option Int)
 |c (u:Bool) (k:Int)
def enV:En->LUz
 |.w m=>[.str "whole",Bl m]
 |.c u k=>[.str (wd u),.int k]
abbrev Rk:=GB.Rc
abbrev LZ:=List (Addr×Int×Int)
abbrev LI:=List (Int×Int)
abbrev LA:=List (Addr×V)
abbrev LR:=List (Int×Rk×Option Int)
abbrev LK:=List (Int×Rk)
abbrev Rk.vs(p:Rk):LUz:=[.int p.t,.int p.l,.int p.b,.int p.r]
def Rk.len(p:Rk)(u:Bool):Int:=if u then p.r-p.l else p.b-p.t
def Rk.fst(p:Rk)(u:Bool)(k:Int):Rk:=if u then ⟨p.t,p.l,p.b,p.l+k⟩ else ⟨p.t,p.l,p.t+k,p.r⟩
def Rk.oth(p:Rk)(u:Bool)(k:Int):Rk:=if u then ⟨p.t,p.l+k,p.b,p.r⟩ else ⟨p.t+k,p.l,p.b,p.r⟩
def BN(p:Rk)(t:Tr):Prop:=Fit t (p.r-p.l) (p.b-p.t)
theorem CJ{p:Rk}{u:Bool}{k:Int}{x y:Tr}:BN p (.cut u k x y)↔(1<=k/\k<p.len u)/\BN (p.fst u k) x/\BN (p.oth u k) y:=by
 unfold BN Rk.len Rk.fst Rk.oth;rw[Fit];cases u with
 |true =>
  show(1<=k/\k<p.r-p.l/\Fit x k (p.b-p.t)/\Fit y (p.r-p.l-k) (p.b-p.t))↔((1<=k/\k<p.r-p.l)/\Fit x (p.l+k-p.l) (p.b-p.t)/\Fit y (p.r-(p.l+k)) (p.b-p.t));rw[show p.l+k-p.l=k by lia,show p.r-(p.l+k)=p.r-p.l-k by lia];exact⟨λ⟨a,b,c,d⟩=>⟨⟨a,b⟩,c,d⟩,λ⟨⟨a,b⟩,c,d⟩=>⟨a,b,c,d⟩⟩
 |false =>
  show(1<=k/\k<p.b-p.t/\Fit x (p.r-p.l) k/\Fit y (p.r-p.l) (p.b-p.t-k))↔((1<=k/\k<p.b-p.t)/\Fit x (p.r-p.l) (p.t+k-p.t)/\Fit y (p.r-p.l) (p.b-(p.t+k)));rw[show p.t+k-p.t=k by lia,show p.b-(p.t+k)=p.b-p.t-k by lia];exact⟨λ⟨a,b,c,d⟩=>⟨⟨a,b⟩,c,d⟩,λ⟨⟨a,b⟩,c,d⟩=>⟨a,b,c,d⟩⟩
abbrev DO:=Int×Int×Bool
def WOk(t:DO):Prop:=1<=t.1/\t.1<=12/\1<=t.2.1/\t.2.1<=12
def BU(t:DO):LI:=if t.2.2=true then [(t.1,t.2.1),(t.2.1,t.1)] else [(t.1,t.2.1)]
def TupL(H:Hp)(l:Addr)(zs:LI):Prop:=∃ts:LZ,H l=some (.lst (Ai ts))/\(∀t∈ts,H t.1=some (.tup [.int t.2.1,.int t.2.2]))/\ts.map (·.2)=zs
theorem TupL.same{H H':Hp}{l:Addr}{zs:LI}(h:TupL H l zs)(s:Same H H'):TupL H' l zs :=
 let ⟨ts,a,b,c⟩:=h;⟨ts,s _ _ a,λ t ht=>s _ _ (b t ht),c⟩
def Bh(t:DO)(w h:Int):LI:=(BU t).filter λ z=>decide (z.1<=w)&&decide (z.2<=h)
inductive Lj(vs:LUz)(H:Hp)(Q:VK)(E:XK):Prop
 |mk (a:Addr) (t:DO) (h0:vs=[.ref a]) (h1:H a=some (.tup [.int t.1,.int t.2.1,.bl t.2.2])) (h2:∀l H',Same H H'->H l=none->TupL H' l (BU t)->Q (.ref l) H'):Lj vs H Q E
def M9:Sp:=λ vs H Q E=>Lj vs H Q E
inductive Iz(vs:LUz)(H:Hp)(Q:VK)(E:XK):Prop
 |mk (a:Addr) (t:DO) (w h:Int) (h0:vs=[.ref a,.int w,.int h]) (h1:H a=some (.tup [.int t.1,.int t.2.1,.bl t.2.2])) (h2:∀l H',Same H H'->H l=none->TupL H' l (Bh t w h)->Q (.ref l) H'):Iz vs H Q E
def FZ:Sp:=λ vs H Q E=>Iz vs H Q E
def SOk(z:Int×Int):Prop:=1<=z.1/\z.1<=12/\1<=z.2/\z.2<=12
inductive IB(vs:LUz)(H:Hp)(Q:VK)(E:XK):Prop
 |mk (a:Addr) (z:Int×Int) (h0:vs=[.ref a]) (h1:H a=some (.tup [.int z.1,.int z.2])) (h2:SOk z) (h3:Q (.bl true) H):IB vs H Q E
def Kd:Sp:=λ vs H Q E=>IB vs H Q E
inductive Fz(vs:LUz)(H:Hp)(Q:VK)(E:XK):Prop
 |mk (a:Addr) (ss:LI) (h0:vs=[.ref a]) (h1:TupL H a ss) (h2:1<=ss.length) (h3:ss.length<=4) (h4:(∀z∈ss,SOk z)) (h5:∀H',Same H H'->Q .non H'):Fz vs H Q E
def Ge:Sp:=λ vs H Q E=>Fz vs H Q E
structure Txt(mg:MGz)(tk:Tok×Tok×Tok×Tok×Tok×Tok):Prop where
 z_abs:mg "abs"=none
 z_isinstance:mg "isinstance"=none
 z_int:mg "int"=none
 z_bool:mg "bool"=none
 z_tuple:mg "tuple"=none
 z_len:mg "len"=none
 z_range:mg "range"=none
 z_sorted:mg "sorted"=none
 z_sum:mg "sum"=none
 z_min:mg "min"=none
 z_enumerate:mg "enumerate"=none
 z_list:mg "list"=none
 z_all:mg "all"=none
 z_reversed:mg "reversed"=none
 g_LONGEST_SIDE:mg "LONGEST_SIDE"=some (.int 12 tk.1)
 g_WHOLE:mg "WHOLE"=some (.str "whole" tk.2.1)
 g_UPRIGHT:mg "UPRIGHT"=some (.str "upright" tk.2.2.1)
 g_LEVEL:mg "LEVEL"=some (.str "level" tk.2.2.2.1)
 g_MOST_SHEETS:mg "MOST_SHEETS"=some (.int 4 tk.2.2.2.2.1)
 g_MOST_CUT:mg "MOST_CUT"=some (.int 60 tk.2.2.2.2.2)
section
variable{P:Program}{w:World}{K:Frag}{mg:MGz}{base:Heap}{tk:Tok×Tok×Tok×Tok×Tok×Tok}{cB cG cT cW cU cL:Addr}
theorem Mu:Aq ["thing"] ["thing"] (Ag DY):=fsc
theorem Kt{f:Addr}{fd:FuncData}(F:Fun K "is_whole" "is_whole" DY f fd)(T:Txt mg tk):A8 P w K mg base CX0 1 f fd ["thing"] Ka:=by
 have S:=Mu;refine F.ok S (λ vs H Q E h=>?_) (λ cdv A outer s H vs Q E hr h=>?_)
 .obtain⟨i,rfl,_⟩:=h;rfl
 .obtain⟨i,rfl,q⟩:=h;refine⟨_,(Ah (Ar (CY (At CL rfl T.z_isinstance rfl (Aa (pv 0) (Aa (E7 (v:=.ty "int") rfl T.z_int rfl rfl) Ab))) (Du (OB (At CL rfl T.z_isinstance rfl (Aa (pv 0) (Aa (E7 (v:=.ty "bool") rfl T.z_bool rfl rfl) Ab)))))))),?_⟩;refine⟨_,rfl,.int i,"int","int",rfl,rfl,.inl rfl,_,rfl,Ef (λ h=>?_) (λ h=>absurd h (by decide))⟩;refine⟨_,rfl,.int i,"int","bool",rfl,rfl,.inr (.inl rfl),_,rfl,?_⟩;have e:(!isB "int" "bool")=true:=by decide
  rw[e];exact q
theorem Ol:Aq ["thing"] ["thing"] (Ag EX):=fsc
theorem LM{f:Addr}{fd:FuncData}(F:Fun K "is_side" "is_side" EX f fd)(T:Txt mg tk)(D_is_whole:A5 P w K mg base 1 "is_whole" ["thing"] Ka):A8 P w K mg base CX0 2 f fd ["thing"] IQ:=by
 have S:=Ol;refine F.ok S (λ vs H Q E h=>?_) (λ cdv A outer s H vs Q E hr h=>?_)
 .obtain⟨i,rfl,_⟩:=h;rfl
 .obtain⟨i,rfl,i1,i2,q⟩:=h;refine⟨_,(Ah (Ar (CY (Aw D_is_whole hr (Aa (pv 0) Ab)) (Du (Gs CG CG Ad (pv 0) (AM (v:=.int 12) rfl T.g_LONGEST_SIDE ⟨_,rfl⟩)))))),?_⟩;refine⟨_,rfl,i,rfl,_,rfl,Qf ⟨_,rfl,_,_,rfl,rfl,_,rfl,Ef (λ h=>?_) (λ h=>absurd i1 (of_decide_eq_false h))⟩⟩;refine⟨_,_,rfl,rfl,?_⟩;show Q (.bl (decide (i<=12))) H;rw[decide_eq_true i2];exact q
theorem HH:Aq ["width","height","side"] ["width","height"] (Ag Cz):=fsc
theorem Gx{f:Addr}{fd:FuncData}(F:Fun K "check_sides" "check_sides" Cz f fd)(D_is_side:A5 P w K mg base 2 "is_side" ["thing"] IQ):A8 P w K mg base CX0 3 f fd ["width","height"] Kc:=by
 have S:=HH;refine F.ok S (λ vs H Q E h=>?_) (λ cdv A outer s H vs Q E hr h=>?_)
 .obtain⟨w,h,rfl,_⟩:=h;rfl
 .obtain⟨w,h,rfl,w1,w2,h1,h2,q⟩:=h;refine⟨_,(Ah (C3 PassesOwn.never rfl (O9 (Av (Aa (pv 0) (Aa (pv 1) Ab)))) (An (i:=2) S.nd rfl (Or.inl rfl)) (Ah (AJ (BF (BE (Aw D_is_side hr (Aa (pv 2) Ab)))) (Ah Gp) Ay)))),?_⟩;refine⟨_,rfl,_,rfl,Au 2,λ t nt=>⟨t,rfl,⟨_,SqT.of upd_same⟩,MY (K:=K) (a:=t) (xs:=[.int w,.int h]) (λ i σ H'=>(∃y,σ=[some (.int w),some (.int h),y])/\H'=upd H t (.tup [.int w,.int h])) ⟨⟨none,rfl⟩,rfl⟩ (λ i σ H' _ hp=>by rw[hp.2];exact SqT.of upd_same) ?_ ?_⟩⟩
  .rintro i x σ H' hx ⟨⟨y,rfl⟩,rfl⟩;obtain⟨z,rfl,z1,z2⟩:∃z:Int,x=.int z/\1<=z/\z<=12:=by
    match i,hx with
    |0,hx=>cases hx;exact⟨_,rfl,w1,w2⟩
    |1,hx=>cases hx;exact⟨_,rfl,h1,h2⟩
    |i+2,hx=>cases hx
   exact⟨_,rfl,z,rfl,z1,z2,_,rfl,Rt ⟨⟨_,rfl⟩,rfl⟩⟩
  .rintro σ H' ⟨_,rfl⟩;exact q _ (Same.new nt)
theorem J0{f:Addr}{fd:FuncData}{x qual:Str}{st:Stmt}{N ps:LSz}{k:Nat}{sp:Sp}(F:Fun K x qual st f fd)(S:Aq N ps (Ag st))(h:∀vs H Q E,¬sp vs H Q E):A8 P w K mg base CX0 (k+1) f fd ps sp :=
 F.ok S (λ vs H Q E z=>absurd z (h vs H Q E)) (λ cdv A outer s H vs Q E hr z=>absurd z (h vs H Q E))
theorem Ms:Aq ["_law_script","_law_k"] ["_law_script","_law_k"] (Ag Dq):=fsc
theorem Kr{f:Addr}{fd:FuncData}(F:Fun K "_law_cell" "_law_cell" Dq f fd)(T:Txt mg tk):A8 P w K mg base CX0 1 f fd ["_law_script","_law_k"] (MC K):=by
 have S:=Ms;refine F.ok S (λ vs H Q E h=>?_) (λ cdv A outer s H vs Q E hr h=>?_)
 .obtain⟨a,ns,k,rfl,_⟩:=h;rfl
 .obtain⟨a,ns,k,rfl,hS,k0,q⟩:=h;refine⟨_,(Ac (AJ (Ax Ia (pv 1) (At AK rfl T.z_len rfl (Aa (pv 0) Ab)) (Az _)) (Ah (Ar (Ao Cc (pv 0) (pv 1) (λ_ _=>rfl)))) Ay)
   (Ah (Ar Ad))),?_⟩
  refine⟨_,rfl,_,rfl,a,_,rfl,.inl hS,_,_,rfl,rfl,_,rfl,Ef (λ c=>?_) (λ c=>q 0)⟩;have c:=of_decide_eq_true c;rw[List.length_map]at c;obtain⟨z,hz⟩:=Qt k0 c;exact⟨_,rfl,_,rfl,a,_,_,_,rfl,rfl,hS,hz,q _⟩
theorem Mr:Aq ["_law_cell_here","_law_nth","_law_many","_law_number"] ["_law_cell_here","_law_nth","_law_many"] (Ag Dp):=fsc
theorem Kq{f:Addr}{fd:FuncData}(F:Fun K "_law_draw" "_law_draw" Dp f fd):A8 P w K mg base CX0 1 f fd ["_law_cell_here","_law_nth","_law_many"] IS:=by
 have S:=Mr;refine F.ok S (λ vs H Q E h=>?_) (λ cdv A outer s H vs Q E hr h=>?_)
 .obtain⟨c,n,m,rfl,_⟩:=h;rfl
 .obtain⟨c,n,m,rfl,n0,n1,m0,q⟩:=h;refine⟨_,(Ac (As (i:=3) S.nd rfl (Or.inl rfl) (A6 Ec (A6 DJ (A6 Bp (A6 Bp (A6 Ec (pv 0) Ad) Ad) (A6 DJ (pv 1) (pv 1))) Ad) Ad))
   (Ah (Ar (A6 Ec (A6 Bp (A6 Kl (pv 3) Ad) (A6 DJ (A6 Ec (pv 3) Ad) (pv 1))) (pv 2))))),?_⟩
  have a:=Int.emod_nonneg c (b:=899809363) (by decide);have b:=Int.emod_lt_of_pos c (b:=899809363) (by decide);have nn:0<=n*n/\n*n<=1000000:=⟨Int.mul_nonneg n0 n0,Int.le_trans (Int.mul_le_mul n1 n1 n0 (by decide)) (by decide)⟩;refine⟨_,rfl,_,_,rfl,rfl,(show(0:Int)<899809363 from by decide),_,_,rfl,rfl,_,rfl,_,rfl,_,_,rfl,rfl,Ic (by lia) (by lia) (by lia) (by lia),_,_,rfl,rfl,_,_,rfl,rfl,Ic (by lia) (by lia) (by decide) (by decide),_,_,rfl,rfl,(show(0:Int)<899809363 from by decide),?_⟩;have g0:=Int.emod_nonneg ((c % 899809363+3+n*n)*60919 % 899809363) (b:=1013) (by decide);have g1:=Int.emod_lt_of_pos ((c % 899809363+3+n*n)*60919 % 899809363) (b:=1013) (by decide);exact⟨_,rfl,_,_,rfl,rfl,Su _ (by decide) (by decide),_,rfl,_,_,rfl,rfl,(show(0:Int)<1013 from by decide),_,rfl,_,_,rfl,rfl,Ic (by lia) (by lia) (by lia) (by lia),_,_,rfl,rfl,_,rfl,_,_,rfl,rfl,m0,q _ (Int.emod_nonneg _ (by lia)) (Int.emod_lt_of_pos _ m0)⟩
inductive Nq(vs:LUz)(H:Hp)(Q:VK)(E:XK):Prop
 |mk (a:Addr) (p:Rk) (u:Bool) (k:Int) (h0:vs=[.ref a,.str (wd u),.int k]) (h1:H a=some (.tup p.vs)) (h2:∀x,H x=none->Q (.ref x) (upd H x (.tup (p.fst u k).vs))):Nq vs H Q E
def L0:Sp:=λ vs H Q E=>Nq vs H Q E
inductive No(vs:LUz)(H:Hp)(Q:VK)(E:XK):Prop
 |mk (a:Addr) (p:Rk) (u:Bool) (k:Int) (h0:vs=[.ref a,.str (wd u),.int k]) (h1:H a=some (.tup p.vs)) (h2:∀x,H x=none->Q (.ref x) (upd H x (.tup (p.oth u k).vs))):No vs H Q E
def Lz:Sp:=λ vs H Q E=>No vs H Q E
theorem HG:Aq ["piece","word","at"] ["piece","word","at"] (Ag Cy):=fsc
theorem Gw{f:Addr}{fd:FuncData}(F:Fun K "first_piece" "first_piece" Cy f fd)(T:Txt mg tk):A8 P w K mg base CX0 1 f fd ["piece","word","at"] L0:=by
 have S:=HG;refine F.ok S (λ vs H Q E h=>?_) (λ cdv A outer s H vs Q E hr h=>?_)
 .obtain⟨a,p,u,k,rfl,_⟩:=h;rfl
 .obtain⟨a,p,u,k,rfl,ha,q⟩:=h;refine⟨_,(Ac (AJ (Ax CH (pv 1) (AM (v:=.str "upright") rfl T.g_UPRIGHT ⟨_,rfl⟩) (Az _)) (Ah (Ar (Av (Aa (Ao Ak (pv 0) Ad (λ_ _=>rfl)) (Aa (Ao Ak (pv 0) Ad (λ_ _=>rfl)) (Aa (Ao Ak (pv 0) Ad (λ_ _=>rfl)) (Aa (A6 Bp (Ao Ak (pv 0) Ad (λ_ _=>rfl)) (pv 2)) Ab))))))) Ay)
   (Ah (Ar (Av (Aa (Ao Ak (pv 0) Ad (λ_ _=>rfl)) (Aa (Ao Ak (pv 0) Ad (λ_ _=>rfl)) (Aa (A6 Bp (Ao Ak (pv 0) Ad (λ_ _=>rfl)) (pv 2)) (Aa (Ao Ak (pv 0) Ad (λ_ _=>rfl)) Ab)))))))),?_⟩
  cases u with
  |true=>exact⟨_,rfl,rfl,_,rfl,BK (Cu true true) ⟨_,rfl,a,_,_,_,rfl,rfl,SqT.of ha,at0,_,rfl,a,_,_,_,rfl,rfl,SqT.of ha,at1,_,rfl,a,_,_,_,rfl,rfl,SqT.of ha,at2,_,rfl,a,_,_,_,rfl,rfl,SqT.of ha,at1,_,rfl,_,_,rfl,rfl,Au 4,q⟩⟩
  |false=>exact⟨_,rfl,rfl,_,rfl,AZ (Cu false true) ⟨_,rfl,a,_,_,_,rfl,rfl,SqT.of ha,at0,_,rfl,a,_,_,_,rfl,rfl,SqT.of ha,at1,_,rfl,a,_,_,_,rfl,rfl,SqT.of ha,at0,_,rfl,_,_,rfl,rfl,_,rfl,a,_,_,_,rfl,rfl,SqT.of ha,at3,Au 4,q⟩⟩
theorem Hz:Aq ["piece","word","at"] ["piece","word","at"] (Ag Cw):=fsc
theorem Gv{f:Addr}{fd:FuncData}(F:Fun K "other_piece" "other_piece" Cw f fd)(T:Txt mg tk):A8 P w K mg base CX0 1 f fd ["piece","word","at"] Lz:=by
 have S:=Hz;refine F.ok S (λ vs H Q E h=>?_) (λ cdv A outer s H vs Q E hr h=>?_)
 .obtain⟨a,p,u,k,rfl,_⟩:=h;rfl
 .obtain⟨a,p,u,k,rfl,ha,q⟩:=h;refine⟨_,(Ac (AJ (Ax CH (pv 1) (AM (v:=.str "upright") rfl T.g_UPRIGHT ⟨_,rfl⟩) (Az _)) (Ah (Ar (Av (Aa (Ao Ak (pv 0) Ad (λ_ _=>rfl)) (Aa (A6 Bp (Ao Ak (pv 0) Ad (λ_ _=>rfl)) (pv 2)) (Aa (Ao Ak (pv 0) Ad (λ_ _=>rfl)) (Aa (Ao Ak (pv 0) Ad (λ_ _=>rfl)) Ab))))))) Ay)
   (Ah (Ar (Av (Aa (A6 Bp (Ao Ak (pv 0) Ad (λ_ _=>rfl)) (pv 2)) (Aa (Ao Ak (pv 0) Ad (λ_ _=>rfl)) (Aa (Ao Ak (pv 0) Ad (λ_ _=>rfl)) (Aa (Ao Ak (pv 0) Ad (λ_ _=>rfl)) Ab)))))))),?_⟩
  cases u with
  |true=>exact⟨_,rfl,rfl,_,rfl,BK (Cu true true) ⟨_,rfl,a,_,_,_,rfl,rfl,SqT.of ha,at0,_,rfl,a,_,_,_,rfl,rfl,SqT.of ha,at1,_,rfl,_,_,rfl,rfl,_,rfl,a,_,_,_,rfl,rfl,SqT.of ha,at2,_,rfl,a,_,_,_,rfl,rfl,SqT.of ha,at3,Au 4,q⟩⟩
  |false=>exact⟨_,rfl,rfl,_,rfl,AZ (Cu false true) ⟨_,rfl,a,_,_,_,rfl,rfl,SqT.of ha,at0,_,rfl,_,_,rfl,rfl,_,rfl,a,_,_,_,rfl,rfl,SqT.of ha,at1,_,rfl,a,_,_,_,rfl,rfl,SqT.of ha,at2,_,rfl,a,_,_,_,rfl,rfl,SqT.of ha,at3,Au 4,q⟩⟩
theorem Hy:Aq ["want"] ["want"] (Ag Cv):=fsc
theorem Gu{f:Addr}{fd:FuncData}(F:Fun K "ways_to_lie" "ways_to_lie" Cv f fd):A8 P w K mg base CX0 1 f fd ["want"] M9:=by
 have S:=Hy;refine F.ok S (λ vs H Q E h=>?_) (λ cdv A outer s H vs Q E hr h=>?_)
 .obtain⟨a,t,rfl,_⟩:=h;rfl
 .obtain⟨a,t,rfl,ha,q⟩:=h;refine⟨_,(Ac (AJ (Dt (Ao Ak (pv 0) Ad (λ_ _=>rfl)) (λ_=>rfl)) (Ah (Ar (BJ (Aa (Av (Aa (Ao Ak (pv 0) Ad (λ_ _=>rfl)) (Aa (Ao Ak (pv 0) Ad (λ_ _=>rfl)) Ab))) (Aa (Av (Aa (Ao Ak (pv 0) Ad (λ_ _=>rfl)) (Aa (Ao Ak (pv 0) Ad (λ_ _=>rfl)) Ab))) Ab))))) Ay)
   (Ah (Ar (BJ (Aa (Av (Aa (Ao Ak (pv 0) Ad (λ_ _=>rfl)) (Aa (Ao Ak (pv 0) Ad (λ_ _=>rfl)) Ab))) Ab))))),?_⟩
  refine⟨_,rfl,a,_,_,_,rfl,rfl,SqT.of ha,Sx,_,rfl,Ef (λ h=>?_) (λ h=>?_)⟩
  .refine⟨_,rfl,a,_,_,_,rfl,rfl,SqT.of ha,Nm,_,rfl,a,_,_,_,rfl,rfl,SqT.of ha,Nl,Au 2,λ p hp=>?_⟩;have s1:Same H (upd H p (.tup [.int t.1,.int t.2.1])):=Same.new hp;refine⟨_,rfl,a,_,_,_,rfl,rfl,SqT.of (s1 _ _ ha),Nl,_,rfl,a,_,_,_,rfl,rfl,SqT.of (s1 _ _ ha),Nm,Au 2,λ p' hp'=>⟨Au 2,λ l hl=>?_⟩⟩;have s2:Same (upd H p (.tup [.int t.1,.int t.2.1])) (upd (upd H p (.tup [.int t.1,.int t.2.1])) p' (.tup [.int t.2.1,.int t.1])):=Same.new hp';have s3:Same (upd (upd H p (.tup [.int t.1,.int t.2.1])) p' (.tup [.int t.2.1,.int t.1])) (upd (upd (upd H p (.tup [.int t.1,.int t.2.1])) p' (.tup [.int t.2.1,.int t.1])) l (.lst [.ref p,.ref p'])):=Same.new hl;refine q l _ (s1.trans (s2.trans s3)) (Cq (s1.trans s2) hl) ⟨[(p,t.1,t.2.1),(p',t.2.1,t.1)],upd_same,λ u hu=>?_,?_⟩
   .simp only[List.mem_cons,List.not_mem_nil,or_false]at hu;rcases hu with rfl|rfl
    .exact s3 _ _ (s2 _ _ upd_same)
    .exact s3 _ _ upd_same
   .unfold BU;rw[if_pos h];rfl
  .refine⟨_,rfl,a,_,_,_,rfl,rfl,SqT.of ha,Nm,_,rfl,a,_,_,_,rfl,rfl,SqT.of ha,Nl,Au 2,λ p hp=>⟨Au 1,λ l hl=>?_⟩⟩;have s1:Same H (upd H p (.tup [.int t.1,.int t.2.1])):=Same.new hp;have s3:Same (upd H p (.tup [.int t.1,.int t.2.1])) (upd (upd H p (.tup [.int t.1,.int t.2.1])) l (.lst [.ref p])):=Same.new hl;refine q l _ (s1.trans s3) (Cq s1 hl) ⟨[(p,t.1,t.2.1)],upd_same,λ u hu=>?_,?_⟩
   .rw[List.mem_singleton.mp hu];exact s3 _ _ upd_same
   .unfold BU;rw[if_neg (by rw[h];exact Bool.false_ne_true)];rfl
theorem KZ:Aq ["want","width","height"] ["want","width","height"] (Ag Dk):=fsc
theorem Lq(t:DO):(BU t).length<=2:=by unfold BU;split<;>simp
theorem Jf{f:Addr}{fd:FuncData}(F:Fun K "ways_held" "ways_held" Dk f fd)(D_ways_to_lie:A5 P w K mg base 1 "ways_to_lie" ["want"] M9):A8 P w K mg base CX0 2 f fd ["want","width","height"] FZ:=by
 have S:=KZ;refine F.ok S (λ vs H Q E h=>?_) (λ cdv A outer s H vs Q E hr h=>?_)
 .obtain⟨a,t,w,h,rfl,_⟩:=h;rfl
 .obtain⟨a,t,ww,hh,rfl,ha,q⟩:=h;refine⟨_,(Ah (Ar (CF rfl (AL (Aw D_ways_to_lie hr (Aa (pv 0) Ab))) (λ_ _ _ _ _=>(An (i:=0) (show List.Nodup (["size","width","height"]:LSz) from by decide +kernel) rfl (Or.inl rfl))) (λ_ _ _ _ _=>(PW.pt (IY (Ax CG (Ao (Ct (K:=K)) (pv 0) Ad (λ_ _=>rfl)) (pv 1) (Az _)) (FF (Ax CG (Ao (Ct (K:=K)) (pv 0) Ad (λ_ _=>rfl)) (pv 2) (Az _)))))) (λ_ _ _ _ _=>(pv 0)) (N:=["size","width","height"]) (fr:=[none,some 1,some 2])))),?_⟩;refine⟨_,rfl,a,t,rfl,ha,λ l H1 s1 nl hl=>?_⟩;obtain⟨us,e1,e2,e3⟩:=hl;have ul:us.length=(BU t).length:=by rw[<-e3,List.length_map]
  have sz:(Ai us).length<=sizeLine:=Nat.le_of_lt (Ap (by rw[Al];have:=Lq t;lia));refine⟨l,rfl,⟨_,SqL.of e1⟩,λ acc na=>BM (K:=K) (a:=l) (ys:=Ai us) (λ i zs σ H'=>(∃x,σ=[x,some (.int ww),some (.int hh)])/\Same H1 H'/\∃vs:LZ,zs=Ai vs/\(∀v∈vs,v∈us)/\vs.map (·.2)=((BU t).take i).filter λ z=>decide (z.1<=ww)&&decide (z.2<=hh))
   ⟨⟨none,rfl⟩,Same.new na,[],rfl,(λ v hv=>nomatch hv),rfl⟩ (λ i zs σ H' _ _ hp=>SqL.of (hp.2.1 _ _ e1)) ?_ ?_⟩
  .rintro i x zs σ H2 hx hi hl' ha' ⟨⟨x0,rfl⟩,s2,vs,rfl,hvs,hm⟩;obtain⟨v,hv,rfl⟩:=AC hx;have hv2:=s2 _ _ (e2 v (List.mem_of_getElem? hv));have tk1:(BU t).take (i+1)=(BU t).take i++[v.2]:=by rw[<-e3,List.take_succ,List.getElem?_map,hv];rfl
   refine⟨_,rfl,v.1,_,_,_,rfl,rfl,SqT.of hv2,Bz,_,rfl,_,_,rfl,rfl,_,rfl,Ef (λ c1=>?_) (λ c1=>?_)⟩
   .refine⟨_,rfl,v.1,_,_,_,rfl,rfl,SqT.of hv2,By,_,rfl,_,_,rfl,rfl,?_⟩;cases c2:decide (v.2.2<=hh) with
    |true =>
     refine⟨true,rfl,_,rfl,fNx.mk sz hi hl' ha' ⟨⟨_,rfl⟩,λ d o e=>by rw[Ae (Af e na)];exact s2 d o e,vs++[v],by rw[Ai,Ai,List.map_append];rfl,λ u hu=>?_,?_⟩⟩
     .rcases List.mem_append.mp hu with hu|hu
      .exact hvs u hu
      .rw[List.mem_singleton.mp hu];exact List.mem_of_getElem? hv
     .rw[tk1,List.filter_append,List.filter_cons,if_pos (by rw[c1,c2];rfl),List.map_append,hm];rfl
    |false =>
     refine⟨false,rfl,fSk.mk hi hl' ha' ⟨⟨_,rfl⟩,s2,vs,rfl,hvs,?_⟩⟩;rw[tk1,List.filter_append,List.filter_cons,if_neg (by rw[c2,Bool.and_false];exact Bool.false_ne_true),hm];simp
   .refine fSk.mk hi hl' ha' ⟨⟨_,rfl⟩,s2,vs,rfl,hvs,?_⟩;rw[tk1,List.filter_append,List.filter_cons,if_neg (by rw[c1,Bool.false_and];exact Bool.false_ne_true),hm];simp
  .rintro zs σ H2 hl' ha' ⟨_,s2,vs,rfl,hvs,hm⟩;rw[Al,ul,List.take_length]at hm;exact q acc H2 (s1.trans s2) (Cq s1 na) ⟨vs,ha',λ v hv=>s2 _ _ (e2 v (hvs v hv)),hm⟩
theorem Mw:Aq ["thing"] ["thing"] (Ag DZ):=fsc
theorem Ku{f:Addr}{fd:FuncData}(F:Fun K "is_sheet" "is_sheet" DZ f fd)(T:Txt mg tk)(D_is_side:A5 P w K mg base 2 "is_side" ["thing"] IQ):A8 P w K mg base CX0 3 f fd ["thing"] Kd:=by
 have S:=Mw;refine F.ok S (λ vs H Q E h=>?_) (λ cdv A outer s H vs Q E hr h=>?_)
 .obtain⟨a,z,rfl,_⟩:=h;rfl
 .obtain⟨a,z,rfl,ha,⟨w1,w2,h1,h2⟩,q⟩:=h;refine⟨_,(Ac (AJ (PW.pt (Go (BF (BE (At CL rfl T.z_isinstance rfl (Aa (pv 0) (Aa (E7 (v:=.ty "tuple") rfl T.z_tuple rfl rfl) Ab))))) (Gn (Ax Q5 (At AK rfl T.z_len rfl (Aa (pv 0) Ab)) Ad (Az _))))) (Ah (Ar HY)) Ay)
   (Ah (Ar (CY (Aw D_is_side hr (Aa (Ao Ak (pv 0) Ad (λ_ _=>rfl)) Ab)) (Du (Aw D_is_side hr (Aa (Ao Ak (pv 0) Ad (λ_ _=>rfl)) Ab))))))),?_⟩
  refine⟨_,rfl,.ref a,"tuple","tuple",rfl,QJ ha,.inr (.inr (.inl rfl)),_,rfl,Ef (λ z=>absurd z (by decide)) (λ_=>?_)⟩;refine⟨_,rfl,a,_,rfl,.inr (SqT.of ha),rfl,_,rfl,AZ (show(!decide (V.int ((2:Nat):Int)=V.int 2))=false from by decide) ?_⟩;exact⟨_,rfl,a,_,_,_,rfl,rfl,SqT.of ha,Bz,z.1,rfl,w1,w2,_,rfl,Qf ⟨_,rfl,a,_,_,_,rfl,rfl,SqT.of ha,By,z.2,rfl,h1,h2,q⟩⟩
theorem GS:Aq ["sheets","place","sheet"] ["sheets"] (Ag Cj):=fsc
theorem F2{f:Addr}{fd:FuncData}(F:Fun K "check_sheets" "check_sheets" Cj f fd)(T:Txt mg tk)(D_is_sheet:A5 P w K mg base 3 "is_sheet" ["thing"] Kd):A8 P w K mg base CX0 4 f fd ["sheets"] Ge:=by
 have S:=GS;refine F.ok S (λ vs H Q E h=>?_) (λ cdv A outer s H vs Q E hr h=>?_)
 .obtain⟨a,ss,rfl,_⟩:=h;rfl
 .obtain⟨a,ss,rfl,⟨ts,ha,ht,rfl⟩,l1,l2,so,q⟩:=h;rw[List.length_map]at l1 l2;refine⟨_,(Ac (AJ (BF (Ki CG CG Ad (At AK rfl T.z_len rfl (Aa (pv 0) Ab)) (AM (v:=.int 4) rfl T.g_MOST_SHEETS ⟨_,rfl⟩))) (Ah Gp) Ay)
   (Ah (C3 PassesOwn.never rfl (Jc rfl T.z_enumerate (Aa (pv 0) Ab)) (CW rfl (Am (An (i:=1) S.nd rfl (Or.inl rfl)) (Am (An (i:=2) S.nd rfl (Or.inl rfl)) AB))) (Ah (AJ (BF (BE (Aw D_is_sheet hr (Aa (pv 2) Ab)))) (Ah Gp) Ay))))),?_⟩
  refine⟨_,rfl,a,_,rfl,.inl (SqL.of ha),_,_,rfl,rfl,_,rfl,Ef (λ_=>?_) (λ z=>absurd (of_decide_eq_false z) (by rw[Al];lia))⟩;refine⟨_,_,rfl,rfl,_,rfl,AZ (show(!decide (((Ai ts).length:Int)<=4))=false from by rw[decide_eq_true (by rw[Al];lia)];rfl) ?_⟩;refine⟨_,rfl,a,rfl,⟨_,SqL.of ha⟩,KC (K:=K) (a:=a) (xs:=Ai ts) (λ i σ H'=>(∃x y,σ=[some (.ref a),x,y])/\Same H H') ⟨⟨none,none,rfl⟩,Same.refl H⟩ (λ i σ H' _ hp=>SqL.of (hp.2 _ _ ha)) ?_ ?_⟩
  .rintro i x σ H1 t hx ⟨⟨x0,y0,rfl⟩,s1⟩ nt;obtain⟨u,hu,rfl⟩:=AC hx;have hm:=List.mem_of_getElem? hu;have s2:Same H1 (upd H1 t (.tup [.int i,.ref u.1])):=Same.new nt;refine⟨t,_,rfl,SqT.of upd_same,rfl,_,_,rfl,_,_,rfl,rfl,_,rfl,u.1,u.2,rfl,s2 _ _ (s1 _ _ (ht u hm)),so _ (List.mem_map.mpr ⟨u,hm,rfl⟩),_,rfl,Rt ⟨⟨_,_,rfl⟩,s1.trans s2⟩⟩
  .rintro σ H1 ⟨_,s1⟩;exact q H1 s1
inductive I9(vs:LUz)(H:Hp)(Q:VK)(E:XK):Prop
 |mk (a:Addr) (p:Rk) (h0:vs=[.ref a]) (h1:H a=some (.tup p.vs)) (h2:∀c,H c=none->Q (.ref c) (upd H c (.tup [.int (p.len true),.int (p.len false)]))):I9 vs H Q E
def Ga:Sp:=λ vs H Q E=>I9 vs H Q E
theorem Oj:Aq ["rectangle"] ["rectangle"] (Ag EW):=fsc
theorem LL{f:Addr}{fd:FuncData}(F:Fun K "size_of" "size_of" EW f fd):A8 P w K mg base CX0 1 f fd ["rectangle"] Ga:=by
 have S:=Oj;refine F.ok S (λ vs H Q E h=>?_) (λ cdv A outer s H vs Q E hr h=>?_)
 .obtain⟨a,p,rfl,_⟩:=h;rfl
 .obtain⟨a,p,rfl,ha,q⟩:=h;refine⟨_,(Ah (Ar (Av (Aa (A6 BX (Ao Ak (pv 0) Ad (λ_ _=>rfl)) (Ao Ak (pv 0) Ad (λ_ _=>rfl))) (Aa (A6 BX (Ao Ak (pv 0) Ad (λ_ _=>rfl)) (Ao Ak (pv 0) Ad (λ_ _=>rfl))) Ab))))),?_⟩;exact⟨_,rfl,a,_,_,_,rfl,rfl,SqT.of ha,at3,_,rfl,a,_,_,_,rfl,rfl,SqT.of ha,at1,_,_,rfl,rfl,_,rfl,a,_,_,_,rfl,rfl,SqT.of ha,at2,_,rfl,a,_,_,_,rfl,rfl,SqT.of ha,at0,_,_,rfl,rfl,Au 2,λ c hc=>q c hc⟩
def AG(p:Rk):Prop:=0<=p.t/\p.t<p.b/\p.b<=12/\0<=p.l/\p.l<p.r/\p.r<=12
def arR(p:Rk):Int:=p.len false*p.len true
inductive IH(vs:LUz)(H:Hp)(Q:VK)(E:XK):Prop
 |mk (a:Addr) (p:Rk) (h0:vs=[.ref a]) (h1:H a=some (.tup p.vs)) (h2:AG p) (h3:Q (.int (arR p)) H):IH vs H Q E
def Gf:Sp:=λ vs H Q E=>IH vs H Q E
theorem Om:Aq ["rectangle"] ["rectangle"] (Ag EY):=fsc
theorem LN{f:Addr}{fd:FuncData}(F:Fun K "area_of" "area_of" EY f fd):A8 P w K mg base CX0 1 f fd ["rectangle"] Gf:=by
 have S:=Om;refine F.ok S (λ vs H Q E h=>?_) (λ cdv A outer s H vs Q E hr h=>?_)
 .obtain⟨a,p,rfl,_⟩:=h;rfl
 .obtain⟨a,p,rfl,ha,⟨p1,p2,p3,p4,p5,p6⟩,q⟩:=h;refine⟨_,(Ah (Ar (A6 DJ (A6 BX (Ao Ak (pv 0) Ad (λ_ _=>rfl)) (Ao Ak (pv 0) Ad (λ_ _=>rfl))) (A6 BX (Ao Ak (pv 0) Ad (λ_ _=>rfl)) (Ao Ak (pv 0) Ad (λ_ _=>rfl)))))),?_⟩;exact⟨_,rfl,a,_,_,_,rfl,rfl,SqT.of ha,at2,_,rfl,a,_,_,_,rfl,rfl,SqT.of ha,at0,_,_,rfl,rfl,_,rfl,a,_,_,_,rfl,rfl,SqT.of ha,at3,_,rfl,a,_,_,_,rfl,rfl,SqT.of ha,at1,_,_,rfl,rfl,_,_,rfl,rfl,Ic (by lia) (by lia) (by lia) (by lia),q⟩
theorem TupL.len{H:Hp}{l:Addr}{zs:LI}(h:TupL H l zs):∃xs,H l=some (.lst xs)/\xs.length=zs.length:=by
 obtain⟨ts,a,_,rfl⟩:=h;exact⟨_,a,by rw[Al,List.length_map]⟩
inductive IF(vs:LUz)(H:Hp)(Q:VK)(E:XK):Prop
 |mk (a c:Addr) (p:Rk) (t:DO) (h0:vs=[.ref a,.ref c]) (h1:H a=some (.tup p.vs)) (h2:H c=some (.tup [.int t.1,.int t.2.1,.bl t.2.2])) (h3:∀H',Same H H'->Q (.bl (decide (Bh t (p.len true) (p.len false)≠[]))) H'):IF vs H Q E
def Ke:Sp:=λ vs H Q E=>IF vs H Q E
theorem Qu:Aq ["piece","want","size"] ["piece","want"] (Ag IU):=fsc
theorem OF{f:Addr}{fd:FuncData}(F:Fun K "holds" "holds" IU f fd)(T:Txt mg tk)(D_size_of:A5 P w K mg base 1 "size_of" ["rectangle"] Ga)(D_ways_held:A5 P w K mg base 2 "ways_held" ["want","width","height"] FZ):A8 P w K mg base CX0 3 f fd ["piece","want"] Ke:=by
 have S:=Qu;refine F.ok S (λ vs H Q E h=>?_) (λ cdv A outer s H vs Q E hr h=>?_)
 .obtain⟨a,c,p,t,rfl,_⟩:=h;rfl
 .obtain⟨a,c,p,t,rfl,ha,hc,q⟩:=h;refine⟨_,(Ac (As (i:=2) S.nd rfl (Or.inl rfl) (Aw D_size_of hr (Aa (pv 0) Ab)))
   (Ah (Ar (Cr Sc (At AK rfl T.z_len rfl (Aa (Aw D_ways_held hr (Aa (pv 1) (Aa (Ao Ak (pv 2) Ad (λ_ _=>rfl)) (Aa (Ao Ak (pv 2) Ad (λ_ _=>rfl)) Ab)))) Ab)) Ad (Az _))))),?_⟩
  refine⟨_,rfl,a,p,rfl,ha,λ z hz=>?_⟩;obtain⟨H1,g,s1,e1⟩:=nw (.tup [.int (p.len true),.int (p.len false)]) hz;rw[g];refine⟨_,rfl,_,rfl,z,_,_,_,rfl,rfl,SqT.of e1,Bz,_,rfl,z,_,_,_,rfl,rfl,SqT.of e1,By,c,t,_,_,rfl,s1 _ _ hc,λ l H2 s2 nl tl=>?_⟩;obtain⟨xs,hx,lx⟩:=tl.len;refine⟨l,xs,rfl,.inl (SqL.of hx),_,_,rfl,rfl,?_⟩;have e:decide (((xs.length:Nat):Int)>0)=decide (Bh t (p.len true) (p.len false)≠[]):=by
   rw[lx];cases Bh t (p.len true) (p.len false) with
   |nil=>rfl
   |cons x r=>rw[decide_eq_true (by rw[List.length_cons];lia),decide_eq_true (by intro z;cases z)]
  have e2:=q H2 (s1.trans s2);rw[<-e]at e2;exact e2
def rkK(p:Rk):List Key:=[.inl p.t,.inl p.l,.inl p.b,.inl p.r]
theorem IW{p q:Rk}(h:rkK p=rkK q):p=q:=by
 obtain⟨a,b,c,d⟩:=p;obtain⟨a',b',c',d'⟩:=q;simp only[rkK,List.cons.injEq,Sum.inl.injEq]at h;obtain⟨rfl,rfl,rfl,rfl,_⟩:=h;rfl
abbrev KV:=List (Rk×En)
def Bs(kv:KV)(p:Rk)(e:En):KV:=if kv.any (λ x=>decide (rkK x.1=rkK p)) then kv.map (λ x=>if rkK x.1=rkK p then (p,e) else x) else kv++[(p,e)]
def KvAt(H:Hp):LKz->KV->Prop
 |[],[]=>True
 |x::r,y::q=>(x.1=rkK y.1/\∃a,x.2=.ref a/\H a=some (.tup (enV y.2)))/\KvAt H r q
 |_,_=>False
theorem KvAt.len{H:Hp}:∀{kvs:LKz}{kv:KV},KvAt H kvs kv->kvs.length=kv.length
 |[],[],_=>rfl
 |x::r,y::q,h=>by rw[List.length_cons,List.length_cons,KvAt.len h.2]
 |[],_::_,h=>h.elim
 |_::_,[],h=>h.elim
theorem KvAt.tups{H H':Hp}(s:∀a xs,H a=some (.tup xs)->H' a=some (.tup xs)):∀{kvs:LKz}{kv:KV},KvAt H kvs kv->KvAt H' kvs kv
 |[],[],_=>trivial
 |x::r,y::q,h=>⟨⟨h.1.1,let ⟨a,b,c⟩:=h.1.2;⟨a,b,s _ _ c⟩⟩,KvAt.tups s h.2⟩
 |[],_::_,h=>h.elim
 |_::_,[],h=>h.elim
theorem KvAt.get{H:Hp}:∀{kvs:LKz}{kv:KV}{i:Nat}{x:List Key×V},KvAt H kvs kv->kvs[i]?=some x->∃y a,kv[i]?=some y/\x=(rkK y.1,.ref a)/\H a=some (.tup (enV y.2))
 |x::r,y::q,0,z,h,e=>by
  cases e;obtain⟨⟨h1,a,h2,h3⟩,_⟩:=h;exact⟨y,a,rfl,by rw[<-h1,<-h2],h3⟩
 |x::r,y::q,i+1,z,h,e=>KvAt.get (i:=i) h.2 e
 |[],[],i,z,_,e=>by simp at e
 |[],_::_,_,_,h,_=>h.elim
 |_::_,[],_,_,h,_=>h.elim
theorem KvAt.any{H:Hp}{k:List Key}:∀{kvs:LKz}{kv:KV},KvAt H kvs kv->(kvs.any λ x=>decide (x.1=k))=kv.any λ x=>decide (rkK x.1=k)
 |[],[],_=>rfl
 |x::r,y::q,h=>by rw[List.any_cons,List.any_cons,KvAt.any h.2,h.1.1]
 |[],_::_,h=>h.elim
 |_::_,[],h=>h.elim
theorem KvAt.mapPut{H:Hp}{p:Rk}{e:En}{c:Addr}(hc:H c=some (.tup (enV e))):∀{kvs:LKz}{kv:KV},KvAt H kvs kv->KvAt H (kvs.map λ x=>if x.1=rkK p then (x.1,.ref c) else x) (kv.map λ x=>if rkK x.1=rkK p then (p,e) else x)
 |[],[],_=>trivial
 |x::r,y::q,h=>by
  refine⟨?_,KvAt.mapPut hc h.2⟩;dsimp only;by_cases z:rkK y.1=rkK p
  .rw[if_pos (h.1.1.trans z),if_pos z];exact⟨h.1.1.trans z,c,rfl,hc⟩
  .rw[if_neg (λ w=>z (h.1.1.symm.trans w)),if_neg z];exact h.1
 |[],_::_,h=>h.elim
 |_::_,[],h=>h.elim
theorem KvAt.snoc{H:Hp}{p:Rk}{e:En}{c:Addr}(hc:H c=some (.tup (enV e))):∀{kvs:LKz}{kv:KV},KvAt H kvs kv->KvAt H (kvs++[(rkK p,.ref c)]) (kv++[(p,e)])
 |[],[],_=>⟨⟨rfl,c,rfl,hc⟩,trivial⟩
 |x::r,y::q,h=>⟨h.1,KvAt.snoc hc h.2⟩
 |[],_::_,h=>h.elim
 |_::_,[],h=>h.elim
theorem Kh(kv:KV)(p:Rk)(e:En):(Bs kv p e).length<=kv.length+1:=by
 unfold Bs;split
 .rw[List.length_map];lia
 .rw[List.length_append,List.length_singleton];exact Nat.le_refl _
theorem KvAt.put{H:Hp}{p:Rk}{e:En}{c:Addr}{kvs:LKz}{kv:KV}(h:KvAt H kvs kv)(hc:H c=some (.tup (enV e))):KvAt H (Bv kvs (rkK p) (.ref c)) (Bs kv p e):=by
 unfold Bv Bs;rw[h.any];split
 .exact h.mapPut hc
 .exact h.snoc hc
def BR(u:Bool)(k:Int)(s:KV×Rk):KV×Rk:=if k<s.2.len u then (Bs (Bs s.1 s.2 (.c u k)) (s.2.oth u k) (.w none),s.2.fst u k) else s
def D7(kv:KV)(p:Rk)(z:Int×Int):KV×Rk:=BR false z.2 (BR true z.1 (kv,p))
def Be(kv:KV)(p:Rk)(z:Int×Int)(n:Int):KV:=Bs (D7 kv p z).1 (D7 kv p z).2 (.w (some n))
theorem NZ{k:Int}{s:KV×Rk}:(BR true k s).2.len false=s.2.len false:=by
 unfold BR;split<;>rfl
def stp(kv:KV)(p:Rk)(z:Int×Int):Nat->KV×Rk
 |0=>(kv,p)
 |1=>BR true z.1 (kv,p)
 |_=>D7 kv p z
inductive Fx(vs:LUz)(H:Hp)(Q:VK)(E:XK):Prop
 |mk (d a c:Addr) (n:Int) (p:Rk) (t:DO) (z:Int×Int) (r:LI) (kvs:LKz) (kv:KV) (h0:vs=[.ref d,.ref a,.ref c,.int n]) (h1:H d=some (.dT kvs)) (h2:KvAt H kvs kv) (h3:kv.length<=500) (h4:H a=some (.tup p.vs)) (h5:H c=some (.tup [.int t.1,.int t.2.1,.bl t.2.2])) (h6:Bh t (p.len true) (p.len false)=z::r) (h7:∀b kvs' H',SameX d H H'->H' d=some (.dT kvs')->KvAt H' kvs' (Be kv p z n)->H' b=some (.tup (D7 kv p z).2.vs)->Q (.ref b) H'):Fx vs H Q E
def Gc:Sp:=λ vs H Q E=>Fx vs H Q E
abbrev Tn:LSz:=["entries","piece","want","number","size","lies","word","at","length"]
theorem Mx:Aq Tn ["entries","piece","want","number"] (Ag Ea):=fsc
theorem Kv{f:Addr}{fd:FuncData}(F:Fun K "cut_pane" "cut_pane" Ea f fd)(T:Txt mg tk)(D_size_of:A5 P w K mg base 1 "size_of" ["rectangle"] Ga)(D_ways_held:A5 P w K mg base 2 "ways_held" ["want","width","height"] FZ)(D_first_piece:A5 P w K mg base 1 "first_piece" ["piece","word","at"] L0)(D_other_piece:A5 P w K mg base 1 "other_piece" ["piece","word","at"] Lz):A8 P w K mg base CX0 3 f fd ["entries","piece","want","number"] Gc:=by
 have S:=Mx;refine F.ok S (λ vs H Q E h=>?_) (λ cdv A outer s H vs Q E hr h=>?_)
 .obtain⟨d,a,c,n,p,t,z,r,kvs,kv,rfl,_⟩:=h;rfl
 .obtain⟨d,a,c,n,p,t,z,r,kvs,kv,rfl,hd,hkv,few,ha,hc,hh,q⟩:=h;have hu:=KA hr;refine⟨_,(Ac (As (i:=4) S.nd rfl (Or.inl rfl) (Aw D_size_of hr (Aa (pv 1) Ab)))
   (Ac (As (i:=5) S.nd rfl (Or.inl rfl) (Ao Cc (Aw D_ways_held hr (Aa (pv 2) (Aa (Ao Ak (pv 4) Ad (λ_ _=>rfl)) (Aa (Ao Ak (pv 4) Ad (λ_ _=>rfl)) Ab)))) Ad (λ_ _=>rfl)))
   (Ac (C3 PassesOwn.never rfl (O9 (Av (Aa (Av (Aa (AM (v:=.str "upright") rfl T.g_UPRIGHT ⟨_,rfl⟩) (Aa (Ao Ak (pv 5) Ad (λ_ _=>rfl)) (Aa (Ao Ak (pv 4) Ad (λ_ _=>rfl)) Ab)))) (Aa (Av (Aa (AM (v:=.str "level") rfl T.g_LEVEL ⟨_,rfl⟩) (Aa (Ao Ak (pv 5) Ad (λ_ _=>rfl)) (Aa (Ao Ak (pv 4) Ad (λ_ _=>rfl)) Ab)))) Ab)))) (CW rfl (Am (An (i:=6) S.nd rfl (Or.inl rfl)) (Am (An (i:=7) S.nd rfl (Or.inl rfl)) (Am (An (i:=8) S.nd rfl (Or.inl rfl)) AB)))) (Ah (AJ (Ax Ia (pv 7) (pv 8) (Az _)) (Ac (E3 hu (pv 0) (pv 1) (Av (Aa (pv 6) (Aa (pv 7) Ab))) rfl)
   (Ac (E3 hu (pv 0) (Aw D_other_piece hr (Aa (pv 1) (Aa (pv 6) (Aa (pv 7) Ab)))) (Av (Aa (AM (v:=.str "whole") rfl T.g_WHOLE ⟨_,rfl⟩) (Aa AY Ab))) rfl)
   (Ah (As (i:=1) S.nd rfl (Or.inl rfl) (Aw D_first_piece hr (Aa (pv 1) (Aa (pv 6) (Aa (pv 7) Ab)))))))) Ay)))
   (Ac (E3 hu (pv 0) (pv 1) (Av (Aa (AM (v:=.str "whole") rfl T.g_WHOLE ⟨_,rfl⟩) (Aa (pv 3) Ab))) rfl)
   (Ah (Ar (pv 1))))))),?_⟩
  refine⟨_,rfl,a,p,rfl,ha,λ y hy=>?_⟩;obtain⟨H1,g,s1,e1⟩:=nw (.tup [.int (p.len true),.int (p.len false)]) hy;rw[g];refine⟨_,rfl,_,rfl,y,_,_,_,rfl,rfl,SqT.of e1,Bz,_,rfl,y,_,_,_,rfl,rfl,SqT.of e1,By,c,t,_,_,rfl,s1 _ _ hc,λ l H2 s2 nl tl=>?_⟩;rw[hh]at tl;obtain⟨ts,l2,l3,l4⟩:=tl;obtain⟨x0,ts',rfl,rfl⟩:∃x0 ts',ts=x0::ts'/\x0.2=z:=by
   match ts,l4 with
   |x::r',l4=>exact⟨x,r',rfl,(List.cons.inj l4).1⟩
  have hz:=l3 x0 List.mem_cons_self;refine⟨l,_,_,_,rfl,rfl,SqL.of l2,R1,?_⟩;have s12:=s1.trans s2;have y2:=s2 _ _ e1;refine⟨_,rfl,x0.1,_,_,_,rfl,rfl,SqT.of hz,Bz,_,rfl,y,_,_,_,rfl,rfl,SqT.of y2,Bz,Au 3,λ b1 n1=>?_⟩;obtain⟨H3,g,s3,e3⟩:=nw (.tup [.str "upright",.int x0.2.1,.int (p.len true)]) n1;rw[g];have e3:H3 b1=some (.tup [.str (wd true),.int x0.2.1,.int (p.len true)]):=e3;refine⟨_,rfl,x0.1,_,_,_,rfl,rfl,SqT.of (s3 _ _ hz),By,_,rfl,y,_,_,_,rfl,rfl,SqT.of (s3 _ _ y2),By,Au 3,λ b2 n2=>?_⟩;obtain⟨H4,g,s4,e4⟩:=nw (.tup [.str "level",.int x0.2.2,.int (p.len false)]) n2;rw[g];have e4:H4 b2=some (.tup [.str (wd false),.int x0.2.2,.int (p.len false)]):=e4;refine⟨Au 2,λ bt nt=>?_⟩;obtain⟨H5,g,s5,e5⟩:=nw (.tup [.ref b1,.ref b2]) nt;rw[g];have s05:=s12.trans (s3.trans (s4.trans s5));have d5:=s05 _ _ hd;have b15:=(s4.trans s5) _ _ e3;have b25:=s5 _ _ e4;have ned:∀{x:Addr}{xs:LUz},H5 x=some (.tup xs)->x≠d:=λ e z=>by rw[z,d5]at e;cases e
  refine⟨bt,rfl,⟨_,SqT.of e5⟩,MY (K:=K) (a:=bt) (xs:=[.ref b1,.ref b2]) (λ i σ H'=>∃(a':Addr)(w6 w7 w8:Option V)(kvs':LKz),σ=[some (.ref d),some (.ref a'),some (.ref c),some (.int n),some (.ref y),some (.ref x0.1),w6,w7,w8]/\SameX d H5 H'/\H' d=some (.dT kvs')/\KvAt H' kvs' (stp kv p x0.2 i).1/\(stp kv p x0.2 i).1.length<=500+2*i/\H' a'=some (.tup (stp kv p x0.2 i).2.vs))
   ⟨a,none,none,none,kvs,rfl,SameX.refl,d5,hkv.tups λ b xs e=>s05 _ _ e,few,s05 _ _ ha⟩ (λ i σ H' _ hp=>by obtain⟨_,_,_,_,_,_,sx,_⟩:=hp;exact SqT.of (sx _ _ (ned e5) e5)) ?_ ?_⟩
  .rintro i x σ H' hx ⟨a',w6,w7,w8,kvs',rfl,sx,d6,kv6,few6,a6⟩;obtain⟨b,u,k,rfl,hb,hst⟩:∃(b:Addr)(u:Bool)(k:Int),x=.ref b/\H5 b=some (.tup [.str (wd u),.int k,.int ((stp kv p x0.2 i).2.len u)])/\stp kv p x0.2 (i+1)=BR u k (stp kv p x0.2 i):=by
    match i,hx with
    |0,hx=>cases hx;exact⟨b1,true,x0.2.1,rfl,b15,rfl⟩
    |1,hx=>cases hx;exact⟨b2,false,x0.2.2,rfl,by show H5 b2=some (.tup [.str (wd false),.int x0.2.2,.int ((BR true x0.2.1 (kv,p)).2.len false)]);rw[NZ];exact b25,rfl⟩
   rw[hst];generalize stp kv p x0.2 i=S0 at kv6 few6 a6 hb |-;obtain⟨kv0,p0⟩:=S0;have kv6:KvAt H' kvs' kv0:=kv6;have a6:H' a'=some (.tup p0.vs):=a6;have hb6:=sx _ _ (ned hb) hb;refine⟨b,_,rfl,SqT.of hb6,rfl,_,_,rfl,_,_,rfl,_,_,rfl,rfl,?_⟩;refine⟨_,rfl,_,rfl,_,_,rfl,rfl,_,rfl,Ef (λ cc=>?_) (λ cc=>?_)⟩
   .have k1:=of_decide_eq_true cc;have fk0:kv0.length<=500+2*i:=few6;have i2:i<2:=by
     match i,hx with
     |0,_=>lia
     |1,_=>lia
    have kl:=kv6.len;refine⟨_,rfl,_,rfl,Au 2,λ v1 nv1=>?_⟩;have t1:SameX d H5 (upd H' v1 (.tup [.str (wd u),.int k])):=sx.trans (SameX.new nv1);have f1:(upd H' v1 (.tup [.str (wd u),.int k])) v1=some (.tup (enV (.c u k))):=upd_same;obtain⟨H6,g,g1,_⟩:=nw (.tup [.str (wd u),.int k]) nv1;rw[g] at t1 f1 |-;have d7:=g1 _ _ d6;have a7:=g1 _ _ a6;refine⟨_,rfl,_,rfl,d,_,rfl,DPut.t (k:=rkK p0) d7 a7 (Nat.lt_of_le_of_lt (Nat.le_of_eq kl) (Ap (by lia))),?_⟩;have kv7:=(kv6.tups λ b xs e=>g1 _ _ e).put (p:=p0) f1;have t2:SameX d H6 (upd H6 d (.dT (Bv kvs' (rkK p0) (.ref v1)))):=SameX.upd;have d8:(upd H6 d (.dT (Bv kvs' (rkK p0) (.ref v1)))) d=some (.dT (Bv kvs' (rkK p0) (.ref v1))):=upd_same;have nt2:∀{x:Addr}{xs:LUz},H6 x=some (.tup xs)->x≠d:=λ e z=>by rw[z,d7]at e;cases e
    generalize upd H6 d (.dT (Bv kvs' (rkK p0) (.ref v1)))=H7 at t2 d8 |-;have a8:=t2 _ _ (nt2 a7) a7;have kv8:=kv7.tups λ b xs e=>t2 _ _ (nt2 e) e;refine⟨Au 2,λ v2 nv2=>?_⟩;obtain⟨H8,g,g3,f3⟩:=nw (.tup [.str "whole",.non]) nv2;rw[g];have f3:H8 v2=some (.tup (enV (.w none))):=f3;refine⟨_,rfl,_,rfl,_,rfl,_,rfl,a',p0,u,k,rfl,g3 _ _ a8,λ x1 nx1=>?_⟩;obtain⟨H9,g,g4,f4⟩:=nw (.tup (p0.oth u k).vs) nx1;rw[g];have g34:=g3.trans g4;have d9:=g34 _ _ d8;have kv9:=kv8.tups λ b xs e=>g34 _ _ e;have l9:=kv9.len;have pl:=Kh kv0 p0 (.c u k);refine⟨d,_,rfl,DPut.t (k:=rkK (p0.oth u k)) d9 f4 (Nat.lt_of_le_of_lt (Nat.le_of_eq l9) (Ap (by lia))),?_⟩;have kv10:=kv9.put (p:=p0.oth u k) (g4 _ _ f3);have t5:SameX d H9 (upd H9 d (.dT (Bv (Bv kvs' (rkK p0) (.ref v1)) (rkK (p0.oth u k)) (.ref v2)))):=SameX.upd;have d10:(upd H9 d (.dT (Bv (Bv kvs' (rkK p0) (.ref v1)) (rkK (p0.oth u k)) (.ref v2)))) d=some (.dT (Bv (Bv kvs' (rkK p0) (.ref v1)) (rkK (p0.oth u k)) (.ref v2))):=upd_same;have nt5:∀{x:Addr}{xs:LUz},H9 x=some (.tup xs)->x≠d:=λ e z=>by rw[z,d9]at e;cases e
    generalize upd H9 d (.dT (Bv (Bv kvs' (rkK p0) (.ref v1)) (rkK (p0.oth u k)) (.ref v2)))=H10 at t5 d10 |-;have a9:=g34 _ _ a8;refine⟨_,rfl,_,rfl,_,rfl,a',p0,u,k,rfl,t5 _ _ (nt5 a9) a9,λ x2 nx2=>?_⟩;obtain⟨H11,g,g6,f6⟩:=nw (.tup (p0.fst u k).vs) nx2;rw[g];have cS:BR u k (kv0,p0)=(Bs (Bs kv0 p0 (.c u k)) (p0.oth u k) (.w none),p0.fst u k):=by unfold BR;rw[if_pos k1]
    rw[cS];have pl2:=Kh (Bs kv0 p0 (.c u k)) (p0.oth u k) (.w none);refine⟨x2,_,_,_,_,rfl,t1.trans (t2.trans (g34.x.trans (t5.trans g6.x))),g6 _ _ d10,(kv10.tups λ b xs e=>t5 _ _ (nt5 e) e).tups λ b xs e=>g6 _ _ e,?_,f6⟩;show(Bs (Bs kv0 p0 (.c u k)) (p0.oth u k) (.w none)).length<=_;lia
   .refine⟨a',_,_,_,kvs',rfl,sx,d6,?_,?_,?_⟩
    all_goals rw[show BR u k (kv0,p0)=(kv0,p0) from by unfold BR;rw[if_neg (of_decide_eq_false cc)]]
    .exact kv6
    .show kv0.length<=_;have:kv0.length<=500+2*i:=few6;lia
    .exact a6
  .rintro σ H' ⟨a',w6,w7,w8,kvs',rfl,sx,d6,kv6,few6,a6⟩;have kl:=kv6.len;have few6:(stp kv p x0.2 2).1.length<=504:=few6;have kv6:KvAt H' kvs' (D7 kv p x0.2).1:=kv6;have few7:(D7 kv p x0.2).1.length<=504:=few6;have a6:H' a'=some (.tup (D7 kv p x0.2).2.vs):=a6;refine⟨_,rfl,Au 2,λ v1 nv1=>?_⟩;obtain⟨H6,g,g1,f1⟩:=nw (.tup [.str "whole",.int n]) nv1;rw[g];have f1:H6 v1=some (.tup (enV (.w (some n)))):=f1;have d7:=g1 _ _ d6;have a7:=g1 _ _ a6;have kl':=kv6.len;refine⟨_,rfl,_,rfl,d,_,rfl,DPut.t (k:=rkK (D7 kv p x0.2).2) d7 a7 (Nat.lt_of_le_of_lt (Nat.le_of_eq kl') (Ap (by lia))),?_⟩;have kv7:=(kv6.tups λ b xs e=>g1 _ _ e).put (p:=(D7 kv p x0.2).2) f1;have t2:SameX d H6 (upd H6 d (.dT (Bv kvs' (rkK (D7 kv p x0.2).2) (.ref v1)))):=SameX.upd;have nt2:∀{x:Addr}{xs:LUz},H6 x=some (.tup xs)->x≠d:=λ e z=>by rw[z,d7]at e;cases e
   exact⟨_,rfl,q a' _ _ (s05.x.trans (sx.trans (g1.x.trans t2))) upd_same (kv7.tups λ b xs e=>t2 _ _ (nt2 e) e) (t2 _ _ (nt2 a7) a7)⟩
structure JP(K:Frag)(C:Addr):Prop where
 cl:Cls K C
 n_stock:NoAttr K C "stock"
 n_taken:NoAttr K C "taken"
def bnF(ls lt:Addr):LFz:=Bn "taken" (.ref lt) (Bn "stock" (.ref ls) [])
theorem KS(ls lt:Addr):(bnF ls lt).lookup ("stock":Str)=some (.ref ls):=by
 unfold bnF;rw[A7,if_neg (by decide +kernel),A7,if_pos rfl]
theorem GN(ls lt:Addr):(bnF ls lt).lookup ("taken":Str)=some (.ref lt):=by
 unfold bnF;rw[A7,if_pos rfl]
abbrev Tk1:=Addr×Int×Addr×LKz×KV
def TkAt(H:Hp)(t:Tk1):Prop:=H t.1=some (.tup [.int t.2.1,.ref t.2.2.1])/\H t.2.2.1=some (.dT t.2.2.2.1)/\KvAt H t.2.2.2.1 t.2.2.2.2
structure BnAt(C a dx ls lt:Addr)(H:Hp)(ss:LZ)(tn:List Tk1):Prop where
 ob:H a=some (.ins C dx (bnF ls lt))
 lst:H ls=some (.lst (Ai ss))
 stk:∀t∈ss,H t.1=some (.tup (Rk.vs ⟨0,0,t.2.2,t.2.1⟩))
 tak:H lt=some (.lst (Ai tn))
 tks:∀t∈tn,TkAt H t
 dis:(tn.map λ t=>t.2.2.1).Nodup
theorem TkAt.same{H H':Hp}{t:Tk1}(h:TkAt H t)(s:Same H H'):TkAt H' t:=⟨s _ _ h.1,s _ _ h.2.1,h.2.2.tups λ a xs e=>s _ _ e⟩
theorem BnAt.same{C a dx ls lt:Addr}{H H':Hp}{ss:LZ}{tn:List Tk1}(h:BnAt C a dx ls lt H ss tn)(s:Same H H'):BnAt C a dx ls lt H' ss tn :=
 ⟨s _ _ h.ob,s _ _ h.lst,λ t ht=>s _ _ (h.stk t ht),s _ _ h.tak,λ t ht=>(h.tks t ht).same s,h.dis⟩
def wh1(i:Int)(kv:KV):LR:=kv.filterMap λ x=>match x.2 with
 |.w m=>some (i,x.1,m)
 |.c _ _=>none
def whs:Int->List KV->LR
 |_,[]=>[]
 |i,kv::r=>wh1 i kv++whs (i+1) r
theorem Et:∀(i:Int)(r:List KV)(kv:KV),whs i (r++[kv])=whs i r++wh1 (i+r.length) kv
 |i,[],kv=>by show wh1 i kv++[]=[]++wh1 (i+0) kv;rw[List.append_nil,Int.add_zero];rfl
 |i,x::r,kv=>by
  show wh1 i x++whs (i+1) (r++[kv])=(wh1 i x++whs (i+1) r)++wh1 (i+((r.length+1:Nat):Int)) kv;rw[Et (i+1) r kv,List.append_assoc,show i+1+(r.length:Int)=i+((r.length+1:Nat):Int) by lia]
abbrev Wr:=Addr×Addr×Int×Rk×Option Int
def WrAt(H:Hp)(t:Wr):Prop:=H t.1=some (.tup [.int t.2.2.1,.ref t.2.1,Bl t.2.2.2.2])/\H t.2.1=some (.tup t.2.2.2.1.vs)
theorem WrAt.tups{H H':Hp}(s:∀a xs,H a=some (.tup xs)->H' a=some (.tup xs)){t:Wr}(h:WrAt H t):WrAt H' t:=⟨s _ _ h.1,s _ _ h.2⟩
inductive Fu(C:Addr)(vs:LUz)(H:Hp)(Q:VK)(E:XK):Prop
 |mk (a dx ls lt:Addr) (ss:LZ) (tn:List Tk1) (h0:vs=[.ref a]) (h1:BnAt C a dx ls lt H ss tn) (h2:tn.length<=100) (h3:(∀t∈tn,t.2.2.2.2.length<=250)) (h4:∀l ts H',Same H H'->H l=none->H' l=some (.lst (Ai ts))->(∀t∈ts,WrAt H' t)->ts.map (λ t:Wr=>t.2.2)=whs 0 (tn.map λ t=>t.2.2.2.2)->Q (.ref l) H'):Fu C vs H Q E
def DU(C:Addr) :Sp:=λ vs H Q E=>Fu C vs H Q E
theorem DA:Aq ["self","found","number","sheet"] ["self"] (Ag Bm):=fsc
theorem Df{f:Addr}{fd:FuncData}{C:Addr}(F:Fun K "whole_pieces" "Bench.whole_pieces" Bm f fd)(T:Txt mg tk)(BC:JP K C):A8 P w K mg base CX0 1 f fd ["self"] (DU C):=by
 have S:=DA;refine F.ok S (λ vs H Q E h=>?_) (λ cdv A outer s H vs Q E hr h=>?_)
 .obtain⟨a,dx,ls,lt,ss,tn,rfl,_⟩:=h;rfl
 .obtain⟨a,dx,ls,lt,ss,tn,rfl,bn,few,fk,q⟩:=h;refine⟨_,(Ac (As (i:=1) S.nd rfl (Or.inl rfl) (BJ Ab))
   (Ac (C3 PassesOwn.never rfl (Jc rfl T.z_enumerate (Aa (Bo (pv 0) rfl) Ab)) (CW rfl (Am (An (i:=2) S.nd rfl (Or.inr rfl)) (Am (An (i:=3) S.nd rfl (Or.inl rfl)) AB))) (Ah (B0 (DQ PySem.F.plainAttrs_list PySem.F.slot_list_extend PySem.F.type_list_extend ND (pv 1) (Aa (PP (CF rfl (N6 (Ao Ak (pv 3) Ad (λ_ _=>rfl))) (λ_ _ _ _ _=>(AV (K:=K) (n:=2) rfl (Am (An (i:=0) (show List.Nodup (["piece","entry","number"]:LSz) from by decide +kernel) rfl (Or.inl rfl)) (Am (An (i:=1) (show List.Nodup (["piece","entry","number"]:LSz) from by decide +kernel) rfl (Or.inl rfl)) AB)))) (λ_ _ _ _ _=>(Ax CH (Ao (Ct (K:=K)) (pv 1) Ad (λ_ _=>rfl)) (AM (v:=.str "whole") rfl T.g_WHOLE ⟨_,rfl⟩) (Az _))) (λ_ _ _ _ _=>(Av (Aa (pv 2) (Aa (pv 0) (Aa (Ao (Ct (K:=K)) (pv 1) Ad (λ_ _=>rfl)) Ab))))) (N:=["piece","entry","number"]) (fr:=[none,none,some 2]))) Ab)))))
   (Ah (Ar (pv 1))))),?_⟩
  refine⟨Au 0,λ l nl=>?_⟩;obtain⟨H0,g,s0,e0⟩:=nw (.lst []) nl;rw[g];have bn0:=bn.same s0;refine⟨_,rfl,a,C,dx,_,_,rfl,bn0.ob,BC.cl,BC.n_taken,GN _ _,?_⟩;refine⟨lt,rfl,⟨_,SqL.of bn0.tak⟩,KC (K:=K) (a:=lt) (xs:=Ai tn) (λ i σ H'=>∃(w2 w3:Option V)(ts:List Wr),σ=[some (.ref a),some (.ref l),w2,w3]/\Same H H'/\H' l=some (.lst (Ai ts))/\(∀t∈ts,WrAt H' t)/\ts.map (λ t:Wr=>t.2.2)=whs 0 ((tn.take i).map λ t=>t.2.2.2.2)/\ts.length<=250*i)
   ⟨none,none,[],rfl,s0,e0,(λ t ht=>nomatch ht),rfl,Nat.le_refl _⟩ (λ i σ H' _ hp=>by obtain⟨_,_,_,_,s',_⟩:=hp;exact SqL.of (s' _ _ bn.tak)) ?_ ?_⟩
  .rintro i x σ H1 t0 hx ⟨w2,w3,ts,rfl,s1,l1,wr1,eq1,K5⟩ nt0;obtain⟨u,hu',rfl⟩:=AC hx;have um:=List.mem_of_getElem? hu';obtain⟨H2,g,s2,e2⟩:=nw (.tup [.int i,.ref u.1]) nt0;rw[g];have s02:=s1.trans s2;have tk2:=(bn.tks u um).same s02;obtain⟨g1,g2,g3⟩:=tk2;have fku:=fk u um;have kl:=g3.len;refine⟨t0,_,rfl,SqT.of e2,rfl,_,_,rfl,_,_,rfl,rfl,?_⟩;refine⟨_,rfl,.inl ⟨rfl,_,SqL.of (s2 _ _ l1)⟩,?_⟩;refine⟨_,rfl,u.1,_,_,_,rfl,rfl,SqT.of g1,By,u.2.2.1,_,rfl,g2,λ ob acc hacc=>?_⟩;have nd:∀{b:Addr},(upd H2 u.2.2.1 (.frz ob (.dT u.2.2.2.1))) b=none->b≠u.2.2.1:=λ z c=>by rw[c,upd_same]at z;cases z
   have fd:(upd H2 u.2.2.1 (.frz ob (.dT u.2.2.2.1))) u.2.2.1=some (.frz ob (.dT u.2.2.2.1)):=upd_same;have fo:∀{b:Addr}{o:HO},b≠u.2.2.1->H2 b=some o->(upd H2 u.2.2.1 (.frz ob (.dT u.2.2.2.1))) b=some o:=λ n e=>by rw[Ae n];exact e
   have nacc:=nd hacc;have tupd:∀{b:Addr}{xs:LUz},H2 b=some (.tup xs)->b≠u.2.2.1:=λ e z=>by rw[z,g2]at e;cases e
   have ld:l≠u.2.2.1:=λ z=>by have:=s2 _ _ l1;rw[z,g2]at this;cases this
   have lacc:l≠acc:=λ z=>by have:=fo ld (s2 _ _ l1);rw[z,hacc]at this;cases this
   generalize hHf:upd H2 u.2.2.1 (.frz ob (.dT u.2.2.2.1))=Hf at hacc nd fd fo |-;have g3f:KvAt Hf u.2.2.2.1 u.2.2.2.2:=g3.tups λ b xs e=>fo (tupd e) e;refine JC (a:=u.2.2.1) (ob:=ob) (kvs:=u.2.2.2.1) (λ j zs σ H'=>(∃y z,σ=[y,z,some (.int i)])/\Same Hf H'/\∃us:List Wr,zs=Ai us/\(∀t∈us,WrAt H' t)/\us.map (λ t:Wr=>t.2.2)=wh1 i (u.2.2.2.2.take j)) ⟨⟨none,none,rfl⟩,Same.new hacc,[],rfl,(λ t ht=>nomatch ht),rfl⟩ (λ j zs σ H' _ _ hp=>hp.2.1 _ _ fd) ?_ ?_
   .rintro j p t1 b zs σ H' hp hj hl' hacc' ⟨⟨y,z,rfl⟩,hs,us,rfl,wu,eu⟩ hb ht1;obtain⟨ye,c,e1,rfl,e3⟩:=g3f.get hp;have e3':=hs _ _ e3;have s3:Same H' (upd H' t1 (.tup [.ref b,.ref c])):=Same.new ht1;have f3:(upd H' t1 (.tup [.ref b,.ref c])) t1=some (.tup [.ref b,.ref c]):=upd_same;have tk1:u.2.2.2.2.take (j+1)=u.2.2.2.2.take j++[ye]:=by rw[List.take_succ,e1];rfl
    dsimp only;generalize upd H' t1 (.tup [.ref b,.ref c])=H3 at s3 f3 |-;obtain⟨pe,ee⟩:=ye;have hb3:H3 b=some (.tup pe.vs):=s3 _ _ hb;have e33:=s3 _ _ e3';refine⟨t1,_,rfl,SqT.of f3,rfl,_,_,rfl,_,_,rfl,rfl,?_⟩;cases ee with
    |w m =>
     refine⟨_,rfl,c,_,_,_,rfl,rfl,SqT.of e33,Bz,rfl,true,congrArg V.bl (decide_eq_true rfl),?_⟩;refine⟨_,rfl,_,rfl,_,rfl,c,_,_,_,rfl,rfl,SqT.of e33,By,Au 3,λ r1 nr1=>?_⟩;obtain⟨H4,g,s4,f4⟩:=nw (.tup [.int i,.ref b,Bl m]) nr1;rw[g];have s34:=s3.trans s4;have a4:=s34 _ _ hacc';refine fNx.mk (Nat.le_of_lt (Ap (by lia))) hj hl' a4 ⟨⟨_,_,rfl⟩,λ d o e=>by rw[Ae (Af e hacc)];exact s34 _ _ (hs d o e),us++[(r1,b,(i:Int),pe,m)],by rw[Ai,Ai,List.map_append];rfl,λ t ht=>?_,?_⟩
     .have kp:∀x xs,H4 x=some (.tup xs)->(upd H4 acc (.lst (Ai us++[.ref r1]))) x=some (.tup xs):=λ x xs e=>by rw[Ae (λ z=>by rw[z,a4]at e;cases e)];exact e
      rcases List.mem_append.mp ht with ht|ht
      .exact((wu t ht).tups λ x xs e=>s34 _ _ e).tups kp
      .rw[List.mem_singleton.mp ht];exact⟨kp _ _ f4,kp _ _ (s4 _ _ hb3)⟩
     .rw[List.map_append,eu,tk1];unfold wh1;rw[List.filterMap_append];rfl
    |c uu k =>
     refine⟨_,rfl,c,_,_,_,rfl,rfl,SqT.of e33,Bz,rfl,false,congrArg V.bl (Eu uu),?_⟩;refine fSk.mk hj hl' (s3 _ _ hacc') ⟨⟨_,_,rfl⟩,hs.trans s3,us,rfl,λ t ht=>(wu t ht).tups λ x xs e=>s3 _ _ e,?_⟩;rw[eu,tk1];unfold wh1;rw[List.filterMap_append];exact(List.append_nil _).symm
   .rintro zs σ H' hl' hacc' ⟨_,hs,us,rfl,wu,eu⟩;rw[kl,List.take_length]at eu;have lu:=congrArg List.length eu;rw[List.length_map]at lu;have lw:(wh1 i u.2.2.2.2).length<=u.2.2.2.2.length:=List.length_filterMap_le _ _;refine⟨u.2.2.1,ob,_,hs _ _ fd,(λ o w z=>by have z:H u.2.2.1=some (.frz o w):=z;rw[(bn.tks u um).2.1]at z;cases z),?_⟩;have s3:Same H2 (upd H' u.2.2.1 (.dT u.2.2.2.1)):=λ b o e=>by
     by_cases hb:b=u.2.2.1
     .rw[hb]at e |-;rw[g2]at e;cases e;exact upd_same
     .rw[Ae hb];exact hs _ _ (fo hb e)
    have kp:∀x xs,H' x=some (.tup xs)->(upd H' u.2.2.1 (.dT u.2.2.2.1)) x=some (.tup xs):=λ x xs e=>by rw[Ae (λ z=>by rw[z,hs _ _ fd]at e;cases e)];exact e
    have a3:(upd H' u.2.2.1 (.dT u.2.2.2.1)) acc=some (.lst (Ai us)):=by rw[Ae nacc];exact hacc'
    have wu3:=λ t ht=>(wu t ht).tups kp;generalize upd H' u.2.2.1 (.dT u.2.2.2.1)=H3 at s3 a3 wu3 |-;have l3:=s3 _ _ (s2 _ _ l1);refine⟨l,acc,_,_,rfl,rfl,l3,a3,?_,?_⟩
    .have i100:i<tn.length:=(List.getElem?_eq_some_iff.mp hu').1;exact Nat.le_of_lt (QT (by rw[Al,Al];lia))
    have kp4:∀x xs,H3 x=some (.tup xs)->(upd H3 l (.lst (Ai ts++Ai us))) x=some (.tup xs):=λ x xs e=>by rw[Ae (λ z=>by rw[z,l3]at e;cases e)];exact e
    have s23:=s2.trans s3;refine⟨_,_,ts++us,rfl,λ b o e=>by rw[Ae (Af e nl)];exact s23 _ _ (s1 _ _ e),by rw[upd_same,Ai,Ai,Ai,List.map_append],λ t ht=>?_,?_,?_⟩
    .rcases List.mem_append.mp ht with ht|ht
     .exact((wr1 t ht).tups λ x xs e=>s23 _ _ e).tups kp4
     .exact(wu3 t ht).tups kp4
    .rw[List.map_append,eq1,eu,List.take_succ,hu',List.map_append];show _=whs 0 (_++[u.2.2.2.2]);rw[Et,List.length_map,List.length_take,Int.zero_add];have:min i tn.length=i:=Nat.min_eq_left (Nat.le_of_lt (List.getElem?_eq_some_iff.mp hu').1);rw[this]
    .rw[List.length_append];lia
  .rintro σ H1 ⟨w2,w3,ts,rfl,s1,l1,wr1,eq1,K5⟩;rw[Al,List.take_length]at eq1;exact⟨_,rfl,q l ts H1 s1 nl l1 wr1 eq1⟩
theorem Ca(ls lt:Addr){m:Str}(h1:¬m="taken")(h2:¬m="stock"):(bnF ls lt).lookup m=none:=by
 unfold bnF;rw[A7,if_neg h1,A7,if_neg h2];rfl
def M2(tn:List Tk1):Prop:=tn.length<=100/\(∀t∈tn,t.2.2.2.2.length<=250)/\(whs 0 (tn.map λ t=>t.2.2.2.2)).length<=900
def Bg(L:LR):List Rk:=L.filterMap λ x=>match x.2.2 with
 |some _=>some x.2.1
 |none=>none
abbrev Pr1:=Addr×Rk
inductive EO(C:Addr)(vs:LUz)(H:Hp)(Q:VK)(E:XK):Prop
 |mk (a dx ls lt:Addr) (ss:LZ) (tn:List Tk1) (h0:vs=[.ref a]) (h1:BnAt C a dx ls lt H ss tn) (h2:M2 tn) (h3:∀l ts H',Same H H'->H l=none->H' l=some (.lst (Ai ts))->(∀t∈ts,H' t.1=some (.tup t.2.vs))->ts.map (λ t:Pr1=>t.2)=Bg (whs 0 (tn.map λ t=>t.2.2.2.2))->Q (.ref l) H'):EO C vs H Q E
def Di(C:Addr) :Sp:=λ vs H Q E=>EO C vs H Q E
theorem EJ:Aq ["self"] ["self"] (Ag BD):=fsc
theorem Ee{f:Addr}{fd:FuncData}{C:Addr}(F:Fun K "panes_cut" "Bench.panes_cut" BD f fd)(BC:JP K C)(M_Bench_whole_pieces:GZ P w K mg base 1 C "whole_pieces" ["self"] (DU C)):A8 P w K mg base CX0 2 f fd ["self"] (Di C):=by
 have S:=EJ;refine F.ok S (λ vs H Q E h=>?_) (λ cdv A outer s H vs Q E hr h=>?_)
 .obtain⟨a,dx,ls,lt,ss,tn,rfl,_⟩:=h;rfl
 .obtain⟨a,dx,ls,lt,ss,tn,rfl,bn,⟨few,fk,fw⟩,q⟩:=h;refine⟨_,(Ah (Ar (CF rfl (AL (C4 M_Bench_whole_pieces hr (pv 0))) (λ_ _ _ _ _=>(AV (K:=K) (n:=3) rfl (Am (An (i:=0) (show List.Nodup (["number","piece","mark"]:LSz) from by decide +kernel) rfl (Or.inl rfl)) (Am (An (i:=1) (show List.Nodup (["number","piece","mark"]:LSz) from by decide +kernel) rfl (Or.inl rfl)) (Am (An (i:=2) (show List.Nodup (["number","piece","mark"]:LSz) from by decide +kernel) rfl (Or.inl rfl)) AB))))) (λ_ _ _ _ _=>(Ax FH (pv 2) AY (Az _))) (λ_ _ _ _ _=>(pv 1)) (N:=["number","piece","mark"]) (fr:=[none,none,none])))),?_⟩;refine⟨_,rfl,a,dx,_,rfl,bn.ob,Ca _ _ (by decide +kernel) (by decide +kernel),a,dx,ls,lt,ss,tn,rfl,bn,few,fk,λ l ts H1 s1 nl hl wr eq=>?_⟩;have tl:=congrArg List.length eq;rw[List.length_map]at tl;refine⟨l,rfl,⟨_,SqL.of hl⟩,λ acc hacc=>BM (K:=K) (a:=l) (ys:=Ai ts) (λ i zs σ H'=>(∃x y z,σ=[x,y,z])/\Same H1 H'/\∃us:List Pr1,zs=Ai us/\(∀t∈us,H' t.1=some (.tup t.2.vs))/\us.map (λ t:Pr1=>t.2)=Bg ((ts.map λ t:Wr=>t.2.2).take i)) ⟨⟨none,none,none,rfl⟩,Same.new hacc,[],rfl,(λ t ht=>nomatch ht),rfl⟩ (λ i zs σ H' _ _ hp=>SqL.of (hp.2.1 _ _ hl)) ?_ ?_⟩
  .rintro i x zs σ H' hx hi hl' hacc' ⟨⟨x0,y0,z0,rfl⟩,hs,us,rfl,wu,eu⟩;obtain⟨t,ht,rfl⟩:=AC hx;obtain⟨w1,w2⟩:=(wr t (List.mem_of_getElem? ht)).tups λ x xs e=>hs _ _ e;obtain⟨ta,tb,tn',tp,tm⟩:=t;have tk1:(ts.map λ t:Wr=>t.2.2).take (i+1)=(ts.map λ t:Wr=>t.2.2).take i++[(tn',tp,tm)]:=by rw[List.take_succ,List.getElem?_map,ht];rfl
   refine⟨ta,_,rfl,SqT.of w1,rfl,_,_,rfl,_,_,rfl,_,_,rfl,rfl,?_⟩;cases tm with
   |some m =>
    refine⟨_,rfl,rfl,true,congrArg V.bl (by rw[decide_eq_false (by intro z;cases z)];rfl),?_⟩;refine⟨_,rfl,fNx.mk (Nat.le_of_lt (Ap (by rw[Al];lia))) hi hl' hacc' ⟨⟨_,_,_,rfl⟩,λ d o e=>by rw[Ae (Af e hacc)];exact hs d o e,us++[(tb,tp)],by rw[Ai,Ai,List.map_append];rfl,λ u hu=>?_,?_⟩⟩
    .have kp:∀x xs,H' x=some (.tup xs)->(upd H' acc (.lst (Ai us++[.ref tb]))) x=some (.tup xs):=λ x xs e=>by rw[Ae (λ z=>by rw[z,hacc']at e;cases e)];exact e
     rcases List.mem_append.mp hu with hu|hu
     .exact kp _ _ (wu u hu)
     .rw[List.mem_singleton.mp hu];exact kp _ _ w2
    .rw[List.map_append,eu,tk1];unfold Bg;rw[List.filterMap_append];rfl
   |none =>
    refine⟨_,rfl,rfl,false,congrArg V.bl (by show(!decide (V.non=V.non))=false;rw[decide_eq_true rfl];rfl),?_⟩;refine fSk.mk hi hl' hacc' ⟨⟨_,_,_,rfl⟩,hs,us,rfl,wu,?_⟩;rw[eu,tk1];unfold Bg;rw[List.filterMap_append];exact(List.append_nil _).symm
  .rintro zs σ H' hl' hacc' ⟨_,hs,us,rfl,wu,eu⟩;rw[Al,<-List.length_map (f:=λ t:Wr=>t.2.2),List.take_length,eq]at eu;exact q acc us H' (s1.trans hs) (Cq s1 hacc) hacc' wu eu
def A9(L:LR):LK:=L.filterMap λ x=>match x.2.2 with
 |some _=>none
 |none=>some (x.1,x.2.1)
abbrev Of1:=Addr×Addr×Int×Rk
def toR(t:Of1):Rwt:=(t.1,[t.2.2.1],t.2.1,[t.2.2.2.t,t.2.2.2.l,t.2.2.2.b,t.2.2.2.r])
def Jv:List Int->Int
 |[n,t,l,b,r]=>(((n*13+t)*13+l)*13+b)*13+r
 |_=>0
def OO(y:Int×Rk):Int:=Jv [y.1,y.2.t,y.2.l,y.2.b,y.2.r]
theorem Rn{n t l b r n' t' l' b' r':Int}(h:0<=t/\t<=12/\0<=l/\l<=12/\0<=b/\b<=12/\0<=r/\r<=12)(h':0<=t'/\t'<=12/\0<=l'/\l'<=12/\0<=b'/\b'<=12/\0<=r'/\r'<=12):HT.lexLt [n,t,l,b,r] [n',t',l',b',r']=decide (Jv [n,t,l,b,r]<Jv [n',t',l',b',r']):=by
 simp only[HT.lexLt_cons,HT.lexLt_nil_nil,Jv];by_cases e1:n=n'
 .rw[if_pos e1];by_cases e2:t=t'
  .rw[if_pos e2];by_cases e3:l=l'
   .rw[if_pos e3];by_cases e4:b=b'
    .rw[if_pos e4];by_cases e5:r=r'
     .rw[if_pos e5];exact(decide_eq_false (by lia)).symm
     .rw[if_neg e5];exact decide_eq_decide.mpr (by lia)
    .rw[if_neg e4];exact decide_eq_decide.mpr (by lia)
   .rw[if_neg e3];exact decide_eq_decide.mpr (by lia)
  .rw[if_neg e2];exact decide_eq_decide.mpr (by lia)
 .rw[if_neg e1];exact decide_eq_decide.mpr (by lia)
theorem Cs{p:Rk}(h:AG p):0<=p.t/\p.t<=12/\0<=p.l/\p.l<=12/\0<=p.b/\p.b<=12/\0<=p.r/\p.r<=12:=by
 obtain⟨a,b,c,d,e,f⟩:=h;lia
def OfAt(H:Hp)(t:Of1):Prop:=H t.1=some (.tup [.int t.2.2.1,.ref t.2.1])/\H t.2.1=some (.tup t.2.2.2.vs)
theorem OfAt.tups{H H':Hp}(s:∀a xs,H a=some (.tup xs)->H' a=some (.tup xs)){t:Of1}(h:OfAt H t):OfAt H' t:=⟨s _ _ h.1,s _ _ h.2⟩
inductive Fv(C:Addr)(vs:LUz)(H:Hp)(Q:VK)(E:XK):Prop
 |mk (a dx ls lt:Addr) (ss:LZ) (tn:List Tk1) (h0:vs=[.ref a]) (h1:BnAt C a dx ls lt H ss tn) (h2:M2 tn) (h3:(∀y∈A9 (whs 0 (tn.map λ t=>t.2.2.2.2)),AG y.2)) (h4:∀l ts H',Same H H'->H l=none->H' l=some (.lst (Ai ts))->(∀t∈ts,OfAt H' t)->(ts.map (λ t:Of1=>t.2.2)).Perm (A9 (whs 0 (tn.map λ t=>t.2.2.2.2)))->(ts.map λ t:Of1=>OO t.2.2).Pairwise (·<=·)->Q (.ref l) H'):Fv C vs H Q E
def CN(C:Addr) :Sp:=λ vs H Q E=>Fv C vs H Q E
theorem F9:Aq ["self"] ["self"] (Ag BV):=fsc
theorem Fa{f:Addr}{fd:FuncData}{C:Addr}(F:Fun K "offcuts" "Bench.offcuts" BV f fd)(T:Txt mg tk)(BC:JP K C)(M_Bench_whole_pieces:GZ P w K mg base 1 C "whole_pieces" ["self"] (DU C)):A8 P w K mg base CX0 2 f fd ["self"] (CN C):=by
 have S:=F9;refine F.ok S (λ vs H Q E h=>?_) (λ cdv A outer s H vs Q E hr h=>?_)
 .obtain⟨a,dx,ls,lt,ss,tn,rfl,_⟩:=h;rfl
 .obtain⟨a,dx,ls,lt,ss,tn,rfl,bn,⟨few,fk,fw⟩,pok,q⟩:=h;refine⟨_,(Ah (Ar (At (CZ hr) rfl T.z_sorted rfl (Aa (CF rfl (AL (C4 M_Bench_whole_pieces hr (pv 0))) (λ_ _ _ _ _=>(AV (K:=K) (n:=3) rfl (Am (An (i:=0) (show List.Nodup (["number","piece","mark"]:LSz) from by decide +kernel) rfl (Or.inl rfl)) (Am (An (i:=1) (show List.Nodup (["number","piece","mark"]:LSz) from by decide +kernel) rfl (Or.inl rfl)) (Am (An (i:=2) (show List.Nodup (["number","piece","mark"]:LSz) from by decide +kernel) rfl (Or.inl rfl)) AB))))) (λ_ _ _ _ _=>(Ax EZ (pv 2) AY (Az _))) (λ_ _ _ _ _=>(Av (Aa (pv 0) (Aa (pv 1) Ab)))) (N:=["number","piece","mark"]) (fr:=[none,none,none])) Ab)))),?_⟩;refine⟨_,rfl,a,dx,_,rfl,bn.ob,Ca _ _ (by decide +kernel) (by decide +kernel),a,dx,ls,lt,ss,tn,rfl,bn,few,fk,λ l ts H1 s1 nl hl wr eq=>?_⟩;have tl:=congrArg List.length eq;rw[List.length_map]at tl;refine⟨l,rfl,⟨_,SqL.of hl⟩,λ acc hacc=>BM (K:=K) (a:=l) (ys:=Ai ts) (λ i zs σ H'=>(∃x y z,σ=[x,y,z])/\Same H1 H'/\∃us:List Of1,zs=Ai us/\(∀t∈us,OfAt H' t)/\us.map (λ t:Of1=>t.2.2)=A9 ((ts.map λ t:Wr=>t.2.2).take i)) ⟨⟨none,none,none,rfl⟩,Same.new hacc,[],rfl,(λ t ht=>nomatch ht),rfl⟩ (λ i zs σ H' _ _ hp=>SqL.of (hp.2.1 _ _ hl)) ?_ ?_⟩
  .rintro i x zs σ H' hx hi hl' hacc' ⟨⟨x0,y0,z0,rfl⟩,hs,us,rfl,wu,eu⟩;obtain⟨t,ht,rfl⟩:=AC hx;obtain⟨w1,w2⟩:=(wr t (List.mem_of_getElem? ht)).tups λ x xs e=>hs _ _ e;obtain⟨ta,tb,tn',tp,tm⟩:=t;have tk1:(ts.map λ t:Wr=>t.2.2).take (i+1)=(ts.map λ t:Wr=>t.2.2).take i++[(tn',tp,tm)]:=by rw[List.take_succ,List.getElem?_map,ht];rfl
   refine⟨ta,_,rfl,SqT.of w1,rfl,_,_,rfl,_,_,rfl,_,_,rfl,rfl,?_⟩;cases tm with
   |none =>
    refine⟨_,rfl,rfl,true,congrArg V.bl (decide_eq_true rfl),?_⟩;refine⟨_,rfl,_,rfl,Au 2,λ r1 nr1=>?_⟩;obtain⟨H4,g,s4,f4⟩:=nw (.tup [.int tn',.ref tb]) nr1;rw[g];have a4:=s4 _ _ hacc';refine fNx.mk (Nat.le_of_lt (Ap (by rw[Al];lia))) hi hl' a4 ⟨⟨_,_,_,rfl⟩,λ d o e=>by rw[Ae (Af e hacc)];exact s4 _ _ (hs d o e),us++[(r1,tb,tn',tp)],by rw[Ai,Ai,List.map_append];rfl,λ u hu=>?_,?_⟩
    .have kp:∀x xs,H4 x=some (.tup xs)->(upd H4 acc (.lst (Ai us++[.ref r1]))) x=some (.tup xs):=λ x xs e=>by rw[Ae (λ z=>by rw[z,a4]at e;cases e)];exact e
     rcases List.mem_append.mp hu with hu|hu
     .exact((wu u hu).tups λ x xs e=>s4 _ _ e).tups kp
     .rw[List.mem_singleton.mp hu];exact⟨kp _ _ f4,kp _ _ (s4 _ _ w2)⟩
    .rw[List.map_append,eu,tk1];unfold A9;rw[List.filterMap_append];rfl
   |some m =>
    refine⟨_,rfl,rfl,false,congrArg V.bl (decide_eq_false (by intro z;cases z)),?_⟩;refine fSk.mk hi hl' hacc' ⟨⟨_,_,_,rfl⟩,hs,us,rfl,wu,?_⟩;rw[eu,tk1];unfold A9;rw[List.filterMap_append];exact(List.append_nil _).symm
  .rintro zs σ H' hl' hacc' ⟨_,hs,us,rfl,wu,eu⟩;rw[Al,<-List.length_map (f:=λ t:Wr=>t.2.2),List.take_length,eq]at eu;have rr:Ai us=(us.map toR).map λ t=>V.ref t.1:=by rw[List.map_map];rfl
   have pk:∀u∈us,AG u.2.2.2:=λ u hu=>pok u.2.2 (by rw[<-eu];exact List.mem_map.mpr ⟨u,hu,rfl⟩);refine⟨acc,us.map toR,0,3,Jv,rfl,by rw[<-rr];exact SqL.of hacc',λ t ht=>?_,λ t ht u hu=>?_,λ l2 ts2 nl2 pm2 srt=>?_⟩
   .obtain⟨x,hx,rfl⟩:=List.mem_map.mp ht;exact⟨(wu x hx).1,(wu x hx).2,rfl,rfl⟩
   .obtain⟨x,hx,rfl⟩:=List.mem_map.mp ht;obtain⟨y,hy,rfl⟩:=List.mem_map.mp hu;exact Rn (Cs (pk x hx)) (Cs (pk y hy))
   .obtain⟨us2,pu,rfl⟩:=E5 (f:=toR) (l:=ts2) (m:=us.map toR) pm2 us rfl;have r2:((us2.map toR).map λ t=>V.ref t.1)=Ai us2:=by rw[List.map_map];rfl
    rw[r2];have s5:Same H' (upd H' l2 (.lst (Ai us2))):=Same.new nl2;refine q l2 us2 _ (s1.trans (hs.trans s5)) (Cq (s1.trans hs) nl2) upd_same (λ t ht=>(wu t (pu.mem_iff.mp ht)).tups λ x xs e=>s5 _ _ e) (by rw[<-eu];exact pu.map _) ?_;rw[List.map_map]at srt;exact srt
inductive II(C:Addr)(vs:LUz)(H:Hp)(Q:VK)(E:XK):Prop
 |mk (a dx l:Addr) (ss:LI) (h0:vs=[.ref a,.ref l]) (h1:H a=some (.ins C dx [])) (h2:TupL H l ss) (h3:1<=ss.length) (h4:ss.length<=4) (h5:(∀z∈ss,SOk z)) (h6:∀ls lt us H',H ls=none->H lt=none->ls≠lt->SameX a H H'->BnAt C a dx ls lt H' us []->us.map (λ t:Addr×Int×Int=>t.2)=ss->Q .non H'):II C vs H Q E
def Kg(C:Addr) :Sp:=λ vs H Q E=>II C vs H Q E
theorem JN:Aq ["self","sheets"] ["self","sheets"] (Ag CU):=fsc
theorem Hr{f:Addr}{fd:FuncData}{C:Addr}(F:Fun K "__init__" "Bench.__init__" CU f fd)(BC:JP K C)(D_check_sheets:A5 P w K mg base 4 "check_sheets" ["sheets"] Ge):A8 P w K mg base CX0 5 f fd ["self","sheets"] (Kg C):=by
 have S:=JN;refine F.ok S (λ vs H Q E h=>?_) (λ cdv A outer s H vs Q E hr h=>?_)
 .obtain⟨a,dx,l,ss,rfl,_⟩:=h;rfl
 .obtain⟨a,dx,l,ss,rfl,hob,tl,l1,l2,so,q⟩:=h;refine⟨_,(Ac (B0 (Aw D_check_sheets hr (Aa (pv 1) Ab)))
   (Ac (CV (pv 0) (Bt rfl (AL (pv 1)) (λ_ _ _ _ _=>(AV (K:=K) (n:=2) rfl (Am (An (i:=0) (show List.Nodup (["width","height"]:LSz) from by decide +kernel) rfl (Or.inl rfl)) (Am (An (i:=1) (show List.Nodup (["width","height"]:LSz) from by decide +kernel) rfl (Or.inl rfl)) AB)))) (λ_ _ _ _ _=>(Av (Aa Ad (Aa Ad (Aa (pv 1) (Aa (pv 0) Ab)))))) (N:=["width","height"]) (fr:=[none,none])) rfl)
   (Ah (CV (pv 0) (BJ Ab) rfl)))),?_⟩
  refine⟨_,rfl,l,ss,rfl,tl,l1,l2,so,λ H1 s1=>?_⟩;obtain⟨ts,t1,t2,t3⟩:=tl.same s1;have tl':=congrArg List.length t3;rw[List.length_map]at tl';refine⟨_,rfl,l,rfl,⟨_,SqL.of t1⟩,λ acc hacc=>AU (K:=K) (a:=l) (ys:=Ai ts) (λ i zs σ H'=>(∃x y,σ=[x,y])/\Same H1 H'/\∃us:LZ,zs=Ai us/\(∀t∈us,H' t.1=some (.tup (Rk.vs ⟨0,0,t.2.2,t.2.1⟩)))/\us.map (λ t:Addr×Int×Int=>t.2)=ss.take i) ⟨⟨none,none,rfl⟩,Same.new hacc,[],rfl,(λ t ht=>nomatch ht),rfl⟩ (λ i zs σ H' _ _ hp=>SqL.of (hp.2.1 _ _ t1)) ?_ ?_⟩
  .rintro i x zs σ H' hx hi hl' hacc' ⟨⟨x0,y0,rfl⟩,hs,us,rfl,wu,eu⟩;obtain⟨t,ht,rfl⟩:=AC hx;have w1:=hs _ _ (t2 t (List.mem_of_getElem? ht));have tk1:ss.take (i+1)=ss.take i++[t.2]:=by rw[<-t3,List.take_succ,List.getElem?_map,ht];rfl
   refine⟨t.1,_,rfl,SqT.of w1,rfl,_,_,rfl,_,_,rfl,rfl,_,rfl,_,rfl,Au 4,λ r1 nr1=>?_⟩;obtain⟨H4,g,s4,f4⟩:=nw (.tup [.int 0,.int 0,.int t.2.2,.int t.2.1]) nr1;rw[g];have f4:H4 r1=some (.tup (Rk.vs ⟨0,0,t.2.2,t.2.1⟩)):=f4;have a4:=s4 _ _ hacc';refine cNx.mk (Nat.le_of_lt (Ap (by rw[Al];lia))) hi hl' a4 ⟨⟨_,_,rfl⟩,λ d o e=>by rw[Ae (Af e hacc)];exact s4 _ _ (hs d o e),us++[(r1,t.2)],by rw[Ai,Ai,List.map_append];rfl,λ u hu=>?_,?_⟩
   .have kp:∀x xs,H4 x=some (.tup xs)->(upd H4 acc (.lst (Ai us++[.ref r1]))) x=some (.tup xs):=λ x xs e=>by rw[Ae (λ z=>by rw[z,a4]at e;cases e)];exact e
    rcases List.mem_append.mp hu with hu|hu
    .exact kp _ _ (s4 _ _ (wu u hu))
    .rw[List.mem_singleton.mp hu];exact kp _ _ f4
   .rw[List.map_append,eu,tk1];rfl
  .rintro zs σ H2 hl' hacc' ⟨_,hs,us,rfl,wu,eu⟩;rw[Al,tl',List.take_length]at eu;have s2:=s1.trans hs;have ob2:=s2 _ _ hob;refine⟨_,rfl,a,C,dx,_,rfl,ob2,BC.cl,BC.n_stock,(by show 0<1000;decide),?_⟩;have x3:SameX a H2 (upd H2 a (.ins C dx (Bn "stock" (.ref acc) []))):=SameX.upd;have e3:(upd H2 a (.ins C dx (Bn "stock" (.ref acc) []))) a=some (.ins C dx (Bn "stock" (.ref acc) [])):=upd_same;generalize upd H2 a (.ins C dx (Bn "stock" (.ref acc) []))=H3 at x3 e3 |-;have na:∀{x:Addr}{o:HO},H2 x=some o->(∀C dx fs,o≠.ins C dx fs)->x≠a:=λ e n z=>by rw[z,ob2]at e;cases e;exact n _ _ _ rfl
   refine⟨Au 0,λ lt nlt=>?_⟩;obtain⟨H4,g,s4,e4⟩:=nw (.lst []) nlt;rw[g];have ob4:=s4 _ _ e3;refine⟨_,rfl,a,C,dx,_,rfl,ob4,BC.cl,BC.n_taken,(by show 1<1000;decide),?_⟩;have x5:SameX a H4 (upd H4 a (.ins C dx (Bn "taken" (.ref lt) (Bn "stock" (.ref acc) [])))):=SameX.upd;have lta:lt≠a:=λ z=>by rw[z,ob4]at e4;cases e4
   have x25:SameX a H2 (upd H4 a (.ins C dx (Bn "taken" (.ref lt) (Bn "stock" (.ref acc) [])))):=x3.trans (s4.x.trans x5);have nlt0:H lt=none:=by
    cases z:H lt with
    |none=>rfl
    |some o =>
     have e3':=s2 _ _ z;by_cases c:lt=a
     .exact absurd c lta
     .rw[x3 _ _ c e3']at nlt;cases nlt
   have nal:acc≠lt:=λ z=>by rw[<-z,x3 _ _ (na hacc' (by intro _ _ _ z;cases z)) hacc']at nlt;cases nlt
   refine q acc lt us _ (Cq s1 hacc) nlt0 nal (s2.x.trans x25) ⟨upd_same,?_,λ t ht=>?_,?_,(λ t ht=>nomatch ht),List.nodup_nil⟩ eu
   .exact x25 _ _ (na hacc' (by intro _ _ _ z;cases z)) hacc'
   .exact x25 _ _ (na (wu t ht) (by intro _ _ _ z;cases z)) (wu t ht)
   .exact x5 _ _ lta e4
theorem Kk{L M:List Int}(h:L.Perm M):L.sum=M.sum:=by
 induction h with
 |nil=>rfl
 |cons x _ ih=>rw[List.sum_cons,List.sum_cons,ih]
 |swap x y l=>rw[List.sum_cons,List.sum_cons,List.sum_cons,List.sum_cons];lia
 |trans _ _ a b=>exact a.trans b
def BS(L:List Rk):Int:=(L.map arR).sum
inductive IG(C:Addr)(vs:LUz)(H:Hp)(Q:VK)(E:XK):Prop
 |mk (a dx ls lt:Addr) (ss:LZ) (tn:List Tk1) (nz:LI) (h0:vs=[.ref a]) (h1:BnAt C a dx ls lt H ss tn) (h2:M2 tn) (h3:(∀t∈ss,SOk t.2)) (h4:(∀y∈A9 (whs 0 (tn.map λ t=>t.2.2.2.2)),AG y.2)) (h5:(∀y∈Bg (whs 0 (tn.map λ t=>t.2.2.2.2)),AG y)) (h6:(∀(i:Nat)(t:Tk1),tn[i]?=some t->0<=t.2.1/\∃z,nz[i]?=some z/\(ss.map (·.2))[t.2.1.toNat]?=some z)) (h7:nz.length=tn.length) (h8:∀c H',Same H H'->H' c=some (.tup [.int (nz.map λ z=>z.2*z.1).sum,.int (BS (Bg (whs 0 (tn.map λ t=>t.2.2.2.2)))),.int (BS ((A9 (whs 0 (tn.map λ t=>t.2.2.2.2))).map (·.2)))])->Q (.ref c) H'):IG C vs H Q E
def Kf(C:Addr) :Sp:=λ vs H Q E=>IG C vs H Q E
theorem HI:Aq ["self","taken","cut","left"] ["self"] (Ag C1):=fsc
theorem Gy{f:Addr}{fd:FuncData}{C:Addr}(F:Fun K "areas" "Bench.areas" C1 f fd)(T:Txt mg tk)(BC:JP K C)(D_area_of:A5 P w K mg base 1 "area_of" ["rectangle"] Gf)(M_Bench_panes_cut:GZ P w K mg base 2 C "panes_cut" ["self"] (Di C))(M_Bench_offcuts:GZ P w K mg base 2 C "offcuts" ["self"] (CN C)):A8 P w K mg base CX0 3 f fd ["self"] (Kf C):=by
 have S:=HI;refine F.ok S (λ vs H Q E h=>?_) (λ cdv A outer s H vs Q E hr h=>?_)
 .obtain⟨a,dx,ls,lt,ss,tn,nz,rfl,_⟩:=h;rfl
 .obtain⟨a,dx,ls,lt,ss,tn,nz,rfl,bn,bok,so,pok,ppk,nzi,nzl,q⟩:=h;refine⟨_,(Ac (As (i:=1) S.nd rfl (Or.inl rfl) (At CK rfl T.z_sum rfl (Aa (Bt rfl (AL (Bo (pv 0) rfl)) (λ_ _ _ _ _=>(AV (K:=K) (n:=2) rfl (Am (An (i:=0) (show List.Nodup (["number","entries","self"]:LSz) from by decide +kernel) rfl (Or.inl rfl)) (Am (An (i:=1) (show List.Nodup (["number","entries","self"]:LSz) from by decide +kernel) rfl (Or.inl rfl)) AB)))) (λ_ _ _ _ _=>(Aw D_area_of hr (Aa (Ao (Dy (K:=K)) (MM (K:=K) (pv 2) rfl) (pv 0) (λ_ _=>rfl)) Ab))) (N:=["number","entries","self"]) (fr:=[none,none,some 0])) Ab)))
   (Ac (As (i:=2) S.nd rfl (Or.inl rfl) (At CK rfl T.z_sum rfl (Aa (Bt rfl (AL (C4 M_Bench_panes_cut hr (pv 0))) (λ_ _ _ _ _=>(An (i:=0) (show List.Nodup (["piece"]:LSz) from by decide +kernel) rfl (Or.inl rfl))) (λ_ _ _ _ _=>(Aw D_area_of hr (Aa (pv 0) Ab))) (N:=["piece"]) (fr:=[none])) Ab)))
   (Ac (As (i:=3) S.nd rfl (Or.inl rfl) (At CK rfl T.z_sum rfl (Aa (Bt rfl (AL (C4 M_Bench_offcuts hr (pv 0))) (λ_ _ _ _ _=>(AV (K:=K) (n:=2) rfl (Am (An (i:=0) (show List.Nodup (["number","piece"]:LSz) from by decide +kernel) rfl (Or.inl rfl)) (Am (An (i:=1) (show List.Nodup (["number","piece"]:LSz) from by decide +kernel) rfl (Or.inl rfl)) AB)))) (λ_ _ _ _ _=>(Aw D_area_of hr (Aa (pv 1) Ab))) (N:=["number","piece"]) (fr:=[none,none])) Ab)))
   (Ah (Ar (Av (Aa (pv 1) (Aa (pv 2) (Aa (pv 3) Ab))))))))),?_⟩
  refine⟨_,rfl,a,C,dx,_,_,rfl,bn.ob,BC.cl,BC.n_taken,GN _ _,lt,rfl,⟨_,SqL.of bn.tak⟩,λ acc hacc=>AU (K:=K) (a:=lt) (ys:=Ai tn) (λ i zs σ H'=>(∃x y,σ=[x,y,some (.ref a)])/\Same H H'/\zs=((nz.take i).map λ z=>V.int (z.2*z.1))) ⟨⟨none,none,rfl⟩,Same.new hacc,rfl⟩ (λ i zs σ H' _ _ hp=>SqL.of (hp.2.1 _ _ bn.tak)) ?_ ?_⟩
  .rintro i x zs σ H' hx hi hl' hacc' ⟨⟨x0,y0,rfl⟩,hs,rfl⟩;obtain⟨t,ht,rfl⟩:=AC hx;have bn':=bn.same hs;obtain⟨g1,g2,g3⟩:=bn'.tks t (List.mem_of_getElem? ht);obtain⟨p0,z,hz,hz2⟩:=nzi i t ht;rw[List.getElem?_map]at hz2;obtain⟨u,hu',rfl⟩:=Option.map_eq_some_iff.mp hz2;have um:=List.mem_of_getElem? hu';have at1:atI (Ai ss) t.2.1=some (.ref u.1):=by
    have:=B3 (xs:=Ai ss) (j:=t.2.1.toNat) (v:=.ref u.1) (by unfold Ai;rw[List.getElem?_map,hu'];rfl);rwa [Int.toNat_of_nonneg p0]at this
   obtain⟨w1,w2,h1,h2⟩:=so u um;refine⟨t.1,_,rfl,SqT.of g1,rfl,_,_,rfl,_,_,rfl,rfl,?_⟩;refine⟨_,rfl,a,C,dx,_,_,rfl,bn'.ob,BC.cl,BC.n_stock,KS _ _,_,rfl,ls,_,_,_,rfl,rfl,SqL.of bn'.lst,at1,u.1,_,rfl,bn'.stk u um,⟨Int.le_refl _,show(0:Int)<u.2.2 by lia,h2,Int.le_refl _,show(0:Int)<u.2.1 by lia,w2⟩,?_⟩;have av:arR ⟨0,0,u.2.2,u.2.1⟩=u.2.2*u.2.1:=by show(u.2.2-0)*(u.2.1-0)=_;rw[Int.sub_zero,Int.sub_zero]
   rw[av];refine cNx.mk (Nat.le_of_lt (Ap (by rw[Al];have:=bok.1;lia))) hi hl' hacc' ⟨⟨_,_,rfl⟩,λ d o e=>by rw[Ae (Af e hacc)];exact hs d o e,?_⟩;rw[List.take_succ,hz,List.map_append];rfl
  .rintro zs σ H1 hl' hacc' ⟨_,hs,rfl⟩;rw[Al,<-nzl,List.take_length]at hacc';have in1:(nz.map λ z=>V.int (z.2*z.1))=(nz.map λ z=>z.2*z.1).map V.int:=by rw[List.map_map];rfl
   rw[in1]at hacc';refine⟨acc,_,rfl,SqL.of hacc',rfl,?_⟩;have bn1:=bn.same hs;refine⟨_,rfl,a,dx,_,rfl,bn1.ob,Ca _ _ (by decide +kernel) (by decide +kernel),a,dx,ls,lt,ss,tn,rfl,bn1,bok,λ l2 ts2 H2 s2 nl2 hl2 w2 eq2=>?_⟩;have tl2:=congrArg List.length eq2;rw[List.length_map]at tl2;have pl2:(Bg (whs 0 (tn.map λ t=>t.2.2.2.2))).length<=(whs 0 (tn.map λ t=>t.2.2.2.2)).length:=List.length_filterMap_le _ _;have bw:=bok.2.2;refine⟨l2,rfl,⟨_,SqL.of hl2⟩,λ acc2 hacc2=>AU (K:=K) (a:=l2) (ys:=Ai ts2) (λ i zs σ H'=>(∃x,σ=[x])/\Same H2 H'/\zs=((((ts2.map λ t:Pr1=>t.2).take i).map arR).map V.int)) ⟨⟨none,rfl⟩,Same.new hacc2,rfl⟩ (λ i zs σ H' _ _ hp=>SqL.of (hp.2.1 _ _ hl2)) ?_ ?_⟩
   .rintro i x zs σ H' hx hi hl' hacc2' ⟨⟨x0,rfl⟩,hs2,rfl⟩;obtain⟨t,ht,rfl⟩:=AC hx;have tm:=List.mem_of_getElem? ht;refine⟨_,rfl,t.1,t.2,rfl,hs2 _ _ (w2 t tm),ppk t.2 (by rw[<-eq2];exact List.mem_map.mpr ⟨t,tm,rfl⟩),?_⟩;refine cNx.mk (Nat.le_of_lt (Ap (by rw[Al];lia))) hi hl' hacc2' ⟨⟨_,rfl⟩,λ d o e=>by rw[Ae (Af e hacc2)];exact hs2 d o e,?_⟩;rw[List.take_succ,List.getElem?_map,ht,List.map_append,List.map_append];rfl
   .rintro zs σ H3 hl' hacc2' ⟨_,hs3,rfl⟩;rw[Al,<-List.length_map (f:=λ t:Pr1=>t.2),List.take_length,eq2]at hacc2';refine⟨acc2,_,rfl,SqL.of hacc2',rfl,?_⟩;have s3:=s2.trans hs3;have bn3:=bn1.same s3;refine⟨_,rfl,a,dx,_,rfl,bn3.ob,Ca _ _ (by decide +kernel) (by decide +kernel),a,dx,ls,lt,ss,tn,rfl,bn3,bok,pok,λ l4 ts4 H4 s4 nl4 hl4 w4 pm4 _=>?_⟩;have tl4:=pm4.length_eq;rw[List.length_map]at tl4;have pl4:(A9 (whs 0 (tn.map λ t=>t.2.2.2.2))).length<=(whs 0 (tn.map λ t=>t.2.2.2.2)).length:=List.length_filterMap_le _ _;refine⟨l4,rfl,⟨_,SqL.of hl4⟩,λ acc4 hacc4=>AU (K:=K) (a:=l4) (ys:=Ai ts4) (λ i zs σ H'=>(∃x y,σ=[x,y])/\Same H4 H'/\zs=((((ts4.map λ t:Of1=>t.2.2.2).take i).map arR).map V.int)) ⟨⟨none,none,rfl⟩,Same.new hacc4,rfl⟩ (λ i zs σ H' _ _ hp=>SqL.of (hp.2.1 _ _ hl4)) ?_ ?_⟩
    .rintro i x zs σ H' hx hi hl' hacc4' ⟨⟨x0,y0,rfl⟩,hs5,rfl⟩;obtain⟨t,ht,rfl⟩:=AC hx;have tm:=List.mem_of_getElem? ht;obtain⟨o1,o2⟩:=(w4 t tm).tups λ x xs e=>hs5 _ _ e;refine⟨t.1,_,rfl,SqT.of o1,rfl,_,_,rfl,_,_,rfl,rfl,_,rfl,t.2.1,t.2.2.2,rfl,o2,pok t.2.2 (pm4.mem_iff.mp (List.mem_map.mpr ⟨t,tm,rfl⟩)),?_⟩;refine cNx.mk (Nat.le_of_lt (Ap (by rw[Al];lia))) hi hl' hacc4' ⟨⟨_,_,rfl⟩,λ d o e=>by rw[Ae (Af e hacc4)];exact hs5 d o e,?_⟩;rw[List.take_succ,List.getElem?_map,ht,List.map_append,List.map_append];rfl
    .rintro zs σ H5 hl' hacc4' ⟨_,hs5,rfl⟩;rw[Al,<-List.length_map (f:=λ t:Of1=>t.2.2.2),List.take_length]at hacc4';refine⟨acc4,_,rfl,SqL.of hacc4',rfl,?_⟩;have se:((ts4.map λ t:Of1=>t.2.2.2).map arR).sum=BS ((A9 (whs 0 (tn.map λ t=>t.2.2.2.2))).map (·.2)):=by
      have e5:(ts4.map λ t:Of1=>t.2.2.2)=(ts4.map λ t:Of1=>t.2.2).map (λ y:Int×Rk=>y.2):=by rw[List.map_map];rfl
      rw[e5];exact Kk ((pm4.map (λ y:Int×Rk=>y.2)).map arR)
     rw[se];refine⟨_,rfl,_,rfl,_,rfl,Au 3,λ c nc=>?_⟩;exact q c _ (hs.trans (s3.trans (s4.trans (hs5.trans (Same.new nc))))) upd_same
def hld(t:DO)(p:Rk):Prop:=Bh t (p.len true) (p.len false)≠[]
abbrev shR(z:Int×Int):Rk:=⟨0,0,z.2,z.1⟩
def Ju:List Int->Int
 |[ar,n,t,l,b,r]=>((((ar*1000+n)*13+t)*13+l)*13+b)*13+r
 |_=>0
def NP(y:Int×Rk):Int:=Ju [arR y.2,y.1,y.2.t,y.2.l,y.2.b,y.2.r]
theorem Sm{ar ar' n t l b r n' t' l' b' r':Int}(hn:0<=n/\n<=999)(hn':0<=n'/\n'<=999)(h:0<=t/\t<=12/\0<=l/\l<=12/\0<=b/\b<=12/\0<=r/\r<=12)(h':0<=t'/\t'<=12/\0<=l'/\l'<=12/\0<=b'/\b'<=12/\0<=r'/\r'<=12):HT.lexLt [ar,n,t,l,b,r] [ar',n',t',l',b',r']=decide (Ju [ar,n,t,l,b,r]<Ju [ar',n',t',l',b',r']):=by
 rw[HT.lexLt_cons];have e5:=Rn (n:=n) (n':=n') h h';by_cases e:ar=ar'
 .rw[if_pos e,e5];apply decide_eq_decide.mpr;simp only[Jv,Ju];lia
 .rw[if_neg e];apply decide_eq_decide.mpr;simp only[Ju];lia
def EA:List Int->Int
 |[ar,k]=>ar*10+k
 |_=>0
theorem Tb{ar ar' k k':Int}(h:0<=k/\k<=9)(h':0<=k'/\k'<=9):HT.lexLt [ar,k] [ar',k']=decide (EA [ar,k]<EA [ar',k']):=by
 rw[HT.lexLt_cons,HT.lexLt_cons,HT.lexLt_nil_nil];by_cases e:ar=ar'
 .rw[if_pos e];by_cases e2:k=k'
  .rw[if_pos e2];exact(decide_eq_false (by simp only[EA];lia)).symm
  .rw[if_neg e2];apply decide_eq_decide.mpr;simp only[EA];lia
 .rw[if_neg e];apply decide_eq_decide.mpr;simp only[EA];lia
abbrev Gd:=Addr×Addr×Int×Rk
def GdAt(H:Hp)(t:Gd):Prop:=H t.1=some (.tup [.int (arR t.2.2.2),.int t.2.2.1,.ref t.2.1])/\H t.2.1=some (.tup t.2.2.2.vs)
theorem GdAt.tups{H H':Hp}(s:∀a xs,H a=some (.tup xs)->H' a=some (.tup xs)){t:Gd}(h:GdAt H t):GdAt H' t:=⟨s _ _ h.1,s _ _ h.2⟩
def toG(t:Gd):Rwt:=(t.1,[arR t.2.2.2,t.2.2.1],t.2.1,[t.2.2.2.t,t.2.2.2.l,t.2.2.2.b,t.2.2.2.r])
noncomputable instance hldD (t:DO) (p:Rk):Decidable (hld t p):=inferInstanceAs (Decidable (Bh t (p.len true) (p.len false)≠[]))
inductive EN(C cG:Addr)(vs:LUz)(H:Hp)(Q:VK)(E:XK):Prop
 |mk (a dx ls lt c:Addr) (ss:LZ) (tn:List Tk1) (t:DO) (h0:vs=[.ref a,.ref c]) (h1:BnAt C a dx ls lt H ss tn) (h2:M2 tn) (h3:ss.length<=4) (h4:(∀t∈ss,SOk t.2)) (h5:H c=some (.tup [.int t.1,.int t.2.1,.bl t.2.2])) (h6:(∀y∈A9 (whs 0 (tn.map λ t=>t.2.2.2.2)),AG y.2/\0<=y.1/\y.1<=999)) (h7:(∀y∈A9 (whs 0 (tn.map λ t=>t.2.2.2.2)),hld t y.2->(∀y'∈A9 (whs 0 (tn.map λ t=>t.2.2.2.2)),hld t y'.2->NP y<=NP y')->∀r b H',Same H H'->H' r=some (.tup [.int y.1,.ref b])->H' b=some (.tup y.2.vs)->Q (.ref r) H')) (h8:((∀y∈A9 (whs 0 (tn.map λ t=>t.2.2.2.2)),¬hld t y.2)->∀(k:Nat)(u:Addr×Int×Int),ss[k]?=some u->hld t (shR u.2)->(∀(k':Nat)(u':Addr×Int×Int),ss[k']?=some u'->hld t (shR u'.2)->EA [arR (shR u.2),k]<=EA [arR (shR u'.2),k']) ->
  ∀r tA dA eA H',H dA=none->SameX lt H H'->BnAt C a dx ls lt H' ss (tn++[(tA,(k:Int),dA,[(rkK (shR u.2),.ref eA)],[(shR u.2,.w none)])])->H' r=some (.tup [.int tn.length,.ref u.1])->Q (.ref r) H')) (h9:((∀y∈A9 (whs 0 (tn.map λ t=>t.2.2.2.2)),¬hld t y.2)->(∀u∈ss,¬hld t (shR u.2))->Rf H E cG λ_ _=>True)):EN C cG vs H Q E
def Fn(C cG:Addr) :Sp:=λ vs H Q E=>EN C cG vs H Q E
abbrev Tk:LSz:=["self","want","good","new","number"]
theorem EI:Aq Tk ["self","want"] (Ag BB):=fsc
theorem Ed{f:Addr}{fd:FuncData}{C cG:Addr}(F:Fun K "piece_for" "Bench.piece_for" BB f fd)(T:Txt mg tk)(BC:JP K C)(X_NoGlass:Nn P w K mg base 1 "NoGlass" cG ["self","width","height"] ["width","height"])(D_area_of:A5 P w K mg base 1 "area_of" ["rectangle"] Gf)(D_holds:A5 P w K mg base 3 "holds" ["piece","want"] Ke)(M_Bench_offcuts:GZ P w K mg base 2 C "offcuts" ["self"] (CN C)):A8 P w K mg base (CX1 P w) 4 f fd ["self","want"] (Fn C cG):=by
 have S:=EI;refine F.okx S (λ vs H Q E h=>?_) (λ cdv A outer s H vs Q E hr h=>?_)
 .obtain⟨a,dx,ls,lt,c,ss,tn,t,rfl,_⟩:=h;rfl
 .obtain⟨a,dx,ls,lt,c,ss,tn,t,rfl,bn,bok,s4,so,hc,ok1,qA,qB,qC⟩:=h;have hu:=KA hr;refine⟨_,(Ac (Fp rfl (An (i:=2) S.nd rfl (Or.inl rfl)) (AL (C4 M_Bench_offcuts hr (pv 0))) (λ_ _ _ _ _=>(AV (K:=K) (n:=2) rfl (Am (An (i:=0) (show List.Nodup (["number","piece","want"]:LSz) from by decide +kernel) rfl (Or.inl rfl)) (Am (An (i:=1) (show List.Nodup (["number","piece","want"]:LSz) from by decide +kernel) rfl (Or.inl rfl)) AB)))) (λ_ _ _ _ _=>(BE (Aw D_holds hr (Aa (pv 1) (Aa (pv 2) Ab))))) (λ_ _ _ _ _=>(Av (Aa (Aw D_area_of hr (Aa (pv 1) Ab)) (Aa (pv 0) (Aa (pv 1) Ab))))) (N:=["number","piece","want"]) (fr:=[none,none,some 1]))
   (Ac (AJ (Dt (pv 2) (λ_=>rfl)) (Ah (Ar (Gr QU (At (Oe hr) rfl T.z_min rfl (Aa (pv 2) Ab)) (FG Ad) MK))) Ay)
   (Ac (Fp rfl (An (i:=3) S.nd rfl (Or.inl rfl)) (Jc rfl T.z_enumerate (Aa (Bo (pv 0) rfl) Ab)) (λ_ _ _ _ _=>(AV (K:=K) (n:=2) rfl (Am (An (i:=0) (show List.Nodup (["number","piece","want"]:LSz) from by decide +kernel) rfl (Or.inl rfl)) (Am (An (i:=1) (show List.Nodup (["number","piece","want"]:LSz) from by decide +kernel) rfl (Or.inl rfl)) AB)))) (λ_ _ _ _ _=>(BE (Aw D_holds hr (Aa (pv 1) (Aa (pv 2) Ab))))) (λ_ _ _ _ _=>(Av (Aa (Aw D_area_of hr (Aa (pv 1) Ab)) (Aa (pv 0) Ab)))) (N:=["number","piece","want"]) (fr:=[none,none,some 1]))
   (Ac (AJ (BF (Dt (pv 3) (λ_=>rfl))) (Ah (Kj IJ X_NoGlass hr (Aa (Ao Ak (pv 1) Ad (λ_ _=>rfl)) (Aa (Ao Ak (pv 1) Ad (λ_ _=>rfl)) Ab)))) Ay)
   (Ac (As (i:=4) S.nd rfl (Or.inl rfl) (Ao Ak (At (Of hr) rfl T.z_min rfl (Aa (pv 3) Ab)) Ad (λ_ _=>rfl)))
   (Ac (B0 (DQ PySem.F.plainAttrs_list PySem.F.slot_list_append PySem.F.type_list_append Bc (Bo (pv 0) rfl) (Aa (Av (Aa (pv 4) (Aa (OD hu (Ao Cc (Bo (pv 0) rfl) (pv 4) (λ_ _=>rfl)) (Av (Aa (AM (v:=.str "whole") rfl T.g_WHOLE ⟨_,rfl⟩) (Aa AY Ab)))) Ab))) Ab)))
   (Ah (Ar (Av (Aa (A6 BX (At AK rfl T.z_len rfl (Aa (Bo (pv 0) rfl) Ab)) Ad) (Aa (Ao Cc (Bo (pv 0) rfl) (pv 4) (λ_ _=>rfl)) Ab))))))))))),?_⟩
  generalize hof:A9 (whs 0 (tn.map λ t=>t.2.2.2.2))=off at ok1 qA qB qC;refine⟨_,rfl,a,dx,_,rfl,bn.ob,Ca _ _ (by decide +kernel) (by decide +kernel),a,dx,ls,lt,ss,tn,rfl,bn,bok,(λ y hy=>by rw[hof]at hy;exact(ok1 y hy).1),λ l ts H1 s1 nl hl wf pm srt=>?_⟩;rw[hof]at pm;have bw:=bok.2.2;have ol:off.length<=(whs 0 (tn.map λ t=>t.2.2.2.2)).length:=by rw[<-hof];exact List.length_filterMap_le _ _
  have tl:=pm.length_eq;rw[List.length_map]at tl;refine⟨l,rfl,⟨_,SqL.of hl⟩,λ acc hacc=>BM (K:=K) (a:=l) (ys:=Ai ts) (λ i zs σ H'=>(∃x y,σ=[x,y,some (.ref c)])/\Same H1 H'/\∃us:List Gd,zs=Ai us/\(∀t∈us,GdAt H' t)/\us.map (λ t:Gd=>t.2.2)=((ts.map λ t:Of1=>t.2.2).take i).filter λ y=>decide (hld t y.2)) ⟨⟨none,none,rfl⟩,Same.new hacc,[],rfl,(λ t ht=>nomatch ht),rfl⟩ (λ i zs σ H' _ _ hp=>SqL.of (hp.2.1 _ _ hl)) ?_ ?_⟩
  .rintro i x zs σ H' hx hi hl' hacc' ⟨⟨x0,y0,rfl⟩,hs,us,rfl,wu,eu⟩;obtain⟨o,ho,rfl⟩:=AC hx;have om:=List.mem_of_getElem? ho;obtain⟨o1,o2⟩:=(wf o om).tups λ x xs e=>hs _ _ e;have tk1:(ts.map λ t:Of1=>t.2.2).take (i+1)=(ts.map λ t:Of1=>t.2.2).take i++[o.2.2]:=by rw[List.take_succ,List.getElem?_map,ho];rfl
   have pk:=(ok1 o.2.2 (pm.mem_iff.mp (List.mem_map.mpr ⟨o,om,rfl⟩))).1;refine⟨o.1,_,rfl,SqT.of o1,rfl,_,_,rfl,_,_,rfl,rfl,?_⟩;refine⟨_,rfl,_,rfl,o.2.1,c,o.2.2.2,t,rfl,o2,(s1.trans hs) _ _ hc,λ H2 s2=>⟨_,rfl,?_⟩⟩;have hdec:decide (Bh t (o.2.2.2.len true) (o.2.2.2.len false)≠[])=decide (hld t o.2.2.2):=rfl;rw[hdec];have hacc2:=s2 _ _ hacc';cases hd:decide (hld t o.2.2.2) with
   |true =>
    refine⟨_,rfl,o.2.1,o.2.2.2,rfl,s2 _ _ o2,pk,_,rfl,_,rfl,Au 3,λ r1 nr1=>?_⟩;obtain⟨H4,g,s4,f4⟩:=nw (.tup [.int (arR o.2.2.2),.int o.2.2.1,.ref o.2.1]) nr1;rw[g];have s24:=s2.trans s4;have a4:=s4 _ _ hacc2;refine fNx.mk (Nat.le_of_lt (Ap (by rw[Al];lia))) hi hl' a4 ⟨⟨_,_,rfl⟩,λ d o e=>by rw[Ae (Af e hacc)];exact s24 _ _ (hs d o e),us++[(r1,o.2.1,o.2.2)],by rw[Ai,Ai,List.map_append];rfl,λ u hu=>?_,?_⟩
    .have kp:∀x xs,H4 x=some (.tup xs)->(upd H4 acc (.lst (Ai us++[.ref r1]))) x=some (.tup xs):=λ x xs e=>by rw[Ae (λ z=>by rw[z,a4]at e;cases e)];exact e
     rcases List.mem_append.mp hu with hu|hu
     .exact((wu u hu).tups λ x xs e=>s24 _ _ e).tups kp
     .rw[List.mem_singleton.mp hu];exact⟨kp _ _ f4,kp _ _ (s24 _ _ o2)⟩
    .rw[List.map_append,eu,tk1,List.filter_append,List.filter_cons,if_pos hd];rfl
   |false =>
    refine fSk.mk hi hl' hacc2 ⟨⟨_,_,rfl⟩,hs.trans s2,us,rfl,λ u hu=>(wu u hu).tups λ x xs e=>s2 _ _ e,?_⟩;rw[eu,tk1,List.filter_append,List.filter_cons,if_neg (by rw[hd];exact Bool.false_ne_true)];exact(List.append_nil _).symm
  .rintro zs σ H2 hl' hacc' ⟨_,hs,us,rfl,wu,eu⟩;rw[Al,<-List.length_map (f:=λ t:Of1=>t.2.2),List.take_length]at eu;have s2:=s1.trans hs;have um:∀y,y∈us.map (λ t:Gd=>t.2.2)↔y∈off/\hld t y.2:=λ y=>by
    rw[eu,List.mem_filter,pm.mem_iff,decide_eq_true_iff]
   refine⟨_,rfl,_,.inl ⟨_,SqL.of hacc',rfl⟩,?_⟩;cases us with
   |cons u0 ur =>
    refine BK rfl ?_;have gm:∀t∈u0::ur,AG t.2.2.2/\0<=t.2.2.1/\t.2.2.1<=999:=λ g hg=>ok1 g.2.2 ((um g.2.2).mp (List.mem_map.mpr ⟨g,hg,rfl⟩)).1;have rr:Ai (u0::ur)=((u0::ur).map toG).map λ t=>V.ref t.1:=by rw[List.map_map];rfl
    refine⟨_,rfl,acc,(u0::ur).map toG,1,3,Ju,rfl,by rw[<-rr];exact SqL.of hacc',rfl,(by intro z;cases z),λ g hg=>?_,λ g hg g' hg'=>?_,λ g hg least=>?_⟩
    .obtain⟨x,hx,rfl⟩:=List.mem_map.mp hg;exact⟨(wu x hx).1,(wu x hx).2,rfl,rfl⟩
    .obtain⟨x,hx,rfl⟩:=List.mem_map.mp hg;obtain⟨y,hy,rfl⟩:=List.mem_map.mp hg';exact Sm (gm x hx).2 (gm y hy).2 (Cs (gm x hx).1) (Cs (gm y hy).1)
    .obtain⟨x,hx,rfl⟩:=List.mem_map.mp hg;have xm:=(um x.2.2).mp (List.mem_map.mpr ⟨x,hx,rfl⟩);refine⟨1,rfl,x.1,_,rfl,SqT.of (wu x hx).1,(λ z=>by have z1:HT.sIx 3 0 (some 1)=0:=z.1;exact absurd z1 (by decide)),λ r nr=>?_⟩;have s5:Same H2 (upd H2 r (.tup [.int x.2.2.1,.ref x.2.1])):=Same.new nr;refine qA x.2.2 xm.1 xm.2 (λ y' hy' hh'=>?_) r x.2.1 _ (s2.trans s5) upd_same (s5 _ _ (wu x hx).2);obtain⟨g,hg',e⟩:=List.mem_map.mp ((um y').mpr ⟨hy',hh'⟩);have:=least (toG g) (List.mem_map.mpr ⟨g,hg',rfl⟩);rw[<-e];exact this
   |nil =>
    refine AZ rfl ?_;have no:∀y∈off,¬hld t y.2:=λ y hy z=>by
     have:=(um y).mpr ⟨hy,z⟩;simp at this
    have bn2:=bn.same s2;refine⟨_,rfl,a,C,dx,_,_,rfl,bn2.ob,BC.cl,BC.n_stock,KS _ _,ls,rfl,⟨_,SqL.of bn2.lst⟩,λ acc2 hacc2=>Ml (K:=K) (a:=ls) (ys:=Ai ss) (λ i zs σ H'=>(∃x y,σ=[x,y,some (.ref c)])/\Same H2 H'/\∃us:List (Addr×List Int),zs=Ai us/\(∀t∈us,H' t.1=some (.tup (t.2.map V.int)))/\∀ns,ns∈us.map (λ t:Addr×List Int=>t.2)↔∃(k:Nat)(u:Addr×Int×Int),k<i/\ss[k]?=some u/\hld t (shR u.2)/\ns=[arR (shR u.2),(k:Int)]) ⟨⟨none,none,rfl⟩,Same.new hacc2,[],rfl,(λ t ht=>nomatch ht),λ ns=>⟨(λ z=>by simp at z),(λ⟨k,u,z,_⟩=>absurd z (Nat.not_lt_zero _))⟩⟩ (λ i zs σ H' _ _ hp=>SqL.of (hp.2.1 _ _ bn2.lst)) ?_ ?_⟩
    .rintro i x t1 zs σ H' hx hi hl2 hacc2' ⟨⟨x0,y0,rfl⟩,hs2,us2,rfl,wu2,iu2⟩ nt1;obtain⟨u,hu',rfl⟩:=AC hx;have um2:=List.mem_of_getElem? hu';obtain⟨H3,g,s3,f3⟩:=nw (.tup [.int i,.ref u.1]) nt1;rw[g];have st3:=(hs2.trans s3) _ _ (bn2.stk u um2);obtain⟨w1,w2,h1,h2⟩:=so u um2;have pk:AG (shR u.2):=⟨Int.le_refl _,show(0:Int)<u.2.2 by lia,h2,Int.le_refl _,show(0:Int)<u.2.1 by lia,w2⟩;refine⟨t1,_,rfl,SqT.of f3,rfl,_,_,rfl,_,_,rfl,rfl,?_⟩;refine⟨_,rfl,_,rfl,u.1,c,shR u.2,t,rfl,st3,(s2.trans (hs2.trans s3)) _ _ hc,λ H4 s4=>⟨_,rfl,?_⟩⟩;have hdec:decide (Bh t ((shR u.2).len true) ((shR u.2).len false)≠[])=decide (hld t (shR u.2)):=rfl;rw[hdec];have s34:=s3.trans s4;have hacc4:=s34 _ _ hacc2';cases hd:decide (hld t (shR u.2)) with
     |true =>
      refine⟨_,rfl,u.1,shR u.2,rfl,s4 _ _ st3,pk,_,rfl,Au 2,λ r1 nr1=>?_⟩;obtain⟨H5,g,s5,f5⟩:=nw (.tup [.int (arR (shR u.2)),.int i]) nr1;rw[g];have f5:H5 r1=some (.tup ([arR (shR u.2),(i:Int)].map V.int)):=f5;have s35:=s34.trans s5;have a5:=s5 _ _ hacc4;refine fNx.mk (Nat.le_of_lt (Ap (by rw[Al];lia))) hi hl2 a5 ⟨⟨_,_,rfl⟩,λ d o e=>by rw[Ae (Af e hacc2)];exact s35 _ _ (hs2 d o e),us2++[(r1,[arR (shR u.2),(i:Int)])],by rw[Ai,Ai,List.map_append];rfl,λ v hv=>?_,λ ns=>?_⟩
      .have kp:∀x xs,H5 x=some (.tup xs)->(upd H5 acc2 (.lst (Ai us2++[.ref r1]))) x=some (.tup xs):=λ x xs e=>by rw[Ae (λ z=>by rw[z,a5]at e;cases e)];exact e
       rcases List.mem_append.mp hv with hv|hv
       .exact kp _ _ (s35 _ _ (wu2 v hv))
       .rw[List.mem_singleton.mp hv];exact kp _ _ f5
      .rw[List.map_append,List.mem_append,iu2 ns]
       constructor
       .rintro(⟨k,u',k1,k2,k3,k4⟩|hm)
        .exact⟨k,u',by lia,k2,k3,k4⟩
        .exact⟨i,u,by lia,hu',of_decide_eq_true hd,List.mem_singleton.mp hm⟩
       .rintro⟨k,u',k1,k2,k3,k4⟩;rcases Nat.lt_or_ge k i with hk|hk
        .exact .inl ⟨k,u',hk,k2,k3,k4⟩
        .have:k=i:=by lia
         subst this;rw[hu']at k2;cases k2;exact .inr (List.mem_singleton.mpr k4)
     |false =>
      refine fSk.mk hi hl2 hacc4 ⟨⟨_,_,rfl⟩,hs2.trans s34,us2,rfl,λ v hv=>s34 _ _ (wu2 v hv),λ ns=>?_⟩;rw[iu2 ns]
      constructor
      .rintro⟨k,u',k1,k2,k3,k4⟩;exact⟨k,u',by lia,k2,k3,k4⟩
      .rintro⟨k,u',k1,k2,k3,k4⟩;rcases Nat.lt_or_ge k i with hk|hk
       .exact⟨k,u',hk,k2,k3,k4⟩
       .have:k=i:=by lia
        subst this;rw[hu']at k2;cases k2;rw[decide_eq_true k3]at hd;cases hd
    .rintro zs σ H3 hl2 hacc2' ⟨_,hs3,us2,rfl,wu2,iu2⟩;have s03:=s2.trans hs3;have bn3:=bn.same s03;have hc3:=s03 _ _ hc;rw[Al]at iu2;refine⟨_,rfl,_,.inl ⟨_,SqL.of hacc2',rfl⟩,?_⟩;cases us2 with
     |nil =>
      refine BK rfl ?_;have none':∀u∈ss,¬hld t (shR u.2):=λ u hu' z=>by
       obtain⟨k,hk⟩:=List.mem_iff_getElem?.mp hu';have:=(iu2 _).mpr ⟨k,u,(List.getElem?_eq_some_iff.mp hk).1,hk,z,rfl⟩;simp at this
      exact⟨_,rfl,c,_,_,_,rfl,rfl,SqT.of hc3,Nm,_,rfl,c,_,_,_,rfl,rfl,SqT.of hc3,Nl,rfl,λ y dx' T' H4 hy s4' e ed nd hT nT=>(qC no none').raise s03 hy s4' e ed nd hT trivial⟩
     |cons u0 ur =>
      refine AZ rfl ?_;have rr:Ai (u0::ur)=(u0::ur).map λ t=>V.ref t.1:=rfl;have mm:∀g∈u0::ur,∃(k:Nat)(u:Addr×Int×Int),k<ss.length/\ss[k]?=some u/\hld t (shR u.2)/\g.2=[arR (shR u.2),(k:Int)]:=λ g hg=>(iu2 g.2).mp (List.mem_map.mpr ⟨g,hg,rfl⟩);refine⟨_,rfl,acc2,u0::ur,EA,rfl,SqL.of hacc2',rfl,(by intro z;cases z),wu2,λ g hg g' hg'=>?_,λ g hg least=>?_⟩
      .obtain⟨k,u,k1,k2,k3,k4⟩:=mm g hg;obtain⟨k',u',k1',k2',k3',k4'⟩:=mm g' hg';rw[k4,k4'];exact Tb ⟨by lia,by lia⟩ ⟨by lia,by lia⟩
      .obtain⟨k,u,k1,k2,k3,k4⟩:=mm g hg;have hg3:=wu2 g hg;rw[k4]at hg3;have um3:=List.mem_of_getElem? k2;refine⟨g.1,_,_,_,rfl,rfl,SqT.of hg3,By,?_⟩;have least':∀(k':Nat)(u':Addr×Int×Int),ss[k']?=some u'->hld t (shR u'.2)->EA [arR (shR u.2),(k:Int)]<=EA [arR (shR u'.2),(k':Int)]:=λ k' u' e1 e2=>by
        obtain⟨g',hg',e⟩:=List.mem_map.mp ((iu2 _).mpr ⟨k',u',(List.getElem?_eq_some_iff.mp e1).1,e1,e2,rfl⟩);have:=least g' hg';rw[k4,e]at this;exact this
       have atk:atI (Ai ss) (k:Int)=some (.ref u.1):=B3 (xs:=Ai ss) (j:=k) (v:=.ref u.1) (by unfold Ai;rw[List.getElem?_map,k2];rfl);refine⟨_,rfl,a,C,dx,_,_,rfl,bn3.ob,BC.cl,BC.n_taken,GN _ _,.inl ⟨rfl,_,SqL.of bn3.tak⟩,_,rfl,λ dA ndA=>?_⟩;obtain⟨H4,g,d1,d1e⟩:=nw (.dT []) ndA;rw[g];have bn4:=bn3.same d1;refine⟨_,rfl,a,C,dx,_,_,rfl,bn4.ob,BC.cl,BC.n_stock,KS _ _,_,rfl,ls,_,_,_,rfl,rfl,SqL.of bn4.lst,atk,Au 2,λ eA neA=>?_⟩;obtain⟨H5,g,d2,d2e⟩:=nw (.tup [.str "whole",.non]) neA;rw[g];have d2e:H5 eA=some (.tup (enV (.w none))):=d2e;have bn5:=bn4.same d2;refine⟨d2 _ _ d1e,u.1,rkK (shR u.2),rfl,bn5.stk u um3,?_⟩;have dA5:=d2 _ _ d1e;have d35:Same H3 (upd H5 dA (.dT [(rkK (shR u.2),.ref eA)])):=λ b o e=>by rw[Ae (Af e ndA)];exact(d1.trans d2) _ _ e
       have d3e:(upd H5 dA (.dT [(rkK (shR u.2),.ref eA)])) dA=some (.dT [(rkK (shR u.2),.ref eA)]):=upd_same;have e3e:(upd H5 dA (.dT [(rkK (shR u.2),.ref eA)])) eA=some (.tup (enV (.w none))):=by rw[Ae (λ z=>by rw[z,dA5]at d2e;cases d2e)];exact d2e
       generalize upd H5 dA (.dT [(rkK (shR u.2),.ref eA)])=H6 at d35 d3e e3e |-;refine⟨Au 2,λ tA ntA=>?_⟩;obtain⟨H7,g,d4,d4e⟩:=nw (.tup [.int (k:Int),.ref dA]) ntA;rw[g];have d37:=d35.trans d4;have bn7:=bn3.same d37;have few:=bok.1;refine⟨lt,_,_,rfl,rfl,bn7.tak,Nat.lt_of_le_of_lt (Nat.le_of_eq (Al _)) (Ap (by lia)),?_⟩;have x8:SameX lt H7 (upd H7 lt (.lst (Ai tn++[.ref tA]))):=SameX.upd;have x8e:(upd H7 lt (.lst (Ai tn++[.ref tA]))) lt=some (.lst (Ai tn++[.ref tA])):=upd_same;generalize upd H7 lt (.lst (Ai tn++[.ref tA]))=H8 at x8 x8e |-;have nlt:∀{x:Addr}{o:HO},H7 x=some o->(∀xs,o≠.lst xs)->x≠lt:=λ e n z=>by rw[z,bn7.tak]at e;cases e;exact n _ rfl
       have k8:∀{x:Addr}{o:HO},H7 x=some o->(∀xs,o≠.lst xs)->H8 x=some o:=λ e n=>x8 _ _ (nlt e n) e;have lls:ls≠lt:=λ z=>by
        have e1:=bn7.lst;rw[z,bn7.tak]at e1;have e1:Ai tn=Ai ss:=by injection e1 with e1;injection e1
        have e2:(Ai tn)[k]?=some (.ref u.1):=by rw[e1];unfold Ai;rw[List.getElem?_map,k2];rfl
        obtain⟨t',ht',e3⟩:=AC e2;have g1:=(bn7.tks t' (List.mem_of_getElem? ht')).1;have g2:=bn7.stk u um3;have e4:t'.1=u.1:=by injection e3 with e3;exact e3.symm
        rw[e4,g2]at g1;have:=congrArg List.length (HO.tup.inj (Option.some.inj g1));simp at this
       have tn8:Ai tn++[V.ref tA]=Ai (tn++[(tA,(k:Int),dA,[(rkK (shR u.2),V.ref eA)],[(shR u.2,En.w none)])]):=by rw[Ai,Ai,List.map_append];rfl
       have bn8:BnAt C a dx ls lt H8 ss (tn++[(tA,(k:Int),dA,[(rkK (shR u.2),.ref eA)],[(shR u.2,.w none)])]):=by
        refine⟨k8 bn7.ob (by intro xs z;cases z),x8 _ _ lls bn7.lst,λ t' ht'=>k8 (bn7.stk t' ht') (by intro xs z;cases z),by rw[<-tn8];exact x8e,λ t' ht'=>?_,?_⟩
        .rcases List.mem_append.mp ht' with ht'|ht'
         .obtain⟨g1,g2,g3⟩:=bn7.tks t' ht';exact⟨k8 g1 (by intro xs z;cases z),k8 g2 (by intro xs z;cases z),g3.tups λ b xs e=>k8 e (by intro xs z;cases z)⟩
         .rw[List.mem_singleton.mp ht'];exact⟨k8 d4e (by intro xs z;cases z),k8 (d4 _ _ d3e) (by intro xs z;cases z),⟨rfl,eA,rfl,k8 (d4 _ _ e3e) (by intro xs z;cases z)⟩,trivial⟩
        .rw[List.map_append,List.nodup_append];refine⟨bn.dis,by simp,λ x hx y hy=>?_⟩;obtain⟨t',ht',rfl⟩:=List.mem_map.mp hx;rw[List.mem_singleton.mp hy];exact λ z=>by have:=(bn3.tks t' ht').2.1;rw[z,ndA]at this;cases this
       have x08:SameX lt H H8:=s03.x.trans (d37.x.trans x8);refine⟨_,rfl,a,C,dx,_,_,rfl,bn8.ob,BC.cl,BC.n_taken,GN _ _,lt,_,rfl,.inl (SqL.of bn8.tak),_,_,rfl,rfl,?_⟩;refine⟨_,rfl,a,C,dx,_,_,rfl,bn8.ob,BC.cl,BC.n_stock,KS _ _,_,rfl,ls,_,_,_,rfl,rfl,SqL.of bn8.lst,atk,Au 2,λ r nr=>?_⟩;have ln:(((Ai (tn++[((tA,(k:Int),dA,[(rkK (shR u.2),V.ref eA)],[(shR u.2,En.w none)]):Tk1)])).length:Nat):Int)-1=(tn.length:Int):=by rw[Al,List.length_append,List.length_singleton];lia
       have s9:=Same.new (o:=.tup [(λ i j=>V.int (i-j)) (((Ai (tn++[((tA,(k:Int),dA,[(rkK (shR u.2),V.ref eA)],[(shR u.2,En.w none)]):Tk1)])).length:Nat):Int) 1,.ref u.1]) nr;exact qB no k u k2 k3 least' r tA dA eA _ (Cq s03 ndA) (x08.trans s9.x) (bn8.same s9) (upd_same.trans (by show some (HO.tup [V.int ((((Ai (tn++[((tA,(k:Int),dA,[(rkK (shR u.2),V.ref eA)],[(shR u.2,En.w none)]):Tk1)])).length:Nat):Int)-1),V.ref u.1])=_;rw[ln]))
def Gh(tn:List Tk1)(i:Nat)(kvs:LKz)(kv:KV):List Tk1:=match tn[i]? with
 |some t=>tn.set i (t.1,t.2.1,t.2.2.1,kvs,kv)
 |none=>tn
theorem BnAt.setd{C a dx ls lt:Addr}{H H':Hp}{ss:LZ}{tn:List Tk1}{i:Nat}{t:Tk1}{kvs:LKz}{kv:KV}(bn:BnAt C a dx ls lt H ss tn)(ht:tn[i]?=some t)(s:SameX t.2.2.1 H H')(hd:H' t.2.2.1=some (.dT kvs))(hk:KvAt H' kvs kv):BnAt C a dx ls lt H' ss (Gh tn i kvs kv):=by
 obtain⟨hi,he⟩:=List.getElem?_eq_some_iff.mp ht;have tm:=List.mem_of_getElem? ht;have hD:=(bn.tks t tm).2.1;have kp:∀{x:Addr}{o:HO},H x=some o->(∀ks,o≠.dT ks)->H' x=some o:=λ e n=>s _ _ (λ z=>by rw[z,hD]at e;cases e;exact n _ rfl) e;have e1:Gh tn i kvs kv=tn.set i (t.1,t.2.1,t.2.2.1,kvs,kv):=by unfold Gh;rw[ht]
 rw[e1];have m1:∀{β:Type}(f:Tk1->β),f (t.1,t.2.1,t.2.2.1,kvs,kv)=f t->(tn.set i (t.1,t.2.1,t.2.2.1,kvs,kv)).map f=tn.map f:=λ f hf=>by
  rw[List.map_set,hf];apply List.ext_getElem (by simp);intro j h1 h2;rw[List.getElem_set];split
  .rename_i h;subst h;rw[List.getElem_map,he]
  .rfl
 refine⟨kp bn.ob (by intro ks z;cases z),kp bn.lst (by intro ks z;cases z),λ u hu=>kp (bn.stk u hu) (by intro ks z;cases z),?_,λ u hu=>?_,?_⟩
 .have:Ai (tn.set i (t.1,t.2.1,t.2.2.1,kvs,kv))=Ai tn:=m1 (λ x=>V.ref x.1) rfl;rw[this];exact kp bn.tak (by intro ks z;cases z)
 .obtain⟨j,hj⟩:=List.mem_iff_getElem?.mp hu;rw[List.getElem?_set]at hj;split at hj
  .cases hj;exact⟨kp (bn.tks t tm).1 (by intro ks z;cases z),hd,hk⟩
  .obtain⟨g1,g2,g3⟩:=bn.tks u (List.mem_of_getElem? hj);have nd:u.2.2.1≠t.2.2.1:=λ z=>by
    have p:=List.pairwise_iff_getElem.mp (show(tn.map λ t=>t.2.2.1).Pairwise (·≠·) from bn.dis);obtain⟨hj',ej⟩:=List.getElem?_eq_some_iff.mp hj;rcases Nat.lt_or_gt_of_ne (show i≠j by assumption) with l|l
    .have:=p i j (by simpa using hi) (by simpa using hj') l;rw[List.getElem_map,List.getElem_map,he,ej]at this;exact this z.symm
    .have:=p j i (by simpa using hj') (by simpa using hi) l;rw[List.getElem_map,List.getElem_map,he,ej]at this;exact this z
   exact⟨kp g1 (by intro ks z;cases z),s _ _ nd g2,g3.tups λ b xs e=>kp e (by intro ks z;cases z)⟩
 .rw[m1 (λ t=>t.2.2.1) rfl];exact bn.dis
inductive Nr(C cG:Addr)(vs:LUz)(H:Hp)(Q:VK)(E:XK):Prop
 |mk (a dx ls lt:Addr) (ss:LZ) (tn:List Tk1) (t:DO) (h0:vs=[.ref a,.int t.1,.int t.2.1,.bl t.2.2]) (h1:BnAt C a dx ls lt H ss tn) (h2:M2 tn) (h3:ss.length<=4) (h4:(∀t∈ss,SOk t.2)) (h5:WOk t) (h6:(Bg (whs 0 (tn.map λ t=>t.2.2.2.2))).length<60) (h7:(∀y∈A9 (whs 0 (tn.map λ t=>t.2.2.2.2)),AG y.2/\0<=y.1/\y.1<tn.length)) (h8:(∀y∈A9 (whs 0 (tn.map λ t=>t.2.2.2.2)),hld t y.2->(∀y'∈A9 (whs 0 (tn.map λ t=>t.2.2.2.2)),hld t y'.2->NP y<=NP y')->∀(u:Tk1) z rest kvs r b H',tn[y.1.toNat]?=some u->Bh t (y.2.len true) (y.2.len false)=z::rest->SameX u.2.2.1 H H' ->
  BnAt C a dx ls lt H' ss (Gh tn y.1.toNat kvs (Be u.2.2.2.2 y.2 z ((Bg (whs 0 (tn.map λ t=>t.2.2.2.2))).length:Int)))->H' r=some (.tup [.int y.1,.ref b])->H' b=some (.tup (D7 u.2.2.2.2 y.2 z).2.vs)->Q (.ref r) H')) (h9:((∀y∈A9 (whs 0 (tn.map λ t=>t.2.2.2.2)),¬hld t y.2)->∀(k:Nat)(u:Addr×Int×Int),ss[k]?=some u->hld t (shR u.2)->(∀(k':Nat)(u':Addr×Int×Int),ss[k']?=some u'->hld t (shR u'.2)->EA [arR (shR u.2),k]<=EA [arR (shR u'.2),k']) ->
  ∀z rest tA dA kvs r b H',H dA=none->Bh t ((shR u.2).len true) ((shR u.2).len false)=z::rest->SameX lt H H'->BnAt C a dx ls lt H' ss (tn++[(tA,(k:Int),dA,kvs,Be [(shR u.2,.w none)] (shR u.2) z ((Bg (whs 0 (tn.map λ t=>t.2.2.2.2))).length:Int))])->H' r=some (.tup [.int tn.length,.ref b])->H' b=some (.tup (D7 [(shR u.2,.w none)] (shR u.2) z).2.vs)->Q (.ref r) H')) (h10:((∀y∈A9 (whs 0 (tn.map λ t=>t.2.2.2.2)),¬hld t y.2)->(∀u∈ss,¬hld t (shR u.2))->Rf H E cG λ_ _=>True)):Nr C cG vs H Q E
def L1(C cG:Addr) :Sp:=λ vs H Q E=>Nr C cG vs H Q E
abbrev Tm:LSz:=["self","width","height","turns","number","want","place","entries"]
theorem Lh:Aq Tm ["self","width","height","turns"] (Ag B6):=fsc
theorem Jm{f:Addr}{fd:FuncData}{C cG cM:Addr}{dv:Value}(F:FunF K "cut" "Bench.cut" B6 f fd dv)(T:Txt mg tk)(BC:JP K C)(X_TooMany:Nn P w K mg base 1 "TooMany" cM ["self","many"] ["many"])(D_check_sides:A5 P w K mg base 3 "check_sides" ["width","height"] Kc)(D_cut_pane:A5 P w K mg base 3 "cut_pane" ["entries","piece","want","number"] Gc)(M_Bench_panes_cut:GZ P w K mg base 2 C "panes_cut" ["self"] (Di C))(M_Bench_piece_for:Iu P w K mg base 4 C "piece_for" ["self","want"] (Fn C cG)):A8 P w K mg base (CX1 P w) 5 f fd ["self","width","height","turns"] (L1 C cG):=by
 have S:=Lh;refine F.okx S (λ vs H Q E h=>?_) (λ cdv A outer s H vs Q E hr h=>?_)
 .obtain⟨a,dx,ls,lt,ss,tn,t,rfl,_⟩:=h;rfl
 .obtain⟨a,dx,ls,lt,ss,tn,t,rfl,bn,bok,s4,so,wok,np,ok1,qA,qB,qC⟩:=h;have hu:=KA hr;refine⟨_,(Ac (B0 (Aw D_check_sides hr (Aa (pv 1) (Aa (pv 2) Ab))))
   (Ac (As (i:=4) S.nd rfl (Or.inl rfl) (At AK rfl T.z_len rfl (Aa (C4 M_Bench_panes_cut hr (pv 0)) Ab)))
   (Ac (AJ (Ax CH (pv 4) (AM (v:=.int 60) rfl T.g_MOST_CUT ⟨_,rfl⟩) (Az _)) (Ah (Kj IJ X_TooMany hr (Aa (A6 Bp (AM (v:=.int 60) rfl T.g_MOST_CUT ⟨_,rfl⟩) Ad) Ab))) Ay)
   (Ac (As (i:=5) S.nd rfl (Or.inl rfl) (Av (Aa (pv 1) (Aa (pv 2) (Aa (pv 3) Ab)))))
   (Ac (As (i:=6) S.nd rfl (Or.inl rfl) (QZ M_Bench_piece_for hr (Re IJ (Rg (H:=H) (E:=E))) (pv 0) (Aa (pv 5) Ab)))
   (Ac (As (i:=7) S.nd rfl (Or.inl rfl) (Ao Ak (Ao Cc (Bo (pv 0) rfl) (Ao Ak (pv 6) Ad (λ_ _=>rfl)) (λ_ _=>rfl)) Ad (λ_ _=>rfl)))
   (Ah (Ar (Av (Aa (Ao Ak (pv 6) Ad (λ_ _=>rfl)) (Aa (Aw D_cut_pane hr (Aa (pv 7) (Aa (Ao Ak (pv 6) Ad (λ_ _=>rfl)) (Aa (pv 5) (Aa (pv 4) Ab))))) Ab))))))))))),?_⟩
  generalize hof:A9 (whs 0 (tn.map λ t=>t.2.2.2.2))=off at ok1 qA qB qC;generalize hnp:(Bg (whs 0 (tn.map λ t=>t.2.2.2.2))).length=np' at np qA qB;refine⟨_,rfl,_,rfl,t.1,t.2.1,rfl,wok.1,wok.2.1,wok.2.2.1,wok.2.2.2,λ H1 s1=>?_⟩;have bn1:=bn.same s1;refine⟨_,rfl,a,dx,_,rfl,bn1.ob,Ca _ _ (by decide +kernel) (by decide +kernel),a,dx,ls,lt,ss,tn,rfl,bn1,bok,λ l ts H2 s2 nl hl wt eq=>?_⟩;have tl:=congrArg List.length eq;rw[List.length_map,hnp]at tl;refine⟨l,_,rfl,.inl (SqL.of hl),?_⟩;rw[Al,tl];have s12:=s1.trans s2;refine⟨_,rfl,rfl,_,rfl,AZ (decide_eq_false (λ z=>by have:=V.int.inj z;lia)) ?_⟩;refine⟨_,rfl,_,rfl,_,rfl,Au 3,λ c nc=>?_⟩;obtain⟨H3,g,s3,e3⟩:=nw (.tup [.int t.1,.int t.2.1,.bl t.2.2]) nc;rw[g];have s03:=s12.trans s3;have bn3:=bn.same s03;have few:=bok.1;refine⟨_,rfl,a,dx,_,rfl,bn3.ob,Ca _ _ (by decide +kernel) (by decide +kernel),_,rfl,a,dx,ls,lt,c,ss,tn,t,rfl,bn3,bok,s4,so,e3,?_,?_,?_,?_⟩
  .rw[hof];exact λ y hy=>⟨(ok1 y hy).1,(ok1 y hy).2.1,by have:=(ok1 y hy).2.2;lia⟩
  .rw[hof];intro y hy hh least r b H4 s4' hr4 hb4;obtain⟨pk,y0,y1⟩:=ok1 y hy;have bn4:=bn3.same s4';obtain⟨u,hu4⟩:∃u,tn[y.1.toNat]?=some u:=⟨_,List.getElem?_eq_getElem (by lia)⟩;have um:=List.mem_of_getElem? hu4;obtain⟨g1,g2,g3⟩:=bn4.tks u um;have atk:atI (Ai tn) y.1=some (.ref u.1):=by
    have:=B3 (xs:=Ai tn) (j:=y.1.toNat) (v:=.ref u.1) (by unfold Ai;rw[List.getElem?_map,hu4];rfl);rwa [Int.toNat_of_nonneg y0]at this
   obtain⟨z,rest,hz⟩:∃z rest,Bh t (y.2.len true) (y.2.len false)=z::rest:=by
    cases q:Bh t (y.2.len true) (y.2.len false) with
    |nil=>exact absurd q hh
    |cons z rest=>exact⟨z,rest,rfl⟩
   refine⟨_,rfl,a,C,dx,_,_,rfl,bn4.ob,BC.cl,BC.n_taken,GN _ _,_,rfl,r,_,_,_,rfl,rfl,SqT.of hr4,Bz,lt,_,_,_,rfl,rfl,SqL.of bn4.tak,atk,u.1,_,_,_,rfl,rfl,SqT.of g1,By,?_⟩;refine⟨_,rfl,r,_,_,_,rfl,rfl,SqT.of hr4,Bz,_,rfl,_,rfl,r,_,_,_,rfl,rfl,SqT.of hr4,By,_,rfl,_,rfl,u.2.2.1,b,c,_,y.2,t,z,rest,u.2.2.2.1,u.2.2.2.2,rfl,g2,g3,?_,hb4,s4' _ _ e3,hz,λ b' kvs' H5 x5 d5 kv5 b5=>?_⟩
   .have:=bok.2.1 u um;lia
   refine⟨Au 2,λ r2 nr2=>?_⟩;have s6:Same H5 (upd H5 r2 (.tup [.int y.1,.ref b'])):=Same.new nr2;have s04:=s03.trans s4';exact qA y hy hh least u z rest kvs' r2 b' _ hu4 hz (s04.x.trans (x5.trans s6.x)) ((bn4.setd hu4 x5 d5 kv5).same s6) upd_same (s6 _ _ b5)
  .rw[hof];intro no k u k2 k3 least r tA dA eA H4 ndA x4 bn4 hr4;have um:=List.mem_of_getElem? k2;have hb4:=bn4.stk u um;have tm:((tA,(k:Int),dA,[(rkK (shR u.2),V.ref eA)],[(shR u.2,En.w none)]):Tk1)∈tn++[(tA,(k:Int),dA,[(rkK (shR u.2),V.ref eA)],[(shR u.2,En.w none)])]:=List.mem_append_right _ (List.mem_singleton.mpr rfl);obtain⟨g1,g2,g3⟩:=bn4.tks _ tm;have ix:(tn++[((tA,(k:Int),dA,[(rkK (shR u.2),V.ref eA)],[(shR u.2,En.w none)]):Tk1)])[tn.length]?=some (tA,(k:Int),dA,[(rkK (shR u.2),V.ref eA)],[(shR u.2,En.w none)]):=by
    rw[List.getElem?_append_right (Nat.le_refl _),Nat.sub_self];rfl
   have atk:atI (Ai (tn++[((tA,(k:Int),dA,[(rkK (shR u.2),V.ref eA)],[(shR u.2,En.w none)]):Tk1)])) (tn.length:Int)=some (.ref tA):=B3 (xs:=Ai (tn++[((tA,(k:Int),dA,[(rkK (shR u.2),V.ref eA)],[(shR u.2,En.w none)]):Tk1)])) (j:=tn.length) (v:=.ref tA) (by unfold Ai;rw[List.getElem?_map,ix];rfl);obtain⟨z,rest,hz⟩:∃z rest,Bh t ((shR u.2).len true) ((shR u.2).len false)=z::rest:=by
    cases q:Bh t ((shR u.2).len true) ((shR u.2).len false) with
    |nil=>exact absurd q k3
    |cons z rest=>exact⟨z,rest,rfl⟩
   have nc:c≠lt:=λ zz=>by have:=bn3.tak;rw[<-zz,e3]at this;cases this
   refine⟨_,rfl,a,C,dx,_,_,rfl,bn4.ob,BC.cl,BC.n_taken,GN _ _,_,rfl,r,_,_,_,rfl,rfl,SqT.of hr4,Bz,lt,_,_,_,rfl,rfl,SqL.of bn4.tak,atk,tA,_,_,_,rfl,rfl,SqT.of g1,By,?_⟩;refine⟨_,rfl,r,_,_,_,rfl,rfl,SqT.of hr4,Bz,_,rfl,_,rfl,r,_,_,_,rfl,rfl,SqT.of hr4,By,_,rfl,_,rfl,dA,u.1,c,_,shR u.2,t,z,rest,_,_,rfl,g2,g3,(show 1<=500 by lia),hb4,x4 _ _ nc e3,hz,λ b' kvs' H5 x5 d5 kv5 b5=>?_⟩;refine⟨Au 2,λ r2 nr2=>?_⟩;have s6:Same H5 (upd H5 r2 (.tup [.int tn.length,.ref b'])):=Same.new nr2;have nd0:H dA=none:=Cq s03 ndA;have xx:SameX lt H H5:=λ x o n e=>x5 _ _ (Af e nd0) (x4 _ _ n (s03 _ _ e));have bn5:=(bn4.setd ix x5 d5 kv5).same s6;have st:Gh (tn++[((tA,(k:Int),dA,[(rkK (shR u.2),V.ref eA)],[(shR u.2,En.w none)]):Tk1)]) tn.length kvs' (Be [(shR u.2,En.w none)] (shR u.2) z (np':Int))=tn++[(tA,(k:Int),dA,kvs',Be [(shR u.2,En.w none)] (shR u.2) z (np':Int))]:=by
    unfold Gh;rw[ix];show(tn++[_]).set tn.length _=_;rw[List.set_append_right _ _ (Nat.le_refl _),Nat.sub_self];rfl
   rw[st]at bn5;exact qB no k u k2 k3 least z rest tA dA kvs' r2 b' _ nd0 hz (xx.trans s6.x) bn5 upd_same (s6 _ _ b5)
  .rw[hof];intro no none';exact ST s03 (qC no none') (λ_ _ _ _ _ _ _ _ _=>trivial)
theorem K5{α:Type}{us:List α}(h:us.length=1):∃a,us=[a]:=List.length_eq_one_iff.mp h
theorem LY{α:Type}{us:List α}(h:us.length=2):∃a b,us=[a,b]:=by
 cases us with
 |nil=>cases h
 |cons a r=>obtain⟨b,rfl⟩:=K5 (Nat.succ.inj h);exact⟨a,b,rfl⟩
theorem Td{α:Type}{us:List α}(h:us.length=3):∃a b c,us=[a,b,c]:=by
 cases us with
 |nil=>cases h
 |cons a r=>obtain⟨b,c,rfl⟩:=LY (Nat.succ.inj h);exact⟨a,b,c,rfl⟩
theorem Tc{α:Type}{us:List α}(h:us.length=4):∃a b c d,us=[a,b,c,d]:=by
 cases us with
 |nil=>cases h
 |cons a r=>obtain⟨b,c,d,rfl⟩:=Td (Nat.succ.inj h);exact⟨a,b,c,d,rfl⟩
theorem RD{H:Hp}{x d:Addr}{o1 o2:HO}{E1:HO}(hx:H x=some E1)(hd:H d=none):(upd (upd H d o1) x o2) x=some o2/\(upd (upd H d o1) x o2) d=some o1/\∀a o,a≠x->H a=some o->(upd (upd H d o1) x o2) a=some o :=
 ⟨upd_same,by rw[Ae (Ne.symm (Af hx hd)),upd_same],λ a o ne e=>by rw[Ae ne,Ae (Af e hd)];exact e⟩
theorem RC{H H1:Hp}{x d:Addr}{o1 o2:HO}(hd:H d=none)(ne:d≠x)(h1:H1 x=some o1)(hs:∀a o,a≠x->H a=some o->H1 a=some o):(upd H1 d o2) x=some o1/\(upd H1 d o2) d=some o2/\∀a o,a≠x->H a=some o->(upd H1 d o2) a=some o :=
 ⟨by rw[Ae (Ne.symm ne)];exact h1,upd_same,λ a o na e=>by rw[Ae (Af e hd)];exact hs a o na e⟩
theorem GV:Aq ["self","many"] ["self","many"] (Ag Cl):=fsc
theorem F4{f C:Addr}{fd:FuncData}(F:Fun K "__init__" "TooMany.__init__" Cl f fd)(R:XCls K C)(n1:NoAttr K C "many"):A8 P w K mg base CX0 1 f fd ["self","many"] (P8 C ["many"]):=by
 have S:=GV;refine F.ok S (λ vs H Q E h=>?_) (λ cdv A outer s H vs Q E hr h=>?_)
 .obtain⟨x,ws,rfl,hl,_⟩:=h;rw[List.length_cons,hl];rfl
 .obtain⟨x,ws,rfl,hl,hx,q⟩:=h;obtain⟨v0,rfl⟩:=K5 hl;refine⟨_,(Ah (IZ (pv 0) (pv 1) rfl)),?_⟩;refine⟨_,rfl,_,rfl,x,C,rfl,R,n1,.inl ⟨hx,λ d hd=>?_⟩⟩;obtain⟨e1,e2,e3⟩:=RD (o1:=DD d [("many",v0)]) (o2:=DP C d x) hx hd;exact q d _ hd e1 e2 e3
theorem GW:Aq ["self","width","height"] ["self","width","height"] (Ag Cm):=fsc
theorem F5{f C:Addr}{fd:FuncData}(F:Fun K "__init__" "NoGlass.__init__" Cm f fd)(R:XCls K C)(n1:NoAttr K C "width")(n2:NoAttr K C "height"):A8 P w K mg base CX0 1 f fd ["self","width","height"] (P8 C ["width","height"]):=by
 have S:=GW;refine F.ok S (λ vs H Q E h=>?_) (λ cdv A outer s H vs Q E hr h=>?_)
 .obtain⟨x,ws,rfl,hl,_⟩:=h;rw[List.length_cons,hl];rfl
 .obtain⟨x,ws,rfl,hl,hx,q⟩:=h;obtain⟨v0,v1,rfl⟩:=LY hl;refine⟨_,(Ac (IZ (pv 0) (pv 1) rfl)
   (Ah (IZ (pv 0) (pv 2) rfl))),?_⟩
  refine⟨_,rfl,_,rfl,x,C,rfl,R,n1,.inl ⟨hx,λ d hd=>?_⟩⟩;obtain⟨e1,e2,e3⟩:=RD (o1:=DD d [("width",v0)]) (o2:=DP C d x) hx hd;generalize upd (upd H d (DD d [("width",v0)])) x (DP C d x)=H1 at e1 e2 e3 |-;have nd:d≠x:=Ne.symm (Af hx hd);have p1:Bn "height" v1 [(("width":Str),v0)]=[(("width":Str),v0),(("height":Str),v1)]:=by
   rw[Bn,if_neg (by decide +kernel)];rfl
  refine⟨_,rfl,_,rfl,x,C,rfl,R,n2,.inr ⟨d,_,e1,e2,by show 1<1000;decide,?_⟩⟩;rw[p1];obtain⟨f1,f2,f3⟩:=RC (o2:=DD d [(("width":Str),v0),(("height":Str),v1)]) hd nd e1 e3;exact q d _ hd f1 f2 f3
def Hu(cU cL:Addr)(u:Bool):Addr:=if u then cU else cL
abbrev wF(m:V):LFz:=Bn "mark" m []
abbrev cF(k:Int)(vx vy:V):LFz:=Bn "other" vy (Bn "first" vx (Bn "at" (.int k) []))
def Obj(cW cU cL:Addr)(H:Hp):Tr->V->Prop
 |.whole m,v=>∃a dx,v=.ref a/\H a=some (.ins cW dx (wF (Bl m)))
 |.cut u k x y,v=>∃a dx vx vy,v=.ref a/\H a=some (.ins (Hu cU cL u) dx (cF k vx vy))/\Obj cW cU cL H x vx/\Obj cW cU cL H y vy
theorem Obj.same{H H':Hp}(s:Same H H'):∀{t:Tr}{v:V},Obj cW cU cL H t v->Obj cW cU cL H' t v
 |.whole m,v,h=>by
  rw[Obj]at h |-;obtain⟨a,dx,e,h⟩:=h;exact⟨a,dx,e,s _ _ h⟩
 |.cut u k x y,v,h=>by
  rw[Obj]at h |-;obtain⟨a,dx,vx,vy,e,h,h1,h2⟩:=h;exact⟨a,dx,vx,vy,e,s _ _ h,Obj.same s h1,Obj.same s h2⟩
structure RT(mg:MGz)(K:Frag)(cT cW cU cL:Addr):Prop where
 g_Tree:mg "Tree"=some (.ref cT)
 g_Whole:mg "Whole"=some (.ref cW)
 g_Upright:mg "Upright"=some (.ref cU)
 g_Level:mg "Level"=some (.ref cL)
 iW:M1 K cW
 iC:∀u,M1 K (Hu cU cL u)
 n_mark:NoAttr K cW "mark"
 n_at:∀u,NoAttr K (Hu cU cL u) "at"
 n_first:∀u,NoAttr K (Hu cU cL u) "first"
 n_other:∀u,NoAttr K (Hu cU cL u) "other"
 kWW:kitOne K (.ref cW) (.ref cW)=some true
 kWC:∀u,kitOne K (.ref cW) (.ref (Hu cU cL u))=some false
 kCW:∀u,kitOne K (.ref (Hu cU cL u)) (.ref cW)=some false
 kCC:∀u v,kitOne K (.ref (Hu cU cL u)) (.ref (Hu cU cL v))=some (u==v)
 kWT:kitOne K (.ref cW) (.ref cT)=some true
 kCT:∀u,kitOne K (.ref (Hu cU cL u)) (.ref cT)=some true
inductive Px(C:Addr)(vs:LUz)(H:Hp)(Q:VK)(E:XK):Prop
 |mk (a dx:Addr) (m:V) (h0:vs=[.ref a,m]) (h1:H a=some (.ins C dx [])) (h2:Q .non (upd H a (.ins C dx (wF m)))):Px C vs H Q E
def O0(C:Addr) :Sp:=λ vs H Q E=>Px C vs H Q E
inductive Py(C:Addr)(vs:LUz)(H:Hp)(Q:VK)(E:XK):Prop
 |mk (a dx:Addr) (k:Int) (vx vy:V) (h0:vs=[.ref a,.int k,vx,vy]) (h1:H a=some (.ins C dx [])) (h2:∀H',SameX a H H'->H' a=some (.ins C dx (cF k vx vy))->Q .non H'):Py C vs H Q E
def MB(C:Addr) :Sp:=λ vs H Q E=>Py C vs H Q E
theorem JL:Aq ["self","mark"] ["self","mark"] (Ag Br):=fsc
theorem Ho{f:Addr}{fd:FuncData}(F:FunD K "__init__" "Whole.__init__" Br f fd)(R:RT mg K cT cW cU cL):A8 P w K mg base CX0 1 f fd ["self","mark"] (O0 cW):=by
 have S:=JL;refine F.ok S (λ vs H Q E h=>?_) (λ cdv A outer s H vs Q E hr h=>?_)
 .obtain⟨a,dx,m,rfl,_⟩:=h;rfl
 .obtain⟨a,dx,m,rfl,ha,q⟩:=h;refine⟨_,(Ah (CV (pv 0) (pv 1) rfl)),?_⟩;exact⟨_,rfl,_,rfl,a,cW,dx,_,rfl,ha,R.iW.cl,R.n_mark,(by show 0<1000;decide),q⟩
theorem GU:Aq ["self","at","first","other"] ["self","at","first","other"] (Ag Ck):=fsc
theorem F3{f:Addr}{fd:FuncData}(F:Fun K "__init__" "Upright.__init__" Ck f fd)(R:RT mg K cT cW cU cL):A8 P w K mg base CX0 1 f fd ["self","at","first","other"] (MB cU):=by
 have S:=GU;refine F.ok S (λ vs H Q E h=>?_) (λ cdv A outer s H vs Q E hr h=>?_)
 .obtain⟨a,dx,k,vx,vy,rfl,_⟩:=h;rfl
 .obtain⟨a,dx,k,vx,vy,rfl,ha,q⟩:=h;refine⟨_,(Ac (CV (pv 0) (pv 1) rfl)
   (Ac (CV (pv 0) (pv 2) rfl)
   (Ah (CV (pv 0) (pv 3) rfl)))),?_⟩
  refine⟨_,rfl,_,rfl,a,cU,dx,_,rfl,ha,(R.iC true).cl,R.n_at true,(by show 0<1000;decide),?_⟩;refine⟨_,rfl,_,rfl,a,cU,dx,_,rfl,upd_same,(R.iC true).cl,R.n_first true,(by show 1<1000;decide),?_⟩;refine⟨_,rfl,_,rfl,a,cU,dx,_,rfl,upd_same,(R.iC true).cl,R.n_other true,(by show 2<1000;decide),?_⟩;exact q _ ((SameX.upd.trans SameX.upd).trans SameX.upd) upd_same
theorem JM:Aq ["self","at","first","other"] ["self","at","first","other"] (Ag CT):=fsc
theorem Hq{f:Addr}{fd:FuncData}(F:Fun K "__init__" "Level.__init__" CT f fd)(R:RT mg K cT cW cU cL):A8 P w K mg base CX0 1 f fd ["self","at","first","other"] (MB cL):=by
 have S:=JM;refine F.ok S (λ vs H Q E h=>?_) (λ cdv A outer s H vs Q E hr h=>?_)
 .obtain⟨a,dx,k,vx,vy,rfl,_⟩:=h;rfl
 .obtain⟨a,dx,k,vx,vy,rfl,ha,q⟩:=h;refine⟨_,(Ac (CV (pv 0) (pv 1) rfl)
   (Ac (CV (pv 0) (pv 2) rfl)
   (Ah (CV (pv 0) (pv 3) rfl)))),?_⟩
  refine⟨_,rfl,_,rfl,a,cL,dx,_,rfl,ha,(R.iC false).cl,R.n_at false,(by show 0<1000;decide),?_⟩;refine⟨_,rfl,_,rfl,a,cL,dx,_,rfl,upd_same,(R.iC false).cl,R.n_first false,(by show 1<1000;decide),?_⟩;refine⟨_,rfl,_,rfl,a,cL,dx,_,rfl,upd_same,(R.iC false).cl,R.n_other false,(by show 2<1000;decide),?_⟩;exact q _ ((SameX.upd.trans SameX.upd).trans SameX.upd) upd_same
theorem Fb{H:Hp}{x dx:Addr}{o1 o2:HO}(hx:H x=none)(hd:H dx=none):Same H (upd (upd H dx o1) x o2):=λ b o e=>by
 rw[Ae (Af e hx),Ae (Af e hd)];exact e
theorem fW(m:V):(wF m).lookup ("mark":Str)=some m:=by rw[A7,if_pos rfl]
theorem MZ(k:Int)(vx vy:V):(cF k vx vy).lookup ("at":Str)=some (.int k):=by rw[A7,if_neg (by decide +kernel),A7,if_neg (by decide +kernel),A7,if_pos rfl]
theorem KI(k:Int)(vx vy:V):(cF k vx vy).lookup ("first":Str)=some vx:=by rw[A7,if_neg (by decide +kernel),A7,if_pos rfl]
theorem KF(k:Int)(vx vy:V):(cF k vx vy).lookup ("other":Str)=some vy:=by rw[A7,if_pos rfl]
theorem LB{C:Addr}:∀u',RelV (.ref C) u'->u'=.ref C:=λ_ z=>z
def ents:Tr->List En
 |.whole m=>[.w m]
 |.cut u k x y=>.c u k::(ents x++ents y)
def Tr.nd:Tr->Nat
 |.whole _=>1
 |.cut _ _ x y=>x.nd+y.nd+1
theorem D0:∀t:Tr,(ents t).length=t.nd
 |.whole _=>rfl
 |.cut _ _ x y=>by rw[ents,List.length_cons,List.length_append,D0 x,D0 y];rfl
theorem OH:∀t:Tr,0<t.nd
 |.whole _=>Nat.one_pos
 |.cut _ _ x y=>Nat.succ_pos _
def Kp(H H':Hp):Prop:=∀b o,H b=some o->(∀xs,o≠.lst xs)->H' b=some o
theorem G6{H H':Hp}(s:Same H H'):Kp H H':=λ b o e _=>s b o e
theorem Kp.trans{H H1 H2:Hp}(a:Kp H H1)(b:Kp H1 H2):Kp H H2:=λ c o e n=>b c o (a c o e n) n
theorem Kp.put{H:Hp}{l:Addr}{xs ys:LUz}(h:H l=some (.lst xs)):Kp H (upd H l (.lst ys)):=λ b o e n=>by
 rw[Ae (MP e h (n xs))];exact e
theorem Obj.kp{H H':Hp}(s:Kp H H'):∀{t:Tr}{v:V},Obj cW cU cL H t v->Obj cW cU cL H' t v
 |.whole m,v,h=>by
  rw[Obj]at h |-;obtain⟨a,dx,e,h⟩:=h;exact⟨a,dx,e,s _ _ h (by intro xs z;cases z)⟩
 |.cut u k x y,v,h=>by
  rw[Obj]at h |-;obtain⟨a,dx,vx,vy,e,h,h1,h2⟩:=h;exact⟨a,dx,vx,vy,e,s _ _ h (by intro xs z;cases z),Obj.kp s h1,Obj.kp s h2⟩
def EnsAt(H:Hp):LUz->List En->Prop
 |[],[]=>True
 |v::r,e::q=>(∃a,v=.ref a/\H a=some (.tup (enV e)))/\EnsAt H r q
 |_,_=>False
theorem EnsAt.kp{H H':Hp}(s:Kp H H'):∀{vs:LUz}{es:List En},EnsAt H vs es->EnsAt H' vs es
 |[],[],_=>trivial
 |v::r,e::q,h=>⟨let ⟨a,b,c⟩:=h.1;⟨a,b,s _ _ c (by intro xs z;cases z)⟩,EnsAt.kp s h.2⟩
 |[],_::_,h=>h
 |_::_,[],h=>h
theorem EnsAt.snoc{H:Hp}{a:Addr}{e:En}(ha:H a=some (.tup (enV e))):∀{vs:LUz}{es:List En},EnsAt H vs es->EnsAt H (vs++[.ref a]) (es++[e])
 |[],[],_=>⟨⟨a,rfl,ha⟩,trivial⟩
 |v::r,e'::q,h=>⟨h.1,EnsAt.snoc ha h.2⟩
 |[],_::_,h=>h.elim
 |_::_,[],h=>h.elim
theorem EnsAt.len{H:Hp}:∀{vs:LUz}{es:List En},EnsAt H vs es->vs.length=es.length
 |[],[],_=>rfl
 |v::r,e'::q,h=>by rw[List.length_cons,List.length_cons,EnsAt.len h.2]
 |[],_::_,h=>h.elim
 |_::_,[],h=>h.elim
theorem EnsAt.get{H:Hp}:∀{vs:LUz}{es:List En}{i:Nat}{v:V},EnsAt H vs es->vs[i]?=some v->∃e a,es[i]?=some e/\v=.ref a/\H a=some (.tup (enV e))
 |v::r,e::q,0,_,h,hv=>by
  cases hv;obtain⟨a,b,c⟩:=h.1;exact⟨e,a,rfl,b,c⟩
 |v::r,e::q,i+1,_,h,hv=>EnsAt.get (i:=i) h.2 hv
 |[],[],_,_,_,hv=>by cases hv
 |[],_::_,_,_,h,_=>h.elim
 |_::_,[],_,_,h,_=>h.elim
def Ei(ws:List (V×Tr)):List En:=ws.reverse.flatMap λ p=>ents p.2
theorem BL(ws:List (V×Tr))(p:V×Tr):Ei (ws++[p])=ents p.2++Ei ws:=by
 unfold Ei;rw[List.reverse_append,List.reverse_singleton,List.singleton_append,List.flatMap_cons]
def cnt(ws:List (V×Tr)):Nat:=(ws.map λ p=>p.2.nd).sum
theorem D8(ws:List (V×Tr))(p:V×Tr):cnt (ws++[p])=cnt ws+p.2.nd:=by
 unfold cnt;rw[List.map_append,List.sum_append,List.map_singleton,List.sum_singleton]
theorem JH:∀ws:List (V×Tr),ws.length<=cnt ws
 |[]=>Nat.le_refl 0
 |p::r=>by
  have:=JH r;have:=OH p.2;show r.length+1<=p.2.nd+cnt r;lia
theorem Ff(p:V×Tr)(r:List (V×Tr)):Ei (p::r)=Ei r++ents p.2:=by
 unfold Ei;rw[List.reverse_cons,List.flatMap_append,List.flatMap_cons,List.flatMap_nil,List.append_nil]
theorem GG:∀ws:List (V×Tr),(Ei ws).length=cnt ws
 |[]=>rfl
 |p::r=>by
  rw[Ff,List.length_append,D0,GG r];show _=p.2.nd+cnt r;lia
theorem DX{α:Type}(ws:List α):ws=[]\/∃ws0 p,ws=ws0++[p]:=by
 by_cases h:ws=[]
 .exact .inl h
 .exact .inr ⟨ws.dropLast,ws.getLast h,(List.dropLast_concat_getLast h).symm⟩
theorem K6{ws0:List (V×Tr)}{p:V×Tr}:((ws0++[p]).map (·.1))[((ws0++[p]).map (·.1)).length-1]?=some p.1:=by
 rw[List.length_map,List.length_append,List.length_singleton,Nat.add_sub_cancel,List.getElem?_map,List.getElem?_append_right (Nat.le_refl _),Nat.sub_self];rfl
theorem KN{ws0:List (V×Tr)}{p:V×Tr}:((ws0++[p]).map (·.1)).dropLast=ws0.map (·.1):=by rw[List.map_append,List.map_singleton,List.dropLast_concat]
def wt:En->Int
 |.w _=>1
 |.c _ _=>-1
def wts(es:List En):Int:=(es.map wt).sum
theorem IL(a b:List En):wts (a++b)=wts a+wts b:=by
 unfold wts;rw[List.map_append,List.sum_append]
theorem JR(e:En)(b:List En):wts (e::b)=wt e+wts b:=by
 unfold wts;rw[List.map_cons,List.sum_cons]
theorem C9:∀t:Tr,wts (ents t)=1
 |.whole _=>rfl
 |.cut u k x y=>by
  rw[ents,JR,IL,C9 x,C9 y];rfl
theorem FS:∀ws:List (V×Tr),wts (Ei ws)=ws.length
 |[]=>rfl
 |p::r=>by rw[Ff,IL,C9,FS r,List.length_cons];lia
theorem IK:∀(t:Tr)(a b:List En),ents t=a++b->b≠[]->1<=wts b
 |.whole m,a,b,h,hb=>by
  have h:[En.w m]=a++b:=h;cases a with
  |nil=>rw[List.nil_append]at h;rw[<-h];exact Int.le_refl 1
  |cons e r =>
   have:=congrArg List.length h;simp only[List.length_append,List.length_cons,List.length_nil]at this;exact absurd (List.length_eq_zero_iff.mp (by lia)) hb
 |.cut u k x y,a,b,h,hb=>by
  cases a with
  |nil =>
   rw[List.nil_append]at h;rw[<-h,C9];decide
  |cons e r =>
   rw[ents,List.cons_append]at h;have h2:=List.cons.inj h |>.2;rcases List.append_eq_append_iff.mp h2 with ⟨c,hc,hd⟩|⟨c,hc,hd⟩
   .exact IK y c b hd hb
   .rw[hd,IL,C9];by_cases e:c=[]
    .rw[e];decide
    .have:=IK x r c hc e;lia
theorem GI:∀(t t':Tr)(r r':List En),ents t++r=ents t'++r'->t=t'/\r=r'
 |.whole m,.whole m',r,r',h=>by
  have h:En.w m::r=En.w m'::r':=h;injection h with h1 h2;injection h1 with h1;exact⟨by rw[h1],h2⟩
 |.whole m,.cut u k x y,r,r',h=>by
  have h:En.w m::r=En.c u k::(ents x++ents y++r'):=h;injection h with h1 _;cases h1
 |.cut u k x y,.whole m,r,r',h=>by
  have h:En.c u k::(ents x++ents y++r)=En.w m::r':=h;injection h with h1 _;cases h1
 |.cut u k x y,.cut u' k' x' y',r,r',h=>by
  have h:En.c u k::(ents x++ents y++r)=En.c u' k'::(ents x'++ents y'++r'):=h;injection h with h1 h2;injection h1 with h3 h4;rw[List.append_assoc,List.append_assoc]at h2;obtain⟨e1,h5⟩:=GI x x' _ _ h2;obtain⟨e2,h6⟩:=GI y y' _ _ h5;exact⟨by rw[h3,h4,e1,e2],h6⟩
inductive Fy(cW cU cL:Addr)(vs:LUz)(H:Hp)(Q:VK)(E:XK):Prop
 |mk (u:Bool) (k:Int) (v1 v2:V) (y1 y2:Tr) (h0:vs=[.str (wd u),.int k,v1,v2]) (h1:Obj cW cU cL H y1 v1) (h2:Obj cW cU cL H y2 v2) (h3:∀v' H',Same H H'->Obj cW cU cL H' (.cut u k y1 y2) v'->Q v' H'):Fy cW cU cL vs H Q E
def DV(cW cU cL:Addr) :Sp:=λ vs H Q E=>Fy cW cU cL vs H Q E
theorem Mz:Aq ["word","at","first","other"] ["word","at","first","other"] (Ag Eb):=fsc
theorem Kw{f:Addr}{fd:FuncData}(F:Fun K "cut_from" "cut_from" Eb f fd)(T:Txt mg tk)(K_Upright:M0 P w K mg base 1 "Upright" cU ["self","at","first","other"] (MB cU))(K_Level:M0 P w K mg base 1 "Level" cL ["self","at","first","other"] (MB cL)) :
  A8 P w K mg base CX0 3 f fd ["word","at","first","other"] (DV cW cU cL):=by
 have S:=Mz;refine F.ok S (λ vs H Q E h=>?_) (λ cdv A outer s H vs Q E hr h=>?_)
 .obtain⟨u,k,v1,v2,y1,y2,rfl,_⟩:=h;rfl
 .obtain⟨u,k,v1,v2,y1,y2,rfl,o1,o2,q⟩:=h;refine⟨_,(Ac (AJ (Ax CH (pv 0) (AM (v:=.str "upright") rfl T.g_UPRIGHT ⟨_,rfl⟩) (Az _)) (Ah (Ar (ML K_Upright hr (Aa (pv 1) (Aa (pv 2) (Aa (pv 3) Ab)))))) Ay)
   (Ah (Ar (ML K_Level hr (Aa (pv 1) (Aa (pv 2) (Aa (pv 3) Ab))))))),?_⟩
  cases u with
  |true =>
   refine⟨_,rfl,rfl,_,rfl,BK (Cu true true) ⟨_,rfl,_,rfl,_,rfl,λ x dx nx ndx nex=>⟨x,dx,k,v1,v2,rfl,upd_same,λ H3 s3 e3=>⟨rfl,?_⟩⟩⟩⟩;have s4:Same H H3:=λ b o e=>s3 b o (Af e nx) (Fb nx ndx b o e);exact q _ _ s4 (by rw[Obj];exact⟨x,dx,v1,v2,rfl,e3,o1.same s4,o2.same s4⟩)
  |false =>
   refine⟨_,rfl,rfl,_,rfl,AZ (Cu false true) ⟨_,rfl,_,rfl,_,rfl,λ x dx nx ndx nex=>⟨x,dx,k,v1,v2,rfl,upd_same,λ H3 s3 e3=>⟨rfl,?_⟩⟩⟩⟩;have s4:Same H H3:=λ b o e=>s3 b o (Af e nx) (Fb nx ndx b o e);exact q _ _ s4 (by rw[Obj];exact⟨x,dx,v1,v2,rfl,e3,o1.same s4,o2.same s4⟩)
inductive Lm(K:Frag)(cW cU cL:Addr)(vs:LUz)(H:Hp)(Q:VK)(E:XK):Prop
 |mk (l:Addr) (xs:LUz) (t:Tr) (h0:vs=[.ref l]) (h1:SqL K H l xs) (h2:EnsAt H xs (ents t)) (h3:t.nd<=400) (h4:∀v' H',Same H H'->Obj cW cU cL H' t v'->Q v' H'):Lm K cW cU cL vs H Q E
def IR(K:Frag)(cW cU cL:Addr) :Sp:=λ vs H Q E=>Lm K cW cU cL vs H Q E
theorem La:Aq ["entries","done","word","number","first","other"] ["entries"] (Ag Dl):=fsc
theorem NV{es:List En}{i:Nat}{e:En}(hi:i<es.length)(h:es[es.length-1-i]?=some e):es.drop (es.length-(i+1))=e::es.drop (es.length-i):=by
 have hk:es.length-1-i<es.length:=by lia
 rw[show es.length-(i+1)=es.length-1-i by lia,List.drop_eq_getElem_cons hk];rw[List.getElem?_eq_getElem hk]at h;rw[Option.some.inj h,show es.length-1-i+1=es.length-i by lia]
theorem Jg{f:Addr}{fd:FuncData}(F:Fun K "tree_from" "tree_from" Dl f fd)(T:Txt mg tk)(R:RT mg K cT cW cU cL)(K_Whole:M0 P w K mg base 1 "Whole" cW ["self","mark"] (O0 cW))(D_cut_from:A5 P w K mg base 3 "cut_from" ["word","at","first","other"] (DV cW cU cL)) :
  A8 P w K mg base CX0 4 f fd ["entries"] (IR K cW cU cL):=by
 have S:=La;refine F.ok S (λ vs H Q E h=>?_) (λ cdv A outer s H vs Q E hr h=>?_)
 .obtain⟨l,xs,t,rfl,_⟩:=h;rfl
 .obtain⟨l,xs,t,rfl,hl,hen,hn,q⟩:=h;refine⟨_,(Ac (As (i:=1) S.nd rfl (Or.inl rfl) (BJ Ab))
   (Ac (C3 PassesOwn.never rfl (PN rfl T.z_reversed (Aa (pv 0) Ab)) (CW rfl (Am (An (i:=2) S.nd rfl (Or.inl rfl)) (Am (An (i:=3) S.nd rfl (Or.inl rfl)) AB))) (Ah (AJ (Ax CH (pv 2) (AM (v:=.str "whole") rfl T.g_WHOLE ⟨_,rfl⟩) (Az _)) (Ah (B0 (DQ PySem.F.plainAttrs_list PySem.F.slot_list_append PySem.F.type_list_append Bc (pv 1) (Aa (ML K_Whole hr (Aa (pv 3) Ab)) Ab)))) (Ac (As (i:=4) S.nd rfl (Or.inl rfl) (Jd PySem.F.plainAttrs_list PySem.F.slot_list_pop PySem.F.type_list_pop Jo (pv 1)))
   (Ac (As (i:=5) S.nd rfl (Or.inl rfl) (Jd PySem.F.plainAttrs_list PySem.F.slot_list_pop PySem.F.type_list_pop Jo (pv 1)))
   (Ah (B0 (DQ PySem.F.plainAttrs_list PySem.F.slot_list_append PySem.F.type_list_append Bc (pv 1) (Aa (Aw D_cut_from hr (Aa (pv 2) (Aa (pv 3) (Aa (pv 4) (Aa (pv 5) Ab))))) Ab)))))))))
   (Ah (Ar (Jd PySem.F.plainAttrs_list PySem.F.slot_list_pop PySem.F.type_list_pop Jo (pv 1)))))),?_⟩
  refine⟨Au 0,λ ld hld=>⟨_,rfl,l,xs,rfl,(Same.new hld).seq hl,?_⟩⟩;have hxl:=hen.len;have hel:=D0 t;refine Qk (K:=K) (a:=l) (xs:=xs) (λ i σ H'=>∃(ws:List (V×Tr))(x2 x3 x4 x5:Option V),σ=[some (.ref l),some (.ref ld),x2,x3,x4,x5]/\Same H H'/\H' ld=some (.lst (ws.map (·.1)))/\(∀p∈ws,Obj cW cU cL H' p.2 p.1)/\(ents t).drop ((ents t).length-i)=Ei ws)
   ⟨[],_,_,_,_,rfl,Same.new hld,upd_same,(λ p hp=>(nomatch hp)),by rw[Nat.sub_zero,List.drop_length];rfl⟩ (λ i σ H' _ hp=>let ⟨_,_,_,_,_,_,s,_⟩:=hp;s.seq hl) ?_ ?_
  .rintro i v σ H' hv hi ⟨ws,x2,x3,x4,x5,rfl,s1,hd,hob,heq⟩;obtain⟨e,a,he,rfl,ha⟩:=hen.get hv;have ha':=s1 _ _ ha;rw[hxl]at he hi;have hdr:=NV hi he;have wl:ws.length<=400:=by
    have h1:=JH ws;have h2:=GG ws;rw[<-heq,List.length_drop]at h2;lia
   cases e with
   |w m =>
    refine⟨a,_,rfl,SqT.of ha',rfl,_,_,rfl,_,_,rfl,rfl,?_⟩;refine⟨_,rfl,rfl,_,rfl,BK (decide_eq_true rfl) ?_⟩;refine⟨_,rfl,.inl ⟨rfl,_,SqL.of hd⟩,_,rfl,λ x dx nx ndx nex=>⟨x,dx,_,rfl,upd_same,rfl,?_⟩⟩;have s2:Same H' (upd (upd (upd H' dx (.own x)) x (.ins cW dx [])) x (.ins cW dx (wF (Bl m)))):=λ b o e=>by
     rw[Ae (Af e nx)];exact Fb nx ndx b o e
    have e2:(upd (upd (upd H' dx (.own x)) x (.ins cW dx [])) x (.ins cW dx (wF (Bl m)))) x=some (.ins cW dx (wF (Bl m))):=upd_same;generalize upd (upd (upd H' dx (.own x)) x (.ins cW dx [])) x (.ins cW dx (wF (Bl m)))=H2 at s2 e2 |-;have d2:=s2 _ _ hd;refine⟨ld,_,.ref x,rfl,rfl,d2,Ap (by rw[List.length_map];lia),?_⟩;have k3:Kp H2 (upd H2 ld (.lst (ws.map (·.1)++[.ref x]))):=Kp.put d2;refine⟨ws++[(.ref x,.whole m)],_,_,_,_,rfl,λ b o e=>?_,?_,λ p hp=>?_,?_⟩
    .rw[Ae (Af e hld)];exact s2 b o (s1 b o e)
    .rw[upd_same,List.map_append];rfl
    .rcases List.mem_append.mp hp with hp|hp
     .exact((hob p hp).same s2).kp k3
     .rw[List.mem_singleton.mp hp,Obj];exact⟨x,dx,rfl,k3 _ _ e2 (by intro xs z;cases z)⟩
    .rw[hdr,heq,BL];rfl
   |c u k =>
    have big:2<=ws.length:=by
     have h1:=IK t ((ents t).take ((ents t).length-(i+1))) ((ents t).drop ((ents t).length-(i+1))) (List.take_append_drop _ _).symm (by rw[hdr];intro z;cases z);rw[hdr,heq,JR,FS]at h1;have:wt (.c u k)=-1:=rfl;lia
    obtain rfl|⟨ws1,p1,rfl⟩:=DX ws
    .exact absurd big (by decide)
    obtain rfl|⟨ws2,p2,rfl⟩:=DX ws1
    .exact absurd big (by simp)
    refine⟨a,_,rfl,SqT.of ha',rfl,_,_,rfl,_,_,rfl,rfl,?_⟩;refine⟨_,rfl,rfl,_,rfl,AZ (Eu u) ?_⟩;refine⟨_,rfl,.inl ⟨rfl,_,SqL.of hd⟩,ld,_,p1.1,rfl,rfl,hd,K6,?_⟩;rw[KN];have k2:Kp H' (upd H' ld (.lst ((ws2++[p2]).map (·.1)))):=Kp.put hd;have s2:Same H (upd H' ld (.lst ((ws2++[p2]).map (·.1)))):=λ b o e=>by rw[Ae (Af e hld)];exact s1 b o e
    have d2:(upd H' ld (.lst ((ws2++[p2]).map (·.1)))) ld=some (.lst ((ws2++[p2]).map (·.1))):=upd_same;generalize upd H' ld (.lst ((ws2++[p2]).map (·.1)))=H2 at k2 s2 d2 |-;refine⟨_,rfl,.inl ⟨rfl,_,SqL.of d2⟩,ld,_,p2.1,rfl,rfl,d2,K6,?_⟩;rw[KN];have k3:Kp H2 (upd H2 ld (.lst (ws2.map (·.1)))):=Kp.put d2;have s3:Same H (upd H2 ld (.lst (ws2.map (·.1)))):=λ b o e=>by rw[Ae (Af e hld)];exact s2 b o e
    have d3:(upd H2 ld (.lst (ws2.map (·.1)))) ld=some (.lst (ws2.map (·.1))):=upd_same;generalize upd H2 ld (.lst (ws2.map (·.1)))=H3 at k3 s3 d3 |-;have kk:=k2.trans k3;refine⟨_,rfl,.inl ⟨rfl,_,SqL.of d3⟩,_,rfl,_,rfl,_,rfl,_,rfl,u,k,p1.1,p2.1,p1.2,p2.2,rfl,(hob p1 (by simp)).kp kk,(hob p2 (by simp)).kp kk,λ v' H4 s4 o4=>?_⟩;have d4:=s4 _ _ d3;rw[List.length_append,List.length_append]at wl;refine⟨ld,_,v',rfl,rfl,d4,Ap (by rw[List.length_map];lia),?_⟩;have k5:Kp H4 (upd H4 ld (.lst (ws2.map (·.1)++[v']))):=Kp.put d4;refine⟨ws2++[(v',.cut u k p1.2 p2.2)],_,_,_,_,rfl,λ b o e=>?_,?_,λ p hp=>?_,?_⟩
    .rw[Ae (Af e hld)];exact s4 b o (s3 b o e)
    .rw[upd_same,List.map_append];rfl
    .rcases List.mem_append.mp hp with hp|hp
     .exact((((hob p (by simp[hp])).kp kk).same s4)).kp k5
     .rw[List.mem_singleton.mp hp];exact o4.kp k5
    .rw[hdr,heq,BL,BL,BL];show .c u k::(ents p1.2++(ents p2.2++Ei ws2))=.c u k::(ents p1.2++ents p2.2)++Ei ws2;rw[List.cons_append,List.append_assoc]
  .rintro σ H' ⟨ws,x2,x3,x4,x5,rfl,s1,hd,hob,heq⟩;rw[hxl,Nat.sub_self,List.drop_zero]at heq;have one:ws.length=1:=by
    have h1:=C9 t;rw[heq,FS]at h1;lia
   obtain⟨p,rfl⟩:∃p,ws=[p]:=by
    match ws,one with
    |[p],_=>exact⟨p,rfl⟩
   have hp:=hob p (by simp);have et:p.2=t:=by
    have h1:ents t++[]=ents p.2++[]:=by
     rw[List.append_nil,heq];rfl
    exact(GI _ _ _ _ h1).1.symm
   refine⟨_,rfl,.inl ⟨rfl,_,SqL.of hd⟩,ld,_,p.1,rfl,rfl,hd,rfl,?_⟩;rw[et]at hp;exact q _ _ (λ b o e=>by rw[Ae (Af e hld)];exact s1 b o e) (hp.kp (Kp.put hd))
def PsAt(H:Hp)(ws:List (Addr×Rk×Tr)):Prop:=∀p∈ws,H p.1=some (.tup p.2.1.vs)
abbrev trs(ws:List (Addr×Rk×Tr)):List (V×Tr):=ws.map λ p=>(V.ref p.1,p.2.2)
abbrev Bx(ws:List (Addr×Rk×Tr)):LUz:=ws.map λ p=>V.ref p.1
theorem PsAt.kp{H H':Hp}{ws:List (Addr×Rk×Tr)}(h:PsAt H ws)(k:Kp H H'):PsAt H' ws:=λ p hp=>k _ _ (h p hp) (by intro xs z;cases z)
theorem NL{ws0:List (Addr×Rk×Tr)}{p:Addr×Rk×Tr}:(Bx (ws0++[p]))[(Bx (ws0++[p])).length-1]?=some (.ref p.1):=by
 rw[List.length_map,List.length_append,List.length_singleton,Nat.add_sub_cancel,List.getElem?_map,List.getElem?_append_right (Nat.le_refl _),Nat.sub_self];rfl
theorem NU{ws0:List (Addr×Rk×Tr)}{p:Addr×Rk×Tr}:(Bx (ws0++[p])).dropLast=Bx ws0:=by
 show(List.map (λ p=>V.ref p.1) (ws0++[p])).dropLast=_;rw[List.map_append,List.map_singleton,List.dropLast_concat]
theorem BO(ws:List (Addr×Rk×Tr))(p:Addr×Rk×Tr):trs (ws++[p])=trs ws++[(V.ref p.1,p.2.2)]:=by
 show List.map (λ p=>(V.ref p.1,p.2.2)) (ws++[p])=_;rw[List.map_append];rfl
theorem HX(ws:List (Addr×Rk×Tr))(p:Addr×Rk×Tr):Bx (ws++[p])=Bx ws++[V.ref p.1]:=by
 show List.map (λ p=>V.ref p.1) (ws++[p])=_;rw[List.map_append];rfl
theorem TabOk.upd{pos:Pos}{qual:Str}{T l:Addr}{H:Hp}{xs ys:LUz}(h:TabOk pos qual T H)(hl:H l=some (.lst xs)):TabOk pos qual T (upd H l (.lst ys)):=by
 obtain⟨ps,e,t,c⟩:=h;refine⟨ps,by rw[Ae (λ z=>by rw[z,hl]at e;cases e)];exact e,t,?_⟩;rcases c with c|⟨c',c1,c2⟩
 .exact .inl c
 .exact .inr ⟨c',c1,by rw[Ae (λ z=>by rw[z,hl]at c2;cases c2)];exact c2⟩
theorem Obj.n{H H':Hp}(s:SameN H H'):∀{t:Tr}{v:V},Obj cW cU cL H t v->Obj cW cU cL H' t v
 |.whole m,v,h=>by
  rw[Obj]at h |-;obtain⟨a,dx,e,h⟩:=h;exact⟨a,dx,e,s _ _ h λ_ z=>nomatch z⟩
 |.cut u k x y,v,h=>by
  rw[Obj]at h |-;obtain⟨a,dx,vx,vy,e,h,h1,h2⟩:=h;exact⟨a,dx,vx,vy,e,s _ _ h (λ_ z=>nomatch z),Obj.n s h1,Obj.n s h2⟩
theorem none_of{H H':Hp}{l:Addr}(s:Same H H')(h:H' l=none):H l=none:=by
 cases e:H l with
 |none=>rfl
 |some o=>rw[s _ _ e]at h;cases h
theorem MQ:∀t:Tr,t.nd+1=2*t.sz
 |.whole _=>by rw[Tr.nd,Tr.sz]
 |.cut _ _ x y=>by have:=MQ x;have:=MQ y;rw[Tr.nd,Tr.sz];lia
def BQ:Tr->Rk->List (Rk×Option Int)
 |.whole m,p=>[(p,m)]
 |.cut u k x y,p=>BQ x (p.fst u k)++BQ y (p.oth u k)
theorem Dz:∀(t:Tr)(p:Rk),(BQ t p).length=t.sz
 |.whole _,_=>rfl
 |.cut u k x y,p=>by rw[BQ,List.length_append,Dz x,Dz y];rfl
theorem M8:∀t:Tr,t.sz<=t.nd
 |.whole _=>Nat.le_refl _
 |.cut _ _ x y=>by
  have:=M8 x;have:=M8 y;rw[Tr.sz,Tr.nd];lia
abbrev PT:=Addr×Addr×Rk×Option Int
abbrev pcs(ts:List PT):LUz:=ts.map λ t=>V.ref t.1
abbrev cons(ts:List PT):List (Rk×Option Int):=ts.map λ t=>t.2.2
def PcO(H:Hp)(ts:List PT):Prop:=∀t∈ts,H t.1=some (.tup [.ref t.2.1,Bl t.2.2.2])/\H t.2.1=some (.tup t.2.2.1.vs)
theorem PcO.same{H H':Hp}{ts:List PT}(s:Same H H')(h:PcO H ts):PcO H' ts:=λ t ht=>⟨s _ _ (h t ht).1,s _ _ (h t ht).2⟩
inductive Hc(vs:LUz)(H:Hp)(Q:VK)(E:XK):Prop
 |mk (i:Int) (h0:vs=[.int i]) (h1:Q (.bl true) H):Hc vs H Q E
def ET:Sp:=λ vs H Q E=>Hc vs H Q E
theorem Lb:Aq ["_law_found"] ["_law_found"] (Ag CP):=fsc
theorem Jh{f:Addr}{fd:FuncData}(F:Fun K "_law_whole" "_law_whole" CP f fd)(T:Txt mg tk):A8 P w K mg base CX0 1 f fd ["_law_found"] ET:=by
 have S:=Lb;refine F.ok S (λ vs H Q E h=>?_) (λ cdv A outer s H vs Q E hr h=>?_)
 .obtain⟨i,rfl,_⟩:=h;rfl
 .obtain⟨i,rfl,q⟩:=h;refine⟨_,(Ah (Ar (CY (At CL rfl T.z_isinstance rfl (Aa (pv 0) (Aa (E7 (v:=.ty "int") rfl T.z_int rfl rfl) Ab))) (Du (OB (At CL rfl T.z_isinstance rfl (Aa (pv 0) (Aa (E7 (v:=.ty "bool") rfl T.z_bool rfl rfl) Ab)))))))),?_⟩;exact⟨_,rfl,_,"int","int",rfl,rfl,.inl rfl,_,rfl,BK (by decide) ⟨_,rfl,_,"int","bool",rfl,rfl,.inr (.inl rfl),_,rfl,q⟩⟩
inductive IC(cW cU cL:Addr)(n:Nat)(vs:LUz)(H:Hp)(Q:VK)(E:XK):Prop
 |mk (v:V) (t:Tr) (h0:vs=[v]) (h1:Obj cW cU cL H t v) (h2:t.dp<n) (h3:∀v' H',Same H H'->Told H' t v'->Q v' H'):IC cW cU cL n vs H Q E
def CC(cW cU cL:Addr)(n:Nat) :Sp:=λ vs H Q E=>IC cW cU cL n vs H Q E
theorem Rj{vs:LUz}{H:Hp}{Q:VK}{E:XK}:¬CC cW cU cL 0 vs H Q E:=by
 rintro⟨v,t,_,_,h,_⟩;lia
theorem GQ:Aq ["_law_tree","_law_word","_law_first","_law_other"] ["_law_tree"] (Ag Dm):=fsc
theorem Dg{H:Hp}{t:Tr}{v:V}(h:Told H t v):decide (v=V.non)=false:=by
 cases t<;>rw[Told]at h
 .obtain⟨a,rfl,_⟩:=h;exact decide_eq_false (by intro z;cases z)
 .obtain⟨a,_,_,rfl,_⟩:=h;exact decide_eq_false (by intro z;cases z)
theorem Km{f:Addr}{fd:FuncData}{n:Nat}(F:Fun K "_law_told" "_law_told" Dm f fd)(T:Txt mg tk)(R:RT mg K cT cW cU cL)(D__law_whole:A5 P w K mg base 1 "_law_whole" ["_law_found"] ET)(D__law_told:A5 P w K mg base (n+3) "_law_told" ["_law_tree"] (CC cW cU cL n)):A8 P w K mg base CX0 (n+4) f fd ["_law_tree"] (CC cW cU cL (n+1)):=by
 have S:=GQ;refine F.ok S (λ vs H Q E h=>?_) (λ cdv A outer s H vs Q E hr h=>?_)
 .obtain⟨v,t,rfl,_⟩:=h;rfl
 .obtain⟨v,t,rfl,ho,hd,q⟩:=h;refine⟨_,(Ac (AJ (BE (At Da rfl T.z_isinstance rfl (Aa (pv 0) (Aa (AM (v:=.ref (cW)) rfl R.g_Whole rfl) Ab)))) (Ac (AJ (PW.pt (IY (Ax FH (Bo (pv 0) rfl) AY (Az _)) (FF (BF (BE (Aw D__law_whole hr (Aa (Bo (pv 0) rfl) Ab) (by lia))))))) (Ah (Ar AY)) Ay)
   (Ah (Ar (Av (Aa Bw (Aa (Bo (pv 0) rfl) Ab)))))) Ay)
   (Ac (AJ (PW.pt (IY (BF (BE (At Da rfl T.z_isinstance rfl (Aa (pv 0) (Aa (AM (v:=.ref (cU)) rfl R.g_Upright rfl) Ab))))) (FF (BF (BE (At Da rfl T.z_isinstance rfl (Aa (pv 0) (Aa (AM (v:=.ref (cL)) rfl R.g_Level rfl) Ab)))))))) (Ah (Ar AY)) Ay)
   (Ac (As (i:=1) S.nd rfl (Or.inl rfl) Bw)
   (Ac (AJ (BE (At Da rfl T.z_isinstance rfl (Aa (pv 0) (Aa (AM (v:=.ref (cU)) rfl R.g_Upright rfl) Ab)))) (Ah (As (i:=1) S.nd rfl (Or.inl rfl) Bw)) Ay)
   (Ac (As (i:=2) S.nd rfl (Or.inl rfl) (Aw D__law_told hr (Aa (Bo (pv 0) rfl) Ab) (by lia)))
   (Ac (As (i:=3) S.nd rfl (Or.inl rfl) (Aw D__law_told hr (Aa (Bo (pv 0) rfl) Ab) (by lia)))
   (Ac (AJ (PW.pt (Go (BF (BE (Aw D__law_whole hr (Aa (Bo (pv 0) rfl) Ab) (by lia)))) (Go (Ax EZ (pv 2) AY (Az _)) (Gn (Ax EZ (pv 3) AY (Az _)))))) (Ah (Ar AY)) Ay)
   (Ah (Ar (Av (Aa (pv 1) (Aa (Bo (pv 0) rfl) (Aa (pv 2) (Aa (pv 3) Ab)))))))))))))),?_⟩
  cases t with
  |whole m =>
   rw[Obj]at ho;obtain⟨x,dx,rfl,hx⟩:=ho;refine⟨_,rfl,x,cW,dx,_,_,.ref cW,true,rfl,hx,R.iW,rfl,LB,R.kWW,_,rfl,BK rfl ?_⟩;refine⟨_,rfl,x,cW,dx,_,_,rfl,hx,R.iW.cl,R.n_mark,fW _,rfl,_,rfl,?_⟩;have fin:∀a,H a=none->Q (.ref a) (upd H a (.tup [.str "whole",Bl m])):=λ a ha=>q _ _ (Same.new ha) (by rw[Told];exact⟨a,rfl,upd_same⟩);cases m with
   |none=>exact AZ (by show(!decide (V.non=V.non))=false;rw[decide_eq_true rfl];rfl) (AZ rfl ⟨_,rfl,x,cW,dx,_,_,rfl,hx,R.iW.cl,R.n_mark,fW _,Au 2,fin⟩)
   |some i=>exact BK (by show(!decide (V.int i=V.non))=true;rw[decide_eq_false (by intro z;cases z)];rfl) ⟨_,rfl,x,cW,dx,_,_,rfl,hx,R.iW.cl,R.n_mark,fW _,i,rfl,_,rfl,AZ rfl ⟨_,rfl,x,cW,dx,_,_,rfl,hx,R.iW.cl,R.n_mark,fW _,Au 2,fin⟩⟩
  |cut u k y1 y2 =>
   rw[Obj]at ho;obtain⟨x,dx,w1,w2,rfl,hx,o1,o2⟩:=ho;have hd:max y1.dp y2.dp+1<n+1:=hd;refine⟨_,rfl,x,_,dx,_,_,.ref cW,false,rfl,hx,R.iC u,rfl,LB,R.kCW u,_,rfl,AZ rfl ?_⟩;have go:∀H1:Hp,H1=H->∀z:Str,z=wd u->True:=λ_ _ _ _=>trivial;cases u with
   |true =>
    refine⟨_,rfl,x,_,dx,_,_,.ref cU,true,rfl,hx,R.iC true,rfl,LB,R.kCC true true,_,rfl,AZ rfl (AZ rfl ?_)⟩;refine⟨_,rfl,x,_,dx,_,_,.ref cU,true,rfl,hx,R.iC true,rfl,LB,R.kCC true true,_,rfl,BK rfl ?_⟩;refine⟨_,rfl,x,_,dx,_,_,rfl,hx,(R.iC true).cl,R.n_first true,KI _ _ _,w1,y1,rfl,o1,by lia,λ v1 H1 s1 t1=>?_⟩;have hx1:=s1 _ _ hx;refine⟨_,rfl,x,_,dx,_,_,rfl,hx1,(R.iC true).cl,R.n_other true,KF _ _ _,w2,y2,rfl,o2.same s1,by lia,λ v2 H2 s2 t2=>?_⟩;have hx2:=s2 _ _ hx1;have t1':=t1.same s2;refine⟨_,rfl,x,_,dx,_,_,rfl,hx2,(R.iC true).cl,R.n_at true,MZ _ _ _,k,rfl,_,rfl,AZ rfl ?_⟩;refine⟨_,rfl,rfl,_,rfl,AZ (Dg t1') ⟨_,rfl,rfl,_,rfl,AZ (Dg t2) ?_⟩⟩;refine⟨_,rfl,_,rfl,x,_,dx,_,_,rfl,hx2,(R.iC true).cl,R.n_at true,MZ _ _ _,_,rfl,_,rfl,Au 4,λ a ha=>?_⟩;have s3:Same H2 (upd H2 a (.tup [.str (wd true),.int k,v1,v2])):=Same.new ha;exact q _ _ ((s1.trans s2).trans s3) (by rw[Told];exact⟨a,v1,v2,rfl,upd_same,t1'.same s3,t2.same s3⟩)
   |false =>
    refine⟨_,rfl,x,_,dx,_,_,.ref cU,false,rfl,hx,R.iC false,rfl,LB,R.kCC false true,_,rfl,BK rfl ?_⟩;refine⟨_,rfl,x,_,dx,_,_,.ref cL,true,rfl,hx,R.iC false,rfl,LB,R.kCC false false,_,rfl,AZ rfl ?_⟩;refine⟨_,rfl,x,_,dx,_,_,.ref cU,false,rfl,hx,R.iC false,rfl,LB,R.kCC false true,_,rfl,AZ rfl ?_⟩;refine⟨_,rfl,x,_,dx,_,_,rfl,hx,(R.iC false).cl,R.n_first false,KI _ _ _,w1,y1,rfl,o1,by lia,λ v1 H1 s1 t1=>?_⟩;have hx1:=s1 _ _ hx;refine⟨_,rfl,x,_,dx,_,_,rfl,hx1,(R.iC false).cl,R.n_other false,KF _ _ _,w2,y2,rfl,o2.same s1,by lia,λ v2 H2 s2 t2=>?_⟩;have hx2:=s2 _ _ hx1;have t1':=t1.same s2;refine⟨_,rfl,x,_,dx,_,_,rfl,hx2,(R.iC false).cl,R.n_at false,MZ _ _ _,k,rfl,_,rfl,AZ rfl ?_⟩;refine⟨_,rfl,rfl,_,rfl,AZ (Dg t1') ⟨_,rfl,rfl,_,rfl,AZ (Dg t2) ?_⟩⟩;refine⟨_,rfl,_,rfl,x,_,dx,_,_,rfl,hx2,(R.iC false).cl,R.n_at false,MZ _ _ _,_,rfl,_,rfl,Au 4,λ a ha=>?_⟩;have s3:Same H2 (upd H2 a (.tup [.str (wd false),.int k,v1,v2])):=Same.new ha;exact q _ _ ((s1.trans s2).trans s3) (by rw[Told];exact⟨a,v1,v2,rfl,upd_same,t1'.same s3,t2.same s3⟩)
theorem Bk{H:Hp}{x acc:Addr}{xs ys zs:LUz}(e:H x=some (.tup xs))(ha:H acc=some (.lst ys)):(upd H acc (.lst zs)) x=some (.tup xs):=by
 rw[Ae (λ z=>by rw[z,ha]at e;cases e)];exact e
def Lp(en:Rk->En)(D:Rk->Prop):Tr->Rk->Prop
 |.whole m,p=>D p/\en p=.w m
 |.cut u k x y,p=>D p/\en p=.c u k/\Lp en D x (p.fst u k)/\Lp en D y (p.oth u k)
def spE(en:Rk->En)(D:Rk->Prop):Sp:=λ vs H Q _=>∃(a:Addr)(p:Rk),vs=[.ref a]/\H a=some (.tup p.vs)/\D p/\∀e H',Same H H'->H' e=some (.tup (enV (en p)))->Q (.ref e) H'
inductive Pz(P:Program)(w:World)(K:Frag)(mg:MGz)(base:Heap)(vs:LUz)(H:Hp)(Q:VK)(E:XK):Prop
 |mk (a f:Addr) (p:Rk) (t:Tr) (en:Rk->En) (D:Rk->Prop) (h0:vs=[.ref a,.ref f]) (h1:H a=some (.tup p.vs)) (h2:FvOk P w K mg base 3 H f (spE en D)) (h3:Lp en D t p) (h4:t.nd<=400) (h5:∀l xs H',Same H H'->H l=none->H' l=some (.lst xs)->EnsAt H' xs (ents t)->Q (.ref l) H'):Pz P w K mg base vs H Q E
def Q3(P:Program)(w:World)(K:Frag)(mg:MGz)(base:Heap) :Sp:=λ vs H Q E=>Pz P w K mg base vs H Q E
theorem JK:Aq ["sheet","entry_at","entries","waiting","piece","entry"] ["sheet","entry_at"] (Ag CO):=fsc
abbrev SG(en:Rk->En)(D:Rk->Prop)(H:Hp)(a f:Addr)(t:Tr)(le lw:Addr)(m:Nat)(σ:St)(H':Hp):Prop:=∃(xs:LUz)(es:List En)(ws:List (Addr×Rk×Tr))(x4 x5:Option V),σ=[some (.ref a),some (.ref f),some (.ref le),some (.ref lw),x4,x5]/\Same H H'/\H' le=some (.lst xs)/\EnsAt H' xs es/\H' lw=some (.lst (Bx ws))/\PsAt H' ws/\(∀p∈ws,Lp en D p.2.2 p.2.1)/\es++Ei (trs ws)=ents t/\m=cnt (trs ws)
theorem K9(e:En):inV ((enV e).headD .non) [V.str "upright",V.str "level"]=match e with
  |.w _=>false
  |.c _ _=>true:=by
 cases e with
 |w m =>
  show(eqV (V.str "upright") (V.str "whole")||(eqV (V.str "level") (V.str "whole")||false))=false;decide +kernel
 |c u k =>
  cases u
  .show(eqV (V.str "upright") (V.str "level")||(eqV (V.str "level") (V.str "level")||false))=true;decide +kernel
  .show(eqV (V.str "upright") (V.str "upright")||(eqV (V.str "level") (V.str "upright")||false))=true;decide +kernel
theorem Hn{f:Addr}{fd:FuncData}(F:Fun K "entries_by" "entries_by" CO f fd)(T:Txt mg tk)(D_first_piece:A5 P w K mg base 1 "first_piece" ["piece","word","at"] L0)(D_other_piece:A5 P w K mg base 1 "other_piece" ["piece","word","at"] Lz):A8 P w K mg base CX0 4 f fd ["sheet","entry_at"] (Q3 P w K mg base):=by
 have S:=JK;refine F.ok S (λ vs H Q E h=>?_) (λ cdv A outer s H vs Q E hr h=>?_)
 .obtain⟨a,f,p,t,en,D,rfl,_⟩:=h;rfl
 .obtain⟨a,fv,p,t,en,D,rfl,ha,hfv,gr,hn,q⟩:=h;refine⟨_,(Ac (As (i:=2) S.nd rfl (Or.inl rfl) (BJ Ab))
   (Ac (As (i:=3) S.nd rfl (Or.inl rfl) (BJ (Aa (pv 0) Ab)))
   (Ac (O7 PassesOwn.never (Dt (pv 3) (λ_=>rfl)) (Ac (As (i:=4) S.nd rfl (Or.inl rfl) (Jd PySem.F.plainAttrs_list PySem.F.slot_list_pop PySem.F.type_list_pop Jo (pv 3)))
   (Ac (As (i:=5) S.nd rfl (Or.inl rfl) (Sa (k:=3) hr (pv 1) (Aa (pv 4) Ab)))
   (Ac (B0 (DQ PySem.F.plainAttrs_list PySem.F.slot_list_append PySem.F.type_list_append Bc (pv 2) (Aa (pv 5) Ab)))
   (Ah (AJ (Ax N8 (Ao Ak (pv 5) Ad (λ_ _=>rfl)) (Av (Aa (AM (v:=.str "upright") rfl T.g_UPRIGHT ⟨_,rfl⟩) (Aa (AM (v:=.str "level") rfl T.g_LEVEL ⟨_,rfl⟩) Ab))) rfl) (Ac (B0 (DQ PySem.F.plainAttrs_list PySem.F.slot_list_append PySem.F.type_list_append Bc (pv 3) (Aa (Aw D_other_piece hr (Aa (pv 4) (Aa (Ao Ak (pv 5) Ad (λ_ _=>rfl)) (Aa (Ao Ak (pv 5) Ad (λ_ _=>rfl)) Ab)))) Ab)))
   (Ah (B0 (DQ PySem.F.plainAttrs_list PySem.F.slot_list_append PySem.F.type_list_append Bc (pv 3) (Aa (Aw D_first_piece hr (Aa (pv 4) (Aa (Ao Ak (pv 5) Ad (λ_ _=>rfl)) (Aa (Ao Ak (pv 5) Ad (λ_ _=>rfl)) Ab)))) Ab))))) Ay))))))
   (Ah (Ar (pv 2)))))),?_⟩
  refine⟨Au 0,λ le hle=>⟨_,rfl,Au 1,λ lw hlw=>?_⟩⟩;have nel:le≠lw:=Af upd_same hlw;have s0:Same H (upd (upd H le (.lst [])) lw (.lst [.ref a])):=(Same.new hle).trans (Same.new hlw);have hlw0:H lw=none:=none_of (Same.new hle) hlw;refine⟨SG en D H a fv t le lw,
   ⟨_,[],[],[(a,p,t)],none,none,rfl,s0,by rw[Ae nel];exact upd_same,trivial,upd_same,λ r hr=>?_,λ r hr=>?_,?_,rfl⟩,?_⟩
  .rw[List.mem_singleton.mp hr];exact s0 _ _ ha
  .rw[List.mem_singleton.mp hr];exact gr
  .show[]++Ei [(V.ref a,t)]=ents t;rw[Ff];rfl
  rintro m σ H' ⟨xs,es,ws,x4,x5,rfl,s1,hl,hen,hw,hps,hgr,heq,rfl⟩;have tot:es.length+cnt (trs ws)=t.nd:=by rw[<-D0,<-heq,List.length_append,GG]
  rcases DX ws with rfl|⟨ws0,r,rfl⟩
  .refine⟨_,rfl,_,.inl ⟨_,SqL.of hw,rfl⟩,AZ rfl ⟨_,rfl,q le xs H' s1 hle hl ?_⟩⟩;rw[<-heq];show EnsAt H' xs (es++[]);rw[List.append_nil];exact hen
  .refine⟨_,rfl,_,.inl ⟨_,SqL.of hw,rfl⟩,BK (by simp) ⟨λ σ' H''=>∃m',m'<cnt (trs (ws0++[r]))/\SG en D H a fv t le lw m' σ' H'',λ σ' H'' z=>z,?_⟩⟩;obtain⟨pa,pk,pt⟩:=r;have hp0:=hps (pa,pk,pt) (by simp);have hg0:=hgr (pa,pk,pt) (by simp);refine⟨_,rfl,.inl ⟨rfl,_,SqL.of hw⟩,lw,_,_,rfl,rfl,hw,NL,?_⟩;rw[NU];have k2:Kp H' (upd H' lw (.lst (Bx ws0))):=Kp.put hw;have s2:Same H (upd H' lw (.lst (Bx ws0))):=λ b o e=>by rw[Ae (Af e hlw0)];exact s1 b o e
   have l2:(upd H' lw (.lst (Bx ws0))) le=some (.lst xs):=by rw[Ae nel];exact hl
   have w2:(upd H' lw (.lst (Bx ws0))) lw=some (.lst (Bx ws0)):=upd_same;generalize upd H' lw (.lst (Bx ws0))=H2 at k2 s2 l2 w2 |-;have hp2:=k2 _ _ hp0 (by intro xs z;cases z);have ps2:PsAt H2 ws0:=λ r hr=>k2 _ _ (hps r (List.mem_append_left _ hr)) (by intro xs z;cases z);have gr2:∀r∈ws0,Lp en D r.2.2 r.2.1:=λ r hr=>hgr r (List.mem_append_left _ hr);have hen2:=hen.kp k2;rw[BO,BL]at heq;rw[BO,D8]at tot;have hxl:=hen.len;have np:=OH pt;have hDp:D pk:=by cases pt<;>exact hg0.1
   refine⟨_,rfl,fv,spE en D,rfl,hfv.same s2,_,rfl,Same.refl H2,pa,pk,rfl,hp2,hDp,λ ea H3 s3 e3=>?_⟩;have l3:=s3 _ _ l2;refine⟨_,rfl,.inl ⟨rfl,_,SqL.of l3⟩,_,rfl,le,xs,.ref ea,rfl,rfl,l3,Ap (by lia),?_⟩;have k4:Kp H3 (upd H3 le (.lst (xs++[.ref ea]))):=Kp.put l3;have s4:Same H (upd H3 le (.lst (xs++[.ref ea]))):=λ b o e=>by rw[Ae (Af e hle)];exact s3 b o (s2 b o e)
   have l4:(upd H3 le (.lst (xs++[.ref ea]))) le=some (.lst (xs++[.ref ea])):=upd_same;have w4:(upd H3 le (.lst (xs++[.ref ea]))) lw=some (.lst (Bx ws0)):=by rw[Ae (Ne.symm nel)];exact s3 _ _ w2
   have en4:EnsAt (upd H3 le (.lst (xs++[.ref ea]))) (xs++[.ref ea]) (es++[en pk]):=((hen2.kp (G6 s3)).kp k4).snoc (k4 _ _ e3 (by intro xs z;cases z));have kk:=(G6 s3).trans k4;have e4:=k4 _ _ e3 (by intro xs z;cases z);generalize upd H3 le (.lst (xs++[.ref ea]))=H4 at k4 s4 l4 w4 en4 kk e4 |-;have hp4:=kk _ _ hp2 (by intro xs z;cases z);have ps4:PsAt H4 ws0:=ps2.kp kk;cases pt with
   |whole m =>
    have een:en pk=.w m:=hg0.2;rw[een]at e4 en4;refine⟨_,rfl,ea,_,_,_,rfl,rfl,SqT.of e4,Bz,Au 2,λ tt ntt=>?_⟩;obtain⟨H5,g,s5,e5⟩:=nw (.tup [.str "upright",.str "level"]) ntt;rw[g];refine⟨tt,_,rfl,.inr (SqT.of e5),rfl,rfl,_,rfl,AZ (by rw[if_neg Bool.false_ne_true];exact K9 (.w m)) ?_⟩;refine⟨cnt (trs ws0),by rw[BO,D8];exact Nat.lt_succ_self _,_,_,ws0,_,_,rfl,s4.trans s5,s5 _ _ l4,en4.kp (G6 s5),s5 _ _ w4,ps4.kp (G6 s5),gr2,?_,rfl⟩;rw[<-heq,List.append_assoc];rfl
   |cut u k y1 y2 =>
    obtain⟨_,een,g1,g2⟩:=hg0;have een:en pk=.c u k:=een;rw[een]at e4 en4;refine⟨_,rfl,ea,_,_,_,rfl,rfl,SqT.of e4,Bz,Au 2,λ tt ntt=>?_⟩;obtain⟨H5,g,s5,e5⟩:=nw (.tup [.str "upright",.str "level"]) ntt;rw[g];refine⟨tt,_,rfl,.inr (SqT.of e5),rfl,rfl,_,rfl,BK (by rw[if_neg Bool.false_ne_true];exact K9 (.c u k)) ?_⟩;have e55:=s5 _ _ e4;have w5:=s5 _ _ w4;have hp5:=s5 _ _ hp4;refine⟨_,rfl,.inl ⟨rfl,_,SqL.of w5⟩,_,rfl,_,rfl,ea,_,_,_,rfl,rfl,SqT.of e55,Bz,_,rfl,ea,_,_,_,rfl,rfl,SqT.of e55,By,pa,pk,u,k,rfl,hp5,λ t6 n6=>?_⟩;obtain⟨H6,g,s6,e6⟩:=nw (.tup (pk.oth u k).vs) n6;rw[g];have w6:=s6 _ _ w5;have cl:=JH (trs ws0);rw[List.length_map]at cl;have ndp:(Tr.cut u k y1 y2).nd=y1.nd+y2.nd+1:=rfl;refine⟨lw,_,_,rfl,rfl,w6,Ap (by rw[List.length_map];lia),?_⟩;have k7:Kp H6 (upd H6 lw (.lst (Bx ws0++[.ref t6]))):=Kp.put w6;have s7:Same H (upd H6 lw (.lst (Bx ws0++[.ref t6]))):=λ b o e=>by rw[Ae (Af e hlw0)];exact s6 _ _ (s5 _ _ (s4 b o e))
    have l7:(upd H6 lw (.lst (Bx ws0++[.ref t6]))) le=some (.lst (xs++[.ref ea])):=by rw[Ae nel];exact s6 _ _ (s5 _ _ l4)
    have w7:(upd H6 lw (.lst (Bx ws0++[.ref t6]))) lw=some (.lst (Bx ws0++[.ref t6])):=upd_same;have kk7:=((G6 s5).trans (G6 s6)).trans k7;have e7:=k7 _ _ e6 (by intro xs z;cases z);generalize upd H6 lw (.lst (Bx ws0++[.ref t6]))=H7 at k7 s7 l7 w7 kk7 e7 |-;have ea7:=kk7 _ _ e4 (by intro xs z;cases z);have hp7:=kk7 _ _ hp4 (by intro xs z;cases z);refine⟨_,rfl,.inl ⟨rfl,_,SqL.of w7⟩,_,rfl,_,rfl,ea,_,_,_,rfl,rfl,SqT.of ea7,Bz,_,rfl,ea,_,_,_,rfl,rfl,SqT.of ea7,By,pa,pk,u,k,rfl,hp7,λ t8 n8=>?_⟩;obtain⟨H8,g,s8,e8⟩:=nw (.tup (pk.fst u k).vs) n8;rw[g];have w8:=s8 _ _ w7;refine⟨lw,_,_,rfl,rfl,w8,Ap (by rw[List.length_append,List.length_map,List.length_singleton];lia),?_⟩;have k9:Kp H8 (upd H8 lw (.lst (Bx ws0++[.ref t6]++[.ref t8]))):=Kp.put w8;have kk9:=(G6 s8).trans k9;have kall:=kk7.trans kk9;refine⟨cnt (trs (ws0++[(t6,pk.oth u k,y2)]++[(t8,pk.fst u k,y1)])),?_,xs++[.ref ea],es++[.c u k],ws0++[(t6,pk.oth u k,y2)]++[(t8,pk.fst u k,y1)],_,_,rfl,λ b o e=>?_,?_,en4.kp kall,?_,λ r hr=>?_,λ r hr=>?_,?_,rfl⟩
    .rw[BO,BO,D8,D8,BO,D8];show cnt (trs ws0)+y2.nd+y1.nd<cnt (trs ws0)+(y1.nd+y2.nd+1);lia
    .rw[Ae (Af e hlw0)];exact s8 b o (s7 b o e)
    .rw[Ae nel];exact s8 _ _ l7
    .rw[upd_same,HX,HX]
    .rcases List.mem_append.mp hr with hr|hr
     .rcases List.mem_append.mp hr with hr|hr
      .exact kall _ _ (ps4 r hr) (by intro xs z;cases z)
      .rw[List.mem_singleton.mp hr];exact kk9 _ _ e7 (by intro xs z;cases z)
     .rw[List.mem_singleton.mp hr];exact k9 _ _ e8 (by intro xs z;cases z)
    .rcases List.mem_append.mp hr with hr|hr
     .rcases List.mem_append.mp hr with hr|hr
      .exact gr2 r hr
      .rw[List.mem_singleton.mp hr];exact g2
     .rw[List.mem_singleton.mp hr];exact g1
    .rw[BO,BO,BL,BL,<-heq];show es++[.c u k]++(ents y1++(ents y2++Ei (trs ws0)))=es++(.c u k::(ents y1++ents y2)++Ei (trs ws0));simp[List.append_assoc]
def MT:Expr:=match (A4 AT).getD 0 (.Pass ⟨0,0,0,0⟩) with
 |.Return (some (.Call _ [.Call _ [_,k] _ _] _ _)) _=>k
 |_=>.Constant .none 0 ⟨0,0,0,0⟩
def Q6:Arguments:=match MT with|.Lambda p _ _ _=>p|_=>Ba AT
def Q7:Expr:=match MT with|.Lambda _ b _ _=>b|e=>e
def lamS2:Scope:=match MT with|.Lambda _ _ s _=>s|_=>Ag AT
def E9:Pos:=match MT with|.Lambda _ _ _ q=>q|_=>⟨0,0,0,0⟩
def DS:Str:="tree_in.<locals>.<lambda>"
theorem R6:Li "piece" ["entries"] lamS2:=⟨rfl,rfl,rfl,rfl,by decide +kernel,λ y hy=>(by decide +kernel:∀p∈lamS2.names,p.2=.free->p.1∈(["entries"]:LSz)) _ (PySem.mem_of_lookup hy) rfl,by decide +kernel⟩
abbrev Ni(L:Nat):List (Str×Addr):=[("entries",L+1)]
theorem EnsAt.tups{H H':Hp}(s:∀a xs,H a=some (.tup xs)->H' a=some (.tup xs)):∀{vs:LUz}{es:List En},EnsAt H vs es->EnsAt H' vs es
 |[],[],_=>trivial
 |v::r,e::q,h=>⟨let ⟨a,b,c⟩:=h.1;⟨a,b,s _ _ c⟩,EnsAt.tups s h.2⟩
 |[],_::_,h=>h
 |_::_,[],h=>h
inductive Ha(tb2 cW cU cL:Addr)(vs:LUz)(H:Hp)(Q:VK)(E:XK):Prop
 |mk (d a:Addr) (kvs:LKz) (p:Rk) (t:Tr) (en:Rk->En) (D:Rk->Prop) (h0:vs=[.ref d,.ref a]) (h1:H d=some (.dT kvs)) (h2:H a=some (.tup p.vs)) (h3:(∀q,D q->∃c,De kvs (rkK q)=some (.ref c)/\H c=some (.tup (enV (en q))))) (h4:Lp en D t p) (h5:t.nd<=400) (h6:TabOk E9 DS tb2 H) (h7:∀v H',SameX tb2 H H'->TabOk E9 DS tb2 H'->Obj cW cU cL H' t v->Q v H'):Ha tb2 cW cU cL vs H Q E
def ES(tb2 cW cU cL:Addr) :Sp:=λ vs H Q E=>Ha tb2 cW cU cL vs H Q E
theorem Oi:Aq ["entries","sheet"] ["entries","sheet"] (Ag AT):=fsc
theorem LJ{f:Addr}{fd:FuncData}{c tb2:Addr}(F:FunC K "tree_in" "tree_in" AT f fd c)(hC:JG K c tb2=true)(hB:R8 K mg)(D_entries_by:A5 P w K mg base 4 "entries_by" ["sheet","entry_at"] (Q3 P w K mg base))(D_tree_from:A5 P w K mg base 4 "tree_from" ["entries"] (IR K cW cU cL)) :
  A8 P w K mg base CX0 5 f fd ["entries","sheet"] (ES tb2 cW cU cL):=by
 have S:=Oi;refine F.ok S (λ vs H Q E h=>?_) (λ A outer s H vs Q E hr h=>?_)
 .obtain⟨d,a,kvs,p,t,en,D,rfl,_⟩:=h;rfl
 .obtain⟨d,a,kvs,p,t,en,D,rfl,hd,ha,he,gr,tn,tb,q⟩:=h;have hlam:=Ra (X:=(Cd CX0 P w K mg base ["entries","sheet"] "tree_in" (Ag AT) f (.ref c) A outer s H E).nox) (params:=Q6) (body:=Q7) (scope:=lamS2) (pos:=E9) (qual:=DS) (clos:=Ni s.heap.objs.size) rfl (codeTB_of hC) hB rfl rfl rfl;have hcl:∀p∈Ni s.heap.objs.size,(Cd CX0 P w K mg base ["entries","sheet"] "tree_in" (Ag AT) f (.ref c) A outer s H E).nox.env.cells.lookup p.1=some p.2/\(Cd CX0 P w K mg base ["entries","sheet"] "tree_in" (Ag AT) f (.ref c) A outer s H E).nox.env.kindOf p.1=some .cell:=λ p hp=>by
   rw[List.mem_singleton.mp hp];exact⟨rfl,rfl⟩
  refine⟨_,(Ah (Ar (Aw D_tree_from hr (Aa (Rb (clos:=Ni s.heap.objs.size) D_entries_by hr (Aa (pv 1) (Aa hlam Ab)) hcl (λ_=>rfl) rfl) Ab)))),?_⟩;have tbl:=tb.tbl;refine⟨_,rfl,TabOk.lamC tb λ c' fl ctv H1 s1 tab1 hf hc hnew=>?_⟩;have ne1:∀{x:Addr}{u:HO},H x=some u->(∀ps,u≠.tbl ps)->x≠tb2:=λ{x u} e n z=>by obtain⟨ps,e'⟩:=tbl;rw[z,e']at e;cases e;exact n _ rfl
  intro Lc CA;have tup1:∀{x:Addr}{xs:LUz},H x=some (.tup xs)->H1 x=some (.tup xs):=λ e=>s1 _ _ (ne1 e (by intro ps z;cases z)) e;have hd1:H1 d=some (.dT kvs):=s1 _ _ (ne1 hd (by intro ps z;cases z)) hd;have up:∀{x:Addr}{u:HO},H1 x=some u->(tkd H1 Lc) x=some u:=λ e=>by rw[AR (Dv CA.new e)];exact e
  have fv:=Rv (P:=P) (w:=w) (K:=K) (mg:=mg) (base:=base) (k:=2) (H:=tkd H1 Lc) (f:=fl) (c':=c') (params:=Q6) (body:=Q7) (scope:=lamS2) (qual:=DS) (pn:="piece") (ctv:=ctv) (fs:=["entries"]) (clos:=Ni s.heap.objs.size) (cv:=[.ref d]) (L:=Lc)
   (te:=Q0 (P3 1) (P3 0))
   (up hf) (up hc) R6 rfl (λ y=>?_) (λ x y cc h1 h2=>?_) (λ a o e=>FX e) CA.has (λ p hp i v hi hv=>?_) (λ_ _=>.of_eq rfl)
   (λ A' outer' s' H' Hx E' hr'=>E6 (KA hr') (pv 1) (pv 0) (λ_ _=>rfl))
  .refine⟨a,fl,p,t,_,_,rfl,up (tup1 ha),fv.imp λ vs H' Q' E' sm' hsp=>?_,gr,tn,λ l xs H2 s2 nl hl hens=>?_⟩
   .obtain⟨a',p',rfl,ha',ins2,q'⟩:=hsp;have hL':∀a o,Lc.lookup a=some o->H' a=some (BI a o):=λ a o e=>sm' _ _ (FX e);have kp:∀{x:Addr}{u:HO},H1 x=some u->(∀o,u≠BI x o)->(utk H' Lc) x=some u:=λ e n=>IM hL' (sm' _ _ (up e)) n;obtain⟨c1,e1,e2⟩:=he p' ins2;have dg:=DGet.t (k:=rkK p') (kp hd1 (by intro o z;cases z)) (show(utk H' Lc) a'=some (.tup ((rkK p').map kV)) from IM hL' ha' (by intro o z;cases z));rw[e1]at dg;refine⟨_,rfl,_,rfl,_,rfl,d,_,rfl,dg,q' _ _ (λ x o e=>?_) ?_⟩
    .cases q:Lc.lookup x with
     |some o'=>rw[hL' x o' q]at e;cases e;exact FX q
     |none=>rw[AR q,Bj q];exact e
    .rw[AR (Dv CA.new (tup1 e2))];exact kp (tup1 e2) (by intro o z;cases z)
   .obtain⟨sU,hk⟩:=O2 CA.new s2;refine⟨hk,l,xs,t,rfl,SqL.of (IM hk hl (by intro o z;cases z)),hens.tups (λ a xs e=>IM hk e (by intro o z;cases z)),by lia,λ v' H3 s3 ob=>?_⟩;exact q v' H3 (s1.trans (sU.x.trans s3.x)) ((tab1.same sU).same s3) ob
  .constructor
   .rintro⟨cc,h⟩;have:=PySem.mem_of_lookup h;cases List.mem_singleton.mp this;simp
   .intro hy;rw[List.mem_singleton.mp hy];exact⟨_,rfl⟩
  .have m1:=List.mem_singleton.mp (PySem.mem_of_lookup h1);have m2:=List.mem_singleton.mp (PySem.mem_of_lookup h2);exact(congrArg Prod.fst m1).trans (congrArg Prod.fst m2).symm
  .have hp':=List.mem_singleton.mp hp;subst hp'
   match i,hi with
   |0,_ =>
    cases hv;exact CA.val _ hp 0 _ rfl rfl
theorem TkAt.n{H H':Hp}{t:Tk1}(h:TkAt H t)(s:SameN H H'):TkAt H' t:=⟨s.tup h.1,s _ _ h.2.1 (λ_ z=>nomatch z),h.2.2.tups λ a xs e=>s.tup e⟩
theorem BnAt.n{C a dx ls lt:Addr}{H H':Hp}{ss:LZ}{tn:List Tk1}(h:BnAt C a dx ls lt H ss tn)(s:SameN H H'):BnAt C a dx ls lt H' ss tn :=
 ⟨s _ _ h.ob (λ_ z=>nomatch z),s.lst h.lst,λ t ht=>s.tup (h.stk t ht),s.lst h.tak,λ t ht=>(h.tks t ht).n s,h.dis⟩
def QG(H:Hp)(ss:LZ)(t:Tk1)(r:Tr):Prop:=0<=t.2.1/\∃u,ss[t.2.1.toNat]?=some u/\∃(en:Rk->En)(D:Rk->Prop),(∀q,D q->∃c,De t.2.2.2.1 (rkK q)=some (.ref c)/\H c=some (.tup (enV (en q))))/\Lp en D r (shR u.2)/\r.nd<=400
inductive F0(tb2 C cW cU cL:Addr)(vs:LUz)(H:Hp)(Q:VK)(E:XK):Prop
 |mk (a dx ls lt:Addr) (ss:LZ) (tn:List Tk1) (tr:Nat->Tr) (h0:vs=[.ref a]) (h1:BnAt C a dx ls lt H ss tn) (h2:tn.length<=100) (h3:TabOk E9 DS tb2 H) (h4:(∀i t,tn[i]?=some t->QG H ss t (tr i))) (h5:∀l (ts:LA) H',SameX tb2 H H'->TabOk E9 DS tb2 H'->H l=none->H' l=some (.lst (Ai ts))->ts.length=tn.length->(∀i x t,ts[i]?=some x->tn[i]?=some t->H' x.1=some (.tup [.int t.2.1,x.2])/\Obj cW cU cL H' (tr i) x.2)->Q (.ref l) H'):F0 tb2 C cW cU cL vs H Q E
def DW(tb2 C cW cU cL:Addr) :Sp:=λ vs H Q E=>F0 tb2 C cW cU cL vs H Q E
theorem GX:Aq ["self"] ["self"] (Ag Cn):=fsc
theorem F6{f tb2:Addr}{fd:FuncData}{C:Addr}(F:Fun K "sheets" "Bench.sheets" Cn f fd)(BC:JP K C)(D_tree_in:A5 P w K mg base 5 "tree_in" ["entries","sheet"] (ES tb2 cW cU cL)):A8 P w K mg base CX0 6 f fd ["self"] (DW tb2 C cW cU cL):=by
 have S:=GX;refine F.ok S (λ vs H Q E h=>?_) (λ cdv A outer s H vs Q E hr h=>?_)
 .obtain⟨a,dx,ls,lt,ss,tn,tr,rfl,_⟩:=h;rfl
 .obtain⟨a,dx,ls,lt,ss,tn,tr,rfl,bn,few,tb,each,q⟩:=h;have tbl:=tb.tbl;refine⟨_,(Ah (Ar (Bt rfl (AL (Bo (pv 0) rfl)) (λ_ _ _ _ _=>(AV (K:=K) (n:=2) rfl (Am (An (i:=0) (show List.Nodup (["number","entries","self"]:LSz) from by decide +kernel) rfl (Or.inl rfl)) (Am (An (i:=1) (show List.Nodup (["number","entries","self"]:LSz) from by decide +kernel) rfl (Or.inl rfl)) AB)))) (λ_ _ _ _ _=>(Av (Aa (pv 0) (Aa (Aw D_tree_in hr (Aa (pv 1) (Aa (Ao (Dy (K:=K)) (MM (K:=K) (pv 2) rfl) (pv 0) (λ_ _=>rfl)) Ab))) Ab)))) (N:=["number","entries","self"]) (fr:=[none,none,some 0])))),?_⟩;have snew:∀{l:Addr},H l=none->l≠tb2:=λ e z=>by obtain⟨ps,e'⟩:=tbl;rw[z,e']at e;cases e
  refine⟨_,rfl,a,C,dx,_,_,rfl,bn.ob,BC.cl,BC.n_taken,GN _ _,lt,rfl,⟨_,SqL.of bn.tak⟩,λ acc hacc=>AU (K:=K) (a:=lt) (ys:=Ai tn) (λ i zs σ H'=>(∃x y,σ=[x,y,some (.ref a)])/\SameX tb2 H H'/\TabOk E9 DS tb2 H'/\∃ts:LA,zs=Ai ts/\ts.length=i/\∀j x t,ts[j]?=some x->tn[j]?=some t->H' x.1=some (.tup [.int t.2.1,x.2])/\Obj cW cU cL H' (tr j) x.2)
   ⟨⟨none,none,rfl⟩,(Same.new hacc).x,tb.same (Same.new hacc),[],rfl,rfl,λ j x t e=>by cases e⟩ (λ i zs σ H' _ _ hp=>SqL.of ((hp.2.1.toN tbl).lst bn.tak)) ?_ ?_⟩
  .rintro i x zs σ H1 hx hi hl' hacc' ⟨⟨x0,y0,rfl⟩,sx,tb1,ts,rfl,lts,hts⟩;obtain⟨t,ht,rfl⟩:=AC hx;have sN:=sx.toN tbl;have bn1:=bn.n sN;obtain⟨g1,g2,g3⟩:=bn1.tks t (List.mem_of_getElem? ht);obtain⟨p0,u,hu',en,D,he,gr,nd⟩:=each i t ht;have um:=List.mem_of_getElem? hu';have at1:atI (Ai ss) t.2.1=some (.ref u.1):=by
    have:=B3 (xs:=Ai ss) (j:=t.2.1.toNat) (v:=.ref u.1) (by unfold Ai;rw[List.getElem?_map,hu'];rfl);rwa [Int.toNat_of_nonneg p0]at this
   refine⟨t.1,_,rfl,SqT.of g1,rfl,_,_,rfl,_,_,rfl,rfl,?_⟩;refine⟨_,rfl,_,rfl,_,rfl,a,C,dx,_,_,rfl,bn1.ob,BC.cl,BC.n_stock,KS _ _,_,rfl,ls,_,_,_,rfl,rfl,SqL.of bn1.lst,at1,t.2.2.1,u.1,t.2.2.2.1,shR u.2,tr i,en,D,rfl,g2,bn1.stk u um,(λ q hq=>let ⟨c,e1,e2⟩:=he q hq;⟨c,e1,sN.tup e2⟩),gr,nd,tb1,λ v H2 s2 tb3 ob=>⟨Au 2,λ p np=>?_⟩⟩;obtain⟨H3,g,s3,e3⟩:=nw (.tup [.int t.2.1,v]) np;rw[g];have ac3:=s3 _ _ (s2 _ _ (snew hacc) hacc');have s13:SameX tb2 H1 H3:=s2.trans s3.x;have sN3:SameN H1 H3:=s13.toN tb1.tbl;have kp:Kp H3 (upd H3 acc (.lst (Ai ts++[.ref p]))):=Kp.put ac3;refine cNx.mk (Nat.le_of_lt (Ap (by rw[Al];lia))) hi hl' ac3 ⟨⟨_,_,rfl⟩,λ d o nd e=>by rw[Ae (Af e hacc)];exact s13 _ _ nd (sx d o nd e),TabOk.upd (tb3.same s3) ac3,ts++[(p,v)],by unfold Ai;rw[List.map_append];rfl,by rw[List.length_append,List.length_singleton,lts],λ j y t' hj hj'=>?_⟩;rcases Nat.lt_or_ge j ts.length with jl|jl
   .rw[List.getElem?_append_left jl]at hj;obtain⟨a1,a2⟩:=hts j y t' hj hj';exact⟨Bk (sN3.tup a1) ac3,(Obj.n sN3 a2).kp kp⟩
   .have ej:j=ts.length:=by
     rcases Nat.lt_or_ge ts.length j with h|h
     .rw[List.getElem?_eq_none (by rw[List.length_append,List.length_singleton];lia)]at hj;cases hj
     .lia
    subst ej;rw[List.getElem?_append_right (Nat.le_refl _),Nat.sub_self]at hj;cases hj;rw[lts,ht]at hj';cases hj';rw[lts];exact⟨Bk e3 ac3,(ob.same s3).kp kp⟩
  .rintro zs σ H1 hl' hacc' ⟨_,sx,tb1,ts,rfl,lts,hts⟩;rw[Al]at lts;exact q acc ts H1 sx tb1 hacc hacc' lts hts
def trD:Tr->D
 |.whole m=>.tup (.cons (.at (.str "whole")) (.cons (.at (Bl m)) .nil))
 |.cut u k x y=>.tup (.cons (.at (.str (wd u))) (.cons (.at (.int k)) (.cons (trD x) (.cons (trD y) .nil))))
theorem NF(m:Option Int):Co (Bl m)=true:=by cases m<;>rfl
theorem Lv{K:Frag}{H:Hp}:∀{t:Tr}{v:V},Told H t v->DIs K H (trD t) v
 |.whole m,v,h=>by
  rw[Told]at h;obtain⟨a,rfl,h⟩:=h;rw[trD,DIs];refine⟨a,_,rfl,SqT.of h,?_⟩;rw[DIss];refine⟨_,_,rfl,by rw[DIs];exact⟨rfl,rfl⟩,?_⟩;rw[DIss];exact⟨_,_,rfl,by rw[DIs];exact⟨rfl,NF m⟩,by rw[DIss]⟩
 |.cut u k x y,v,h=>by
  rw[Told]at h;obtain⟨a,vx,vy,rfl,h,h1,h2⟩:=h;rw[trD,DIs];refine⟨a,_,rfl,SqT.of h,?_⟩;rw[DIss];refine⟨_,_,rfl,by rw[DIs];exact⟨rfl,rfl⟩,?_⟩;rw[DIss];refine⟨_,_,rfl,by rw[DIs];exact⟨rfl,rfl⟩,?_⟩;rw[DIss];refine⟨_,_,rfl,Lv h1,?_⟩;rw[DIss];exact⟨_,_,rfl,Lv h2,by rw[DIss]⟩
theorem IN:∀t:Tr,dep (trD t)<=t.dp+1
 |.whole m=>by rw[trD,dep,Bi,Bi,Bi,dep,dep];lia
 |.cut u k x y=>by
  have:=IN x;have:=IN y;rw[trD,dep,Bi,Bi,Bi,Bi,Bi,dep,dep,Tr.dp];lia
def N2(y:Int×Rk):D:=.tup (.cons (.at (.int y.1)) (.cons (.tup (AO [y.2.t,y.2.l,y.2.b,y.2.r])) .nil))
theorem PJ{K:Frag}{H:Hp}{t:Of1}(h:OfAt H t):DIs K H (N2 t.2.2) (.ref t.1):=by
 unfold N2;rw[DIs];refine⟨_,_,rfl,SqT.of h.1,?_⟩;rw[DIss];refine⟨_,_,rfl,by rw[DIs];exact⟨rfl,rfl⟩,?_⟩;rw[DIss];refine⟨_,_,rfl,?_,by rw[DIss]⟩;rw[DIs];exact⟨_,_,rfl,SqT.of h.2,B8 [t.2.2.2.t,t.2.2.2.l,t.2.2.2.b,t.2.2.2.r]⟩
theorem O4(y:Int×Rk):dep (N2 y)<=4:=by
 unfold N2;rw[dep,Bi,Bi,Bi,dep,dep,B4];decide
def pnN(y:Int×Rk)(z:Int×Int):Rk:=(y.2.fst true z.1).fst false z.2
def Fo:LK->Ds
 |[]=>.nil
 |y::r=>.cons (N2 y) (Fo r)
theorem Gj{K:Frag}{H:Hp}:∀(ts:List Of1),(∀t∈ts,OfAt H t)->DIss K H (Fo (ts.map λ t:Of1=>t.2.2)) (Ai ts)
 |[],_=>by show DIss K H .nil [];rw[DIss]
 |t::r,h=>by
  show DIss K H (.cons (N2 t.2.2) (Fo (r.map λ t:Of1=>t.2.2))) (.ref t.1::Ai r);rw[DIss];exact⟨_,_,rfl,PJ (h t List.mem_cons_self),Gj r λ u hu=>h u (List.mem_cons_of_mem _ hu)⟩
theorem HU:∀(L:LK),Bi (Fo L)<=4
 |[]=>by rw[Fo,Bi];lia
 |y::r=>by
  have:=HU r;have:=O4 y;rw[Fo,Bi];lia
def SubR(q p:Rk):Prop:=p.t<=q.t/\q.b<=p.b/\p.l<=q.l/\q.r<=p.r
def FA(q p:Rk):Prop:=q.b<=p.t\/p.b<=q.t\/q.r<=p.l\/p.r<=q.l
theorem Rk.ext4{p q:Rk}(h:p.t=q.t/\p.l=q.l/\p.b=q.b/\p.r=q.r):p=q:=by
 obtain⟨a,b,c,d⟩:=p;obtain⟨a',b',c',d'⟩:=q;obtain⟨h1,h2,h3,h4⟩:=h;dsimp only at h1 h2 h3 h4;rw[h1,h2,h3,h4]
theorem SubR.eq{p q:Rk}(h:SubR p q)(h':SubR q p):p=q:=Rk.ext4 (by unfold SubR at h h';lia)
structure SD(p f o:Rk):Prop where
 pf:AG f
 po:AG o
 sf:SubR f p
 so:SubR o p
 ao:FA o f
 nf:f≠p
 no:o≠p
theorem Sv{p:Rk}{u:Bool}{k:Int}(pk:AG p)(h0:0<k)(h1:k<p.len u):SD p (p.fst u k) (p.oth u k):=by
 unfold AG at pk;cases u with
 |true =>
  have h1:k<p.r-p.l:=h1;exact⟨by show AG ⟨p.t,p.l,p.b,p.l+k⟩;unfold AG;dsimp only;lia,by show AG ⟨p.t,p.l+k,p.b,p.r⟩;unfold AG;dsimp only;lia,by show SubR ⟨p.t,p.l,p.b,p.l+k⟩ p;unfold SubR;dsimp only;lia,by show SubR ⟨p.t,p.l+k,p.b,p.r⟩ p;unfold SubR;dsimp only;lia,
   by show FA ⟨p.t,p.l+k,p.b,p.r⟩ ⟨p.t,p.l,p.b,p.l+k⟩;unfold FA;dsimp only;lia,λ z=>by have z:p.l+k=p.r:=congrArg GB.Rc.r z;lia,λ z=>by have z:p.l+k=p.l:=congrArg GB.Rc.l z;lia⟩
 |false =>
  have h1:k<p.b-p.t:=h1;exact⟨by show AG ⟨p.t,p.l,p.t+k,p.r⟩;unfold AG;dsimp only;lia,by show AG ⟨p.t+k,p.l,p.b,p.r⟩;unfold AG;dsimp only;lia,by show SubR ⟨p.t,p.l,p.t+k,p.r⟩ p;unfold SubR;dsimp only;lia,by show SubR ⟨p.t+k,p.l,p.b,p.r⟩ p;unfold SubR;dsimp only;lia,
   by show FA ⟨p.t+k,p.l,p.b,p.r⟩ ⟨p.t,p.l,p.t+k,p.r⟩;unfold FA;dsimp only;lia,λ z=>by have z:p.t+k=p.b:=congrArg GB.Rc.b z;lia,λ z=>by have z:p.t+k=p.t:=congrArg GB.Rc.t z;lia⟩
theorem E2{kv:KV}{p:Rk}{e:En}(h:p∈kv.map λ x=>x.1):Bs kv p e=kv.map λ x=>if x.1=p then (p,e) else x:=by
 obtain⟨x,hx,rfl⟩:=List.mem_map.mp h;unfold Bs;rw[if_pos (List.any_eq_true.mpr ⟨x,hx,decide_eq_true rfl⟩)];apply List.map_congr_left;intro y _;by_cases c:y.1=x.1
 .rw[if_pos c,if_pos (by rw[c])]
 .rw[if_neg c,if_neg (λ z=>c (IW z))]
theorem CD{kv:KV}{p:Rk}{e:En}(h:p∉kv.map λ x=>x.1):Bs kv p e=kv++[(p,e)]:=by
 unfold Bs;rw[if_neg];intro z;obtain⟨x,hx,hd⟩:=List.any_eq_true.mp z;exact h (List.mem_map.mpr ⟨x,hx,IW (of_decide_eq_true hd)⟩)
theorem mem_putE{kv:KV}{p:Rk}{e:En}{x:Rk×En}:x∈Bs kv p e↔x=(p,e)\/(x∈kv/\x.1≠p):=by
 by_cases h:p∈kv.map λ x=>x.1
 .rw[E2 h,List.mem_map]
  constructor
  .rintro⟨y,hy,rfl⟩;by_cases c:y.1=p
   .rw[if_pos c];exact .inl rfl
   .rw[if_neg c];exact .inr ⟨hy,c⟩
  .rintro(rfl|⟨hx,n⟩)
   .obtain⟨y,hy,e⟩:=List.mem_map.mp h;exact⟨y,hy,if_pos e⟩
   .exact⟨x,hx,if_neg n⟩
 .rw[CD h,List.mem_append,List.mem_singleton]
  constructor
  .rintro(hx|rfl)
   .exact .inr ⟨hx,λ z=>h (List.mem_map.mpr ⟨x,hx,z⟩)⟩
   .exact .inl rfl
  .rintro(rfl|⟨hx,_⟩)
   .exact .inr rfl
   .exact .inl hx
theorem MG{kv:KV}{p:Rk}{e:En}(h:(kv.map λ x=>x.1).Nodup):((Bs kv p e).map λ x=>x.1).Nodup:=by
 by_cases c:p∈kv.map λ x=>x.1
 .rw[E2 c,List.map_map];have:((λ x:Rk×En=>x.1)∘λ x:Rk×En=>if x.1=p then (p,e) else x)=λ x=>x.1:=by
   funext x
   show(if x.1=p then (p,e) else x).1=x.1;by_cases c:x.1=p
   .rw[if_pos c,c]
   .rw[if_neg c]
  rw[this];exact h
 .rw[CD c,List.map_append,List.nodup_append];refine⟨h,by simp,λ x hx y hy=>?_⟩;rw[List.mem_singleton.mp hy];exact λ z=>c (by have z:x=p:=z;rw[<-z];exact hx)
theorem M5(i:Int)(a b:KV):wh1 i (a++b)=wh1 i a++wh1 i b:=by unfold wh1;rw[List.filterMap_append]
theorem FN{p:Rk}{u:Bool}{k:Int}(h:¬k<p.len u)(h':k<=p.len u):p.fst u k=p:=by
 cases u with
 |true=>have h:¬k<p.r-p.l:=h;have h':k<=p.r-p.l:=h';exact Rk.ext4 ⟨rfl,rfl,rfl,by show p.l+k=p.r;lia⟩
 |false=>have h:¬k<p.b-p.t:=h;have h':k<=p.b-p.t:=h';exact Rk.ext4 ⟨rfl,rfl,by show p.t+k=p.b;lia,rfl⟩
theorem Pm{kv:KV}{p:Rk}{u:Bool}{k:Int}(h':k<=p.len u):(BR u k (kv,p)).2=p.fst u k:=by
 unfold BR;by_cases h:k<p.len u
 .rw[if_pos h]
 .rw[if_neg h];exact(FN h h').symm
theorem Pn{kv:KV}{p:Rk}{z:Int×Int}(h1:z.1<=p.len true)(h2:z.2<=p.len false):(D7 kv p z).2=(p.fst true z.1).fst false z.2:=by
 unfold D7;have e:=Pm (kv:=kv) h1;generalize BR true z.1 (kv,p)=s1 at e |-;obtain⟨kv',p'⟩:=s1;have e:p'=p.fst true z.1:=e;subst e;exact Pm (h':=h2)
theorem Qb{i j:Int}{p:Rk}{m:Option Int}{kv:KV}:(j,p,m)∈wh1 i kv↔j=i/\(p,En.w m)∈kv:=by
 unfold wh1;rw[List.mem_filterMap]
 constructor
 .rintro⟨⟨q,e⟩,hx,he⟩;cases e with
  |w m'=>cases he;exact⟨rfl,hx⟩
  |c u k=>cases he
 .rintro⟨rfl,h⟩;exact⟨_,h,rfl⟩
theorem mem_whs{y:Int}{p:Rk}{m:Option Int}:∀{i:Int}{kvs:List KV},(y,p,m)∈whs i kvs↔∃(j:Nat)(kv:KV),kvs[j]?=some kv/\y=i+j/\(p,En.w m)∈kv
 |i,[]=>⟨λ h=>(nomatch h),λ⟨j,kv,h,_⟩=>by simp at h⟩
 |i,kv::r=>by
  show(y,p,m)∈wh1 i kv++whs (i+1) r↔_;rw[List.mem_append,Qb,mem_whs (i:=i+1) (kvs:=r)]
  constructor
  .rintro(⟨rfl,h⟩|⟨j,kv',h,e,h'⟩)
   .exact⟨0,kv,rfl,by lia,h⟩
   .exact⟨j+1,kv',h,by lia,h'⟩
  .rintro⟨j,kv',h,e,h'⟩;cases j with
   |zero=>cases h;exact .inl ⟨by lia,h'⟩
   |succ j=>exact .inr ⟨j,kv',h,by lia,h'⟩
theorem M4{X Y:LR}{kv kv':KV}:∀{i:Int}{j:Nat}{kvs:List KV},kvs[j]?=some kv->(X++wh1 (i+j) kv').Perm (wh1 (i+j) kv++Y)->(X++whs i (kvs.set j kv')).Perm (whs i kvs++Y)
 |i,0,k0::r,h,pm=>by
  cases h;rw[show i+((0:Nat):Int)=i by lia]at pm;show(X++(wh1 i kv'++whs (i+1) r)).Perm ((wh1 i kv++whs (i+1) r)++Y);rw[<-List.append_assoc,List.append_assoc (wh1 i kv)];refine(List.Perm.append_right _ pm).trans ?_;rw[List.append_assoc];exact List.Perm.append_left _ List.perm_append_comm
 |i,j+1,k0::r,h,pm=>by
  have h:r[j]?=some kv:=h;rw[show i+((j+1:Nat):Int)=i+1+j by lia]at pm;have ih:=M4 (i:=i+1) h pm;show(X++(wh1 i k0++whs (i+1) (r.set j kv'))).Perm ((wh1 i k0++whs (i+1) r)++Y);rw[List.append_assoc];exact(List.perm_append_comm_assoc _ _ _).trans (List.Perm.append_left _ ih)
def zOf(zs:LI)(k:Int):Int×Int:=(zs[k.toNat]?).getD (0,0)
theorem Ib(a b:LR):A9 (a++b)=A9 a++A9 b:=by unfold A9;rw[List.filterMap_append]
theorem KY(a b:List Rk):BS (a++b)=BS a+BS b:=by unfold BS;rw[List.map_append,List.sum_append]
theorem Ir{a b:List Rk}(h:a.Perm b):BS a=BS b:=Kk (h.map arR)
theorem mem_off{y:Int×Rk}{L:LR}:y∈A9 L↔(y.1,y.2,none)∈L:=by
 unfold A9;rw[List.mem_filterMap]
 constructor
 .rintro⟨⟨i,p,m⟩,h,e⟩;cases m with
  |none=>cases e;exact h
  |some m=>cases e
 .intro h;exact⟨_,h,rfl⟩
theorem Jx{t:DO}{W T:Int}{z:Int×Int}{r:LI}(wk:WOk t)(h:Bh t W T=z::r):0<z.1/\0<z.2/\z.1<=W/\z.2<=T:=by
 have hm:z∈Bh t W T:=by rw[h];exact List.mem_cons_self
 unfold Bh at hm;rw[List.mem_filter,Bool.and_eq_true,decide_eq_true_iff,decide_eq_true_iff]at hm;obtain⟨hw,h1,h2⟩:=hm;unfold WOk at wk;unfold BU at hw;split at hw
 .rcases List.mem_cons.mp hw with rfl|hw
  .exact⟨by show 0<t.1;lia,by show 0<t.2.1;lia,h1,h2⟩
  .rw[List.mem_singleton.mp hw]at h1 h2 |-;exact⟨by show 0<t.2.1;lia,by show 0<t.1;lia,h1,h2⟩
 .rw[List.mem_singleton.mp hw]at h1 h2 |-;exact⟨by show 0<t.1;lia,by show 0<t.2.1;lia,h1,h2⟩
theorem d13{a b x y:Int}(h:a*13+x=b*13+y)(x0:0<=x)(x1:x<=12)(y0:0<=y)(y1:y<=12):a=b/\x=y:=by lia
theorem K7{n t l b r n' t' l' b' r':Int}(h:0<=t/\t<=12/\0<=l/\l<=12/\0<=b/\b<=12/\0<=r/\r<=12)(h':0<=t'/\t'<=12/\0<=l'/\l'<=12/\0<=b'/\b'<=12/\0<=r'/\r'<=12)(e:Jv [n,t,l,b,r]=Jv [n',t',l',b',r']):n=n'/\t=t'/\l=l'/\b=b'/\r=r':=by
 obtain⟨t0,t1,l0,l1,b0,b1,r0,r1⟩:=h;obtain⟨t2,t3,l2,l3,b2,b3,r2,r3⟩:=h';have e:(((n*13+t)*13+l)*13+b)*13+r=(((n'*13+t')*13+l')*13+b')*13+r':=e;obtain⟨e1,er⟩:=d13 e r0 r1 r2 r3;obtain⟨e2,eb⟩:=d13 e1 b0 b1 b2 b3;obtain⟨e3,el⟩:=d13 e2 l0 l1 l2 l3;obtain⟨e4,et⟩:=d13 e3 t0 t1 t2 t3;exact⟨e4,et,el,eb,er⟩
theorem ON{y y':Int×Rk}(h:AG y.2)(h':AG y'.2)(e:OO y=OO y'):y=y':=by
 obtain⟨a,b,c,d,f⟩:=K7 (Cs h) (Cs h') e;exact Prod.ext a (Rk.ext4 ⟨b,c,d,f⟩)
theorem PK{L M:LK}(ok:∀y∈L,AG y.2)(pm:L.Perm M)(r1:(L.map OO).Pairwise (·<=·))(r2:(M.map OO).Pairwise (·<=·)):L=M:=by
 rw[List.pairwise_map]at r1 r2;exact List.Perm.eq_of_pairwise (λ a b ha hb h1 h2=>ON (ok a ha) (ok b (pm.mem_iff.mpr hb)) (Int.le_antisymm h1 h2)) r1 r2 pm
theorem PD{tn:List Tk1}{i:Nat}{u:Tk1}{ks:LKz}{kv:KV}(h:tn[i]?=some u):Gh tn i ks kv=tn.set i (u.1,u.2.1,u.2.2.1,ks,kv):=by unfold Gh;rw[h]
theorem Fm{zs:LI}{k:Int}(h:0<=k/\k<zs.length):zs[k.toNat]?=some (zOf zs k):=by
 unfold zOf;rw[List.getElem?_eq_getElem (by lia)];rfl
theorem Sz(z:Int×Int):arR (shR z)=z.1*z.2:=by
 show(z.2-0)*(z.1-0)=_;rw[Int.sub_zero,Int.sub_zero,Int.mul_comm]
def Mh:KV->Rk->En
 |[],_=>.w none
 |x::r,q=>if rkK x.1=rkK q then x.2 else Mh r q
theorem KvAt.val{H:Hp}{q:Rk}:∀{kvs:LKz}{kv:KV},KvAt H kvs kv->(∃e,(q,e)∈kv)->∃c,De kvs (rkK q)=some (.ref c)/\H c=some (.tup (enV (Mh kv q)))
 |[],[],_,⟨_,h⟩=>nomatch h
 |x::r,y::s,⟨⟨h1,a,h2,h3⟩,h⟩,⟨e,he⟩=>by
  by_cases z:rkK y.1=rkK q
  .refine⟨a,?_,?_⟩
   .rw[Cg (h1.trans z),h2]
   .unfold Mh;rw[if_pos z];exact h3
  .obtain⟨c,c1,c2⟩:=KvAt.val h ⟨e,by
    rcases List.mem_cons.mp he with w|w
    .exact absurd (by rw[<-w]) z
    .exact w⟩
   refine⟨c,?_,?_⟩
   .rw[Ch (λ w=>z (h1.symm.trans w)),c1]
   .unfold Mh;rw[if_neg z];exact c2
 |[],_::_,h,_=>h.elim
 |_::_,[],h,_=>h.elim
structure RB(mg:MGz)(K:Frag)(cG:Addr):Prop where
 g_NoGlass:mg "NoGlass"=some (.ref cG)
 x_NoGlass:∃fI,C6 K cG fI=true
 mro:mroIn K cG (.ref cG)=some true
inductive He(C:Addr)(vs:LUz)(H:Hp)(Q:VK)(E:XK):Prop
 |mk (a dx ls lt:Addr) (ss:LZ) (tn:List Tk1) (t:DO) (h0:vs=[.ref a,.int t.1,.int t.2.1,.bl t.2.2]) (h1:BnAt C a dx ls lt H ss tn) (h2:M2 tn) (h3:ss.length<=4) (h4:(∀t∈ss,SOk t.2)) (h5:WOk t) (h6:(Bg (whs 0 (tn.map λ t=>t.2.2.2.2))).length<60) (h7:(∀y∈A9 (whs 0 (tn.map λ t=>t.2.2.2.2)),AG y.2/\0<=y.1/\y.1<tn.length)) (h8:(∀y∈A9 (whs 0 (tn.map λ t=>t.2.2.2.2)),hld t y.2->(∀y'∈A9 (whs 0 (tn.map λ t=>t.2.2.2.2)),hld t y'.2->NP y<=NP y')->∀(u:Tk1) z rest kvs r b H',tn[y.1.toNat]?=some u->Bh t (y.2.len true) (y.2.len false)=z::rest->SameX u.2.2.1 H H' ->
  BnAt C a dx ls lt H' ss (Gh tn y.1.toNat kvs (Be u.2.2.2.2 y.2 z ((Bg (whs 0 (tn.map λ t=>t.2.2.2.2))).length:Int)))->H' r=some (.tup [.int y.1,.ref b])->H' b=some (.tup (D7 u.2.2.2.2 y.2 z).2.vs)->Q (.ref r) H')) (h9:((∀y∈A9 (whs 0 (tn.map λ t=>t.2.2.2.2)),¬hld t y.2)->∀(k:Nat)(u:Addr×Int×Int),ss[k]?=some u->hld t (shR u.2)->(∀(k':Nat)(u':Addr×Int×Int),ss[k']?=some u'->hld t (shR u'.2)->EA [arR (shR u.2),k]<=EA [arR (shR u'.2),k']) ->
  ∀z rest tA dA kvs r b H',H dA=none->Bh t ((shR u.2).len true) ((shR u.2).len false)=z::rest->SameX lt H H'->BnAt C a dx ls lt H' ss (tn++[(tA,(k:Int),dA,kvs,Be [(shR u.2,.w none)] (shR u.2) z ((Bg (whs 0 (tn.map λ t=>t.2.2.2.2))).length:Int))])->H' r=some (.tup [.int tn.length,.ref b])->H' b=some (.tup (D7 [(shR u.2,.w none)] (shR u.2) z).2.vs)->Q (.ref r) H')) (h10:((∀y∈A9 (whs 0 (tn.map λ t=>t.2.2.2.2)),¬hld t y.2)->(∀u∈ss,¬hld t (shR u.2))->∀H',Same H H'->Q .non H')):He C vs H Q E
def HR(C:Addr) :Sp:=λ vs H Q E=>He C vs H Q E
abbrev Tl:LSz:=["_law_bench","_law_width","_law_height","_law_turns","_law_told_here"]
theorem Lf:Aq Tl ["_law_bench","_law_width","_law_height","_law_turns"] (Ag CQ):=fsc
theorem Jk{f:Addr}{fd:FuncData}{C cG:Addr}(F:Fun K "_law_asked" "_law_asked" CQ f fd)(R:RB mg K cG)(M_Bench_cut:Iu P w K mg base 5 C "cut" ["self","width","height","turns"] (L1 C cG)):A8 P w K mg base CX0 6 f fd ["_law_bench","_law_width","_law_height","_law_turns"] (HR C):=by
 have S:=Lf;refine F.ok S (λ vs H Q E h=>?_) (λ cdv A outer s H vs Q E hr h=>?_)
 .obtain⟨a,dx,ls,lt,ss,tn,t,rfl,_⟩:=h;rfl
 .obtain⟨a,dx,ls,lt,ss,tn,t,rfl,bn,bok,s4,so,wok,np,ok1,qA,qB,qC⟩:=h;refine⟨_,(Ac (As (i:=4) S.nd rfl (Or.inl rfl) AY)
   (Ac (LD (i:=4) S.nd rfl (Or.inl rfl) (λ_=>RZ M_Bench_cut hr (pv 0) (Aa (pv 1) (Aa (pv 2) (Aa (pv 3) Ab)))) rfl R.g_NoGlass R.x_NoGlass rfl rfl (λ_=>(Ah (As (i:=4) S.nd rfl (Or.inl rfl) AY))))
   (Ah (Ar (pv 4))))),?_⟩
  refine⟨XE H (λ C' _ _=>C'=cG/\(∀y∈A9 (whs 0 (tn.map λ t=>t.2.2.2.2)),¬hld t y.2)/\(∀u∈ss,¬hld t (shR u.2))),
   ⟨_,rfl,a,dx,_,rfl,bn.ob,Ca _ _ (by decide +kernel) (by decide +kernel),_,rfl,_,rfl,_,rfl,a,dx,ls,lt,ss,tn,t,rfl,bn,bok,s4,so,wok,np,ok1,?_,?_,λ no none'=>XE.rf λ fs H' _=>⟨rfl,no,none'⟩⟩,?_⟩
  .intro y hy hh least u z rest kvs r b H' h1 h2 h3 h4 h5 h6;exact⟨_,rfl,qA y hy hh least u z rest kvs r b H' h1 h2 h3 h4 h5 h6⟩
  .intro no k u k2 k3 least z rest tA dA kvs r b H' h0 h1 h2 h3 h4 h5;exact⟨_,rfl,qB no k u k2 k3 least z rest tA dA kvs r b H' h0 h1 h2 h3 h4 h5⟩
  .rintro x' C' d T0 T2 H' ⟨x2,C2,dx',fs,ev,rfl,hx,s34,xr,rfl,no,none'⟩ fl hT2 nT2;obtain rfl:x'=x2:=Value.ref.inj ev;obtain⟨rfl,xr',s5⟩:=Qw hx s34 xr fl hT2;exact⟨R.mro,_,rfl,qC no none' _ s5⟩
inductive IE(vs:LUz)(H:Hp)(Q:VK)(E:XK):Prop
 |mk (a:Addr) (p:Rk) (h0:vs=[.ref a]) (h1:H a=some (.tup p.vs)) (h2:AG p) (h3:Q (.int (arR p)) H):IE vs H Q E
def Gb:Sp:=λ vs H Q E=>IE vs H Q E
theorem Mt:Aq ["_law_block"] ["_law_block"] (Ag Dr):=fsc
theorem Ks{f:Addr}{fd:FuncData}(F:Fun K "_law_area" "_law_area" Dr f fd):A8 P w K mg base CX0 1 f fd ["_law_block"] Gb:=by
 have S:=Mt;refine F.ok S (λ vs H Q E h=>?_) (λ cdv A outer s H vs Q E hr h=>?_)
 .obtain⟨a,p,rfl,_⟩:=h;rfl
 .obtain⟨a,p,rfl,ha,⟨p1,p2,p3,p4,p5,p6⟩,q⟩:=h;refine⟨_,(Ah (Ar (A6 DJ (A6 BX (Ao Ak (pv 0) Ad (λ_ _=>rfl)) (Ao Ak (pv 0) Ad (λ_ _=>rfl))) (A6 BX (Ao Ak (pv 0) Ad (λ_ _=>rfl)) (Ao Ak (pv 0) Ad (λ_ _=>rfl)))))),?_⟩;exact⟨_,rfl,a,_,_,_,rfl,rfl,SqT.of ha,at2,_,rfl,a,_,_,_,rfl,rfl,SqT.of ha,at0,_,_,rfl,rfl,_,rfl,a,_,_,_,rfl,rfl,SqT.of ha,at3,_,rfl,a,_,_,_,rfl,rfl,SqT.of ha,at1,_,_,rfl,rfl,_,_,rfl,rfl,Ic (by lia) (by lia) (by lia) (by lia),q⟩
def St8(H:Hp)(a:Addr)(t:Int):Prop:=∃c r:Int,0<=r/\H a=some (.dK [(Sum.inr "cell",.int c),(Sum.inr "rest",.int r),(Sum.inr "times",.int t)])
theorem St8.same{H H':Hp}{a:Addr}{t:Int}(h:St8 H a t)(s:Same H H'):St8 H' a t:=let ⟨c,r,r0,e⟩:=h;⟨c,r,r0,s _ _ e⟩
inductive I8(vs:LUz)(H:Hp)(Q:VK)(E:XK):Prop
 |mk (c:Int) (h0:vs=[.int c]) (h1:∀a H',Same H H'->H a=none->St8 H' a 0->Q (.ref a) H'):I8 vs H Q E
def Kb:Sp:=λ vs H Q E=>I8 vs H Q E
inductive Ll(vs:LUz)(H:Hp)(Q:VK)(E:XK):Prop
 |mk (a:Addr) (t m:Int) (h0:vs=[.ref a,.int m]) (h1:St8 H a t) (h2:0<=t) (h3:t<1000) (h4:0<m) (h5:m<=1000) (h6:∀z H',0<=z->z<m->SameX a H H'->St8 H' a (t+1)->Q (.int z) H'):Ll vs H Q E
def MA:Sp:=λ vs H Q E=>Ll vs H Q E
abbrev stK(c r t:Int):List (Key×V):=[(Sum.inr "cell",.int c),(Sum.inr "rest",.int r),(Sum.inr "times",.int t)]
theorem P7{c r t:Int}:De (stK c r t) (Sum.inr "cell")=some (.int c):=by rw[Cg rfl]
theorem Sh:¬(Sum.inr (Str.ofString "cell"):Key)=Sum.inr (Str.ofString "rest"):=by decide
theorem Sg:¬(Sum.inr (Str.ofString "cell"):Key)=Sum.inr (Str.ofString "times"):=by decide
theorem Sf:¬(Sum.inr (Str.ofString "rest"):Key)=Sum.inr (Str.ofString "times"):=by decide
theorem P6{c r t:Int}:De (stK c r t) (Sum.inr "rest")=some (.int r):=by rw[Ch Sh,Cg rfl]
theorem Oz{c r t:Int}:De (stK c r t) (Sum.inr "times")=some (.int t):=by rw[Ch Sg,Ch Sf,Cg rfl]
theorem N4{c r t z:Int}:Bv (stK c r t) (Sum.inr "times") (.int z)=stK c r z:=rfl
theorem O6{c r t z:Int}:Bv (stK c r t) (Sum.inr "rest") (.int z)=stK c z t:=rfl
theorem OX{H:Hp}{a:Addr}{c r t:Int}(e:H a=some (.dK (stK c r t))):DGet H a (.str "cell") (some (.int c)):=by have:=DGet.k (k:=Sum.inr "cell") e;rw[P7]at this;exact this
theorem OV{H:Hp}{a:Addr}{c r t:Int}(e:H a=some (.dK (stK c r t))):DGet H a (.str "rest") (some (.int r)):=by have:=DGet.k (k:=Sum.inr "rest") e;rw[P6]at this;exact this
theorem Ik{H:Hp}{a:Addr}{c r t:Int}(e:H a=some (.dK (stK c r t))):DGet H a (.str "times") (some (.int t)):=by have:=DGet.k (k:=Sum.inr "times") e;rw[Oz]at this;exact this
theorem Mi{H:Hp}{a:Addr}{c r t z:Int}(e:H a=some (.dK (stK c r t))):DPut H a (.str "times") (.int z) (upd H a (.dK (stK c r z))):=by have:=DPut.k (k:=Sum.inr "times") (v:=.int z) e (Ap (by show 3<=1000;decide));rw[N4]at this;exact this
theorem NW{H:Hp}{a:Addr}{c r t z:Int}(e:H a=some (.dK (stK c r t))):DPut H a (.str "rest") (.int z) (upd H a (.dK (stK c z t))):=by have:=DPut.k (k:=Sum.inr "rest") (v:=.int z) e (Ap (by show 3<=1000;decide));rw[O6]at this;exact this
theorem Le:Aq ["_law_cell_here","_law_rest"] ["_law_cell_here"] (Ag BA):=fsc
theorem Jj{f:Addr}{fd:FuncData}(F:Fun K "_law_state" "_law_state" BA f fd)(T:Txt mg tk):A8 P w K mg base CX0 1 f fd ["_law_cell_here"] Kb:=by
 have S:=Le;refine F.ok S (λ vs H Q E h=>?_) (λ cdv A outer s H vs Q E hr h=>?_)
 .obtain⟨c,rfl,_⟩:=h;rfl
 .obtain⟨c,rfl,q⟩:=h;obtain⟨tt,htt,fin⟩:∃rd,PSs (Cd CX0 P w K mg base ["_law_cell_here","_law_rest"] "_law_state" (Ag BA) f cdv A outer s H E).nox ((A4 BA).drop 2) rd /\
    ∀(r:Int),0<=r->rd { nx:=λ_ H'=>Q .non H',rt:=Q } [some (.int c),some (.int r)] H:=by
   refine⟨_,(Ah (Ar (PU (E4 Bw (pv 0) (E4 Bw (pv 1) (E4 Bw Ad MJ))) rfl rfl (by decide) (by decide)))),?_⟩;intro r r0;refine λ p np=>⟨_,rfl,_,rfl,⟨upd_same,stK c r 0,rfl,by show 3<=15;decide,q p _ ?_ np ⟨c,r,r0,upd_same⟩⟩⟩;intro x o e;rw[Ae (Af e np),Ae (Af e np)];exact e
  refine⟨_,(Ac (As (i:=1) S.nd rfl (Or.inl rfl) Ad)
   (Ac (AJ (PW.pt (Go (Ax Ia (pv 0) Ad (Az _)) (Gn (Ax Sd (pv 0) (A6 Rh Ad Ad) (Az _))))) (Ah (As (i:=1) S.nd rfl (Or.inl rfl) (At Pq rfl T.z_abs rfl (Aa (pv 0) Ab)))) Ay)
   htt)),?_⟩
  refine⟨_,rfl,_,_,rfl,rfl,_,rfl,Ef (λ h=>?_) (λ h=>?_)⟩
  .refine Qf ⟨_,rfl,_,rfl,?_⟩;exact fin _ (by split<;>lia)
  .refine⟨_,rfl,_,_,rfl,rfl,⟨by decide,by decide,by decide⟩,_,_,rfl,rfl,_,rfl,Ef (λ h2=>?_) (λ h2=>fin 0 (Int.le_refl _))⟩;refine⟨_,rfl,_,rfl,?_⟩;exact fin _ (by split<;>lia)
theorem Mq:Aq ["_law_state_here","_law_many","_law_rest"] ["_law_state_here","_law_many"] (Ag Dn):=fsc
theorem Kn{f:Addr}{fd:FuncData}(F:Fun K "_law_pick" "_law_pick" Dn f fd)(D__law_draw:A5 P w K mg base 1 "_law_draw" ["_law_cell_here","_law_nth","_law_many"] IS):A8 P w K mg base CX0 2 f fd ["_law_state_here","_law_many"] MA:=by
 have S:=Mq;refine F.ok S (λ vs H Q E h=>?_) (λ cdv A outer s H vs Q E hr h=>?_)
 .obtain⟨a,t,m,rfl,_⟩:=h;rfl
 .obtain⟨a,t,m,rfl,⟨c,r,r0,e⟩,t0,t1,m0,m1,q⟩:=h;have hu:=KA hr;refine⟨_,(Ac (As (i:=2) S.nd rfl (Or.inl rfl) (E6 hu (pv 0) Bw (λ_ _=>rfl)))
   (Ac (E3 hu (pv 0) Bw (A6 Bp (E6 hu (pv 0) Bw (λ_ _=>rfl)) Ad) rfl)
   (Ac (AJ (Ax CH (pv 2) Ad (Az _)) (Ah (Ar (Aw D__law_draw hr (Aa (E6 hu (pv 0) Bw (λ_ _=>rfl)) (Aa (E6 hu (pv 0) Bw (λ_ _=>rfl)) (Aa (pv 1) Ab)))))) Ay)
   (Ac (E3 hu (pv 0) Bw (A6 Kl (pv 2) (pv 1)) rfl)
   (Ah (Ar (A6 Ec (pv 2) (pv 1)))))))),?_⟩
  refine⟨_,rfl,a,_,rfl,OV e,?_⟩;refine⟨_,rfl,a,_,rfl,Ik e,_,_,rfl,rfl,_,rfl,a,_,rfl,Mi e,?_⟩;have e1:(upd H a (.dK (stK c r (t+1)))) a=some (.dK (stK c r (t+1))):=upd_same;have s1:SameX a H (upd H a (.dK (stK c r (t+1)))):=SameX.upd;generalize upd H a (.dK (stK c r (t+1)))=H1 at e1 s1 |-;refine⟨_,rfl,rfl,_,rfl,Ef (λ z=>?_) (λ z=>?_)⟩
  .exact⟨_,rfl,a,_,rfl,OX e1,_,rfl,a,_,rfl,Ik e1,_,rfl,c,t+1,m,rfl,by lia,by lia,m0,λ z z0 z1=>q z _ z0 z1 s1 ⟨c,r,r0,e1⟩⟩
  .exact⟨_,rfl,_,rfl,_,_,rfl,rfl,Su _ m0 (by lia),_,rfl,a,_,rfl,NW e1,_,rfl,_,rfl,_,_,rfl,rfl,m0,q _ _ (Int.emod_nonneg _ (by lia)) (Int.emod_lt_of_pos _ m0) (s1.trans SameX.upd) ⟨c,r / m,Int.ediv_nonneg r0 (by lia),upd_same⟩⟩
inductive Fw(n:Nat)(vs:LUz)(H:Hp)(Q:VK)(E:XK):Prop
 |mk (v:V) (t:Tr) (a:Addr) (p:Rk) (h0:vs=[v,.ref a]) (h1:Told H t v) (h2:H a=some (.tup p.vs)) (h3:t.dp<n) (h4:t.nd<=400) (h5:∀l ts H',Same H H'->H l=none->H' l=some (.lst (pcs ts))->PcO H' ts->cons ts=BQ t p->Q (.ref l) H'):Fw n vs H Q E
def Ci(n:Nat) :Sp:=λ vs H Q E=>Fw n vs H Q E
theorem OM{vs:LUz}{H:Hp}{Q:VK}{E:XK}:¬Ci 0 vs H Q E:=by
 rintro⟨v,t,a,p,_,_,_,h,_⟩;lia
theorem KQ(ts us:List PT):cons (ts++us)=cons ts++cons us:=List.map_append
theorem MN(ts us:List PT):pcs (ts++us)=pcs ts++pcs us:=List.map_append
theorem PcO.app{H:Hp}{ts us:List PT}(a:PcO H ts)(b:PcO H us):PcO H (ts++us):=λ t ht=>(List.mem_append.mp ht).elim (a t) (b t)
theorem EH:Aq ["_law_told_here","_law_block","_law_top","_law_left","_law_bottom","_law_right","_law_line","_law_first"] ["_law_told_here","_law_block"] (Ag C0):=fsc
theorem Hm{f:Addr}{fd:FuncData}{n:Nat}(F:Fun K "_law_pieces" "_law_pieces" C0 f fd)(D__law_pieces:A5 P w K mg base (n+3) "_law_pieces" ["_law_told_here","_law_block"] (Ci n)):A8 P w K mg base CX0 (n+4) f fd ["_law_told_here","_law_block"] (Ci (n+1)):=by
 have S:=EH;refine F.ok S (λ vs H Q E h=>?_) (λ cdv A outer s H vs Q E hr h=>?_)
 .obtain⟨v,t,a,p,rfl,_⟩:=h;rfl
 .obtain⟨v,t,b,p,rfl,ht,hb,hd,hn,q⟩:=h;refine⟨_,(Ac (LF (pv 1) (CW rfl (Am (An (i:=2) S.nd rfl (Or.inl rfl)) (Am (An (i:=3) S.nd rfl (Or.inl rfl)) (Am (An (i:=4) S.nd rfl (Or.inl rfl)) (Am (An (i:=5) S.nd rfl (Or.inl rfl)) AB))))))
   (Ac (AJ (Ax CH (Ao Ak (pv 0) Ad (λ_ _=>rfl)) Bw (Az _)) (Ah (Ar (BJ (Aa (Av (Aa (pv 1) (Aa (Ao Ak (pv 0) Ad (λ_ _=>rfl)) Ab))) Ab)))) Ay)
   (Ac (AJ (Ax CH (Ao Ak (pv 0) Ad (λ_ _=>rfl)) Bw (Az _)) (Ac (As (i:=6) S.nd rfl (Or.inl rfl) (A6 Bp (pv 3) (Ao Ak (pv 0) Ad (λ_ _=>rfl))))
   (Ac (As (i:=7) S.nd rfl (Or.inl rfl) (Aw D__law_pieces hr (Aa (Ao Ak (pv 0) Ad (λ_ _=>rfl)) (Aa (Av (Aa (pv 2) (Aa (pv 3) (Aa (pv 4) (Aa (pv 6) Ab))))) Ab)) (by lia)))
   (Ah (Ar (A6 LH (pv 7) (Aw D__law_pieces hr (Aa (Ao Ak (pv 0) Ad (λ_ _=>rfl)) (Aa (Av (Aa (pv 2) (Aa (pv 6) (Aa (pv 4) (Aa (pv 5) Ab))))) Ab)) (by lia))))))) Ay)
   (Ac (As (i:=6) S.nd rfl (Or.inl rfl) (A6 Bp (pv 2) (Ao Ak (pv 0) Ad (λ_ _=>rfl))))
   (Ah (Ar (A6 LH (Aw D__law_pieces hr (Aa (Ao Ak (pv 0) Ad (λ_ _=>rfl)) (Aa (Av (Aa (pv 2) (Aa (pv 3) (Aa (pv 6) (Aa (pv 5) Ab))))) Ab)) (by lia)) (Aw D__law_pieces hr (Aa (Ao Ak (pv 0) Ad (λ_ _=>rfl)) (Aa (Av (Aa (pv 6) (Aa (pv 3) (Aa (pv 4) (Aa (pv 5) Ab))))) Ab)) (by lia))))))))),?_⟩
  refine⟨_,rfl,b,_,rfl,SqT.of hb,rfl,_,_,rfl,_,_,rfl,_,_,rfl,_,_,rfl,rfl,?_⟩;cases t with
  |whole m =>
   rw[Told]at ht;obtain⟨a,rfl,ha⟩:=ht;refine⟨_,rfl,a,_,_,_,rfl,rfl,SqT.of ha,Bz,rfl,_,rfl,BK (decide_eq_true rfl) ?_⟩;refine⟨_,rfl,_,rfl,a,_,_,_,rfl,rfl,SqT.of ha,By,Au 2,λ ta hta=>⟨Au 1,λ l hl=>?_⟩⟩;obtain⟨H2,g,s2,e2⟩:=nw (.tup [.ref b,Bl m]) hta;rw[g] at hl |-;have s3:Same H2 (upd H2 l (.lst [.ref ta])):=Same.new hl;refine q l [(ta,b,p,m)] _ (s2.trans s3) (none_of s2 hl) upd_same (λ t ht=>?_) (by rw[BQ];rfl);rw[List.mem_singleton.mp ht];exact⟨s3 _ _ e2,s3 _ _ (s2 _ _ hb)⟩
  |cut u k y1 y2 =>
   rw[Told]at ht;obtain⟨a,v1,v2,rfl,ha,t1,t2⟩:=ht;have hd:max y1.dp y2.dp+1<n+1:=hd;have hn:y1.nd+y2.nd+1<=400:=hn;have z1:=M8 y1;have z2:=M8 y2;refine⟨_,rfl,a,_,_,_,rfl,rfl,SqT.of ha,at0,rfl,_,rfl,AZ (Eu u) ?_⟩;cases u with
   |true =>
    refine⟨_,rfl,a,_,_,_,rfl,rfl,SqT.of ha,at0,rfl,_,rfl,BK (Cu true true) ?_⟩;refine⟨_,rfl,_,rfl,a,_,_,_,rfl,rfl,SqT.of ha,at1,_,_,rfl,rfl,?_⟩;refine⟨_,rfl,a,_,_,_,rfl,rfl,SqT.of ha,at2,_,rfl,_,rfl,_,rfl,_,rfl,Au 4,λ b1 hb1=>?_⟩;obtain⟨H0,g,s0,e0⟩:=nw (.tup [.int p.t,.int p.l,.int p.b,.int (p.l+k)]) hb1;rw[g];have e0:H0 b1=some (.tup (p.fst true k).vs):=e0;refine⟨v1,y1,b1,p.fst true k,rfl,t1.same s0,e0,by lia,by lia,λ l1 ts1 H1 s1 n1 g1 c1 e1=>?_⟩;have s01:=s0.trans s1;refine⟨_,rfl,_,rfl,a,_,_,_,rfl,rfl,SqT.of (s01 _ _ ha),at3,_,rfl,_,rfl,_,rfl,_,rfl,Au 4,λ b2 hb2=>?_⟩;obtain⟨H2,g,s2,e2'⟩:=nw (.tup [.int p.t,.int (p.l+k),.int p.b,.int p.r]) hb2;rw[g];have e2':H2 b2=some (.tup (p.oth true k).vs):=e2';refine⟨v2,y2,b2,p.oth true k,rfl,(t2.same s01).same s2,e2',by lia,by lia,λ l2 ts2 H3 s3 n2 g2 c2 e2=>?_⟩;have s23:=s2.trans s3;have K5:=congrArg List.length e1;have LY:=congrArg List.length e2;rw[Dz,List.length_map]at K5 LY;refine⟨l1,l2,_,_,rfl,rfl,s23 _ _ g1,g2,Nat.le_of_lt (Ap (by rw[List.length_map,List.length_map];lia)),λ l hl=>?_⟩;have s4:Same H3 (upd H3 l (.lst (pcs ts1++pcs ts2))):=Same.new hl;exact q l (ts1++ts2) _ ((s01.trans s23).trans s4) (none_of (s01.trans s23) hl) (by rw[upd_same,MN]) (((c1.same s23).app c2).same s4) (by rw[KQ,e1,e2,BQ])
   |false =>
    refine⟨_,rfl,a,_,_,_,rfl,rfl,SqT.of ha,at0,rfl,_,rfl,AZ (Cu false true) ?_⟩;refine⟨_,rfl,_,rfl,a,_,_,_,rfl,rfl,SqT.of ha,at1,_,_,rfl,rfl,?_⟩;refine⟨_,rfl,a,_,_,_,rfl,rfl,SqT.of ha,at2,_,rfl,_,rfl,_,rfl,_,rfl,Au 4,λ b1 hb1=>?_⟩;obtain⟨H0,g,s0,e0⟩:=nw (.tup [.int p.t,.int p.l,.int (p.t+k),.int p.r]) hb1;rw[g];have e0:H0 b1=some (.tup (p.fst false k).vs):=e0;refine⟨v1,y1,b1,p.fst false k,rfl,t1.same s0,e0,by lia,by lia,λ l1 ts1 H1 s1 n1 g1 c1 e1=>?_⟩;have s01:=s0.trans s1;refine⟨_,rfl,a,_,_,_,rfl,rfl,SqT.of (s01 _ _ ha),at3,_,rfl,_,rfl,_,rfl,_,rfl,Au 4,λ b2 hb2=>?_⟩;obtain⟨H2,g,s2,e2'⟩:=nw (.tup [.int (p.t+k),.int p.l,.int p.b,.int p.r]) hb2;rw[g];have e2':H2 b2=some (.tup (p.oth false k).vs):=e2';refine⟨v2,y2,b2,p.oth false k,rfl,(t2.same s01).same s2,e2',by lia,by lia,λ l2 ts2 H3 s3 n2 g2 c2 e2=>?_⟩;have s23:=s2.trans s3;have K5:=congrArg List.length e1;have LY:=congrArg List.length e2;rw[Dz,List.length_map]at K5 LY;refine⟨l1,l2,_,_,rfl,rfl,s23 _ _ g1,g2,Nat.le_of_lt (Ap (by rw[List.length_map,List.length_map];lia)),λ l hl=>?_⟩;have s4:Same H3 (upd H3 l (.lst (pcs ts1++pcs ts2))):=Same.new hl;exact q l (ts1++ts2) _ ((s01.trans s23).trans s4) (none_of (s01.trans s23) hl) (by rw[upd_same,MN]) (((c1.same s23).app c2).same s4) (by rw[KQ,e1,e2,BQ])
theorem SubR.rfl{p:Rk}:SubR p p:=⟨Int.le_refl _,Int.le_refl _,Int.le_refl _,Int.le_refl _⟩
theorem SubR.trans{p q r:Rk}(a:SubR p q)(b:SubR q r):SubR p r:=by unfold SubR at *;lia
theorem Eo{q f o:Rk}(pq:AG q)(a:FA o f)(s1:SubR q f)(s2:SubR q o):False:=by unfold FA SubR AG at *;lia
def nds:Tr->Rk->KV
 |.whole m,p=>[(p,.w m)]
 |.cut u k x y,p=>(p,.c u k)::(nds x (p.fst u k)++nds y (p.oth u k))
theorem KP{p:Rk}{u:Bool}{k:Int}{x y:Tr}(pk:AG p)(f:BN p (.cut u k x y)):SD p (p.fst u k) (p.oth u k)/\BN (p.fst u k) x/\BN (p.oth u k) y:=by
 rw[CJ]at f;obtain⟨⟨a,b⟩,fx,fy⟩:=f;exact⟨Sv pk (by lia) b,fx,fy⟩
theorem BY:∀{t:Tr}{p:Rk},AG p->BN p t->∀x∈nds t p,SubR x.1 p/\AG x.1
 |.whole m,p,h,_,x,hx=>by
  rw[nds]at hx;rw[List.mem_singleton.mp hx];exact⟨SubR.rfl,h⟩
 |.cut u k a b,p,h,f,x,hx=>by
  obtain⟨⟨pf,po,sf,so,ao,nf,no⟩,fa,fb⟩:=KP h f;rw[nds]at hx;rcases List.mem_cons.mp hx with rfl|hx
  .exact⟨SubR.rfl,h⟩
  .rcases List.mem_append.mp hx with hx|hx
   .obtain⟨s,q⟩:=BY pf fa x hx;exact⟨s.trans sf,q⟩
   .obtain⟨s,q⟩:=BY po fb x hx;exact⟨s.trans so,q⟩
theorem Cb{t:Tr}{p q:Rk}(h:AG p)(f:BN p t)(m:q∈(nds t p).map λ x=>x.1):SubR q p/\AG q:=by
 obtain⟨x,hx,rfl⟩:=List.mem_map.mp m;exact BY h f x hx
theorem LP:∀{t:Tr}{p:Rk},AG p->BN p t->((nds t p).map λ x=>x.1).Nodup
 |.whole m,p,h,_=>by rw[nds];show([p]:List Rk).Nodup;simp
 |.cut u k a b,p,h,f=>by
  obtain⟨⟨pf,po,sf,so,ao,nf,no⟩,fa,fb⟩:=KP h f;rw[nds,List.map_cons,List.map_append,List.nodup_cons,List.nodup_append,List.mem_append];refine⟨λ z=>z.elim (λ z=>nf (SubR.eq sf (Cb pf fa z).1)) (λ z=>no (SubR.eq so (Cb po fb z).1)),LP pf fa,LP po fb,λ x hx y hy e=>?_⟩;subst e;exact Eo (Cb pf fa hx).2 ao (Cb pf fa hx).1 (Cb po fb hy).1
theorem OT:∀{t:Tr}{p q r:Rk}{m:Option Int},AG p->BN p t->(q,En.w m)∈nds t p->SubR r q->r≠q->AG r->r∉(nds t p).map λ x=>x.1
 |.whole m',p,q,r,m,h,_,hq,s,n,_=>by
  rw[nds]at hq |-;cases List.mem_singleton.mp hq;intro z;exact n (List.mem_singleton.mp z)
 |.cut u k a b,p,q,r,m,h,f,hq,s,n,pr=>by
  obtain⟨⟨pf,po,sf,so,ao,nf,no⟩,fa,fb⟩:=KP h f;rw[nds]at hq |-;rw[List.map_cons,List.map_append,List.mem_cons,List.mem_append];rcases List.mem_cons.mp hq with e|hq
  .cases e
  .rcases List.mem_append.mp hq with hq|hq
   .have sr:=s.trans (BY pf fa _ hq).1;rintro(z|z|z)
    .subst z;exact nf (SubR.eq sf sr)
    .exact OT pf fa hq s n pr z
    .exact Eo pr ao sr (Cb po fb z).1
   .have sr:=s.trans (BY po fb _ hq).1;rintro(z|z|z)
    .subst z;exact no (SubR.eq so sr)
    .exact Eo pr ao (Cb pf fa z).1 sr
    .exact OT po fb hq s n pr z
def rep(q:Rk)(s:Tr):Tr->Rk->Tr
 |.whole m,p=>if p=q then s else .whole m
 |.cut u k x y,p=>.cut u k (rep q s x (p.fst u k)) (rep q s y (p.oth u k))
theorem IX{q:Rk}{s:Tr}:∀{t:Tr}{p:Rk},q∉(nds t p).map (λ x=>x.1)->rep q s t p=t
 |.whole m,p,h=>by
  rw[nds]at h;rw[rep,if_neg (λ z=>h (List.mem_singleton.mpr z.symm))]
 |.cut u k x y,p,h=>by
  rw[nds,List.map_cons,List.map_append,List.mem_cons,List.mem_append,not_or,not_or]at h;rw[rep,IX h.2.1,IX h.2.2]
theorem L8{q:Rk}{s:Tr}{m:Option Int}(fs:BN q s):∀{t:Tr}{p:Rk},AG p->BN p t->(q,En.w m)∈nds t p->BN p (rep q s t p)/\((q,En.w m)::nds (rep q s t p) p).Perm (nds t p++nds s q)
 |.whole m',p,h,_,hq=>by
  rw[nds]at hq |-;cases List.mem_singleton.mp hq;rw[rep,if_pos rfl];exact⟨fs,List.Perm.refl _⟩
 |.cut u k a b,p,h,f,hq=>by
  obtain⟨⟨pf,po,sf,so,ao,nf,no⟩,fa,fb⟩:=KP h f;have f':=f;rw[CJ]at f';rw[nds]at hq;rcases List.mem_cons.mp hq with e|hq
  .cases e
  .rcases List.mem_append.mp hq with hq|hq
   .obtain⟨sq,pq⟩:=BY pf fa _ hq;have e:=IX (s:=s) (t:=b) (p:=p.oth u k) (q:=q) (λ z=>Eo pq ao sq (Cb po fb z).1);obtain⟨r1,r2⟩:=L8 fs pf fa hq;rw[rep,e,CJ];refine⟨⟨f'.1,r1,fb⟩,?_⟩;rw[nds,nds];refine(List.Perm.swap _ _ _).trans (List.Perm.cons _ ?_);have r3:=List.Perm.append_right (nds b (p.oth u k)) r2;refine r3.trans ?_;show _root_.List.Perm _ ((nds a (p.fst u k)++nds b (p.oth u k))++nds s q);rw[List.append_assoc,List.append_assoc];exact List.Perm.append_left _ List.perm_append_comm
   .obtain⟨sq,pq⟩:=BY po fb _ hq;have e:=IX (s:=s) (t:=a) (p:=p.fst u k) (q:=q) (λ z=>Eo pq ao (Cb pf fa z).1 sq);obtain⟨r1,r2⟩:=L8 fs po fb hq;rw[rep,e,CJ];refine⟨⟨f'.1,fa,r1⟩,?_⟩;rw[nds,nds];refine(List.Perm.swap _ _ _).trans (List.Perm.cons _ ?_);show _root_.List.Perm _ ((nds a (p.fst u k)++nds b (p.oth u k))++nds s q);rw[List.append_assoc];exact List.perm_middle.symm.trans (List.Perm.append_left _ r2)
theorem Jr{p:Rk}{e e0:En}:∀{kv:KV},(kv.map λ x=>x.1).Nodup->(p,e0)∈kv->((p,e0)::kv.map λ x=>if x.1=p then (p,e) else x).Perm ((p,e)::kv)
 |y::r,nd,h=>by
  rw[List.map_cons,List.nodup_cons]at nd;rw[List.map_cons];rcases List.mem_cons.mp h with rfl|h
  .have e1:(r.map λ x=>if x.1=p then (p,e) else x)=r:=by
    conv=>rhs;rw[<-List.map_id r]
    apply List.map_congr_left;intro x hx;rw[if_neg (λ z=>nd.1 (List.mem_map.mpr ⟨x,hx,z⟩))];rfl
   rw[e1,if_pos rfl];exact List.Perm.swap _ _ _
  .rw[if_neg (λ z=>nd.1 (List.mem_map.mpr ⟨_,h,z.symm⟩))];exact(List.Perm.swap _ _ _).trans (((Jr nd.2 h).cons y).trans (List.Perm.swap _ _ _))
structure LvQ(kv0:KV)(q:Rk)(kv:KV)(p:Rk)(L R:KV):Prop where
 pp:AG p
 nd:(kv.map λ x=>x.1).Nodup
 fr:∀r,SubR r p->r≠p->AG r->r∉kv.map λ x=>x.1
 at_:(kv=kv0/\p=q/\L=[]/\R=[])\/(((q,En.w none)::kv).Perm (kv0++(L++R))/\p∉kv.map λ x=>x.1)
theorem Gq{A B L R:KV}{x:Rk×En}(h:A.Perm (B++(L++R))):(A++[x]).Perm (B++(L++x::R)):=by
 refine(List.Perm.append_right _ h).trans ?_;rw[List.append_assoc,List.append_assoc];refine List.Perm.append_left _ (List.Perm.append_left _ ?_);exact List.perm_append_comm
theorem LvQ.step{kv0 kv:KV}{q p:Rk}{L R:KV}{u:Bool}{k:Int}(h:LvQ kv0 q kv p L R)(hq:(q,En.w none)∈kv0)(h0:0<k)(h1:k<p.len u) :
  LvQ kv0 q (Bs (Bs kv p (.c u k)) (p.oth u k) (.w none)) (p.fst u k) (L++[(p,.c u k)]) ((p.oth u k,.w none)::R):=by
 obtain⟨pf,po,sf,so,ao,nf,no⟩:=Sv (u:=u) h.pp h0 h1;generalize p.fst u k=f at pf sf ao nf |-;generalize p.oth u k=o at po so ao no |-;have kk:∀{r:Rk},r∈(Bs kv p (.c u k)).map (λ x=>x.1)->r=p\/r∈kv.map λ x=>x.1:=λ{r} hr=>by
  obtain⟨x,hx,rfl⟩:=List.mem_map.mp hr;rcases mem_putE.mp hx with rfl|⟨hx,_⟩
  .exact .inl rfl
  .exact .inr (List.mem_map.mpr ⟨x,hx,rfl⟩)
 have on:o∉(Bs kv p (.c u k)).map λ x=>x.1:=λ z=>(kk z).elim no (h.fr o so no po);have nfo:f≠o:=λ z=>by rw[<-z]at ao;exact Eo pf ao SubR.rfl SubR.rfl
 rw[CD on];have fn:∀{r:Rk},SubR r f->AG r->r∉(Bs kv p (.c u k)++[(o,En.w none)]).map λ x=>x.1:=λ{r} sr pr z=>by
  rw[List.map_append,List.mem_append]at z;have srp:=sr.trans sf;have rp:r≠p:=λ e=>nf (SubR.eq sf (by rw[<-e];exact sr));rcases z with z|z
  .exact(kk z).elim rp (h.fr r srp rp pr)
  .have z:r=o:=List.mem_singleton.mp z;subst z;exact Eo pr ao sr SubR.rfl
 have e1:((q,En.w none)::Bs kv p (.c u k)).Perm (kv0++(L++(p,.c u k)::R)):=by
  rcases h.at_ with ⟨rfl,rfl,rfl,rfl⟩|⟨pm,hn⟩
  .rw[E2 (List.mem_map.mpr ⟨_,hq,rfl⟩)];exact(Jr h.nd hq).trans (List.perm_append_comm (l₁:=[_]))
  .rw[CD hn];exact Gq (A:=(q,En.w none)::kv) pm
 refine⟨pf,?_,λ r sr rn pr=>fn sr pr,.inr ⟨?_,fn SubR.rfl pf⟩⟩
 .have:=MG (p:=o) (e:=En.w none) (MG (p:=p) (e:=En.c u k) h.nd);rwa [CD on]at this
 .have e2:=Gq (x:=(o,En.w none)) (A:=(q,En.w none)::Bs kv p (.c u k)) (B:=kv0) (L:=L++[(p,.c u k)]) (R:=R) (by rw[List.append_assoc];exact e1);exact e2
theorem LvQ.fin{kv0 kv:KV}{q p:Rk}{L R:KV}{n:Int}(h:LvQ kv0 q kv p L R)(hq:(q,En.w none)∈kv0):((q,En.w none)::Bs kv p (.w (some n))).Perm (kv0++(L++(p,.w (some n))::R)):=by
 rcases h.at_ with ⟨rfl,rfl,rfl,rfl⟩|⟨pm,hn⟩
 .rw[E2 (List.mem_map.mpr ⟨_,hq,rfl⟩)];exact(Jr h.nd hq).trans (List.perm_append_comm (l₁:=[_]))
 .rw[CD hn];exact Gq (A:=(q,En.w none)::kv) pm
def NT(q:Rk)(z:Int×Int)(n:Int):Tr:=if z.2<q.len false then .cut false z.2 (.whole (some n)) (.whole none) else .whole (some n)
def D5(q:Rk)(z:Int×Int)(n:Int):Tr:=if z.1<q.len true then .cut true z.1 (NT q z n) (.whole none) else NT q z n
theorem KM{q p:Rk}{z:Int×Int}{n:Int}(h:p.len false=q.len false)(z2:0<z.2):BN p (NT q z n):=by
 unfold NT;split
 .rw[CJ];exact⟨⟨by lia,by rw[h];assumption⟩,by unfold BN;rw[Fit];trivial,by unfold BN;rw[Fit];trivial⟩
 .unfold BN;rw[Fit];trivial
theorem Pf{q:Rk}{z:Int×Int}{n:Int}(z1:0<z.1)(z2:0<z.2):BN q (D5 q z n):=by
 unfold D5;split
 .rw[CJ];exact⟨⟨by lia,by assumption⟩,KM rfl z2,by unfold BN;rw[Fit];trivial⟩
 .exact KM rfl z2
theorem Oa{kv:KV}{q:Rk}{z:Int×Int}{n:Int}(pq:AG q)(nd:(kv.map λ x=>x.1).Nodup)(fr:∀r,SubR r q->r≠q->AG r->r∉kv.map λ x=>x.1)(hq:(q,En.w none)∈kv)(z1:0<z.1)(z2:0<z.2):((q,En.w none)::Be kv q z n).Perm (kv++nds (D5 q z n) q):=by
 have l0:LvQ kv q kv q [] []:=⟨pq,nd,fr,.inl ⟨rfl,rfl,rfl,rfl⟩⟩;unfold Be D7 D5 NT;by_cases c1:z.1<q.len true
 .have e1:BR true z.1 (kv,q)=(Bs (Bs kv q (.c true z.1)) (q.oth true z.1) (.w none),q.fst true z.1):=by unfold BR;rw[if_pos c1]
  rw[e1,if_pos c1];have l1:=l0.step hq z1 c1;generalize Bs (Bs kv q (.c true z.1)) (q.oth true z.1) (.w none)=kv1 at l1 |-;by_cases c2:z.2<q.len false
  .have e2:BR false z.2 (kv1,q.fst true z.1)=(Bs (Bs kv1 (q.fst true z.1) (.c false z.2)) ((q.fst true z.1).oth false z.2) (.w none),(q.fst true z.1).fst false z.2):=by unfold BR;rw[if_pos (show z.2<(q.fst true z.1).len false from c2)]
   rw[e2,if_pos c2];exact(l1.step (u:=false) hq z2 c2).fin hq
  .have e2:BR false z.2 (kv1,q.fst true z.1)=(kv1,q.fst true z.1):=by unfold BR;rw[if_neg (show ¬z.2<(q.fst true z.1).len false from c2)]
   rw[e2,if_neg c2];exact l1.fin hq
 .have e1:BR true z.1 (kv,q)=(kv,q):=by unfold BR;rw[if_neg c1]
  rw[e1,if_neg c1];by_cases c2:z.2<q.len false
  .have e2:BR false z.2 (kv,q)=(Bs (Bs kv q (.c false z.2)) (q.oth false z.2) (.w none),q.fst false z.2):=by unfold BR;rw[if_pos c2]
   rw[e2,if_pos c2];exact(l0.step hq z2 c2).fin hq
  .have e2:BR false z.2 (kv,q)=(kv,q):=by unfold BR;rw[if_neg c2]
   rw[e2,if_neg c2];exact l0.fin hq
structure ShT(kv:KV)(p:Rk)(r:Tr):Prop where
 pm:kv.Perm (nds r p)
 ft:BN p r
theorem ShT.nd{kv:KV}{p:Rk}{r:Tr}(h:ShT kv p r)(pk:AG p):(kv.map λ x=>x.1).Nodup:=(h.pm.map _).nodup_iff.mpr (LP pk h.ft)
theorem ShT.cut{kv:KV}{p q:Rk}{r:Tr}{z:Int×Int}{n:Int}(h:ShT kv p r)(pk:AG p)(hq:(q,En.w none)∈kv)(z1:0<z.1)(z2:0<z.2):ShT (Be kv q z n) p (rep q (D5 q z n) r p)/\((q,En.w none)::Be kv q z n).Perm (kv++nds (D5 q z n) q):=by
 have hq':=h.pm.mem_iff.mp hq;obtain⟨sq,pq⟩:=BY pk h.ft _ hq';obtain⟨r1,r2⟩:=L8 (Pf (q:=q) (n:=n) z1 z2) pk h.ft hq';have e:=Oa (n:=n) pq (h.nd pk) (λ r s n' pr z=>OT pk h.ft hq' s n' pr ((h.pm.map _).mem_iff.mp z)) hq z1 z2;exact⟨⟨List.Perm.cons_inv (e.trans ((List.Perm.append_right _ h.pm).trans r2.symm)),r1⟩,e⟩
theorem GJ{q:Rk}{e:En}:∀{kv:KV},(kv.map λ x=>x.1).Nodup->(q,e)∈kv->Mh kv q=e
 |y::r,nd,h=>by
  rw[List.map_cons,List.nodup_cons]at nd;rw[Mh];rcases List.mem_cons.mp h with rfl|h
  .rw[if_pos rfl]
  .rw[if_neg (λ z=>nd.1 (List.mem_map.mpr ⟨_,h,(IW z).symm⟩))];exact GJ nd.2 h
theorem Jy{kv:KV}(nd:(kv.map λ x=>x.1).Nodup):∀{t:Tr}{p:Rk},(∀x∈nds t p,x∈kv)->Lp (Mh kv) (λ q=>∃e,(q,e)∈kv) t p
 |.whole m,p,h=>by
  have:=h (p,.w m) (by rw[nds];exact List.mem_singleton.mpr rfl);exact⟨⟨_,this⟩,GJ nd this⟩
 |.cut u k x y,p,h=>by
  have:=h (p,.c u k) (by rw[nds];exact List.mem_cons_self);exact⟨⟨_,this⟩,GJ nd this,Jy nd λ z hz=>h z (by rw[nds];exact List.mem_cons_of_mem _ (List.mem_append_left _ hz)),Jy nd λ z hz=>h z (by rw[nds];exact List.mem_cons_of_mem _ (List.mem_append_right _ hz))⟩
theorem FC(i:Int):∀(t:Tr)(p:Rk),wh1 i (nds t p)=(BQ t p).map λ g=>(i,g.1,g.2)
 |.whole m,p=>rfl
 |.cut u k x y,p=>by
  rw[nds,BQ,List.map_append,<-FC i x,<-FC i y];exact M5 i _ _
theorem FT{i:Int}{a b:KV}(h:a.Perm b):(wh1 i a).Perm (wh1 i b):=h.filterMap _
theorem ShT.pcs{kv:KV}{p:Rk}{r:Tr}(h:ShT kv p r)(i:Int):(wh1 i kv).Perm ((BQ r p).map λ g=>(i,g.1,g.2)):=by
 rw[<-FC];exact FT h.pm
theorem Dw:∀{t:Tr}{p:Rk}{g:Rk×Option Int},g∈BQ t p->(g.1,En.w g.2)∈nds t p
 |.whole m,p,g,h=>by rw[BQ]at h;rw[nds,List.mem_singleton.mp h];exact List.mem_singleton.mpr rfl
 |.cut u k x y,p,g,h=>by
  rw[BQ]at h;rw[nds];exact List.mem_cons_of_mem _ (List.mem_append.mpr ((List.mem_append.mp h).imp Dw Dw))
theorem GA:∀{t:Tr}{p:Rk},AG p->BN p t->(BQ t p).Pairwise λ a b=>FA b.1 a.1
 |.whole m,p,_,_=>by rw[BQ];exact List.pairwise_singleton _ _
 |.cut u k x y,p,h,f=>by
  obtain⟨⟨pf,po,sf,so,ao,nf,no⟩,fa,fb⟩:=KP h f;rw[BQ,List.pairwise_append];refine⟨GA pf fa,GA po fb,λ a ha b hb=>?_⟩;have s1:=(BY pf fa _ (Dw ha)).1;have s2:=(BY po fb _ (Dw hb)).1;unfold FA SubR at *;dsimp only at s1 s2;lia
theorem R4(p:Rk)(u:Bool)(k:Int):arR (p.fst u k)+arR (p.oth u k)=arR p:=by
 cases u with
 |true =>
  show(p.b-p.t)*(p.l+k-p.l)+(p.b-p.t)*(p.r-(p.l+k))=(p.b-p.t)*(p.r-p.l);rw[<-Int.mul_add];congr 1;lia
 |false =>
  show(p.t+k-p.t)*(p.r-p.l)+(p.b-(p.t+k))*(p.r-p.l)=(p.b-p.t)*(p.r-p.l);rw[<-Int.add_mul];congr 1;lia
theorem FM:∀(t:Tr)(p:Rk),BS ((BQ t p).map (·.1))=arR p
 |.whole m,p=>by show arR p+0=_;rw[Int.add_zero]
 |.cut u k x y,p=>by rw[BQ,List.map_append,KY,FM x,FM y,R4]
theorem ME{z:Int×Int}(h:SOk z):AG (shR z):=by
 obtain⟨a,b,c,d⟩:=h;exact⟨Int.le_refl _,show(0:Int)<z.2 by lia,show z.2<=12 by lia,Int.le_refl _,show(0:Int)<z.1 by lia,show z.1<=12 by lia⟩
def mkO(L:LR):List (Int×Int×Rk):=L.filterMap λ x=>match x.2.2 with
 |some n=>some (n,x.1,x.2.1)
 |none=>none
def enP:Int->LK->List (Int×Int×Rk)
 |_,[]=>[]
 |k,y::r=>(k,y.1,y.2)::enP (k+1) r
theorem JA:∀(k:Int)(P:LK)(y:Int×Rk),enP k (P++[y])=enP k P++[(k+P.length,y.1,y.2)]
 |k,[],y=>by show[(k,y.1,y.2)]=[(k+((0:Nat):Int),y.1,y.2)];rw[show k+((0:Nat):Int)=k by lia]
 |k,x::r,y=>by
  show(k,x.1,x.2)::enP (k+1) (r++[y])=_;rw[JA,show k+1+(r.length:Int)=k+((x::r).length:Int) by rw[List.length_cons];lia];rfl
theorem J9:∀(k:Int)(P:LK),(enP k P).length=P.length
 |_,[]=>rfl
 |k,y::r=>by rw[enP,List.length_cons,J9,List.length_cons]
theorem Pe:∀{k:Int}{P:LK}{i:Nat}{y:Int×Rk},P[i]?=some y->(enP k P)[i]?=some (k+i,y.1,y.2)
 |k,x::r,0,y,h=>by cases h;rw[enP];show some (k,x.1,x.2)=_;rw[show k+((0:Nat):Int)=k by lia]
 |k,x::r,i+1,y,h=>by
  rw[enP];have:=Pe (k:=k+1) (P:=r) (i:=i) (y:=y) h;show(enP (k+1) r)[i]?=_;rw[this,show k+1+(i:Int)=k+((i+1:Nat):Int) by lia]
theorem J2:∀(k:Int)(P:LK),(enP k P).map (λ x=>x.2.2)=P.map (λ y=>y.2)
 |_,[]=>rfl
 |k,y::r=>by rw[enP,List.map_cons,List.map_cons,J2]
theorem FJ(a b:LR):mkO (a++b)=mkO a++mkO b:=by unfold mkO;rw[List.filterMap_append]
theorem E8:∀(L:LR),Bg L=(mkO L).map λ x=>x.2.2
 |[]=>rfl
 | (i,p,none)::r=>by show Bg r=(mkO r).map _;exact E8 r
 | (i,p,some n)::r=>by show p::Bg r=p::(mkO r).map _;rw[E8 r]
theorem GP:∀(L:LR),BS (L.map λ x=>x.2.1)=BS (Bg L)+BS ((A9 L).map (·.2))
 |[]=>rfl
 | (i,p,none)::r=>by
  show arR p+BS (r.map λ x=>x.2.1)=BS (Bg r)+(arR p+BS ((A9 r).map (·.2)));rw[GP r];lia
 | (i,p,some n)::r=>by
  show arR p+BS (r.map λ x=>x.2.1)=(arR p+BS (Bg r))+BS ((A9 r).map (·.2));rw[GP r];lia
theorem KL{q:Rk}{z:Int×Int}{n:Int}(i:Int)(h1:z.1<=q.len true)(h2:z.2<=q.len false):mkO (wh1 i (nds (D5 q z n) q))=[(n,i,pnN (i,q) z)]/\(nds (D5 q z n) q).length<=5/\(wh1 i (nds (D5 q z n) q)).length<=3:=by
 have ep:pnN (i,q) z=(q.fst true z.1).fst false z.2:=rfl;have l2:(q.fst true z.1).len false=q.len false:=rfl;rw[FC];unfold D5 NT;by_cases c1:z.1<q.len true
 .rw[if_pos c1];by_cases c2:z.2<q.len false
  .rw[if_pos c2];exact⟨rfl,Nat.le_refl _,Nat.le_refl _⟩
  .rw[if_neg c2,ep,FN (p:=q.fst true z.1) (u:=false) c2 h2];exact⟨rfl,show 3<=5 by decide,show 2<=3 by decide⟩
 .rw[if_neg c1,ep,FN c1 h1];by_cases c2:z.2<q.len false
  .rw[if_pos c2];exact⟨rfl,show 3<=5 by decide,show 2<=3 by decide⟩
  .rw[if_neg c2,FN c2 h2];exact⟨rfl,show 1<=5 by decide,show 1<=3 by decide⟩
abbrev Sh1:=Int×KV×Tr
structure BT(zs:LI)(M:List Sh1)(P:LK):Prop where
 sh:∀x∈M,0<=x.1/\x.1<zs.length/\ShT x.2.1 (shR (zOf zs x.1)) x.2.2
 mo:(mkO (whs 0 (M.map λ x=>x.2.1))).Perm (enP 0 P)
theorem BT.num{zs:LI}{M:List Sh1}{P:LK}(h:BT zs M P):(Bg (whs 0 (M.map λ x=>x.2.1))).length=P.length:=by
 rw[E8,List.length_map,h.mo.length_eq,J9]
theorem BT.old{zs:LI}{M:List Sh1}{P:LK}{y:Int×Rk}{x:Sh1}{z:Int×Int}(h:BT zs M P)(so:∀z∈zs,SOk z)(hx:M[y.1.toNat]?=some x)(hy:y∈A9 (whs 0 (M.map λ x=>x.2.1)))(z1:0<z.1)(z2:0<z.2)(h1:z.1<=y.2.len true)(h2:z.2<=y.2.len false) :
  ∃r,BT zs (M.set y.1.toNat (x.1,Be x.2.1 y.2 z P.length,r)) (P++[(y.1,pnN y z)])/\(Be x.2.1 y.2 z P.length).length<=x.2.1.length+4/\(whs 0 ((M.set y.1.toNat (x.1,Be x.2.1 y.2 z P.length,r)).map λ x=>x.2.1)).length<=(whs 0 (M.map λ x=>x.2.1)).length+2:=by
 obtain⟨i,q⟩:=y;obtain⟨j,kv,hj,ej,hq⟩:=mem_whs.mp (mem_off.mp hy);have ej:i=0+(j:Int):=ej;have ej':i.toNat=j:=by lia
 have hx:M[i.toNat]?=some x:=hx;dsimp only at h1 h2 hq |-;rw[ej']at hx |-;rw[List.getElem?_map,hx]at hj;cases hj;obtain⟨k0,k1,st⟩:=h.sh x (List.mem_of_getElem? hx);have pk:=ME (so _ (List.mem_of_getElem? (Fm ⟨k0,k1⟩)));obtain⟨c1,c2⟩:=st.cut (n:=(P.length:Int)) pk hq z1 z2;obtain⟨g1,g2,g3⟩:=KL (n:=(P.length:Int)) (0+(j:Int)) h1 h2;have hj':(M.map λ x=>x.2.1)[j]?=some x.2.1:=by rw[List.getElem?_map,hx];rfl
 have em:(M.set j (x.1,Be x.2.1 q z P.length,rep q (D5 q z P.length) x.2.2 (shR (zOf zs x.1)))).map (λ x=>x.2.1)=(M.map λ x=>x.2.1).set j (Be x.2.1 q z P.length):=by rw[List.map_set]
 have pw:=M4 (i:=0) (X:=[(0+(j:Int),q,none)]) (Y:=wh1 (0+(j:Int)) (nds (D5 q z P.length) q)) (kv':=Be x.2.1 q z P.length) hj' (by
  have:=FT (i:=0+(j:Int)) c2;rw[M5]at this;exact this)
 refine⟨rep q (D5 q z P.length) x.2.2 (shR (zOf zs x.1)),⟨λ y hy=>?_,?_⟩,?_,?_⟩
 .rcases List.mem_or_eq_of_mem_set hy with hy|rfl
  .exact h.sh y hy
  .exact⟨k0,k1,c1⟩
 .rw[em,JA,ej];have pw':(mkO (whs 0 ((M.map λ x=>x.2.1).set j (Be x.2.1 q z P.length)))).Perm (mkO (whs 0 (M.map λ x=>x.2.1)++wh1 (0+(j:Int)) (nds (D5 q z P.length) q))):=by
   have:=pw.filterMap λ x:Int×Rk×Option Int=>match x.2.2 with
    |some n=>some (n,x.1,x.2.1)
    |none=>none
   exact this
  rw[FJ,g1]at pw';refine pw'.trans ?_;rw[show(0:Int)+(P.length:Int)=P.length by lia];exact List.Perm.append_right _ h.mo
 .have:=c2.length_eq;rw[List.length_cons,List.length_append]at this;lia
 .rw[em];have:=pw.length_eq;rw[List.length_append,List.length_append,List.length_singleton]at this;lia
theorem BT.new{zs:LI}{M:List Sh1}{P:LK}{k:Nat}{z0 z:Int×Int}(h:BT zs M P)(so:∀z∈zs,SOk z)(hk:zs[k]?=some z0)(z1:0<z.1)(z2:0<z.2)(h1:z.1<=z0.1)(h2:z.2<=z0.2) :
  ∃r,BT zs (M++[((k:Int),Be [(shR z0,.w none)] (shR z0) z P.length,r)]) (P++[((M.length:Int),pnN ((M.length:Int),shR z0) z)])/\(Be [(shR z0,.w none)] (shR z0) z P.length).length<=5/\(whs 0 ((M++[((k:Int),Be [(shR z0,.w none)] (shR z0) z P.length,r)]).map λ x=>x.2.1)).length<=(whs 0 (M.map λ x=>x.2.1)).length+3:=by
 have pk:=ME (so _ (List.mem_of_getElem? hk));have st:ShT [(shR z0,En.w none)] (shR z0) (.whole none):=⟨List.Perm.refl _,by unfold BN;rw[Fit];trivial⟩;obtain⟨c1,c2⟩:=st.cut (n:=(P.length:Int)) pk (List.mem_singleton.mpr rfl) z1 z2;have c3:(Be [(shR z0,En.w none)] (shR z0) z P.length).Perm (nds (D5 (shR z0) z P.length) (shR z0)):=List.Perm.cons_inv c2;obtain⟨g1,g2,g3⟩:=KL (q:=shR z0) (n:=(P.length:Int)) (0+(M.length:Int)) (show z.1<=z0.1-0 by lia) (show z.2<=z0.2-0 by lia);have w3:=FT (i:=0+(M.length:Int)) c3;have ez:zOf zs (k:Int)=z0:=by unfold zOf;rw[Int.toNat_natCast,hk];rfl
 have em:∀r,(M++[((k:Int),Be [(shR z0,En.w none)] (shR z0) z P.length,r)]).map (λ x:Sh1=>x.2.1)=M.map (λ x=>x.2.1)++[Be [(shR z0,En.w none)] (shR z0) z P.length]:=λ r=>by rw[List.map_append];rfl
 refine⟨rep (shR z0) (D5 (shR z0) z P.length) (.whole none) (shR z0),⟨λ y hy=>?_,?_⟩,?_,?_⟩
 .rcases List.mem_append.mp hy with hy|hy
  .exact h.sh y hy
  .rw[List.mem_singleton.mp hy];exact⟨by show(0:Int)<=(k:Int);lia,by show(k:Int)<_;have:=(List.getElem?_eq_some_iff.mp hk).1;lia,by show ShT _ (shR (zOf zs (k:Int))) _;rw[ez];exact c1⟩
 .rw[em,Et,FJ,JA,List.length_map];have pw':(mkO (wh1 (0+(M.length:Int)) (Be [(shR z0,En.w none)] (shR z0) z P.length))).Perm (mkO (wh1 (0+(M.length:Int)) (nds (D5 (shR z0) z P.length) (shR z0)))):=w3.filterMap _;rw[g1]at pw';rw[show(0:Int)+(P.length:Int)=P.length by lia];refine List.Perm.append h.mo ?_;rw[show(0:Int)+(M.length:Int)=M.length by lia]at pw' |-;exact pw'
 .rw[c3.length_eq];exact g2
 .rw[em,Et,List.length_append,List.length_map,w3.length_eq];lia
def tg(zs:LI):Int->List Sh1->LR
 |_,[]=>[]
 |i,x::l=>(BQ x.2.2 (shR (zOf zs x.1))).map (λ g=>(i,g.1,g.2))++tg zs (i+1) l
theorem FD{zs:LI}:∀{i:Int}{M:List Sh1},(∀x∈M,ShT x.2.1 (shR (zOf zs x.1)) x.2.2)->(tg zs i M).Perm (whs i (M.map λ x=>x.2.1))
 |_,[],_=>List.Perm.refl _
 |i,x::l,h=>List.Perm.append ((h x List.mem_cons_self).pcs i).symm (FD λ y hy=>h y (List.mem_cons_of_mem _ hy))
theorem Ov{zs:LI}:∀(i:Int)(M:List Sh1),BS ((tg zs i M).map λ x=>x.2.1)=((M.map λ x=>zOf zs x.1).map λ z=>z.2*z.1).sum
 |_,[]=>rfl
 |i,x::l=>by
  have e:((BQ x.2.2 (shR (zOf zs x.1))).map λ g=>(i,g.1,g.2)).map (λ x:Int×Rk×Option Int=>x.2.1)=(BQ x.2.2 (shR (zOf zs x.1))).map (·.1):=by rw[List.map_map];rfl
  rw[tg,List.map_append,KY,Ov (i+1) l,e,FM];show arR (shR (zOf zs x.1))+_=(zOf zs x.1).2*(zOf zs x.1).1+_;rw[show arR (shR (zOf zs x.1))=(zOf zs x.1).2*(zOf zs x.1).1 by show((zOf zs x.1).2-0)*((zOf zs x.1).1-0)=_;rw[Int.sub_zero,Int.sub_zero]];rfl
theorem Ow(zs:LI):∀(i:Int)(a:List Sh1)(x:Sh1),tg zs i (a++[x])=tg zs i a++(BQ x.2.2 (shR (zOf zs x.1))).map λ g=>(i+a.length,g.1,g.2)
 |i,[],x=>by show _++[]=_;rw[List.append_nil];show _=[]++_;rw[List.nil_append,show i+(([]:List Sh1).length:Int)=i by show i+((0:Nat):Int)=i;lia]
 |i,y::r,x=>by
  show _++tg zs (i+1) (r++[x])=(_++tg zs (i+1) r)++_;rw[Ow,List.append_assoc,show i+1+(r.length:Int)=i+((y::r).length:Int) by rw[List.length_cons];lia]
inductive Hg(vs:LUz)(H:Hp)(Q:VK)(E:XK):Prop
 |mk (a b:Addr) (p q:Rk) (h0:vs=[.ref a,.ref b]) (h1:H a=some (.tup p.vs)) (h2:H b=some (.tup q.vs)) (h3:FA p q) (h4:Q (.bl true) H):Hg vs H Q E
def HS:Sp:=λ vs H Q E=>Hg vs H Q E
theorem Lg:Aq ["_law_one","_law_other"] ["_law_one","_law_other"] (Ag CS):=fsc
theorem Jl{f:Addr}{fd:FuncData}(F:Fun K "_law_apart" "_law_apart" CS f fd):A8 P w K mg base CX0 1 f fd ["_law_one","_law_other"] HS:=by
 have S:=Lg;refine F.ok S (λ vs H Q E h=>?_) (λ cdv A outer s H vs Q E hr h=>?_)
 .obtain⟨a,b,p,q,rfl,_⟩:=h;rfl
 .obtain⟨a,b,p,q,rfl,ha,hb,ap,qq⟩:=h;refine⟨_,(Ah (Ar (OA (Cr CG (Ao Ak (pv 0) Ad (λ_ _=>rfl)) (Ao Ak (pv 1) Ad (λ_ _=>rfl)) (Az _)) (OA (Cr CG (Ao Ak (pv 1) Ad (λ_ _=>rfl)) (Ao Ak (pv 0) Ad (λ_ _=>rfl)) (Az _)) (OA (Cr CG (Ao Ak (pv 0) Ad (λ_ _=>rfl)) (Ao Ak (pv 1) Ad (λ_ _=>rfl)) (Az _)) (Du (Cr CG (Ao Ak (pv 1) Ad (λ_ _=>rfl)) (Ao Ak (pv 0) Ad (λ_ _=>rfl)) (Az _)))))))),?_⟩;have sa:=SqT.of (K:=K) ha;have sb:=SqT.of (K:=K) hb;refine⟨_,rfl,a,_,_,_,rfl,rfl,sa,at2,_,rfl,b,_,_,_,rfl,rfl,sb,at0,_,_,rfl,rfl,_,rfl,Ef (λ_=>qq) (λ c1=>?_)⟩;refine⟨_,rfl,b,_,_,_,rfl,rfl,sb,at2,_,rfl,a,_,_,_,rfl,rfl,sa,at0,_,_,rfl,rfl,_,rfl,Ef (λ_=>qq) (λ c2=>?_)⟩;refine⟨_,rfl,a,_,_,_,rfl,rfl,sa,at3,_,rfl,b,_,_,_,rfl,rfl,sb,at1,_,_,rfl,rfl,_,rfl,Ef (λ_=>qq) (λ c3=>?_)⟩;refine⟨_,rfl,b,_,_,_,rfl,rfl,sb,at3,_,rfl,a,_,_,_,rfl,rfl,sa,at1,_,_,rfl,rfl,?_⟩;have c1:=of_decide_eq_false c1;have c2:=of_decide_eq_false c2;have c3:=of_decide_eq_false c3;show Q (.bl (decide (q.r<=p.l))) H;rw[decide_eq_true (show q.r<=p.l by unfold FA at ap;lia)];exact qq
inductive ID(n:Nat)(vs:LUz)(H:Hp)(Q:VK)(E:XK):Prop
 |mk (v:V) (t:Tr) (ww hh:Int) (h0:vs=[v,.int ww,.int hh]) (h1:Told H t v) (h2:Fit t ww hh) (h3:t.dp<n) (h4:Q (.bl true) H):ID n vs H Q E
def Dj(n:Nat) :Sp:=λ vs H Q E=>ID n vs H Q E
theorem Rm{vs:LUz}{H:Hp}{Q:VK}{E:XK}:¬Dj 0 vs H Q E:=by
 rintro⟨v,t,a,p,_,_,_,h,_⟩;lia
theorem GR:Aq ["_law_told_here","_law_width","_law_height","_law_at"] ["_law_told_here","_law_width","_law_height"] (Ag Do):=fsc
theorem Ko{f:Addr}{fd:FuncData}{n:Nat}(F:Fun K "_law_fits" "_law_fits" Do f fd)(D__law_fits:A5 P w K mg base (n+3) "_law_fits" ["_law_told_here","_law_width","_law_height"] (Dj n)):A8 P w K mg base CX0 (n+4) f fd ["_law_told_here","_law_width","_law_height"] (Dj (n+1)):=by
 have S:=GR;refine F.ok S (λ vs H Q E h=>?_) (λ cdv A outer s H vs Q E hr h=>?_)
 .obtain⟨v,t,a,p,rfl,_⟩:=h;rfl
 .obtain⟨v,t,ww,hh,rfl,ht,ft,hd,q⟩:=h;refine⟨_,(Ac (AJ (Ax CH (Ao Ak (pv 0) Ad (λ_ _=>rfl)) Bw (Az _)) (Ah (Ar HY)) Ay)
   (Ac (As (i:=3) S.nd rfl (Or.inl rfl) (Ao Ak (pv 0) Ad (λ_ _=>rfl)))
   (Ac (AJ (Ax CH (Ao Ak (pv 0) Ad (λ_ _=>rfl)) Bw (Az _)) (Ah (Ar (CY (Gs CG Ia Ad (pv 3) (pv 1)) (CY (Aw D__law_fits hr (Aa (Ao Ak (pv 0) Ad (λ_ _=>rfl)) (Aa (pv 3) (Aa (pv 2) Ab))) (by lia)) (Du (Aw D__law_fits hr (Aa (Ao Ak (pv 0) Ad (λ_ _=>rfl)) (Aa (A6 BX (pv 1) (pv 3)) (Aa (pv 2) Ab))) (by lia))))))) Ay)
   (Ah (Ar (CY (Gs CG Ia Ad (pv 3) (pv 2)) (CY (Aw D__law_fits hr (Aa (Ao Ak (pv 0) Ad (λ_ _=>rfl)) (Aa (pv 1) (Aa (pv 3) Ab))) (by lia)) (Du (Aw D__law_fits hr (Aa (Ao Ak (pv 0) Ad (λ_ _=>rfl)) (Aa (pv 1) (Aa (A6 BX (pv 2) (pv 3)) Ab))) (by lia)))))))))),?_⟩
  cases t with
  |whole m =>
   rw[Told]at ht;obtain⟨a,rfl,ha⟩:=ht;exact⟨_,rfl,a,_,_,_,rfl,rfl,SqT.of ha,Bz,rfl,_,rfl,BK (decide_eq_true rfl) q⟩
  |cut u k y1 y2 =>
   rw[Told]at ht;obtain⟨a,v1,v2,rfl,ha,t1,t2⟩:=ht;have hd:max y1.dp y2.dp+1<n+1:=hd;have sa:=SqT.of (K:=K) ha;refine⟨_,rfl,a,_,_,_,rfl,rfl,sa,at0,rfl,_,rfl,AZ (Eu u) ?_⟩;refine⟨_,rfl,a,_,_,_,rfl,rfl,sa,at1,?_⟩;rw[Fit]at ft;cases u with
   |true =>
    rw[if_pos rfl]at ft;obtain⟨f1,f2,f3,f4⟩:=ft;refine⟨_,rfl,a,_,_,_,rfl,rfl,sa,at0,rfl,_,rfl,BK (Cu true true) ?_⟩;refine⟨_,rfl,_,_,rfl,rfl,_,rfl,BK (decide_eq_true f1) ⟨_,rfl,_,_,rfl,rfl,_,rfl,BK (decide_eq_true f2) ?_⟩⟩;refine⟨_,rfl,a,_,_,_,rfl,rfl,sa,at2,_,rfl,_,rfl,v1,y1,_,_,rfl,t1,f3,by lia,_,rfl,BK rfl ?_⟩;exact⟨_,rfl,a,_,_,_,rfl,rfl,sa,at3,_,rfl,_,rfl,_,_,rfl,rfl,_,rfl,v2,y2,_,_,rfl,t2,f4,by lia,q⟩
   |false =>
    rw[if_neg Bool.false_ne_true]at ft;obtain⟨f1,f2,f3,f4⟩:=ft;refine⟨_,rfl,a,_,_,_,rfl,rfl,sa,at0,rfl,_,rfl,AZ (Cu false true) ?_⟩;refine⟨_,rfl,_,_,rfl,rfl,_,rfl,BK (decide_eq_true f1) ⟨_,rfl,_,_,rfl,rfl,_,rfl,BK (decide_eq_true f2) ?_⟩⟩;refine⟨_,rfl,a,_,_,_,rfl,rfl,sa,at2,_,rfl,_,rfl,v1,y1,_,_,rfl,t1,f3,by lia,_,rfl,BK rfl ?_⟩;exact⟨_,rfl,a,_,_,_,rfl,rfl,sa,at3,_,rfl,_,rfl,_,rfl,_,_,rfl,rfl,v2,y2,_,_,rfl,t2,f4,by lia,q⟩
abbrev Sm1:=Addr×Addr×Int×Rk×Option Int
def SmAt(H:Hp)(y:Sm1):Prop:=H y.1=some (.tup [.int y.2.2.1,.ref y.2.1,Bl y.2.2.2.2])/\H y.2.1=some (.tup y.2.2.2.1.vs)
theorem SmAt.same{H H':Hp}{y:Sm1}(h:SmAt H y)(s:Same H H'):SmAt H' y:=⟨s _ _ h.1,s _ _ h.2⟩
structure TkI(cW cU cL:Addr)(H:Hp)(l sh:Addr)(ts:LA)(zt:LZ)(zs:LI)(M:List Sh1):Prop where
 hl:H l=some (.lst (Ai ts))
 tl:ts.length=M.length
 tt:∀(i:Nat)(x:Addr×V)(m:Sh1),ts[i]?=some x->M[i]?=some m->H x.1=some (.tup [.int m.1,x.2])/\Obj cW cU cL H m.2.2 x.2
 hz:H sh=some (.lst (Ai zt))
 za:∀t∈zt,H t.1=some (.tup [.int t.2.1,.int t.2.2])
 ze:zt.map (·.2)=zs
 z4:zs.length<=4
 so:∀z∈zs,SOk z
 fi:∀m∈M,0<=m.1/\m.1<zs.length/\BN (shR (zOf zs m.1)) m.2.2
 m6:M.length<=60
 tw:(tg zs 0 M).length<=400
theorem TkI.same{cW cU cL:Addr}{H H':Hp}{l sh:Addr}{ts:LA}{zt:LZ}{zs:LI}{M:List Sh1}(h:TkI cW cU cL H l sh ts zt zs M)(s:Same H H'):TkI cW cU cL H' l sh ts zt zs M :=
 ⟨s _ _ h.hl,h.tl,λ i x m a b=>⟨s _ _ (h.tt i x m a b).1,(h.tt i x m a b).2.same s⟩,s _ _ h.hz,λ t ht=>s _ _ (h.za t ht),h.ze,h.z4,h.so,h.fi,h.m6,h.tw⟩
inductive Hd(cW cU cL:Addr)(vs:LUz)(H:Hp)(Q:VK)(E:XK):Prop
 |mk (l sh:Addr) (ts:LA) (zt:LZ) (zs:LI) (M:List Sh1) (h0:vs=[.ref l,.ref sh]) (h1:TkI cW cU cL H l sh ts zt zs M) (h2:∀lr (ys:List Sm1) H',Same H H'->H' lr=some (.lst (Ai ys))->(∀y∈ys,SmAt H' y)->ys.map (λ y=>y.2.2)=tg zs 0 M->Q (.ref lr) H'):Hd cW cU cL vs H Q E
def EU(cW cU cL:Addr) :Sp:=λ vs H Q E=>Hd cW cU cL vs H Q E
theorem Rx{xs:LUz}{j:Nat}(h:j<=xs.length):Ht xs none (some (0+(j:Int)))=xs.take j:=by
 unfold Ht;have e:HT.sIx xs.length 0 none=0:=rfl;have e2:HT.sIx xs.length xs.length (some (0+(j:Int)))=j:=by
  unfold HT.sIx;simp only[];rw[if_neg (by lia)];lia
 rw[e,e2,List.drop_zero,Nat.sub_zero]
theorem P2{zs:LI}{M:List Sh1}{i:Nat}{m:Sh1}(h:M[i]?=some m):tg zs 0 (M.take (i+1))=tg zs 0 (M.take i)++(BQ m.2.2 (shR (zOf zs m.1))).map λ g=>((i:Int),g.1,g.2):=by
 have hi:=(List.getElem?_eq_some_iff.mp h).1;have l:(M.take i).length=i:=by rw[List.length_take];lia
 rw[List.take_succ,h];show tg zs 0 (M.take i++[m])=_;rw[Ow,l];rw[show(0:Int)+(i:Int)=i by lia]
theorem Ou{zs:LI}:∀{i:Nat}{k:Int}{M:List Sh1},(tg zs k (M.take i)).length<=(tg zs k M).length
 |0,k,M=>Nat.zero_le _
 |i+1,k,[]=>Nat.le_refl _
 |i+1,k,x::l=>by
  show((_:List _)++tg zs (k+1) (l.take i)).length<=((_:List _)++tg zs (k+1) l).length;have:=Ou (zs:=zs) (i:=i) (k:=k+1) (M:=l);rw[List.length_append,List.length_append];lia
abbrev S7:LSz:=["_law_found","_law_sheets","_law_some","_law_k","_law_which","_law_tree","_law_told_here","_law_width","_law_height","_law_here","_law_j"]
theorem Ld:Aq S7 ["_law_found","_law_sheets"] (Ag B9):=fsc
def Ql:Stmt->List Stmt
 |.For _ _ b _ _=>b
 |_=>[]
def nth(b:List Stmt)(i:Nat):Stmt:=b.getD i (.Pass ⟨0,0,0,0⟩)
theorem Ji{f:Addr}{fd:FuncData}(F:Fun K "_law_taken" "_law_taken" B9 f fd)(T:Txt mg tk)(D__law_told:A5 P w K mg base 27 "_law_told" ["_law_tree"] (CC cW cU cL 24))(D__law_whole:A5 P w K mg base 1 "_law_whole" ["_law_found"] ET)(D__law_fits:A5 P w K mg base 27 "_law_fits" ["_law_told_here","_law_width","_law_height"] (Dj 24))(D__law_pieces:A5 P w K mg base 27 "_law_pieces" ["_law_told_here","_law_block"] (Ci 24))(D__law_apart:A5 P w K mg base 1 "_law_apart" ["_law_one","_law_other"] HS)(D__law_area:A5 P w K mg base 1 "_law_area" ["_law_block"] Gb) :
  A8 P w K mg base CX0 28 f fd ["_law_found","_law_sheets"] (EU cW cU cL):=by
 have S:=Ld;refine F.ok S (λ vs H Q E h=>?_) (λ cdv A outer s H vs Q E hr h=>?_)
 .obtain⟨l,sh,ts,zt,zs,M,rfl,_⟩:=h;rfl
 .obtain⟨l,sh,ts,zt,zs,M,rfl,tI,q⟩:=h;have pc0:∀{m:Sh1},m∈M->AG (shR (zOf zs m.1)):=λ{m} hm=>ME (tI.so _ (List.mem_of_getElem? (Fm ⟨(tI.fi m hm).1,(tI.fi m hm).2.1⟩)));obtain⟨tS,hS,kS⟩:∃rd,PSs (Cd CX0 P w K mg base S7 "_law_taken" (Ag B9) f cdv A outer s H E).nox ((Ql (nth (A4 B9) 1)).drop 6) rd/\∀(i:Nat)(m:Sh1)(ls l3:Addr)(ys:List Sm1)(ps:List PT)(x4 x5 x6 x10:Option V)(D:Er)(H1:Hp),M[i]?=some m->H1 l3=some (.lst (pcs ps))->PcO H1 ps->cons ps=BQ m.2.2 (shR (zOf zs m.1))->H1 ls=some (.lst (Ai ys))->(∀y∈ys,SmAt H1 y)->ys.length<=400 ->
    (∀ls' ys' H2 x10,Same H1 H2->H2 ls'=some (.lst (Ai ys'))->(∀y∈ys',SmAt H2 y)->ys'.map (λ y=>y.2.2)=ys.map (λ y=>y.2.2)++(BQ m.2.2 (shR (zOf zs m.1))).map (λ g=>((i:Int),g.1,g.2))->D.nx [some (.ref l),some (.ref sh),some (.ref ls'),some (.int i),x4,x5,x6,some (.int (zOf zs m.1).1),some (.int (zOf zs m.1).2),some (.ref l3),x10] H2) ->
    rd D [some (.ref l),some (.ref sh),some (.ref ls),some (.int i),x4,x5,x6,some (.int (zOf zs m.1).1),some (.int (zOf zs m.1).2),some (.ref l3),x10] H1:=by
   refine⟨_,(Ac (C3 PassesOwn.never rfl (DH rfl T.z_range (Aa (At AK rfl T.z_len rfl (Aa (pv 9) Ab)) Ab)) (An (i:=10) S.nd rfl (Or.inr rfl)) (Ah (AJ (BF (BE (At Pp rfl T.z_all rfl (Aa (Bt rfl (AL (Gr MD (pv 9) MK (FG (pv 10)))) (λ_ _ _ _ _=>(An (i:=0) (show List.Nodup (["_law_one","_law_here","_law_j"]:LSz) from by decide +kernel) rfl (Or.inl rfl))) (λ_ _ _ _ _=>(Aw D__law_apart hr (Aa (Ao (Ct (K:=K)) (Ao (Dy (K:=K)) (pv 1) (pv 2) (λ_ _=>rfl)) Ad (λ_ _=>rfl)) (Aa (Ao (Ct (K:=K)) (pv 0) Ad (λ_ _=>rfl)) Ab)))) (N:=["_law_one","_law_here","_law_j"]) (fr:=[none,some 9,some 10])) Ab)))) (Ah (Ar AY)) Ay)))
   (Ac (AJ (Ax Q5 (At CK rfl T.z_sum rfl (Aa (Bt rfl (AL (pv 9)) (λ_ _ _ _ _=>(AV (K:=K) (n:=2) rfl (Am (An (i:=0) (show List.Nodup (["_law_block","_law_mark"]:LSz) from by decide +kernel) rfl (Or.inl rfl)) (Am (An (i:=1) (show List.Nodup (["_law_block","_law_mark"]:LSz) from by decide +kernel) rfl (Or.inl rfl)) AB)))) (λ_ _ _ _ _=>(Aw D__law_area hr (Aa (pv 0) Ab))) (N:=["_law_block","_law_mark"]) (fr:=[none,none])) Ab)) (A6 DJ (pv 7) (pv 8)) (Az _)) (Ah (Ar AY)) Ay)
   (Ah (As (i:=2) S.nd rfl (Or.inl rfl) (A6 LH (pv 2) (Bt rfl (AL (pv 9)) (λ_ _ _ _ _=>(AV (K:=K) (n:=2) rfl (Am (An (i:=0) (show List.Nodup (["_law_block","_law_mark","_law_k"]:LSz) from by decide +kernel) rfl (Or.inl rfl)) (Am (An (i:=1) (show List.Nodup (["_law_block","_law_mark","_law_k"]:LSz) from by decide +kernel) rfl (Or.inl rfl)) AB)))) (λ_ _ _ _ _=>(Av (Aa (pv 2) (Aa (pv 0) (Aa (pv 1) Ab))))) (N:=["_law_block","_law_mark","_law_k"]) (fr:=[none,none,some 3]))))))),?_⟩
   intro i m ls l3 ys ps x4 x5 x6 x10 D H1 hm hl3 pco ec hls sys yl qq;have mm:=List.mem_of_getElem? hm;obtain⟨k0,k1,ft⟩:=tI.fi m mm;have pk:=pc0 mm;have z0:=tI.so _ (List.mem_of_getElem? (Fm ⟨k0,k1⟩));generalize zOf zs m.1=z at *;obtain⟨z1,z2,z3,z4⟩:=z0;have sz:ps.length<=144:=by
    have h1:=congrArg List.length ec;rw[List.length_map,Dz]at h1;have h2:=Ej (t:=m.2.2) (w:=z.1) (h:=z.2) z1 z3 (by have:=ft;unfold BN at this;rwa [show(shR z).r-(shR z).l=z.1 from Int.sub_zero _,show(shR z).b-(shR z).t=z.2 from Int.sub_zero _]at this);have h3:z.1*z.2<=12*12:=Int.mul_le_mul z2 z4 (by lia) (by decide);lia
   have apt:=GA pk ft;rw[<-ec]at apt;have pa:∀{j:Nat}{t:PT},ps[j]?=some t->(pcs ps)[j]?=some (.ref t.1):=λ{j t} h=>by rw[List.getElem?_map,h];rfl
   have pok:∀t∈ps,AG t.2.2.1:=λ t ht=>(BY pk ft _ (Dw (show t.2.2∈_ by rw[<-ec];exact List.mem_map.mpr ⟨t,ht,rfl⟩))).2;refine⟨_,rfl,l3,_,rfl,.inl (SqL.of hl3),_,rfl,by rw[List.length_map];lia,by rw[List.length_map];lia,Fe (lo:=0) (n:=((pcs ps).length:Int).toNat) (λ j σ H'=>(∃y10,σ=[some (.ref l),some (.ref sh),some (.ref ls),some (.int i),x4,x5,x6,some (.int z.1),some (.int z.2),some (.ref l3),y10])/\Same H1 H') ⟨⟨_,rfl⟩,Same.refl H1⟩ ?_ ?_⟩
   .rintro j σ H2 hj ⟨⟨y10,rfl⟩,s2⟩;rw[Int.toNat_natCast,List.length_map]at hj;have hl2:=s2 _ _ hl3;obtain⟨tj,htj⟩:∃t,ps[j]?=some t:=⟨_,List.getElem?_eq_getElem hj⟩;have aj:atI (pcs ps) (0+(j:Int))=some (.ref tj.1):=by rw[Int.zero_add];exact B3 (pa htj)
    refine⟨_,rfl,_,rfl,_,rfl,l3,_,rfl,SqL.of hl2,λ p np=>?_⟩;rw[Rx (by rw[List.length_map];lia),<-List.map_take];obtain⟨H3,g,s3,e3⟩:=nw (.lst (pcs (ps.take j))) np;rw[g];have s13:=s2.trans s3;refine⟨p,rfl,⟨_,SqL.of e3⟩,λ acc hacc=>AU (K:=K) (a:=p) (ys:=pcs (ps.take j)) (λ i' zs' σ' H'=>(∃y,σ'=[y,some (.ref l3),some (.int (0+(j:Int)))])/\Same H3 H'/\zs'=List.replicate i' (V.bl true)) ⟨⟨none,rfl⟩,Same.new hacc,rfl⟩ (λ i' zs' σ' H' _ _ hp=>SqL.of (hp.2.1 _ _ e3)) ?_ ?_⟩
    .rintro i' v zs' σ' H' hx hi hl' hacc' ⟨⟨y0,rfl⟩,hs,rfl⟩;rw[List.getElem?_map]at hx;obtain⟨t',ht',rfl⟩:=Option.map_eq_some_iff.mp hx;have hi':=(List.getElem?_eq_some_iff.mp ht').1;rw[List.length_take]at hi';rw[List.getElem?_take,if_pos (by lia)]at ht';have s1':=s13.trans hs;obtain⟨a1,a2⟩:=pco tj (List.mem_of_getElem? htj);obtain⟨b1,b2⟩:=pco t' (List.mem_of_getElem? ht');have ap:FA tj.2.2.1 t'.2.2.1:=by
      have h1:=(List.getElem?_eq_some_iff.mp ht');have h2:=(List.getElem?_eq_some_iff.mp htj);have:=List.pairwise_iff_getElem.mp apt i' j (by rw[List.length_map];exact h1.1) (by rw[List.length_map];exact h2.1) (by lia);rw[List.getElem_map,List.getElem_map,h1.2,h2.2]at this;exact this
     refine⟨_,rfl,_,rfl,l3,_,_,_,rfl,rfl,SqL.of (s1' _ _ hl3),aj,tj.1,_,_,_,rfl,rfl,SqT.of (s1' _ _ a1),Bz,_,rfl,t'.1,_,_,_,rfl,rfl,SqT.of (s1' _ _ b1),Bz,tj.2.1,t'.2.1,tj.2.2.1,t'.2.2.1,rfl,s1' _ _ a2,s1' _ _ b2,ap,?_⟩;exact cNx.mk (Nat.le_of_lt (Ap (by rw[List.length_map,List.length_take];lia))) hi hl' hacc' ⟨⟨_,rfl⟩,λ d o e=>by rw[Ae (Af e hacc)];exact hs d o e,by rw[List.replicate_succ']⟩
    .rintro zs' σ' H4 hl' hacc' ⟨_,s4,rfl⟩;refine⟨acc,List.replicate (pcs (ps.take j)).length true,rfl,SqL.of (by rw[List.map_replicate];exact hacc'),rfl,_,rfl,AZ (by simp) ⟨⟨_,rfl⟩,s13.trans s4⟩⟩
   .rintro σ H2 ⟨⟨y10,rfl⟩,s2⟩;have hl2:=s2 _ _ hl3;refine⟨_,rfl,l3,rfl,⟨_,SqL.of hl2⟩,λ acc hacc=>AU (K:=K) (a:=l3) (ys:=pcs ps) (λ i' zs' σ' H'=>(∃y y',σ'=[y,y'])/\Same H2 H'/\zs'=(((ps.take i').map λ t:PT=>arR t.2.2.1).map V.int)) ⟨⟨none,none,rfl⟩,Same.new hacc,rfl⟩ (λ i' zs' σ' H' _ _ hp=>SqL.of (hp.2.1 _ _ hl2)) ?_ ?_⟩
    .rintro i' v zs' σ' H' hx hi hl' hacc' ⟨⟨y0,y1,rfl⟩,hs,rfl⟩;rw[List.getElem?_map]at hx;obtain⟨t',ht',rfl⟩:=Option.map_eq_some_iff.mp hx;have s1':=s2.trans hs;obtain⟨b1,b2⟩:=pco t' (List.mem_of_getElem? ht');refine⟨t'.1,_,rfl,SqT.of (s1' _ _ b1),rfl,_,_,rfl,_,_,rfl,rfl,_,rfl,t'.2.1,t'.2.2.1,rfl,s1' _ _ b2,pok t' (List.mem_of_getElem? ht'),?_⟩;refine cNx.mk (Nat.le_of_lt (Ap (by rw[List.length_map];lia))) hi hl' hacc' ⟨⟨_,_,rfl⟩,λ d o e=>by rw[Ae (Af e hacc)];exact hs d o e,?_⟩;rw[List.take_succ,ht',List.map_append,List.map_append];rfl
    .rintro zs' σ' H4 hl' hacc' ⟨_,s4,rfl⟩;rw[List.length_map,List.take_length]at hacc';refine⟨acc,_,rfl,SqL.of hacc',rfl,?_⟩;have ea:(ps.map λ t:PT=>arR t.2.2.1).sum=z.1*z.2:=by
      have h1:=FM m.2.2 (shR z);rw[<-ec]at h1;have h2:BS ((cons ps).map (·.1))=(ps.map λ t:PT=>arR t.2.2.1).sum:=by unfold BS;rw[List.map_map,List.map_map];rfl
      rw[<-h2,h1,Sz]
     refine⟨_,rfl,_,rfl,_,_,rfl,rfl,Ic (by lia) (by lia) (by lia) (by lia),rfl,_,rfl,AZ (by rw[ea];simp) ?_⟩;have s14:=s2.trans s4;have hl4:=s14 _ _ hl3;have i0:(i:Int)=i:=rfl;refine⟨_,rfl,_,rfl,l3,rfl,⟨_,SqL.of hl4⟩,λ acc2 hacc2=>AU (K:=K) (a:=l3) (ys:=pcs ps) (λ i' zs' σ' H'=>(∃y y',σ'=[y,y',some (.int i)])/\Same H4 H'/\∃us:List Sm1,zs'=Ai us/\us.map (λ y=>y.2.2)=(ps.take i').map (λ t:PT=>((i:Int),t.2.2.1,t.2.2.2))/\∀y∈us,SmAt H' y) ⟨⟨none,none,rfl⟩,Same.new hacc2,[],rfl,rfl,(λ y hy=>nomatch hy)⟩ (λ i' zs' σ' H' _ _ hp=>SqL.of (hp.2.1 _ _ hl4)) ?_ ?_⟩
     .rintro i' v zs' σ' H' hx hi hl' hacc2' ⟨⟨y0,y1,rfl⟩,hs,us,rfl,e1,e2⟩;rw[List.getElem?_map]at hx;obtain⟨t',ht',rfl⟩:=Option.map_eq_some_iff.mp hx;have s1':=s14.trans hs;obtain⟨b1,b2⟩:=pco t' (List.mem_of_getElem? ht');refine⟨t'.1,_,rfl,SqT.of (s1' _ _ b1),rfl,_,_,rfl,_,_,rfl,rfl,_,rfl,_,rfl,_,rfl,Au 3,λ c nc=>?_⟩;obtain⟨H5,g,s5,e5⟩:=nw (.tup [.int i,.ref t'.2.1,Bl t'.2.2.2]) nc;show cNx acc2 _ _ _ _ _ (upd H' c (.tup [.int i,.ref t'.2.1,Bl t'.2.2.2]));rw[g];have ac5:=s5 _ _ hacc2';have kp:∀x xs,H5 x=some (.tup xs)->(upd H5 acc2 (.lst (Ai us++[.ref c]))) x=some (.tup xs):=λ x xs e=>Bk e ac5;refine cNx.mk (Nat.le_of_lt (Ap (by rw[List.length_map];lia))) hi hl' ac5 ⟨⟨_,_,rfl⟩,λ d o e=>by rw[Ae (Af e hacc2)];exact s5 _ _ (hs d o e),us++[(c,t'.2.1,(i:Int),t'.2.2.1,t'.2.2.2)],by unfold Ai;rw[List.map_append];rfl,?_,λ y hy=>?_⟩
      .rw[List.take_succ,ht',List.map_append,List.map_append,e1];rfl
      .rcases List.mem_append.mp hy with hy|hy
       .exact⟨kp _ _ (s5 _ _ (e2 y hy).1),kp _ _ (s5 _ _ (e2 y hy).2)⟩
       .rw[List.mem_singleton.mp hy];exact⟨kp _ _ e5,kp _ _ (s5 _ _ (s1' _ _ b2))⟩
     .rintro zs' σ' H5 hl' hacc2' ⟨_,s5,us,rfl,e1,e2⟩;rw[List.length_map,List.take_length]at e1;have s15:=s14.trans s5;have ul:us.length=ps.length:=by have:=congrArg List.length e1;rwa [List.length_map,List.length_map]at this
      refine⟨ls,acc2,_,_,rfl,rfl,s15 _ _ hls,hacc2',Nat.le_of_lt (Ap (by rw[Al,Al];lia)),λ ln nln=>?_⟩;obtain⟨H6,g,s6,e6⟩:=nw (.lst (Ai ys++Ai us)) nln;show D.nx _ (upd H5 ln (.lst (Ai ys++Ai us)));rw[g];refine qq ln (ys++us) H6 y10 (s15.trans s6) (by rw[e6];unfold Ai;rw[List.map_append]) (λ y hy=>?_) ?_
      .rcases List.mem_append.mp hy with hy|hy
       .exact((sys y hy).same s15).same s6
       .exact(e2 y hy).same s6
      .rw[List.map_append,e1,<-ec];congr 1;rw[List.map_map];rfl
  refine⟨_,(Ac (As (i:=2) S.nd rfl (Or.inl rfl) (BJ Ab))
   (Ac (C3 PassesOwn.never rfl (DH rfl T.z_range (Aa (At AK rfl T.z_len rfl (Aa (pv 0) Ab)) Ab)) (An (i:=3) S.nd rfl (Or.inr rfl)) (Ac (LF (Ao Cc (pv 0) (pv 3) (λ_ _=>rfl)) (CW rfl (Am (An (i:=4) S.nd rfl (Or.inl rfl)) (Am (An (i:=5) S.nd rfl (Or.inl rfl)) AB))))
   (Ac (As (i:=6) S.nd rfl (Or.inl rfl) (Aw D__law_told hr (Aa (pv 5) Ab)))
   (Ac (AJ (PW.pt (Go (BF (BE (Aw D__law_whole hr (Aa (pv 4) Ab)))) (Go (BF (Ki CG Ia Ad (pv 4) (At AK rfl T.z_len rfl (Aa (pv 1) Ab)))) (Gn (Ax EZ (pv 6) AY (Az _)))))) (Ah (Ar AY)) Ay)
   (Ac (LF (Ao Cc (pv 1) (pv 4) (λ_ _=>rfl)) (CW rfl (Am (An (i:=7) S.nd rfl (Or.inl rfl)) (Am (An (i:=8) S.nd rfl (Or.inl rfl)) AB))))
   (Ac (AJ (BF (BE (Aw D__law_fits hr (Aa (pv 6) (Aa (pv 7) (Aa (pv 8) Ab)))))) (Ah (Ar AY)) Ay)
   (Ac (As (i:=9) S.nd rfl (Or.inr rfl) (Aw D__law_pieces hr (Aa (pv 6) (Aa (Av (Aa Ad (Aa Ad (Aa (pv 8) (Aa (pv 7) Ab))))) Ab))))
   hS)))))))
   (Ah (Ar (pv 2))))),?_⟩
  refine⟨Au 0,λ l0 n0=>?_⟩;obtain⟨H0,g,s0,e0⟩:=nw (.lst []) n0;rw[g];have tI0:=tI.same s0;refine⟨_,rfl,l,_,rfl,.inl (SqL.of tI0.hl),_,rfl,by rw[Al,tI.tl];have:=tI.m6;lia,by rw[Al,tI.tl];have:=tI.m6;lia,Fe (lo:=0) (n:=((Ai ts).length:Int).toNat) (λ i σ H'=>∃(ls:Addr)(ys:List Sm1)(x3 x4 x5 x6 x7 x8 x9 x10:Option V),σ=[some (.ref l),some (.ref sh),some (.ref ls),x3,x4,x5,x6,x7,x8,x9,x10]/\Same H H'/\H' ls=some (.lst (Ai ys))/\(∀y∈ys,SmAt H' y)/\ys.map (λ y=>y.2.2)=tg zs 0 (M.take i)) ⟨l0,[],_,_,_,_,_,_,_,_,rfl,s0,e0,(λ y hy=>nomatch hy),rfl⟩ ?_ ?_⟩
  .rintro i σ H1 hi ⟨ls,ys,x3,x4,x5,x6,x7,x8,x9,x10,rfl,s1,hls,sys,ey⟩;rw[Int.toNat_natCast,Al]at hi;have tI1:=tI.same s1;obtain⟨x,hx⟩:∃x,ts[i]?=some x:=⟨_,List.getElem?_eq_getElem hi⟩;obtain⟨m,hm⟩:∃m,M[i]?=some m:=⟨_,List.getElem?_eq_getElem (by rw[<-tI.tl];exact hi)⟩;have mm:=List.mem_of_getElem? hm;obtain⟨k0,k1,ft⟩:=tI.fi m mm;obtain⟨t1,t2⟩:=tI1.tt i x m hx hm;have ax:atI (Ai ts) (0+(i:Int))=some (.ref x.1):=by rw[Int.zero_add];exact B3 (by unfold Ai;rw[List.getElem?_map,hx];rfl)
   have hz:=Fm ⟨k0,k1⟩;obtain⟨z1,z2,z3,z4⟩:=tI.so _ (List.mem_of_getElem? hz);have ft':Fit m.2.2 (zOf zs m.1).1 (zOf zs m.1).2:=by
    have:=ft;unfold BN at this;rwa [show(shR (zOf zs m.1)).r-(shR (zOf zs m.1)).l=(zOf zs m.1).1 from Int.sub_zero _,show(shR (zOf zs m.1)).b-(shR (zOf zs m.1)).t=(zOf zs m.1).2 from Int.sub_zero _]at this
   have dp:=Fg z1 z3 ft';have nd:m.2.2.nd<=400:=by
    have h1:=MQ m.2.2;have h2:=Ej z1 z3 ft';have h3:(zOf zs m.1).1*(zOf zs m.1).2<=12*12:=Int.mul_le_mul z2 z4 (by lia) (by decide);lia
   rw[<-tI.ze,List.getElem?_map]at hz;obtain⟨u,hu,eu⟩:=Option.map_eq_some_iff.mp hz;rw[tI.ze]at eu;have au:atI (Ai zt) m.1=some (.ref u.1):=by
    have:=B3 (xs:=Ai zt) (j:=m.1.toNat) (v:=.ref u.1) (by unfold Ai;rw[List.getElem?_map,hu];rfl);rwa [Int.toNat_of_nonneg k0]at this
   have hu1:=tI1.za u (List.mem_of_getElem? hu);rw[eu]at hu1;refine⟨_,rfl,_,rfl,l,_,_,_,rfl,rfl,SqL.of tI1.hl,ax,x.1,_,rfl,SqT.of t1,rfl,_,_,rfl,_,_,rfl,rfl,?_⟩;refine⟨_,rfl,x.2,m.2.2,rfl,t2,by lia,λ v2 H2 s2 told2=>?_⟩;refine⟨_,rfl,m.1,rfl,_,rfl,AZ rfl ?_⟩;refine⟨_,rfl,_,_,rfl,rfl,_,rfl,BK (decide_eq_true k0) ⟨_,rfl,sh,_,rfl,.inl (SqL.of (s2 _ _ tI1.hz)),_,_,rfl,rfl,_,rfl,AZ (by rw[decide_eq_true (show m.1<((Ai zt).length:Int) by rw[Al,<-List.length_map (f:=λ t:Addr×Int×Int=>t.2),tI.ze];exact k1)];rfl) ?_⟩⟩;refine⟨_,rfl,rfl,_,rfl,AZ (Dg told2) ?_⟩;refine⟨_,rfl,_,rfl,sh,_,_,_,rfl,rfl,SqL.of (s2 _ _ tI1.hz),au,u.1,_,rfl,SqT.of (s2 _ _ hu1),rfl,_,_,rfl,_,_,rfl,rfl,?_⟩;refine⟨_,rfl,_,rfl,_,rfl,v2,m.2.2,_,_,rfl,told2,ft',by lia,_,rfl,AZ rfl ?_⟩;refine⟨_,rfl,_,rfl,_,rfl,Au 4,λ b nb=>?_⟩;obtain⟨H3,g,s3,e3⟩:=nw (.tup [.int 0,.int 0,.int (zOf zs m.1).2,.int (zOf zs m.1).1]) nb;rw[g];refine⟨v2,m.2.2,b,shR (zOf zs m.1),rfl,told2.same s3,e3,by lia,nd,λ l3 ps H4 s4 nl3 hl3 pco ec=>?_⟩;have s14:=s2.trans (s3.trans s4);have yl:ys.length<=400:=by
    have h1:=congrArg List.length ey;rw[List.length_map]at h1;have:=Ou (zs:=zs) (i:=i) (k:=0) (M:=M);have:=tI.tw;lia
   have i0:V.int (0+(i:Int))=V.int i:=by rw[Int.zero_add]
   rw[i0];refine kS i m ls l3 ys ps _ _ _ _ _ H4 hm hl3 pco ec (s14 _ _ hls) (λ y hy=>(sys y hy).same s14) yl λ ls' ys' H5 y10 s5 hl5 sy5 ey5=>?_;exact⟨ls',ys',_,_,_,_,_,_,_,_,rfl,s1.trans (s14.trans s5),hl5,sy5,by rw[ey5,ey,P2 hm]⟩
  .rintro σ H1 ⟨ls,ys,x3,x4,x5,x6,x7,x8,x9,x10,rfl,s1,hls,sys,ey⟩;rw[Int.toNat_natCast,Al,tI.tl,List.take_length]at ey;exact⟨_,rfl,q ls ys H1 s1 hls sys ey⟩
structure LwP(zs:LI)(tn:List Tk1)(M:List Sh1)(P:LK)(n:Nat):Prop where
 bt:BT zs M P
 tm:tn.map (λ t=>(t.2.1,t.2.2.2.2))=M.map (λ x=>(x.1,x.2.1))
 so:∀z∈zs,SOk z
 z4:zs.length<=4
 n1:tn.length<=n
 n2:∀t∈tn,t.2.2.2.2.length<=1+4*n
 n3:(whs 0 (tn.map λ t=>t.2.2.2.2)).length<=3*n
 n4:P.length<=n
section
variable{zs:LI}{tn:List Tk1}{M:List Sh1}{P:LK}{n:Nat}
theorem LwP.kv(h:LwP zs tn M P n):tn.map (λ t=>t.2.2.2.2)=M.map λ x=>x.2.1:=by
 have:=congrArg (List.map λ y:Int×KV=>y.2) h.tm;rwa [List.map_map,List.map_map]at this
theorem LwP.ln(h:LwP zs tn M P n):tn.length=M.length:=by
 have:=congrArg List.length h.tm;rwa [List.length_map,List.length_map]at this
theorem LwP.at_(h:LwP zs tn M P n){i:Nat}{t:Tk1}(ht:tn[i]?=some t):∃x,M[i]?=some x/\x.1=t.2.1/\x.2.1=t.2.2.2.2:=by
 have h1:(tn.map λ t=>(t.2.1,t.2.2.2.2))[i]?=some (t.2.1,t.2.2.2.2):=by rw[List.getElem?_map,ht];rfl
 rw[h.tm,List.getElem?_map]at h1;obtain⟨x,hx,e⟩:=Option.map_eq_some_iff.mp h1;exact⟨x,hx,congrArg Prod.fst e,congrArg Prod.snd e⟩
theorem LwP.pk(h:LwP zs tn M P n){x:Sh1}(hx:x∈M):AG (shR (zOf zs x.1)):=ME (h.so _ (List.mem_of_getElem? (Fm ⟨(h.bt.sh x hx).1,(h.bt.sh x hx).2.1⟩)))
theorem LwP.wh(h:LwP zs tn M P n){i:Int}{p:Rk}{m:Option Int}(hy:(i,p,m)∈whs 0 (tn.map λ t=>t.2.2.2.2)):AG p/\0<=i/\i<tn.length:=by
 obtain⟨j,kv,hj,ej,hm⟩:=mem_whs.mp hy;have hj':=(List.getElem?_eq_some_iff.mp hj).1;rw[List.length_map]at hj';rw[h.kv,List.getElem?_map]at hj;obtain⟨x,hx,rfl⟩:=Option.map_eq_some_iff.mp hj;have xm:=List.mem_of_getElem? hx;have st:=(h.bt.sh x xm).2.2;exact⟨(BY (h.pk xm) st.ft _ (st.pm.mem_iff.mp hm)).2,by lia,by lia⟩
theorem LwP.offs(h:LwP zs tn M P n):∀y∈A9 (whs 0 (tn.map λ t=>t.2.2.2.2)),AG y.2/\0<=y.1/\y.1<tn.length:=λ y hy=>h.wh (mem_off.mp hy)
theorem LwP.pans(h:LwP zs tn M P n):∀y∈Bg (whs 0 (tn.map λ t=>t.2.2.2.2)),AG y:=λ y hy=>by
 unfold Bg at hy;obtain⟨⟨i,p,m⟩,hm,e⟩:=List.mem_filterMap.mp hy;cases m with
 |none=>cases e
 |some m=>cases e;exact(h.wh hm).1
theorem LwP.np(h:LwP zs tn M P n):(Bg (whs 0 (tn.map λ t=>t.2.2.2.2))).length=P.length:=by rw[h.kv];exact h.bt.num
theorem LwP.bok(h:LwP zs tn M P n)(hn:n<=55):M2 tn:=⟨by have:=h.n1;lia,λ t ht=>by have:=h.n2 t ht;lia,by have:=h.n3;lia⟩
theorem LwP.mono(h:LwP zs tn M P n):LwP zs tn M P (n+1):=⟨h.bt,h.tm,h.so,h.z4,by have:=h.n1;lia,λ t ht=>by have:=h.n2 t ht;lia,by have:=h.n3;lia,by have:=h.n4;lia⟩
theorem LwP.old(h:LwP zs tn M P n){y:Int×Rk}{u:Tk1}{z:Int×Int}{ks:LKz}(hu:tn[y.1.toNat]?=some u)(hy:y∈A9 (whs 0 (tn.map λ t=>t.2.2.2.2)))(z1:0<z.1)(z2:0<z.2)(h1:z.1<=y.2.len true)(h2:z.2<=y.2.len false) :
  ∃M',LwP zs (Gh tn y.1.toNat ks (Be u.2.2.2.2 y.2 z P.length)) M' (P++[(y.1,pnN y z)]) (n+1):=by
 obtain⟨x,hx,e1,e2⟩:=h.at_ hu;rw[h.kv]at hy;obtain⟨r,b1,b2,b3⟩:=h.bt.old h.so hx hy z1 z2 h1 h2;rw[e1,e2]at b1 b3;rw[e2]at b2;have et:(Gh tn y.1.toNat ks (Be u.2.2.2.2 y.2 z P.length))=tn.set y.1.toNat (u.1,u.2.1,u.2.2.1,ks,Be u.2.2.2.2 y.2 z P.length):=PD hu;rw[et];have tm':(tn.set y.1.toNat (u.1,u.2.1,u.2.2.1,ks,Be u.2.2.2.2 y.2 z P.length)).map (λ t:Tk1=>(t.2.1,t.2.2.2.2))=(M.set y.1.toNat (u.2.1,Be u.2.2.2.2 y.2 z P.length,r)).map (λ x=>(x.1,x.2.1)):=by
  rw[List.map_set,List.map_set,h.tm]
 have kv':=congrArg (List.map λ y:Int×KV=>y.2) tm';rw[List.map_map,List.map_map]at kv';refine⟨_,b1,tm',h.so,h.z4,by rw[List.length_set];have:=h.n1;lia,λ t ht=>?_,?_,by rw[List.length_append,List.length_singleton];have:=h.n4;lia⟩
 .rcases List.mem_or_eq_of_mem_set ht with ht|rfl
  .have:=h.n2 t ht;lia
  .have:=h.n2 u (List.mem_of_getElem? hu);show(Be u.2.2.2.2 y.2 z P.length).length<=_;lia
 .have e3:(tn.set y.1.toNat (u.1,u.2.1,u.2.2.1,ks,Be u.2.2.2.2 y.2 z P.length)).map (λ t:Tk1=>t.2.2.2.2)=(M.set y.1.toNat (u.2.1,Be u.2.2.2.2 y.2 z P.length,r)).map λ x=>x.2.1:=kv';rw[e3];have:=h.n3;rw[h.kv]at this;lia
theorem LwP.new(h:LwP zs tn M P n){k:Nat}{z0 z:Int×Int}{tA dA:Addr}{ks:LKz}(hk:zs[k]?=some z0)(z1:0<z.1)(z2:0<z.2)(h1:z.1<=z0.1)(h2:z.2<=z0.2) :
  ∃M',LwP zs (tn++[(tA,(k:Int),dA,ks,Be [(shR z0,.w none)] (shR z0) z P.length)]) M' (P++[((tn.length:Int),pnN ((tn.length:Int),shR z0) z)]) (n+1):=by
 obtain⟨r,b1,b2,b3⟩:=h.bt.new h.so hk z1 z2 h1 h2;rw[<-h.ln]at b1;have tm':(tn++[((tA,(k:Int),dA,ks,Be [(shR z0,.w none)] (shR z0) z P.length):Tk1)]).map (λ t:Tk1=>(t.2.1,t.2.2.2.2))=(M++[((k:Int),Be [(shR z0,.w none)] (shR z0) z P.length,r)]).map (λ x=>(x.1,x.2.1)):=by
  rw[List.map_append,List.map_append,h.tm];rfl
 have kv':=congrArg (List.map λ y:Int×KV=>y.2) tm';rw[List.map_map,List.map_map]at kv';refine⟨_,b1,tm',h.so,h.z4,by rw[List.length_append,List.length_singleton];have:=h.n1;lia,λ t ht=>?_,?_,by rw[List.length_append,List.length_singleton];have:=h.n4;lia⟩
 .rcases List.mem_append.mp ht with ht|ht
  .have:=h.n2 t ht;lia
  .rw[List.mem_singleton.mp ht];show(Be [(shR z0,.w none)] (shR z0) z P.length).length<=_;lia
 .have e3:(tn++[((tA,(k:Int),dA,ks,Be [(shR z0,.w none)] (shR z0) z P.length):Tk1)]).map (λ t:Tk1=>t.2.2.2.2)=(M++[((k:Int),Be [(shR z0,.w none)] (shR z0) z P.length,r)]).map λ x=>x.2.1:=kv';rw[e3];have:=h.n3;rw[h.kv]at this;lia
def trM(M:List Sh1)(i:Nat):Tr:=match M[i]? with
 |some x=>x.2.2
 |none=>.whole none
theorem Lu{i:Nat}{x:Sh1}(h:M[i]?=some x):trM M i=x.2.2:=by unfold trM;rw[h]
theorem LwP.fit(h:LwP zs tn M P n){x:Sh1}(hx:x∈M):x.2.2.dp<24/\x.2.2.nd<=400/\x.2.2.sz<=144:=by
 obtain⟨k0,k1,st⟩:=h.bt.sh x hx;obtain⟨z1,z2,z3,z4⟩:=h.so _ (List.mem_of_getElem? (Fm ⟨k0,k1⟩));have ft':Fit x.2.2 (zOf zs x.1).1 (zOf zs x.1).2:=by
  have:=st.ft;unfold BN at this;rwa [show(shR (zOf zs x.1)).r-(shR (zOf zs x.1)).l=(zOf zs x.1).1 from Int.sub_zero _,show(shR (zOf zs x.1)).b-(shR (zOf zs x.1)).t=(zOf zs x.1).2 from Int.sub_zero _]at this
 have h1:=Fg z1 z3 ft';have h2:=MQ x.2.2;have h3:=Ej z1 z3 ft';have h4:(zOf zs x.1).1*(zOf zs x.1).2<=12*12:=Int.mul_le_mul z2 z4 (by lia) (by decide);exact⟨by lia,by lia,by lia⟩
theorem LwP.grown(h:LwP zs tn M P n){C a dx ls lt:Addr}{H:Hp}{ss:LZ}(bn:BnAt C a dx ls lt H ss tn)(es:ss.map (λ t=>t.2)=zs):∀i t,tn[i]?=some t->QG H ss t (trM M i):=λ i t ht=>by
 obtain⟨x,hx,e1,e2⟩:=h.at_ ht;have xm:=List.mem_of_getElem? hx;obtain⟨k0,k1,st⟩:=h.bt.sh x xm;have hz:=Fm ⟨k0,k1⟩;rw[<-es,List.getElem?_map]at hz;obtain⟨u,hu,eu⟩:=Option.map_eq_some_iff.mp hz;rw[es]at eu;rw[Lu hx];refine⟨by rw[<-e1];exact k0,u,by rw[<-e1];exact hu,_,_,λ q hq=>KvAt.val (bn.tks t (List.mem_of_getElem? ht)).2.2 hq,?_,(h.fit xm).2.1⟩;rw[eu,<-e2];exact Jy (st.nd (h.pk xm)) λ y hy=>st.pm.mem_iff.mpr hy
end
structure KpT(H H':Hp):Prop where
 t:∀x xs,H x=some (.tup xs)->H' x=some (.tup xs)
 i:∀x C dx fs,H x=some (.ins C dx fs)->H' x=some (.ins C dx fs)
def Mv(H:Hp)(c:Addr):Prop:=(∃xs,H c=some (.lst xs))\/∃ks,H c=some (.dT ks)
theorem KpT.x{H H':Hp}{c:Addr}(s:SameX c H H')(m:Mv H c):KpT H H':=⟨λ x xs e=>s _ _ (λ z=>by rw[z]at e;rcases m with ⟨_,m⟩|⟨_,m⟩<;>(rw[m]at e;cases e)) e,λ x C dx fs e=>s _ _ (λ z=>by rw[z]at e;rcases m with ⟨_,m⟩|⟨_,m⟩<;>(rw[m]at e;cases e)) e⟩
theorem Told.k{H H':Hp}(s:KpT H H'):∀{t:Tr}{v:V},Told H t v->Told H' t v
 |.whole m,v,h=>by
  rw[Told]at h |-;obtain⟨a,e,h⟩:=h;exact⟨a,e,s.t _ _ h⟩
 |.cut u k x y,v,h=>by
  rw[Told]at h |-;obtain⟨a,vx,vy,e,h,h1,h2⟩:=h;exact⟨a,vx,vy,e,s.t _ _ h,Told.k s h1,Told.k s h2⟩
theorem Obj.k{H H':Hp}(s:KpT H H'):∀{t:Tr}{v:V},Obj cW cU cL H t v->Obj cW cU cL H' t v
 |.whole m,v,h=>by
  rw[Obj]at h |-;obtain⟨a,dx,e,h⟩:=h;exact⟨a,dx,e,s.i _ _ _ _ h⟩
 |.cut u k x y,v,h=>by
  rw[Obj]at h |-;obtain⟨a,dx,vx,vy,e,h,h1,h2⟩:=h;exact⟨a,dx,vx,vy,e,s.i _ _ _ _ h,Obj.k s h1,Obj.k s h2⟩
theorem TabOk.mv{pos:Pos}{qual:Str}{T l:Addr}{H H':Hp}(h:TabOk pos qual T H)(s:SameX l H H')(m:Mv H l):TabOk pos qual T H':=by
 obtain⟨ps,e,t,c⟩:=h;refine⟨ps,s _ _ (λ z=>by rw[z]at e;rcases m with ⟨_,m⟩|⟨_,m⟩<;>(rw[m]at e;cases e)) e,t,?_⟩;rcases c with c|⟨c',c1,c2⟩
 .exact .inl c
 .exact .inr ⟨c',c1,s _ _ (λ z=>by rw[z]at c2;rcases m with ⟨_,m⟩|⟨_,m⟩<;>(rw[m]at c2;cases c2)) c2⟩
abbrev Kp1:=Addr×Addr×Addr×LA×LA×List (Int×Tr)
structure KpAt(cW cU cL:Addr)(H:Hp)(e:Kp1):Prop where
 c:H e.1=some (.tup [.ref e.2.1,.ref e.2.2.1])
 f:H e.2.1=some (.lst (Ai e.2.2.2.1))
 w:H e.2.2.1=some (.lst (Ai e.2.2.2.2.1))
 fl:e.2.2.2.1.length=e.2.2.2.2.2.length
 wl:e.2.2.2.2.1.length=e.2.2.2.2.2.length
 ft:∀(i:Nat)(x:Addr×V)(m:Int×Tr),e.2.2.2.1[i]?=some x->e.2.2.2.2.2[i]?=some m->H x.1=some (.tup [.int m.1,x.2])/\Obj cW cU cL H m.2 x.2
 wt:∀(i:Nat)(x:Addr×V)(m:Int×Tr),e.2.2.2.2.1[i]?=some x->e.2.2.2.2.2[i]?=some m->H x.1=some (.tup [.int m.1,x.2])/\Told H m.2 x.2
 d:∀m∈e.2.2.2.2.2,m.2.dp<24
 n:e.2.2.2.2.2.length<=60
theorem KpAt.k{cW cU cL:Addr}{H H':Hp}{e:Kp1}(h:KpAt cW cU cL H e)(s:KpT H H')(f:H' e.2.1=H e.2.1)(w:H' e.2.2.1=H e.2.2.1):KpAt cW cU cL H' e :=
 ⟨s.t _ _ h.c,f.trans h.f,w.trans h.w,h.fl,h.wl,λ i x m a b=>⟨s.t _ _ (h.ft i x m a b).1,(h.ft i x m a b).2.k s⟩,λ i x m a b=>⟨s.t _ _ (h.wt i x m a b).1,(h.wt i x m a b).2.k s⟩,h.d,h.n⟩
def msD:List (Int×Tr)->Ds
 |[]=>.nil
 |m::r=>.cons (.tup (.cons (.at (.int m.1)) (.cons (trD m.2) .nil))) (msD r)
theorem LQ{K:Frag}{H:Hp}:∀{ws:LA}{ms:List (Int×Tr)},ws.length=ms.length->(∀(i:Nat)(x:Addr×V)(m:Int×Tr),ws[i]?=some x->ms[i]?=some m->H x.1=some (.tup [.int m.1,x.2])/\Told H m.2 x.2)->DIss K H (msD ms) (Ai ws)
 |[],[],_,_=>by show DIss K H .nil [];rw[DIss]
 |x::r,m::q,l,h=>by
  show DIss K H (.cons (.tup (.cons (.at (.int m.1)) (.cons (trD m.2) .nil))) (msD q)) (.ref x.1::Ai r);obtain⟨h1,h2⟩:=h 0 x m rfl rfl;rw[DIss];refine⟨_,_,rfl,?_,LQ (Nat.succ.inj l) λ i x m a b=>h (i+1) x m a b⟩;rw[DIs];refine⟨_,_,rfl,SqT.of h1,?_⟩;rw[DIss];refine⟨_,_,rfl,by rw[DIs];exact⟨rfl,rfl⟩,?_⟩;rw[DIss];exact⟨_,_,rfl,Lv h2,by rw[DIss]⟩
theorem MR:∀{ms:List (Int×Tr)},(∀m∈ms,m.2.dp<24)->Bi (msD ms)<=30
 |[],_=>by rw[msD,Bi];lia
 |m::r,h=>by
  have h1:=MR (ms:=r) λ x hx=>h x (List.mem_cons_of_mem _ hx);have h2:=h m List.mem_cons_self;have h3:=IN m.2;rw[msD,Bi,dep,Bi,Bi,Bi,dep];lia
structure LwI(cW cU cL tb2 C sh a0 dx ls lt pA kA:Addr)(zt ss:LZ)(tn:List Tk1)(ps:List Of1)(ks:List Kp1)(pL:Addr)(pv:LUz)(H:Hp):Prop where
 bn:BnAt C a0 dx ls lt H ss tn
 hq:H pL=some (.lst pv)
 nq:pL∉[lt,pA,kA]
 hz:H sh=some (.lst (Ai zt))
 za:∀t∈zt,H t.1=some (.tup [.int t.2.1,.int t.2.2])
 hp:H pA=some (.lst (Ai ps))
 po:∀t∈ps,OfAt H t
 hk:H kA=some (.lst (Ai ks))
 ko:∀e∈ks,KpAt cW cU cL H e
 kn:∀e∈ks,e.2.1∉[lt,pA,kA]/\e.2.2.1∉[lt,pA,kA]
 tb:TabOk E9 DS tb2 H
 ns:sh∉[lt,pA,kA]
 nl:ls∉[lt,pA,kA]
 nt:lt≠pA/\lt≠kA/\pA≠kA
section
variable{tb2 C sh a0 dx ls lt pA kA:Addr}{zt ss:LZ}{tn:List Tk1}{ps:List Of1}{ks:List Kp1}{pL:Addr}{pv:LUz}{H H':Hp}
theorem LwI.n(h:LwI cW cU cL tb2 C sh a0 dx ls lt pA kA zt ss tn ps ks pL pv H)(s:SameN H H')(t:TabOk E9 DS tb2 H'):LwI cW cU cL tb2 C sh a0 dx ls lt pA kA zt ss tn ps ks pL pv H' :=
 ⟨h.bn.n s,s.lst h.hq,h.nq,s.lst h.hz,λ t ht=>s.tup (h.za t ht),s.lst h.hp,λ t ht=>(h.po t ht).tups λ_ _ e=>s.tup e,s.lst h.hk,λ e he=>(h.ko e he).k ⟨λ_ _ e=>s.tup e,λ x C dx fs e=>s _ _ e λ_ z=>nomatch z⟩ ((s.lst (h.ko e he).f).trans (h.ko e he).f.symm) ((s.lst (h.ko e he).w).trans (h.ko e he).w.symm),h.kn,t,h.ns,h.nl,h.nt⟩
theorem LwI.same(h:LwI cW cU cL tb2 C sh a0 dx ls lt pA kA zt ss tn ps ks pL pv H)(s:Same H H'):LwI cW cU cL tb2 C sh a0 dx ls lt pA kA zt ss tn ps ks pL pv H':=h.n s.n (h.tb.same s)
theorem LwI.st(h:LwI cW cU cL tb2 C sh a0 dx ls lt pA kA zt ss tn ps ks pL pv H){c:Addr}{k0:List (Key×V)}(s:SameX c H H')(hc:H c=some (.dK k0)):LwI cW cU cL tb2 C sh a0 dx ls lt pA kA zt ss tn ps ks pL pv H':=by
 have N:∀{x:Addr}{o:HO},H x=some o->(∀ks,o≠.dK ks)->H' x=some o:=λ{x o} e n=>s _ _ (λ z=>by rw[z,hc]at e;cases e;exact n _ rfl) e;have k:KpT H H':=⟨λ x xs e=>N e (λ_ z=>nomatch z),λ x C dx fs e=>N e (λ_ z=>nomatch z)⟩;have L:∀{x:Addr}{xs:LUz},H x=some (.lst xs)->H' x=some (.lst xs):=λ e=>N e (λ_ z=>nomatch z);have tb:TabOk E9 DS tb2 H':=by
  obtain⟨ps,e,t,c⟩:=h.tb;refine⟨ps,N e (λ_ z=>nomatch z),t,?_⟩;rcases c with c|⟨c',c1,c2⟩
  .exact .inl c
  .exact .inr ⟨c',c1,N c2 (λ_ z=>by cases z)⟩
 exact⟨⟨k.i _ _ _ _ h.bn.ob,L h.bn.lst,λ t ht=>k.t _ _ (h.bn.stk t ht),L h.bn.tak,λ t ht=>⟨k.t _ _ (h.bn.tks t ht).1,N (h.bn.tks t ht).2.1 (λ_ z=>nomatch z),(h.bn.tks t ht).2.2.tups k.t⟩,h.bn.dis⟩,L h.hq,h.nq,L h.hz,λ t ht=>k.t _ _ (h.za t ht),L h.hp,λ t ht=>(h.po t ht).tups k.t,L h.hk,λ e he=>(h.ko e he).k k ((L (h.ko e he).f).trans (h.ko e he).f.symm) ((L (h.ko e he).w).trans (h.ko e he).w.symm),h.kn,tb,h.ns,h.nl,h.nt⟩
theorem LwI.cut(h:LwI cW cU cL tb2 C sh a0 dx ls lt pA kA zt ss tn ps ks pL pv H){c:Addr}{tn':List Tk1}(s:SameX c H H')(m:Mv H c)(hc:c=lt\/∃ks,H c=some (.dT ks))(bn:BnAt C a0 dx ls lt H' ss tn'):LwI cW cU cL tb2 C sh a0 dx ls lt pA kA zt ss tn' ps ks pL pv H':=by
 have k:=KpT.x s m;have L:∀{x:Addr}{xs:LUz},H x=some (.lst xs)->x≠lt->H' x=some (.lst xs):=λ{x xs} e n=>s _ _ (λ z=>by
  rcases hc with hc|⟨_,hc⟩
  .exact n (z.trans hc)
  .rw[z,hc]at e;cases e) e
 have n3:∀{x:Addr},x∉[lt,pA,kA]->x≠lt:=λ n z=>n (by rw[z];simp);exact⟨bn,L h.hq (n3 h.nq),h.nq,L h.hz (n3 h.ns),λ t ht=>k.t _ _ (h.za t ht),L h.hp (Ne.symm h.nt.1),λ t ht=>(h.po t ht).tups k.t,L h.hk (Ne.symm h.nt.2.1),λ e he=>(h.ko e he).k k ((L (h.ko e he).f (n3 (h.kn e he).1)).trans (h.ko e he).f.symm) ((L (h.ko e he).w (n3 (h.kn e he).2)).trans (h.ko e he).w.symm),h.kn,TabOk.mv h.tb s m,h.ns,h.nl,h.nt⟩
theorem BnAt.x(h:BnAt C a0 dx ls lt H ss tn){c:Addr}{xs:LUz}(s:SameX c H H')(hc:H c=some (.lst xs))(n1:ls≠c)(n2:lt≠c):BnAt C a0 dx ls lt H' ss tn:=by
 have k:=KpT.x s (.inl ⟨_,hc⟩);exact⟨k.i _ _ _ _ h.ob,s _ _ n1 h.lst,λ t ht=>k.t _ _ (h.stk t ht),s _ _ n2 h.tak,λ t ht=>⟨k.t _ _ (h.tks t ht).1,s _ _ (λ z=>by have:=(h.tks t ht).2.1;rw[z,hc]at this;cases this) (h.tks t ht).2.1,(h.tks t ht).2.2.tups k.t⟩,h.dis⟩
theorem LwI.pane(h:LwI cW cU cL tb2 C sh a0 dx ls lt pA kA zt ss tn ps ks pL pv H){t:Of1}(ht:OfAt H t):LwI cW cU cL tb2 C sh a0 dx ls lt pA kA zt ss tn (ps++[t]) ks pL pv (upd H pA (.lst (Ai ps++[.ref t.1]))):=by
 have s:SameX pA H (upd H pA (.lst (Ai ps++[.ref t.1]))):=SameX.upd;have e:(upd H pA (.lst (Ai ps++[.ref t.1]))) pA=some (.lst (Ai (ps++[t]))):=by rw[upd_same];unfold Ai;rw[List.map_append];rfl
 generalize upd H pA (.lst (Ai ps++[.ref t.1]))=H' at s e |-;have m:Mv H pA:=.inl ⟨_,h.hp⟩;have k:=KpT.x s m;have n3:∀{x:Addr},x∉[lt,pA,kA]->x≠pA:=λ n z=>n (by rw[z];simp);exact⟨h.bn.x s h.hp (n3 h.nl) h.nt.1,s _ _ (n3 h.nq) h.hq,h.nq,s _ _ (n3 h.ns) h.hz,λ t ht=>k.t _ _ (h.za t ht),e,λ t' ht'=>(List.mem_append.mp ht').elim (λ z=>(h.po t' z).tups k.t) (λ z=>by rw[List.mem_singleton.mp z];exact ht.tups k.t),s _ _ (Ne.symm h.nt.2.2) h.hk,λ e he=>(h.ko e he).k k ((s _ _ (n3 (h.kn e he).1) (h.ko e he).f).trans (h.ko e he).f.symm) ((s _ _ (n3 (h.kn e he).2) (h.ko e he).w).trans (h.ko e he).w.symm),h.kn,TabOk.mv h.tb s m,h.ns,h.nl,h.nt⟩
theorem LwI.keep(h:LwI cW cU cL tb2 C sh a0 dx ls lt pA kA zt ss tn ps ks pL pv H){e:Kp1}(he:KpAt cW cU cL H e)(n:e.2.1∉[lt,pA,kA]/\e.2.2.1∉[lt,pA,kA]):LwI cW cU cL tb2 C sh a0 dx ls lt pA kA zt ss tn ps (ks++[e]) pL pv (upd H kA (.lst (Ai ks++[.ref e.1]))):=by
 have s:SameX kA H (upd H kA (.lst (Ai ks++[.ref e.1]))):=SameX.upd;have e1:(upd H kA (.lst (Ai ks++[.ref e.1]))) kA=some (.lst (Ai (ks++[e]))):=by rw[upd_same];unfold Ai;rw[List.map_append];rfl
 generalize upd H kA (.lst (Ai ks++[.ref e.1]))=H' at s e1 |-;have m:Mv H kA:=.inl ⟨_,h.hk⟩;have k:=KpT.x s m;have n3:∀{x:Addr},x∉[lt,pA,kA]->x≠kA:=λ n z=>n (by rw[z];simp);have go:∀e:Kp1,KpAt cW cU cL H e->e.2.1∉[lt,pA,kA]->e.2.2.1∉[lt,pA,kA]->KpAt cW cU cL H' e:=λ e he a b=>he.k k ((s _ _ (n3 a) he.f).trans he.f.symm) ((s _ _ (n3 b) he.w).trans he.w.symm);exact⟨h.bn.x s h.hk (n3 h.nl) h.nt.2.1,s _ _ (n3 h.nq) h.hq,h.nq,s _ _ (n3 h.ns) h.hz,λ t ht=>k.t _ _ (h.za t ht),s _ _ h.nt.2.2 h.hp,λ t ht=>(h.po t ht).tups k.t,e1,λ e' he'=>(List.mem_append.mp he').elim (λ z=>go e' (h.ko e' z) (h.kn e' z).1 (h.kn e' z).2) (λ z=>by rw[List.mem_singleton.mp z];exact go e he n.1 n.2),λ e' he'=>(List.mem_append.mp he').elim (h.kn e') (λ z=>by rw[List.mem_singleton.mp z];exact n),TabOk.mv h.tb s m,h.ns,h.nl,h.nt⟩
end
abbrev Mk1:=Addr×Addr×Int×Int×Rk
def MkAt(H:Hp)(t:Mk1):Prop:=H t.1=some (.tup [.int t.2.2.1,.int t.2.2.2.1,.ref t.2.1])/\H t.2.1=some (.tup t.2.2.2.2.vs)
def toM(t:Mk1):Rwt:=(t.1,[t.2.2.1,t.2.2.2.1],t.2.1,[t.2.2.2.2.t,t.2.2.2.2.l,t.2.2.2.2.b,t.2.2.2.2.r])
def NM(y:Int×Int×Rk):Int:=Ju [y.1,y.2.1,y.2.2.t,y.2.2.l,y.2.2.b,y.2.2.r]
def MOk(y:Int×Int×Rk):Prop:=(0<=y.2.1/\y.2.1<=999)/\AG y.2.2
theorem OP{y y':Int×Int×Rk}(h:MOk y)(h':MOk y')(e:NM y=NM y'):y=y':=by
 obtain⟨m,k,p⟩:=y;obtain⟨m',k',p'⟩:=y';obtain⟨a,b⟩:=K7 (n:=m*1000+k) (n':=m'*1000+k') (Cs h.2) (Cs h'.2) e;have h1:0<=k/\k<=999:=h.1;have h1':0<=k'/\k'<=999:=h'.1;obtain⟨rfl,rfl⟩:m=m'/\k=k':=by lia
 rw[show p=p' from Rk.ext4 b]
theorem Si{L M:List (Int×Int×Rk)}(ok:∀y∈L,MOk y)(pm:L.Perm M)(r1:(L.map NM).Pairwise (·<=·))(r2:(M.map NM).Pairwise (·<=·)):L=M:=by
 rw[List.pairwise_map]at r1 r2;exact List.Perm.eq_of_pairwise (λ a b ha hb h1 h2=>OP (ok a ha) (ok b (pm.mem_iff.mpr hb)) (Int.le_antisymm h1 h2)) r1 r2 pm
theorem Pd:∀{k:Int}{P:LK},∀y∈enP k P,k<=y.1
 |_,[],y,h=>nomatch h
 |k,x::r,y,h=>by
  rw[enP]at h;rcases List.mem_cons.mp h with rfl|h
  .exact Int.le_refl _
  .have:=Pd (k:=k+1) (P:=r) y h;lia
theorem KJ:∀{k:Int}{P:LK},(∀y∈enP k P,MOk y)->((enP k P).map NM).Pairwise (·<=·)
 |_,[],_=>List.Pairwise.nil
 |k,x::r,h=>by
  rw[enP]at h |-;rw[List.map_cons,List.pairwise_cons];refine⟨λ z hz=>?_,KJ λ y hy=>h y (List.mem_cons_of_mem _ hy)⟩;obtain⟨y,hy,rfl⟩:=List.mem_map.mp hz;have h1:=Pd (k:=k+1) y hy;obtain⟨a1,a2⟩:=h _ List.mem_cons_self;obtain⟨b1,b2⟩:=h y (List.mem_cons_of_mem _ hy);have b:=Cs a2;have b':=Cs b2;obtain⟨m',k',p'⟩:=y;simp only[NM,Ju]at *;lia
def mkD(y:Int×Int×Rk):D:=.tup (.cons (.at (.int y.1)) (.cons (.at (.int y.2.1)) (.cons (.tup (AO [y.2.2.t,y.2.2.l,y.2.2.b,y.2.2.r])) .nil)))
def K0:List (Int×Int×Rk)->Ds
 |[]=>.nil
 |y::r=>.cons (mkD y) (K0 r)
theorem Jp{K:Frag}{H:Hp}:∀(ts:List Mk1),(∀t∈ts,MkAt H t)->DIss K H (K0 (ts.map λ t:Mk1=>t.2.2)) (Ai ts)
 |[],_=>by show DIss K H .nil [];rw[DIss]
 |t::r,h=>by
  show DIss K H (.cons (mkD t.2.2) (K0 (r.map λ t:Mk1=>t.2.2))) (.ref t.1::Ai r);obtain⟨h1,h2⟩:=h t List.mem_cons_self;rw[DIss];refine⟨_,_,rfl,?_,Jp r λ u hu=>h u (List.mem_cons_of_mem _ hu)⟩;unfold mkD;rw[DIs];refine⟨_,_,rfl,SqT.of h1,?_⟩;rw[DIss];refine⟨_,_,rfl,by rw[DIs];exact⟨rfl,rfl⟩,?_⟩;rw[DIss];refine⟨_,_,rfl,by rw[DIs];exact⟨rfl,rfl⟩,?_⟩;rw[DIss];refine⟨_,_,rfl,?_,by rw[DIss]⟩;rw[DIs];exact⟨_,_,rfl,SqT.of h2,B8 [t.2.2.2.2.t,t.2.2.2.2.l,t.2.2.2.2.b,t.2.2.2.2.r]⟩
theorem Kz:∀(L:List (Int×Int×Rk)),Bi (K0 L)<=5
 |[]=>by rw[K0,Bi];lia
 |y::r=>by
  have:=Kz r;rw[K0,Bi,mkD,dep,Bi,Bi,Bi,Bi,dep,dep,dep,B4];lia
theorem MkAt.tups{H H':Hp}(s:∀a xs,H a=some (.tup xs)->H' a=some (.tup xs)){t:Mk1}(h:MkAt H t):MkAt H' t:=⟨s _ _ h.1,s _ _ h.2⟩
theorem SmAt.tups{H H':Hp}(s:∀a xs,H a=some (.tup xs)->H' a=some (.tup xs)){t:Sm1}(h:SmAt H t):SmAt H' t:=⟨s _ _ h.1,s _ _ h.2⟩
def TcI(ms:List (Int×Tr))(H2:Hp)(i:Nat)(zs':LUz)(σ':St)(H':Hp):Prop:=(∃u v,σ'=[u,v])/\Same H2 H'/\∃us:LA,zs'=Ai us/\us.length=i/\∀(j:Nat)(x:Addr×V)(m:Int×Tr),us[j]?=some x->ms[j]?=some m->H' x.1=some (.tup [.int m.1,x.2])/\Told H' m.2 x.2
theorem M6{ms:List (Int×Tr)}{H2 H' H3:Hp}{n i:Nat}{zs':LUz}{σ':St}{acc r1:Addr}{m:Int×Tr}{v3:V}{u v:Option V}(hi:i<n)(n1:n<=1000)(hl':zs'.length=i)(hm:ms[i]?=some m)(hacc:H2 acc=none)(hacc':H' acc=some (.lst zs'))(I:TcI ms H2 i zs' σ' H')(s3:Same H' H3)(told3:Told H3 m.2 v3)(nr1:H3 r1=none):cNx acc n (TcI ms H2) i [u,v] (.ref r1) (upd H3 r1 (.tup [.int m.1,v3])):=by
 obtain⟨_,hs,us,rfl,ul,hus⟩:=I;obtain⟨H4,g,s4,f4⟩:=nw (.tup [.int m.1,v3]) nr1;rw[g];have s34:=s3.trans s4;have a4:=s34 _ _ hacc';have kt:KpT H4 (upd H4 acc (.lst (Ai us++[.ref r1]))):=KpT.x SameX.upd (.inl ⟨_,a4⟩);refine cNx.mk (Nat.le_of_lt (Ap n1)) hi hl' a4 ⟨⟨_,_,rfl⟩,λ d o e=>by rw[Ae (Af e hacc)];exact s34 _ _ (hs d o e),us++[(r1,v3)],by rw[Ai,Ai,List.map_append];rfl,by rw[List.length_append,List.length_singleton,ul],λ j y m' hj hm'=>?_⟩;rcases Nat.lt_or_ge j us.length with jl|jl
 .rw[List.getElem?_append_left jl]at hj;obtain⟨b1,b2⟩:=hus j y m' hj hm';exact⟨kt.t _ _ (s34 _ _ b1),Told.k kt (b2.same s34)⟩
 .have ej:j=us.length:=by
   rcases Nat.lt_or_ge us.length j with h|h
   .rw[List.getElem?_eq_none (by rw[List.length_append,List.length_singleton];lia)]at hj;cases hj
   .lia
  subst ej;rw[List.getElem?_append_right (Nat.le_refl _),Nat.sub_self]at hj;cases hj;rw[ul,hm]at hm';cases hm';exact⟨kt.t _ _ f4,Told.k kt (told3.same s4)⟩
def LwJ(cW cU cL tb2 C a sh a0 dx ls lt pA kA:Addr)(zt ss:LZ)(zs:LI)(m:Int)(pL:Addr)(pv:LUz)(x2:Option V)(i:Nat)(σ:St)(H':Hp):Prop:=∃(tn:List Tk1)(M:List Sh1)(ps:List Of1)(ks:List Kp1)(y3 y8 y9 y10 y11 y12 y13 y14 y15:Option V),σ=[some (.ref a),some (.ref sh),x2,y3,some (.ref a0),some (.int m),some (.ref pA),some (.ref kA),y8,y9,y10,y11,y12,y13,y14,y15,none,none,none,none,none]/\LwI cW cU cL tb2 C sh a0 dx ls lt pA kA zt ss tn ps ks pL pv H'/\LwP zs tn M (ps.map λ t:Of1=>t.2.2) i/\ks.length<=i
theorem Ry(ns:List Int):∃cs:List Int,Ht (ns.map V.int) (some 6) (some 56)=cs.map V.int/\cs.length<=50:=by
 unfold Ht;refine⟨(ns.drop (HT.sIx (ns.map V.int).length 0 (some 6))).take (HT.sIx (ns.map V.int).length (ns.map V.int).length (some 56)-HT.sIx (ns.map V.int).length 0 (some 6)),by rw[<-List.map_drop,<-List.map_take],?_⟩;rw[List.length_take,List.length_drop,List.length_map];unfold HT.sIx;simp only[];rw[if_neg (by lia),if_neg (by lia)];show min (min (56:Int).toNat ns.length-min (6:Int).toNat ns.length) _<=50;lia
abbrev EK:LSz:=["_law_script","_law_sheets","_law_k","_law_cell_here","_law_bench","_law_most","_law_panes","_law_kept","_law_state_here","_law_found","_law_width","_law_height","_law_turns","_law_told_here","_law_size","_law_was","_law_some","_law_marked","_law_offcuts","_law_full","_law_cleft"]
theorem S2:Aq EK ["_law_script"] (Ag Bu):=fsc
inductive Np(tb2:Addr)(K:Frag)(vs:LUz)(H:Hp)(Q:VK)(E:XK):Prop
 |mk (a:Addr) (ns:List Int) (h0:vs=[.ref a]) (h1:SqL K H a (ns.map V.int)) (h2:ns.length<=63) (h3:H tb2=some (.tbl #[])) (h4:∀H',Q (.bl true) H'):Np tb2 K vs H Q E
def sp_law(tb2:Addr)(K:Frag) :Sp:=λ vs H Q E=>Np tb2 K vs H Q E
theorem Ri{f tb2:Addr}{fd:FuncData}{C:Addr}(F:Fun K "law" "law" Bu f fd)(T:Txt mg tk)(K_Bench:M0 P w K mg base 5 "Bench" C ["self","sheets"] (Kg C))(D__law_cell:A5 P w K mg base 1 "_law_cell" ["_law_script","_law_k"] (MC K))(D__law_draw:A5 P w K mg base 1 "_law_draw" ["_law_cell_here","_law_nth","_law_many"] IS)(D__law_state:A5 P w K mg base 1 "_law_state" ["_law_cell_here"] Kb)(D__law_pick:A5 P w K mg base 2 "_law_pick" ["_law_state_here","_law_many"] MA)(D__law_told:A5 P w K mg base 27 "_law_told" ["_law_tree"] (CC cW cU cL 24))(D__law_asked:A5 P w K mg base 6 "_law_asked" ["_law_bench","_law_width","_law_height","_law_turns"] (HR C))(D__law_taken:A5 P w K mg base 28 "_law_taken" ["_law_found","_law_sheets"] (EU cW cU cL))(D__law_area:A5 P w K mg base 1 "_law_area" ["_law_block"] Gb)(M_Bench_sheets:GZ P w K mg base 6 C "sheets" ["self"] (DW tb2 C cW cU cL))(M_Bench_offcuts:GZ P w K mg base 2 C "offcuts" ["self"] (CN C))(M_Bench_areas:GZ P w K mg base 3 C "areas" ["self"] (Kf C)) :
  A8 P w K mg base CX0 29 f fd ["_law_script"] (sp_law tb2 K):=by
 have S:=S2;refine F.ok S (λ vs H Q E h=>?_) (λ cdv A outer s H vs Q E hr h=>?_)
 .obtain⟨a,ns,rfl,_⟩:=h;rfl
 .obtain⟨a,ns,rfl,hS0,hlen,htb,q⟩:=h;obtain⟨tE,hE,kE⟩:∃rd,PSs (Cd CX0 P w K mg base EK "law" (Ag Bu) f cdv A outer s H E).nox ((A4 Bu).drop 12) rd/\∀(a0 dx ls lt pA sA:Addr)(ss:LZ)(zs:LI)(tn:List Tk1)(M:List Sh1)(ps:List Of1)(ys:List Sm1)(n:Nat)(x1 x2 x3 x5 x7 x8 x9 x10 x11 x12 x13 x14 x15 x17:Option V)(H1:Hp),
    BnAt C a0 dx ls lt H1 ss tn->ss.map (λ t=>t.2)=zs->LwP zs tn M (ps.map λ t:Of1=>t.2.2) n->n<=55->H1 pA=some (.lst (Ai ps))->(∀t∈ps,OfAt H1 t)->H1 sA=some (.lst (Ai ys))->(∀y∈ys,SmAt H1 y)->ys.map (λ y=>y.2.2)=tg zs 0 M ->
    rd { nx:=λ_ H'=>Q .non H',rt:=Q } [some (.ref a),x1,x2,x3,some (.ref a0),x5,some (.ref pA),x7,x8,x9,x10,x11,x12,x13,x14,x15,some (.ref sA),x17,none,none,none] H1:=by
   refine⟨_,(Ac (As (i:=18) S.nd rfl (Or.inl rfl) (At (CZ hr) rfl T.z_sorted rfl (Aa (CF rfl (AL (pv 16)) (λ_ _ _ _ _=>(AV (K:=K) (n:=3) rfl (Am (An (i:=0) (show List.Nodup (["_law_k","_law_block","_law_mark"]:LSz) from by decide +kernel) rfl (Or.inl rfl)) (Am (An (i:=1) (show List.Nodup (["_law_k","_law_block","_law_mark"]:LSz) from by decide +kernel) rfl (Or.inl rfl)) (Am (An (i:=2) (show List.Nodup (["_law_k","_law_block","_law_mark"]:LSz) from by decide +kernel) rfl (Or.inl rfl)) AB))))) (λ_ _ _ _ _=>(Ax EZ (pv 2) AY (Az _))) (λ_ _ _ _ _=>(Av (Aa (pv 0) (Aa (pv 1) Ab)))) (N:=["_law_k","_law_block","_law_mark"]) (fr:=[none,none,none])) Ab)))
   (Ac (As (i:=19) S.nd rfl (Or.inl rfl) (At CK rfl T.z_sum rfl (Aa (Bt rfl (AL (pv 16)) (λ_ _ _ _ _=>(AV (K:=K) (n:=3) rfl (Am (An (i:=0) (show List.Nodup (["_law_k","_law_block","_law_mark"]:LSz) from by decide +kernel) rfl (Or.inl rfl)) (Am (An (i:=1) (show List.Nodup (["_law_k","_law_block","_law_mark"]:LSz) from by decide +kernel) rfl (Or.inl rfl)) (Am (An (i:=2) (show List.Nodup (["_law_k","_law_block","_law_mark"]:LSz) from by decide +kernel) rfl (Or.inl rfl)) AB))))) (λ_ _ _ _ _=>(Aw D__law_area hr (Aa (pv 1) Ab))) (N:=["_law_k","_law_block","_law_mark"]) (fr:=[none,none,none])) Ab)))
   (Ac (As (i:=20) S.nd rfl (Or.inl rfl) (At CK rfl T.z_sum rfl (Aa (Bt rfl (AL (pv 6)) (λ_ _ _ _ _=>(AV (K:=K) (n:=2) rfl (Am (An (i:=0) (show List.Nodup (["_law_k","_law_block"]:LSz) from by decide +kernel) rfl (Or.inl rfl)) (Am (An (i:=1) (show List.Nodup (["_law_k","_law_block"]:LSz) from by decide +kernel) rfl (Or.inl rfl)) AB)))) (λ_ _ _ _ _=>(Aw D__law_area hr (Aa (pv 1) Ab))) (N:=["_law_k","_law_block"]) (fr:=[none,none])) Ab)))
   (Ah (Ar (CY (Cr (OE hr) (C4 M_Bench_offcuts hr (pv 4)) (pv 18) (Az _)) (Du (Cr (OE hr) (C4 M_Bench_areas hr (pv 4)) (Av (Aa (pv 19) (Aa (pv 20) (Aa (A6 BX (pv 19) (pv 20)) Ab)))) (Az _))))))))),?_⟩
   intro a0 dx ls lt pA sA ss zs tn M ps ys n x1 x2 x3 x5 x7 x8 x9 x10 x11 x12 x13 x14 x15 x17 H1 bn es lw n55 hpA hps hsA hys ey;have pmT:(tg zs 0 M).Perm (whs 0 (tn.map λ t=>t.2.2.2.2)):=by rw[lw.kv];exact FD λ x hx=>(lw.bt.sh x hx).2.2
   have yl:ys.length<=165:=by
    have h1:=congrArg List.length ey;rw[List.length_map,pmT.length_eq]at h1;have:=lw.n3;lia
   have pl:ps.length<=55:=by have:=lw.n4;rw[List.length_map]at this;lia
   have yk:∀y∈ys,AG y.2.2.2.1:=λ y hy=>(lw.wh (i:=y.2.2.1) (p:=y.2.2.2.1) (m:=y.2.2.2.2) (pmT.mem_iff.mp (by rw[<-ey];exact List.mem_map.mpr ⟨y,hy,rfl⟩))).1;have pk:∀t∈ps,AG t.2.2.2:=λ t ht=>lw.pans _ (by
    rw[lw.kv,E8];have h1:t.2.2.2∈(enP 0 (ps.map λ t:Of1=>t.2.2)).map λ x=>x.2.2:=by rw[J2,List.map_map];exact List.mem_map.mpr ⟨t,ht,rfl⟩
    exact(lw.bt.mo.map _).mem_iff.mpr h1)
   refine⟨_,rfl,sA,rfl,⟨_,SqL.of hsA⟩,λ acc hacc=>BM (K:=K) (a:=sA) (ys:=Ai ys) (λ i zs' σ' H'=>(∃u v w',σ'=[u,v,w'])/\Same H1 H'/\∃us:List Of1,zs'=Ai us/\(∀t∈us,OfAt H' t)/\us.map (λ t:Of1=>t.2.2)=A9 ((ys.map λ y=>y.2.2).take i)) ⟨⟨none,none,none,rfl⟩,Same.new hacc,[],rfl,(λ t ht=>nomatch ht),rfl⟩ (λ i zs' σ' H' _ _ hp=>SqL.of (hp.2.1 _ _ hsA)) ?_ ?_⟩
   .rintro i x zs' σ' H' hx hi hl' hacc' ⟨⟨u0,v0,w0,rfl⟩,hs,us,rfl,wu,eu⟩;obtain⟨t,ht,rfl⟩:=AC hx;obtain⟨w1,w2⟩:=(hys t (List.mem_of_getElem? ht)).tups λ x xs e=>hs _ _ e;obtain⟨ta,tb,ti,tp,tm⟩:=t;have tk1:(ys.map λ y=>y.2.2).take (i+1)=(ys.map λ y=>y.2.2).take i++[(ti,tp,tm)]:=by rw[List.take_succ,List.getElem?_map,ht];rfl
    refine⟨ta,_,rfl,SqT.of w1,rfl,_,_,rfl,_,_,rfl,_,_,rfl,rfl,?_⟩;cases tm with
    |none =>
     refine⟨_,rfl,rfl,true,congrArg V.bl (decide_eq_true rfl),?_⟩;refine⟨_,rfl,_,rfl,Au 2,λ r1 nr1=>?_⟩;obtain⟨H4,g,s4,f4⟩:=nw (.tup [.int ti,.ref tb]) nr1;rw[g];have a4:=s4 _ _ hacc';refine fNx.mk (Nat.le_of_lt (Ap (by rw[Al];lia))) hi hl' a4 ⟨⟨_,_,_,rfl⟩,λ d o e=>by rw[Ae (Af e hacc)];exact s4 _ _ (hs d o e),us++[(r1,tb,ti,tp)],by rw[Ai,Ai,List.map_append];rfl,λ u hu=>?_,?_⟩
     .rcases List.mem_append.mp hu with hu|hu
      .exact((wu u hu).tups λ x xs e=>s4 _ _ e).tups λ x xs e=>Bk e a4
      .rw[List.mem_singleton.mp hu];exact⟨Bk f4 a4,Bk (s4 _ _ w2) a4⟩
     .rw[List.map_append,eu,tk1,Ib];rfl
    |some m =>
     refine⟨_,rfl,rfl,false,congrArg V.bl (decide_eq_false (by intro z;cases z)),?_⟩;refine fSk.mk hi hl' hacc' ⟨⟨_,_,_,rfl⟩,hs,us,rfl,wu,?_⟩;rw[eu,tk1,Ib];exact(List.append_nil _).symm
   .rintro zs' σ' H2 hl' hacc' ⟨_,s2,us,rfl,wu,eu⟩;rw[Al,<-List.length_map (f:=λ y:Sm1=>y.2.2),List.take_length,ey]at eu;have pmO:(us.map λ t:Of1=>t.2.2).Perm (A9 (whs 0 (tn.map λ t=>t.2.2.2.2))):=by
     rw[eu];exact pmT.filterMap _
    have uk:∀u∈us,AG u.2.2.2:=λ u hu=>(lw.offs u.2.2 (pmO.mem_iff.mp (List.mem_map.mpr ⟨u,hu,rfl⟩))).1;have rr:Ai us=(us.map toR).map λ t=>V.ref t.1:=by rw[List.map_map];rfl
    refine⟨acc,us.map toR,0,3,Jv,rfl,by rw[<-rr];exact SqL.of hacc',λ t ht=>?_,λ t ht u hu=>?_,λ l3 ts3 nl3 pm3 srt=>?_⟩
    .obtain⟨x,hx,rfl⟩:=List.mem_map.mp ht;exact⟨(wu x hx).1,(wu x hx).2,rfl,rfl⟩
    .obtain⟨x,hx,rfl⟩:=List.mem_map.mp ht;obtain⟨y,hy,rfl⟩:=List.mem_map.mp hu;exact Rn (Cs (uk x hx)) (Cs (uk y hy))
    obtain⟨us3,pu,rfl⟩:=E5 (f:=toR) (l:=ts3) (m:=us.map toR) pm3 us rfl;have r2:((us3.map toR).map λ t=>V.ref t.1)=Ai us3:=by rw[List.map_map];rfl
    rw[r2];obtain⟨H3,g,s3,e3⟩:=nw (.lst (Ai us3)) nl3;rw[g];rw[List.map_map]at srt;have s13:=s2.trans s3;have sA3:=s13 _ _ hsA;have wu3:∀t∈us3,OfAt H3 t:=λ t ht=>(wu t (pu.mem_iff.mp ht)).tups λ x xs e=>s3 _ _ e;have pm3':=(pu.map λ t:Of1=>t.2.2).trans pmO;refine⟨_,rfl,sA,rfl,⟨_,SqL.of sA3⟩,λ acc4 hacc4=>AU (K:=K) (a:=sA) (ys:=Ai ys) (λ i zs' σ' H'=>(∃u v w',σ'=[u,v,w'])/\Same H3 H'/\zs'=(((ys.take i).map λ y=>arR y.2.2.2.1).map V.int)) ⟨⟨none,none,none,rfl⟩,Same.new hacc4,rfl⟩ (λ i zs' σ' H' _ _ hp=>SqL.of (hp.2.1 _ _ sA3)) ?_ ?_⟩
    .rintro i x zs' σ' H' hx hi hl' hacc4' ⟨⟨u0,v0,w0,rfl⟩,hs,rfl⟩;obtain⟨t,ht,rfl⟩:=AC hx;obtain⟨w1,w2⟩:=(hys t (List.mem_of_getElem? ht)).tups λ x xs e=>(s13.trans hs) _ _ e;refine⟨t.1,_,rfl,SqT.of w1,rfl,_,_,rfl,_,_,rfl,_,_,rfl,rfl,_,rfl,t.2.1,t.2.2.2.1,rfl,w2,yk t (List.mem_of_getElem? ht),?_⟩;refine cNx.mk (Nat.le_of_lt (Ap (by rw[Al];lia))) hi hl' hacc4' ⟨⟨_,_,_,rfl⟩,λ d o e=>by rw[Ae (Af e hacc4)];exact hs d o e,?_⟩;rw[List.take_succ,ht,List.map_append,List.map_append];rfl
    .rintro zs' σ' H4 hl' hacc4' ⟨_,s4,rfl⟩;rw[Al,List.take_length]at hacc4';refine⟨acc4,_,rfl,SqL.of hacc4',rfl,?_⟩;have s14:=s13.trans s4;have pA4:=s14 _ _ hpA;refine⟨_,rfl,pA,rfl,⟨_,SqL.of pA4⟩,λ acc5 hacc5=>AU (K:=K) (a:=pA) (ys:=Ai ps) (λ i zs' σ' H'=>(∃u v,σ'=[u,v])/\Same H4 H'/\zs'=(((ps.take i).map λ t:Of1=>arR t.2.2.2).map V.int)) ⟨⟨none,none,rfl⟩,Same.new hacc5,rfl⟩ (λ i zs' σ' H' _ _ hp=>SqL.of (hp.2.1 _ _ pA4)) ?_ ?_⟩
     .rintro i x zs' σ' H' hx hi hl' hacc5' ⟨⟨u0,v0,rfl⟩,hs,rfl⟩;obtain⟨t,ht,rfl⟩:=AC hx;obtain⟨w1,w2⟩:=(hps t (List.mem_of_getElem? ht)).tups λ x xs e=>(s14.trans hs) _ _ e;refine⟨t.1,_,rfl,SqT.of w1,rfl,_,_,rfl,_,_,rfl,rfl,_,rfl,t.2.1,t.2.2.2,rfl,w2,pk t (List.mem_of_getElem? ht),?_⟩;refine cNx.mk (Nat.le_of_lt (Ap (by rw[Al];lia))) hi hl' hacc5' ⟨⟨_,_,rfl⟩,λ d o e=>by rw[Ae (Af e hacc5)];exact hs d o e,?_⟩;rw[List.take_succ,ht,List.map_append,List.map_append];rfl
     .rintro zs' σ' H5 hl' hacc5' ⟨_,s5,rfl⟩;rw[Al,List.take_length]at hacc5';refine⟨acc5,_,rfl,SqL.of hacc5',rfl,?_⟩;have s15:=s14.trans s5;have bn5:=bn.same s15;have bok:=lw.bok n55;have pok:∀y∈A9 (whs 0 (tn.map λ t=>t.2.2.2.2)),AG y.2:=λ y hy=>(lw.offs y hy).1;refine⟨_,rfl,a0,dx,_,rfl,bn5.ob,Ca _ _ (by decide +kernel) (by decide +kernel),a0,dx,ls,lt,ss,tn,rfl,bn5,bok,pok,λ l6 us6 H6 s6 nl6 hl6 wf6 pm6 srt6=>?_⟩;have eqL:us6.map (λ t:Of1=>t.2.2)=us3.map (λ t:Of1=>t.2.2):=by
       refine PK (λ y hy=>pok y (pm6.mem_iff.mp hy)) (pm6.trans pm3'.symm) ?_ ?_
       .rw[List.map_map];exact srt6
       .rw[List.map_map];exact srt
      have s36:=s4.trans (s5.trans s6);have D1:DIs K H6 (.lst (Fo (us6.map λ t:Of1=>t.2.2))) (.ref l6):=by
       rw[DIs];exact⟨_,_,rfl,SqL.of hl6,Gj us6 wf6⟩
      have D2:DIs K H6 (.lst (Fo (us6.map λ t:Of1=>t.2.2))) (.ref l3):=by
       rw[DIs,eqL];exact⟨_,_,rfl,SqL.of (s36 _ _ e3),Gj us3 λ t ht=>(wu3 t ht).tups λ x xs e=>s36 _ _ e⟩
      refine⟨_,rfl,_,_,D1,D2,⟨_,rfl⟩,⟨_,rfl⟩,by have:=HU (us6.map λ t:Of1=>t.2.2);rw[dep];lia,_,rfl,BK (by rw[if_neg Bool.false_ne_true,Cp _ D1]) ?_⟩;have bn6:=bn5.same s6;refine⟨_,rfl,a0,dx,_,rfl,bn6.ob,Ca _ _ (by decide +kernel) (by decide +kernel),a0,dx,ls,lt,ss,tn,M.map (λ x=>zOf zs x.1),rfl,bn6,bok,(λ t ht=>lw.so _ (by rw[<-es];exact List.mem_map.mpr ⟨t,ht,rfl⟩)),pok,lw.pans,(λ i t ht=>?_),by rw[List.length_map,lw.ln],λ c7 H7 s7 e7=>?_⟩
      .obtain⟨x,hx,e1,e2⟩:=lw.at_ ht;obtain⟨k0,k1,_⟩:=lw.bt.sh x (List.mem_of_getElem? hx);refine⟨by rw[<-e1];exact k0,zOf zs x.1,by rw[List.getElem?_map,hx];rfl,?_⟩;rw[<-e1,es];exact Fm ⟨k0,k1⟩
      refine⟨_,rfl,_,rfl,_,rfl,_,rfl,_,_,rfl,rfl,Au 3,λ c8 n8=>?_⟩;have eF:((M.map λ x=>zOf zs x.1).map λ z=>z.2*z.1).sum=(ys.map λ y=>arR y.2.2.2.1).sum:=by
       rw[<-Ov 0 M,<-ey];unfold BS;rw[List.map_map,List.map_map];rfl
      have eC:BS (Bg (whs 0 (tn.map λ t=>t.2.2.2.2)))=(ps.map λ t:Of1=>arR t.2.2.2).sum:=by
       rw[lw.kv,E8,Ir (lw.bt.mo.map _),J2];unfold BS;rw[List.map_map,List.map_map];rfl
      have eO:BS ((A9 (whs 0 (tn.map λ t=>t.2.2.2.2))).map (·.2))=(ys.map λ y=>arR y.2.2.2.1).sum-(ps.map λ t:Of1=>arR t.2.2.2).sum:=by
       have h1:=GP (whs 0 (tn.map λ t=>t.2.2.2.2));have h2:=Ir (pmT.map λ x=>x.2.1);rw[Ov,eF]at h2;rw[<-h2,eC]at h1;lia
      rw[eF,eC,eO]at e7;generalize (ys.map λ y=>arR y.2.2.2.1).sum=A1 at e7 n8 |-;generalize (ps.map λ t:Of1=>arR t.2.2.2).sum=A2 at e7 n8 |-;obtain⟨H8,g,s8,e8⟩:=nw (.tup [.int A1,.int A2,(λ i j=>V.int (i-j)) A1 A2]) n8;rw[g];have D3:DIs K H8 (.tup (AO [A1,A2,A1-A2])) (.ref c7):=by rw[DIs];exact⟨_,_,rfl,SqT.of (s8 _ _ e7),B8 [A1,A2,A1-A2]⟩
      have D4:DIs K H8 (.tup (AO [A1,A2,A1-A2])) (.ref c8):=by rw[DIs];exact⟨_,_,rfl,SqT.of e8,B8 [A1,A2,A1-A2]⟩
      refine⟨_,_,D3,D4,⟨_,rfl⟩,⟨_,rfl⟩,by rw[dep,B4];lia,?_⟩;rw[if_neg Bool.false_ne_true,Cp _ D3];exact q H8
  obtain⟨tM,hM,kM⟩:∃rd,PSs (Cd CX0 P w K mg base EK "law" (Ag Bu) f cdv A outer s H E).nox ((A4 Bu).drop 10) rd/\∀(a0 dx ls lt pA sA:Addr)(ss:LZ)(zs:LI)(tn:List Tk1)(M:List Sh1)(ps:List Of1)(ys:List Sm1)(n:Nat)(x1 x2 x3 x5 x7 x8 x9 x10 x11 x12 x13 x14 x15:Option V)(H1:Hp),
    BnAt C a0 dx ls lt H1 ss tn->ss.map (λ t=>t.2)=zs->LwP zs tn M (ps.map λ t:Of1=>t.2.2) n->n<=55->H1 pA=some (.lst (Ai ps))->(∀t∈ps,OfAt H1 t)->H1 sA=some (.lst (Ai ys))->(∀y∈ys,SmAt H1 y)->ys.map (λ y=>y.2.2)=tg zs 0 M ->
    rd { nx:=λ_ H'=>Q .non H',rt:=Q } [some (.ref a),x1,x2,x3,some (.ref a0),x5,some (.ref pA),x7,x8,x9,x10,x11,x12,x13,x14,x15,some (.ref sA),none,none,none,none] H1:=by
   refine⟨_,(Ac (As (i:=17) S.nd rfl (Or.inl rfl) (At (CZ hr) rfl T.z_sorted rfl (Aa (CF rfl (AL (pv 16)) (λ_ _ _ _ _=>(AV (K:=K) (n:=3) rfl (Am (An (i:=0) (show List.Nodup (["_law_k","_law_block","_law_mark"]:LSz) from by decide +kernel) rfl (Or.inl rfl)) (Am (An (i:=1) (show List.Nodup (["_law_k","_law_block","_law_mark"]:LSz) from by decide +kernel) rfl (Or.inl rfl)) (Am (An (i:=2) (show List.Nodup (["_law_k","_law_block","_law_mark"]:LSz) from by decide +kernel) rfl (Or.inl rfl)) AB))))) (λ_ _ _ _ _=>(Ax FH (pv 2) AY (Az _))) (λ_ _ _ _ _=>(Av (Aa (pv 2) (Aa (pv 0) (Aa (pv 1) Ab))))) (N:=["_law_k","_law_block","_law_mark"]) (fr:=[none,none,none])) Ab)))
   (Ac (AJ (Ax (Je hr) (pv 17) (Bt rfl (DH rfl T.z_range (Aa (At AK rfl T.z_len rfl (Aa (pv 6) Ab)) Ab)) (λ_ _ _ _ _=>(An (i:=0) (show List.Nodup (["_law_k","_law_panes"]:LSz) from by decide +kernel) rfl (Or.inl rfl))) (λ_ _ _ _ _=>(Av (Aa (pv 0) (Aa (Ao (Ct (K:=K)) (Ao (Dy (K:=K)) (pv 1) (pv 0) (λ_ _=>rfl)) Ad (λ_ _=>rfl)) (Aa (Ao (Ct (K:=K)) (Ao (Dy (K:=K)) (pv 1) (pv 0) (λ_ _=>rfl)) Ad (λ_ _=>rfl)) Ab))))) (N:=["_law_k","_law_panes"]) (fr:=[none,some 6])) (Az _)) (Ah (Ar HY)) Ay)
   hE)),?_⟩
   intro a0 dx ls lt pA sA ss zs tn M ps ys n x1 x2 x3 x5 x7 x8 x9 x10 x11 x12 x13 x14 x15 H1 bn es lw n55 hpA hps hsA hys ey;have pmT:(tg zs 0 M).Perm (whs 0 (tn.map λ t=>t.2.2.2.2)):=by rw[lw.kv];exact FD λ x hx=>(lw.bt.sh x hx).2.2
   have yl:ys.length<=165:=by
    have h1:=congrArg List.length ey;rw[List.length_map,pmT.length_eq]at h1;have:=lw.n3;lia
   have pl:ps.length<=55:=by have:=lw.n4;rw[List.length_map]at this;lia
   have tnl:=lw.n1;refine⟨_,rfl,sA,rfl,⟨_,SqL.of hsA⟩,λ acc hacc=>BM (K:=K) (a:=sA) (ys:=Ai ys) (λ i zs' σ' H'=>(∃u v w',σ'=[u,v,w'])/\Same H1 H'/\∃us:List Mk1,zs'=Ai us/\(∀t∈us,MkAt H' t)/\us.map (λ t:Mk1=>t.2.2)=mkO ((ys.map λ y=>y.2.2).take i)) ⟨⟨none,none,none,rfl⟩,Same.new hacc,[],rfl,(λ t ht=>nomatch ht),rfl⟩ (λ i zs' σ' H' _ _ hp=>SqL.of (hp.2.1 _ _ hsA)) ?_ ?_⟩
   .rintro i x zs' σ' H' hx hi hl' hacc' ⟨⟨u0,v0,w0,rfl⟩,hs,us,rfl,wu,eu⟩;obtain⟨t,ht,rfl⟩:=AC hx;obtain⟨w1,w2⟩:=(hys t (List.mem_of_getElem? ht)).tups λ x xs e=>hs _ _ e;obtain⟨ta,tb,ti,tp,tm⟩:=t;have tk1:(ys.map λ y=>y.2.2).take (i+1)=(ys.map λ y=>y.2.2).take i++[(ti,tp,tm)]:=by rw[List.take_succ,List.getElem?_map,ht];rfl
    refine⟨ta,_,rfl,SqT.of w1,rfl,_,_,rfl,_,_,rfl,_,_,rfl,rfl,?_⟩;cases tm with
    |some m =>
     refine⟨_,rfl,rfl,true,congrArg V.bl (by rw[decide_eq_false (by intro z;cases z)];rfl),?_⟩;refine⟨_,rfl,_,rfl,_,rfl,Au 3,λ r1 nr1=>?_⟩;obtain⟨H4,g,s4,f4⟩:=nw (.tup [.int m,.int ti,.ref tb]) nr1;show fNx acc _ _ _ _ _ (upd H' r1 (.tup [.int m,.int ti,.ref tb]));rw[g];have a4:=s4 _ _ hacc';refine fNx.mk (Nat.le_of_lt (Ap (by rw[Al];lia))) hi hl' a4 ⟨⟨_,_,_,rfl⟩,λ d o e=>by rw[Ae (Af e hacc)];exact s4 _ _ (hs d o e),us++[(r1,tb,m,ti,tp)],by rw[Ai,Ai,List.map_append];rfl,λ u hu=>?_,?_⟩
     .rcases List.mem_append.mp hu with hu|hu
      .exact((wu u hu).tups λ x xs e=>s4 _ _ e).tups λ x xs e=>Bk e a4
      .rw[List.mem_singleton.mp hu];exact⟨Bk f4 a4,Bk (s4 _ _ w2) a4⟩
     .rw[List.map_append,eu,tk1,FJ];rfl
    |none =>
     refine⟨_,rfl,rfl,false,congrArg V.bl (by rw[decide_eq_true (show Bl none=V.non from rfl)];rfl),?_⟩;refine fSk.mk hi hl' hacc' ⟨⟨_,_,_,rfl⟩,hs,us,rfl,wu,?_⟩;rw[eu,tk1,FJ];exact(List.append_nil _).symm
   .rintro zs' σ' H2 hl' hacc' ⟨_,s2,us,rfl,wu,eu⟩;rw[Al,<-List.length_map (f:=λ y:Sm1=>y.2.2),List.take_length,ey]at eu;have pmO:(us.map λ t:Mk1=>t.2.2).Perm (mkO (whs 0 (tn.map λ t=>t.2.2.2.2))):=by
     rw[eu];exact pmT.filterMap _
    have pmP:(us.map λ t:Mk1=>t.2.2).Perm (enP 0 (ps.map λ t:Of1=>t.2.2)):=by
     refine pmO.trans ?_;rw[lw.kv];exact lw.bt.mo
    have uk:∀y∈us.map (λ t:Mk1=>t.2.2),MOk y:=λ y hy=>by
     obtain⟨⟨i,p,m⟩,hm,e⟩:=List.mem_filterMap.mp (pmO.mem_iff.mp hy);cases m with
     |none=>cases e
     |some m =>
      cases e;obtain⟨w1,w2,w3⟩:=lw.wh hm;exact⟨⟨w2,by show i<=999;lia⟩,w1⟩
    have uk':∀t∈us,MOk t.2.2:=λ t ht=>uk _ (List.mem_map.mpr ⟨t,ht,rfl⟩);have rr:Ai us=(us.map toM).map λ t=>V.ref t.1:=by rw[List.map_map];rfl
    refine⟨acc,us.map toM,1,3,Ju,rfl,by rw[<-rr];exact SqL.of hacc',λ t ht=>?_,λ t ht u hu=>?_,λ l3 ts3 nl3 pm3 srt=>?_⟩
    .obtain⟨x,hx,rfl⟩:=List.mem_map.mp ht;exact⟨(wu x hx).1,(wu x hx).2,rfl,rfl⟩
    .obtain⟨x,hx,rfl⟩:=List.mem_map.mp ht;obtain⟨y,hy,rfl⟩:=List.mem_map.mp hu;exact Sm (uk' x hx).1 (uk' y hy).1 (Cs (uk' x hx).2) (Cs (uk' y hy).2)
    obtain⟨us3,pu,rfl⟩:=E5 (f:=toM) (l:=ts3) (m:=us.map toM) pm3 us rfl;have r2:((us3.map toM).map λ t=>V.ref t.1)=Ai us3:=by rw[List.map_map];rfl
    rw[r2];obtain⟨H3,g,s3,e3⟩:=nw (.lst (Ai us3)) nl3;rw[g];rw[List.map_map]at srt;have s13:=s2.trans s3;have eq3:us3.map (λ t:Mk1=>t.2.2)=enP 0 (ps.map λ t:Of1=>t.2.2):=by
     have pm3':=(pu.map λ t:Mk1=>t.2.2).trans pmP;refine Si (λ y hy=>uk y ((pu.map λ t:Mk1=>t.2.2).mem_iff.mp hy)) pm3' ?_ (KJ λ y hy=>uk y (pmP.mem_iff.mpr hy));rw[List.map_map];exact srt
    have pA3:=s13 _ _ hpA;refine⟨_,rfl,_,rfl,pA,_,rfl,.inl (SqL.of pA3),_,rfl,by rw[Al];lia,by rw[Al];lia,λ acc4 hacc4=>Mj (lo:=0) (n:=((Ai ps).length:Int).toNat) (λ i zs' σ' H'=>(∃u,σ'=[u,some (.ref pA)])/\Same H3 H'/\∃vs:List Mk1,zs'=Ai vs/\(∀t∈vs,MkAt H' t)/\vs.map (λ t:Mk1=>t.2.2)=(enP 0 (ps.map λ t:Of1=>t.2.2)).take i) ⟨⟨none,rfl⟩,Same.new hacc4,[],rfl,(λ t ht=>nomatch ht),rfl⟩ ?_ ?_⟩
    .rintro i zs' σ' H' hi hl' hacc4' ⟨⟨u0,rfl⟩,hs,vs,rfl,wv,ev⟩;rw[Int.toNat_natCast,Al]at hi;obtain⟨t,ht⟩:∃t,ps[i]?=some t:=⟨_,List.getElem?_eq_getElem hi⟩;have s1':=s13.trans hs;obtain⟨w1,w2⟩:=(hps t (List.mem_of_getElem? ht)).tups λ x xs e=>s1' _ _ e;have ai:atI (Ai ps) (0+(i:Int))=some (.ref t.1):=by rw[Int.zero_add];exact B3 (by unfold Ai;rw[List.getElem?_map,ht];rfl)
     have sp:=SqL.of (K:=K) (s1' _ _ hpA);refine⟨_,rfl,_,rfl,_,rfl,pA,_,_,_,rfl,rfl,sp,ai,t.1,_,_,_,rfl,rfl,SqT.of w1,Bz,_,rfl,_,rfl,pA,_,_,_,rfl,rfl,sp,ai,t.1,_,_,_,rfl,rfl,SqT.of w1,By,Au 3,λ r1 nr1=>?_⟩;obtain⟨H4,g,s4,f4⟩:=nw (.tup [.int (0+(i:Int)),.int t.2.2.1,.ref t.2.1]) nr1;rw[g];have a4:=s4 _ _ hacc4';refine cNx.mk (Nat.le_of_lt (Ap (by rw[Int.toNat_natCast,Al];lia))) (by rw[Int.toNat_natCast,Al];exact hi) hl' a4 ⟨⟨_,rfl⟩,λ d o e=>by rw[Ae (Af e hacc4)];exact s4 _ _ (hs d o e),vs++[(r1,t.2.1,0+(i:Int),t.2.2.1,t.2.2.2)],by rw[Ai,Ai,List.map_append];rfl,λ u hu=>?_,?_⟩
     .rcases List.mem_append.mp hu with hu|hu
      .exact((wv u hu).tups λ x xs e=>s4 _ _ e).tups λ x xs e=>Bk e a4
      .rw[List.mem_singleton.mp hu];exact⟨Bk f4 a4,Bk (s4 _ _ w2) a4⟩
     .have:=Pe (k:=0) (P:=ps.map λ t:Of1=>t.2.2) (i:=i) (y:=t.2.2) (by rw[List.getElem?_map,ht];rfl);rw[List.map_append,ev,List.take_succ,this];rfl
    .rintro zs' σ' H4 hl' hacc4' ⟨_,s4,vs,rfl,wv,ev⟩;have el:((Ai ps).length:Int).toNat=(enP 0 (ps.map λ t:Of1=>t.2.2)).length:=by rw[Int.toNat_natCast,Al,J9,List.length_map]
     rw[el,List.take_length]at ev;have D1:DIs K H4 (.lst (K0 (enP 0 (ps.map λ t:Of1=>t.2.2)))) (.ref l3):=by
      rw[DIs,<-eq3];exact⟨_,_,rfl,SqL.of (s4 _ _ e3),Jp us3 λ t ht=>((wu t (pu.mem_iff.mp ht)).tups λ x xs e=>s3 _ _ e).tups λ x xs e=>s4 _ _ e⟩
     have D2:DIs K H4 (.lst (K0 (enP 0 (ps.map λ t:Of1=>t.2.2)))) (.ref acc4):=by
      rw[DIs,<-ev];exact⟨_,_,rfl,SqL.of hacc4',Jp vs wv⟩
     refine⟨_,_,D1,D2,⟨_,rfl⟩,⟨_,rfl⟩,by have:=Kz (enP 0 (ps.map λ t:Of1=>t.2.2));rw[dep];lia,_,rfl,AZ (by rw[if_pos rfl,Cp _ D2];rfl) ?_⟩;have s14:=s13.trans s4;exact kE a0 dx ls lt pA sA ss zs tn M ps ys n _ _ _ _ _ _ _ _ _ _ _ _ _ _ H4 (bn.same s14) es lw n55 (s14 _ _ hpA) (λ t ht=>(hps t ht).tups λ x xs e=>s14 _ _ e) (s14 _ _ hsA) (λ y hy=>(hys y hy).same s14) ey
  obtain⟨tK,hK,kK⟩:∃rd,PSs (Cd CX0 P w K mg base EK "law" (Ag Bu) f cdv A outer s H E).nox ((A4 Bu).drop 7) rd/\∀(sh a0 dx ls lt pA kA:Addr)(zt ss:LZ)(zs:LI)(tn:List Tk1)(M:List Sh1)(ps:List Of1)(ks:List Kp1)(pL:Addr)(pv:LUz)(n:Nat)(x2 x3 x5 x8 x9 x10 x11 x12 x13 x14 x15:Option V)(H1:Hp),
    LwI cW cU cL tb2 C sh a0 dx ls lt pA kA zt ss tn ps ks pL pv H1->ss.map (λ t=>t.2)=zs->zt.map (λ t=>t.2)=zs->LwP zs tn M (ps.map λ t:Of1=>t.2.2) n->n<=55 ->
    rd { nx:=λ_ H'=>Q .non H',rt:=Q } [some (.ref a),some (.ref sh),x2,x3,some (.ref a0),x5,some (.ref pA),some (.ref kA),x8,x9,x10,x11,x12,x13,x14,x15,none,none,none,none,none] H1:=by
   refine⟨_,(Ac (C3 PassesOwn.never rfl (AL (pv 7)) (CW rfl (Am (An (i:=9) S.nd rfl (Or.inl rfl)) (Am (An (i:=15) S.nd rfl (Or.inl rfl)) AB))) (Ah (AJ (Ax (Je hr) (Bt rfl (AL (pv 9)) (λ_ _ _ _ _=>(AV (K:=K) (n:=2) rfl (Am (An (i:=0) (show List.Nodup (["_law_which","_law_tree"]:LSz) from by decide +kernel) rfl (Or.inl rfl)) (Am (An (i:=1) (show List.Nodup (["_law_which","_law_tree"]:LSz) from by decide +kernel) rfl (Or.inl rfl)) AB)))) (λ_ _ _ _ _=>(Av (Aa (pv 0) (Aa (Aw D__law_told hr (Aa (pv 1) Ab)) Ab)))) (N:=["_law_which","_law_tree"]) (fr:=[none,none])) (pv 15) (Az _)) (Ah (Ar HY)) Ay)))
   (Ac (As (i:=16) S.nd rfl (Or.inl rfl) (Aw D__law_taken hr (Aa (C4 M_Bench_sheets hr (pv 4)) (Aa (pv 1) Ab))))
   (Ac (AJ (Ax EZ (pv 16) AY (Az _)) (Ah (Ar HY)) Ay)
   hM))),?_⟩
   intro sh a0 dx ls lt pA kA zt ss zs tn M ps ks pL pv n x2 x3 x5 x8 x9 x10 x11 x12 x13 x14 x15 H1 li es ez lw n55;refine⟨_,rfl,kA,rfl,⟨_,SqL.of li.hk⟩,KB (K:=K) (a:=kA) (xs:=Ai ks) (λ i σ H'=>(∃y9 y15,σ=[some (.ref a),some (.ref sh),x2,x3,some (.ref a0),x5,some (.ref pA),some (.ref kA),x8,y9,x10,x11,x12,x13,x14,y15,none,none,none,none,none])/\Same H1 H') ⟨⟨_,_,rfl⟩,Same.refl H1⟩ (λ i σ H' _ hp=>SqL.of (hp.2 _ _ li.hk)) ?_ ?_⟩
   .rintro i v σ H2 hv ⟨⟨y9,y15,rfl⟩,s2⟩;obtain⟨e,he,rfl⟩:=AC hv;have ke:=(li.same s2).ko e (List.mem_of_getElem? he);obtain⟨ec,lf,lw',fs,ws,ms⟩:=e;refine⟨ec,_,rfl,SqT.of ke.c,rfl,_,_,rfl,_,_,rfl,rfl,?_⟩;have fl:fs.length=ms.length:=ke.fl;have mn:ms.length<=60:=ke.n;refine⟨_,rfl,lf,rfl,⟨_,SqL.of ke.f⟩,λ acc hacc=>AU (K:=K) (a:=lf) (ys:=Ai fs) (TcI ms H2) ⟨⟨none,none,rfl⟩,Same.new hacc,[],rfl,rfl,(λ j x m e=>by cases e)⟩ (λ i zs' σ' H' _ _ hp=>SqL.of (hp.2.1 _ _ ke.f)) ?_ ?_⟩
    .rintro i v zs' σ' H' hx hi hl' hacc' I;obtain⟨⟨u0,v0,rfl⟩,hs,_⟩:=id I;obtain⟨t,ht,rfl⟩:=AC hx;obtain⟨m,hm⟩:∃m,ms[i]?=some m:=⟨_,List.getElem?_eq_getElem (by rw[<-fl,<-Al];exact hi)⟩;obtain⟨f1,f2⟩:=ke.ft i t m ht hm;exact⟨t.1,_,rfl,SqT.of (hs _ _ f1),rfl,_,_,rfl,_,_,rfl,rfl,_,rfl,_,rfl,t.2,m.2,rfl,f2.same hs,ke.d m (List.mem_of_getElem? hm),λ v3 H3 s3 told3=>⟨Au 2,λ r1 nr1=>M6 hi (by rw[Al];lia) hl' hm hacc hacc' I s3 told3 nr1⟩⟩
    .rintro zs' σ' H3 hl' hacc' ⟨_,s3,us,rfl,ul,hus⟩;rw[Al]at ul;have ke3:=(li.same (s2.trans s3)).ko _ (List.mem_of_getElem? he);have D1:DIs K H3 (.lst (msD ms)) (.ref acc):=by rw[DIs];exact⟨_,_,rfl,SqL.of hacc',LQ (ul.trans fl) hus⟩
     have D2:DIs K H3 (.lst (msD ms)) (.ref lw'):=by rw[DIs];exact⟨_,_,rfl,SqL.of ke3.w,LQ ke3.wl ke3.wt⟩
     exact⟨_,rfl,_,_,D1,D2,⟨_,rfl⟩,⟨_,rfl⟩,by have:=MR ke.d;rw[dep];lia,_,rfl,AZ (by rw[if_pos rfl,Cp _ D2];rfl) ⟨⟨_,_,rfl⟩,s2.trans s3⟩⟩
   .rintro σ H2 ⟨⟨y9,y15,rfl⟩,s2⟩;have li2:=li.same s2;have tl:=lw.n1;refine⟨_,rfl,a0,dx,_,rfl,li2.bn.ob,Ca _ _ (by decide +kernel) (by decide +kernel),a0,dx,ls,lt,ss,tn,trM M,rfl,li2.bn,by lia,li2.tb,lw.grown li2.bn es,λ l ts H3 sx3 tab3 nl hl tsl each=>?_⟩;have sN3:=sx3.toN li2.tb.tbl;have li3:=li2.n sN3 tab3;have pmT:(tg zs 0 M).Perm (whs 0 (tn.map λ t=>t.2.2.2.2)):=by rw[lw.kv];exact FD λ x hx=>(lw.bt.sh x hx).2.2
    refine⟨_,rfl,l,sh,ts,zt,zs,M,rfl,⟨hl,tsl.trans lw.ln,λ i x m hx hm=>?_,li3.hz,li3.za,ez,lw.z4,lw.so,λ m hm=>⟨(lw.bt.sh m hm).1,(lw.bt.sh m hm).2.1,(lw.bt.sh m hm).2.2.ft⟩,by rw[<-lw.ln];lia,by rw[pmT.length_eq];have:=lw.n3;lia⟩,λ lr ys H4 s4 hlr sys ey=>?_⟩
    .obtain⟨t,ht⟩:∃t,tn[i]?=some t:=⟨_,List.getElem?_eq_getElem (by rw[lw.ln];exact(List.getElem?_eq_some_iff.mp hm).1)⟩;obtain⟨m',hm',e1,e2⟩:=lw.at_ ht;rw[hm]at hm';cases hm';have:=each i x t hx ht;rwa [Lu hm,<-e1]at this
    have li4:=li3.same s4;refine⟨_,rfl,rfl,_,rfl,AZ (decide_eq_false (by intro z;cases z)) ?_⟩;exact kM a0 dx ls lt pA lr ss zs tn M ps ys n _ _ _ _ _ _ _ _ _ _ _ _ _ H4 li4.bn es lw n55 li4.hp li4.po hlr sys ey
  obtain⟨tT,hT,kTn,kT⟩:∃rd,PSs (Cd CX0 P w K mg base EK "law" (Ag Bu) f cdv A outer s H E).nox ((Ql (nth (A4 Bu) 6)).drop 6) rd/\(∀(x0 x1 x2 x3 x4 x5 x6 x7 x8 x9 x10 x11 x12 x14 x15:Option V)(D:Er)(H1:Hp),D.nx [x0,x1,x2,x3,x4,x5,x6,x7,x8,x9,x10,x11,x12,some .non,x14,x15,none,none,none,none,none] H1->rd D [x0,x1,x2,x3,x4,x5,x6,x7,x8,x9,x10,x11,x12,some .non,x14,x15,none,none,none,none,none] H1)/\∀(a0 pA r b:Addr)(i:Int)(p:Rk)(t:DO)(ps:List Of1)(x1 x2 x3 x5 x7 x8 x9 x14 x15:Option V)(D:Er)(H1:Hp),
    OfAt H1 (r,b,i,p)->((p.r-p.l,p.b-p.t)=(t.1,t.2.1)\/(t.2.2=true/\(p.r-p.l,p.b-p.t)=(t.2.1,t.1)))->H1 pA=some (.lst (Ai ps))->ps.length<=55 ->
    (∀H2 y14,Same H1 H2->D.nx [some (.ref a),x1,x2,x3,some (.ref a0),x5,some (.ref pA),x7,x8,x9,some (.int t.1),some (.int t.2.1),some (.bl t.2.2),some (.ref r),y14,x15,none,none,none,none,none] (upd H2 pA (.lst (Ai ps++[.ref r])))) ->
    rd D [some (.ref a),x1,x2,x3,some (.ref a0),x5,some (.ref pA),x7,x8,x9,some (.int t.1),some (.int t.2.1),some (.bl t.2.2),some (.ref r),x14,x15,none,none,none,none,none] H1:=by
   refine⟨_,(Ah (AJ (Ax FH (pv 13) AY (Az _)) (Ac (As (i:=14) S.nd rfl (Or.inl rfl) (Av (Aa (A6 BX (Ao Ak (Ao Ak (pv 13) Ad (λ_ _=>rfl)) Ad (λ_ _=>rfl)) (Ao Ak (Ao Ak (pv 13) Ad (λ_ _=>rfl)) Ad (λ_ _=>rfl))) (Aa (A6 BX (Ao Ak (Ao Ak (pv 13) Ad (λ_ _=>rfl)) Ad (λ_ _=>rfl)) (Ao Ak (Ao Ak (pv 13) Ad (λ_ _=>rfl)) Ad (λ_ _=>rfl))) Ab))))
   (Ac (AJ (PW.pt (IY (Ax (Je hr) (pv 14) (Av (Aa (pv 10) (Aa (pv 11) Ab))) (Az _)) (FF (PW.pt (Go (BF (Dt (pv 12) (λ_=>rfl))) (Gn (Ax (Je hr) (pv 14) (Av (Aa (pv 11) (Aa (pv 10) Ab))) (Az _)))))))) (Ah (Ar HY)) Ay)
   (Ah (B0 (DQ PySem.F.plainAttrs_list PySem.F.slot_list_append PySem.F.type_list_append Bc (pv 6) (Aa (pv 13) Ab)))))) Ay)),λ_ _ _ _ _ _ _ _ _ _ _ _ _ _ _ D H1 qq=>⟨_,rfl,rfl,_,rfl,AZ (by rw[decide_eq_true rfl];rfl) qq⟩,?_⟩
   intro a0 pA r b i p t ps x1 x2 x3 x5 x7 x8 x9 x14 x15 D H1 ho hsz hpA pl qq;have sr:=SqT.of (K:=K) ho.1;have sb:=SqT.of (K:=K) ho.2;refine⟨_,rfl,rfl,_,rfl,BK (by rw[decide_eq_false (by intro z;cases z)];rfl) ?_⟩;refine⟨_,rfl,r,_,_,_,rfl,rfl,sr,By,b,_,_,_,rfl,rfl,sb,at3,_,rfl,r,_,_,_,rfl,rfl,sr,By,b,_,_,_,rfl,rfl,sb,at1,_,_,rfl,rfl,_,rfl,r,_,_,_,rfl,rfl,sr,By,b,_,_,_,rfl,rfl,sb,at2,_,rfl,r,_,_,_,rfl,rfl,sr,By,b,_,_,_,rfl,rfl,sb,at0,_,_,rfl,rfl,Au 2,λ c nc=>?_⟩;obtain⟨H2,g,s2,e2⟩:=nw (.tup [(λ i j=>V.int (i-j)) p.r p.l,(λ i j=>V.int (i-j)) p.b p.t]) nc;rw[g];have e2:H2 c=some (.tup ([p.r-p.l,p.b-p.t].map V.int)):=e2;refine⟨_,rfl,_,rfl,_,rfl,Au 2,λ c3 n3=>?_⟩;obtain⟨H3,g,s3,e3⟩:=nw (.tup [.int t.1,.int t.2.1]) n3;rw[g];have e3:H3 c3=some (.tup ([t.1,t.2.1].map V.int)):=e3;have s13:=s2.trans s3;have dI:∀{H:Hp}{x:Addr}(u v:Int),H x=some (.tup ([u,v].map V.int))->DIs K H (.tup (AO [u,v])) (.ref x):=λ u v e=>by rw[DIs];exact⟨_,_,rfl,SqT.of e,B8 [u,v]⟩
   have D1:=dI _ _ (s3 _ _ e2);have D2:=dI _ _ e3;refine⟨_,_,D1,D2,⟨_,rfl⟩,⟨_,rfl⟩,by rw[dep,B4];lia,_,rfl,?_⟩;rw[if_pos rfl,deq,DN];by_cases c1:(p.r-p.l,p.b-p.t)=(t.1,t.2.1)
   .have:[p.r-p.l,p.b-p.t]=[t.1,t.2.1]:=by rw[(Prod.mk.inj c1).1,(Prod.mk.inj c1).2]
    refine AZ (by rw[decide_eq_true this];rfl) (AZ rfl ?_);have pA3:=s13 _ _ hpA;exact⟨_,rfl,.inl ⟨rfl,_,SqL.of pA3⟩,_,rfl,pA,_,_,rfl,rfl,pA3,Ap (by rw[Al];lia),qq H3 _ s13⟩
   .obtain⟨tt,c2⟩:=hsz.resolve_left c1;have n1:¬[p.r-p.l,p.b-p.t]=[t.1,t.2.1]:=λ z=>c1 (by
     injection z with z1 z2;injection z2 with z2 _;rw[z1,z2])
    refine BK (by rw[decide_eq_false n1];rfl) ?_;refine⟨_,rfl,_,rfl,AZ (by rw[tt];rfl) ?_⟩;refine⟨_,rfl,_,rfl,_,rfl,Au 2,λ c4 n4=>?_⟩;obtain⟨H4,g,s4,e4⟩:=nw (.tup [.int t.2.1,.int t.1]) n4;rw[g];have e4:H4 c4=some (.tup ([t.2.1,t.1].map V.int)):=e4;have D3:=dI _ _ (s4 _ _ (s3 _ _ e2));have D4:=dI _ _ e4;refine⟨_,_,D3,D4,⟨_,rfl⟩,⟨_,rfl⟩,by rw[dep,B4];lia,_,rfl,AZ ?_ ?_⟩
    .rw[if_pos rfl,deq,DN,decide_eq_true (by rw[(Prod.mk.inj c2).1,(Prod.mk.inj c2).2])];rfl
    have s14:=s13.trans s4;have pA4:=s14 _ _ hpA;exact⟨_,rfl,.inl ⟨rfl,_,SqL.of pA4⟩,_,rfl,pA,_,_,rfl,rfl,pA4,Ap (by rw[Al];lia),qq H4 _ s14⟩
  obtain⟨tA,hA,kA'⟩:∃rd,PSs (Cd CX0 P w K mg base EK "law" (Ag Bu) f cdv A outer s H E).nox ((Ql (nth (A4 Bu) 6)).drop 5) rd/\∀(sh a0 dx ls lt pA kA:Addr)(zt ss:LZ)(zs:LI)(tn:List Tk1)(M:List Sh1)(ps:List Of1)(ks:List Kp1)(pL:Addr)(pv:LUz)(n:Nat)(t:DO)(x1 x2 x3 x5 x7 x8 x9 x13 x14 x15:Option V)(D:Er)(H1:Hp),
    LwI cW cU cL tb2 C sh a0 dx ls lt pA kA zt ss tn ps ks pL pv H1->ss.map (λ t=>t.2)=zs->LwP zs tn M (ps.map λ t:Of1=>t.2.2) n->n<55->WOk t ->
    (∀tn' M' ps' H2 y13 y14,LwI cW cU cL tb2 C sh a0 dx ls lt pA kA zt ss tn' ps' ks pL pv H2->LwP zs tn' M' (ps'.map λ t:Of1=>t.2.2) (n+1)->D.nx [some (.ref a),x1,x2,x3,some (.ref a0),x5,some (.ref pA),x7,x8,x9,some (.int t.1),some (.int t.2.1),some (.bl t.2.2),y13,y14,x15,none,none,none,none,none] H2) ->
    rd D [some (.ref a),x1,x2,x3,some (.ref a0),x5,some (.ref pA),x7,x8,x9,some (.int t.1),some (.int t.2.1),some (.bl t.2.2),x13,x14,x15,none,none,none,none,none] H1:=by
   refine⟨_,(Ac (As (i:=13) S.nd rfl (Or.inl rfl) (Aw D__law_asked hr (Aa (pv 4) (Aa (pv 10) (Aa (pv 11) (Aa (pv 12) Ab))))))
   hT),?_⟩
   intro sh a0 dx ls lt pA kA zt ss zs tn M ps ks pL pv n t x1 x2 x3 x5 x7 x8 x9 x13 x14 x15 D H1 li es lw n55 wok qq;have pl:ps.length<=55:=by have:=lw.n4;rw[List.length_map]at this;lia
   have s4:ss.length<=4:=by have:=lw.z4;rw[<-es,List.length_map]at this;exact this
   have soS:∀u∈ss,SOk u.2:=λ u hu'=>lw.so _ (by rw[<-es];exact List.mem_map.mpr ⟨u,hu',rfl⟩);have sz:∀{z:Int×Int}{W T:Int}{rest:LI},Bh t W T=z::rest->z=(t.1,t.2.1)\/(t.2.2=true/\z=(t.2.1,t.1)):=λ{z W T rest} hz=>by
    have hm:z∈Bh t W T:=by rw[hz];exact List.mem_cons_self
    unfold Bh at hm;have hw:=(List.mem_filter.mp hm).1;unfold BU at hw;split at hw
    .rename_i c;rcases List.mem_cons.mp hw with e|hw
     .exact .inl e
     .exact .inr ⟨c,List.mem_singleton.mp hw⟩
    .exact .inl (List.mem_singleton.mp hw)
   have pz:∀{z:Int×Int}(y:Int×Rk),((pnN y z).r-(pnN y z).l,(pnN y z).b-(pnN y z).t)=z:=λ{z} y=>by
    show(y.2.l+z.1-y.2.l,y.2.t+z.2-y.2.t)=z;rw[show y.2.l+z.1-y.2.l=z.1 by lia,show y.2.t+z.2-y.2.t=z.2 by lia]
   refine⟨_,rfl,_,rfl,_,rfl,_,rfl,a0,dx,ls,lt,ss,tn,t,rfl,li.bn,lw.bok (Nat.le_of_lt n55),s4,soS,wok,by rw[lw.np,List.length_map];lia,lw.offs,?_,?_,?_⟩
   .intro y hy hh least u z rest kvs r b H2 hu hz sx bn2 hr2 hb2;obtain⟨z1,z2,h1,h2⟩:=Jx wok hz;rw[lw.np]at bn2;rw[Pn h1 h2]at hb2;obtain⟨M',lw2⟩:=lw.old (ks:=kvs) hu hy z1 z2 h1 h2;have um:=List.mem_of_getElem? hu;have mv:Mv H1 u.2.2.1:=.inr ⟨_,(li.bn.tks u um).2.1⟩;have li2:=li.cut sx mv (.inr ⟨_,(li.bn.tks u um).2.1⟩) bn2;refine kT a0 pA r b y.1 (pnN y z) t ps _ _ _ _ _ _ _ _ _ D H2 ⟨hr2,hb2⟩ ?_ li2.hp pl λ H3 y14 s3=>?_
    .rw[pz];exact sz hz
    have li3:=li2.same s3;exact qq _ M' (ps++[(r,b,y.1,pnN y z)]) _ _ _ (li3.pane (t:=(r,b,y.1,pnN y z)) ⟨s3 _ _ hr2,s3 _ _ hb2⟩) (by rw[List.map_append];exact lw2)
   .intro no k u hk hh least z rest tA dA kvs r b H2 ndA hz sx bn2 hr2 hb2;have hz':Bh t u.2.1 u.2.2=z::rest:=by
     have:Bh t (u.2.1-0) (u.2.2-0)=z::rest:=hz;rwa [Int.sub_zero,Int.sub_zero]at this
    obtain⟨z1,z2,h1,h2⟩:=Jx wok hz';obtain⟨_,_,h1',h2'⟩:=Jx wok hz;rw[lw.np]at bn2;rw[Pn h1' h2']at hb2;obtain⟨M',lw2⟩:=lw.new (tA:=tA) (dA:=dA) (ks:=kvs) (k:=k) (z0:=u.2) (by rw[<-es,List.getElem?_map,hk];rfl) z1 z2 h1 h2;have mv:Mv H1 lt:=.inl ⟨_,li.bn.tak⟩;have li2:=li.cut sx mv (.inl rfl) bn2;refine kT a0 pA r b tn.length (pnN ((tn.length:Int),shR u.2) z) t ps _ _ _ _ _ _ _ _ _ D H2 ⟨hr2,hb2⟩ ?_ li2.hp pl λ H3 y14 s3=>?_
    .rw[pz];exact sz hz
    have li3:=li2.same s3;exact qq _ M' (ps++[(r,b,(tn.length:Int),pnN ((tn.length:Int),shR u.2) z)]) _ _ _ (li3.pane (t:=(r,b,(tn.length:Int),pnN ((tn.length:Int),shR u.2) z)) ⟨s3 _ _ hr2,s3 _ _ hb2⟩) (by rw[List.map_append];exact lw2)
   .intro no none' H2 s2;exact kTn _ _ _ _ _ _ _ _ _ _ _ _ _ _ _ D H2 (qq tn M ps H2 _ _ (li.same s2) lw.mono)
  obtain⟨tW,hW,kW⟩:∃rd,PSs (Cd CX0 P w K mg base EK "law" (Ag Bu) f cdv A outer s H E).nox ((Ql (nth (A4 Bu) 6)).drop 2) rd/\∀(sh a0 dx ls lt pA kA st:Addr)(zt ss:LZ)(zs:LI)(tn:List Tk1)(M:List Sh1)(ps:List Of1)(ks:List Kp1)(pL:Addr)(pv:LUz)(n:Nat)(m:Int)(x1 x2 x3 x7 x9 x10 x11 x12 x13 x14 x15:Option V)(D:Er)(H1:Hp),
    LwI cW cU cL tb2 C sh a0 dx ls lt pA kA zt ss tn ps ks pL pv H1->ss.map (λ t=>t.2)=zs->LwP zs tn M (ps.map λ t:Of1=>t.2.2) n->n<55->1<=m->m<=12->St8 H1 st 0 ->
    (∀tn' M' ps' H2 y10 y11 y12 y13 y14,LwI cW cU cL tb2 C sh a0 dx ls lt pA kA zt ss tn' ps' ks pL pv H2->LwP zs tn' M' (ps'.map λ t:Of1=>t.2.2) (n+1)->D.nx [some (.ref a),x1,x2,x3,some (.ref a0),some (.int m),some (.ref pA),x7,some (.ref st),x9,y10,y11,y12,y13,y14,x15,none,none,none,none,none] H2) ->
    rd D [some (.ref a),x1,x2,x3,some (.ref a0),some (.int m),some (.ref pA),x7,some (.ref st),x9,x10,x11,x12,x13,x14,x15,none,none,none,none,none] H1:=by
   refine⟨_,(Ac (As (i:=10) S.nd rfl (Or.inl rfl) (A6 Bp Ad (Aw D__law_pick hr (Aa (pv 8) (Aa (pv 5) Ab)))))
   (Ac (As (i:=11) S.nd rfl (Or.inl rfl) (A6 Bp Ad (Aw D__law_pick hr (Aa (pv 8) (Aa (pv 5) Ab)))))
   (Ac (As (i:=12) S.nd rfl (Or.inl rfl) (Cr CH (Aw D__law_pick hr (Aa (pv 8) (Aa Ad Ab))) Ad (Az _)))
   hA))),?_⟩
   intro sh a0 dx ls lt pA kA st zt ss zs tn M ps ks pL pv n m x1 x2 x3 x7 x9 x10 x11 x12 x13 x14 x15 D H1 li es lw n55 m1 m2 st8 qq;refine⟨_,rfl,_,rfl,st,0,m,rfl,st8,by decide,by decide,by lia,by lia,λ r1 H2 r10 r11 sx2 st82=>⟨_,_,rfl,rfl,?_⟩⟩;obtain⟨_,_,_,e1⟩:=st8;have li2:=li.st sx2 e1;refine⟨_,rfl,_,rfl,st,0+1,m,rfl,st82,by decide,by decide,by lia,by lia,λ r2 H3 r20 r21 sx3 st83=>⟨_,_,rfl,rfl,?_⟩⟩;obtain⟨_,_,_,e2⟩:=st82;have li3:=li2.st sx3 e2;refine⟨_,rfl,st,0+1+1,2,rfl,st83,by decide,by decide,by decide,by decide,λ r3 H4 r30 r31 sx4 st84=>⟨rfl,?_⟩⟩;obtain⟨_,_,_,e3⟩:=st83;have li4:=li3.st sx4 e3;exact kA' sh a0 dx ls lt pA kA zt ss zs tn M ps ks pL pv n (1+r1,1+r2,decide (V.int r3=V.int 1)) _ _ _ _ _ _ _ _ _ _ D H4 li4 es lw n55 ⟨by show 1<=1+r1;lia,by show 1+r1<=12;lia,by show 1<=1+r2;lia,by show 1+r2<=12;lia⟩ λ tn' M' ps' H5 y13 y14 l5 w5=>qq tn' M' ps' H5 _ _ _ _ _ l5 w5
  obtain⟨tL,hL,kL⟩:∃rd,PSs (Cd CX0 P w K mg base EK "law" (Ag Bu) f cdv A outer s H E).nox ((A4 Bu).drop 6) rd/\∀(sh a0 dx ls lt pA kA:Addr)(zt ss:LZ)(zs:LI)(m:Int)(x2 x3:Option V)(H1:Hp),Same H H1->1<=m->m<=12 ->
    (∀pL (cs:List Int) H2,Same H1 H2->H1 pL=none->H2 pL=some (.lst (cs.map V.int))->LwI cW cU cL tb2 C sh a0 dx ls lt pA kA zt ss [] [] [] pL (cs.map V.int) H2)->ss.map (λ t=>t.2)=zs->zt.map (λ t=>t.2)=zs->LwP zs [] [] [] 0 ->
    rd { nx:=λ_ H'=>Q .non H',rt:=Q } [some (.ref a),some (.ref sh),x2,x3,some (.ref a0),some (.int m),some (.ref pA),some (.ref kA),none,none,none,none,none,none,none,none,none,none,none,none,none] H1:=by
   refine⟨_,(Ac (C3 PassesOwn.never rfl (AL (Gr MD (pv 0) (FG Ad) (FG Ad))) (An (i:=3) S.nd rfl (Or.inl rfl)) (Ac (As (i:=8) S.nd rfl (Or.inl rfl) (Aw D__law_state hr (Aa (pv 3) Ab)))
   (Ac (AJ (Ax CH (Aw D__law_draw hr (Aa (pv 3) (Aa Ad (Aa Ad Ab)))) Ad (Az _)) (Ac (As (i:=9) S.nd rfl (Or.inl rfl) (C4 M_Bench_sheets hr (pv 4)))
   (Ah (B0 (DQ PySem.F.plainAttrs_list PySem.F.slot_list_append PySem.F.type_list_append Bc (pv 7) (Aa (Av (Aa (pv 9) (Aa (Bt rfl (AL (pv 9)) (λ_ _ _ _ _=>(AV (K:=K) (n:=2) rfl (Am (An (i:=0) (show List.Nodup (["_law_which","_law_tree"]:LSz) from by decide +kernel) rfl (Or.inl rfl)) (Am (An (i:=1) (show List.Nodup (["_law_which","_law_tree"]:LSz) from by decide +kernel) rfl (Or.inl rfl)) AB)))) (λ_ _ _ _ _=>(Av (Aa (pv 0) (Aa (Aw D__law_told hr (Aa (pv 1) Ab)) Ab)))) (N:=["_law_which","_law_tree"]) (fr:=[none,none])) Ab))) Ab))))) Ay)
   hW)))
   hK),?_⟩
   intro sh a0 dx ls lt pA kA zt ss zs m x2 x3 H1 s1 m1 m2 li0 es ez lw0;refine⟨_,rfl,6,rfl,56,rfl,a,ns.map V.int,rfl,s1.seq hS0,λ pL npL=>?_⟩;obtain⟨cs,ecs,lcs⟩:=Ry ns;rw[ecs];obtain⟨H2,g,s2,e2⟩:=nw (.lst (cs.map V.int)) npL;rw[g];refine⟨pL,rfl,⟨_,SqL.of e2⟩,KB (K:=K) (a:=pL) (xs:=cs.map V.int) (LwJ cW cU cL tb2 C a sh a0 dx ls lt pA kA zt ss zs m pL (cs.map V.int) x2)
    ⟨[],[],[],[],_,_,_,_,_,_,_,_,_,rfl,li0 pL cs H2 s2 npL e2,lw0,Nat.le_refl _⟩ (λ i σ H' _ hp=>by obtain⟨tn,M,ps,ks,_,_,_,_,_,_,_,_,_,_,li,_⟩:=hp;exact SqL.of li.hq) ?_ ?_⟩
   .rintro i v σ H3 hv ⟨tn,M,ps,ks,y3,y8,y9,y10,y11,y12,y13,y14,y15,rfl,li,lw,kl⟩;obtain⟨c,hc,rfl⟩:=EC hv;have hi:=(List.getElem?_eq_some_iff.mp hc).1;refine⟨_,rfl,c,rfl,λ st H4 s4 nst st8=>?_⟩;have li4:=li.same s4;refine⟨_,rfl,c,5,6,rfl,by decide,by decide,by decide,λ r5 r50 r51=>⟨rfl,_,rfl,?_⟩⟩;have n55:i<55:=by lia
    have go:∀(y9':Option V)(ks':List Kp1)(H5:Hp),LwI cW cU cL tb2 C sh a0 dx ls lt pA kA zt ss tn ps ks' pL (cs.map V.int) H5->ks'.length<=i+1->St8 H5 st 0->tW { nx:=LwJ cW cU cL tb2 C a sh a0 dx ls lt pA kA zt ss zs m pL (cs.map V.int) x2 (i+1),rt:=Q,ct:=LwJ cW cU cL tb2 C a sh a0 dx ls lt pA kA zt ss zs m pL (cs.map V.int) x2 (i+1),bk:=tK { nx:=λ_ H'=>Q .non H',rt:=Q } } [some (.ref a),some (.ref sh),x2,some (.int c),some (.ref a0),some (.int m),some (.ref pA),some (.ref kA),some (.ref st),y9',y10,y11,y12,y13,y14,y15,none,none,none,none,none] H5:=λ y9' ks' H5 l5 k5 s5 =>
     kW sh a0 dx ls lt pA kA st zt ss zs tn M ps ks' pL _ i m _ _ _ _ _ _ _ _ _ _ _ _ H5 l5 es lw n55 m1 m2 s5 λ tn' M' ps' H6 z10 z11 z12 z13 z14 l6 w6=>⟨tn',M',ps',ks',_,_,_,_,_,_,_,_,_,rfl,l6,w6,k5⟩
    refine Ef (λ_=>?_) (λ_=>go _ ks H4 li4 (by lia) st8);have tl:=lw.n1;refine⟨_,rfl,a0,dx,_,rfl,li4.bn.ob,Ca _ _ (by decide +kernel) (by decide +kernel),a0,dx,ls,lt,ss,tn,trM M,rfl,li4.bn,by lia,li4.tb,lw.grown li4.bn es,λ l ts H5 sx5 tab5 nl hl tsl each=>?_⟩;have sN5:=sx5.toN li4.tb.tbl;have li5:=li4.n sN5 tab5;have st5:St8 H5 st 0:=let ⟨c',r',r0,e⟩:=st8;⟨c',r',r0,sN5 _ _ e (λ_ z=>nomatch z)⟩;have tM:ts.length=(M.map λ x=>(x.1,x.2.2)).length:=by rw[List.length_map,<-lw.ln];exact tsl
    have ea:∀(j:Nat)(x:Addr×V)(m:Int×Tr),ts[j]?=some x->(M.map λ x=>(x.1,x.2.2))[j]?=some m->(H5 x.1=some (.tup [.int m.1,x.2])/\Obj cW cU cL H5 m.2 x.2)/\m.2.dp<24:=λ j x m hx hm=>by
     rw[List.getElem?_map]at hm;obtain⟨m',hm',rfl⟩:=Option.map_eq_some_iff.mp hm;obtain⟨t,ht⟩:∃t,tn[j]?=some t:=⟨_,List.getElem?_eq_getElem (by rw[lw.ln];exact(List.getElem?_eq_some_iff.mp hm').1)⟩;obtain⟨m2',hm2,e1,e2⟩:=lw.at_ ht;rw[hm']at hm2;cases hm2;have:=each j x t hx ht;rw[Lu hm',<-e1]at this;exact⟨this,(lw.fit (List.mem_of_getElem? hm')).1⟩
    generalize hms:(M.map λ x=>(x.1,x.2.2))=ms at tM ea;refine⟨_,rfl,.inl ⟨rfl,_,SqL.of li5.hk⟩,_,rfl,_,rfl,l,rfl,⟨_,SqL.of hl⟩,λ acc hacc=>AU (K:=K) (a:=l) (ys:=Ai ts) (TcI ms H5) ⟨⟨none,none,rfl⟩,Same.new hacc,[],rfl,rfl,(λ j x m e=>by cases e)⟩ (λ i zs' σ' H' _ _ hp=>SqL.of (hp.2.1 _ _ hl)) ?_ ?_⟩
    .rintro i v zs' σ' H' hx hi hl' hacc' I;obtain⟨⟨u0,v0,rfl⟩,hs,_⟩:=id I;obtain⟨t,ht,rfl⟩:=AC hx;obtain⟨m,hm⟩:∃m,ms[i]?=some m:=⟨_,List.getElem?_eq_getElem (by rw[<-tM,<-Al];exact hi)⟩;obtain⟨⟨f1,f2⟩,f3⟩:=ea i t m ht hm;exact⟨t.1,_,rfl,SqT.of (hs _ _ f1),rfl,_,_,rfl,_,_,rfl,rfl,_,rfl,_,rfl,t.2,m.2,rfl,f2.same hs,f3,λ v3 H3 s3 told3=>⟨Au 2,λ r1 nr1=>M6 hi (by rw[Al];lia) hl' hm hacc hacc' I s3 told3 nr1⟩⟩
    .rintro zs' σ' H6 hl' hacc' ⟨_,s6,us,rfl,ul,hus⟩;rw[Al]at ul;refine⟨Au 2,λ e8 n8=>?_⟩;obtain⟨H7,g,s7,f7⟩:=nw (.tup [.ref l,.ref acc]) n8;rw[g];have s57:=s6.trans s7;have li7:=li5.same s57;refine⟨kA,_,_,rfl,rfl,li7.hk,Ap (by rw[Al];lia),?_⟩;have nn:∀{x:Addr}{G:Hp},(∃xs,G lt=some (.lst xs))->(∃xs,G pA=some (.lst xs))->(∃xs,G kA=some (.lst xs))->G x=none->x∉[lt,pA,kA]:=λ{x G} h1 h2 h3 h0 z=>by
      simp only[List.mem_cons,List.not_mem_nil,or_false]at z;rcases z with rfl|rfl|rfl
      .obtain⟨_,e⟩:=h1;rw[h0]at e;cases e
      .obtain⟨_,e⟩:=h2;rw[h0]at e;cases e
      .obtain⟨_,e⟩:=h3;rw[h0]at e;cases e
     have kk:KpAt cW cU cL H7 (e8,l,acc,ts,us,ms):=⟨f7,s57 _ _ hl,s7 _ _ hacc',tM,ul.trans tM,λ j x m a b=>⟨s57 _ _ (ea j x m a b).1.1,(ea j x m a b).1.2.same s57⟩,λ j x m a b=>⟨s7 _ _ (hus j x m a b).1,(hus j x m a b).2.same s7⟩,λ m hm=>by
      obtain⟨j,hj⟩:=List.getElem?_of_mem hm;obtain⟨x,hx⟩:∃x,ts[j]?=some x:=⟨_,List.getElem?_eq_getElem (by rw[tM];exact(List.getElem?_eq_some_iff.mp hj).1)⟩;exact(ea j x m hx hj).2,by show ms.length<=60;rw[<-tM,tsl];lia⟩
     exact go _ (ks++[(e8,l,acc,ts,us,ms)]) _ (li7.keep kk ⟨nn ⟨_,li4.bn.tak⟩ ⟨_,li4.hp⟩ ⟨_,li4.hk⟩ nl,nn ⟨_,li5.bn.tak⟩ ⟨_,li5.hp⟩ ⟨_,li5.hk⟩ hacc⟩) (by rw[List.length_append,List.length_singleton];lia) (by
      obtain⟨c',r',r0,e⟩:=st5.same s57;exact⟨c',r',r0,by rw[Ae (λ z=>by rw[z,li7.hk]at e;cases e)];exact e⟩)
   .rintro σ H3 ⟨tn,M,ps,ks,y3,y8,y9,y10,y11,y12,y13,y14,y15,rfl,li,lw,kl⟩;rw[List.length_map]at lw;exact kK sh a0 dx ls lt pA kA zt ss zs tn M ps ks pL _ cs.length _ _ _ _ _ _ _ _ _ _ _ H3 li es ez lw (by lia)
  obtain⟨tB,hB,kB⟩:∃rd,PSs (Cd CX0 P w K mg base EK "law" (Ag Bu) f cdv A outer s H E).nox ((A4 Bu).drop 2) rd/\∀(sh:Addr)(ts:LZ)(x2 x3:Option V)(H1:Hp),Same H H1 ->
    H1 sh=some (.lst (Ai ts))->(∀t∈ts,H1 t.1=some (.tup [.int t.2.1,.int t.2.2]))->1<=ts.length->ts.length<=4->(∀t∈ts,SOk t.2) ->
    rd { nx:=λ_ H'=>Q .non H',rt:=Q } [some (.ref a),some (.ref sh),x2,x3,none,none,none,none,none,none,none,none,none,none,none,none,none,none,none,none,none] H1:=by
   refine⟨_,(Ac (As (i:=4) S.nd rfl (Or.inl rfl) (ML K_Bench hr (Aa (N7 JI rfl T.z_list rfl (Aa (pv 1) Ab)) Ab)))
   (Ac (As (i:=5) S.nd rfl (Or.inl rfl) (Ao Cc (BJ (Aa Ad (Aa Ad (Aa Ad Ab)))) (A6 Ec (Aw D__law_cell hr (Aa (pv 0) (Aa Ad Ab))) Ad) (λ_ _=>rfl)))
   (Ac (As (i:=6) S.nd rfl (Or.inr rfl) (BJ Ab))
   (Ac (As (i:=7) S.nd rfl (Or.inl rfl) (BJ Ab))
   hL)))),?_⟩
   intro sh ts x2 x3 H1 s01 hsh hts l1 l4 so;refine⟨_,rfl,sh,_,rfl,.inl (SqL.of hsh),λ l nl=>?_⟩;intro a0 dx0 na0 ndx0 nex0;obtain⟨HA,g,sA,eA⟩:=nw (.lst (Ai ts)) nl;rw[g]at na0 ndx0 |-;have sB:Same HA (upd (upd HA dx0 (.own a0)) a0 (.ins C dx0 [])):=λ b o e=>by rw[Ae (Af e na0),Ae (Af e ndx0)];exact e
   have eB:(upd (upd HA dx0 (.own a0)) a0 (.ins C dx0 [])) a0=some (.ins C dx0 []):=upd_same;generalize upd (upd HA dx0 (.own a0)) a0 (.ins C dx0 [])=HB at sB eB |-;have sAB:=sA.trans sB;refine⟨a0,dx0,l,ts.map (·.2),rfl,eB,⟨ts,sB _ _ eA,λ t ht=>sAB _ _ (hts t ht),rfl⟩,by rw[List.length_map];exact l1,by rw[List.length_map];exact l4,(λ z hz=>by obtain⟨t,ht,rfl⟩:=List.mem_map.mp hz;exact so t ht),λ ls lt us HC nls nlt ne0 xC bnC eu=>⟨rfl,?_⟩⟩;have sC:Same HA HC:=λ b o e=>xC _ _ (Af e na0) (sB _ _ e);have s1C:=sA.trans sC;have sHC:=s01.trans s1C;refine⟨Au 3,λ L nL=>?_⟩;obtain⟨HD,g,sD,eD⟩:=nw (.lst [.int 3,.int 5,.int 12]) nL;rw[g];refine⟨_,rfl,a,ns,5,rfl,(sHC.trans sD).seq hS0,by decide,λ z=>⟨_,_,rfl,rfl,(show(0:Int)<3 from by decide),?_⟩⟩;obtain⟨v,hv,hm⟩:=R3 (L:=[.int 3,.int 5,.int 12]) (i:=z % 3) (Int.emod_nonneg _ (by decide)) (Int.emod_lt_of_pos _ (by decide));obtain⟨m,rfl,m1,m2⟩:∃m:Int,v=.int m/\1<=m/\m<=12:=by
    simp only[List.mem_cons,List.not_mem_nil,or_false]at hm;rcases hm with rfl|rfl|rfl
    .exact⟨3,rfl,by decide,by decide⟩
    .exact⟨5,rfl,by decide,by decide⟩
    .exact⟨12,rfl,by decide,by decide⟩
   refine⟨L,_,_,_,rfl,rfl,SqL.of eD,hv,?_⟩;refine⟨Au 0,λ pA nP=>?_⟩;obtain⟨HE,g,sE,eE⟩:=nw (.lst []) nP;rw[g];refine⟨Au 0,λ kA nK=>?_⟩;obtain⟨HF,g,sF,eF⟩:=nw (.lst []) nK;rw[g];have sDF:=sE.trans sF;have sCF:=sD.trans sDF;have s1F:=s1C.trans sCF;have ne':∀{x y:Addr}{o:HO}{G:Hp},G x=some o->G y=none->x≠y:=λ a b=>Af a b;have lt1:∀{x:Addr}{o:HO},H1 x=some o->x∉[lt,pA,kA]:=λ{x o} e z=>by
    simp only[List.mem_cons,List.not_mem_nil,or_false]at z;rcases z with rfl|rfl|rfl
    .exact ne' (sAB _ _ e) nlt rfl
    .exact ne' (sD _ _ (s1C _ _ e)) nP rfl
    .exact ne' (sE _ _ (sD _ _ (s1C _ _ e))) nK rfl
   refine kL sh a0 dx0 ls lt pA kA ts us (ts.map (·.2)) m x2 x3 HF (s01.trans s1F) m1 m2 (λ pL cs H2 s2 npL hpL=>?_) eu rfl ⟨⟨(λ x hx=>nomatch hx),List.Perm.refl _⟩,rfl,(λ z hz=>by obtain⟨t,ht,rfl⟩:=List.mem_map.mp hz;exact so t ht),by rw[List.length_map];exact l4,Nat.le_refl _,(λ t ht=>nomatch ht),Nat.le_refl _,Nat.le_refl _⟩;have sC2:=sCF.trans s2;refine⟨bnC.same sC2,hpL,?_,s2 _ _ (s1F _ _ hsh),λ t ht=>s2 _ _ (s1F _ _ (hts t ht)),s2 _ _ (sF _ _ eE),(λ t ht=>nomatch ht),s2 _ _ eF,(λ e he=>nomatch he),(λ e he=>nomatch he),TabOk.same (TabOk.new htb) ((s01.trans s1F).trans s2),lt1 hsh,?_,?_,?_,?_⟩
   .intro z;simp only[List.mem_cons,List.not_mem_nil,or_false]at z;rcases z with rfl|rfl|rfl
    .exact ne' (sCF _ _ bnC.tak) npL rfl
    .exact ne' (sF _ _ eE) npL rfl
    .exact ne' eF npL rfl
   .intro z;simp only[List.mem_cons,List.not_mem_nil,or_false]at z;rcases z with z|rfl|rfl
    .exact ne0 z
    .exact ne' (sD _ _ bnC.lst) nP rfl
    .exact ne' (sE _ _ (sD _ _ bnC.lst)) nK rfl
   .exact ne' (sD _ _ bnC.tak) nP
   .exact ne' (sE _ _ (sD _ _ bnC.tak)) nK
   .exact ne' eE nK
  refine⟨_,(Ac (As (i:=1) S.nd rfl (Or.inl rfl) (BJ Ab))
   (Ac (C3 PassesOwn.never rfl (DH rfl T.z_range (Aa (A6 Bp Ad (A6 Ec (Aw D__law_cell hr (Aa (pv 0) (Aa Ad Ab))) Ad)) Ab)) (An (i:=2) S.nd rfl (Or.inl rfl)) (Ac (As (i:=3) S.nd rfl (Or.inl rfl) (Aw D__law_cell hr (Aa (pv 0) (Aa (A6 Bp Ad (pv 2)) Ab))))
   (Ah (B0 (DQ PySem.F.plainAttrs_list PySem.F.slot_list_append PySem.F.type_list_append Bc (pv 1) (Aa (Av (Aa (A6 Bp Ad (Aw D__law_draw hr (Aa (pv 3) (Aa Ad (Aa Ad Ab))))) (Aa (A6 Bp Ad (Aw D__law_draw hr (Aa (pv 3) (Aa Ad (Aa Ad Ab))))) Ab))) Ab))))))
   hB)),?_⟩
  refine⟨Au 0,λ sh nsh=>?_⟩;obtain⟨H0,g,s0,e0⟩:=nw (.lst []) nsh;rw[g];refine⟨_,rfl,a,ns,0,rfl,s0.seq hS0,by decide,λ z=>?_⟩;have z0:=Int.emod_nonneg z (b:=4) (by decide);have z4:=Int.emod_lt_of_pos z (b:=4) (by decide);refine⟨_,_,rfl,rfl,(show(0:Int)<4 from by decide),_,_,rfl,rfl,_,rfl,by lia,by lia,Fe (lo:=0) (n:=(1+z % 4).toNat) (λ i σ H'=>(∃w2 w3,σ=[some (.ref a),some (.ref sh),w2,w3,none,none,none,none,none,none,none,none,none,none,none,none,none,none,none,none,none])/\Same H H'/\∃ts:LZ,H' sh=some (.lst (Ai ts))/\(∀t∈ts,H' t.1=some (.tup [.int t.2.1,.int t.2.2]))/\ts.length=i/\∀t∈ts,SOk t.2)
   ⟨⟨_,_,rfl⟩,s0,[],e0,(λ t ht=>nomatch ht),rfl,(λ t ht=>nomatch ht)⟩ ?_ ?_⟩
  .rintro i σ H1 hi ⟨⟨w2,w3,rfl⟩,s1,ts,t1,t2,t3,t4⟩;refine⟨_,rfl,_,rfl,_,_,rfl,rfl,a,ns,_,rfl,s1.seq hS0,by show(0:Int)<=1+(0+(i:Int));lia,λ c=>?_⟩;refine⟨_,rfl,.inl ⟨rfl,_,SqL.of t1⟩,_,rfl,c,1,12,rfl,by decide,by decide,by decide,λ r1 r10 r11=>⟨_,_,rfl,rfl,_,rfl,c,2,12,rfl,by decide,by decide,by decide,λ r2 r20 r21=>⟨_,_,rfl,rfl,Au 2,λ b nb=>?_⟩⟩⟩;obtain⟨H2,g,s2,e2⟩:=nw (.tup [(λ i j=>V.int (i+j)) 1 r1,(λ i j=>V.int (i+j)) 1 r2]) nb;rw[g];have e2:H2 b=some (.tup [.int (1+r1),.int (1+r2)]):=e2;have t1':=s2 _ _ t1;refine⟨sh,_,_,rfl,rfl,t1',Ap (by rw[Al];lia),?_⟩;have te:Ai ts++[V.ref b]=Ai (ts++[((b,1+r1,1+r2):Addr×Int×Int)]):=by rw[Ai,Ai,List.map_append];rfl
   rw[te];refine⟨⟨_,_,rfl⟩,λ y o e=>by rw[Ae (Af e nsh)];exact s2 _ _ (s1 _ _ e),_,upd_same,λ t ht=>?_,by rw[List.length_append,t3];rfl,λ t ht=>?_⟩
   .rcases List.mem_append.mp ht with ht|ht
    .exact Bk (s2 _ _ (t2 t ht)) t1'
    .rw[List.mem_singleton.mp ht];exact Bk e2 t1'
   .rcases List.mem_append.mp ht with ht|ht
    .exact t4 t ht
    .rw[List.mem_singleton.mp ht];exact⟨by show 1<=1+r1;lia,by show 1+r1<=12;lia,by show 1<=1+r2;lia,by show 1+r2<=12;lia⟩
  .rintro σ H1 ⟨⟨w2,w3,rfl⟩,s1,ts,t1,t2,t3,t4⟩;exact kB sh ts w2 w3 H1 s1 t1 t2 (by rw[t3];lia) (by rw[t3];lia) t4
def icB(K:Frag)(C:Addr):Bool:=plainGet K C Str.empty&&(hasDictIn K C&&(plainOver K C&&((findIn K (.ref C) "__setattr__"==some (some (.builtin "object.__setattr__")))&&((findIn K (.ref C) "__class__"==some (some (.builtin "object.__class__"))) &&
 ((specialIn K (.builtin "object.__class__") "__get__"==some (some (.builtin "getset_descriptor.__get__")))&&((takesIn K (.builtin "object.__class__")==some true)&&((mroIn K C (.type "object")==some true)&&(makesIn K C&&keepIn K (.ref C)))))))))
theorem Md{C:Addr}(h:icB K C=true):M1 K C/\makesIn K C=true/\keepIn K (.ref C)=true:=by
 unfold icB at h;simp only[Bool.and_eq_true,beq_iff_eq]at h;obtain⟨a,b,c,d,e,f,g,i,j,l⟩:=h;exact⟨⟨⟨a,b,c,d⟩,e,f,g,i⟩,j,l⟩
def Ro(K:Frag)(cT cW cU cL:Addr):Bool:=([(cW,"mark"),(cU,"at"),(cU,"first"),(cU,"other"),(cL,"at"),(cL,"first"),(cL,"other")]:List (Addr×Str)).all (λ p=>findIn K (.ref p.1) p.2==some none) &&
 ([(cW,cW,true),(cW,cU,false),(cW,cL,false),(cU,cW,false),(cL,cW,false),(cU,cU,true),(cU,cL,false),(cL,cU,false),(cL,cL,true),(cW,cT,true),(cU,cT,true),(cL,cT,true)]:List (Addr×Addr×Bool)).all (λ p=>kitOne K (.ref p.1) (.ref p.2.1)==some p.2.2)
theorem RV(h:Ro K cT cW cU cL=true)(iW:M1 K cW)(iU:M1 K cU)(iL:M1 K cL)(gT:mg "Tree"=some (.ref cT))(gW:mg "Whole"=some (.ref cW))(gU:mg "Upright"=some (.ref cU))(gL:mg "Level"=some (.ref cL)):RT mg K cT cW cU cL:=by
 unfold Ro at h;rw[Bool.and_eq_true,List.all_eq_true,List.all_eq_true]at h;obtain⟨h1,h2⟩:=h;have f1:∀p∈([(cW,"mark"),(cU,"at"),(cU,"first"),(cU,"other"),(cL,"at"),(cL,"first"),(cL,"other")]:List (Addr×Str)),findIn K (.ref p.1) p.2=some none:=λ p hp=>beq_iff_eq.mp (h1 p hp);have f2:∀p∈([(cW,cW,true),(cW,cU,false),(cW,cL,false),(cU,cW,false),(cL,cW,false),(cU,cU,true),(cU,cL,false),(cL,cU,false),(cL,cL,true),(cW,cT,true),(cU,cT,true),(cL,cT,true)]:List (Addr×Addr×Bool)),kitOne K (.ref p.1) (.ref p.2.1)=some p.2.2:=λ p hp=>beq_iff_eq.mp (h2 p hp);simp only[List.forall_mem_cons,List.not_mem_nil,false_implies,implies_true,and_true]at f1 f2;obtain⟨a1,a2,a3,a4,a5,a6,a7⟩:=f1;obtain⟨k1,k2,k3,k4,k5,k6,k7,k8,k9,k10,k11,k12⟩:=f2;refine⟨gT,gW,gU,gL,iW,?_,a1,?_,?_,?_,k1,?_,?_,?_,k10,?_⟩
 .intro u;cases u;exact iL;exact iU
 .intro u;cases u;exact a5;exact a2
 .intro u;cases u;exact a6;exact a3
 .intro u;cases u;exact a7;exact a4
 .intro u;cases u;exact k3;exact k2
 .intro u;cases u;exact k5;exact k4
 .intro u v;cases u<;>cases v;exact k9;exact k8;exact k7;exact k6
 .intro u;cases u;exact k12;exact k11
end
theorem NI{α β:Type}{us:List α}{p:β}{ps:List β}(h:us.length=(p::ps).length):∃u vs,us=u::vs/\vs.length=ps.length:=by
 cases us with
 |nil=>cases h
 |cons u vs=>exact⟨u,vs,rfl,Nat.succ.inj h⟩
theorem NH{α β:Type}{us:List α}(h:us.length=([]:List β).length):us=[]:=List.length_eq_zero_iff.mp h
abbrev FB(K:Frag)(x qual:Str)(st:Stmt)(f:Addr):Prop:=∃fd,Fun K x qual st f fd
abbrev FI(K:Frag)(x:Str)(st:Stmt)(f:Addr):Prop:=nsIn K mainGlobals x=some (some (.ref f))/\FB K x x st f
abbrev MI(K:Frag)(C:Addr)(x qual:Str)(st:Stmt)(f:Addr):Prop:=findIn K (.ref C) x=some (some (.ref f))/\isFn K (.ref f)=true/\FB K x qual st f
structure HC(P:Program)(w:World)(K:Frag)(mg:MGz)(base:Heap):Prop where
 ex:∃h:Heap,K.In h/\h.Ns mainGlobals mg
abbrev BOk(x qual:Str)(st:Stmt)(ps:LSz):Prop:=∀(kV doc pm:Value)(an:Option Addr)(cdv ct:Value)(us:LWz),us.length=ps.length->bindArgs (fnOf x qual (Ba st) (A4 st) (Ag st) .none kV doc pm an cdv ct) ⟨us,[]⟩=pure (ps.zip us)
section
variable{P:Program}{w:World}{K:Frag}{mg:MGz}{base:Heap}{x qual:Str}{st:Stmt}{f C:Addr}{n:Nat}{ps:LSz}{sp:Sp}{v:Value}
theorem HC.g(c:HC P w K mg base)(a:nsIn K mainGlobals x=some (some v)):mg x=some v:=let ⟨_,X,G⟩:=c.ex;mg_of X G a
theorem HC.d(c:HC P w K mg base)(i:FI K x st f)(ok:∀fd,Fun K x x st f fd->A8 P w K mg base CX0 n f fd ps sp)(hb:BOk x x st ps:=by intro _ _ _ _ _ _ us hl;(repeat (obtain⟨_,_,e,h⟩:=NI hl;clear hl;subst e;have hl:=h;clear h));cases NH hl;rfl):A5 P w K mg base n x ps sp:=let ⟨a,_,F⟩:=i;⟨_,_,ok _ F,c.g a,F.kp,F.binds hb⟩
theorem HC.m(_:HC P w K mg base)(l:Cls K C)(i:MI K C x qual st f)(ok:∀fd,Fun K x qual st f fd->A8 P w K mg base CX0 n f fd ps sp)(hb:BOk x qual st ps:=by intro _ _ _ _ _ _ us hl;(repeat (obtain⟨_,_,e,h⟩:=NI hl;clear hl;subst e;have hl:=h;clear h));cases NH hl;rfl):GZ P w K mg base n C x ps sp:=let ⟨a,b,_,F⟩:=i;⟨l,_,_,⟨a,b,F.kp⟩,ok _ F,F.binds hb⟩
theorem HC.mx(_:HC P w K mg base)(l:Cls K C)(i:MI K C x qual st f)(ok:∀fd,Fun K x qual st f fd->A8 P w K mg base (CX1 P w) n f fd ps sp)(hb:BOk x qual st ps:=by intro _ _ _ _ _ _ us hl;(repeat (obtain⟨_,_,e,h⟩:=NI hl;clear hl;subst e;have hl:=h;clear h));cases NH hl;rfl):Iu P w K mg base n C x ps sp:=let ⟨a,b,_,F⟩:=i;⟨l,_,_,⟨a,b,F.kp⟩,ok _ F,F.binds hb⟩
theorem HC.k{cn:Str}(c:HC P w K mg base)(m:makesIn K C=true)(k:keepIn K (.ref C)=true)(ac:nsIn K mainGlobals cn=some (some (.ref C)))(i:MI K C "__init__" qual st f)(ok:∀fd,Fun K "__init__" qual st f fd->A8 P w K mg base CX0 n f fd ps sp)(hb:BOk "__init__" qual st ps:=by intro _ _ _ _ _ _ us hl;(repeat (obtain⟨_,_,e,h⟩:=NI hl;clear hl;subst e;have hl:=h;clear h));cases NH hl;rfl):M0 P w K mg base n cn C ps sp:=let ⟨a,b,_,F⟩:=i;⟨_,_,⟨m,a,b,k⟩,ok _ F,c.g ac,F.binds hb⟩
theorem HC.xm{cn:Str}{ns:LSz}(c:HC P w K mg base)(l:JQ K C=true)(e:C6 K C f=true)(k:keepIn K (.ref C)=true)(ac:nsIn K mainGlobals cn=some (some (.ref C)))(i:MI K C "__init__" qual st f)(ok:∀fd,Fun K "__init__" qual st f fd->XCls K C->A8 P w K mg base CX0 n f fd ps (P8 C ns))(fw:ns.length<=1000:=by decide)(hb:BOk "__init__" qual st ps:=by intro _ _ _ _ _ _ us hl;(repeat (obtain⟨_,_,e,h⟩:=NI hl;clear hl;subst e;have hl:=h;clear h));cases NH hl;rfl):Nn P w K mg base n cn C ps ns:=let ⟨a,b,_,F⟩:=i;⟨fw,_,_,⟨XCls.of l,e,k,b⟩,ok _ F (XCls.of l),c.g ac,F.binds hb⟩
end
theorem all_mk{l:OpenLaw}{w:World}{K:Frag}{h:Heap}{mg:MGz}{fa:Addr}(X:K.In h)(G:h.Ns mainGlobals mg)(hfa:mg "law"=some (.ref fa))
  {C:Addr} (aC:nsIn K mainGlobals "Bench"=some (some (.ref C)))
  (pg_C:plainGet K C Str.empty=true)
  (hd_C:hasDictIn K C=true)
  (po_C:plainOver K C=true)
  (sa_C:findIn K (.ref C) "__setattr__"=some (some (.builtin "object.__setattr__")))
  (mk_C:makesIn K C=true)
  (kc_C:keepIn K (.ref C)=true)
  (n_C_stock:findIn K (.ref C) "stock"=some none)
  (n_C_taken:findIn K (.ref C) "taken"=some none)
  {cT:Addr} (aT:nsIn K mainGlobals "Tree"=some (some (.ref cT)))
  {cW:Addr} (aC_cW:nsIn K mainGlobals "Whole"=some (some (.ref cW))) (ic_cW:icB K cW=true)
  {f_cW:Addr} {od_cW an_cW:Option Addr} {sl_cW:AOz} {oc_cW kV_cW dc_cW pm_cW cd_cW ct_cW:Value} {T_cW:Addr} {to_cW:Value} {td_cW:Option Addr} {ts_cW:AOz} {ti_cW:Array Value} {tn_cW:Nat} (a_cWcW:findIn K (.ref cW) "__init__"=some (some (.ref f_cW))) (i_cW:isFn K (.ref f_cW)=true) (l_cW:K.lookup f_cW=some ⟨oc_cW,od_cW,.func (fnOf "__init__" "Whole.__init__" (Ba Br) (A4 Br) (Ag Br) (.ref T_cW) kV_cW dc_cW pm_cW an_cW cd_cW ct_cW),sl_cW⟩) (cc_cW:codeIn K cd_cW "Whole.__init__"=true) (k_cW:keepIn K (.ref f_cW)=true) (lT_cW:K.lookup T_cW=some ⟨to_cW,td_cW,.seq ti_cW tn_cW,ts_cW⟩) (eT_cW:ti_cW=#[.none])
  {cU:Addr} (aC_cU:nsIn K mainGlobals "Upright"=some (some (.ref cU))) (ic_cU:icB K cU=true)
  {f_cU:Addr} (h_cUcU:MI K cU "__init__" "Upright.__init__" Ck f_cU)
  {cL:Addr} (aC_cL:nsIn K mainGlobals "Level"=some (some (.ref cL))) (ic_cL:icB K cL=true)
  {f_cL:Addr} (h_cLcL:MI K cL "__init__" "Level.__init__" CT f_cL)
  (kit:Ro K cT cW cU cL=true)
  {cG:Addr} (aG:nsIn K mainGlobals "GlassError"=some (some (.ref cG))) (eG:excIn K cG vErr "ValueError.__new__"=true)
  {cGl:Addr} (aC_cGl:nsIn K mainGlobals "NoGlass"=some (some (.ref cGl))) (kC_cGl:keepIn K (.ref cGl)=true) (nC_cGl:findIn K (.ref cGl) "width"=some none) (nC2_cGl:findIn K (.ref cGl) "height"=some none)
  {f_cGl:Addr} (h_cGlcGl:MI K cGl "__init__" "NoGlass.__init__" Cm f_cGl)
  (ei_cGl:C6 K cGl f_cGl=true) (xc_cGl:JQ K cGl=true) (xm_cGl:mroIn K cGl (.ref cG)=some true)
  {cM:Addr} (aC_cM:nsIn K mainGlobals "TooMany"=some (some (.ref cM))) (kC_cM:keepIn K (.ref cM)=true) (nC_cM:findIn K (.ref cM) "many"=some none)
  {f_cM:Addr} (h_cMcM:MI K cM "__init__" "TooMany.__init__" Cl f_cM)
  (ei_cM:C6 K cM f_cM=true) (xc_cM:JQ K cM=true) (xm_cM:mroIn K cM (.ref cG)=some true)
  (hself:mroIn K cGl (.ref cGl)=some true)
  {f0:Addr} (h0:FI K "is_whole" DY f0)
  {f1:Addr} (h1:FI K "is_side" EX f1)
  {f2:Addr} (h2:FI K "size_of" EW f2)
  {f3:Addr} (h3:FI K "area_of" EY f3)
  {f4:Addr} (h4:FI K "check_sides" Cz f4)
  {f5:Addr} (h5:FI K "cut_from" Eb f5)
  {f6:Addr} (h6:FI K "tree_from" Dl f6)
  {f7:Addr} (h7:FI K "first_piece" Cy f7)
  {f8:Addr} (h8:FI K "other_piece" Cw f8)
  {f9:Addr} (h9:FI K "entries_by" CO f9)
  {f10:Addr} (h10:FI K "ways_to_lie" Cv f10)
  {f11:Addr} (h11:FI K "ways_held" Dk f11)
  {f12:Addr} (h12:FI K "is_sheet" DZ f12)
  {f13:Addr} (h13:FI K "check_sheets" Cj f13)
  {f14:Addr} (h14:FI K "holds" IU f14)
  {f15:Addr} (h15:FI K "cut_pane" Ea f15)
  {f16:Addr} {od16 an16:Option Addr} {sl16:AOz} {oc16 kV16 dc16 pm16 cd16 ct16:Value} (a16:nsIn K mainGlobals "tree_in"=some (some (.ref f16))) (l16:K.lookup f16=some ⟨oc16,od16,.func (fnOf "tree_in" "tree_in" (Ba AT) (A4 AT) (Ag AT) .none kV16 dc16 pm16 an16 cd16 ct16),sl16⟩) (cc16:codeIn K cd16 "tree_in"=true) (k16:keepIn K (.ref f16)=true) {c16 tb2:Addr} (ec16:cd16=.ref c16) (hC16:JG K c16 tb2=true)
  {f17:Addr} (h17C:MI K C "__init__" "Bench.__init__" CU f17)
  {f18:Addr} (h18C:MI K C "whole_pieces" "Bench.whole_pieces" Bm f18)
  {f19:Addr} (h19C:MI K C "panes_cut" "Bench.panes_cut" BD f19)
  {f20:Addr} (h20C:MI K C "offcuts" "Bench.offcuts" BV f20)
  {f21:Addr} (h21C:MI K C "sheets" "Bench.sheets" Cn f21)
  {f22:Addr} (h22C:MI K C "areas" "Bench.areas" C1 f22)
  {f23:Addr} (h23C:MI K C "piece_for" "Bench.piece_for" BB f23)
  {f24:Addr} {od24 an24:Option Addr} {sl24:AOz} {oc24 kV24 dc24 pm24 cd24 ct24:Value} {T24:Addr} {to24:Value} {td24:Option Addr} {ts24:AOz} {ti24:Array Value} {tn24:Nat} (a24C:findIn K (.ref C) "cut"=some (some (.ref f24))) (i24:isFn K (.ref f24)=true) (l24:K.lookup f24=some ⟨oc24,od24,.func (fnOf "cut" "Bench.cut" (Ba B6) (A4 B6) (Ag B6) (.ref T24) kV24 dc24 pm24 an24 cd24 ct24),sl24⟩) (cc24:codeIn K cd24 "Bench.cut"=true) (k24:keepIn K (.ref f24)=true) (lT24:K.lookup T24=some ⟨to24,td24,.seq ti24 tn24,ts24⟩) (eT24:ti24=#[.bool false])
  {f25:Addr} (h25:FI K "_law_cell" Dq f25)
  {f26:Addr} (h26:FI K "_law_draw" Dp f26)
  {f27:Addr} (h27:FI K "_law_state" BA f27)
  {f28:Addr} (h28:FI K "_law_pick" Dn f28)
  {f29:Addr} (h29:FI K "_law_whole" CP f29)
  {f30:Addr} (h30:FI K "_law_told" Dm f30)
  {f31:Addr} (h31:FI K "_law_pieces" C0 f31)
  {f32:Addr} (h32:FI K "_law_fits" Do f32)
  {f33:Addr} (h33:FI K "_law_area" Dr f33)
  {f34:Addr} (h34:FI K "_law_apart" CS f34)
  {f35:Addr} (h35:FI K "_law_asked" CQ f35)
  {f36:Addr} (h36:FI K "_law_taken" B9 f36)
  {f37:Addr} (h37:FI K "law" Bu f37)
  {bm:Addr} {bsl:AOz} (abm:nsIn K mainGlobals "__builtins__"=some (some (.ref bm))) (lbm:K.lookup bm=some ⟨.type "module",some builtinsNs,.plain,bsl⟩) (nbm1:bm≠builtinsNs) (nbm2:bm≠mainGlobals)
  (z0:nsIn K mainGlobals "abs"=some none)
  (z1:nsIn K mainGlobals "isinstance"=some none)
  (z2:nsIn K mainGlobals "int"=some none)
  (z3:nsIn K mainGlobals "bool"=some none)
  (z4:nsIn K mainGlobals "tuple"=some none)
  (z5:nsIn K mainGlobals "len"=some none)
  (z6:nsIn K mainGlobals "range"=some none)
  (z7:nsIn K mainGlobals "sorted"=some none)
  (z8:nsIn K mainGlobals "sum"=some none)
  (z9:nsIn K mainGlobals "min"=some none)
  (z10:nsIn K mainGlobals "enumerate"=some none)
  (z11:nsIn K mainGlobals "list"=some none)
  (z12:nsIn K mainGlobals "all"=some none)
  (z13:nsIn K mainGlobals "reversed"=some none)
  {tk0:Tok} (g0:nsIn K mainGlobals "LONGEST_SIDE"=some (some (.int 12 tk0)))
  {tk1:Tok} (g1:nsIn K mainGlobals "WHOLE"=some (some (.str "whole" tk1)))
  {tk2:Tok} (g2:nsIn K mainGlobals "UPRIGHT"=some (some (.str "upright" tk2)))
  {tk3:Tok} (g3:nsIn K mainGlobals "LEVEL"=some (some (.str "level" tk3)))
  {tk4:Tok} (g4:nsIn K mainGlobals "MOST_SHEETS"=some (some (.int 4 tk4)))
  {tk5:Tok} (g5:nsIn K mainGlobals "MOST_CUT"=some (some (.int 60 tk5)))
  : ∃fd:FuncData,(∀(s:Shared)(v:Value),BindsTo s fd ⟨[v],[]⟩ [("_law_script",v)])/\∀base:Heap,K.In base->base.Ns mainGlobals mg->A8 l.prog w K mg base CX0 29 fa fd ["_law_script"] (sp_law tb2 K):=by
 have e:=hfa.symm.trans (mg_of X G h37.1);cases e;have T:Txt mg (tk0,tk1,tk2,tk3,tk4,tk5):=⟨mg_none_of X G z0,mg_none_of X G z1,mg_none_of X G z2,mg_none_of X G z3,mg_none_of X G z4,mg_none_of X G z5,mg_none_of X G z6,mg_none_of X G z7,mg_none_of X G z8,mg_none_of X G z9,mg_none_of X G z10,mg_none_of X G z11,mg_none_of X G z12,mg_none_of X G z13,mg_of X G g0,mg_of X G g1,mg_of X G g2,mg_of X G g3,mg_of X G g4,mg_of X G g5⟩;have BC:JP K C:=⟨⟨pg_C,hd_C,po_C,sa_C⟩,n_C_stock,n_C_taken⟩;obtain⟨I_cW,mk_cW,kc_cW⟩:=Md ic_cW;obtain⟨I_cU,mk_cU,kc_cU⟩:=Md ic_cU;obtain⟨I_cL,mk_cL,kc_cL⟩:=Md ic_cL;have R0:RT mg K cT cW cU cL:=RV kit I_cW I_cU I_cL (mg_of X G aT) (mg_of X G aC_cW) (mg_of X G aC_cU) (mg_of X G aC_cL);have hB0:R8 K mg:=⟨bm,bsl,mg_of X G abm,nbm1,nbm2,lbm⟩;have RB0:RB mg K cGl:=⟨mg_of X G aC_cGl,⟨f_cGl,ei_cGl⟩,hself⟩;have F_cW:FunD K "__init__" "Whole.__init__" Br f_cW _:=⟨⟨_,_,_,_,_,_,_,_,_,_,_,tn_cW,rfl,l_cW,cc_cW,lT_cW,by rw[eT_cW]⟩,k_cW⟩;have b_cW:=F_cW.binds (ps:=["self","mark"]) (ds:=[]) λ_ _ _ _ _ _ _ us hl=>by obtain⟨u0,u1,rfl⟩:=LY ((List.append_nil us) ▸ hl);exact⟨_,rfl,rfl⟩
 have F16:=Qj (st:=AT) l16 cc16 k16 ec16;have b16:=F16.fn.binds (ps:=["entries","sheet"]) λ_ _ _ _ _ _ us hl=>by (repeat (obtain⟨_,_,e,h⟩:=NI hl;clear hl;subst e;have hl:=h;clear h));cases NH hl;rfl
 have F24:FunF K "cut" "Bench.cut" B6 f24 _ (.bool false):=⟨⟨_,_,_,_,_,_,_,_,_,_,_,tn24,rfl,l24,cc24,lT24,by rw[eT24]⟩,k24⟩;have b24:=F24.binds (ps:=["self","width","height","turns"]) (ds:=[]) λ_ _ _ _ _ _ _ us hl=>by obtain⟨u0,u1,u2,u3,rfl⟩:=Tc ((List.append_nil us) ▸ hl);exact⟨_,rfl,rfl⟩
 obtain⟨ha37,fd,F37⟩:=h37;obtain⟨oc,od,kV,doc,pm,an,cdv,ct,osl,rfl,lk,hcd⟩:=id F37.ex;refine⟨fnOf "law" "law" (Ba Bu) (A4 Bu) (Ag Bu) .none kV doc pm an cdv ct,λ s v=>.of_eq rfl,λ base _ _=>?_⟩;have c:HC l.prog w K mg base:=⟨h,X,G⟩;have K_Whole:M0 l.prog w K mg base 1 "Whole" cW ["self","mark"] (O0 cW):=⟨_,_,⟨mk_cW,a_cWcW,i_cW,kc_cW⟩,Ho F_cW R0,mg_of X G aC_cW,b_cW⟩;have K_Upright:=c.k mk_cU kc_cU aC_cU h_cUcU λ_ F=>F3 F R0;have K_Level:=c.k mk_cL kc_cL aC_cL h_cLcL λ_ F=>Hq F R0;have X_NoGlass:=c.xm xc_cGl ei_cGl kC_cGl aC_cGl h_cGlcGl λ_ F x=>F5 F x nC_cGl nC2_cGl;have X_TooMany:=c.xm xc_cM ei_cM kC_cM aC_cM h_cMcM λ_ F x=>F4 F x nC_cM;have D_is_whole:=c.d h0 λ_ F=>Kt F T;have D_is_side:=c.d h1 λ_ F=>LM F T D_is_whole;have D_size_of:=c.d h2 λ_ F=>LL F;have D_area_of:=c.d h3 λ_ F=>LN F;have D_check_sides:=c.d h4 λ_ F=>Gx F D_is_side;have D_cut_from:=c.d (sp:=DV cW cU cL) h5 λ_ F=>Kw F T K_Upright K_Level;have D_tree_from:=c.d (sp:=IR K cW cU cL) h6 λ_ F=>Jg F T R0 K_Whole D_cut_from;have D_first_piece:=c.d h7 λ_ F=>Gw F T;have D_other_piece:=c.d h8 λ_ F=>Gv F T;have D_entries_by:=c.d h9 λ_ F=>Hn F T D_first_piece D_other_piece;have D_ways_to_lie:=c.d h10 λ_ F=>Gu F;have D_ways_held:=c.d h11 λ_ F=>Jf F D_ways_to_lie;have D_is_sheet:=c.d h12 λ_ F=>Ku F T D_is_side;have D_check_sheets:=c.d h13 λ_ F=>F2 F T D_is_sheet;have D_holds:=c.d h14 λ_ F=>OF F T D_size_of D_ways_held;have D_cut_pane:=c.d h15 λ_ F=>Kv F T D_size_of D_ways_held D_first_piece D_other_piece;have D_tree_in:A5 l.prog w K mg base 5 "tree_in" ["entries","sheet"] (ES tb2 cW cU cL):=⟨_,_,LJ F16 hC16 hB0 D_entries_by D_tree_from,mg_of X G a16,k16,b16⟩;have K_Bench:=c.k mk_C kc_C aC h17C λ_ F=>Hr F BC D_check_sheets;have M_Bench_whole_pieces:=c.m ⟨pg_C,hd_C,po_C,sa_C⟩ h18C λ_ F=>Df F T BC;have M_Bench_panes_cut:=c.m ⟨pg_C,hd_C,po_C,sa_C⟩ h19C λ_ F=>Ee F BC M_Bench_whole_pieces;have M_Bench_offcuts:=c.m ⟨pg_C,hd_C,po_C,sa_C⟩ h20C λ_ F=>Fa F T BC M_Bench_whole_pieces;have M_Bench_sheets:=c.m (sp:=DW tb2 C cW cU cL) ⟨pg_C,hd_C,po_C,sa_C⟩ h21C λ_ F=>F6 F BC D_tree_in;have M_Bench_areas:=c.m ⟨pg_C,hd_C,po_C,sa_C⟩ h22C λ_ F=>Gy F T BC D_area_of M_Bench_panes_cut M_Bench_offcuts;have M_Bench_piece_for:=c.mx ⟨pg_C,hd_C,po_C,sa_C⟩ h23C λ_ F=>Ed F T BC X_NoGlass D_area_of D_holds M_Bench_offcuts;have M_Bench_cut:Iu l.prog w K mg base 5 C "cut" ["self","width","height","turns"] (L1 C cGl):=⟨⟨pg_C,hd_C,po_C,sa_C⟩,_,_,⟨a24C,i24,k24⟩,Jm F24 T BC X_TooMany D_check_sides D_cut_pane M_Bench_panes_cut M_Bench_piece_for,b24⟩;have D__law_cell:=c.d h25 λ_ F=>Kr F T;have D__law_draw:=c.d h26 λ_ F=>Kq F;have D__law_state:=c.d h27 λ_ F=>Jj F T;have D__law_pick:=c.d h28 λ_ F=>Kn F D__law_draw;have D__law_whole:=c.d h29 λ_ F=>Jh F T;have A__law_told:∀n:Nat,A5 l.prog w K mg base (n+3) "_law_told" ["_law_tree"] (CC cW cU cL n):=λ n=>by
  induction n with
  |zero=>exact c.d h30 λ_ F=>J0 F GQ λ_ _ _ _=>Rj
  |succ n ih=>exact c.d h30 λ_ F=>Km F T R0 D__law_whole ih
 have D__law_told:=A__law_told 24;have A__law_pieces:∀n:Nat,A5 l.prog w K mg base (n+3) "_law_pieces" ["_law_told_here","_law_block"] (Ci n):=λ n=>by
  induction n with
  |zero=>exact c.d h31 λ_ F=>J0 F EH λ_ _ _ _=>OM
  |succ n ih=>exact c.d h31 λ_ F=>Hm F ih
 have D__law_pieces:=A__law_pieces 24;have A__law_fits:∀n:Nat,A5 l.prog w K mg base (n+3) "_law_fits" ["_law_told_here","_law_width","_law_height"] (Dj n):=λ n=>by
  induction n with
  |zero=>exact c.d h32 λ_ F=>J0 F GR λ_ _ _ _=>Rm
  |succ n ih=>exact c.d h32 λ_ F=>Ko F ih
 have D__law_fits:=A__law_fits 24;have D__law_area:=c.d h33 λ_ F=>Ks F;have D__law_apart:=c.d h34 λ_ F=>Jl F;have D__law_asked:=c.d h35 λ_ F=>Jk F RB0 M_Bench_cut;have D__law_taken:=c.d (sp:=EU cW cU cL) h36 λ_ F=>Ji F T D__law_told D__law_whole D__law_fits D__law_pieces D__law_apart D__law_area;exact Ri F37 T K_Bench D__law_cell D__law_draw D__law_state D__law_pick D__law_told D__law_asked D__law_taken D__law_area M_Bench_sheets M_Bench_offcuts M_Bench_areas
theorem walk(tb2:Addr){l:OpenLaw}{q:Program}{loose:LSz}{XP:(MGz)->Heap->Prop}{YP:World->Heap->Prop}{d:DefRec}{K:Params->Frag}{Ts:List Addr}(hm_tb2:tb2∈Ts)(hn:l.most=some 63)(hdf:d.params.defaults=[])
  (hY:∀(w:World)(h:Heap),YP w h->(K w.params).In h) (hT:∀(w:World)(h:Heap),YP w h->∀T∈Ts,h.get? T=some (tabObj #[])/\(K w.params).lookup T=none/\∃c,CodeHd h c T)
  (F:∀(w:World)(mg:MGz)(fa:Addr)(h:Heap),(K w.params).In h->h.Ns mainGlobals mg->mg d.name=some (.ref fa) ->
   ∃fd:FuncData,(∀(s:Shared)(u:Value),BindsTo s fd ⟨[u],[]⟩ [("_law_script",u)])/\∀base:Heap,(K w.params).In base->base.Ns mainGlobals mg->A8 l.prog w (K w.params) mg base CX0 29 fa fd ["_law_script"] (sp_law tb2 (K w.params))) :
  WalkO q loose XP YP l.row.toRowW d [] (λ f vs=>PySem.call f vs) :=
 L2.walk_ofT (n:=63) (k:=29) (x:="_law_script") (CX:=λ_=>CX0) (sp:=λ w=>sp_law tb2 (K w.params)) hn (by decide) hdf ⟨rfl,by decide,by decide⟩ hY hT F (λ_ _ a ns hl hO hS=>⟨a,ns,rfl,hS,hl,hO.2 tb2 hm_tb2,λ_=>rfl⟩) λ_ _ _ _ _ z=>z
end K72
open PySem PySem.W PyProof.Rows
set_option maxRecDepth 100000 in
set_option maxHeartbeats 0 in
theorem PySem.Challenge.cw_glazebench_k72_whole_no_glass_lost_holds : PySem.Challenge.rw_glazebench_k72_whole_no_glass_lost.Holds := by
 refine KH.prep fun said => ?_
 have fx : ∀ s, KH.Xp PySem.Challenge.pw_glazebench_k72_whole_no_glass_lost s = true → XL (KH.qv PySem.Challenge.pw_glazebench_k72_whole_no_glass_lost) [] (s.heap.nsMap mainGlobals) s.heap := fun s e => xl_of s (Bool.and_eq_true_iff.mp e).1
 have fr : ∀ s, KH.Xp PySem.Challenge.pw_glazebench_k72_whole_no_glass_lost s = true → RecFacts (RowW.records (OpenRow.toRowW PySem.Challenge.rw_glazebench_k72_whole_no_glass_lost.row)) s.heap := fun s e => recFacts_of (Bool.and_eq_true_iff.mp e).2
 refine holds_open (XP := XL (KH.qv PySem.Challenge.pw_glazebench_k72_whole_no_glass_lost) []) KH.left (L2.hookT (kHook KH.KK KH.kas KH.kas_is) KH.Ts).of (L2.hookT (kHook KH.KK KH.kas KH.kas_is) KH.Ts).keeps fx XL.keeps (by rfl) (by rfl) (by rfl) fr (by rfl) said (by decide +kernel) ?hb ?hw ?hc
 case hb => exact ⟨rfl,rfl, rfl,rfl, rfl, by decide +kernel⟩
 case hw => w_witness2
 case hc =>
  k_fill
  refine K72.walk (l := PySem.Challenge.rw_glazebench_k72_whole_no_glass_lost) (Ts := KH.Ts) 355 (by simp [KH.Ts]) rfl rfl (fun w h Y => PySem.W.kIn_of Y.1) ?HT ?F
  case HT =>
   intro w h Y T hT
   refine ⟨Y.2 T hT, ?_⟩
   have hT : T ∈ [355] := hT
   simp only [List.mem_cons, List.not_mem_nil, or_false] at hT
   subst hT
   ·exact ⟨by kernel_rfl, 359, L2.codeTB_of (c := 359) (T := 355) (by kernel_rfl) h (PySem.W.kIn_of Y.1)⟩
  case F =>
   intro w mg fa h KX G hmg
   refine' K72.all_mk (tb2 := 355) KX G hmg ?my_aC ?my_pg_C ?my_hd_C ?my_po_C ?my_sa_C ?my_mk_C ?my_kc_C ?my_n_C_stock ?my_n_C_taken ?my_aT ?my_aC_cW ?my_ic_cW ?my_a_cWcW ?my_i_cW ?my_l_cW ?my_cc_cW ?my_k_cW ?my_lT_cW ?my_eT_cW ?my_aC_cU ?my_ic_cU ?my_h_cUcU ?my_aC_cL ?my_ic_cL ?my_h_cLcL ?my_kit ?my_aG ?my_eG ?my_aC_cGl ?my_kC_cGl ?my_nC_cGl ?my_nC2_cGl ?my_h_cGlcGl ?my_ei_cGl ?my_xc_cGl ?my_xm_cGl ?my_aC_cM ?my_kC_cM ?my_nC_cM ?my_h_cMcM ?my_ei_cM ?my_xc_cM ?my_xm_cM ?my_hself ?my_h0 ?my_h1 ?my_h2 ?my_h3 ?my_h4 ?my_h5 ?my_h6 ?my_h7 ?my_h8 ?my_h9 ?my_h10 ?my_h11 ?my_h12 ?my_h13 ?my_h14 ?my_h15 ?my_a16 ?my_l16 ?my_cc16 ?my_k16 ?my_ec16 ?my_hC16 ?my_h17C ?my_h18C ?my_h19C ?my_h20C ?my_h21C ?my_h22C ?my_h23C ?my_a24C ?my_i24 ?my_l24 ?my_cc24 ?my_k24 ?my_lT24 ?my_eT24 ?my_h25 ?my_h26 ?my_h27 ?my_h28 ?my_h29 ?my_h30 ?my_h31 ?my_h32 ?my_h33 ?my_h34 ?my_h35 ?my_h36 ?my_h37 ?my_abm ?my_lbm ?my_nbm1 ?my_nbm2 ?my_z0 ?my_z1 ?my_z2 ?my_z3 ?my_z4 ?my_z5 ?my_z6 ?my_z7 ?my_z8 ?my_z9 ?my_z10 ?my_z11 ?my_z12 ?my_z13 ?my_g0 ?my_g1 ?my_g2 ?my_g3 ?my_g4 ?my_g5
   (case my_aC => k_is); (case my_pg_C => k_is); (case my_hd_C => k_is); (case my_po_C => k_is); (case my_sa_C => k_is); (case my_mk_C => k_is); (case my_kc_C => k_is); (case my_n_C_stock => k_is)
   (case my_n_C_taken => k_is); (case my_aT => k_is); (case my_aC_cW => k_is); (case my_a_cWcW => k_is); (case my_i_cW => k_is); (case my_l_cW => k_is); (case my_cc_cW => k_is); (case my_k_cW => k_is)
   (case my_lT_cW => k_is); (case my_aC_cU => k_is); (case my_aC_cL => k_is); (case my_aG => k_is); (case my_aC_cGl => k_is); (case my_kC_cGl => k_is); (case my_nC_cGl => k_is); (case my_nC2_cGl => k_is)
   (case my_xm_cGl => k_is); (case my_aC_cM => k_is); (case my_kC_cM => k_is); (case my_nC_cM => k_is); (case my_xm_cM => k_is); (case my_hself => k_is); (case my_a16 => k_is); (case my_l16 => k_is)
   (case my_cc16 => k_is); (case my_k16 => k_is); (case my_a24C => k_is); (case my_i24 => k_is); (case my_l24 => k_is); (case my_cc24 => k_is); (case my_k24 => k_is); (case my_lT24 => k_is)
   (case my_abm => k_is); (case my_lbm => k_is); (case my_z0 => k_is); (case my_z1 => k_is); (case my_z2 => k_is); (case my_z3 => k_is); (case my_z4 => k_is); (case my_z5 => k_is)
   (case my_z6 => k_is); (case my_z7 => k_is); (case my_z8 => k_is); (case my_z9 => k_is); (case my_z10 => k_is); (case my_z11 => k_is); (case my_z12 => k_is); (case my_z13 => k_is)
   (case my_g0 => k_is); (case my_g1 => k_is); (case my_g2 => k_is); (case my_g3 => k_is); (case my_g4 => k_is); (case my_g5 => k_is); (case my_eT_cW => rfl); (case my_ec16 => rfl)
   (case my_eT24 => rfl); (case my_ic_cW => kernel_rfl); (case my_ic_cU => kernel_rfl); (case my_ic_cL => kernel_rfl); (case my_kit => kernel_rfl); (case my_eG => kernel_rfl); (case my_ei_cGl => kernel_rfl); (case my_xc_cGl => kernel_rfl)
   (case my_ei_cM => kernel_rfl); (case my_xc_cM => kernel_rfl); (case my_hC16 => kernel_rfl); (case my_nbm1 => decide); (case my_nbm2 => decide)
   case my_h_cUcU | my_h_cLcL | my_h_cGlcGl | my_h_cMcM | my_h17C | my_h18C | my_h19C | my_h20C | my_h21C | my_h22C | my_h23C => exact ⟨by k_is, by k_is, _, ⟨⟨_,_,_,_,_,_,_,_,_,rfl, by k_is, by k_is⟩, by k_is⟩⟩
   case my_h0 | my_h1 | my_h2 | my_h3 | my_h4 | my_h5 | my_h6 | my_h7 | my_h8 | my_h9 | my_h10 | my_h11 | my_h12 | my_h13 | my_h14 | my_h15 | my_h25 | my_h26 | my_h27 | my_h28 | my_h29 | my_h30 | my_h31 | my_h32 | my_h33 | my_h34 | my_h35 | my_h36 | my_h37 => exact ⟨by k_is, _, ⟨⟨_,_,_,_,_,_,_,_,_,rfl, by k_is, by k_is⟩, by k_is⟩⟩
