import PyProof.Rows.All
import Wide.All
import OpenK.AllK
import Wide.FinOn
import Lean
import PyProof.EqAt
import PyProof.EqKinds
import PyProof.TupleCall
import PyProof.Rows.SortRuns
import PyProof.NeKinds
import PyProof.ExcAttrAll.ValueError
import PyProof.StationsW
import PyProof.PassesOwn
import PyProof.RulesAs
import PyProof.NsDelKeeps
import PyProof.CompMap
import PyProof.DictItems
import KE.KPairComp
import KE.KMinKey
import KE.KDictList
import KE.KDictOf
import KE.KEqDict
import PyProof.DictIter
import PyProof.DictWalks
import PyProof.Rows.DictUnroll
import KE.KRevIter
import KE.KLam
import KE.KSortKey
import KE.KSortTup
import PyProof.Rows.StrJoin2
import PyProof.Rows.StrNews
import PyProof.StrLawsTight
import PyProof.StrWalks
import PyProof.StrBlockH
import KE.KIntText
import KE.LcSums
import KE.KNest
import PyProof.ZipIter
import KE.KItemsList
import PySem.Challenge.RW_glazebench_k24_whole_cut_panels_have_tre
set_option Elab.async false
set_option linter.all false
set_option maxRecDepth 100000
abbrev VPz:=PySem.Value→PySem.Shared→Prop
abbrev PNz:=List (PySem.Addr × PySem.Obj)
abbrev MGz:=PySem.Str→Option PySem.Value
abbrev AOz:=Array (Option PySem.Value)
abbrev LSz:=List PySem.Str
abbrev LWz:=List PySem.Value
namespace L2
open PySem.W
open PySem PySem.Spec PyProof.Rows
abbrev Key:=Sum Int Str
def IM:Key->Value->Bool
 |.inl k,v=>Value.isInt k v
 |.inr x,v=>Value.isStrOf x v
def Vo(w:World):Key->Int
 |.inl k=>hashInt k
 |.inr x=>hashStr w x
theorem AV:∀{k:Key}{v:Value},IM k v=true->(∃i t,k=Sum.inl i/\v=Value.int i t)\/(∃x t,k=Sum.inr x/\v=Value.str x t)
 |.inl i,v,h=>by
  obtain⟨t,e⟩:=Value.isInt_shape (k:=i) (v:=v) h;exact .inl ⟨i,t,rfl,e⟩
 |.inr x,v,h=>by
  obtain⟨t,e⟩:=Value.isStrOf_shape (x:=x) (v:=v) h;exact .inr ⟨x,t,rfl,e⟩
theorem OK(i:Int)(t:Tok):IM (.inl i) (.int i t)=true:=by simp[IM,Value.isInt]
theorem OJ(x:Str)(t:Tok):IM (.inr x) (.str x t)=true:=by simp[IM,Value.isStrOf]
theorem Tl(a b:Int):decide ((Sum.inl a:Key)=Sum.inl b)=(a==b):=by
 by_cases e:a=b
 .subst e;simp
 .have h:¬(Sum.inl a:Key)=Sum.inl b:=λ q=>e (Sum.inl.inj q);rw[decide_eq_false h];exact(beq_eq_false_iff_ne.mpr e).symm
theorem Ti(a b:Str):decide ((Sum.inr a:Key)=Sum.inr b)=decide (a=b):=by
 by_cases e:a=b
 .subst e;simp
 .have h:¬(Sum.inr a:Key)=Sum.inr b:=λ q=>e (Sum.inr.inj q);rw[decide_eq_false h,decide_eq_false e]
theorem Tk(a:Int)(b:Str):decide ((Sum.inl a:Key)=Sum.inr b)=false:=decide_eq_false (λ q=>nomatch q)
theorem Tj(a:Str)(b:Int):decide ((Sum.inr a:Key)=Sum.inl b)=false:=decide_eq_false (λ q=>nomatch q)
def Bl(prog:Program)(w:World):PySem.KeyKind prog w Key where
 is:=IM
 hash:=Vo w
 inj:=λ v a b ha hb=>by
  rcases AV ha with ⟨i,t,rfl,rfl⟩|⟨x,t,rfl,rfl⟩
  .rcases AV hb with ⟨j,u,rfl,e⟩|⟨y,u,rfl,e⟩
   .injection e with e1 _;rw[e1]
   .exact nomatch e
  .rcases AV hb with ⟨j,u,rfl,e⟩|⟨y,u,rfl,e⟩
   .exact nomatch e
   .injection e with e1 _;rw[e1]
 byValue:=λ k v h=>by
  rcases AV h with ⟨i,t,rfl,rfl⟩|⟨x,t,rfl,rfl⟩<;>rfl
 pyHash:=λ hv h=>by
  rcases AV hv with ⟨i,t,rfl,rfl⟩|⟨x,t,rfl,rfl⟩
  .exact wpAny_pyHash_int h
  .exact wpAny_pyHash_str h
 eqBool:=λ hu hv h=>by
  rcases AV hu with ⟨i,t,rfl,rfl⟩|⟨x,t,rfl,rfl⟩
  .rcases AV hv with ⟨j,u,rfl,rfl⟩|⟨y,u,rfl,rfl⟩
   .rw[Tl]at h;exact wpAny_eqBool_int h
   .rw[Tk]at h;exact SeqAt.EqAt.int_str i t y u _ _ _ _ h
  .rcases AV hv with ⟨j,u,rfl,rfl⟩|⟨y,u,rfl,rfl⟩
   .rw[Tj]at h;exact SeqAt.EqAt.str_int x t j u _ _ _ _ h
   .rw[Ti]at h;exact wpAny_eqBool_str h
 «strs»:=λ k x t v h=>by
  rcases AV h with ⟨i,u,rfl,e⟩|⟨y,u,rfl,e⟩
  .exact nomatch e
  .injection e with e1 _;subst e1;cases v<;>rfl
theorem Lk(prog:Program)(w:World)(i:Int)(t:Tok):(Bl prog w).is (.inl i) (.int i t)=true:=OK i t
theorem Lj(prog:Program)(w:World)(x:Str)(t:Tok):(Bl prog w).is (.inr x) (.str x t)=true:=OJ x t
inductive V where
 |non|bl (b:Bool)|int (i:Int)|str (x:Str)|byt (b:Array UInt8)|flt (b:UInt64)|ref (a:Addr)|ty (n:String)
 deriving DecidableEq
abbrev LKz:=List (List Key×V)
abbrev LFz:=List (Str×V)
abbrev LUz:=List V
def RelV:V->Value->Prop
 |.non,u=>u=Value.none
 |.bl b,u=>u=Value.bool b
 |.int i,u=>∃t,u=Value.int i t
 |.str x,u=>∃t,u=Value.str x t
 |.byt b,u=>∃t,u=Value.bytes b t
 |.flt b,u=>∃t,u=Value.float b t
 |.ref a,u=>u=Value.ref a
 |.ty n,u=>u=Value.type n
abbrev Vals:LUz->LWz->Prop:=Paired RelV
theorem Vals.length{xs:LUz}{us:LWz}(r:Vals xs us):xs.length=us.length:=Paired.length r
theorem Vals.get:∀{xs:LUz}{us:LWz}{i:Nat}{x:V},Vals xs us->xs[i]?=some x->∃u,us[i]?=some u/\RelV x u
 |_,_,_,_,.nil,e=>by simp at e
 |_,_,0,_,.cons r _,e=>by simp at e;subst e;exact⟨_,rfl,r⟩
 |_,_,i+1,x,.cons _ t,e=>by
  obtain⟨u,h1,h2⟩:=Vals.get (i:=i) (x:=x) t (by simpa using e);exact⟨u,by simpa using h1,h2⟩
theorem Vals.set{x:V}{u:Value}(r:RelV x u):∀{xs:LUz}{us:LWz}(i:Nat),Vals xs us->Vals (xs.set i x) (us.set i u)
 |_,_,_,.nil=>.nil
 |_,_,0,.cons _ t=>.cons r t
 |_,_,i+1,.cons q t=>.cons q (Vals.set r i t)
theorem Vals.append:∀{xs ys:LUz}{us ws:LWz},Vals xs us->Vals ys ws->Vals (xs++ys) (us++ws)
 |_,_,_,_,.nil,s=>s
 |_,_,_,_,.cons r t,s=>.cons r (Vals.append t s)
theorem Vals.take:∀{xs:LUz}{us:LWz}(n:Nat),Vals xs us->Vals (xs.take n) (us.take n)
 |_,_,0,_=>.nil
 |_,_,_+1,.nil=>.nil
 |_,_,n+1,.cons r t=>.cons r (Vals.take n t)
theorem Vals.drop:∀{xs:LUz}{us:LWz}(n:Nat),Vals xs us->Vals (xs.drop n) (us.drop n)
 |_,_,0,r=>r
 |_,_,_+1,.nil=>.nil
 |_,_,n+1,.cons _ t=>Vals.drop n t
def RelO:Option V->Option Value->Prop
 |some v,some u=>RelV v u
 |none,none=>True
 |_,_=>False
def KV{κ:Type}:List (κ×V)->List (κ×Value)->Prop:=Paired λ(p:κ×V)(q:κ×Value)=>p.1=q.1/\RelV p.2 q.2
def kV:Key->V
 |.inl i=>.int i
 |.inr x=>.str x
inductive HO where
 |lst (xs:LUz)
 |tup (xs:LUz)
 |dK (kvs:List (Key×V))|dT (kvs:LKz)
 |set (S:Int->Bool) (n:Nat)
 |ins (C dx:Addr) (fs:LFz)
 |own (x:Addr)
 |xd (fs:LFz)
 |met (f x:Addr)
 |rng (lo hi:Int)
 |frz (o:Obj) (u:HO)
 |tbl (ps:Array Value)
 |ext (φ:Heap->Prop)
abbrev Hp:=Addr->Option HO
def upd(H:Hp)(a:Addr)(o:HO):Hp:=λ b=>if b=a then some o else H b
theorem Ab{H:Hp}{a:Addr}{o:HO}:upd H a o a=some o:=by unfold upd;rw[if_pos rfl]
theorem Ae{H:Hp}{a b:Addr}{o:HO}(h:b≠a):upd H a o b=H b:=by unfold upd;rw[if_neg h]
theorem AU{H:Hp}{a b:Addr}{o u:HO}(h:H a=some o)(h':H b=some u)(d:o≠u):a≠b:=by
 intro e;subst e;rw[h]at h';exact d (Option.some.inj h')
theorem Ad{H:Hp}{a b:Addr}{o:HO}(h:H a=some o)(h':H b=none):a≠b:=by
 intro e;subst e;rw[h]at h';cases h'
section
variable(P:Program)(w:World)
def ObjOk(H:Hp)(h:Heap)(a:Addr):HO->Prop
 |.lst xs=>xs.length<=sizeLine/\∃(its:LWz)(n:Nat),Vals xs its/\h.get? a=some { cls:=.type "list",data:=.seq its.toArray n }
 |.tup xs=>xs.length<=sizeLine/\∃its:LWz,Vals xs its/\IsTup h a its.toArray
 |.dK kvs=>kvs.length<=sizeLine/\(a==sysModules)=false/\∃vs,KV kvs vs/\h.DictOf (Bl P w) a vs
 |.dT kvs=>kvs.length<=sizeLine/\(a==sysModules)=false/\∃xs:List (List Key×Addr×Value),
   Paired (λ(p:List Key×V)(q:List Key×Addr×Value)=>p.1=q.1/\H q.2.1=some (.tup (p.1.map kV))/\RelV p.2 q.2.2) kvs xs /\
   ∃o es ep,h.get? a=some o/\o.ExactDict/\o.data=.dict es ep/\es.toList=xs.map (entryOfKey (tupleKind (Bl P w)))/\(xs.map (·.1)).Nodup
 |.set S n=>h.SetOf (intKind P w) a S n
 |.ins C dx fs=>H dx=some (.own a)/\fs.length<=1000/\dx≠a/\h.get? a=some (instObj C dx) /\
   ∃mA,h.Ns1 dx mA/\(∀f,RelO (fs.lookup f) (mA f))/\PySem.Within mA (fs.map (·.1))
 |.own _=>∃o,h.get? a=some o
 |.xd fs=>∃mA,h.Ns1 a mA/\∀f,RelO (fs.lookup f) (mA f)
 |.rng lo hi=>∃t u v,h.get? a=some { cls:=.type "range",data:=.fields #[.int lo t,.int hi u,.int 1 v] }
 |.frz o u=>h.get? a=some o/\ObjOk H h a u
 |.tbl ps=>h.get? a=some { cls:=.none,data:=.fields ps }
 |.met f x=>h.get? a=some (methodObj (.ref f) (.ref x))
 |.ext φ=>φ h/\(∃o,h.get? a=some o)/\∀h1 h2:Heap,φ h1->(∀o,h1.get? a=some o->h2.get? a=some o)->φ h2
def HOk(H:Hp)(h:Heap):Prop:=∀a o,H a=some o->ObjOk P w H h a o
end
section
variable{P:Program}{w:World}{H H':Hp}{h h':Heap}{a:Addr}{o:HO}
theorem ObjOk.lt(x:ObjOk P w H h a o):a<h.objs.size:=by
 cases o with
 |lst xs=>obtain⟨_,_,_,_,e⟩:=x;exact Heap.lt_size e
 |tup xs=>obtain⟨_,_,_,p⟩:=x;exact p.lt
 |dK kvs=>obtain⟨_,_,_,_,o,_,_,e,_⟩:=x;exact Heap.lt_size e
 |dT kvs=>obtain⟨_,_,_,_,o,_,_,e,_⟩:=x;exact Heap.lt_size e
 |set S n=>obtain⟨o,_,_,_,e,_⟩:=x;exact Heap.lt_size e
 |ins C dx fs=>obtain⟨_,_,_,e,_⟩:=x;exact Heap.lt_size e
 |own y=>obtain⟨_,e⟩:=x;exact Heap.lt_size e
 |xd fs=>obtain⟨_,⟨_,_,_,e,_⟩,_⟩:=x;exact Heap.lt_size e
 |rng lo hi=>obtain⟨_,_,_,e⟩:=x;exact Heap.lt_size e
 |frz ob u=>obtain⟨e,_⟩:=x;exact Heap.lt_size e
 |tbl ps=>exact Heap.lt_size (show h.get? a=some _ from x)
 |met f y=>exact Heap.lt_size (show h.get? a=some _ from x)
 |ext φ=>obtain⟨_,⟨_,e⟩,_⟩:=x;exact Heap.lt_size e
theorem Paired.mapP{α β:Type}{F G:α->β->Prop}:∀{l₁:List α}{l₂:List β},Paired F l₁ l₂->(∀a b,F a b->G a b)->Paired G l₁ l₂
 |_,_,.nil,_=>.nil
 |_,_,.cons r t,f=>.cons (f _ _ r) (Paired.mapP t f)
theorem ObjOk.stay(x:ObjOk P w H h a o)(k:∀b u,(b=a\/H b=some (.own a))->h.get? b=some u->h'.get? b=some u)
  (ho:∀b,H b=some (.own a)->H' b=some (.own a)) (ht:∀b xs,H b=some (.tup xs)->H' b=some (.tup xs)):ObjOk P w H' h' a o:=by
 induction o with
 |lst xs=>obtain⟨z,its,n,r,e⟩:=x;exact⟨z,its,n,r,k _ _ (.inl rfl) e⟩
 |tup xs=>obtain⟨z,its,r,ob,e,c⟩:=x;exact⟨z,its,r,ob,k _ _ (.inl rfl) e,c⟩
 |dK kvs=>obtain⟨z,y,vs,r,ob,es,ep,e,c⟩:=x;exact⟨z,y,vs,r,ob,es,ep,k _ _ (.inl rfl) e,c⟩
 |dT kvs =>
  obtain⟨z,y,xs,r,ob,es,ep,e,c⟩:=x;exact⟨z,y,xs,Paired.mapP r λ p q z=>⟨z.1,ht _ _ z.2.1,z.2.2⟩,ob,es,ep,k _ _ (.inl rfl) e,c⟩
 |set S n=>obtain⟨ob,es,ep,t,e,c⟩:=x;exact⟨ob,es,ep,t,k _ _ (.inl rfl) e,c⟩
 |ins C dx fs =>
  obtain⟨d,z,ne,e,mA,⟨od,es,ep,e2,c⟩,r⟩:=x;exact⟨ho _ d,z,ne,k _ _ (.inl rfl) e,mA,⟨od,es,ep,k _ _ (.inr d) e2,c⟩,r⟩
 |own y=>obtain⟨ob,e⟩:=x;exact⟨ob,k _ _ (.inl rfl) e⟩
 |xd fs=>obtain⟨mA,⟨od,es,ep,e,c⟩,r⟩:=x;exact⟨mA,⟨od,es,ep,k _ _ (.inl rfl) e,c⟩,r⟩
 |rng lo hi=>obtain⟨t,u,v,e⟩:=x;exact⟨t,u,v,k _ _ (.inl rfl) e⟩
 |frz ob u ih=>obtain⟨e,q⟩:=x;exact⟨k _ _ (.inl rfl) e,ih q⟩
 |tbl ps =>
  have e:h.get? a=some { cls:=.none,data:=.fields ps }:=x;show h'.get? a=some { cls:=.none,data:=.fields ps };exact k a _ (.inl rfl) e
 |met f y =>
  have e:h.get? a=some (methodObj (.ref f) (.ref y)):=x;show h'.get? a=some (methodObj (.ref f) (.ref y));exact k a _ (.inl rfl) e
 |ext φ=>obtain⟨p,⟨o,e⟩,st⟩:=x;exact⟨st _ _ p λ o q=>k _ _ (.inl rfl) q,⟨o,k _ _ (.inl rfl) e⟩,st⟩
theorem HOk.lt(x:HOk P w H h)(e:H a=some o):a<h.objs.size:=(x a o e).lt
theorem HOk.fresh(x:HOk P w H h)(e:h.objs.size<=a):H a=none:=by
 cases q:H a with
 |none=>rfl
 |some u=>exact absurd (Nat.lt_of_lt_of_le (x.lt q) e) (Nat.lt_irrefl _)
theorem HOk.kept(x:HOk P w H h)(k:∀b u,h.get? b=some u->h'.get? b=some u):HOk P w H h':=λ a o e =>
 (x a o e).stay (λ b u _ q=>k b u q) (λ_ q=>q) λ_ _ q=>q
theorem HOk.laid(x:HOk P w H h)(k:∀b u,h.get? b=some u->h'.get? b=some u)(hp:h.objs.size<=a)(new:ObjOk P w (upd H a o) h' a o):HOk P w (upd H a o) h':=λ b u e=>by
 have hn:=x.fresh hp;by_cases hb:b=a
 .subst hb;rw[Ab]at e;cases e;exact new
 .rw[Ae hb]at e;exact(x b u e).stay (λ c v _ q=>k c v q) (λ c q=>by rw[Ae (Ad q hn)];exact q) λ c xs q=>by rw[Ae (Ad q hn)];exact q
end
def Rd(H:Hp)(a:Addr)(u:HO):Prop:=H a=some u\/∃o,H a=some (.frz o u)
theorem Rd.ok{P:Program}{w:World}{H:Hp}{h:Heap}{a:Addr}{u:HO}(r:Rd H a u)(x:HOk P w H h):ObjOk P w H h a u:=by
 rcases r with r|⟨o,r⟩
 .exact x a u r
 .obtain⟨_,q⟩:=x a _ r;exact q
def Mut:Option HO->Prop
 |some (.lst _)=>True
 |some (.dK _)=>True
 |some (.dT _)=>True
 |some (.set _ _)=>True
 |some (.ins _ _ _)=>True
 |some (.ext _)=>True
 |_=>False
section
variable{P:Program}{w:World}{H:Hp}{h h':Heap}{x e:Addr}{o':HO}
theorem HOk.write(ok:HOk P w H h)(mu:Mut (H x))(he:e=x\/H e=some (.own x))(k:∀b u,b≠e->h.get? b=some u->h'.get? b=some u)(heo:∃u,h'.get? e=some u)
  (new:ObjOk P w (upd H x o') h' x o'):HOk P w (upd H x o') h':=λ b u q=>by
 have nown:∀c y,H c=some (.own y)->c≠x:=λ c y r z=>by subst z;rw[r]at mu;exact mu
 have ntup:∀c xs,H c=some (.tup xs)->c≠x:=λ c xs r z=>by subst z;rw[r]at mu;exact mu
 by_cases hb:b=x
 .subst hb;rw[Ab]at q;cases q;exact new
 .rw[Ae hb]at q;by_cases hbe:b=e
  .have q':H b=some (.own x):=by
    rcases he with z|z
    .exact absurd (hbe.trans z) hb
    .rw[hbe];exact z
   rw[q]at q';cases q';obtain⟨v,hv⟩:=heo;exact⟨v,by rw[hbe];exact hv⟩
  .refine(ok b u q).stay (λ c v hc r=>k c v ?_ r) (λ c r=>by rw[Ae (nown c b r)];exact r) λ c xs r=>by rw[Ae (ntup c xs r)];exact r
   rcases hc with rfl|hc
   .exact hbe
   .rintro rfl;rcases he with z|z
    .exact nown c b hc z
    .rw[hc]at z;cases z;exact hb rfl
end
structure Un(fs ex:List Addr)(H H':Hp)(h h':Heap):Prop where
 keep:∀b o,h.get? b=some o->H b=none->b∉fs->b∉ex->h'.get? b=some o
 slot:∀b o,h.get? b=some o->H b=none->b∈fs->b∉ex->∃sl,h'.get? b=some { o with slots:=sl }
 free:∀b o,h.get? b=some o->H b=none->b∉ex->H' b=none
 there:∀b o,h.get? b=some o->b∉ex->∃o',h'.get? b=some o'
 tups:∀b xs,H b=some (.tup xs)->H' b=some (.tup xs)
 frzs:∀b o u,H b=some (.frz o u)->H' b=some (.frz o u)
 tbls:∀b ps,H b=some (.tbl ps)->∃more,H' b=some (.tbl (ps++more))
section
variable{fs fs' ex ex':List Addr}{H H1 H2:Hp}{h h1 h2 h':Heap}{a x e:Addr}{o:HO}
theorem Un.any(u:Un fs ex H H1 h h1){b:Addr}{ob:Obj}(q:h.get? b=some ob)(n:H b=none)(hx:b∉ex):∃sl,h1.get? b=some { ob with slots:=sl }:=by
 by_cases hb:b∈fs
 .exact u.slot b ob q n hb hx
 .exact⟨ob.slots,u.keep b ob q n hb hx⟩
theorem Un.kept(k:∀b u,h.get? b=some u->h'.get? b=some u):Un fs ex H H h h' :=
 ⟨λ b ob q _ _ _=>k b ob q,λ b ob q _ _ _=>⟨ob.slots,k b ob q⟩,λ_ _ _ n _=>n,λ b ob q _=>⟨ob,k b ob q⟩,λ_ _ q=>q,λ_ _ _ q=>q,λ_ ps q=>⟨#[],by rw[q];simp⟩⟩
theorem Un.refl:Un fs ex H H h h:=Un.kept λ_ _ q=>q
theorem Un.laid(k:∀b u,h.get? b=some u->h'.get? b=some u)(hp:h.objs.size<=a)(hn:H a=none):Un fs ex H (upd H a o) h h' where
 keep:=λ b u q _ _ _=>k b u q
 slot:=λ b u q _ _ _=>⟨u.slots,k b u q⟩
 free:=λ b u q n _=>by rw[Ae (Nat.ne_of_lt (Nat.lt_of_lt_of_le (Heap.lt_size q) hp))];exact n
 there:=λ b u q _=>⟨u,k b u q⟩
 tups:=λ b xs q=>by rw[Ae (Ad q hn)];exact q
 frzs:=λ b u xs q=>by rw[Ae (Ad q hn)];exact q
 tbls:=λ b ps q=>⟨#[],by rw[Ae (Ad q hn),q];simp⟩
theorem Un.write(mu:Mut (H x))(he:e=x\/H e=some (.own x))(k:∀b u,b≠e->h.get? b=some u->h'.get? b=some u)(heo:∃u,h'.get? e=some u):Un fs ex H (upd H x o) h h':=by
 have hx:∀b,H b=none->b≠x:=λ b n z=>by subst z;rw[n]at mu;exact mu
 have hb:∀b,H b=none->b≠e:=λ b n z=>by
  subst z;rcases he with r|r
  .exact hx b n r
  .rw[n]at r;cases r
 have hm:∀b u,H b=some u->¬Mut (some u)->b≠x:=λ b u q nm z=>by subst z;rw[q]at mu;exact nm mu
 refine⟨λ b u q n _ _=>k b u (hb b n) q,λ b u q n _ _=>⟨u.slots,k b u (hb b n) q⟩,λ b u q n _=>by rw[Ae (hx b n)];exact n,λ b u q _=>?_,
  λ b xs q=>by rw[Ae (hm b _ q λ z=>z)];exact q,λ b u xs q=>by rw[Ae (hm b _ q λ z=>z)];exact q,λ b ps q=>⟨#[],by rw[Ae (hm b _ q λ z=>z),q];simp⟩⟩
 by_cases hbe:b=e
 .subst hbe;exact heo
 .exact⟨u,k b u hbe q⟩
end
def trk(h:Heap)(H:Hp):List Addr:=(List.range h.objs.size).filter λ a=>(H a).isSome
def JY(h:Heap)(H:Hp):Heap:=hideAll h (trk h H)
theorem OL(h:Heap)(H:Hp):(JY h H).objs.size=h.objs.size:=hideAll_size _ _
theorem Qo{h:Heap}{H:Hp}{b:Addr}{o:Obj}(e:h.get? b=some o)(n:H b=none):(JY h H).get? b=some o :=
 hideAll_get _ e λ hm=>by
  have q:(H b).isSome=true:=(List.mem_filter.mp hm).2;rw[n]at q;simp at q
theorem RB{h:Heap}{H:Hp}{b:Addr}{o:Obj}(e:(JY h H).get? b=some o):h.get? b=some o/\H b=none:=by
 have e':h.get? b=some o:=of_hideAll (trk h H) e;refine⟨e',?_⟩;cases q:H b with
 |none=>rfl
 |some x =>
  have hm:b∈trk h H:=List.mem_filter.mpr ⟨List.mem_range.mpr (Heap.lt_size e'),by simp[q]⟩;have z:(JY h H).get? b=none:=hideAll_none (trk h H) hm;rw[z]at e;cases e
structure Mod(K:Frag)(mg:MGz)(base:Heap):Prop where
 kin:K.In base
 glob:base.Ns mainGlobals mg
 blt:∃mb,base.Ns builtinsNs mb/\∀x:Str,x≠"__name__"->mb x=bootBuiltins x
 nolimit:base.NoLimit
structure Cx where
 prog:Program
 w:World
 K:Frag
 mg:MGz
 base:Heap
 A:Around
 N:LSz
 s₀:Shared
 H₀:Hp
 env:Env
 outer:List Env
 stack:List Env
 ex:List Addr
 fn:Str->Bool
 calm:Bool
 pn:PNz
 xe:VPz
def frs(l:List Env):List Addr:=l.filterMap (·.frame)
abbrev Cx.fs(X:Cx):List Addr:=frs X.outer
def Vis(sc:Scope)(x:Str):Prop:=sc.names.lookup x=some .local\/sc.names.lookup x=some .cell\/sc.names.lookup x=some .free
def Loc(sc:Scope)(x:Str):Prop:=sc.names.lookup x=some .local\/sc.names.lookup x=some .cell
def Vy(env:Env)(h:Heap)(m:MGz)(x:Str)(u:Value):Prop :=
 (env.kindOf x=some .local/\m x=some u)\/((env.kindOf x=some .cell\/env.kindOf x=some .free)/\∃c,env.cells.lookup x=some c/\h.IsCell c (some u))
structure Cx.Ok(X:Cx):Prop where
 mod:Mod X.K X.mg X.base
 kind:X.env.scope.kind=.function
 glob:X.env.globals=mainGlobals
 blt:X.env.builtins=builtinsNs
 above:X.s₀.heap.objs.size<=X.env.locals
 inj:∀x y c,X.env.cells.lookup x=some c->X.env.cells.lookup y=some c->x=y
 has:∀x,(X.env.kindOf x=some .cell\/X.env.kindOf x=some .free)->∃c,X.env.cells.lookup x=some c
 cab:∀x c,X.fn x=true->X.env.cells.lookup x=some c->X.s₀.heap.objs.size<=c
 hd:X.calm=true->X.A.handled=none
 frames:X.A.frames=some X.stack
 stk:X.stack=X.outer\/(X.stack=X.env::X.outer/\X.env.frame=some X.env.locals)
 exf:∀b∈X.ex,b≠X.env.locals/\∀x c,X.env.cells.lookup x=some c->c≠b
 bs:∀b o,X.base.get? b=some o->X.s₀.heap.get? b=some o/\X.H₀ b=none
 bsz:X.base.objs.size<=X.s₀.heap.objs.size
 noex:∀b o,X.base.get? b=some o->b∉X.ex
 exfs:∀b∈X.ex,b∉X.fs
 funs:X.s₀.heap.FunFrames X.base X.outer
 frf:∀b∈X.fs,X.H₀ b=none
structure Inv(X:Cx)(pins:PNz)(σ:List (Option V))(H:Hp)(s:Shared):Prop where
 ok:X.Ok
 os:s.os=X.s₀.os
 bare:AllBare s.gens
 base:Un X.fs X.ex X.H₀ H X.s₀.heap s.heap
 loc:∃m,s.heap.Ns X.env.locals m/\∀(i:Nat)(x:Str)(v:V),X.N[i]?=some x->σ[i]?=some (some v)->Vis X.env.scope x->∃u,RelV v u/\Vy X.env s.heap m x u
 cell:∀x c,X.env.cells.lookup x=some c->∃v,s.heap.IsCell c v
 free:H X.env.locals=none
 freeC:∀x c,X.env.cells.lookup x=some c->H c=none
 pin:∀p∈X.pn++pins,s.heap.get? p.1=some p.2/\H p.1=none/\p.1≠X.env.locals/\p.1∉X.fs/\∀v,p.2.data≠.cell v
 hok:HOk X.prog X.w H s.heap
 len:σ.length=X.N.length
section
variable{X:Cx}{pins:PNz}{σ:List (Option V)}{H H':Hp}{s:Shared}{h':Heap}
theorem Cx.Ok.nofr(ok:X.Ok){b:Addr}{o:Obj}(e:X.base.get? b=some o):b∉X.fs:=λ hb=>by
 have:=(ok.funs.mem hb).1;rw[e]at this;cases this
theorem Inv.bs(I:Inv X pins σ H s):∀b o,X.base.get? b=some o->s.heap.get? b=some o/\H b=none:=λ b o e =>
 ⟨I.base.keep b o (I.ok.bs b o e).1 (I.ok.bs b o e).2 (I.ok.nofr e) (I.ok.noex b o e),I.base.free b o (I.ok.bs b o e).1 (I.ok.bs b o e).2 (I.ok.noex b o e)⟩
theorem Inv.bk(I:Inv X pins σ H s):∀b o,X.base.get? b=some o->s.heap.get? b=some o:=λ b o e=>(I.bs b o e).1
theorem Inv.mod(I:Inv X pins σ H s):Mod X.K X.mg X.base:=I.ok.mod
theorem Inv.kIn(I:Inv X pins σ H s):X.K.In s.heap:=I.ok.mod.kin.keeps I.bk
theorem Inv.lt(I:Inv X pins σ H s):X.env.locals<s.heap.objs.size:=let ⟨_,hn,_⟩:=I.loc;hn.lt
theorem Inv.sz(I:Inv X pins σ H s):X.s₀.heap.objs.size<=s.heap.objs.size:=Nat.le_trans I.ok.above (Nat.le_of_lt I.lt)
theorem Inv.nofs(I:Inv X pins σ H s){a:Addr}(h:s.heap.objs.size<=a):a∉X.fs:=λ hb=>by
 obtain⟨_,o,ho,_⟩:=I.ok.funs.mem hb;exact absurd (Nat.lt_of_lt_of_le (Heap.lt_size ho) (Nat.le_trans I.sz h)) (Nat.lt_irrefl _)
theorem Inv.cne(I:Inv X pins σ H s):∀x c,X.env.cells.lookup x=some c->c≠X.env.locals:=λ x c e z=>by
 obtain⟨v,o,ho,hd⟩:=I.cell x c e;obtain⟨m,⟨o',es,ep,ho',hd',_⟩,_⟩:=I.loc;rw[z,ho']at ho;cases ho;rw[hd']at hd;cases hd
theorem Inv.funs(I:Inv X pins σ H s):s.heap.FunFrames X.base X.outer:=by
 have all:∀(l:List Env),(∀b∈frs l,b∈X.fs)->X.s₀.heap.FunFrames X.base l->s.heap.FunFrames X.base l:=by
  intro l
  induction l with
  |nil=>intro _ _;trivial
  |cons env r ih =>
   intro hs hl;obtain⟨hk,⟨L,o,hf,hn,ho,hd⟩,hr⟩:=hl;have hL:L∈X.fs:=hs L (by unfold frs;rw[List.filterMap_cons,hf];exact List.mem_cons_self);obtain⟨sl,e⟩:=I.base.slot L o ho (I.ok.frf L hL) hL λ z=>I.ok.exfs L z hL;exact⟨hk,⟨L,_,hf,hn,e,hd⟩,ih (λ b hb=>hs b (by unfold frs;rw[List.filterMap_cons,hf];exact List.mem_cons_of_mem _ hb)) hr⟩
 exact all X.outer (λ_ hb=>hb) I.ok.funs
theorem Inv.stack(I:Inv X pins σ H s):s.heap.FunFrames X.base X.stack:=by
 rcases I.ok.stk with e|⟨e,hf⟩
 .rw[e];exact I.funs
 .rw[e];obtain⟨m,hn,_⟩:=I.loc;refine .cons (by rw[I.ok.kind];decide) hf hn ?_ I.funs;exact Heap.get?_none_of_le (Nat.le_trans I.ok.bsz I.ok.above)
theorem Inv.stkSub(I:Inv X pins σ H s):∀b∈frs X.stack,b∈X.env.locals::X.fs:=λ b hb=>by
 rcases I.ok.stk with e|⟨e,hf⟩
 .rw[e]at hb;exact List.mem_cons_of_mem _ hb
 .rw[e]at hb;unfold frs at hb;rw[List.filterMap_cons,hf]at hb;exact hb
theorem Inv.stkFree(I:Inv X pins σ H s):∀b∈frs X.stack,H b=none:=λ b hb=>by
 rcases List.mem_cons.mp (I.stkSub b hb) with e|hb
 .rw[e];exact I.free
 .obtain⟨_,o,ho,_⟩:=I.ok.funs.mem hb;exact I.base.free b o ho (I.ok.frf b hb) λ z=>I.ok.exfs b z hb
theorem Inv.step{g':Array GenState}{t':Nat}{d':Drawn}{ch:List Addr}(I:Inv X pins σ H s)
  (hch:∀b∈ch,(b∈X.ex\/X.s₀.heap.objs.size<=b)/\b≠X.env.locals/\(∀x c,X.env.cells.lookup x=some c->c≠b)/\∀p∈X.pn++pins,p.1≠b)
  (keep:∀b o,b≠X.env.locals->b∉X.fs->b∉ch->s.heap.get? b=some o->H b=none->h'.get? b=some o)
  (slot:∀b o,b≠X.env.locals->b∈X.fs->b∉ch->s.heap.get? b=some o->H b=none->∃sl,h'.get? b=some { o with slots:=sl }) (free:∀b o,b∉ch->s.heap.get? b=some o->H b=none->H' b=none)
  (there:∀b o,b∉ch->s.heap.get? b=some o->∃o',h'.get? b=some o')
  (tups:∀b xs,H b=some (.tup xs)->H' b=some (.tup xs)) (frzs:∀b o u,H b=some (.frz o u)->H' b=some (.frz o u)) (tbls:∀b ps,H b=some (.tbl ps)->∃more,H' b=some (.tbl (ps++more)))
  (ns:∀m,s.heap.Ns X.env.locals m->h'.Ns X.env.locals m) (hok:HOk X.prog X.w H' h') (hg:AllBare g') :
  Inv X pins σ H' { s with heap:=h',gens:=g',drawn:=d',toks:=t' }:=by
 have neL:∀b o,X.s₀.heap.get? b=some o->b≠X.env.locals:=λ b o e=>Nat.ne_of_lt (Nat.lt_of_lt_of_le (Heap.lt_size e) I.ok.above);have neC:∀b o,X.s₀.heap.get? b=some o->b∉X.ex->b∉ch:=λ b o e hx hb=>by
  rcases(hch b hb).1 with z|z
  .exact hx z
  .exact absurd (Nat.lt_of_lt_of_le (Heap.lt_size e) z) (Nat.lt_irrefl _)
 have cellK:∀x c,X.env.cells.lookup x=some c->∀v,s.heap.IsCell c v->h'.IsCell c v:=λ x c e v ⟨o,ho,hd⟩=>by
  have nch:c∉ch:=λ z=>(hch c z).2.2.1 x c e rfl;by_cases hc:c∈X.fs
  .obtain⟨sl,q⟩:=slot c o (I.cne x c e) hc nch ho (I.freeC x c e);exact⟨_,q,hd⟩
  .exact⟨o,keep c o (I.cne x c e) hc nch ho (I.freeC x c e),hd⟩
 refine⟨I.ok,I.os,hg,⟨λ b o e n hb hx=>?_,λ b o e n hb hx=>?_,λ b o e n hx=>?_,λ b o e hx=>?_,λ b xs e=>tups b xs (I.base.tups b xs e),λ b o xs e=>frzs b o xs (I.base.frzs b o xs e),λ b ps e=>?_⟩,?_,λ x c e=>?_,?_,λ x c e=>?_,λ p hp=>?_,hok,I.len⟩
 .exact keep b o (neL b o e) hb (neC b o e hx) (I.base.keep b o e n hb hx) (I.base.free b o e n hx)
 .obtain⟨sl,e1⟩:=I.base.slot b o e n hb hx;obtain⟨sl',e2⟩:=slot b _ (neL b o e) hb (neC b o e hx) e1 (I.base.free b o e n hx);exact⟨sl',e2⟩
 .obtain⟨o',e1⟩:=I.base.there b o e hx;exact free b o' (neC b o e hx) e1 (I.base.free b o e n hx)
 .obtain⟨o',e1⟩:=I.base.there b o e hx;exact there b o' (neC b o e hx) e1
 .obtain⟨m1,e1⟩:=I.base.tbls b ps e;obtain⟨m2,e2⟩:=tbls b _ e1;exact⟨m1++m2,by rw[e2,Array.append_assoc]⟩
 .obtain⟨m,hn,hl⟩:=I.loc;refine⟨m,ns m hn,λ i x v e1 e2 e3=>?_⟩;obtain⟨u,r,l⟩:=hl i x v e1 e2 e3;refine⟨u,r,?_⟩;rcases l with l|⟨k,c,e,z⟩
  .exact .inl l
  .exact .inr ⟨k,c,e,cellK x c e _ z⟩
 .obtain⟨v,z⟩:=I.cell x c e;exact⟨v,cellK x c e v z⟩
 .obtain⟨m,⟨o,_,_,ho,_⟩,_⟩:=I.loc;exact free _ o (λ z=>(hch _ z).2.1 rfl) ho I.free
 .obtain⟨v,o,ho,hd⟩:=I.cell x c e;exact free c o (λ z=>(hch c z).2.2.1 x c e rfl) ho (I.freeC x c e)
 .obtain⟨e,n,ne,nf,d⟩:=I.pin p hp;have nch:p.1∉ch:=λ z=>(hch p.1 z).2.2.2 p hp rfl;exact⟨keep p.1 p.2 ne nf nch e n,free p.1 p.2 nch e n,ne,nf,d⟩
theorem Inv.un{t':Nat}(I:Inv X pins σ H s)(u:Un X.fs [] H H' s.heap h')(hok:HOk X.prog X.w H' h'):Inv X pins σ H' { s with heap:=h',toks:=t' }:=by
 obtain⟨m,⟨o,es,ep,ho,r⟩,_⟩:=id I.loc;obtain⟨sl,hL⟩:=u.any ho I.free (by simp);exact I.step (g':=s.gens) (d':=s.drawn) (ch:=[]) (λ_ z=>nomatch z) (λ b o _ hb _ e n=>u.keep b o e n hb (by simp)) (λ b o _ hb _ e n=>u.slot b o e n hb (by simp)) (λ b o _ e n=>u.free b o e n (by simp)) (λ b o _ e=>u.there b o e (by simp)) u.tups u.frzs u.tbls (λ m' hm=>by
  obtain⟨o',es',ep',ho',r'⟩:=hm;rw[ho]at ho';cases ho';exact⟨_,es',ep',hL,r'⟩) hok I.bare
theorem Inv.call{g':Array GenState}{t':Nat}{d':Drawn}{ch:List Addr}(I:Inv X pins σ H s)(u:Un (frs X.stack) ch H H' s.heap h')(hok:HOk X.prog X.w H' h')(hg:AllBare g')
  (hch:∀b∈ch,(b∈X.ex\/X.s₀.heap.objs.size<=b)/\b≠X.env.locals/\(∀x c,X.env.cells.lookup x=some c->c≠b)/\∀p∈X.pn++pins,p.1≠b) :
  Inv X pins σ H' { s with heap:=h',gens:=g',drawn:=d',toks:=t' }:=by
 obtain⟨m,⟨o,es,ep,ho,r⟩,_⟩:=id I.loc;obtain⟨sl,hL⟩:=u.any ho I.free λ z=>(hch _ z).2.1 rfl;exact I.step (ch:=ch) hch (λ b o hL hb hc e n=>u.keep b o e n (λ z=>(List.mem_cons.mp (I.stkSub b z)).elim hL hb) hc) (λ b o _ _ hc e n=>u.any e n hc) (λ b o hc e n=>u.free b o e n hc) (λ b o hc e=>u.there b o e hc) u.tups u.frzs u.tbls (λ m' hm=>by
  obtain⟨o',es',ep',ho',r'⟩:=hm;rw[ho]at ho';cases ho';exact⟨_,es',ep',hL,r'⟩) hok hg
theorem Inv.turned{t':Nat}{it:Addr}(I:Inv X pins σ H s)(k:∀b o,b≠it->s.heap.get? b=some o->h'.get? b=some o)(hn:H it=none)(hL:it≠X.env.locals)
  (h1:it∈X.ex\/X.s₀.heap.objs.size<=it) (h2:∀x c,X.env.cells.lookup x=some c->c≠it) (h3:∀p∈X.pn++pins,p.1≠it):Inv X pins σ H { s with heap:=h',toks:=t' }:=by
 have nit:∀b u,H b=some u->b≠it:=λ b u e z=>by rw[z,hn]at e;cases e
 refine I.step (g':=s.gens) (d':=s.drawn) (ch:=[it]) (λ b hb=>?_) (λ b o _ _ hc e _=>k b o (λ z=>hc (by simp[z])) e) (λ b o _ _ hc e _=>⟨o.slots,k b o (λ z=>hc (by simp[z])) e⟩) (λ_ _ _ _ n=>n)
  (λ b o hc e=>⟨o,k b o (λ z=>hc (by simp[z])) e⟩) (λ_ _ e=>e) (λ_ _ _ e=>e) (λ b ps e=>⟨#[],by rw[e];simp⟩) (λ m hm=>?_) (λ b u e=>?_) I.bare
 .have e:b=it:=by simpa using hb
  subst e;exact⟨h1,hL,h2,h3⟩
 .obtain⟨o,es,ep,ho,r⟩:=hm;exact⟨o,es,ep,k _ o (Ne.symm hL) ho,r⟩
 .refine(I.hok b u e).stay (λ c v hc q=>k c v ?_ q) (λ_ q=>q) λ_ _ q=>q;rcases hc with z|z
  .rw[z];exact nit b u e
  .exact nit c _ z
theorem Inv.tok(I:Inv X pins σ H s)(t:Nat):Inv X pins σ H { s with toks:=t }:=I.un (h':=s.heap) (t':=t) Un.refl I.hok
theorem Inv.kept{t':Nat}(I:Inv X pins σ H s)(k:∀b u,s.heap.get? b=some u->h'.get? b=some u):Inv X pins σ H { s with heap:=h',toks:=t' }:=I.un (Un.kept k) (I.hok.kept k)
theorem Inv.laid{a:Addr}{o:HO}{t':Nat}(I:Inv X pins σ H s)(k:∀b u,s.heap.get? b=some u->h'.get? b=some u)(hp:s.heap.objs.size<=a)(new:ObjOk X.prog X.w (upd H a o) h' a o) :
  Inv X pins σ (upd H a o) { s with heap:=h',toks:=t' }:=I.un (Un.laid k hp (I.hok.fresh hp)) (I.hok.laid k hp new)
theorem Inv.write{x e:Addr}{o:HO}{t':Nat}(I:Inv X pins σ H s)(mu:Mut (H x))(he:e=x\/H e=some (.own x))(k:∀b u,b≠e->s.heap.get? b=some u->h'.get? b=some u)(heo:∃u,h'.get? e=some u)
  (new:ObjOk X.prog X.w (upd H x o) h' x o):Inv X pins σ (upd H x o) { s with heap:=h',toks:=t' }:=I.un (Un.write mu he k heo) (I.hok.write mu he k heo new)
theorem Inv.pins_of{pins':PNz}(I:Inv X pins σ H s)(h:∀p∈pins',s.heap.get? p.1=some p.2/\H p.1=none/\p.1≠X.env.locals/\p.1∉X.fs/\∀v,p.2.data≠.cell v):Inv X pins' σ H s :=
 ⟨I.ok,I.os,I.bare,I.base,I.loc,I.cell,I.free,I.freeC,λ p hp=>(List.mem_append.mp hp).elim (λ z=>I.pin p (List.mem_append_left _ z)) (h p),I.hok,I.len⟩
theorem GM{N:LSz}(hN:N.Nodup){i j:Nat}{x:Str}(a:N[i]?=some x)(b:N[j]?=some x):i=j:=by
 obtain⟨h1,e1⟩:=List.getElem?_eq_some_iff.mp a;obtain⟨h2,e2⟩:=List.getElem?_eq_some_iff.mp b;exact(List.getElem_inj hN).mp (e1.trans e2.symm)
theorem Ov{M:Model}{A:Around}{E:VPz}{i:Nat}{x:Str}{v:V}{u:Value}{Q:Unit->Shared->Prop}(I:Inv X pins σ H s)(hN:X.N.Nodup)(hi:X.N[i]?=some x)(hx:Loc X.env.scope x)(r:RelV v u)
  (h:∀s',Inv X pins (σ.set i (some v)) H s'->(∃a,Heap.SameBut a s.heap s'.heap/\(a=X.env.locals\/X.env.cells.lookup x=some a))->Q () s') (hf:X.fn x=true\/X.env.scope.names.lookup x=some .local:=by first|exact .inl rfl|exact .inr rfl|assumption):wpAny M A (storeName X.env x u) Q E s:=by
 obtain⟨m,hn,hl⟩:=id I.loc;have hcls:(X.env.scope.kind==.class||(X.env.scope.kind==.module&&X.env.locals != X.env.globals))=false:=by rw[I.ok.kind];rfl
 have hiσ:i<σ.length:=by rw[I.len];exact(List.getElem?_eq_some_iff.mp hi).1
 have cne:=I.cne;have tracked:∀{a:Addr}{h':Heap},(∃o,s.heap.get? a=some o/\H a=none)->Heap.SameBut a s.heap h'->HOk X.prog X.w H h':=λ{a h'} ha hs b ob e=>by
  obtain⟨_,_,hfree⟩:=ha;refine(I.hok b ob e).stay (λ c w' hc q=>(hs.2 c ?_).trans q) (λ_ q=>q) λ_ _ q=>q;rintro rfl;rcases hc with rfl|hc
  .rw[hfree]at e;cases e
  .rw[hfree]at hc;cases hc
 rcases hx with hk|hk
 .refine wpAny_storeName_local hk hn (λ h' hn' hs=>?_) hcls;obtain⟨oL,_,_,hoL,_⟩:=id hn;refine h _ ⟨I.ok,I.os,I.bare,⟨λ b o e n hb hx=>?_,λ b o e n hb hx=>?_,I.base.free,λ b o e hx=>?_,I.base.tups,I.base.frzs,I.base.tbls⟩,⟨_,hn',λ j y v' e1 e2 e3=>?_⟩,λ y c e=>?_,I.free,I.freeC,λ p hp=>?_,tracked ⟨oL,hoL,I.free⟩ hs,by simpa using I.len⟩ ⟨_,hs,.inl rfl⟩
  .exact(hs.2 b (Nat.ne_of_lt (Nat.lt_of_lt_of_le (Heap.lt_size e) I.ok.above))).trans (I.base.keep b o e n hb hx)
  .obtain⟨sl,e1⟩:=I.base.slot b o e n hb hx;exact⟨sl,(hs.2 b (Nat.ne_of_lt (Nat.lt_of_lt_of_le (Heap.lt_size e) I.ok.above))).trans e1⟩
  .obtain⟨o',e1⟩:=I.base.there b o e hx;exact⟨o',(hs.2 b (Nat.ne_of_lt (Nat.lt_of_lt_of_le (Heap.lt_size e) I.ok.above))).trans e1⟩
  .by_cases hj:j=i
   .subst hj;rw[hi]at e1;cases e1;rw[List.getElem?_set_self hiσ]at e2;cases e2;exact⟨u,r,.inl ⟨hk,by simp⟩⟩
   .rw[List.getElem?_set_ne (Ne.symm hj)]at e2;obtain⟨u',r',q⟩:=hl j y v' e1 e2 e3;refine⟨u',r',?_⟩;rcases q with ⟨k,e⟩|⟨k,c,e,z⟩
    .refine .inl ⟨k,?_⟩;have:y≠x:=λ e=>hj (GM hN e1 (e ▸ hi));simp[this,e]
    .exact .inr ⟨k,c,e,z.sameBut hs (cne y c e)⟩
  .obtain⟨w',z⟩:=I.cell y c e;exact⟨w',z.sameBut hs (cne y c e)⟩
  .obtain⟨e,n,ne,nf,d⟩:=I.pin p hp;exact⟨(hs.2 p.1 ne).trans e,n,ne,nf,d⟩
 .have hfn:X.fn x=true:=by
   rcases hf with z|z
   .exact z
   .rw[z]at hk;cases hk
  obtain⟨c,hc⟩:=I.ok.has x (.inl hk);obtain⟨w',z⟩:=I.cell x c hc;refine wpAny_storeName_cell I.ok.kind hk hc z (λ h' hc' hs=>?_);obtain⟨oc,hoc,hocd⟩:=id z;refine h { s with heap:=h' } ⟨I.ok,I.os,I.bare,⟨λ b o e n hb hx=>?_,λ b o e n hb hx=>?_,I.base.free,λ b o e hx=>?_,I.base.tups,I.base.frzs,I.base.tbls⟩,⟨m,hn.sameBut hs (Ne.symm (cne x c hc)),λ j y v' e1 e2 e3=>?_⟩,λ y c' e=>?_,I.free,I.freeC,λ p hp=>?_,tracked ⟨oc,hoc,I.freeC x c hc⟩ hs,by simpa using I.len⟩ ⟨c,hs,.inr hc⟩
  .exact(hs.2 b (Nat.ne_of_lt (Nat.lt_of_lt_of_le (Heap.lt_size e) (I.ok.cab x c hfn hc)))).trans (I.base.keep b o e n hb hx)
  .obtain⟨sl,e1⟩:=I.base.slot b o e n hb hx;exact⟨sl,(hs.2 b (Nat.ne_of_lt (Nat.lt_of_lt_of_le (Heap.lt_size e) (I.ok.cab x c hfn hc)))).trans e1⟩
  .obtain⟨o',e1⟩:=I.base.there b o e hx;exact⟨o',(hs.2 b (Nat.ne_of_lt (Nat.lt_of_lt_of_le (Heap.lt_size e) (I.ok.cab x c hfn hc)))).trans e1⟩
  .by_cases hj:j=i
   .subst hj;rw[hi]at e1;cases e1;rw[List.getElem?_set_self hiσ]at e2;cases e2;exact⟨u,r,.inr ⟨.inl hk,c,hc,hc'⟩⟩
   .rw[List.getElem?_set_ne (Ne.symm hj)]at e2;obtain⟨u',r',q⟩:=hl j y v' e1 e2 e3;refine⟨u',r',?_⟩;rcases q with q|⟨k,c',e,z'⟩
    .exact .inl q
    .refine .inr ⟨k,c',e,z'.sameBut hs ?_⟩;rintro rfl;exact hj (GM hN e1 (I.ok.inj _ _ _ e hc ▸ hi))
  .by_cases hcc:c'=c
   .subst hcc;exact⟨_,hc'⟩
   .obtain⟨w2,z2⟩:=I.cell y c' e;exact⟨w2,z2.sameBut hs hcc⟩
  .obtain⟨e,n,ne,nf,d⟩:=I.pin p hp;refine⟨(hs.2 p.1 ?_).trans e,n,ne,nf,d⟩;intro q;rw[q,hoc]at e;have q':oc=p.2:=Option.some.inj e;exact d w' (by rw[<-q'];exact hocd)
theorem EC{M:Model}{A:Around}{E:VPz}{i:Nat}{x:Str}{v:V}{u:Value}{Q:Unit->Shared->Prop}(I:Inv X pins σ H s)(hN:X.N.Nodup)(hi:X.N[i]?=some x)(hx:Loc X.env.scope x)(r:RelV v u)
  (h:∀s',Inv X pins (σ.set i (some v)) H s'->Q () s') (hf:X.fn x=true\/X.env.scope.names.lookup x=some .local:=by first|exact .inl rfl|exact .inr rfl|assumption):wpAny M A (storeName X.env x u) Q E s :=
 Ov I hN hi hx r (λ s' I' _=>h s' I') hf
theorem Inv.call'{s':Shared}{ch:List Addr}(I:Inv X pins σ H s)(ho:s'.os=s.os)(u:Un (frs X.stack) ch H H' s.heap s'.heap)(hok:HOk X.prog X.w H' s'.heap)(hg:AllBare s'.gens)
  (hch:∀b∈ch,(b∈X.ex\/X.s₀.heap.objs.size<=b)/\b≠X.env.locals/\(∀x c,X.env.cells.lookup x=some c->c≠b)/\∀p∈X.pn++pins,p.1≠b):Inv X pins σ H' s':=by
 obtain⟨h',g',d',t',o'⟩:=s';have e:o'=s.os:=ho;subst e;exact I.call (g':=g') (t':=t') (d':=d') u hok hg hch
end
abbrev XK:=Value->Option Addr->Hp->Prop
abbrev St:=List (Option V)
abbrev VK:=V->Hp->Prop
abbrev TE:=St->Hp->VK->Prop
abbrev TT:=St->Hp->(Bool->Hp->Prop)->Prop
abbrev TA:=St->Hp->(LUz->Hp->Prop)->Prop
structure CN where
 nx:St->Hp->Prop
 rt:VK
 bk:St->Hp->Prop:=λ_ _=>False
 ct:St->Hp->Prop:=λ_ _=>False
abbrev TS:=CN->St->Hp->Prop
def EP(X:Cx)(pins:PNz)(σ:St)(Q:VK)(u:Value)(s':Shared):Prop:=∃v H',Inv X pins σ H' s'/\RelV v u/\Q v H'
def TP(X:Cx)(pins:PNz)(σ:St)(Q:Bool->Hp->Prop)(b:Bool)(s':Shared):Prop:=∃H',Inv X pins σ H' s'/\Q b H'
def AP(X:Cx)(pins:PNz)(σ:St)(Q:LUz->Hp->Prop)(us:LWz)(s':Shared):Prop:=∃vs H',Inv X pins σ H' s'/\Vals vs us/\Q vs H'
def SP(X:Cx)(pins:PNz)(D:CN)(f:Flow)(s':Shared):Prop :=
 match f with
 |.next=>∃σ' H',Inv X pins σ' H' s'/\D.nx σ' H'
 |.brk=>∃σ' H',Inv X pins σ' H' s'/\D.bk σ' H'
 |.cont=>∃σ' H',Inv X pins σ' H' s'/\D.ct σ' H'
 |.ret u=>∃v σ' H',Inv X pins σ' H' s'/\RelV v u/\D.rt v H'
def PE(X:Cx)(e:Expr)(t:TE):Prop :=
 ∀(pins:PNz)(s:Shared)(σ:St)(H:Hp)(Q:VK),Inv X pins σ H s->t σ H Q->wpAny (model X.prog X.w) X.A (eval e X.env) (EP X pins σ Q) X.xe s
def PT(X:Cx)(e:Expr)(t:TT):Prop :=
 ∀(pins:PNz)(s:Shared)(σ:St)(H:Hp)(Q:Bool->Hp->Prop),Inv X pins σ H s->t σ H Q->wpAny (model X.prog X.w) X.A (isTrue e X.env (eval e X.env)) (TP X pins σ Q) X.xe s
def PW(X:Cx)(e:Expr)(t:TT):Prop :=
 ∀(whole:Sem Value)(pins:PNz)(s:Shared)(σ:St)(H:Hp)(Q:Bool->Hp->Prop),Inv X pins σ H s->t σ H Q->wpAny (model X.prog X.w) X.A (isTrue e X.env whole) (TP X pins σ Q) X.xe s
theorem PW.pt{X:Cx}{e:Expr}{t:TT}(h:PW X e t):PT X e t:=h _
def PA(X:Cx)(es:List Expr)(t:TA):Prop :=
 ∀(pos:Pos)(pins:PNz)(s:Shared)(σ:St)(H:Hp)(Q:LUz->Hp->Prop),Inv X pins σ H s->t σ H Q->wpAny (model X.prog X.w) X.A (spliced (backTo pos (starEach es X.env))) (AP X pins σ Q) X.xe s
def PS(X:Cx)(st:Stmt)(t:TS):Prop :=
 ∀(pins:PNz)(s:Shared)(σ:St)(H:Hp)(D:CN),Inv X pins σ H s->t D σ H->wpAny (model X.prog X.w) X.A (exec st X.env) (SP X pins D) X.xe s
def PSs(X:Cx)(st:List Stmt)(t:TS):Prop :=
 ∀(pins:PNz)(s:Shared)(σ:St)(H:Hp)(D:CN),Inv X pins σ H s->t D σ H->wpAny (model X.prog X.w) X.A (execs st X.env) (SP X pins D) X.xe s
theorem thn{α:Type}{t:Sem α}{Q Q':α->Shared->Prop}{M:Model}{A:Around}{E:VPz}{s:Shared}(h:wpAny M A t Q E s)(hQ:∀a s,Q a s->Q' a s):wpAny M A t Q' E s:=wpAny_mono h hQ λ_ _ x=>x
section
variable{X:Cx}
inductive UJ(i:Nat)(σ:St)(H:Hp)(Q:VK):Prop
 |mk (v:V) (e:σ[i]?=some (some v)) (q:Q v H):UJ i σ H Q
def SI(i:Nat):TE:=λ σ H Q=>UJ i σ H Q
inductive IBl(x:V)(Q:Bool->Prop):Prop
 |mk (c:Bool) (e:x=.bl c) (q:Q c):IBl x Q
def tC(v:V):TE:=λ_ H Q=>Q v H
theorem SU{i:Nat}{x:Str}{pos:Pos}(hN:X.N[i]?=some x)(hv:Vis X.env.scope x)(hd:(x==("__debug__":Str))=false:=by decide)(hcd:(x==("__classdict__":Str))=false:=by decide):PE X (.Name x pos) (SI i):=by
 intro pins s σ H Q I h;obtain⟨v,e,h⟩:=h;obtain⟨m,hn,hl⟩:=I.loc;obtain⟨u,r,l⟩:=hl i x v hN e hv;have fin:EP X pins σ Q u s:=⟨v,H,I,r,h⟩;rcases l with ⟨hk,hm⟩|⟨hk,c,hc,hcell⟩
 .exact wpAny_Name (wpAny_loadName_local I.ok.kind hk hn hm fin) hd
 .rcases hk with hk|hk
  .exact wpAny_Name (wpAny_loadName_cell I.ok.kind hk hc hcell fin) hd
  .exact wpAny_Name (wpAny_loadName_free I.ok.kind hk hc hcell fin hcd) hd
theorem Ag{i j pos}:PE X (.Constant (.int i) j pos) (tC (.int i)):=λ_ _ _ H _ I h=>wpAny_Constant_int ⟨.int i,H,I.tok _,⟨_,rfl⟩,h⟩
theorem G6{b j pos}:PE X (.Constant (.bool b) j pos) (tC (.bl b)):=λ_ _ _ H _ I h=>Constant_bool ⟨.bl b,H,I,rfl,h⟩
theorem Fi{j pos}:PE X (.Constant .none j pos) (tC .non):=λ_ _ _ H _ I h=>Constant_none ⟨.non,H,I,rfl,h⟩
def Gl(X:Cx)(x:Str):Prop:=X.env.kindOf x=some .globalImplicit
theorem Dr{E:VPz}{pins:PNz}{s:Shared}{σ:St}{H:Hp}{x:Str}{u:Value}{pos:Pos}{Q:VPz}(I:Inv X pins σ H s)(hg:Gl X x)(hm:X.mg x=some u)(h:Q u s)
  (hd:(x==("__debug__":Str))=false:=by decide):wpAny (model X.prog X.w) X.A (eval (.Name x pos) X.env) Q E s :=
 Calls.Name_function_global I.ok.kind hg (Calls.loadGlobal_global (by rw[I.ok.glob];exact I.mod.glob.keeps I.bk) hm h) hd
theorem DL{E:VPz}{pins:PNz}{s:Shared}{σ:St}{H:Hp}{x:Str}{u:Value}{pos:Pos}{Q:VPz}(I:Inv X pins σ H s)(hg:Gl X x)(hm:X.mg x=none)(hv:bootBuiltins x=some u)(h:Q u s)
  (hn:x≠"__name__":=by decide) (hd:(x==("__debug__":Str))=false:=by decide):wpAny (model X.prog X.w) X.A (eval (.Name x pos) X.env) Q E s:=by
 obtain⟨mb,h1,h2⟩:=I.mod.blt;exact Calls.Name_function_global I.ok.kind hg (Calls.loadGlobal_builtin (by rw[I.ok.glob];exact I.mod.glob.keeps I.bk) hm (by rw[I.ok.blt];exact h1.keeps I.bk) ((h2 x hn).trans hv) h) hd
theorem A7{x:Str}{v:V}{u:Value}{pos:Pos}(hg:Gl X x)(hm:X.mg x=some u)(r:RelV v u)(hd:(x==("__debug__":Str))=false:=by decide):PE X (.Name x pos) (tC v) :=
 λ_ _ _ H _ I h=>Dr I hg hm ⟨v,H,I,r,h⟩ hd
theorem FY{x:Str}{v:V}{u:Value}{pos:Pos}(hg:Gl X x)(hm:X.mg x=none)(hv:bootBuiltins x=some u)(r:RelV v u)(hn:x≠"__name__":=by decide)(hd:(x==("__debug__":Str))=false:=by decide):PE X (.Name x pos) (tC v) :=
 λ_ _ _ H _ I h=>DL I hg hm hv ⟨v,H,I,r,h⟩ hn hd
variable{a b:Expr}{ta tb:TE}{pos:Pos}
def PC(X:Cx)(op:CmpOp)(a b:Expr)(t:TE):Prop :=
 ∀(pins:PNz)(s:Shared)(σ:St)(H:Hp)(Q:VK),Inv X pins σ H s->t σ H Q ->
  wpAny (model X.prog X.w) X.A (eval a X.env) (λ v s₁=>wpAny (model X.prog X.w) X.A (eval b X.env) (λ u s₂=>wpAny (model X.prog X.w) X.A (compareOp op v u) (EP X pins σ Q) X.xe s₂) X.xe s₁) X.xe s
theorem Qa(b:Expr){op:CmpOp}(h:op≠.In)(h2:op≠.NotIn):behindInMarks op b=false:=by
 have e1:(op==CmpOp.In)=false:=by cases op<;>first|rfl|exact absurd rfl h
 have e2:(op==CmpOp.NotIn)=false:=by cases op<;>first|rfl|exact absurd rfl h2
 cases b<;>simp[behindInMarks,e1,e2]
def tB(t:TE):TT:=λ σ H Q=>t σ H λ x H1=>IBl x λ c=>Q c H1
theorem PF{op:CmpOp}{t:TE}(h:PC X op a b t)(h1:behindInMarks op b=false:=by first|exact Qa _ (by decide) (by decide)|rfl):PT X (.Compare a [op] [b] pos) (tB t):=by
 intro pins s σ H Q I hw;refine wpAny_isTrue_Compare1 (thn (h pins s σ H _ I hw) λ v s1 h1=>thn h1 λ u s2 h2=>thn h2 λ c s3 hz_=>?_) h1;obtain⟨x,H1,I1,r1,q1⟩:=hz_;obtain⟨d,rfl,q⟩:=q1;cases r1;exact wpAny_truthy_bool ⟨H1,I1,q⟩
theorem Bc{e:Expr}{t:TE}(h:PE X e t)(he:∀whole,isTrue e X.env whole=(do let v <-whole;standAt e.pos;holding [v] (truthy v)):=by intro _;rfl):PT X e (tB t):=by
  intro pins s σ H Q I hw;refine isTrue_plain (thn (h pins s σ H _ I hw) λ v s1 hz_=>?_) (he _);obtain⟨x,H1,I1,r1,q1⟩:=hz_;obtain⟨d,rfl,q⟩:=q1;cases r1;exact wpAny_truthy_bool ⟨H1,I1,q⟩
variable{tA tB':TT}{rest:List Expr}
def Ve(t u:TT):TT:=λ σ H Q=>t σ H λ c H1=>if c=true then u σ H1 Q else Q false H1
def tOr(t u:TT):TT:=λ σ H Q=>t σ H λ c H1=>if c=true then Q true H1 else u σ H1 Q
def UX(t:TT):TT:=λ σ H Q=>t σ H λ c H1=>Q (!c) H1
theorem N3(ha:PT X a tA):PW X (.BoolOp .And [a] pos) tA:=by
 intro wh pins s σ H Q I h;refine isTrue_and (thn (ha pins s σ H Q I h) λ c s1 e=>?_);cases c with
 |true=>exact isTrue_and_nil e
 |false=>exact e
theorem Fg(ha:PT X a tA):PW X (.BoolOp .Or [a] pos) tA:=by
 intro wh pins s σ H Q I h;refine isTrue_or (thn (ha pins s σ H Q I h) λ c s1 e=>?_);cases c with
 |false=>exact isTrue_or_nil e
 |true=>exact e
theorem Mv(ha:PT X a tA)(hb:PW X (.BoolOp .And (b::rest) pos) tB'):PW X (.BoolOp .And (a::b::rest) pos) (Ve tA tB'):=by
 intro wh pins s σ H Q I h;refine isTrue_and (thn (ha pins s σ H _ I h) λ c s1 hz_=>?_);obtain⟨H1,I1,q1⟩:=hz_;cases c with
 |true=>exact hb wh pins s1 σ H1 Q I1 q1
 |false=>exact⟨H1,I1,q1⟩
theorem ID(ha:PT X a tA)(hb:PW X (.BoolOp .Or (b::rest) pos) tB'):PW X (.BoolOp .Or (a::b::rest) pos) (tOr tA tB'):=by
 intro wh pins s σ H Q I h;refine isTrue_or (thn (ha pins s σ H _ I h) λ c s1 hz_=>?_);obtain⟨H1,I1,q1⟩:=hz_;cases c with
 |true=>exact⟨H1,I1,q1⟩
 |false=>exact hb wh pins s1 σ H1 Q I1 q1
theorem BR(ha:PT X a tA):PT X (.UnaryOp .Not a pos) (UX tA):=by
 intro pins s σ H Q I h;exact isTrue_not (ha pins s σ H (λ c H1=>Q (!c) H1) I h)
def TW(ta tb:TE):TE:=λ σ H Q=>ta σ H λ x H1=>IBl x λ c=>if c=true then tb σ H1 Q else Q (.bl false) H1
def UW(ta tb:TE):TE:=λ σ H Q=>ta σ H λ x H1=>IBl x λ c=>if c=true then Q (.bl true) H1 else tb σ H1 Q
def TM(ta:TE):TE:=λ σ H Q=>ta σ H λ x H1=>IBl x λ c=>Q (.bl (!c)) H1
theorem Cj{op}{t:TE}(h:PE X a t):PE X (.BoolOp op [a] pos) t:=λ pins s σ H Q I hw=>BoolOp_one (h pins s σ H Q I hw)
theorem Do(ha:PE X a ta)(hb:PE X (.BoolOp .And (b::rest) pos) tb):PE X (.BoolOp .And (a::b::rest) pos) (TW ta tb):=by
 intro pins s σ H Q I h;refine BoolOp_and (thn (ha pins s σ H _ I h) λ v s1 hz_=>?_);obtain⟨x,H1,I1,r1,q1⟩:=hz_;obtain⟨c,rfl,q1⟩:=q1;cases r1;refine wpAny_truthy_bool ?_;cases c with
 |true=>exact hb pins s1 σ H1 Q I1 q1
 |false=>exact⟨.bl false,H1,I1,rfl,q1⟩
theorem N8(ha:PE X a ta)(hb:PE X (.BoolOp .Or (b::rest) pos) tb):PE X (.BoolOp .Or (a::b::rest) pos) (UW ta tb):=by
 intro pins s σ H Q I h;refine BoolOp_or (thn (ha pins s σ H _ I h) λ v s1 hz_=>?_);obtain⟨x,H1,I1,r1,q1⟩:=hz_;obtain⟨c,rfl,q1⟩:=q1;cases r1;refine wpAny_truthy_bool ?_;cases c with
 |false=>exact hb pins s1 σ H1 Q I1 q1
 |true=>exact⟨.bl true,H1,I1,rfl,q1⟩
theorem PN(ha:PE X a ta):PE X (.UnaryOp .Not a pos) (TM ta):=by
 intro pins s σ H Q I h;refine UnaryOp_ (thn (ha pins s σ H _ I h) λ v s1 hz_=>?_);obtain⟨x,H1,I1,r1,q1⟩:=hz_;obtain⟨c,rfl,q1⟩:=q1;cases r1;exact not_of (wpAny_truthy_bool ⟨.bl (!c),H1,I1,rfl,q1⟩)
def tIf(t:TT)(ta tb:TE):TE:=λ σ H Q=>t σ H λ c H1=>if c=true then ta σ H1 Q else tb σ H1 Q
theorem G5{c:Expr}(hc:PT X c tA)(ha:PE X a ta)(hb:PE X b tb):PE X (.IfExp c a b pos) (tIf tA ta tb):=by
 intro pins s σ H Q I h;refine wpAny_IfExp (thn (hc pins s σ H _ I h) λ d s1 hz_=>?_);obtain⟨H1,I1,q1⟩:=hz_;cases d with
 |true=>exact ha pins s1 σ H1 Q I1 q1
 |false=>exact hb pins s1 σ H1 Q I1 q1
end
def SqL(K:Frag)(H:Hp)(a:Addr)(xs:LUz):Prop :=
 Rd H a (.lst xs) \/
  ∃(o:Obj)(its:Array Value)(n:Nat),K.lookup a=some o/\o.cls=.type "list"/\o.dict=none/\o.data=.seq its n/\its.size<=sizeLine/\Vals xs its.toList
def SqT(K:Frag)(H:Hp)(a:Addr)(xs:LUz):Prop :=
 Rd H a (.tup xs) \/
  ∃(o:Obj)(its:Array Value)(n:Nat),K.lookup a=some o/\o.cls=.type "tuple"/\o.data=.seq its n/\its.size<=sizeLine/\Vals xs its.toList
def Vv:Value->Option V
 |.none=>some .non
 |.bool b=>some (.bl b)
 |.int i _=>some (.int i)
 |.str x _=>some (.str x)
 |.bytes b _=>some (.byt b)
 |.float b _=>some (.flt b)
 |.ref a=>some (.ref a)
 |.type n=>some (.ty n)
 |_=>none
theorem RelV.abs{x:V}{u:Value}(r:RelV x u):Vv u=some x:=by
 cases x with
 |non=>cases r;rfl
 |bl _=>cases r;rfl
 |int _=>obtain⟨t,rfl⟩:=r;rfl
 |str _=>obtain⟨t,rfl⟩:=r;rfl
 |byt _=>obtain⟨t,rfl⟩:=r;rfl
 |flt _=>obtain⟨t,rfl⟩:=r;rfl
 |ref _=>cases r;rfl
 |ty _=>cases r;rfl
theorem RelV.inj{x y:V}{u:Value}(r:RelV x u)(q:RelV y u):x=y:=Option.some.inj (r.abs.symm.trans q.abs)
theorem Vals.inj:∀{xs ys:LUz}{us:LWz},Vals xs us->Vals ys us->xs=ys
 |_,_,_,.nil,.nil=>rfl
 |_,_,_,.cons r t,.cons r' t'=>by rw[r.inj r',Vals.inj t t']
section
variable{X:Cx}{pins:PNz}{σ:St}{H:Hp}{s:Shared}{a:Addr}{xs ys:LUz}
theorem SqL.of{K:Frag}(h:H a=some (.lst xs)):SqL K H a xs:=.inl (.inl h)
theorem SqT.of{K:Frag}(h:H a=some (.tup xs)):SqT K H a xs:=.inl (.inl h)
theorem Inv.list(I:Inv X pins σ H s)(h:SqL X.K H a xs):∃its:LWz,Vals xs its/\PlainL s.heap a its.toArray/\xs.length<=sizeLine:=by
 rcases h with h|⟨o,its,n,hk,hc,hd,hs,hz,r⟩
 .obtain⟨z,its,n,r,e⟩:=h.ok I.hok;exact⟨its,r,⟨_,n,e,rfl,rfl,rfl⟩,z⟩
 .refine⟨its.toList,r,⟨o,n,I.kIn a o hk,hc,hd,by simpa using hs⟩,?_⟩;have e:=r.length;simp only[Array.length_toList]at e;lia
theorem Inv.tuple(I:Inv X pins σ H s)(h:SqT X.K H a xs):∃its:LWz,Vals xs its/\IsTup s.heap a its.toArray/\xs.length<=sizeLine:=by
 rcases h with h|⟨o,its,n,hk,hc,hs,hz,r⟩
 .obtain⟨z,its,r,p⟩:=h.ok I.hok;exact⟨its,r,p,z⟩
 .refine⟨its.toList,r,⟨o,I.kIn a o hk,hc,n,by simpa using hs⟩,?_⟩;have e:=r.length;simp only[Array.length_toList]at e;lia
theorem Inv.list_inj(I:Inv X pins σ H s)(h:SqL X.K H a xs)(h':SqL X.K H a ys):xs=ys:=by
 obtain⟨its,r,⟨o,n,e,_,_,d⟩,_⟩:=I.list h;obtain⟨its',r',⟨o',n',e',_,_,d'⟩,_⟩:=I.list h';rw[e]at e';cases e';rw[d]at d';injection d' with d1 _;have:its=its':=by simpa using congrArg Array.toList d1
 subst this;exact r.inj r'
theorem Inv.tuple_inj(I:Inv X pins σ H s)(h:SqT X.K H a xs)(h':SqT X.K H a ys):xs=ys:=by
 obtain⟨its,r,⟨o,e,_,n,d⟩,_⟩:=I.tuple h;obtain⟨its',r',⟨o',e',_,n',d'⟩,_⟩:=I.tuple h';rw[e]at e';cases e';rw[d]at d';injection d' with d1 _;have:its=its':=by simpa using congrArg Array.toList d1
 subst this;exact r.inj r'
end
abbrev Cx.wish(X:Cx)(E:VPz):Cx:={ X with xe:=E }
abbrev Cx.nox(X:Cx):Cx:=X.wish λ_ _=>False
theorem Cx.Ok.wish{X:Cx}(ok:X.Ok)(E:VPz):(X.wish E).Ok :=
 ⟨ok.mod,ok.kind,ok.glob,ok.blt,ok.above,ok.inj,ok.has,ok.cab,ok.hd,ok.frames,ok.stk,ok.exf,ok.bs,ok.bsz,ok.noex,ok.exfs,ok.funs,ok.frf⟩
theorem Cx.Ok.unwish{X:Cx}{E:VPz}(ok:(X.wish E).Ok):X.Ok :=
 ⟨ok.mod,ok.kind,ok.glob,ok.blt,ok.above,ok.inj,ok.has,ok.cab,ok.hd,ok.frames,ok.stk,ok.exf,ok.bs,ok.bsz,ok.noex,ok.exfs,ok.funs,ok.frf⟩
section
variable{X:Cx}{pins:PNz}{σ:St}{H:Hp}{s:Shared}{E:VPz}
theorem Inv.wish(I:Inv X pins σ H s)(E:VPz):Inv (X.wish E) pins σ H s:=⟨I.ok.wish E,I.os,I.bare,I.base,I.loc,I.cell,I.free,I.freeC,I.pin,I.hok,I.len⟩
theorem Inv.unwish(I:Inv (X.wish E) pins σ H s):Inv X pins σ H s:=⟨I.ok.unwish,I.os,I.bare,I.base,I.loc,I.cell,I.free,I.freeC,I.pin,I.hok,I.len⟩
theorem SP.unwish{D:CN}{f:Flow}{s':Shared}(h:SP (X.wish E) pins D f s'):SP X pins D f s':=by
 cases f with
 |next=>obtain⟨σ',H',I,q⟩:=h;exact⟨σ',H',I.unwish,q⟩
 |brk=>obtain⟨σ',H',I,q⟩:=h;exact⟨σ',H',I.unwish,q⟩
 |cont=>obtain⟨σ',H',I,q⟩:=h;exact⟨σ',H',I.unwish,q⟩
 |ret u=>obtain⟨v,σ',H',I,r,q⟩:=h;exact⟨v,σ',H',I.unwish,r,q⟩
theorem PSs.nox{st:List Stmt}{t:TS}(h:PSs X.nox st t):PSs X st t:=λ pins s σ H D I hw =>
 wpAny_mono (h pins s σ H D (I.wish _) hw) (λ_ _ q=>q.unwish) λ_ _ z=>False.elim z
end
section
variable{X:Cx}{st:Stmt}{rest:List Stmt}{t u:TS}{e:Expr}{te:TE}{pos:Pos}
def TN:TS:=λ D σ H=>D.nx σ H
def UU(t u:TS):TS:=λ D σ H=>t { D with nx:=u D } σ H
theorem A6:PSs X [] TN:=λ_ _ σ H _ I h=>wpAny_execs_nil ⟨σ,H,I,h⟩
theorem Af(h1:PS X st t)(h2:PSs X rest u):PSs X (st::rest) (UU t u):=by
 intro pins s σ H D I h;refine wpAny_execs_cons (thn (h1 pins s σ H { D with nx:=u D } I h) λ f s1 q=>?_);cases f with
 |next =>
  obtain⟨σ',H',I',q⟩:=q;exact h2 pins s1 σ' H' D I' q
 |ret v=>exact q
 |brk=>exact q
 |cont=>exact q
theorem Ah(h1:PS X st t):PSs X [st] t:=by
 intro pins s σ H D I h;refine wpAny_execs_cons (thn (h1 pins s σ H D I h) λ f s1 q=>?_);cases f with
 |next=>exact wpAny_execs_nil q
 |ret v=>exact q
 |brk=>exact q
 |cont=>exact q
theorem Inv.quiet{pins:PNz}{σ:St}{H:Hp}{s:Shared}(I:Inv X pins σ H s):interactive X.env=false:=by simp[interactive,I.ok.kind]
def TR(te:TE):TS:=λ D σ H=>te σ H λ_ H1=>D.nx σ H1
theorem AH(he:PE X e te)(hs:swapsWith e none pos.line X.env=pure false:=by rfl):PS X (.Expr e pos) (TR te):=by
 intro pins s σ H D I h;exact wpAny_Expr_any (thn (he pins s σ H _ I h) λ v s1 ⟨x,H1,I1,r1,q1⟩=>⟨σ,H1,I1,q1⟩) I.quiet hs
def UV(te:TE):TS:=λ D σ H=>te σ H D.rt
theorem Ap(he:PE X e te):PS X (.Return (some e) pos) (UV te):=by
 intro pins s σ H D I h;exact wpAny_Return_some (thn (he pins s σ H _ I h) λ v s1 ⟨x,H1,I1,r1,q1⟩=>⟨x,σ,H1,I1,r1,q1⟩)
def UZ(c:TT)(t u:TS):TS:=λ D σ H=>c σ H λ b H1=>if b=true then t D σ H1 else u D σ H1
theorem AL{c:Expr}{a b:List Stmt}{tc:TT}(hc:PT X c tc)(ha:PSs X a t)(hb:PSs X b u):PS X (.If c a b pos) (UZ tc t u):=by
 intro pins s σ H D I h;refine wpAny_If (thn (hc pins s σ H _ I h) λ d s1 hz_=>?_);obtain⟨H1,I1,q1⟩:=hz_;cases d with
 |true=>exact ha pins s1 σ H1 D I1 q1
 |false=>exact hb pins s1 σ H1 D I1 q1
def SK:TS:=λ_ _ _=>False
theorem Ch:PS X st SK:=λ_ _ _ _ _ _ h=>h.elim
end
abbrev TG:=V->St->Hp->(St->Hp->Prop)->Prop
abbrev TGs:=LUz->St->Hp->(St->Hp->Prop)->Prop
def PG(X:Cx)(target:Expr)(t:TG):Prop :=
 ∀(pins:PNz)(s:Shared)(σ:St)(H:Hp)(v:V)(u:Value)(Q:St->Hp->Prop),Inv X pins σ H s->RelV v u->t v σ H Q ->
  wpAny (model X.prog X.w) X.A (assign target X.env u) (λ_ s'=>∃σ' H',Inv X pins σ' H' s'/\Q σ' H') X.xe s
def PGs(X:Cx)(ts:List Expr)(t:TGs):Prop :=
 ∀(pins:PNz)(s:Shared)(σ:St)(H:Hp)(vs:LUz)(us:LWz)(Q:St->Hp->Prop),Inv X pins σ H s->Vals vs us->t vs σ H Q ->
  wpAny (model X.prog X.w) X.A (assignInOrder ((assignEach ts X.env).map (·.2)) us) (λ_ s'=>∃σ' H',Inv X pins σ' H' s'/\Q σ' H') X.xe s
abbrev T6:=V->V->V->Hp->(Hp->Prop)->Prop
def UH(X:Cx)(t:T6):Prop :=
 ∀(pins:PNz)(s:Shared)(σ:St)(H:Hp)(o i v:V)(ov iv u:Value)(Q:Hp->Prop),Inv X pins σ H s->RelV o ov->RelV i iv->RelV v u->t o i v H Q ->
  wpAny (model X.prog X.w) X.A (setItem ov iv u) (λ_ s'=>∃H',Inv X pins σ H' s'/\Q H') X.xe s
section
variable{X:Cx}{pos:Pos}
def Sv(i:Nat):TG:=λ v σ H Q=>Q (σ.set i (some v)) H
theorem Aj{i:Nat}{x:Str}(hN:X.N.Nodup)(hi:X.N[i]?=some x)(hx:Loc X.env.scope x)(hf:X.fn x=true\/X.env.scope.names.lookup x=some .local:=by first|exact .inl rfl|exact .inr rfl|assumption):PG X (.Name x pos) (Sv i):=by
 intro pins s σ H v u Q I r h;exact wpAny_assign_Name (EC I hN hi hx r (λ s' I'=>⟨_,H,I',h⟩) hf)
def Vt:TGs:=λ vs σ H Q=>vs=[]/\Q σ H
def U3(t:TG)(u:TGs):TGs:=λ vs σ H Q=>∃v r,vs=v::r/\t v σ H λ σ' H'=>u r σ' H' Q
theorem Bj:PGs X [] Vt:=by
 intro pins s σ H vs us Q I r h;obtain⟨e,h⟩:=h;subst e;cases r;exact assignInOrder_nil ⟨σ,H,I,h⟩
theorem Ax{e:Expr}{es:List Expr}{t:TG}{u:TGs}(h1:PG X e t)(h2:PGs X es u)
  (hs:(assignEach (e::es) X.env).map (·.2)=assign e X.env::(assignEach es X.env).map (·.2):=by rfl):PGs X (e::es) (U3 t u):=by
 intro pins s σ H vs us Q I r h;obtain⟨v,vr,e1,h⟩:=h;subst e1;cases r with
 |cons r rr =>
  rw[hs];refine assignInOrder_cons (thn (h1 pins s σ H _ _ _ I r h) λ_ s1 hz_=>?_);obtain⟨σ1,H1,I1,q1⟩:=hz_;exact h2 pins s1 σ1 H1 _ _ Q I1 rr q1
inductive S4(K:Frag)(n:Nat)(t:TGs)(v:V)(σ:St)(H:Hp)(Q:St->Hp->Prop):Prop
 |mk (a:Addr) (xs:LUz) (e:v=.ref a) (s:SqT K H a xs) (l:xs.length=n) (q:t xs σ H Q):S4 K n t v σ H Q
def U2(K:Frag)(n:Nat)(t:TGs):TG:=λ v σ H Q=>S4 K n t v σ H Q
theorem BS{es:List Expr}{k:Nat}{t:TGs}{n:Nat}(hc:X.calm=true)(h:PGs X es t)
  (hn:(assignEach es X.env).length=n:=by rfl) (hst:(assignEach es X.env).findIdx? (·.1)=none:=by rfl):PG X (.Tuple es k pos) (U2 X.K n t):=by
 intro pins s σ H v u Q I r hw;obtain⟨a,xs,e1,hq,hl,hw⟩:=hw;subst e1;cases r;obtain⟨its,rv,ht,hz⟩:=I.tuple hq;refine assign_Tuple_tuple (I.ok.hd hc) ht (by simp[hn,<-hl,rv.length]) hst λ h' hx=>?_;have I1:Inv X pins σ H { s with heap:=h' }:=I.kept (t':=s.toks) λ b o e=>hx b o (Nat.ne_of_lt (Heap.lt_size e)) e;exact h pins _ σ H xs _ Q I1 (by simpa using rv) hw
def Vs(to ti:TE)(t:T6):TG:=λ v σ H Q=>to σ H λ o H1=>ti σ H1 λ i H2=>t o i v H2 λ H3=>Q σ H3
theorem PJ{o i:Expr}{to ti:TE}{t:T6}(ho:PE X o to)(hi:PE X i ti)(hs:UH X t)
    (ha:∀v,assign (.Subscript o i pos) X.env v=(do
      let ov <-holding [v] (eval o X.env)
      let iv <-holding [v,ov] (eval i X.env)
      standAt pos
      holding [v,ov,iv] (setItem ov iv v)
      release [v,ov,iv] []):=by intro _;rfl):PG X (.Subscript o i pos) (Vs to ti t):=by
  intro pins s σ H v u Q I r h;rw[ha];refine wpAny_bind (wpAny_holding (thn (ho pins s σ H _ I h) λ ov s1 hz_=>?_));obtain⟨x,H1,I1,r1,q1⟩:=hz_;refine wpAny_bind (wpAny_holding (thn (hi pins s1 σ H1 _ I1 q1) λ iv s2 hz_=>?_));obtain⟨y,H2,I2,r2,q2⟩:=hz_;refine wpAny_bind (wpAny_standAt (wpAny_bind (wpAny_holding (thn (hs pins s2 σ H2 x y v ov iv u _ I2 r1 r2 r q2) λ_ s3 hz_=>?_))));obtain⟨H3,I3,q3⟩:=hz_;exact wpAny_release ⟨σ,H3,I3,q3⟩
def Re(te:TE)(g:TG):TS:=λ D σ H=>te σ H λ x H1=>g x σ H1 D.nx
theorem G2{tg e:Expr}{te:TE}{g:TG}(he:PE X e te)(hg:PG X tg g)(hs:swapsWithSole [tg] e pos.line X.env=pure false:=by rfl)(hw:swappedStores [tg] e X.env=pure none:=by rfl)
  (h1:(assignEach [tg] X.env).map (·.2)=[assign tg X.env]:=by rfl):PS X (.Assign [tg] e pos) (Re te g):=by
 intro pins s σ H D I h;refine wpAny_Assign_stores (thn (he pins s σ H _ I h) λ v s1 hz_=>?_) hs hw;obtain⟨x,H1,I1,r1,q1⟩:=hz_;rw[h1];exact thn (hg pins s1 σ H1 x v _ I1 r1 q1) λ_ s2 q=>q
theorem Aq{i:Nat}{x:Str}{e:Expr}{te:TE}{pos':Pos}(hN:X.N.Nodup)(hi:X.N[i]?=some x)(hx:Loc X.env.scope x)(he:PE X e te)(hs:swapsWith e (some (.Name x pos')) pos.line X.env=pure false:=by rfl)(hf:X.fn x=true\/X.env.scope.names.lookup x=some .local:=by first|exact .inl rfl|exact .inr rfl|assumption) :
  PS X (.Assign [.Name x pos'] e pos) (Re te (Sv i)):=by
 intro pins s σ H D I h;refine wpAny_Assign_Name (thn (he pins s σ H _ I h) λ v s1 hz_=>?_) hs;obtain⟨y,H1,I1,r1,q1⟩:=hz_;exact EC I1 hN hi hx r1 (λ s2 I2=>⟨_,H1,I2,q1⟩) hf
def SH(c:TT)(tb:TS):TS:=λ D σ H=>∃W:Nat->St->Hp->Prop,(∃m,W m σ H)/\∀m σ H,W m σ H ->
 c σ H λ b H1=>if b=true then ∃N:St->Hp->Prop,(∀σ' H',N σ' H'->∃m',m'<m/\W m' σ' H')/\tb { D with nx:=N,ct:=N,bk:=D.nx } σ H1 else D.nx σ H1
theorem KO{c:Expr}{body:List Stmt}{tc:TT}{tb:TS}(hp:PassesOwn (model X.prog X.w) X.A X.env X.xe)(hc:PT X c tc)(hb:PSs X body tb):PS X (.While c body [] pos) (SH tc tb):=by
 intro pins s σ H D I h;obtain⟨W,⟨m0,w0⟩,turn⟩:=h;refine wpAny_While (codeAny_whileLoop (λ n s'=>∃σ' H',Inv X pins σ' H' s'/\W n σ' H') ?_ m0 ⟨σ,H,I,w0⟩);rintro n s1 ⟨σ1,H1,I1,w1⟩;refine wpAny_passesOwn hp (thn (hc pins s1 σ1 H1 _ I1 (turn n σ1 H1 w1)) λ b s2 hz_=>?_);obtain⟨H2,I2,q2⟩:=hz_;cases b with
 |true =>
  obtain⟨N,hN,q2⟩:=q2;rw[if_pos rfl];refine wpAny_passesOwn hp (thn (hb pins s2 σ1 H2 _ I2 q2) λ f s3 q3=>?_);cases f with
  |next =>
   obtain⟨σ3,H3,I3,n3⟩:=q3;obtain⟨m',hm,w3⟩:=hN σ3 H3 n3;exact⟨m',hm,σ3,H3,I3,w3⟩
  |cont =>
   obtain⟨σ3,H3,I3,n3⟩:=q3;obtain⟨m',hm,w3⟩:=hN σ3 H3 n3;exact⟨m',hm,σ3,H3,I3,w3⟩
  |brk=>exact q3
  |ret v=>exact q3
 |false =>
  rw[if_neg Bool.false_ne_true];exact wpAny_execs_nil ⟨σ1,H2,I2,q2⟩
end
structure It where
 go:Nat->Hp->Prop
 yld:Nat->Hp->V->Hp->Prop
 stop:Nat->Hp->Prop
def E7(X:Cx)(pins:PNz)(H:Hp)(b:Addr):Prop :=
 H b=none/\b≠X.env.locals/\b∉X.fs/\(b∈X.ex\/X.s₀.heap.objs.size<=b)/\(∀x c,X.env.cells.lookup x=some c->c≠b)/\∀p∈X.pn++pins,p.1≠b
theorem Inv.fpOk{X:Cx}{pins:PNz}{σ:St}{H H':Hp}{s:Shared}{b:Addr}(I:Inv X pins σ H s)(hb:s.heap.objs.size<=b)(hn:H' b=none):E7 X pins H' b:=by
 refine⟨hn,Nat.ne_of_gt (Nat.lt_of_lt_of_le I.lt hb),I.nofs hb,.inr (Nat.le_trans I.sz hb),λ x c e z=>?_,λ p hp z=>?_⟩
 .obtain⟨v,q⟩:=I.cell x c e;exact absurd (Nat.lt_of_lt_of_le q.lt (by rw[z];exact hb)) (Nat.lt_irrefl _)
 .exact absurd (Nat.lt_of_lt_of_le (Heap.lt_size (I.pin p hp).1) (by rw[z];exact hb)) (Nat.lt_irrefl _)
structure OW(P:Program)(w:World)(K:Frag)(tg:Expr)(J:It)(fp:List Addr)(it:Addr)(tn:Nat->Heap->Prop):Prop where
 mem:it∈fp
 obj:∀i h,tn i h->∀b∈fp,∃o,h.get? b=some o/\∀v,o.data≠.cell v
 keep:∀i h h',tn i h->(∀b∈fp,∀o,h.get? b=some o->h'.get? b=some o)->tn i h'
 item:∀(X:Cx),X.prog=P->X.w=w->X.K=K->X.calm=true->∀(i:Nat)(pins:PNz)(s:Shared)(σ:St)(H:Hp)(E:VPz),Inv X pins σ H s->(∀b∈fp,E7 X pins H b)->tn i s.heap->J.go i H ->
  wpAny (model P w) X.A (pyNext (.ref it)) (λ r s1=>∃u,r=some u /\
   wpAny (model P w) X.A (letOwnedTupleGo tg (.ref it) u) (λ_ s2=>∃x H',Inv X pins σ H' s2/\RelV x u/\J.yld i H x H'/\tn (i+1) s2.heap/\∀b∈fp,H' b=none) E s1) E s
 done:∀(X:Cx),X.prog=P->X.w=w->X.K=K->X.calm=true->∀(i:Nat)(pins:PNz)(s:Shared)(σ:St)(H:Hp)(E:VPz),Inv X pins σ H s->(∀b∈fp,E7 X pins H b)->tn i s.heap->J.stop i H ->
  wpAny (model P w) X.A (pyNext (.ref it)) (λ r s1=>r=none/\Inv X pins σ H s1) E s
 self:∀(A:Around)(i:Nat)(s:Shared)(Q:VPz)(E:VPz),tn i s.heap->Q (.ref it) s->wpAny (model P w) A (pyIter (.ref it)) Q E s
abbrev TI:=St->Hp->(It->Hp->Prop)->Prop
def PIE(X:Cx)(pins:PNz)(σ:St)(tg:Expr)(R:It->Hp->Prop)(itv:Value)(s2:Shared):Prop :=
 ∃(it:Addr)(fp:List Addr)(tn:Nat->Heap->Prop)(J:It)(H':Hp),itv=.ref it/\Inv X pins σ H' s2/\OW X.prog X.w X.K tg J fp it tn/\tn 0 s2.heap/\(∀b∈fp,E7 X pins H' b)/\R J H'
def PI(X:Cx)(tg iter:Expr)(wi:TI):Prop :=
 ∀(pins:PNz)(s:Shared)(σ:St)(H:Hp)(R:It->Hp->Prop),Inv X pins σ H s->wi σ H R ->
  wpAny (model X.prog X.w) X.A (eval iter X.env) (λ v s1=>wpAny (model X.prog X.w) X.A (pyIter v) (PIE X pins σ tg R) X.xe s1) X.xe s
theorem NK{M:Model}{A:Around}{E:VPz}{s:Shared}{tg:Expr}{it:Addr}{u:Value}{o:Obj}{n:String}{vs:Array Value}{Q:Unit->Shared->Prop}(ho:s.heap.get? it=some o)(hc:o.cls=.type n)(hd:o.data=.fields vs)
    (hn:["enumerate","zip","dict_itemiterator","dict_reverseitemiterator","odict_iterator","itertools.zip_longest","itertools.pairwise"].contains n=false) (hQ:Q () s):wpAny M A (letOwnedTupleGo tg (.ref it) u) Q E s:=by
  unfold letOwnedTupleGo;cases tg<;>first
    |exact wpAny_pure hQ
    | (cases u<;>first
        |exact wpAny_pure hQ
        | (refine wpAny_bind (wpAny_load ho ?_)
           rw[hc,hd];show wpAny M A (if (["enumerate","zip","dict_itemiterator","dict_reverseitemiterator","odict_iterator","itertools.zip_longest","itertools.pairwise"].contains n&&vs[0]?==some (rawInt _))=true then _ else _) Q E s;rw[if_neg (by intro h;rw[hn,Bool.false_and]at h;cases h)];exact wpAny_pure hQ))
def Itl(K:Frag)(a:Addr):It :=
 ⟨λ i H=>∃xs x,SqL K H a xs/\xs[i]?=some x,λ i H x H'=>H'=H/\∀xs,SqL K H a xs->xs[i]?=some x,λ i H=>∃xs,SqL K H a xs/\xs.length<=i⟩
def Itt(K:Frag)(a:Addr):It :=
 ⟨λ i H=>∃xs x,SqT K H a xs/\xs[i]?=some x,λ i H x H'=>H'=H/\∀xs,SqT K H a xs->xs[i]?=some x,λ i H=>∃xs,SqT K H a xs/\xs.length<=i⟩
def Itr(lo:Int)(n:Nat):It:=⟨λ i _=>i<n,λ i H x H'=>H'=H/\x=.int (lo+i),λ i _=>n<=i⟩
theorem Os{P:Program}{w:World}{K:Frag}{tg:Expr}(a it:Addr):OW P w K tg (Itl K a) [it] it (λ i h=>h.IsListIter it a i) where
 mem:=by simp
 obj:=λ i h st b hb=>by
  have e:b=it:=by simpa using hb
  subst e;obtain⟨o,e,c,d⟩:=st;exact⟨o,e,λ v z=>by rw[d]at z;cases z⟩
 keep:=λ i h h' st k=>st.at λ o e=>k it (by simp) o e
 item:=by
  intro X hP hw hK hc i pins s σ H E I hf st hg;subst hP hw hK;obtain⟨xs,x,hq,hx⟩:=hg;obtain⟨its,rv,p,hz⟩:=I.list hq;obtain⟨u,hu,ru⟩:=rv.get hx;obtain⟨f0,f1,f2,f3,f4,f5⟩:=hf it (by simp);refine wpAny_pyNext_list_item st p.isList (x:=u) (by simpa using hu) λ h' st' sb=>?_;have I1:Inv X pins σ H { s with heap:=h' }:=I.turned (t':=s.toks) (λ b o hb e=>(sb.2 b hb).trans e) f0 f1 f3 f4 f5;obtain⟨o,e,c,d⟩:=id st';exact⟨u,rfl,NK (s:={ s with heap:=h' }) e c d (by decide) ⟨x,H,I1,ru,⟨rfl,λ ys hy=>by rw[I.list_inj hy hq];exact hx⟩,st',λ b hb=>(hf b hb).1⟩⟩
 done:=by
  intro X hP hw hK hc i pins s σ H E I hf st hg;subst hP hw hK;obtain⟨xs,hq,hx⟩:=hg;obtain⟨its,rv,p,hz⟩:=I.list hq;obtain⟨f0,f1,f2,f3,f4,f5⟩:=hf it (by simp);have hl:=rv.length;exact wpAny_pyNext_list_end (I.ok.hd hc) st p.isList (by simp;lia) λ h' eb=>⟨rfl,I.turned (t':=s.toks) (λ b o hb e=>eb b o hb e) f0 f1 f3 f4 f5⟩
 self:=λ_ _ _ _ _ st h=>wpAny_pyIter_listiter st h
theorem Mb{P:Program}{w:World}{K:Frag}{tg:Expr}(a it:Addr):OW P w K tg (Itt K a) [it] it (λ i h=>h.IsTupleIter it a i) where
 mem:=by simp
 obj:=λ i h st b hb=>by
  have e:b=it:=by simpa using hb
  subst e;obtain⟨o,e,c,d⟩:=st;exact⟨o,e,λ v z=>by rw[d]at z;cases z⟩
 keep:=λ i h h' st k=>st.at λ o e=>k it (by simp) o e
 item:=by
  intro X hP hw hK hc i pins s σ H E I hf st hg;subst hP hw hK;obtain⟨xs,x,hq,hx⟩:=hg;obtain⟨its,rv,p,hz⟩:=I.tuple hq;obtain⟨u,hu,ru⟩:=rv.get hx;obtain⟨f0,f1,f2,f3,f4,f5⟩:=hf it (by simp);refine wpAny_pyNext_tuple_item st (show s.heap.IsTuple a its.toArray from p) (x:=u) (by simpa using hu) λ h' st' sb=>?_;have I1:Inv X pins σ H { s with heap:=h' }:=I.turned (t':=s.toks) (λ b o hb e=>(sb.2 b hb).trans e) f0 f1 f3 f4 f5;obtain⟨o,e,c,d⟩:=id st';exact⟨u,rfl,NK (s:={ s with heap:=h' }) e c d (by decide) ⟨x,H,I1,ru,⟨rfl,λ ys hy=>by rw[I.tuple_inj hy hq];exact hx⟩,st',λ b hb=>(hf b hb).1⟩⟩
 done:=by
  intro X hP hw hK hc i pins s σ H E I hf st hg;subst hP hw hK;obtain⟨xs,hq,hx⟩:=hg;obtain⟨its,rv,p,hz⟩:=I.tuple hq;obtain⟨f0,f1,f2,f3,f4,f5⟩:=hf it (by simp);have hl:=rv.length;exact wpAny_pyNext_tuple_end (I.ok.hd hc) st (show s.heap.IsTuple a its.toArray from p) (by simp;lia) λ h' eb=>⟨rfl,I.turned (t':=s.toks) (λ b o hb e=>eb b o hb e) f0 f1 f3 f4 f5⟩
 self:=λ_ _ _ _ _ st h=>wpAny_pyIter_tupleiter st h
theorem Mc{P:Program}{w:World}{K:Frag}{tg:Expr}(it:Addr)(lo:Int)(n:Nat):OW P w K tg (Itr lo n) [it] it (λ i h=>IsRangeIter h it (lo+(i:Nat)*1) ((n:Int)-(i:Nat)) 1) where
 mem:=by simp
 obj:=λ i h st b hb=>by
  have e:b=it:=by simpa using hb
  subst e;exact⟨_,st,λ v z=>by
   have z':Data.fields _=Data.cell v:=z;cases z'⟩
 keep:=λ i h h' st k=>k it (by simp) _ st
 item:=by
  intro X hP hw hK hc i pins s σ H E I hf st hg;subst hP hw hK;obtain⟨f0,f1,f2,f3,f4,f5⟩:=hf it (by simp);have W:=Walks.range (prog:=X.prog) (w:=X.w) (I.ok.hd hc) it lo 1 n;refine W.item i s _ _ hg st λ v h' tk hv st' kk=>?_;obtain⟨t,rfl⟩:=hv;have I1:Inv X pins σ H { s with heap:=h',toks:=tk }:=I.turned (λ b o hb e=>kk b o (by simpa using hb) e) f0 f1 f3 f4 f5;refine⟨_,rfl,NK (s:={ s with heap:=h',toks:=tk }) (n:="range_iterator") st' rfl rfl (by decide) ⟨.int (lo+i),H,I1,⟨t,?_⟩,⟨rfl,rfl⟩,st',λ b hb=>(hf b hb).1⟩⟩;rw[Int.mul_one]
 done:=by
  intro X hP hw hK hc i pins s σ H E I hf st hg;subst hP hw hK;obtain⟨f0,f1,f2,f3,f4,f5⟩:=hf it (by simp);exact wpAny_pyNext_range_end (I.ok.hd hc) st (by have:n<=i:=hg;lia) λ h' eb=>⟨rfl,I.turned (t':=s.toks) (λ b o hb e=>eb b o hb e) f0 f1 f3 f4 f5⟩
 self:=λ_ _ _ _ _ st h=>wpAny_pyIter_rangeiter st h
section
variable{X:Cx}{tg:Expr}
inductive TF(x:V)(S Q:Addr->Prop):Prop
 |mk (a:Addr) (e:x=.ref a) (s:S a) (q:Q a):TF x S Q
def Uz(K:Frag)(tl:TE):TI:=λ σ H R=>tl σ H λ x H1=>TF x (λ a=>∃xs,SqL K H1 a xs) λ a=>R (Itl K a) H1
def Vp(K:Frag)(tl:TE):TI:=λ σ H R=>tl σ H λ x H1=>TF x (λ a=>∃xs,SqT K H1 a xs) λ a=>R (Itt K a) H1
theorem AJ{l:Expr}{tl:TE}(hl:PE X l tl):PI X tg l (Uz X.K tl):=by
 intro pins s σ H R I h;refine thn (hl pins s σ H _ I h) λ v s1 hz_=>?_;obtain⟨x,H1,I1,r1,q1⟩:=hz_;obtain⟨a,e,⟨xs,hq⟩,q⟩:=q1;subst e;cases r1;obtain⟨its,rv,p,hz⟩:=I1.list hq;refine wpAny_pyIter_list p.isList ?_;refine⟨s1.heap.objs.size,[s1.heap.objs.size],_,_,H1,rfl,I1.kept (t':=s1.toks) λ b o e=>Heap.get?_push_of_some _ e,Os a _,⟨_,Heap.get?_push_size _ rfl,rfl,rfl⟩,λ b hb=>?_,q⟩;have e:b=s1.heap.objs.size:=by simpa using hb
 subst e;exact I1.fpOk (Nat.le_refl _) (I1.hok.fresh (Nat.le_refl _))
theorem Mw{l:Expr}{tl:TE}(hl:PE X l tl):PI X tg l (Vp X.K tl):=by
 intro pins s σ H R I h;refine thn (hl pins s σ H _ I h) λ v s1 hz_=>?_;obtain⟨x,H1,I1,r1,q1⟩:=hz_;obtain⟨a,e,⟨xs,hq⟩,q⟩:=q1;subst e;cases r1;obtain⟨its,rv,p,hz⟩:=I1.tuple hq;refine wpAny_pyIter_tuple (show s1.heap.IsTuple a its.toArray from p) ?_;refine⟨s1.heap.objs.size,[s1.heap.objs.size],_,_,H1,rfl,I1.kept (t':=s1.toks) λ b o e=>Heap.get?_push_of_some _ e,Mb a _,⟨_,Heap.get?_push_size _ rfl,rfl,rfl⟩,λ b hb=>?_,q⟩;have e:b=s1.heap.objs.size:=by simpa using hb
 subst e;exact I1.fpOk (Nat.le_refl _) (I1.hok.fresh (Nat.le_refl _))
theorem KM{pins:PNz}{σ:St}{H:Hp}{s:Shared}{R:It->Hp->Prop}{E:VPz}{lo hi:Int}{t u v:Tok}{tk:Nat}(I:Inv X pins σ H s)(h1:-(2^62)<=lo)(h2:lo<2^62)(h3:-(2^62)<=hi)(h4:hi<2^62)
  (q:R (Itr lo (hi-lo).toNat) H):wpAny (model X.prog X.w) X.A (pyIter (.ref s.heap.objs.size)) (PIE X pins σ tg R) E { s with heap:=s.heap.push { cls:=.type "range",data:=.fields #[.int lo t,.int hi u,.int 1 v] },toks:=tk }:=by
 refine wpAny_pyIter_range (IsRange.new ..) (small_one h1 h2 h3 h4) ?_;have I1:Inv X pins σ H { s with heap:=s.heap.push { cls:=.type "range",data:=.fields #[.int lo t,.int hi u,.int 1 v] },toks:=tk }:=I.kept λ b o e=>Heap.get?_push_of_some _ e;refine⟨(s.heap.push { cls:=.type "range",data:=.fields #[.int lo t,.int hi u,.int 1 v] }).objs.size,[(s.heap.push { cls:=.type "range",data:=.fields #[.int lo t,.int hi u,.int 1 v] }).objs.size],_,_,H,rfl,
  I1.kept (t':=tk) λ b o e=>Heap.get?_push_of_some _ e,Mc _ lo (hi-lo).toNat,?_,λ b hb=>?_,q⟩
 .have e1:lo+((0:Nat):Int)*1=lo:=by simp
  have e2:(((hi-lo).toNat:Nat):Int)-((0:Nat):Int)=Builtin.Range.rangeSize lo hi 1:=by rw[rangeSize_one];split<;>lia
  show IsRangeIter _ _ (lo+((0:Nat):Int)*1) ((((hi-lo).toNat:Nat):Int)-((0:Nat):Int)) 1;rw[e1,e2];exact Heap.get?_push_size _ rfl
 .have e:b=(s.heap.push { cls:=.type "range",data:=.fields #[.int lo t,.int hi u,.int 1 v] }).objs.size:=by simpa using hb
  subst e;exact I1.fpOk (Nat.le_refl _) (I1.hok.fresh (Nat.le_refl _))
inductive S5(vs:LUz)(R:Int->Prop):Prop
 |mk (j:Int) (e:vs=[.int j]) (l:-(2^62)<=j) (h:j<2^62) (q:R j):S5 vs R
def Uy(ta:TA):TI:=λ σ H R=>ta σ H λ vs H1=>S5 vs λ j=>R (Itr 0 j.toNat) H1
def Ux(ta:TA):TI:=λ σ H R=>ta σ H λ vs H1=>∃i j:Int,vs=[.int i,.int j]/\(-(2^62)<=i/\i<2^62/\-(2^62)<=j/\j<2^62)/\R (Itr i (j-i).toNat) H1
theorem DV{a:Expr}{ta:TA}{p pos:Pos}(hg:Gl X "range")(hm:X.mg "range"=none)(ha:PA X [a] ta)(hs:starEach [a] X.env=[(false,eval a X.env)]:=by rfl):PI X tg (.Call (.Name "range" p) [a] [] pos) (Uy ta):=by
 intro pins s σ H R I h;refine Call_ (DL I hg hm boot_range (PyProof.Rows.callWith_type1 (thn (ha pos pins s σ H _ I h) λ us s1 hz_=>?_) hs rfl));obtain⟨vs,H1,I1,r1,q1⟩:=hz_;obtain⟨j,e,q1,q2,q⟩:=q1;subst e;cases r1 with
 |cons r rr =>
  cases rr;obtain⟨t,rfl⟩:=r;exact call_range_1 (KM I1 (by lia) (by lia) q1 q2 (by simpa using q))
theorem B6{a b:Expr}{ta:TA}{p pos:Pos}(hg:Gl X "range")(hm:X.mg "range"=none)(ha:PA X [a,b] ta)(hs:starEach [a,b] X.env=[(false,eval a X.env),(false,eval b X.env)]:=by rfl)(hs2:starEach [b] X.env=[(false,eval b X.env)]:=by rfl) :
  PI X tg (.Call (.Name "range" p) [a,b] [] pos) (Ux ta):=by
 intro pins s σ H R I h;refine Call_ (DL I hg hm boot_range (PyProof.Rows.callWith_type1 (thn (ha pos pins s σ H _ I h) λ us s1 hz_=>?_) (by rw[hs,hs2]) (by rw[hs2];rfl)));obtain⟨vs,H1,I1,r1,q1⟩:=hz_;obtain⟨i,j,e,⟨q1,q2,q3,q4⟩,q⟩:=q1;subst e;cases r1 with
 |cons r rr =>
  cases rr with
  |cons r' rr =>
   cases rr;obtain⟨t,rfl⟩:=r;obtain⟨t',rfl⟩:=r';exact call_range_2 (KM I1 q1 q2 q3 q4 q)
def Va(wi:TI)(g:TG)(tb:TS):TS:=λ D σ H=>wi σ H λ J H1=>∃W:Nat->Nat->St->Hp->Prop,(∃m,W 0 m σ H1)/\∀i m σ H,W i m σ H ->
 (J.stop i H/\D.nx σ H)\/(J.go i H/\∃N:St->Hp->Prop,(∀σ' H',N σ' H'->∃m',m'<m/\W (i+1) m' σ' H')/\∀x H',J.yld i H x H'->g x σ H' λ σ2 H2=>tb { D with nx:=N,ct:=N,bk:=D.nx } σ2 H2)
def JE(fp:List Addr)(h:Heap):PNz:=fp.filterMap λ b=>(h.get? b).map λ o=>(b,o)
theorem AY{fp:List Addr}{h:Heap}{b:Addr}{o:Obj}(hb:b∈fp)(e:h.get? b=some o):(b,o)∈JE fp h:=List.mem_filterMap.mpr ⟨b,hb,by rw[e];rfl⟩
theorem OA{fp:List Addr}{h:Heap}{p:Addr×Obj}(hp:p∈JE fp h):p.1∈fp/\h.get? p.1=some p.2:=by
 obtain⟨b,hb,e⟩:=List.mem_filterMap.mp hp;cases q:h.get? b with
 |none=>rw[q]at e;cases e
 |some o =>
  rw[q]at e;have e':(b,o)=p:=Option.some.inj e;subst e';exact⟨hb,q⟩
theorem Inv.pinned{pins:PNz}{σ:St}{H:Hp}{s:Shared}{fp:List Addr}(I:Inv X pins σ H s)(hf:∀b∈fp,E7 X pins H b)(ho:∀b∈fp,∃o,s.heap.get? b=some o/\∀v,o.data≠.cell v):Inv X (pins++JE fp s.heap) σ H s :=
 I.pins_of λ p hp=>(List.mem_append.mp hp).elim (λ z=>I.pin p (List.mem_append_right _ z)) λ z=>by
  obtain⟨hb,e⟩:=OA z;obtain⟨f0,f1,f2,_⟩:=hf p.1 hb;obtain⟨o,e',d⟩:=ho p.1 hb;rw[e]at e';cases e';exact⟨e,f0,f1,f2,d⟩
theorem Inv.unpinned{pins pl:PNz}{σ:St}{H:Hp}{s:Shared}(I:Inv X (pins++pl) σ H s):Inv X pins σ H s:=I.pins_of λ p hp=>I.pin p (List.mem_append_right _ (List.mem_append_left _ hp))
theorem AX{iter:Expr}{body:List Stmt}{wi:TI}{g:TG}{tb:TS}{pos:Pos}(hp:PassesOwn (model X.prog X.w) X.A X.env X.xe)(hc:X.calm=true)(hi:PI X tg iter wi)(hg:PG X tg g)(hb:PSs X body tb)
  (hs:∀x,foldedSetIterable iter X.env x=pure x:=by intro _;rfl):PS X (.For tg iter body [] pos) (Va wi g tb):=by
 intro pins s σ H D I h;refine wpAny_For (thn (hi pins s σ H _ I h) λ v s1 h1=>thn h1 λ itv s2 h2=>?_) hs;obtain⟨it,fp,tn,J,H2,e,I2,T,st2,f2,W,⟨m0,w0⟩,turn⟩:=h2;subst e;have stat:∀{H':Hp},(∀b∈fp,H' b=none)->∀b∈fp,E7 X pins H' b:=λ hn b hb=>⟨hn b hb,(f2 b hb).2⟩;refine codeAny_forLoop_any (λ n s'=>∃i σ' H',Inv X pins σ' H' s'/\tn i s'.heap/\(∀b∈fp,H' b=none)/\W i n σ' H') ?_ m0 ⟨0,σ,H2,I2,st2,λ b hb=>(f2 b hb).1,w0⟩;rintro n s3 ⟨i,σ3,H3,I3,st3,fr3,w3⟩;rcases turn i n σ3 H3 w3 with ⟨stop,qn⟩|⟨go,N,hN,step⟩
 .refine wpAny_passesOwn hp (thn (T.done X rfl rfl rfl hc i pins s3 σ3 H3 X.xe I3 (stat fr3) st3 stop) λ r s4 hz_=>?_);obtain⟨hr,I4⟩:=hz_;subst hr;exact wpAny_execs_nil ⟨σ3,H3,I4,qn⟩
 .refine wpAny_passesOwn hp (thn (T.item X rfl rfl rfl hc i pins s3 σ3 H3 X.xe I3 (stat fr3) st3 go) λ r s4 hz_=>?_);obtain⟨u,hr,h4⟩:=hz_;subst hr;refine wpAny_passesOwn hp (thn h4 λ_ s5 hz_=>?_);obtain⟨x,H5,I5,r5,y5,st5,fr5⟩:=hz_;have I5':=I5.pinned (stat fr5) (T.obj _ _ st5);refine wpAny_passesOwn hp (thn (hg _ s5 σ3 H5 x u _ I5' r5 (step x H5 y5)) λ_ s6 hz_=>?_);obtain⟨σ6,H6,I6,q6⟩:=hz_;refine wpAny_passesOwn hp (thn (hb _ s6 σ6 H6 _ I6 q6) λ f s7 q7=>?_);have again:∀{σ7:St}{H7:Hp},Inv X (pins++JE fp s5.heap) σ7 H7 s7->N σ7 H7->∃m,m<n/\∃i σ' H',Inv X pins σ' H' s7/\tn i s7.heap/\(∀b∈fp,H' b=none)/\W i m σ' H':=λ{σ7 H7} I7 n7=>by
   obtain⟨m',hm,w7⟩:=hN σ7 H7 n7;refine⟨m',hm,i+1,σ7,H7,I7.unpinned,T.keep _ _ _ st5 λ b hb o e=>(I7.pin (b,o) (List.mem_append_right _ (List.mem_append_right _ (AY hb e)))).1,λ b hb=>?_,w7⟩;obtain⟨o,e,d⟩:=T.obj _ _ st5 b hb;exact(I7.pin (b,o) (List.mem_append_right _ (List.mem_append_right _ (AY hb e)))).2.1
  cases f with
  |next=>obtain⟨σ7,H7,I7,n7⟩:=q7;exact again I7 n7
  |cont=>obtain⟨σ7,H7,I7,n7⟩:=q7;exact again I7 n7
  |brk=>obtain⟨σ7,H7,I7,q7⟩:=q7;exact⟨σ7,H7,I7.unpinned,q7⟩
  |ret v=>obtain⟨x7,σ7,H7,I7,r7,q7⟩:=q7;exact⟨x7,σ7,H7,I7.unpinned,r7,q7⟩
end
theorem BB{K:Frag}{a:Addr}{xs:LUz}{g:TG}{tb:TS}{D:CN}{σ:St}{H:Hp}(Pv:Nat->St->Hp->Prop)(h0:Pv 0 σ H)(hl:∀i σ H,i<=xs.length->Pv i σ H->SqL K H a xs)
  (hs:∀i x σ H,xs[i]?=some x->Pv i σ H->g x σ H λ σ2 H2=>tb { D with nx:=Pv (i+1),ct:=Pv (i+1),bk:=D.nx } σ2 H2) (hd:∀σ H,Pv xs.length σ H->D.nx σ H) :
  ∃W:Nat->Nat->St->Hp->Prop,(∃m,W 0 m σ H)/\∀i m σ H,W i m σ H ->
   ((Itl K a).stop i H/\D.nx σ H)\/((Itl K a).go i H/\∃N:St->Hp->Prop,(∀σ' H',N σ' H'->∃m',m'<m/\W (i+1) m' σ' H')/\∀x H',(Itl K a).yld i H x H'->g x σ H' λ σ2 H2=>tb { D with nx:=N,ct:=N,bk:=D.nx } σ2 H2):=by
 refine⟨λ i m σ H=>m=xs.length-i/\i<=xs.length/\Pv i σ H,⟨xs.length,by simp,Nat.zero_le _,h0⟩,?_⟩;rintro i m σ H ⟨rfl,hi,p⟩;have q:=hl i σ H hi p;by_cases hlt:i<xs.length
 .refine .inr ⟨⟨xs,xs[i],q,by simp[hlt]⟩,Pv (i+1),λ σ' H' p'=>⟨xs.length-(i+1),by lia,rfl,hlt,p'⟩,λ x H' y=>?_⟩;obtain⟨e,y⟩:=y;subst e;exact hs i x σ _ (y xs q) p
 .have e:i=xs.length:=by lia
  subst e;exact .inl ⟨⟨xs,q,Nat.le_refl _⟩,hd σ H p⟩
theorem NO{K:Frag}{a:Addr}{xs:LUz}{g:TG}{tb:TS}{D:CN}{σ:St}{H:Hp}(Pv:Nat->St->Hp->Prop)(h0:Pv 0 σ H)(hl:∀i σ H,i<=xs.length->Pv i σ H->SqT K H a xs)
  (hs:∀i x σ H,xs[i]?=some x->Pv i σ H->g x σ H λ σ2 H2=>tb { D with nx:=Pv (i+1),ct:=Pv (i+1),bk:=D.nx } σ2 H2) (hd:∀σ H,Pv xs.length σ H->D.nx σ H) :
  ∃W:Nat->Nat->St->Hp->Prop,(∃m,W 0 m σ H)/\∀i m σ H,W i m σ H ->
   ((Itt K a).stop i H/\D.nx σ H)\/((Itt K a).go i H/\∃N:St->Hp->Prop,(∀σ' H',N σ' H'->∃m',m'<m/\W (i+1) m' σ' H')/\∀x H',(Itt K a).yld i H x H'->g x σ H' λ σ2 H2=>tb { D with nx:=N,ct:=N,bk:=D.nx } σ2 H2):=by
 refine⟨λ i m σ H=>m=xs.length-i/\i<=xs.length/\Pv i σ H,⟨xs.length,by simp,Nat.zero_le _,h0⟩,?_⟩;rintro i m σ H ⟨rfl,hi,p⟩;have q:=hl i σ H hi p;by_cases hlt:i<xs.length
 .refine .inr ⟨⟨xs,xs[i],q,by simp[hlt]⟩,Pv (i+1),λ σ' H' p'=>⟨xs.length-(i+1),by lia,rfl,hlt,p'⟩,λ x H' y=>?_⟩;obtain⟨e,y⟩:=y;subst e;exact hs i x σ _ (y xs q) p
 .have e:i=xs.length:=by lia
  subst e;exact .inl ⟨⟨xs,q,Nat.le_refl _⟩,hd σ H p⟩
theorem BH{lo:Int}{n:Nat}{g:TG}{tb:TS}{D:CN}{σ:St}{H:Hp}(Pv:Nat->St->Hp->Prop)(h0:Pv 0 σ H)
  (hs:∀i σ H,i<n->Pv i σ H->g (.int (lo+i)) σ H λ σ2 H2=>tb { D with nx:=Pv (i+1),ct:=Pv (i+1),bk:=D.nx } σ2 H2) (hd:∀σ H,Pv n σ H->D.nx σ H) :
  ∃W:Nat->Nat->St->Hp->Prop,(∃m,W 0 m σ H)/\∀i m σ H,W i m σ H ->
   ((Itr lo n).stop i H/\D.nx σ H)\/((Itr lo n).go i H/\∃N:St->Hp->Prop,(∀σ' H',N σ' H'->∃m',m'<m/\W (i+1) m' σ' H')/\∀x H',(Itr lo n).yld i H x H'->g x σ H' λ σ2 H2=>tb { D with nx:=N,ct:=N,bk:=D.nx } σ2 H2):=by
 refine⟨λ i m σ H=>m=n-i/\i<=n/\Pv i σ H,⟨n,by simp,Nat.zero_le _,h0⟩,?_⟩;rintro i m σ H ⟨rfl,hi,p⟩;by_cases hlt:i<n
 .refine .inr ⟨hlt,Pv (i+1),λ σ' H' p'=>⟨n-(i+1),by lia,rfl,hlt,p'⟩,λ x H' y=>?_⟩;obtain⟨e,y⟩:=y;subst e y;exact hs i σ _ hlt p
 .have e:i=n:=by lia
  subst e;exact .inl ⟨Nat.le_refl _,hd σ H p⟩
abbrev R2:=V->V->Hp->VK->Prop
def OpR(X:Cx)(f:Value->Value->Sem Value)(r:R2):Prop :=
 ∀(pins:PNz)(s:Shared)(σ:St)(H:Hp)(x y:V)(v u:Value)(Q:VK),Inv X pins σ H s->RelV x v->RelV y u->r x y H Q ->
  wpAny (model X.prog X.w) X.A (f v u) (EP X pins σ Q) X.xe s
def UnR(X:Cx)(f:Value->Sem Value)(r:V->Hp->VK->Prop):Prop :=
 ∀(pins:PNz)(s:Shared)(σ:St)(H:Hp)(x:V)(v:Value)(Q:VK),Inv X pins σ H s->RelV x v->r x H Q ->
  wpAny (model X.prog X.w) X.A (f v) (EP X pins σ Q) X.xe s
def D5(X:Cx)(f:Value)(r:LUz->Hp->VK->Prop):Prop :=
 ∀(pins:PNz)(s:Shared)(σ:St)(H:Hp)(xs:LUz)(us:LWz)(Q:VK),Inv X pins σ H s->Vals xs us->r xs H Q ->
  wpAny (model X.prog X.w) X.A (call f us) (EP X pins σ Q) X.xe s
def Vw(X:Cx)(r:V->Hp->(Bool->Hp->Prop)->Prop):Prop :=
 ∀(pins:PNz)(s:Shared)(σ:St)(H:Hp)(x:V)(v:Value)(Q:Bool->Hp->Prop),Inv X pins σ H s->RelV x v->r x H Q ->
  wpAny (model X.prog X.w) X.A (truthy v) (TP X pins σ Q) X.xe s
def tOp(r:R2)(ta tb:TE):TE:=λ σ H Q=>ta σ H λ x H1=>tb σ H1 λ y H2=>r x y H2 Q
def tUn(r:V->Hp->VK->Prop)(ta:TE):TE:=λ σ H Q=>ta σ H λ x H1=>r x H1 Q
inductive II1(C:Int->Int->Prop)(g:Int->Int->V)(x y:V)(H:Hp)(Q:VK):Prop
 |mk (i j:Int) (e1:x=.int i) (e2:y=.int j) (c:C i j) (q:Q (g i j) H):II1 C g x y H Q
inductive II0(g:Int->Int->V)(x y:V)(H:Hp)(Q:VK):Prop
 |mk (i j:Int) (e1:x=.int i) (e2:y=.int j) (q:Q (g i j) H):II0 g x y H Q
inductive IU(g:Int->V)(x:V)(H:Hp)(Q:VK):Prop
 |mk (i:Int) (e:x=.int i) (q:Q (g i) H):IU g x H Q
def rI(C:Int->Int->Prop)(g:Int->Int->V):R2:=λ x y H Q=>II1 C g x y H Q
def rI0(g:Int->Int->V):R2:=λ x y H Q=>II0 g x y H Q
def rU(g:Int->V):V->Hp->VK->Prop:=λ x H Q=>IU g x H Q
section
variable{X:Cx}{a b c:Expr}{ta tb tc:TE}{pos:Pos}
theorem T5(ha:PE X a ta)(hb:PE X b tb){pins:PNz}{s:Shared}{σ:St}{H:Hp}{R:V->V->Hp->Prop}(I:Inv X pins σ H s)
  (h:ta σ H λ x H1=>tb σ H1 λ y H2=>R x y H2) {Q:VPz} {f:Value->Value->Sem Value}
  (hf:∀v u s2 x y H2,Inv X pins σ H2 s2->RelV x v->RelV y u->R x y H2->wpAny (model X.prog X.w) X.A (f v u) Q X.xe s2) :
  wpAny (model X.prog X.w) X.A (eval a X.env) (λ v s₁=>wpAny (model X.prog X.w) X.A (eval b X.env) (λ u s₂=>wpAny (model X.prog X.w) X.A (f v u) Q X.xe s₂) X.xe s₁) X.xe s:=by
 refine thn (ha pins s σ H _ I h) λ v s1 hz_=>?_;obtain⟨x,H1,I1,r1,q1⟩:=hz_;refine thn (hb pins s1 σ H1 _ I1 q1) λ u s2 hz_=>?_;obtain⟨y,H2,I2,r2,q2⟩:=hz_;exact hf v u s2 x y H2 I2 r1 r2 q2
theorem Ar{op:Operator}{r:R2}(ho:OpR X (binaryOp op) r)(ha:PE X a ta)(hb:PE X b tb):PE X (.BinOp a op b pos) (tOp r ta tb):=by
 intro pins s σ H Q I h;exact wpAny_BinOp (T5 ha hb I h λ v u s2 x y H2 I2 rx ry q=>ho pins s2 σ H2 x y v u Q I2 rx ry q)
theorem N7{op:UnaryOp}{r:V->Hp->VK->Prop}(ho:UnR X (unaryOp op) r)(ha:PE X a ta):PE X (.UnaryOp op a pos) (tUn r ta):=by
 intro pins s σ H Q I h;exact UnaryOp_ (thn (ha pins s σ H _ I h) λ v s1 ⟨x,H1,I1,r1,q1⟩=>ho pins s1 σ H1 x v Q I1 r1 q1)
theorem opI{f:Value->Value->Sem Value}{C:Int->Int->Prop}{g:Int->Int->Int}
  (rule:∀(i j:Int)(t u:Tok)(s:Shared)(Q:VPz)(E:VPz),C i j->Q (.int (g i j) s.toks) { s with toks:=s.toks+1 }->wpAny (model X.prog X.w) X.A (f (.int i t) (.int j u)) Q E s) :
  OpR X f (rI C λ i j=>.int (g i j)):=by
 intro pins s σ H x y v u Q I rx ry h;obtain⟨i,j,rfl,rfl,hc,q⟩:=h;obtain⟨t,rfl⟩:=rx;obtain⟨t',rfl⟩:=ry;exact rule i j t t' s _ _ hc ⟨.int (g i j),H,I.tok _,⟨_,rfl⟩,q⟩
theorem Um{f:Value->Value->Sem Value}{g:Int->Int->Int}
  (rule:∀(i j:Int)(t u:Tok)(s:Shared)(Q:VPz)(E:VPz),Q (.int (g i j) s.toks) { s with toks:=s.toks+1 }->wpAny (model X.prog X.w) X.A (f (.int i t) (.int j u)) Q E s) :
  OpR X f (rI0 λ i j=>.int (g i j)):=by
 intro pins s σ H x y v u Q I rx ry h;obtain⟨i,j,rfl,rfl,q⟩:=h;obtain⟨t,rfl⟩:=rx;obtain⟨t',rfl⟩:=ry;exact rule i j t t' s _ _ ⟨.int (g i j),H,I.tok _,⟨_,rfl⟩,q⟩
theorem Ta{f:Value->Value->Sem Value}{g:Int->Int->Bool}
  (rule:∀(i j:Int)(t u:Tok)(s:Shared)(Q:VPz)(E:VPz),Q (.bool (g i j)) s->wpAny (model X.prog X.w) X.A (f (.int i t) (.int j u)) Q E s) :
  OpR X f (rI0 λ i j=>.bl (g i j)):=by
 intro pins s σ H x y v u Q I rx ry h;obtain⟨i,j,rfl,rfl,q⟩:=h;obtain⟨t,rfl⟩:=rx;obtain⟨t',rfl⟩:=ry;exact rule i j t t' s _ _ ⟨.bl (g i j),H,I,rfl,q⟩
def TJ(i j:Int):Prop:=0<=j/\j<=1000000/\i.natAbs<2^64
theorem AC:OpR X (binaryOp .Add) (rI0 λ i j=>.int (i+j)):=Um λ_ _ _ _ _ _ _ q=>add_int q
theorem AM:OpR X (binaryOp .Sub) (rI0 λ i j=>.int (i-j)):=Um λ_ _ _ _ _ _ _ q=>sub_int q
theorem M0:OpR X (binaryOp .Mod) (rI (λ_ j=>0<j) λ i j=>.int (i % j)):=opI λ i j _ _ _ _ _ hc q=>by
 have h1:(0:Int)<j:=hc;exact mod_int' (by lia) (by rw[Int.fmod_eq_emod_of_nonneg i (by lia)];exact q)
theorem Mz:OpR X (binaryOp .Pow) (rI TJ λ i j=>.int (i^j.toNat)):=opI λ_ _ _ _ _ _ _ hc q=>pow_int_small hc.1 hc.2.1 hc.2.2 q
theorem unI{f:Value->Sem Value}{g:Int->Int}
  (rule:∀(i:Int)(t:Tok)(s:Shared)(Q:VPz)(E:VPz),Q (.int (g i) s.toks) { s with toks:=s.toks+1 }->wpAny (model X.prog X.w) X.A (f (.int i t)) Q E s) :
  UnR X f (rU λ i=>.int (g i)):=by
 intro pins s σ H x v Q I rx h;obtain⟨i,rfl,q⟩:=h;obtain⟨t,rfl⟩:=rx;exact rule i t s _ _ ⟨.int (g i),H,I.tok _,⟨_,rfl⟩,q⟩
theorem Ju:UnR X (unaryOp .USub) (rU λ i=>.int (-i)):=unI λ_ _ _ _ _ q=>neg_int q
end
def TX:V->V->Bool
 |.non,.non=>true|.non,.int _=>true|.int _,.non=>true|.non,.bl _=>true|.bl _,.non=>true|.non,.str _=>true|.str _,.non=>true
 |.int _,.int _=>true|.bl _,.bl _=>true|.str _,.str _=>true|.byt _,.byt _=>true
 |.int _,.str _=>true|.str _,.int _=>true|.bl _,.str _=>true|.str _,.bl _=>true
 |_,_=>false
def rEq:R2:=λ x y H Q=>TX x y=true/\Q (.bl (decide (x=y))) H
def rNe:R2:=λ x y H Q=>TX x y=true/\Q (.bl (!decide (x=y))) H
theorem NT{i j:Int}:decide (V.int i=V.int j)=(i==j):=by
 rw[Bool.eq_iff_iff];simp
theorem Q5{i j:Bool}:decide (V.bl i=V.bl j)=(i==j):=by
 rw[Bool.eq_iff_iff];simp
theorem NS{i j:Str}:decide (V.str i=V.str j)=(i==j):=by
 rw[Bool.eq_iff_iff];simp
theorem NU{i j:Array UInt8}:decide (V.byt i=V.byt j)=(i.toList==j.toList):=by
 rw[Bool.eq_iff_iff];cases i;cases j;simp
section
variable{X:Cx}{a b c:Expr}{ta tb tc:TE}{pos:Pos}
theorem AF{pins:PNz}{σ:St}{H:Hp}{s:Shared}{Q:VK}{k k':Bool}(I:Inv X pins σ H s)(q:Q (.bl k) H)(e:k=k'):EP X pins σ Q (.bool k') s:=by
 subst e;exact⟨.bl k,H,I,rfl,q⟩
theorem Cl:OpR X (compareOp .Eq) rEq:=by
 intro pins s σ H x y v u Q I rx ry h;obtain⟨hs,q⟩:=h;cases x with
 |non =>
  cases rx;cases y with
  |non=>cases ry;exact PySem.EqNone.eq_none_none (AF I q (by simp))
  |bl j=>cases ry;exact PySem.EqNone.eq_none_bool (AF I q (by simp))
  |int j=>obtain⟨t',rfl⟩:=ry;exact PySem.EqNone.eq_none_int (AF I q (by simp))
  |str j=>obtain⟨t',rfl⟩:=ry;exact PySem.EqNone.eq_none_str (AF I q (by simp))
  |_=>exact absurd (show false=true from hs) Bool.false_ne_true
 |bl i =>
  cases rx;cases y with
  |non=>cases ry;exact PySem.EqNone.eq_bool_none (AF I q (by simp))
  |bl j=>cases ry;exact eq_bool (AF I q Q5)
  |str j=>obtain⟨t',rfl⟩:=ry;exact PySem.EqMixed.eq_bool_str (AF I q (by simp))
  |_=>exact absurd (show false=true from hs) Bool.false_ne_true
 |int i =>
  obtain⟨t,rfl⟩:=rx;cases y with
  |non=>cases ry;exact PySem.EqNone.eq_int_none (AF I q (by simp))
  |int j=>obtain⟨t',rfl⟩:=ry;exact eq_int (AF I q NT)
  |str j=>obtain⟨t',rfl⟩:=ry;exact PySem.EqMixed.eq_int_str (AF I q (by simp))
  |_=>exact absurd (show false=true from hs) Bool.false_ne_true
 |str i =>
  obtain⟨t,rfl⟩:=rx;cases y with
  |non=>cases ry;exact PySem.EqNone.eq_str_none (AF I q (by simp))
  |bl j=>cases ry;exact PySem.EqMixed.eq_str_bool (AF I q (by simp))
  |int j=>obtain⟨t',rfl⟩:=ry;exact PySem.EqMixed.eq_str_int (AF I q (by simp))
  |str j=>obtain⟨t',rfl⟩:=ry;exact eq_str (AF I q NS)
  |_=>exact absurd (show false=true from hs) Bool.false_ne_true
 |byt i =>
  obtain⟨t,rfl⟩:=rx;cases y with
  |byt j=>obtain⟨t',rfl⟩:=ry;exact eq_bytes (AF I q NU)
  |_=>exact absurd (show false=true from hs) Bool.false_ne_true
 |_=>cases y<;>exact absurd (show false=true from hs) Bool.false_ne_true
theorem PU:OpR X (compareOp .NotEq) rNe:=by
 intro pins s σ H x y v u Q I rx ry h;obtain⟨hs,q⟩:=h;cases x with
 |non =>
  cases rx;cases y with
  |non=>cases ry;exact PySem.EqNone.ne_none_none (AF I q (by simp))
  |bl j=>cases ry;exact PySem.EqNone.ne_none_bool (AF I q (by simp))
  |int j=>obtain⟨t',rfl⟩:=ry;exact PySem.EqNone.ne_none_int (AF I q (by simp))
  |str j=>obtain⟨t',rfl⟩:=ry;exact PySem.EqNone.ne_none_str (AF I q (by simp))
  |_=>exact absurd (show false=true from hs) Bool.false_ne_true
 |bl i =>
  cases rx;cases y with
  |non=>cases ry;exact PySem.EqNone.ne_bool_none (AF I q (by simp))
  |bl j=>cases ry;exact ne_bool (AF I q (congrArg not Q5))
  |str j=>obtain⟨t',rfl⟩:=ry;exact PySem.EqMixed.ne_bool_str (AF I q (by simp))
  |_=>exact absurd (show false=true from hs) Bool.false_ne_true
 |int i =>
  obtain⟨t,rfl⟩:=rx;cases y with
  |non=>cases ry;exact PySem.EqNone.ne_int_none (AF I q (by simp))
  |int j=>obtain⟨t',rfl⟩:=ry;exact ne_int (AF I q (congrArg not NT))
  |str j=>obtain⟨t',rfl⟩:=ry;exact PySem.EqMixed.ne_int_str (AF I q (by simp))
  |_=>exact absurd (show false=true from hs) Bool.false_ne_true
 |str i =>
  obtain⟨t,rfl⟩:=rx;cases y with
  |non=>cases ry;exact PySem.EqNone.ne_str_none (AF I q (by simp))
  |bl j=>cases ry;exact PySem.EqMixed.ne_str_bool (AF I q (by simp))
  |int j=>obtain⟨t',rfl⟩:=ry;exact PySem.EqMixed.ne_str_int (AF I q (by simp))
  |str j=>obtain⟨t',rfl⟩:=ry;exact ne_str (AF I q (congrArg not NS))
  |_=>exact absurd (show false=true from hs) Bool.false_ne_true
 |byt i =>
  obtain⟨t,rfl⟩:=rx;cases y with
  |byt j=>obtain⟨t',rfl⟩:=ry;exact ne_bytes (AF I q (congrArg not NU))
  |_=>exact absurd (show false=true from hs) Bool.false_ne_true
 |_=>cases y<;>exact absurd (show false=true from hs) Bool.false_ne_true
theorem DH:OpR X (compareOp .Lt) (rI0 λ i j=>.bl (decide (i<j))):=Ta λ_ _ _ _ _ _ _ q=>lt_int q
theorem CT:OpR X (compareOp .LtE) (rI0 λ i j=>.bl (decide (i<=j))):=Ta λ_ _ _ _ _ _ _ q=>le_int q
theorem F8:OpR X (compareOp .Gt) (rI0 λ i j=>.bl (decide (j<i))):=Ta λ_ _ _ _ _ _ _ q=>gt_int q
theorem NC:OpR X (compareOp .IsNot) (λ x y H Q=>y=.non/\Q (.bl (!decide (x=.non))) H):=by
 intro pins s σ H x y v u Q I rx ry h;obtain⟨rfl,q⟩:=h;cases ry;refine isnot_none_gen (AF I q ?_);cases x<;>first
  | (cases rx;rfl)
  | (obtain⟨t,rfl⟩:=rx;rfl)
theorem A3(b:Expr){op:CmpOp}(h:op≠.In:=by decide)(h2:op≠.NotIn:=by decide):behindInMarks op b=false:=by
 have e1:(op==CmpOp.In)=false:=by cases op<;>first|rfl|exact absurd rfl h
 have e2:(op==CmpOp.NotIn)=false:=by cases op<;>first|rfl|exact absurd rfl h2
 cases b<;>simp[behindInMarks,e1,e2]
theorem Bk{op:CmpOp}{r:R2}(ho:OpR X (compareOp op) r)(ha:PE X a ta)(hb:PE X b tb)(hm:behindInMarks op b=false):PE X (.Compare a [op] [b] pos) (tOp r ta tb):=by
 intro pins s σ H Q I h;exact wpAny_Compare1 (T5 ha hb I h λ v u s2 x y H2 I2 rx ry q=>ho pins s2 σ H2 x y v u Q I2 rx ry q) hm
def Sl(t:TE):TT:=λ σ H Q=>t σ H λ x H'=>IBl x λ k=>Q k H'
theorem A9{op:CmpOp}{r:R2}(ho:OpR X (compareOp op) r)(ha:PE X a ta)(hb:PE X b tb)(hm:behindInMarks op b=false):PT X (.Compare a [op] [b] pos) (Sl (tOp r ta tb)):=by
 intro pins s σ H Q I h;refine wpAny_isTrue_Compare1 (thn (ha pins s σ H _ I h) λ v s1 ⟨x,H1,I1,r1,q1⟩=>thn (hb pins s1 σ H1 _ I1 q1) λ u s2 ⟨y,H2,I2,r2,q2⟩ =>
  thn (ho pins s2 σ H2 x y v u _ I2 r1 r2 q2) λ c s3 ⟨z,H3,I3,r3,k,e,q3⟩=>?_) hm
 subst e;cases r3;exact wpAny_truthy_bool ⟨H3,I3,q3⟩
def Pq(r r':R2)(ta tb tc:TE):TE:=λ σ H Q=>ta σ H λ x H1=>tb σ H1 λ y H2=>r x y H2 λ z H3=>IBl z λ k =>
 (if k=true then tc σ H3 λ w' H4=>r' y w' H4 Q else Q (.bl false) H3)
theorem DG{op op':CmpOp}{r r':R2}(ho:OpR X (compareOp op) r)(ho':OpR X (compareOp op') r')(ha:PE X a ta)(hb:PE X b tb)(hc:PE X c tc)
  (hm:lastMarks [op,op'] [b,c]=false:=by with_unfolding_all rfl):PE X (.Compare a [op,op'] [b,c] pos) (Pq r r' ta tb tc):=by
 intro pins s σ H Q I h;refine Compare_chain (thn (ha pins s σ H _ I h) λ v s1 ⟨x,H1,I1,r1,q1⟩=>chain_link (thn (hb pins s1 σ H1 _ I1 q1) λ u s2 ⟨y,H2,I2,r2,q2⟩ =>
  thn (ho pins s2 σ H2 x y v u _ I2 r1 r2 q2) λ d s3 ⟨z,H3,I3,r3,k,e,q3⟩=>?_)) hm
 subst e;cases r3;refine wpAny_truthy_bool ?_;cases k with
 |false=>exact ite_ff ⟨.bl false,H3,I3,rfl,q3⟩
 |true=>exact ite_tt (chain_last (thn (hc pins s3 σ H3 _ I3 q3) λ w' s4 ⟨z',H4,I4,r4,q4⟩=>ho' pins s4 σ H4 y z' u w' Q I4 r2 r4 q4))
theorem KN{op op':CmpOp}{r r':R2}(ho:OpR X (compareOp op) r)(ho':OpR X (compareOp op') r')(ha:PE X a ta)(hb:PE X b tb)(hc:PE X c tc)
  (hm:lastMarks [op,op'] [b,c]=false:=by with_unfolding_all rfl):PT X (.Compare a [op,op'] [b,c] pos) (Sl (Pq r r' ta tb tc)):=by
 intro pins s σ H Q I h;refine isTrue_chain (thn (ha pins s σ H _ I h) λ v s1 ⟨x,H1,I1,r1,q1⟩=>test_link (thn (hb pins s1 σ H1 _ I1 q1) λ u s2 ⟨y,H2,I2,r2,q2⟩ =>
  thn (ho pins s2 σ H2 x y v u _ I2 r1 r2 q2) λ d s3 ⟨z,H3,I3,r3,k,e,q3⟩=>?_)) hm
 subst e;cases r3;refine wpAny_truthy_bool ?_;cases k with
 |false =>
  obtain⟨k',e',q'⟩:=q3;cases e';exact ite_ff ⟨H3,I3,q'⟩
 |true =>
  refine ite_tt (test_last (thn (hc pins s3 σ H3 _ I3 q3) λ w' s4 ⟨z',H4,I4,r4,q4⟩=>thn (ho' pins s4 σ H4 y z' u w' _ I4 r2 r4 q4) λ d' s5 ⟨z2,H5,I5,r5,k2,e2,q5⟩=>?_));subst e2;cases r5;exact wpAny_truthy_bool ⟨H5,I5,q5⟩
def UC(K:Frag)(x:V)(H:Hp)(k:Bool):Prop :=
 match x with
 |.non=>k=false
 |.bl b=>k=b
 |.int i=>k=(i != 0)
 |.str y=>y.length<=sizeLine/\k=((y.length:Int) != 0)
 |.byt y=>y.size<=sizeLine/\k=((y.size:Int) != 0)
 |.ref p=>(∃xs,SqL K H p xs/\k=!xs.isEmpty)\/(∃xs,SqT K H p xs/\k=!xs.isEmpty)\/∃kvs,H p=some (.dK kvs)/\k=!kvs.isEmpty
 |_=>False
theorem MH{κ:Type}{kvs:List (κ×V)}{vs:List (κ×Value)}(r:KV kvs vs):(!vs.isEmpty)=!kvs.isEmpty:=by
 cases r<;>rfl
theorem GW{xs:LUz}{its:LWz}(r:Vals xs its):(!its.toArray.isEmpty)=!xs.isEmpty:=by
 cases r<;>simp
theorem GQ:(sizeLine:Nat)<2^63:=by rw[sizeLine_eq];decide
theorem SE:Vw X (λ x H Q=>∃k,UC X.K x H k/\Q k H):=by
 intro pins s σ H x v Q I rx h;obtain⟨k,e,q⟩:=h;have hl:=GQ;have hs:sizeLine=16777216:=sizeLine_eq;cases x with
 |non =>
  cases rx;have e':k=false:=e;subst e';exact truthy_none ⟨H,I,q⟩
 |bl b =>
  cases rx;have e':k=b:=e;subst e';exact wpAny_truthy_bool ⟨H,I,q⟩
 |int i =>
  obtain⟨t,rfl⟩:=rx;have e':k=(i != 0):=e;subst e';exact PySem.P.truthy_int ⟨H,I,q⟩
 |str y =>
  obtain⟨t,rfl⟩:=rx;obtain⟨hy,e'⟩:y.length<=sizeLine/\k=((y.length:Int) != 0):=e;subst e';exact PySem.P.truthy_str (by lia) ⟨H,I.tok _,q⟩
 |byt y =>
  obtain⟨t,rfl⟩:=rx;obtain⟨hy,e'⟩:y.size<=sizeLine/\k=((y.size:Int) != 0):=e;subst e';exact truthy_bytes (by lia) ⟨H,I.tok _,q⟩
 |ref p =>
  cases rx;have e':(∃xs,SqL X.K H p xs/\k=!xs.isEmpty)\/(∃xs,SqT X.K H p xs/\k=!xs.isEmpty)\/∃kvs,H p=some (.dK kvs)/\k=!kvs.isEmpty:=e;rcases e' with ⟨xs,hx,e'⟩|⟨xs,hx,e'⟩|⟨kvs,hx,e'⟩
  .subst e';obtain⟨its,r,pl,hz⟩:=I.list hx;have hlen:=r.length;exact wpAny_truthy_list pl.isList (by simp only[List.size_toArray];lia) ⟨H,I.tok _,by rw[GW r];exact q⟩
  .subst e';obtain⟨its,r,pl,hz⟩:=I.tuple hx;have hlen:=r.length;exact truthy_tuple pl (by simp only[List.size_toArray];lia) ⟨H,I.tok _,by rw[GW r];exact q⟩
  .subst e';obtain⟨hz,hS,vs,r,m⟩:kvs.length<=sizeLine/\(p==sysModules)=false/\∃vs,KV kvs vs/\s.heap.DictOf (Bl X.prog X.w) p vs:=I.hok p _ hx;have hlen:kvs.length=vs.length:=Paired.length r;exact wpAny_truthy_dict hS m (by lia) ⟨H,I.tok _,by rw[MH r];exact q⟩
 |_=>exact(show False from e).elim
theorem CS(ha:PE X a ta)(he:∀whole,isTrue a X.env whole=(do let v <-whole;standAt a.pos;holding [v] (truthy v))) :
    PT X a (λ σ H Q=>ta σ H λ x H'=>∃k,UC X.K x H' k/\Q k H'):=by
  intro pins s σ H Q I h;exact isTrue_plain (thn (ha pins s σ H _ I h) λ v s1 ⟨x,H1,I1,r1,q1⟩=>SE pins s1 σ H1 x v Q I1 r1 q1) (he _)
theorem F4{x:V}{us:LWz}(r:Vals [x] us):∃u,us=[u]/\RelV x u:=by
 cases r with
 |cons r1 r2=>cases r2;exact⟨_,rfl,r1⟩
theorem Ph{x y:V}{us:LWz}(r:Vals [x,y] us):∃u w',us=[u,w']/\RelV x u/\RelV y w':=by
 cases r with
 |cons r1 r2 =>
  cases r2 with
  |cons r3 r4=>cases r4;exact⟨_,_,rfl,r1,r3⟩
theorem OS(hc:X.calm=true):D5 X (.builtin "min") (λ xs H Q=>∃i j,xs=[.int i,.int j]/\Q (.int (if j<i then j else i)) H):=by
 intro pins s σ H xs us Q I r h;obtain⟨i,j,rfl,q⟩:=h;obtain⟨u,w',rfl,⟨t,rfl⟩,⟨t',rfl⟩⟩:=Ph r;refine min_two_ints (I.ok.hd hc) λ h' tk k=>⟨_,H,I.kept k,?_,q⟩;by_cases hj:j<i
 .rw[if_pos hj,if_pos hj];exact⟨_,rfl⟩
 .rw[if_neg hj,if_neg hj];exact⟨_,rfl⟩
end
structure ObjM(h:Heap)(x dx C:Addr)(mA:MGz):Prop where
 obj:h.get? x=some (instObj C dx)
 ns:h.Ns1 dx mA
 ne:dx≠x
theorem IJ{h:Heap}{dx:Addr}{mA:MGz}(n:h.Ns1 dx mA):∃od,h.get? dx=some od/\∀name,lookIn name od=some (mA name):=by
 obtain⟨o,es,ep,ho,hd,hk,_,hm⟩:=n;refine⟨o,ho,λ name=>?_⟩;have e:=hm name;unfold nsFind findBy at e;rw[<-Array.find?_toList]at e;unfold lookIn;rw[hd];dsimp only;split
 .rename_i y q;rw[q]at e;exact congrArg some e
 .rename_i q;rw[q]at e;have a:es.toList.any (·.refKey)=false:=by
   rw[List.any_eq_false];intro y hy;obtain⟨z,t,hkey⟩:=hk y (Array.mem_toList_iff.mp hy);simp[DictEntry.refKey,hkey]
  have a':¬es.toList.any (·.refKey)=true:=by rw[a];exact Bool.false_ne_true
  rw[if_neg a'];exact congrArg some e
theorem ObjM.look{h:Heap}{x dx C:Addr}{mA:MGz}(I:ObjM h x dx C mA):∃od,InstAt h x (instObj C dx) C (some od)/\∀name,lookIn name od=some (mA name) :=
 let ⟨od,ho,hl⟩:=IJ I.ns
 ⟨od,⟨I.obj,rfl,rfl,ho⟩,hl⟩
section
variable{prog:Program}{w:World}{A:Around}{E:VPz}{s:Shared}{K:Frag}{x dx C f:Addr}{mA:MGz}{name:Str}{v:Value}
theorem RL{expr:Bool}{Q:VPz}(X:K.In s.heap)(I:ObjM s.heap x dx C mA)(hg:plainGet K C name=true)(hh:hasDictIn K C=true)
  (ha:findIn K (.ref C) name=some none) (hv:mA name=some v) (hv':handedIn v=true) (h:Q v { s with toks:=s.toks+1 }) :
  wpAny (model prog w) A (getAttr (.ref x) name expr) Q E s:=by
 obtain⟨od,J,hl⟩:=I.look;exact get_value X J (plainGet_of hg).1 (findObj_own hh ha rfl (by rw[hl,hv])) hv' h
theorem Qs{pl:Sem Bool}{Q:Value×LWz->Shared->Prop}(X:K.In s.heap)(I:ObjM s.heap x dx C mA)(hg:plainGet K C name=true)
  (hf:findIn K (.ref C) name=some (some (.ref f))) (ht:isFn K (.ref f)=true) (hv:mA name=none) (h:Q (.ref f,[.ref x]) s) :
  wpAny (model prog w) A (getMethod (.ref x) name pl) Q E s:=by
 obtain⟨od,J,hl⟩:=I.look;exact method_fn X J (plainGet_of hg).1 (plainGet_of hg).2 hf (beq_iff_eq.mp ht) (by show(lookIn name od).map (·.isSome)=some false;rw[hl,hv];rfl) h
theorem Rp{ns:LSz}{Q:Unit->Shared->Prop}(X:K.In s.heap)(I:ObjM s.heap x dx C mA)
  (hs:findIn K (.ref C) "__setattr__"=some (some (.builtin "object.__setattr__"))) (hp:plainOver K C=true) (ht:takerIn K C name=some none) (hh:hasDictIn K C=true)
  (hw:PySem.Within mA ns) (hsz:ns.length<=sizeLine)
  (h:∀h',ObjM h' x dx C (λ y=>if y=name then some v else mA y)->Heap.SameBut dx s.heap h'->Q () { s with heap:=h',toks:=s.toks+2 }) :
  wpAny (model prog w) A (setAttr (.ref x) name v) Q E s:=by
 obtain⟨od,J,hl⟩:=I.look;refine set_plain X J hs (osa_open (s:={ s with toks:=s.toks+1 }) (r:=none) X J hp ht λ b=>?_);obtain⟨cd,hc,hd'⟩:=any_some hh;have hx:s.heap.get? x=some ⟨.ref C,some dx,.plain,#[]⟩:=I.obj;refine wpAny_bind (wpAny_pure (wpAny_bind (wpAny_bind (wpAny_loadPart hx (wpAny_bind (Looks.here (s:={ s with toks:=s.toks+1 }) (looks_clsIn X hc) ?_))))));rw[hd'];refine wpAny_pure (a:=some dx) (wpAny_bind (wpAny_pure (wpAny_bind ?_)));refine wpAny_nsSet1 (s:={ s with toks:=s.toks+1 }) I.ns λ h' hn2 hs2=>?_;obtain⟨oD,esD,epD,hoD,hdD,hcD⟩:=hn2.count (PySem.Within.cons name v hw);refine wpAny_bind (wpAny_lookBehind hoD (by rw[hdD];exact pastItsLine_dict (Nat.le_trans hcD (by rw[List.length_cons];lia))) ?_);exact wpAny_pure (h _ ⟨(hs2.2 _ (Ne.symm I.ne)).trans I.obj,hn2,I.ne⟩ hs2)
theorem Qe{R:Result->Shared->Prop}{vs:LWz}{kw:List (Str×Value)}(X:K.In s.heap)(hm:makesIn K C=true)
  (hi:findIn K (.ref C) "__init__"=some (some (.ref f))) (hf:typeIn K (.ref f)=some (.type "function"))
  (h:codeAny (model prog w) (A.under (.builtin "type.__call__" ⟨.ref C::vs,kw⟩)) (.call (.ref f) ⟨.ref (s.heap.objs.size+1)::vs,kw⟩) (InitBack (s.heap.objs.size+1) R)
   { s with heap:=(s.heap.push emptyDict).push (instObj C s.heap.objs.size) }) :
  codeAny (model prog w) A (.call (.ref C) ⟨vs,kw⟩) R s:=by
 obtain⟨hh,g,d,t,os⟩:=s;exact make_core (makes_of X hm) (looks_findIn X hi) (λ self=>bind_fn X self hf) (.inl rfl) h
end
def AT(f:Str)(v:V):LFz->LFz
 |[]=>[(f,v)]
 | (g,x)::r=>if g=f then (g,v)::r else (g,x)::AT f v r
theorem Aw(f g:Str)(v:V):∀fs:LFz,(AT f v fs).lookup g=if g=f then some v else fs.lookup g
 |[]=>by
  show List.lookup g [(f,v)]=_;by_cases h:g=f
  .have hb:(g==f)=true:=beq_iff_eq.mpr h;simp only[List.lookup,hb,if_pos h]
  .have hb:(g==f)=false:=beq_eq_false_iff_ne.mpr h;simp only[List.lookup,hb,if_neg h]
 | (k,x)::r=>by
  have ih:=Aw f g v r;rw[show AT f v ((k,x)::r)=(if k=f then (k,v)::r else (k,x)::AT f v r) from rfl];by_cases hk:k=f
  .rw[if_pos hk];by_cases h:g=k
   .have hb:(g==k)=true:=beq_iff_eq.mpr h;simp only[List.lookup,hb,if_pos (h.trans hk)]
   .have hb:(g==k)=false:=beq_eq_false_iff_ne.mpr h;simp only[List.lookup,hb,if_neg (λ e:g=f=>h (e.trans hk.symm))]
  .rw[if_neg hk];by_cases h:g=k
   .have hb:(g==k)=true:=beq_iff_eq.mpr h;simp only[List.lookup,hb,if_neg (λ e:g=f=>hk (h.symm.trans e))]
   .have hb:(g==k)=false:=beq_eq_false_iff_ne.mpr h;simp only[List.lookup,hb];exact ih
theorem CV(f:Str)(v:V):∀fs:LFz,f∈(AT f v fs).map (·.1)/\∀g,g∈fs.map (·.1)->g∈(AT f v fs).map (·.1)
 |[]=>⟨by simp[AT],λ g h=>by simp at h⟩
 | (k,x)::r=>by
  obtain⟨i1,i2⟩:=CV f v r;rw[show AT f v ((k,x)::r)=(if k=f then (k,v)::r else (k,x)::AT f v r) from rfl];by_cases hk:k=f
  .rw[if_pos hk];subst hk;exact⟨by simp,λ g h=>by simpa using h⟩
  .rw[if_neg hk];refine⟨?_,λ g h=>?_⟩
   .rw[List.map_cons];exact List.mem_cons_of_mem _ i1
   .rw[List.map_cons]at h |-;rcases List.mem_cons.mp h with e|e
    .exact List.mem_cons.mpr (.inl e)
    .exact List.mem_cons_of_mem _ (i2 g e)
theorem FA(f:Str)(v:V):∀fs:LFz,(AT f v fs).length<=fs.length+1
 |[]=>by simp[AT]
 | (k,x)::r=>by
  have ih:=FA f v r;rw[show AT f v ((k,x)::r)=(if k=f then (k,v)::r else (k,x)::AT f v r) from rfl];by_cases hk:k=f
  .rw[if_pos hk,List.length_cons,List.length_cons];lia
  .rw[if_neg hk,List.length_cons,List.length_cons];lia
theorem RelO.some_of{v:V}{o:Option Value}(r:RelO (some v) o):∃u,o=some u/\RelV v u:=by
 cases o with
 |none=>exact(show False from r).elim
 |some u=>exact⟨u,rfl,r⟩
theorem RelO.none_of{o:Option Value}(r:RelO none o):o=none:=by
 cases o with
 |none=>rfl
 |some u=>exact(show False from r).elim
theorem IS{v:V}{u:Value}(r:RelV v u):handedIn u=true:=by
 cases v with
 |non=>cases(show u=Value.none from r);rfl
 |bl b=>cases(show u=Value.bool b from r);rfl
 |int i=>obtain⟨t,e⟩:=(show ∃t,u=Value.int i t from r);cases e;rfl
 |str x=>obtain⟨t,e⟩:=(show ∃t,u=Value.str x t from r);cases e;rfl
 |byt b=>obtain⟨t,e⟩:=(show ∃t,u=Value.bytes b t from r);cases e;rfl
 |flt b=>obtain⟨t,e⟩:=(show ∃t,u=Value.float b t from r);cases e;rfl
 |ref a=>cases(show u=Value.ref a from r);rfl
 |ty n=>cases(show u=Value.type n from r);rfl
section
variable{P:Program}{w:World}{H H':Hp}{h h':Heap}{a C dx:Addr}{fs fs':LFz}
theorem Gc(hok:HOk P w H h)(e:H a=some (.ins C dx fs)):∃mA,ObjM h a dx C mA/\(∀f,RelO (fs.lookup f) (mA f))/\PySem.Within mA (fs.map (·.1))/\fs.length<=1000/\H dx=some (.own a):=by
 obtain⟨d,z,ne,ob,mA,n,r,q⟩:=(show ObjOk P w H h a (.ins C dx fs) from hok a _ e);exact⟨mA,⟨ob,n,ne⟩,r,q,z,d⟩
end
structure Cls(K:Frag)(C:Addr):Prop where
 pg:plainGet K C Str.empty=true
 hd:hasDictIn K C=true
 po:plainOver K C=true
 sa:findIn K (.ref C) "__setattr__"=some (some (.builtin "object.__setattr__"))
theorem Cls.get{K:Frag}{C:Addr}(c:Cls K C)(f:Str):plainGet K C f=true:=c.pg
def NoAttr(K:Frag)(C:Addr)(f:Str):Prop:=findIn K (.ref C) f=some none
theorem NoAttr.taker{K:Frag}{C:Addr}{f:Str}(n:NoAttr K C f):takerIn K C f=some none:=by
 unfold takerIn;rw[show findIn K (.ref C) f=some none from n];rfl
structure Sh(K:Frag)(C:Addr)(m:Str)(f:Addr):Prop where
 at_:findIn K (.ref C) m=some (some (.ref f))
 fn:isFn K (.ref f)=true
 kp:keepIn K (.ref f)=true
section
variable{X:Cx}{pins:PNz}{σ:St}{H:Hp}{s:Shared}{a C dx:Addr}{fs:LFz}{f:Str}{v:V}{A:Around}{E:VPz}
theorem MK{b:Bool}{Q:VPz}(I:Inv X pins σ H s)(e:H a=some (.ins C dx fs))(c:Cls X.K C)(n:NoAttr X.K C f)(l:fs.lookup f=some v)
  (h:∀u s',Inv X pins σ H s'->RelV v u->Q u s'):wpAny (model X.prog X.w) A (getAttr (.ref a) f b) Q E s:=by
 obtain⟨mA,O,r,_,_,_⟩:=Gc I.hok e;obtain⟨u,hu,ru⟩:=RelO.some_of (v:=v) (o:=mA f) (by rw[<-l];exact r f);exact RL I.kIn O (c.get f) c.hd n hu (IS ru) (h u _ (I.tok _) ru)
theorem Ha{m:Str}{g:Addr}{pl:Sem Bool}{Q:Value×LWz->Shared->Prop}(I:Inv X pins σ H s)(e:H a=some (.ins C dx fs))(c:Cls X.K C)(k:Sh X.K C m g)(l:fs.lookup m=none)
  (h:Q (.ref g,[.ref a]) s):wpAny (model X.prog X.w) A (getMethod (.ref a) m pl) Q E s:=by
 obtain⟨mA,O,r,_,_,_⟩:=Gc I.hok e;have hn:mA m=none:=RelO.none_of (by rw[<-l];exact r m);exact Qs I.kIn O (c.get m) k.at_ k.fn hn h
theorem Mn{y:V}{u:Value}{Q:Unit->Shared->Prop}(I:Inv X pins σ H s)(e:H a=some (.ins C dx fs))(c:Cls X.K C)(n:NoAttr X.K C f)(hl:fs.length<1000)(ry:RelV y u)
  (h:∀s',Inv X pins σ (upd H a (.ins C dx (AT f y fs))) s'->Q () s'):wpAny (model X.prog X.w) A (setAttr (.ref a) f u) Q E s:=by
 obtain⟨mA,O,r,wi,_,ho⟩:=Gc I.hok e;have hz:(fs.map (·.1)).length<=sizeLine:=by rw[List.length_map,sizeLine_eq];lia
 refine Rp I.kIn O c.sa c.po n.taker c.hd wi hz λ h' O' sb=>h _ ?_;have hd:∃o,h'.get? dx=some o:=let ⟨o,_,_,e',_⟩:=O'.ns;⟨o,e'⟩;refine I.write (x:=a) (e:=dx) (by rw[e];exact True.intro) (.inr ho) (λ b q hb z=>(sb.2 b hb).trans z) hd ?_;refine⟨by rw[Ae O.ne];exact ho,?_,O.ne,O'.obj,_,O'.ns,λ g=>?_,λ g hg=>?_⟩
 .have:=FA f y fs;lia
 .show RelO ((AT f y fs).lookup g) (if g=f then some u else mA g);rw[Aw];by_cases q:g=f
  .rw[if_pos q,if_pos q];exact ry
  .rw[if_neg q,if_neg q];exact r g
 .by_cases q:g=f
  .rw[q];exact(CV f y fs).1
  .refine(CV f y fs).2 g (wi g λ z=>hg ?_);show(if g=f then some u else mA g)=none;rw[if_neg q];exact z
theorem Inv.made(I:Inv X pins σ H s):Inv X pins σ (upd (upd H s.heap.objs.size (.own (s.heap.objs.size+1))) (s.heap.objs.size+1) (.ins C s.heap.objs.size []))
  { s with heap:=(s.heap.push emptyDict).push (instObj C s.heap.objs.size) }:=by
 have e1:(s.heap.push emptyDict).get? s.heap.objs.size=some emptyDict:=Heap.get?_push_size s.heap rfl;have e2:((s.heap.push emptyDict).push (instObj C s.heap.objs.size)).get? (s.heap.objs.size+1)=some (instObj C s.heap.objs.size):=by
  have:=Heap.get?_push_size (s.heap.push emptyDict) (o:=instObj C s.heap.objs.size) rfl;rwa [Heap.size_push]at this
 have e3:(s.heap.push emptyDict).Ns s.heap.objs.size (λ_=>none):=⟨emptyDict,#[],_,e1,rfl,(λ e he=>absurd he (by simp)),λ_=>rfl⟩;have I1:=I.laid (a:=s.heap.objs.size) (o:=.own (s.heap.objs.size+1)) (h':=s.heap.push emptyDict) (t':=s.toks) (λ b u q=>Heap.get?_push_of_some _ q) (Nat.le_refl _) ⟨_,e1⟩;refine I1.laid (a:=s.heap.objs.size+1) (o:=.ins C s.heap.objs.size []) (t':=s.toks) (λ b u q=>Heap.get?_push_of_some _ q) (Nat.le_of_eq (Heap.size_push _ _)) ?_;have ne:s.heap.objs.size≠s.heap.objs.size+1:=Nat.ne_of_lt (Nat.lt_succ_self _);refine⟨by rw[Ae ne,Ab],Nat.zero_le _,ne,e2,λ_=>none,(Heap.Ns1.of_empty e3).at λ o q=>Heap.get?_push_of_some _ q,λ_=>True.intro,λ y hy=>absurd rfl hy⟩
theorem Oa{prog:Program}{w:World}{env:Env}{e:Expr}{f:Str}{pos:Pos}{s:Shared}{Q:VPz}(hb:attributeBase e f env (eval e env)=eval e env)
  (h:wpAny (model prog w) A (eval e env) (λ o s₁=>wpAny (model prog w) A (getAttr o f true) Q E s₁) E s):wpAny (model prog w) A (eval (.Attribute e f pos) env) Q E s :=
 Attribute_any_ h (by rw[arm_eval_Attribute,hb])
end
inductive UM(K:Frag)(f:Str)(x:V)(H:Hp)(Q:VK):Prop
 |mk (a C dx:Addr) (fs:LFz) (v:V) (e:x=.ref a) (h:H a=some (.ins C dx fs)) (c:Cls K C) (n:NoAttr K C f) (l:fs.lookup f=some v) (q:Q v H):UM K f x H Q
def Vb(K:Frag)(ta:TE)(f:Str):TE:=λ σ H Q=>ta σ H λ x H1=>UM K f x H1 Q
def Vf(K:Frag)(ta tv:TE)(f:Str):TS:=λ D σ H=>tv σ H λ y H1=>ta σ H1 λ x H2=>∃a C dx fs,x=.ref a/\H2 a=some (.ins C dx fs)/\Cls K C/\NoAttr K C f/\fs.length<1000 /\
 D.nx σ (upd H2 a (.ins C dx (AT f y fs)))
section
variable{X:Cx}{o e value:Expr}{f:Str}{pos pos' tpos:Pos}{ta tv:TE}
theorem B5(he:PE X e ta)(hb:attributeBase e f X.env (eval e X.env)=eval e X.env):PE X (.Attribute e f pos) (Vb X.K ta f):=by
 intro pins s σ H Q I h;refine Oa hb (thn (he pins s σ H _ I h) λ u s1 hz_=>?_);obtain⟨x,H1,I1,rx,a,C,dx,fs,v,ex,ea,c,n,l,q⟩:=hz_;subst ex;obtain rfl:u=Value.ref a:=rx;exact MK I1 ea c n l λ u' s2 I2 ru=>⟨v,H1,I2,ru,q⟩
theorem Ci(ha:PE X o ta)(hv:PE X value tv)(hs:swapsWith value (some (.Attribute o f pos')) pos.line X.env=pure false):PS X (.Assign [.Attribute o f pos'] value pos) (Vf X.K ta tv f):=by
 intro pins s σ H D I h;refine plainObj_wpAny_Assign_Attribute (thn (hv pins s σ H _ I h) λ u s1 hz_=>?_) hs;obtain⟨y,H1,I1,ry,q⟩:=hz_;refine thn (ha pins s1 σ H1 _ I1 q) λ ov s2 hz_=>?_;obtain⟨x,H2,I2,rx,a,C,dx,fs,ex,ea,c,n,l,q2⟩:=hz_;subst ex;obtain rfl:ov=Value.ref a:=rx;exact Mn I2 ea c n l ry λ s3 I3=>⟨σ,_,I3,q2⟩
end
section
variable{X:Cx}{pins:PNz}{σ:St}{H:Hp}{s:Shared}{A:Around}{E:VPz}{Q:VPz}{c:Value}{b:Bool}
inductive F1(K:Frag)(H:Hp):V->Value->Prop where
 |non:F1 K H .non (.type "NoneType")
 |bl (x:Bool):F1 K H (.bl x) (.type "bool")
 |int (i:Int):F1 K H (.int i) (.type "int")
 |str (x:Str):F1 K H (.str x) (.type "str")
 |flt (x:UInt64):F1 K H (.flt x) (.type "float")
 |lst {a:Addr} {xs:LUz} (e:H a=some (.lst xs)):F1 K H (.ref a) (.type "list")
 |frz {a:Addr} {o:Obj} {xs:LUz} (e:H a=some (.frz o (.lst xs))):F1 K H (.ref a) (.type "list")
 |tup {a:Addr} {xs:LUz} (e:H a=some (.tup xs)):F1 K H (.ref a) (.type "tuple")
 |dK {a:Addr} {kvs:List (Key×V)} (e:H a=some (.dK kvs)):F1 K H (.ref a) (.type "dict")
 |dT {a:Addr} {kvs:LKz} (e:H a=some (.dT kvs)):F1 K H (.ref a) (.type "dict")
 |ins {a C dx:Addr} {fs:LFz} (e:H a=some (.ins C dx fs)) (cl:Cls K C) (ha:findIn K (.ref C) "__class__"=some (some (.builtin "object.__class__")))
   (hn:specialIn K (.builtin "object.__class__") "__get__"=some (some (.builtin "getset_descriptor.__get__"))) (htk:takesIn K (.builtin "object.__class__")=some true)
   (hm:mroIn K C (.type "object")=some true):F1 K H (.ref a) (.ref C)
theorem IQ{x:V}{u t:Value}(I:Inv X pins σ H s)(rx:RelV x u)(ty:F1 X.K H x t)(e:kitOne X.K t c=some b)(h:∀tk,Q (.bool b) { s with toks:=tk }) :
  wpAny (model X.prog X.w) A (call (.builtin "isinstance") [u,c]) Q E s:=by
 cases ty with
 |non=>cases(show u=Value.none from rx);exact kia_one kitx_none I.kIn True.intro e (λ z=>nomatch z) h
 |bl y=>cases(show u=Value.bool y from rx);exact kia_one kitx_bool I.kIn True.intro e (λ z=>nomatch z) h
 |int i=>obtain⟨t,q⟩:=(show ∃t,u=Value.int i t from rx);cases q;exact kia_one kitx_int I.kIn True.intro e (λ z=>nomatch z) h
 |str y=>obtain⟨t,q⟩:=(show ∃t,u=Value.str y t from rx);cases q;exact kia_one kitx_str I.kIn True.intro e (λ z=>nomatch z) h
 |flt y=>obtain⟨t,q⟩:=(show ∃t,u=Value.float y t from rx);cases q;exact kia_one kitx_float I.kIn True.intro e (λ z=>nomatch z) h
 |@lst a xs ea =>
  cases(show u=Value.ref a from rx);obtain⟨_,_,n,_,h1⟩:=(show ObjOk X.prog X.w H s.heap a (.lst xs) from I.hok a _ ea);exact kia_one kitx_list I.kIn ⟨_,h1,rfl⟩ e (λ z=>nomatch z) h
 |@frz a ob xs ea =>
  cases(show u=Value.ref a from rx);obtain⟨_,_,_,n,_,h1⟩:=(show ObjOk X.prog X.w H s.heap a (.frz ob (.lst xs)) from I.hok a _ ea);exact kia_one kitx_list I.kIn ⟨_,h1,rfl⟩ e (λ z=>nomatch z) h
 |@tup a xs ea =>
  cases(show u=Value.ref a from rx);obtain⟨_,_,_,p⟩:=(show ObjOk X.prog X.w H s.heap a (.tup xs) from I.hok a _ ea);obtain⟨o,h1,h2,_⟩:=p;exact kia_one kitx_tuple I.kIn ⟨o,h1,h2⟩ e (λ z=>nomatch z) h
 |@dK a kvs ea =>
  cases(show u=Value.ref a from rx);obtain⟨_,_,vs,_,p⟩:=(show ObjOk X.prog X.w H s.heap a (.dK kvs) from I.hok a _ ea);obtain⟨o,es,ep,h1,h2,_⟩:=p;exact kia_one kitx_dict I.kIn ⟨o,h1,h2.1⟩ e (λ z=>nomatch z) h
 |@dT a kvs ea =>
  cases(show u=Value.ref a from rx);obtain⟨_,_,xs,_,o,es,ep,h1,h2,_⟩:=(show ObjOk X.prog X.w H s.heap a (.dT kvs) from I.hok a _ ea);exact kia_one kitx_dict I.kIn ⟨o,h1,h2.1⟩ e (λ z=>nomatch z) h
 |@ins a C dx fs ea cl ha hn htk hm =>
  cases(show u=Value.ref a from rx);obtain⟨mA,O,_⟩:=Gc I.hok ea;obtain⟨od,J,_⟩:=O.look;exact kia_one (kitx_own (cl.get _) cl.hd ha hn htk hm) I.kIn J e (λ z=>nomatch z) h
end
structure Room(k:Nat)(A:Around):Prop where
 hd:A.handled=none
 dp:A.depth+3*k+5<recursionLimit
 un:A.units+16*k+200<cLine
theorem Room.mono{j k:Nat}{A:Around}(r:Room k A)(h:j<=k):Room j A:=⟨r.hd,by have:=r.dp;lia,by have:=r.un;lia⟩
theorem Room.deeper{k:Nat}{A:Around}(r:Room (k+1) A)(env:Env):Room k (A.deeper env) :=
 ⟨r.hd,by have:=r.dp;show A.depth+1+3*k+5<_;lia,by have:=r.un;show A.units+3+16*k+200<_;lia⟩
theorem Room.in1{k:Nat}{A:Around}(r:Room (k+1) A):Room k A.in1 :=
 ⟨r.hd,by have:=r.dp;show A.depth+3*k+5<_;lia,by have:=r.un;show A.units+1+16*k+200<_;lia⟩
theorem MD{A:Around}{C:Addr}{us:LWz}{kw:List (Str×Value)}:(A.under (.builtin "type.__call__" ⟨.ref C::us,kw⟩)).depth=A.depth+1:=by
 first|rfl|simp[Around.under,Code.weight,Code.isCreation,Code.isGuard,Code.isCaller,Code.frames,Code.isFrame,guardIds]
theorem MC{A:Around}{C:Addr}{us:LWz}{kw:List (Str×Value)}:(A.under (.builtin "type.__call__" ⟨.ref C::us,kw⟩)).units=A.units+1:=by
 first|rfl|simp[Around.under,Code.cUnits,Code.frames,Code.isFrame]
theorem Room.make{k:Nat}{A:Around}(r:Room (k+1) A)(C:Addr)(us:LWz)(kw:List (Str×Value)):Room k (A.under (.builtin "type.__call__" ⟨.ref C::us,kw⟩)) :=
 ⟨r.hd,by have:=r.dp;rw[MD];lia,by have:=r.un;rw[MC];lia⟩
theorem Room.depth{k:Nat}{A:Around}(r:Room k A):A.depth<recursionLimit:=by have:=r.dp;lia
theorem Room.units{k:Nat}{A:Around}(r:Room k A):A.units+64<cLine:=by have:=r.un;lia
def Ra:TA:=λ_ H Q=>Q [] H
def TV(ta:TE)(tr:TA):TA:=λ σ H Q=>ta σ H λ x H1=>tr σ H1 λ xs H2=>Q (x::xs) H2
section
variable{X:Cx}{e:Expr}{es:List Expr}{te:TE}{t:TA}{pos:Pos}
theorem Ac:PA X [] Ra:=λ_ _ _ _ H Q I h=>Calls.spliced_nil ⟨[],H,I,.nil,h⟩
theorem Aa(ha:PE X e te)(hr:PA X es t)(hs:starEach (e::es) X.env=(false,eval e X.env)::starEach es X.env:=by rfl):PA X (e::es) (TV te t):=by
 intro pos pins s σ H Q I h;rw[hs];show wpAny _ _ (spliced ((false,eval e X.env)::backTo pos (starEach es X.env))) _ _ s;refine Calls.spliced_cons (thn (ha pins s σ H _ I h) λ u s1 hz_=>?_);obtain⟨x,H1,I1,r1,q1⟩:=hz_;exact thn (hr pos pins s1 σ H1 _ I1 q1) λ us s2 ⟨xs,H2,I2,r2,q2⟩=>⟨x::xs,H2,I2,.cons r1 r2,q2⟩
def UT(t:TA):TE:=λ σ H Q=>t σ H λ xs H1=>xs.length<=sizeLine/\∀p,H1 p=none->Q (.ref p) (upd H1 p (.tup xs))
def UY(t:TA):TE:=λ σ H Q=>t σ H λ xs H1=>xs.length<=sizeLine/\∀p,H1 p=none->Q (.ref p) (upd H1 p (.lst xs))
theorem Az{x1}(h:PA X es t):PE X (.Tuple es x1 pos) (UT t):=by
 intro pins s σ H Q I hq;refine wpAny_Tuple_spliced (thn (h pos pins s σ H _ I hq) λ us s1 ⟨xs,H1,I1,r,z,q⟩=>⟨by rw[<-r.length];exact z,?_⟩);have hf:H1 s1.heap.objs.size=none:=I1.hok.fresh (Nat.le_refl _);refine⟨.ref s1.heap.objs.size,upd H1 s1.heap.objs.size (.tup xs),I1.laid (t':=s1.toks) (λ b u e=>Heap.get?_push_of_some _ e) (Nat.le_refl _) ?_,rfl,q _ hf⟩;exact⟨z,us,r,⟨_,Heap.get?_push_size _ rfl,rfl,_,rfl⟩⟩
theorem AO(h:PA X es t):PE X (.List es pos) (UY t):=by
 intro pins s σ H Q I hq;refine wpAny_List_spliced (thn (h pos pins s σ H _ I hq) λ us s1 ⟨xs,H1,I1,r,z,q⟩=>⟨by rw[<-r.length];exact z,?_⟩);have hf:H1 s1.heap.objs.size=none:=I1.hok.fresh (Nat.le_refl _);refine⟨.ref s1.heap.objs.size,upd H1 s1.heap.objs.size (.lst xs),I1.laid (t':=s1.toks) (λ b u e=>Heap.get?_push_of_some _ e) (Nat.le_refl _) ?_,rfl,q _ hf⟩;exact⟨z,us,0,r,Heap.get?_push_size _ rfl⟩
end
abbrev Sp:=LUz->Hp->VK->XK->Prop
abbrev CXT:=List Env->Hp->Shared->XK->Value->Shared->Prop
structure Env0(P:Program)(w:World)(K:Frag)(mg:MGz)(base:Heap)(A:Around)(outer:List Env)(s:Shared)(H:Hp):Prop where
 frames:A.frames=some outer
 mod:Mod K mg base
 bs:∀b o,base.get? b=some o->s.heap.get? b=some o/\H b=none
 bsz:base.objs.size<=s.heap.objs.size
 funs:s.heap.FunFrames base outer
 frf:∀b∈frs outer,H b=none
 hok:HOk P w H s.heap
 bare:AllBare s.gens
def CE(outer:List Env)(P:Program)(w:World)(H:Hp)(s:Shared)(Q:VK)(u:Value)(s':Shared):Prop :=
 ∃v H',s'.os=s.os/\AllBare s'.gens/\Un (frs outer) [] H H' s.heap s'.heap/\HOk P w H' s'.heap/\RelV v u/\Q v H'
def CR(CX:CXT)(outer:List Env)(P:Program)(w:World)(H:Hp)(s:Shared)(Q:VK)(E:XK)(r:Result)(s':Shared):Prop :=
 match r with
 |.ok (.ret u)=>CE outer P w H s Q u s'
 |.ok _=>False
 |.error e=>CX outer H s E e s'
structure A5(P:Program)(w:World)(K:Frag)(mg:MGz)(base:Heap)(CX:CXT)(k:Nat)(f:Addr)(fd:FuncData)(ps:LSz)(sp:Sp):Prop where
 len:∀vs H Q E,sp vs H Q E->vs.length=ps.length
 run:∀(A:Around)(outer:List Env)(s:Shared)(H:Hp)(args:Args)(us:LWz)(vs:LUz)(Q:VK)(E:XK),Room k A->Env0 P w K mg base A outer s H->BindsTo s fd args (ps.zip us)->Vals vs us->sp vs H Q E ->
  codeAny (model P w) A (.call (.ref f) args) (CR CX outer P w H s Q E) s
theorem Env0.make{P:Program}{w:World}{K:Frag}{mg:MGz}{base:Heap}{A:Around}{outer:List Env}{s:Shared}{H:Hp}(e:Env0 P w K mg base A outer s H)(C:Addr)(us:LWz)(kw:List (Str×Value)) :
  Env0 P w K mg base (A.under (.builtin "type.__call__" ⟨.ref C::us,kw⟩)) outer s H:=⟨by first|exact e.frames|(simpa [Around.under,Code.envs,Code.isFrame,pushEnvs] using e.frames),e.mod,e.bs,e.bsz,e.funs,e.frf,e.hok,e.bare⟩
theorem Env0.in1{P:Program}{w:World}{K:Frag}{mg:MGz}{base:Heap}{A:Around}{outer:List Env}{s:Shared}{H:Hp}(e:Env0 P w K mg base A outer s H) :
  Env0 P w K mg base A.in1 outer s H:=⟨e.frames,e.mod,e.bs,e.bsz,e.funs,e.frf,e.hok,e.bare⟩
section
variable{X:Cx}{pins:PNz}{σ:St}{H:Hp}{s s':Shared}
theorem Inv.env0(I:Inv X pins σ H s):Env0 X.prog X.w X.K X.mg X.base X.A X.stack s H :=
 ⟨I.ok.frames,I.ok.mod,I.bs,Nat.le_trans I.ok.bsz I.sz,I.stack,I.stkFree,I.hok,I.bare⟩
theorem Inv.after{Q:VK}{u:Value}(I:Inv X pins σ H s)(h:CE X.stack X.prog X.w H s Q u s'):EP X pins σ Q u s':=by
 obtain⟨v,H',os,bare,un,hok,r,q⟩:=h;obtain⟨hh,g,d,t,os'⟩:=s';obtain rfl:os'=s.os:=os;exact⟨v,H',I.call (h':=hh) (g':=g) (d':=d) (t':=t) (ch:=[]) un hok bare (λ b z=>absurd z (by simp)),r,q⟩
end
def Pr(sp:Sp)(dvs:LUz)(E:XK)(t:TA):TE:=λ σ H Q=>t σ H λ vs H1=>sp (vs++dvs) H1 Q E
def Nj(C:Addr)(m:Str)(sp:Sp)(dvs:LUz)(E:XK)(ta:TE)(t:TA):TE:=λ σ H Q=>ta σ H λ x H1=>∃a dx fs,x=.ref a/\H1 a=some (.ins C dx fs)/\fs.lookup m=none /\
 t σ H1 λ vs H2=>sp (x::(vs++dvs)) H2 Q E
def Sm(C:Addr)(sp:Sp)(dvs:LUz)(E:XK)(t:TA):TE:=λ σ H Q=>t σ H λ vs H1=>∀x dx,H1 x=none->H1 dx=none->dx≠x ->
 sp (.ref x::(vs++dvs)) (upd (upd H1 dx (.own x)) x (.ins C dx [])) (λ v H2=>v=.non/\Q (.ref x) H2) E
def Binds(K:Frag)(fd:FuncData)(ps:LSz)(ds:LWz):Prop :=
 ∀(s:Shared)(us:LWz),K.In s.heap->(us++ds).length=ps.length->BindsTo s fd ⟨us,[]⟩ (ps.zip (us++ds))
theorem Binds.all{K:Frag}{fd:FuncData}{ps:LSz}(h:∀us:LWz,us.length=ps.length->bindArgs fd ⟨us,[]⟩=pure (ps.zip us)):Binds K fd ps []:=λ s us _ hl=>by
 rw[List.append_nil]at hl |-;exact .of_eq (h us hl)
def DR(CX:CXT)(X:Cx)(E:XK):Prop:=∀(pins:PNz)(σ:St)(H:Hp)(s:Shared)(e:Value)(s':Shared),Inv X pins σ H s->CX X.stack H s E e s'->X.xe e s'
section
variable{X:Cx}{CX:CXT}{k:Nat}{f C:Addr}{fd:FuncData}{ps:LSz}{sp:Sp}{dvs:LUz}{ds:LWz}{E:XK}{x m:Str}{p pos apos:Pos}{e o:Expr}{es:List Expr}{ta:TE}{t:TA}
theorem Mr{pins:PNz}{σ:St}{H:Hp}{s:Shared}{Q:VK}{us:LWz}{vs:LUz}(F:A5 X.prog X.w X.K X.mg X.base CX k f fd ps sp)(hr:Room k X.A)(hb:Binds X.K fd ps ds)(hd:Vals dvs ds)(hx:DR CX X E)
  (I:Inv X pins σ H s) (r:Vals vs us) (h:sp (vs++dvs) H Q E):wpAny (model X.prog X.w) X.A (call (.ref f) us) (EP X pins σ Q) X.xe s:=by
 have r2:Vals (vs++dvs) (us++ds):=r.append hd;have hl:(us++ds).length=ps.length:=by rw[<-r2.length];exact F.len _ _ _ _ h
 refine wpAny_call (codeAny_mono (F.run X.A X.stack s H ⟨us,[]⟩ (us++ds) (vs++dvs) Q E hr I.env0 (hb s us I.kIn hl) r2 h) λ r s' hq=>?_);cases r with
 |error e=>exact hx pins σ H s e s' I hq
 |ok fl =>
  cases fl with
  |ret u=>exact I.after hq
  |next=>exact False.elim hq
  |brk=>exact False.elim hq
  |cont=>exact False.elim hq
theorem R7(F:A5 X.prog X.w X.K X.mg X.base CX k f fd ps sp)(hr:Room k X.A)(hg:Gl X x)(hm:X.mg x=some (.ref f))(hk:keepIn X.K (.ref f)=true)(hb:Binds X.K fd ps ds)(hd:Vals dvs ds)(hx:DR CX X E)
  (ha:PA X (e::es) t) (hdb:(x==("__debug__":Str))=false:=by decide) (he:starEach (e::es) X.env=(false,eval e X.env)::starEach es X.env:=by rfl) (hpl:(backTo pos (starEach es X.env)).any (·.1)=false:=by rfl) :
  PE X (.Call (.Name x p) (e::es) [] pos) (Pr sp dvs E t):=by
 intro pins s σ H Q I h;refine wpAny_Call_Name_kw (Dr I hg hm ?_ hdb);refine callWith_K (h₀:=X.base) I.ok.mod.kin hk (thn (ha pos pins s σ H _ I h) λ us s1 ⟨vs,H1,I1,r,q⟩=>⟨I1.kIn,?_⟩) he hpl;exact Mr F hr hb hd hx I1 r q
theorem R4{pl:Sem Bool}(he:PE X o ta)(c:Cls X.K C)(hm:Sh X.K C m f)(F:A5 X.prog X.w X.K X.mg X.base CX k f fd ps sp)(hr:Room k X.A)(hb:Binds X.K fd ps ds)(hd:Vals dvs ds)(hx:DR CX X E)(ha:PA X (e::es) t)
    (hst:starEach (e::es) X.env=(false,eval e X.env)::starEach es X.env:=by rfl) (hpl:(backTo pos (starEach es X.env)).any (·.1)=false:=by rfl)
    (ht:eval (.Call (.Attribute o m apos) (e::es) [] pos) X.env=(do
      let ov <-eval o X.env
      standAt apos.atName
      let (f,first) <-holding [ov] (getMethod ov m pl)
      callWith pos f first (backTo pos (starEach (e::es) X.env)) (backToKw pos (keywordEach [] X.env))):=by rfl) :
    PE X (.Call (.Attribute o m apos) (e::es) [] pos) (Nj C m sp dvs E ta t):=by
  intro pins s σ H Q I h;refine methodCall_KW (pl:=pl) (thn (he pins s σ H _ I h) λ u s1 hz_=>?_) ht;obtain⟨x,H1,I1,rx,a,dx,fs,ex,ea,l,q⟩:=hz_;subst ex;obtain rfl:u=Value.ref a:=rx;refine Ha I1 ea c hm l ?_;refine callWith_K (first:=[.ref a]) (h₀:=X.base) I.ok.mod.kin hm.kp (thn (ha pos pins s1 σ H1 _ I1 q) λ us s2 ⟨vs,H2,I2,r,q2⟩=>⟨I2.kIn,?_⟩) hst hpl;exact Mr (us:=.ref a::us) (vs:=.ref a::vs) F hr hb hd hx I2 (.cons rfl r) q2
theorem PP{pl:Sem Bool}(he:PE X o ta)(c:Cls X.K C)(hm:Sh X.K C m f)(F:A5 X.prog X.w X.K X.mg X.base CX k f fd ps sp)(hr:Room k X.A)(hb:Binds X.K fd ps ds)(hd:Vals dvs ds)(hx:DR CX X E)
    (ht:eval (.Call (.Attribute o m apos) [] [] pos) X.env=(do
      let ov <-eval o X.env
      standAt apos.atName
      let (f,first) <-holding [ov] (getMethod ov m pl)
      callWith pos f first (backTo pos (starEach [] X.env)) (backToKw pos (keywordEach [] X.env))):=by rfl) :
    PE X (.Call (.Attribute o m apos) [] [] pos) (Nj C m sp dvs E ta Ra):=by
  intro pins s σ H Q I h;refine methodCall_KW (pl:=pl) (thn (he pins s σ H _ I h) λ u s1 hz_=>?_) ht;obtain⟨x,H1,I1,rx,a,dx,fs,ex,ea,l,q⟩:=hz_;subst ex;obtain rfl:u=Value.ref a:=rx;refine Ha I1 ea c hm l ?_;exact callWith_K0 (first:=[.ref a]) I1.kIn hm.kp (Mr (us:=[.ref a]) (vs:=[.ref a]) F hr hb hd hx I1 (.cons rfl .nil) q)
structure Mk(K:Frag)(C f:Addr):Prop where
 makes:makesIn K C=true
 init:findIn K (.ref C) "__init__"=some (some (.ref f))
 fn:isFn K (.ref f)=true
 kp:keepIn K (.ref C)=true
theorem P4{pins:PNz}{σ:St}{H:Hp}{s:Shared}{Q:VK}{us:LWz}{vs:LUz}(M:Mk X.K C f)(F:A5 X.prog X.w X.K X.mg X.base CX k f fd ps sp)(hr:Room (k+1) X.A)(hb:Binds X.K fd ps ds)(hd:Vals dvs ds)
  (hx:DR CX X E) (I:Inv X pins σ H s) (r:Vals vs us)
  (h:∀x dx,H x=none->H dx=none->dx≠x->sp (.ref x::(vs++dvs)) (upd (upd H dx (.own x)) x (.ins C dx [])) (λ v H2=>v=.non/\Q (.ref x) H2) E) :
  wpAny (model X.prog X.w) X.A (call (.ref C) us) (EP X pins σ Q) X.xe s:=by
 have hq:=h (s.heap.objs.size+1) s.heap.objs.size (I.hok.fresh (Nat.le_succ _)) (I.hok.fresh (Nat.le_refl _)) (Nat.ne_of_lt (Nat.lt_succ_self _));have I2:=Inv.made (C:=C) I;have r2:Vals (V.ref (s.heap.objs.size+1)::(vs++dvs)) (Value.ref (s.heap.objs.size+1)::(us++ds)):=.cons rfl (r.append hd);have hl:(Value.ref (s.heap.objs.size+1)::us++ds).length=ps.length:=by
  have e:=r2.length;rw[F.len _ _ _ _ hq]at e;exact e.symm
 refine wpAny_call (Qe (f:=f) I.kIn M.makes M.init (beq_iff_eq.mp M.fn) (codeAny_mono (F.run _ X.stack _ _ ⟨Value.ref (s.heap.objs.size+1)::us,[]⟩ (Value.ref (s.heap.objs.size+1)::(us++ds)) _ _ E (hr.make C us [])
  (I2.env0.make C us []) (hb _ (Value.ref (s.heap.objs.size+1)::us) I2.kIn hl) r2 hq) λ r s' hq'=>?_))
 cases r with
 |error e=>exact hx pins σ _ _ e s' I2 hq'
 |ok fl =>
  cases fl with
  |ret u =>
   obtain⟨v,H',I3,rv,ev,q3⟩:=I2.after hq';subst ev;exact⟨rv,⟨V.ref (s.heap.objs.size+1),H',I3,rfl,q3⟩⟩
  |next=>exact False.elim hq'
  |brk=>exact False.elim hq'
  |cont=>exact False.elim hq'
theorem R5(M:Mk X.K C f)(F:A5 X.prog X.w X.K X.mg X.base CX k f fd ps sp)(hr:Room (k+1) X.A)(hg:Gl X x)(hm:X.mg x=some (.ref C))(hb:Binds X.K fd ps ds)(hd:Vals dvs ds)(hx:DR CX X E)
  (ha:PA X (e::es) t) (hdb:(x==("__debug__":Str))=false:=by decide) (he:starEach (e::es) X.env=(false,eval e X.env)::starEach es X.env:=by rfl) (hpl:(backTo pos (starEach es X.env)).any (·.1)=false:=by rfl) :
  PE X (.Call (.Name x p) (e::es) [] pos) (Sm C sp dvs E t):=by
 intro pins s σ H Q I h;refine wpAny_Call_Name_kw (Dr I hg hm ?_ hdb);refine callWith_K (h₀:=X.base) I.ok.mod.kin M.kp (thn (ha pos pins s σ H _ I h) λ us s1 ⟨vs,H1,I1,r,q⟩=>⟨I1.kIn,?_⟩) he hpl;exact P4 M F hr hb hd hx I1 r q
end
structure Ak(N P:LSz)(sc:Scope):Prop where
 kind:sc.kind=.function
 co:sc.isCoroutine=false
 gen:sc.isGenerator=false
 nd:N.Nodup
 pre:N.take P.length=P
 par:∀x∈P,sc.names.lookup x=some .local\/sc.names.lookup x=some .cell
 nofree:∀y∈sc.names,y.2≠.free
theorem fsc{N P:List Str}{sc:Scope}(a:sc.kind=.function:=by rfl)(b:sc.isCoroutine=false:=by rfl)(c:sc.isGenerator=false:=by rfl)(d:N.Nodup:=by decide +kernel)(e:N.take P.length=P:=by rfl)(f:∀x∈P,sc.names.lookup x=some .local\/sc.names.lookup x=some .cell:=by decide +kernel)(g:∀y∈sc.names,y.2≠.free:=by decide +kernel):Ak N P sc:=⟨a,b,c,d,e,f,g⟩
theorem IX{kindOf:Str->Option NameKind}{x:Str}:∀{binds:List (Str×Value)}{m:MGz},(∀v,(x,v)∉binds)->bindL kindOf binds m x=m x
 |[],_,_=>rfl
 | (n,v)::r,m,h=>by
  unfold bindL;rw[IX λ w hw=>h w (List.mem_cons_of_mem _ hw)];split
  .have:x≠n:=by rintro rfl;exact h v List.mem_cons_self
   simp[this]
  .rfl
theorem IZ{kindOf:Str->Option NameKind}{x:Str}:∀{binds:List (Str×Value)}{m:MGz},(∀v,(x,v)∉binds)->bindC kindOf binds m x=m x
 |[],_,_=>rfl
 | (n,v)::r,m,h=>by
  unfold bindC;rw[IZ λ w hw=>h w (List.mem_cons_of_mem _ hw)];split
  .rfl
  .have:x≠n:=by rintro rfl;exact h v List.mem_cons_self
   simp[this]
theorem IY{kindOf:Str->Option NameKind}{x:Str}{v:Value}:∀{P:LSz}{vs:LWz}{i:Nat}{m:MGz},P.Nodup->P[i]?=some x->vs[i]?=some v->kindOf x=some .local ->
  bindL kindOf (P.zip vs) m x=some v
 |[],_,_,_,_,h,_,_=>by simp at h
 |_::_,[],_,_,_,_,h,_=>by simp at h
 |p::P,w::vs,0,m,nd,h1,h2,hk=>by
  simp at h1 h2;subst h1;subst h2;show bindL kindOf ((p,w)::P.zip vs) m p=_;unfold bindL;rw[IX λ v hv=>(List.nodup_cons.mp nd).1 (List.of_mem_zip hv).1,if_pos hk];simp
 |p::P,w::vs,i+1,m,nd,h1,h2,hk=>by
  show bindL kindOf ((p,w)::P.zip vs) m x=_;unfold bindL;exact IY (i:=i) (List.nodup_cons.mp nd).2 (by simpa using h1) (by simpa using h2) hk
theorem Ja{kindOf:Str->Option NameKind}{x:Str}{v:Value}:∀{P:LSz}{vs:LWz}{i:Nat}{m:MGz},P.Nodup->P[i]?=some x->vs[i]?=some v->kindOf x≠some .local ->
  bindC kindOf (P.zip vs) m x=some v
 |[],_,_,_,_,h,_,_=>by simp at h
 |_::_,[],_,_,_,_,h,_=>by simp at h
 |p::P,w::vs,0,m,nd,h1,h2,hk=>by
  simp at h1 h2;subst h1;subst h2;show bindC kindOf ((p,w)::P.zip vs) m p=_;unfold bindC;rw[IZ λ v hv=>(List.nodup_cons.mp nd).1 (List.of_mem_zip hv).1,if_neg hk];simp
 |p::P,w::vs,i+1,m,nd,h1,h2,hk=>by
  show bindC kindOf ((p,w)::P.zip vs) m x=_;unfold bindC;exact Ja (i:=i) (List.nodup_cons.mp nd).2 (by simpa using h1) (by simpa using h2) hk
def BV(N:LSz)(vs:LUz):St:=vs.map some++List.replicate (N.length-vs.length) none
def B8(CX:CXT)(P:Program)(w:World)(K:Frag)(mg:MGz)(base:Heap)(N:LSz)(qual:Str)(scope:Scope)(f:Addr)(cd:Value)(A:Around)(outer:List Env)(s:Shared)(H:Hp)(E:XK):Cx where
 prog:=P
 w:=w
 K:=K
 mg:=mg
 base:=base
 A:=A.deeper (envOfC qual scope s.heap.objs.size f cd)
 N:=N
 s₀:=s
 H₀:=H
 env:=envOfC qual scope s.heap.objs.size f cd
 outer:=outer
 stack:=envOfC qual scope s.heap.objs.size f cd::outer
 ex:=[]
 calm:=true
 fn:=λ_=>true
 pn:=[]
 xe:=λ e s'=>wpAny (model P w) (A.deeper (envOfC qual scope s.heap.objs.size f cd)) (leaving (envOfC qual scope s.heap.objs.size f cd) e) (λ_ s''=>CX outer H s E e s'') (λ e' s''=>CX outer H s E e' s'') s'
theorem LA{sc:Scope}{n:Nat}{x:Str}(h:sc.names.lookup x=some .cell):∃c,(cellsFrom n sc.names []).lookup x=some c:=by
 have q:=cellsFrom_some sc.names n [] (.inl h);exact Option.isSome_iff_exists.mp q
theorem IR{CX:CXT}{P:Program}{w:World}{K:Frag}{mg:MGz}{base:Heap}{N ps:LSz}{qual:Str}{scope:Scope}{f:Addr}{cd:Value}{A:Around}{outer:List Env}{s s1:Shared}{H:Hp}{E:XK}{us:LWz}{vs:LUz}
  (S:Ak N ps scope) (hd:A.handled=none) (e0:Env0 P w K mg base A outer s H) (hl:vs.length=ps.length) (r:Vals vs us)
  (x:InCallC s s.heap.objs.size (bindL (envOfC qual scope s.heap.objs.size f cd).kindOf (ps.zip us) λ_=>none) (cellsFrom (s.heap.objs.size+1) scope.names []) (bindC (envOfC qual scope s.heap.objs.size f cd).kindOf (ps.zip us) λ_=>none) s1) :
  Inv (B8 CX P w K mg base N qual scope f cd A outer s H E) [] (BV N vs) H s1:=by
 have hpl:ps.length<=N.length:=by have:=congrArg List.length S.pre;rw[List.length_take]at this;lia
 obtain⟨h1,tk,rfl,hk⟩:=x.done;have noA:∀b:Addr,b∉(B8 CX P w K mg base N qual scope f cd A outer s H E).ex:=λ b z=>absurd (show b∈([]:List Addr) from z) (by simp);refine⟨⟨e0.mod,S.kind,rfl,rfl,Nat.le_refl _,λ y z c h1 h2=>?_,λ y hy=>?_,λ y c _ h=>?_,λ_=>hd,Around.frames_deeper e0.frames,.inr ⟨rfl,rfl⟩,λ b z=>absurd z (noA b),e0.bs,e0.bsz,λ b _ _=>noA b,λ b z=>absurd z (noA b),e0.funs,e0.frf⟩,
  rfl,e0.bare,Un.kept hk,⟨_,x.toInCall.ns,λ i y v h1 h2 h3=>?_⟩,λ y c h=>⟨_,x.cell y c h⟩,e0.hok.fresh (Nat.le_refl _),λ y c h=>?_,λ p hp=>absurd (show p∈([]:PNz) from hp) (by simp),e0.hok.kept hk,?_⟩
 .exact name_of_addr x.apart (PySem.mem_of_lookup h1) (PySem.mem_of_lookup h2)
 .have hy:scope.names.lookup y=some .cell\/scope.names.lookup y=some .free:=hy;rcases hy with hy|hy
  .exact LA hy
  .exact absurd rfl (S.nofree _ (PySem.mem_of_lookup hy))
 .exact Nat.le_of_lt (x.above y c (PySem.mem_of_lookup h))
 .have hi:i<vs.length:=by
   unfold BV at h2;by_cases hi:i<vs.length
   .exact hi
   .rw[List.getElem?_append_right (by simpa using hi)]at h2;rw[List.getElem?_replicate]at h2;split at h2<;>cases h2
  have ha:vs[i]?=some v:=by
   unfold BV at h2;rw[List.getElem?_append_left (by simpa using hi),List.getElem?_map]at h2;cases e:vs[i]? with
   |none=>rw[e]at h2;cases h2
   |some a=>rw[e]at h2;cases h2;rfl
  obtain⟨u,hu,rv⟩:=r.get ha;have hp:ps[i]?=some y:=by
   rw[<-S.pre,List.getElem?_take_of_lt (by lia)];exact h1
  have ndP:ps.Nodup:=by rw[<-S.pre];exact S.nd.sublist (List.take_sublist _ _)
  refine⟨u,rv,?_⟩;rcases S.par y (List.mem_of_getElem? hp) with k|k
  .exact .inl ⟨k,IY ndP hp hu k⟩
  .obtain⟨c,e⟩:=LA (n:=s.heap.objs.size+1) k;refine .inr ⟨.inl k,c,e,?_⟩;have q:=x.cell y c e;rw[Ja ndP hp hu (by show scope.names.lookup y≠_;rw[k];decide)]at q;exact q
 .exact e0.hok.fresh (Nat.le_of_lt (x.above y c (PySem.mem_of_lookup h)))
 .unfold BV;show _=N.length;rw[List.length_append,List.length_map,List.length_replicate];lia
theorem NQ{CX:CXT}{P:Program}{w:World}{K:Frag}{mg:MGz}{base:Heap}{k:Nat}{f:Addr}{name qual:Str}{params:Arguments}{body:List Stmt}{scope:Scope}{dV kV doc pm cdv ct oc:Value}{an od:Option Addr}
  {osl:AOz} {N ps:LSz} {sp:Sp} (lk:K.lookup f=some ⟨oc,od,.func (fnOf name qual params body scope dV kV doc pm an cdv ct),osl⟩) (hcd:codeIn K cdv qual=true) (S:Ak N ps scope)
  (len:∀vs H Q E,sp vs H Q E->vs.length=ps.length)
  (hbody:∀(A:Around)(outer:List Env)(s:Shared)(H:Hp)(vs:LUz)(Q:VK)(E:XK),Room k (A.deeper (envOfC qual scope s.heap.objs.size f cdv))->sp vs H Q E ->
   ∃t,PSs (B8 CX P w K mg base N qual scope f cdv A outer s H E) body t/\t { nx:=λ_ H'=>Q .non H',rt:=Q } (BV N vs) H) :
  A5 P w K mg base CX (k+1) f (fnOf name qual params body scope dV kV doc pm an cdv ct) ps sp:=by
 refine⟨len,λ A outer s H args us vs Q E hr e0 hb r hsp=>?_⟩;have hl:=len _ _ _ _ hsp;have KX:K.In s.heap:=e0.mod.kin.keeps λ b o e=>(e0.bs b o e).1;have lim:s.heap.NoLimit:=e0.mod.nolimit.keeps λ b o e=>(e0.bs b o e).1;have hkind:∀y∈ps.zip us,scope.names.lookup y.1=some .local\/(scope.names.lookup y.1=some .cell/\((cellsFrom (s.heap.objs.size+1) scope.names []).lookup y.1).isSome=true):=λ⟨n,v⟩ hy=>by
  rcases S.par n (List.of_mem_zip hy).1 with q|q
  .exact .inl q
  .exact .inr ⟨q,cellsFrom_some _ _ _ (.inl q)⟩
 refine codeAny_call_function hr.depth (KX _ _ lk) rfl S.co S.gen rfl (codeRec_of KX hcd) (hb _ _ _ _ ?_);refine wpAny_newFunctionEnv_cells S.kind hkind λ env he s1 x=>?_;subst he;refine⟨lim.keeps x.toInCall.keep,codeAny_func ?_⟩;obtain⟨t,ht,hq⟩:=hbody A outer s H vs Q E (hr.deeper _) hsp;have I:Inv (B8 CX P w K mg base N qual scope f cdv A outer s H E) [] (BV N vs) H s1:=IR S hr.hd e0 hl r x;refine wpAny_mono (ht [] s1 (BV N vs) H _ I hq) (λ fl s' hs=>?_) λ e s' hs=>hs;have fin:∀{σ':St}{H':Hp}{v:V}{u:Value},Inv (B8 CX P w K mg base N qual scope f cdv A outer s H E) [] σ' H' s'->RelV v u->Q v H'->CE outer P w H s Q u s' :=
  λ{σ' H' v u} J rv q=>⟨v,H',J.os,J.bare,J.base,J.hok,rv,q⟩
 cases fl with
 |ret u =>
  obtain⟨v,σ',H',J,rv,q⟩:=hs;exact fin J rv q
 |next =>
  obtain⟨σ',H',J,q⟩:=hs;exact fin (v:=V.non) (u:=Value.none) J rfl q
 |brk =>
  obtain⟨_,_,_,q⟩:=hs;exact False.elim q
 |cont =>
  obtain⟨_,_,_,q⟩:=hs;exact False.elim q
section
variable{X:Cx}{x:Str}{p pos:Pos}{e:Expr}{es:List Expr}{t:TA}{id T:String}{r:LUz->Hp->VK->Prop}
def tCB(r:LUz->Hp->VK->Prop)(t:TA):TE:=λ σ H Q=>t σ H λ vs H1=>r vs H1 Q
theorem A0(hc:D5 X (.builtin id) r)(hg:Gl X x)(hm:X.mg x=none)(hv:bootBuiltins x=some (.builtin id))(ha:PA X (e::es) t)(hn:x≠"__name__":=by decide)(hdb:(x==("__debug__":Str))=false:=by decide)
  (he:starEach (e::es) X.env=(false,eval e X.env)::starEach es X.env:=by rfl) (hpl:(backTo pos (starEach es X.env)).any (·.1)=false:=by rfl):PE X (.Call (.Name x p) (e::es) [] pos) (tCB r t):=by
 intro pins s σ H Q I h;refine wpAny_Call_Name_kw (DL I hg hm hv ?_ hn hdb);exact PyProof.Rows.callWith_builtin1 (thn (ha pos pins s σ H _ I h) λ us s1 ⟨vs,H1,I1,r1,q1⟩=>hc pins s1 σ H1 vs us Q I1 r1 q1) he hpl
theorem IE(hc:D5 X (.type T) r)(hg:Gl X x)(hm:X.mg x=none)(hv:bootBuiltins x=some (.type T))(ha:PA X (e::es) t)(hn:x≠"__name__":=by decide)(hdb:(x==("__debug__":Str))=false:=by decide)
  (he:starEach (e::es) X.env=(false,eval e X.env)::starEach es X.env:=by rfl) (hpl:(backTo pos (starEach es X.env)).any (·.1)=false:=by rfl):PE X (.Call (.Name x p) (e::es) [] pos) (tCB r t):=by
 intro pins s σ H Q I h;refine wpAny_Call_Name_kw (DL I hg hm hv ?_ hn hdb);exact PyProof.Rows.callWith_type1 (thn (ha pos pins s σ H _ I h) λ us s1 ⟨vs,H1,I1,r1,q1⟩=>hc pins s1 σ H1 vs us Q I1 r1 q1) he hpl
end
end L2
namespace HT
open PySem.W
open PySem PyProof.Rows
def lexLt:List Int->List Int->Bool
 |[],[]=>false
 |[],_::_=>true
 |_::_,[]=>false
 |x::xs,y::ys=>if x=y then lexLt xs ys else decide (x<y)
theorem lexLt_cons(x y:Int)(xs ys:List Int):lexLt (x::xs) (y::ys)=if x=y then lexLt xs ys else decide (x<y):=rfl
theorem lexLt_nil_nil:lexLt [] []=false:=rfl
section
variable{prog:Program}{w:World}{A:Around}{E:VPz}{s:Shared}
def sIx(n d:Nat):Option Int->Nat
 |none=>d
 |some v=>if v<0 then (v+(n:Int)).toNat else min v.toNat n
end
end HT
namespace L2
open PySem.W
open PySem PySem.Spec PyProof.Rows
abbrev TO:=St->Hp->(Option Int->Hp->Prop)->Prop
def PO(X:Cx)(e:Option Expr)(t:TO):Prop :=
 ∀(pins:PNz)(s:Shared)(σ:St)(H:Hp)(Q:Option Int->Hp->Prop),Inv X pins σ H s->t σ H Q ->
  wpAny (model X.prog X.w) X.A (evalPart e X.env) (λ u s'=>∃o H',Inv X pins σ H' s'/\IsPart u o/\Q o H') X.xe s
def QZ:TO:=λ_ H Q=>Q none H
def TL(t:TE):TO:=λ σ H Q=>t σ H λ x H1=>∃i,x=.int i/\Q (some i) H1
theorem GX{ns:List Int}:∀{us:LWz},Vals (ns.map V.int) us->IntsAre us ns:=by
 induction ns with
 |nil=>intro us r;rw[List.map_nil]at r;cases r;exact .nil
 |cons n ns ih =>
  intro us r;rw[List.map_cons]at r;cases r with
  |cons r1 r2 =>
   obtain⟨t,e⟩:=r1;subst e;exact .cons n t (ih r2)
section
variable{X:Cx}{e:Expr}{te:TE}{lo hi:Option Expr}{tl th:TO}{pos p2:Pos}
theorem C0:PO X none QZ:=by
 intro pins s σ H Q I h;rw[evalPart_none];exact wpAny_pure ⟨none,H,I,.none,h⟩
theorem Cz(h:PE X e te):PO X (some e) (TL te):=by
 intro pins s σ H Q I hw;rw[evalPart_some];refine thn (h pins s σ H _ I hw) λ u s1 hz_=>?_;obtain⟨x,H1,I1,r1,q1⟩:=hz_;obtain⟨i,rfl,q⟩:=q1;obtain⟨t,rfl⟩:=r1;exact⟨some i,H1,I1,.int i t,q⟩
def SlR(X:Cx)(r:V->Option Int->Option Int->Hp->VK->Prop):Prop :=
 ∀(pins:PNz)(s:Shared)(σ:St)(H:Hp)(x:V)(v vl vu:Value)(lo hi:Option Int)(sl:Addr)(Q:VK),Inv X pins σ H s->RelV x v->s.heap.IsSliceOf sl vl vu .none->IsPart vl lo->IsPart vu hi->r x lo hi H Q ->
  ∃T id,typeLookup (.type T) "__getitem__"=pure (some (.builtin id))/\s.TypeIs v T/\wpAny (model X.prog X.w) X.A (getItem v (.ref sl)) (EP X pins σ Q) X.xe s
def tSl(r:V->Option Int->Option Int->Hp->VK->Prop)(te:TE)(tl th:TO):TE:=λ σ H Q=>te σ H λ x H1=>tl σ H1 λ l H2=>th σ H2 λ u H3=>r x l u H3 Q
theorem BK{r:V->Option Int->Option Int->Hp->VK->Prop}(hr:SlR X r)(he:PE X e te)(hl:PO X lo tl)(hu:PO X hi th):PE X (.Subscript e (.Slice lo hi none p2) pos) (tSl r te tl th):=by
 intro pins s σ H Q I h;refine Subscript_ (thn (he pins s σ H _ I h) λ v s1 hz_=>?_);obtain⟨x,H1,I1,r1,q1⟩:=hz_;refine wpAny_Slice (thn (hl pins s1 σ H1 _ I1 q1) λ vl s2 hz_=>?_);obtain⟨l,H2,I2,pl,q2⟩:=hz_;refine thn (hu pins s2 σ H2 _ I2 q2) λ vu s3 hz_=>?_;obtain⟨u,H3,I3,pu,q3⟩:=hz_;rw[evalPart_none];refine wpAny_pure ?_;have I4:Inv X pins σ H3 { s3 with heap:=s3.heap.push { cls:=.type "slice",data:=.fields #[vl,vu,.none] } }:=I3.kept (t':=s3.toks) λ b ob q=>Heap.get?_push_of_some _ q;obtain⟨T,id,hT,ht,hg⟩:=hr pins { s3 with heap:=s3.heap.push { cls:=.type "slice",data:=.fields #[vl,vu,.none] } } σ H3 x v vl vu l u s3.heap.objs.size Q I4 r1 (Heap.IsSliceOf.new ..) pl pu q3;show wpAny (model X.prog X.w) X.A (subscriptTail e (.Slice lo hi none p2) v (.ref s3.heap.objs.size)) (EP X pins σ Q) X.xe { s3 with heap:=s3.heap.push { cls:=.type "slice",data:=.fields #[vl,vu,.none] } };exact tail_any (ops:=[.ref s3.heap.objs.size,v]) ht hT hg (by with_unfolding_all rfl)
def HX(xs:LUz)(lo hi:Option Int):LUz:=(xs.drop (HT.sIx xs.length 0 lo)).take (HT.sIx xs.length xs.length hi-HT.sIx xs.length 0 lo)
theorem L9(xs:LUz)(lo hi:Option Int):(HX xs lo hi).length<=xs.length:=by
 unfold HX;rw[List.length_take,List.length_drop];lia
end
def ixN(n:Nat)(i:Int):Option Nat:=if 0<=i then (if i<n then some i.toNat else none) else if -(n:Int)<=i then some (i+n).toNat else none
def atI{α:Type}(xs:List α)(i:Int):Option α:=(ixN xs.length i).bind λ j=>xs[j]?
theorem NH{n:Nat}{i:Int}{j:Nat}(h:ixN n i=some j):seqIndex? i n=some j/\j<n/\-(n:Int)<=i/\i<n:=by
 unfold ixN at h;by_cases h0:0<=i
 .rw[if_pos h0]at h;by_cases h1:i<n
  .rw[if_pos h1]at h;have e:i.toNat=j:=Option.some.inj h;exact⟨by rw[seqIndex_of h0 h1,e],by lia,by lia,h1⟩
  .rw[if_neg h1]at h;cases h
 .rw[if_neg h0]at h;by_cases h1:-(n:Int)<=i
  .rw[if_pos h1]at h;have e:(i+n).toNat=j:=Option.some.inj h;exact⟨by rw[seqIndex_neg (by lia) h1,e],by lia,h1,by lia⟩
  .rw[if_neg h1]at h;cases h
theorem Ob{α:Type}{xs:List α}{i:Int}{v:α}(h:atI xs i=some v):∃j,seqIndex? i xs.length=some j/\xs[j]?=some v/\j<xs.length/\-(xs.length:Int)<=i/\i<xs.length:=by
 unfold atI at h;cases e:ixN xs.length i with
 |none=>rw[e]at h;cases h
 |some j =>
  rw[e]at h;obtain⟨h1,h2,h3,h4⟩:=NH e;exact⟨j,h1,h,h2,h3,h4⟩
theorem Ee{α:Type}{xs:List α}{j:Nat}{v:α}(h:xs[j]?=some v):atI xs (j:Int)=some v:=by
 have hj:j<xs.length:=(List.getElem?_eq_some_iff.mp h).1;have e:ixN xs.length (j:Int)=some j:=by
  unfold ixN;rw[if_pos (by lia),if_pos (by lia)];simp
 unfold atI;rw[e];exact h
theorem LC{α:Type}(xs:List α)(v:α):atI (xs++[v]) (-1)=some v:=by
 have hl:(xs++[v]).length=xs.length+1:=by simp
 have e:ixN (xs++[v]).length (-1)=some xs.length:=by
  unfold ixN;rw[hl,if_neg (by decide),if_pos (by lia)];congr 1;lia
 unfold atI;rw[e];show(xs++[v])[xs.length]?=some v;simp
def Sg(b:Expr):Prop:=∀o i,subscripted b false o i=operate [o,i] (getItem o i)
def IxR(X:Cx)(r:R2):Prop :=
 ∀(value slice:Expr)(pins:PNz)(s:Shared)(σ:St)(H:Hp)(x y:V)(v u:Value)(Q:VK),Inv X pins σ H s->RelV x v->RelV y u->r x y H Q ->
  subscripted slice false v u=operate [v,u] (getItem v u)->wpAny (model X.prog X.w) X.A (subscriptTail value slice v u) (EP X pins σ Q) X.xe s
def MtR(X:Cx)(id:String)(r:V->LUz->Hp->VK->Prop):Prop :=
 ∀(pins:PNz)(s:Shared)(σ:St)(H:Hp)(x:V)(xs:LUz)(v:Value)(us:LWz)(Q:VK),Inv X pins σ H s->RelV x v->Vals xs us->r x xs H Q ->
  wpAny (model X.prog X.w) X.A (call (.builtin id) (v::us)) (EP X pins σ Q) X.xe s
section
variable{X:Cx}{a b:Expr}{ta tb:TE}{pos:Pos}
theorem An{r:R2}(hr:IxR X r)(ha:PE X a ta)(hb:PE X b tb)(hs:Sg b):PE X (.Subscript a b pos) (tOp r ta tb):=by
 intro pins s σ H Q I h;exact Subscript_ (T5 ha hb I h λ v u s2 x y H2 I2 rx ry q=>hr a b pins s2 σ H2 x y v u Q I2 rx ry q (hs _ _))
inductive UL(K:Frag)(x y:V)(H:Hp)(Q:VK):Prop
 |mk (p:Addr) (xs:LUz) (i:Int) (v:V) (e1:x=.ref p) (e2:y=.int i) (s:SqL K H p xs) (a:atI xs i=some v) (q:Q v H):UL K x y H Q
inductive UK(K:Frag)(x y:V)(H:Hp)(Q:VK):Prop
 |mk (p:Addr) (xs:LUz) (i:Int) (v:V) (e1:x=.ref p) (e2:y=.int i) (s:SqT K H p xs) (a:atI xs i=some v) (q:Q v H):UK K x y H Q
def Uh(K:Frag):R2:=λ x y H Q=>UL K x y H Q
def SS(K:Frag):R2:=λ x y H Q=>UK K x y H Q
theorem Bd:IxR X (Uh X.K):=by
 intro value slice pins s σ H x y v u Q I rx ry h hs;obtain⟨p,xs,i,z,rfl,rfl,hq,he,q⟩:=h;cases rx;obtain⟨t,rfl⟩:=ry;obtain⟨its,r,pl,hz⟩:=I.list hq;obtain⟨j,h1,h2,h3,h4,h5⟩:=Ob he;obtain⟨w,ew,rw'⟩:=r.get h2;have hl:=r.length;have hn:=GQ;have fin:EP X pins σ Q w s:=⟨z,H,I,rw',q⟩;by_cases h0:0<=i
 .have hj:i.toNat=j:=by
   rw[seqIndex_of h0 h5]at h1;exact Option.some.inj h1
  exact item_listR pl.isList h0 (by lia) (by rw[hj];simpa using ew) fin hs
 .have hj:(i+(its.toArray.size:Int)).toNat=j:=by
   rw[seqIndex_neg (by lia) h4]at h1;rw[List.size_toArray,<-hl];exact Option.some.inj h1
  exact subscriptTail_builtinR (x:=w) pl.isList.typeIs slot_list_getitem.lookup
   (wpAny_getItem_list_neg (Q:=λ r s'=>r=w/\EP X pins σ Q r s') pl.isList (by lia) (by rw[List.size_toArray]<;>lia) (by lia) (by rw[hj];simpa using ew) ⟨rfl,fin⟩) hs
theorem Al:IxR X (SS X.K):=by
 intro value slice pins s σ H x y v u Q I rx ry h hs;obtain⟨p,xs,i,z,rfl,rfl,hq,he,q⟩:=h;cases rx;obtain⟨t,rfl⟩:=ry;obtain⟨its,r,pl,hz⟩:=I.tuple hq;obtain⟨j,h1,h2,h3,h4,h5⟩:=Ob he;obtain⟨w,ew,rw'⟩:=r.get h2;have hl:=r.length;have hn:=GQ;have fin:EP X pins σ Q w s:=⟨z,H,I,rw',q⟩;exact subscriptTail_builtinR (x:=w) pl.typeIs slot_tuple_getitem.lookup
  (getItem_tuple (j:=j) (Q:=λ r s'=>r=w/\EP X pins σ Q r s') pl (by lia) (by lia) (by rw[List.size_toArray,<-hl];exact h1) (by simpa using ew) ⟨rfl,fin⟩) hs
theorem MB(its:LWz)(n j:Nat)(u:Value):Obj.mapSeq (·.setIfInBounds j u) { cls:=.type "list",data:=.seq its.toArray n }={ cls:=.type "list",data:=.seq (its.set j u).toArray n }:=by
 simp[Obj.mapSeq]
theorem Inv.lst{pins:PNz}{σ:St}{H:Hp}{s:Shared}{p:Addr}{xs:LUz}(I:Inv X pins σ H s)(h:H p=some (.lst xs)) :
  ∃(its:LWz)(n:Nat),Vals xs its/\s.heap.get? p=some { cls:=.type "list",data:=.seq its.toArray n }/\xs.length<=sizeLine:=by
 obtain⟨z,its,n,r,e⟩:=I.hok p _ h;exact⟨its,n,r,e,z⟩
theorem Inv.lstUpd{pins:PNz}{σ:St}{H:Hp}{s:Shared}{p:Addr}{xs ys:LUz}{its its':LWz}{n n':Nat}{f:Obj->Obj}(I:Inv X pins σ H s)(h:H p=some (.lst xs))
  (ho:s.heap.get? p=some { cls:=.type "list",data:=.seq its.toArray n }) (hf:f { cls:=.type "list",data:=.seq its.toArray n }={ cls:=.type "list",data:=.seq its'.toArray n' }) (r:Vals ys its') (hz:ys.length<=sizeLine) (t:Nat) :
  Inv X pins σ (upd H p (.lst ys)) { s with heap:=s.heap.update p f,toks:=t }:=by
 have e:(s.heap.update p f).get? p=some { cls:=.type "list",data:=.seq its'.toArray n' }:=by
  rw[Heap.get?_update_self f ho (by rw[hf]<;>rfl),hf]
 refine I.write (x:=p) (e:=p) (by rw[h];trivial) (.inl rfl) (λ b u hb q=>(Heap.get?_update_other _ _ (Ne.symm hb)).trans q) ⟨_,e⟩ ?_;exact⟨hz,its',n',r,e⟩
def Ug:V->V->V->Hp->(Hp->Prop)->Prop:=λ o i v H Q=>∃p xs k j,o=.ref p/\i=.int k/\H p=some (.lst xs)/\ixN xs.length k=some j/\Q (upd H p (.lst (xs.set j v)))
theorem K9:UH X Ug:=by
 intro pins s σ H o i v ov iv u Q I ro ri rv h;obtain⟨p,xs,k,j,rfl,rfl,hp,hj,q⟩:=h;cases ro;obtain⟨t,rfl⟩:=ri;obtain⟨its,n,r,ho,hz⟩:=I.lst hp;obtain⟨h1,h2,h3,h4⟩:=NH hj;have hl:=r.length;have hn:=GQ;have I':Inv X pins σ (upd H p (.lst (xs.set j v))) { s with heap:=s.heap.update p (Obj.mapSeq (·.setIfInBounds j u)) } :=
  I.lstUpd hp ho (MB its n j u) (r.set rv j) (by rw[List.length_set];exact hz) s.toks
 by_cases h0:0<=k
 .have hk:k.toNat=j:=by
   rw[seqIndex_of h0 h4]at h1;exact Option.some.inj h1
  exact ki_setAt ho h0 (by lia) (by rw[List.size_toArray,<-hl];exact h4) (by rw[hk];exact⟨_,I',q⟩)
 .have hk:(k+(its.toArray.size:Int)).toNat=j:=by
   rw[seqIndex_neg (by lia) h3]at h1;rw[List.size_toArray,<-hl];exact Option.some.inj h1
  exact ki_setBack ho (by lia) (by rw[List.size_toArray,<-hl];exact h3) (by lia) (by rw[hk];exact⟨_,I',q⟩)
theorem Jz(lo hi:Option Int)(n:Nat):(sliceBounds lo hi none n).1=((HT.sIx n 0 lo:Nat):Int)/\(sliceBounds lo hi none n).2.1=((HT.sIx n n hi:Nat):Int)/\(sliceBounds lo hi none n).2.2=1:=by
 refine⟨?_,?_,rfl⟩
 .cases lo with
  |none=>simp[sliceBounds,HT.sIx]
  |some i =>
   simp only[sliceBounds,HT.sIx,Option.getD_none,show(1:Int)>0 by decide,if_true];by_cases h:i<0
   .simp only[h,if_true]<;>lia
   .simp only[h,if_false]<;>lia
 .cases hi with
  |none=>simp[sliceBounds,HT.sIx]
  |some i =>
   simp only[sliceBounds,HT.sIx,Option.getD_none,show(1:Int)>0 by decide,if_true];by_cases h:i<0
   .simp only[h,if_true]<;>lia
   .simp only[h,if_false]<;>lia
theorem HK(its:LWz)(lo hi:Option Int):slicePick its.toArray lo hi none=((its.drop (HT.sIx its.length 0 lo)).take (HT.sIx its.length its.length hi-HT.sIx its.length 0 lo)).toArray:=by
 obtain⟨h1,h2,h3⟩:=Jz lo hi its.toArray.size;unfold slicePick;rw[h1,h2,h3];simp only[sliceRange_one,pick_run,List.size_toArray]<;>rfl
def Vj(K:Frag):V->Option Int->Option Int->Hp->VK->Prop:=λ x lo hi H Q=>∃a xs,x=.ref a/\SqL K H a xs/\∀p,H p=none->Q (.ref p) (upd H p (.lst (HX xs lo hi)))
theorem Cv:SlR X (Vj X.K):=by
 intro pins s σ H x v vl vu lo hi sl Q I rx hs pl pu h;obtain⟨a,xs,rfl,hx,q⟩:=h;cases rx;obtain⟨its,r,ht,hz⟩:=I.list hx;have hlen:=r.length;refine⟨"list",_,slot_list_getitem.lookup,ht.isList.typeIs,?_⟩;refine wpAny_getItem_list_slice ht.isList hs pl pu .none (by simp) ?_ (by rw[List.size_toArray]<;>lia);rw[HK,<-hlen];refine⟨.ref s.heap.objs.size,_,I.laid (t':=s.toks) (o:=.lst (HX xs lo hi)) (λ b ob q=>Heap.get?_push_of_some _ q) (Nat.le_refl _) ?_,rfl,q _ (I.hok.fresh (Nat.le_refl _))⟩;exact⟨Nat.le_trans (L9 xs lo hi) hz,_,0,(r.drop (HT.sIx xs.length 0 lo)).take (HT.sIx xs.length xs.length hi-HT.sIx xs.length 0 lo),Heap.get?_push_size _ rfl⟩
def Cn:V->Bool
 |.non=>true
 |.bl _=>true
 |.int _=>true
 |.str _=>true
 |_=>false
def eqV:V->V->Bool
 |.non,.non=>true
 |.bl a,.bl b=>a==b
 |.bl a,.int b=>(if a then 1 else 0)==b
 |.int a,.bl b=>a==(if b then 1 else 0)
 |.int a,.int b=>a==b
 |.str a,.str b=>a==b
 |_,_=>false
theorem MO{A:Around}{s:Shared}{y x:V}{u v:Value}(ry:RelV y u)(rx:RelV x v)(fy:Cn y=true)(fx:Cn x=true):SeqAt.EqAt A s u v (eqV y x):=by
 cases y with
 |non =>
  cases ry;cases x with
  |non=>cases rx;exact SeqAt.EqAt.same _
  |bl b=>cases rx;exact SeqAt.EqAt.none_bool b
  |int b=>obtain⟨t,rfl⟩:=rx;exact SeqAt.EqAt.none_int b t
  |str b=>obtain⟨t,rfl⟩:=rx;exact SeqAt.EqAt.none_str b t
  |_=>exact absurd (show false=true from fx) Bool.false_ne_true
 |bl a =>
  cases ry;cases x with
  |non=>cases rx;exact SeqAt.EqAt.bool_none a
  |bl b=>cases rx;exact SeqAt.EqAt.bool_bool a b
  |int b=>obtain⟨t,rfl⟩:=rx;exact SeqAt.EqAt.bool_int a b t
  |str b=>obtain⟨t,rfl⟩:=rx;exact SeqAt.EqAt.bool_str a b t
  |_=>exact absurd (show false=true from fx) Bool.false_ne_true
 |int a =>
  obtain⟨t',rfl⟩:=ry;cases x with
  |non=>cases rx;exact SeqAt.EqAt.int_none a t'
  |bl b=>cases rx;exact SeqAt.EqAt.int_bool a t' b
  |int b=>obtain⟨t,rfl⟩:=rx;exact SeqAt.EqAt.int_int a t' b t
  |str b=>obtain⟨t,rfl⟩:=rx;exact SeqAt.EqAt.int_str a t' b t
  |_=>exact absurd (show false=true from fx) Bool.false_ne_true
 |str a =>
  obtain⟨t',rfl⟩:=ry;cases x with
  |non=>cases rx;exact SeqAt.EqAt.str_none a t'
  |bl b=>cases rx;exact SeqAt.EqAt.str_bool a t' b
  |int b=>obtain⟨t,rfl⟩:=rx;exact SeqAt.EqAt.str_int a t' b t
  |str b=>obtain⟨t,rfl⟩:=rx;exact SeqAt.EqAt.str_str a t' b t
  |_=>exact absurd (show false=true from fx) Bool.false_ne_true
 |_=>exact absurd (show false=true from fy) Bool.false_ne_true
def eqU(x:V)(u:Value):Bool:=match u with
 |.none=>eqV .non x
 |.bool b=>eqV (.bl b) x
 |.int i _=>eqV (.int i) x
 |.str z _=>eqV (.str z) x
 |_=>false
theorem Q2{x y:V}{u:Value}(r:RelV y u)(f:Cn y=true):eqU x u=eqV y x:=by
 cases y with
 |non=>cases r;rfl
 |bl b=>cases r;rfl
 |int i=>obtain⟨t,rfl⟩:=r;rfl
 |str z=>obtain⟨t,rfl⟩:=r;rfl
 |_=>exact absurd (show false=true from f) Bool.false_ne_true
theorem EO{x:V}:∀{xs:LUz}{us:LWz},Vals xs us->xs.all Cn=true->us.any (eqU x)=xs.any λ y=>eqV y x
 |_,_,.nil,_=>rfl
 |y::xs,u::us,.cons r t,f=>by
  rw[List.all_cons,Bool.and_eq_true]at f;rw[List.any_cons,List.any_cons,Q2 r f.1,EO t f.2]
theorem DI{A:Around}{s:Shared}{x:V}{v:Value}(rx:RelV x v)(fx:Cn x=true):∀{xs:LUz}{us:LWz},Vals xs us->xs.all Cn=true->∀u∈us,SeqAt.EqAt A s u v (eqU x u)
 |_,_,.nil,_=>λ u hu=>by cases hu
 |y::xs,u::us,.cons r t,f=>λ u' hu=>by
  rw[List.all_cons,Bool.and_eq_true]at f;rcases List.mem_cons.mp hu with rfl|hu
  .rw[Q2 r f.1];exact MO r rx f.1 fx
  .exact DI rx fx t f.2 u' hu
def inV(x:V)(xs:LUz):Bool:=xs.any λ y=>eqV y x
def rIn(K:Frag)(neg:Bool):R2:=λ x y H Q=>∃p xs,y=.ref p/\(SqL K H p xs\/SqT K H p xs)/\Cn x=true/\xs.all Cn=true/\Q (.bl (if neg then !inV x xs else inV x xs)) H
theorem IF:OpR X (compareOp .In) (rIn X.K false):=by
 intro pins s σ H x y v u Q I rx ry h;obtain⟨p,xs,rfl,hq,fx,fs,q⟩:=h;cases ry;rcases hq with hq|hq
 .obtain⟨its,r,pl,hz⟩:=I.list hq;refine SeqAt.in_listAt (eqU x) pl.isList (λ w hw=>DI rx fx r fs w (by simpa using hw)) ⟨.bl _,H,I,rfl,?_⟩;rw[show its.toArray.any (eqU x)=its.any (eqU x) by simp,EO r fs];exact q
 .obtain⟨its,r,pl,hz⟩:=I.tuple hq;refine SeqAt.in_tupleAt (eqU x) pl (λ w hw=>DI rx fx r fs w (by simpa using hw)) ⟨.bl _,H,I,rfl,?_⟩;rw[show its.toArray.any (eqU x)=its.any (eqU x) by simp,EO r fs];exact q
theorem JG:OpR X (compareOp .NotIn) (rIn X.K true):=by
 intro pins s σ H x y v u Q I rx ry h;obtain⟨p,xs,rfl,hq,fx,fs,q⟩:=h;cases ry;rcases hq with hq|hq
 .obtain⟨its,r,pl,hz⟩:=I.list hq;refine SeqAt.notIn_listAt (eqU x) pl.isList (λ w hw=>DI rx fx r fs w (by simpa using hw)) ⟨.bl _,H,I,rfl,?_⟩;rw[show its.toArray.any (eqU x)=its.any (eqU x) by simp,EO r fs];exact q
 .obtain⟨its,r,pl,hz⟩:=I.tuple hq;refine SeqAt.notIn_tupleAt (eqU x) pl (λ w hw=>DI rx fx r fs w (by simpa using hw)) ⟨.bl _,H,I,rfl,?_⟩;rw[show its.toArray.any (eqU x)=its.any (eqU x) by simp,EO r fs];exact q
theorem AA:D5 X (.builtin "len") (λ xs H Q=>∃p ys,xs=[.ref p]/\(SqL X.K H p ys\/SqT X.K H p ys)/\Q (.int ys.length) H):=by
 intro pins s σ H xs us Q I r h;obtain⟨p,ys,rfl,hq,q⟩:=h;obtain⟨u,rfl,rx⟩:=F4 r;cases rx;have hn:=GQ;rcases hq with hq|hq
 .obtain⟨its,r',pl,hz⟩:=I.list hq;have hlen:=r'.length;exact Calls.call_len_list pl.isList (by simp only[List.size_toArray]<;>lia) ⟨.int ys.length,H,I.tok _,⟨s.toks+1,by rw[List.size_toArray,hlen]⟩,q⟩
 .obtain⟨its,r',pl,hz⟩:=I.tuple hq;have hlen:=r'.length;exact len_tuple pl (by simp only[List.size_toArray]<;>lia) ⟨.int ys.length,H,I.tok _,⟨s.toks+1,by rw[List.size_toArray,hlen]⟩,q⟩
theorem Kl:D5 X (.type "list") (λ xs H Q=>∃p ys,xs=[.ref p]/\(SqL X.K H p ys\/SqT X.K H p ys)/\∀l,H l=none->Q (.ref l) (upd H l (.lst ys))):=by
 intro pins s σ H xs us Q I r h;obtain⟨p,ys,rfl,hq,q⟩:=h;obtain⟨u,rfl,rx⟩:=F4 r;cases rx;have fin:∀(its:LWz),Vals ys its->ys.length<=sizeLine->∀(h':Heap)(c':Nat),(∀b o',s.heap.get? b=some o'->h'.get? b=some o') ->
   h'.get? s.heap.objs.size=some { cls:=.type "list",dict:=none,data:=.seq its.toArray c',slots:=#[] }->EP X pins σ Q (.ref s.heap.objs.size) { s with heap:=h' }:=λ its r' hz h' c' kp e =>
  ⟨.ref s.heap.objs.size,_,I.laid (t':=s.toks) kp (Nat.le_refl _) (show ObjOk X.prog X.w _ h' _ (.lst ys) from ⟨hz,its,c',r',e⟩),rfl,q _ (I.hok.fresh (Nat.le_refl _))⟩
 rcases hq with hq|hq
 .obtain⟨its,r',pl,hz⟩:=I.list hq;have hlen:=r'.length;obtain⟨o,ho,hc,n,hd⟩:=pl.isList;exact call_list_seq p (.inl rfl) ho hc hd (λ h' c' kp e=>fin its r' hz h' c' kp e) (by simp only[List.size_toArray]<;>lia)
 .obtain⟨its,r',pl,hz⟩:=I.tuple hq;have hlen:=r'.length;obtain⟨o,ho,hc,n,hd⟩:=pl;exact call_list_seq p (.inr rfl) ho hc hd (λ h' c' kp e=>fin its r' hz h' c' kp e) (by simp only[List.size_toArray]<;>lia)
theorem Ia:D5 X (.type "tuple") (λ xs H Q=>∃p ys,xs=[.ref p]/\((SqL X.K H p ys/\∀l,H l=none->Q (.ref l) (upd H l (.tup ys)))\/(SqT X.K H p ys/\Q (.ref p) H))):=by
 intro pins s σ H xs us Q I r h;obtain⟨p,ys,rfl,h⟩:=h;obtain⟨u,rfl,rx⟩:=F4 r;cases rx;rcases h with ⟨hq,q⟩|⟨hq,q⟩
 .obtain⟨its,r',pl,hz⟩:=I.list hq;have hlen:=r'.length;refine call_tuple_list pl.isList (λ h' kp=>?_) (by simp only[List.size_toArray]<;>lia);have I1:Inv X pins σ H { s with heap:=h' }:=I.kept (t':=s.toks) kp;have I2:Inv X pins σ (upd H h'.objs.size (.tup ys)) { s with heap:=h'.push { cls:=.type "tuple",data:=.seq its.toArray } } :=
   I1.laid (t':=s.toks) (λ b o e=>Heap.get?_push_of_some _ e) (Nat.le_refl _) (show ObjOk X.prog X.w _ _ _ (.tup ys) from ⟨hz,its,r',IsTup.new _ _⟩)
  exact⟨.ref h'.objs.size,_,I2,rfl,q _ (I1.hok.fresh (Nat.le_refl _))⟩
 .obtain⟨its,r',pl,hz⟩:=I.tuple hq;exact call_tuple_same pl ⟨.ref p,H,I,rfl,q⟩
def tyV(K:Frag)(T:String)(x:V)(H:Hp):Prop:=match x with
 |.str _=>T="str"
 |.int _=>T="int"
 |.ref p=>(T="list"/\∃xs,SqL K H p xs)\/(T="tuple"/\∃o,K.lookup p=some o/\o.cls=.type "tuple"/\o.dict=none) \/
   (T="dict"/\((∃kvs,H p=some (.dK kvs))\/∃kvs,H p=some (.dT kvs)))\/(T="set"/\∃S n,H p=some (.set S n))
 |_=>False
theorem Pk{pins:PNz}{σ:St}{H:Hp}{s:Shared}{T:String}{x:V}{v:Value}(I:Inv X pins σ H s)(r:RelV x v)(ty:tyV X.K T x H) :
  s.TypeIs v T/\∀a,v=.ref a->∃ob,s.heap.get? a=some ob/\ob.dict=none:=by
 cases x with
 |str z =>
  obtain⟨t,rfl⟩:=r;cases(show T="str" from ty);exact⟨typeIs_str s z t,λ_ e=>nomatch e⟩
 |int i =>
  obtain⟨t,rfl⟩:=r;cases(show T="int" from ty);exact⟨typeIs_int s i t,λ_ e=>nomatch e⟩
 |ref p =>
  cases r;rcases ty with ⟨rfl,xs,hq⟩|⟨rfl,o,hk,hc,hd⟩|⟨rfl,hk⟩|⟨rfl,S,n,hk⟩
  .obtain⟨its,_,pl,_⟩:=I.list hq;refine⟨pl.isList.typeIs,λ a e=>?_⟩;cases e;obtain⟨o,n,e,c,hd,_⟩:=pl;exact⟨o,e,hd⟩
  .refine⟨⟨o,I.kIn p o hk,hc⟩,λ a e=>?_⟩;cases e;exact⟨o,I.kIn _ o hk,hd⟩
  .have z:∃o,s.heap.get? p=some o/\o.ExactDict:=by
    rcases hk with ⟨kvs,hk⟩|⟨kvs,hk⟩
    .obtain⟨_,_,_,_,o,_,_,e,ex,_⟩:=I.hok p _ hk;exact⟨o,e,ex⟩
    .obtain⟨_,_,_,_,o,_,_,e,ex,_⟩:=I.hok p _ hk;exact⟨o,e,ex⟩
   obtain⟨o,e,ex⟩:=z;refine⟨⟨o,e,ex.1⟩,λ a e2=>?_⟩;cases e2;exact⟨o,e,ex.2.1⟩
  .obtain⟨o,_,_,_,e,ex,_⟩:=I.hok p _ hk;refine⟨⟨o,e,ex.1⟩,λ a e2=>?_⟩;cases e2;exact⟨o,e,ex.2.1⟩
 |_=>exact False.elim ty
def Vd(K:Frag)(T:String)(r:V->LUz->Hp->VK->Prop)(to:TE):TE:=λ σ H Q=>to σ H λ x H1=>tyV K T x H1/\r x [] H1 Q
def tBM(K:Frag)(T:String)(r:V->LUz->Hp->VK->Prop)(to:TE)(t:TA):TE:=λ σ H Q=>to σ H λ x H1=>tyV K T x H1/\t σ H1 λ xs H2=>r x xs H2 Q
variable{o e:Expr}{es:List Expr}{to:TE}{t:TA}{name:Str}{apos cpos:Pos}{T id:String}{r:V->LUz->Hp->VK->Prop}
theorem Fj(pa:PlainAttrs T)(slot:Slot T name id)(hty:typeOf (.builtin id)=pure (.type "method_descriptor"))(hm:MtR X id r)(ho:PE X o to)
  (hbase:attributeBase o name X.env (eval o X.env)=eval o X.env:=by rfl) (hline:(apos.endLine==cpos.line)=true:=by rfl):PE X (.Call (.Attribute o name apos) [] [] cpos) (Vd X.K T r to):=by
 intro pins s σ H Q I h;refine wpAny_Call_method0_late hbase hline (thn (ho pins s σ H _ I h) λ v s1 hz_=>?_);obtain⟨x,H1,I1,r1,ty,q1⟩:=hz_;obtain⟨h1,h2⟩:=Pk I1 r1 ty;exact⟨T,id,pa,slot,hty,h1,h2,Calls.callWith_builtin rfl (PySem.evalArgs_none (hm pins s1 σ H1 x [] v [] Q I1 r1 .nil q1))⟩
theorem BW(pa:PlainAttrs T)(slot:Slot T name id)(hty:typeOf (.builtin id)=pure (.type "method_descriptor"))(hm:MtR X id r)(ho:PE X o to)(ha:PA X (e::es) t)
  (hbase:attributeBase o name X.env (eval o X.env)=eval o X.env:=by rfl)
  (hfew:((backTo cpos (starEach (e::es) X.env)).all (λ x=>!x.1)&&(backToKw cpos (keywordEach [] X.env)).all (λ x=>x.1.isSome)
  &&decide ((e::es).length+([]:List Keyword).length+(if ([]:List Keyword).isEmpty then 0 else 1)<30))=true:=by rfl)
  (hline:(apos.endLine==cpos.line)=true:=by rfl) (hs:starEach (e::es) X.env=(false,eval e X.env)::starEach es X.env:=by rfl) (hplain:(backTo cpos (starEach es X.env)).any (·.1)=false:=by rfl) :
  PE X (.Call (.Attribute o name apos) (e::es) [] cpos) (tBM X.K T r to t):=by
 intro pins s σ H Q I h;refine wpAny_Call_method_late hbase hfew hline rfl (thn (ho pins s σ H _ I h) λ v s1 hz_=>?_);obtain⟨x,H1,I1,r1,ty,q1⟩:=hz_;obtain⟨h1,h2⟩:=Pk I1 r1 ty;refine⟨T,id,pa,slot,hty,h1,h2,?_⟩;have hA:=ha cpos pins s1 σ H1 _ I1 q1;rw[hs]at hA |-;refine Calls.callWith_builtin (by show(false||(backTo cpos (starEach es X.env)).any (·.1))=false;rw[hplain]<;>rfl) (Calls.evalArgs_plain ?_);exact thn hA λ us s2 ⟨vs,H2,I2,r2,q2⟩=>hm pins s2 σ H2 x vs v us Q I2 r1 r2 q2
/- xs.append(e),list.index on a module's tuple .. are MtR facts of 06m -/
end
def MtM(X:Cx)(id:String)(r:V->LUz->Hp->VK->Prop):Prop :=
 ∀(pins:PNz)(s:Shared)(σ:St)(H:Hp)(x:V)(xs:LUz)(v:Value)(us:LWz)(Q:VK),Inv X pins σ H s->RelV x v->Vals xs us->r x xs H Q ->
  wpAny (model X.prog X.w) X.A (call (.builtin id) (v::us)) (EP X pins σ Q) X.xe s
theorem Vals.one:∀{x:V}{us:LWz},Vals [x] us->∃u,us=[u]/\RelV x u
 |_,_,.cons r .nil=>⟨_,rfl,r⟩
theorem Vals.zero:∀{us:LWz},Vals [] us->us=[]
 |_,.nil=>rfl
theorem Vals.dropLast{xs:LUz}{us:LWz}(h:Vals xs us):Vals xs.dropLast us.dropLast:=by
 induction h with
 |nil=>exact .nil
 |cons r t ih =>
  cases t with
  |nil=>exact .nil
  |cons q t'=>exact .cons r ih
theorem MN{α:Type}(l:List α):l.eraseIdx (l.length-1)=l.dropLast:=by
 induction l with
 |nil=>rfl
 |cons a r ih =>
  cases r with
  |nil=>rfl
  |cons b r =>
   have e:(a::b::r).length-1=((b::r).length-1)+1:=by
    have h1:(a::b::r).length=r.length+2:=rfl;have h2:(b::r).length=r.length+1:=rfl;lia
   rw[e,List.eraseIdx_cons_succ,ih]
   all_goals rfl
section
variable{X:Cx}{pins:PNz}{σ:St}{H:Hp}{s:Shared}{l b:Addr}{xs ys zs:LUz}
theorem Inv.lset{its its':LWz}{n:Nat}{f:Array Value->Array Value}{t':Nat}(I:Inv X pins σ H s)(hH:H l=some (.lst xs))
  (e:s.heap.get? l=some { cls:=.type "list",data:=.seq its.toArray n }) (hf:f its.toArray=its'.toArray) (hv:Vals ys its') (hz:ys.length<=sizeLine) :
  Inv X pins σ (upd H l (.lst ys)) { s with heap:=s.heap.update l (Obj.mapSeq f),toks:=t' }:=by
 have q:=PySem.IsL.update e f;rw[hf]at q;refine I.write (x:=l) (e:=l) (by rw[hH];exact trivial) (.inl rfl) (λ b' u hb hu=>(Heap.get?_update_other s.heap (Obj.mapSeq f) (Ne.symm hb)).trans hu) ⟨_,q⟩ ?_;exact⟨hz,its',_,hv,q⟩
theorem Inv.lnew{its:LWz}{t':Nat}(I:Inv X pins σ H s)(hv:Vals ys its)(hz:ys.length<=sizeLine) :
  Inv X pins σ (upd H s.heap.objs.size (.lst ys)) { s with heap:=s.heap.push { cls:=.type "list",data:=.seq its.toArray },toks:=t' } :=
 I.laid (λ_ _ q=>Heap.get?_push_of_some _ q) (Nat.le_refl _) ⟨hz,its,0,hv,Heap.get?_push_size _ rfl⟩
theorem Inv.fresh(I:Inv X pins σ H s):H s.heap.objs.size=none:=I.hok.fresh (Nat.le_refl _)
theorem Inv.lstM(I:Inv X pins σ H s)(hH:H l=some (.lst xs)):xs.length<=sizeLine/\∃(its:LWz)(n:Nat),Vals xs its/\xs.length=its.length/\s.heap.get? l=some { cls:=.type "list",data:=.seq its.toArray n }:=by
 obtain⟨z,its,n,r,e⟩:=I.hok l _ hH;exact⟨z,its,n,r,r.length,e⟩
theorem PZ{n:Nat}(h:n<=sizeLine):Builtin.List.listTooLong n=false:=by
 unfold Builtin.List.listTooLong;exact decide_eq_false (by lia)
end
section
variable{X:Cx}
def Rv:V->LUz->Hp->VK->Prop:=λ x vs H Q=>∃l xs y,x=.ref l/\vs=[y]/\H l=some (.lst xs)/\xs.length<sizeLine/\Q .non (upd H l (.lst (xs++[y])))
theorem AG:MtM X "list.append" Rv:=by
 intro pins s σ H x vs v us Q I rx rv h;obtain⟨l,xs,y,rfl,rfl,hH,hz,q⟩:=h;cases rx;obtain⟨u,rfl,ru⟩:=rv.one;obtain⟨z,its,n,r,hl,e⟩:=I.lstM hH;refine call_meets F.slot_list_append ⟨_,e,rfl⟩ F.entry_list_append (F.args_list_append_2 _ _) (PySem.list_append l its.toArray n u (by rw[List.size_toArray];lia)) ⟨e,?_⟩;refine⟨.non,_,I.lset (its':=its++[u]) hH e (by simp) (r.append (.cons ru .nil)) ?_,rfl,q⟩;rw[List.length_append,List.length_singleton];lia
def Ru:V->LUz->Hp->VK->Prop:=λ x vs H Q=>∃l b xs zs,x=.ref l/\vs=[.ref b]/\H l=some (.lst xs)/\H b=some (.lst zs)/\xs.length+zs.length<=sizeLine/\Q .non (upd H l (.lst (xs++zs)))
theorem OD:MtM X "list.extend" Ru:=by
 intro pins s σ H x vs v us Q I rx rv h;obtain⟨l,b,xs,zs,rfl,rfl,hH,hB,hz,q⟩:=h;cases rx;obtain⟨u,rfl,ru⟩:=rv.one;cases ru;obtain⟨z,its,n,r,hl,e⟩:=I.lstM hH;obtain⟨z2,its2,n2,r2,hl2,e2⟩:=I.lstM hB;have hsz:its.toArray.size+its2.toArray.size<=sizeLine:=by rw[List.size_toArray,List.size_toArray];lia
 have hlong:¬(!its.toArray.isEmpty&&Builtin.List.listTooLong (its.toArray.size+its2.toArray.size))=true:=by
  rw[PZ hsz,Bool.and_false];exact Bool.false_ne_true
 refine call_meets F.slot_list_extend ⟨_,e,rfl⟩ F.entry_list_extend (F.args_list_extend_2 _ _)
  (AutoSeq1.list_extend_list_list_0 l its.toArray n b its2.toArray n2 hlong (by rw[List.size_toArray];lia) (by lia)) ⟨e,e2,?_⟩
 refine⟨.non,_,I.lset (its':=its++its2) hH e (by simp) (r.append r2) ?_,rfl,q⟩;rw[List.length_append];lia
def Vk:V->LUz->Hp->VK->Prop:=λ x vs H Q=>∃l xs y,x=.ref l/\vs=[]/\H l=some (.lst xs)/\xs[xs.length-1]?=some y/\Q y (upd H l (.lst xs.dropLast))
theorem Fo:MtM X "list.pop" Vk:=by
 intro pins s σ H x vs v us Q I rx rv h;obtain⟨l,xs,y,rfl,rfl,hH,hy,q⟩:=h;cases rx;have hus:=rv.zero;subst hus;obtain⟨z,its,n,r,hl,e⟩:=I.lstM hH;obtain⟨u,hu,ru⟩:=r.get hy;have hy':its.toArray[its.toArray.size-1]?=some u:=by
  show its.toArray[its.length-1]?=some u;rw[<-Array.getElem?_toList,<-hl];exact hu
 refine call_meets F.slot_list_pop ⟨_,e,rfl⟩ F.entry_list_pop (F.args_list_pop_1 _) (MeetsSeq.list_pop_last l its.toArray n u hy' (by rw[List.size_toArray];lia)) ⟨e,?_⟩;refine⟨y,_,I.lset (its':=its.dropLast) hH e ?_ r.dropLast ?_,ru,q⟩
 .show its.toArray.eraseIdxIfInBounds (its.toArray.size-1)=its.dropLast.toArray;rw[List.size_toArray,List.eraseIdxIfInBounds_toArray,MN]
 .rw[List.length_dropLast];lia
inductive UN(x y:V)(H:Hp)(Q:VK):Prop
 |mk (l b:Addr) (xs zs:LUz) (e1:x=.ref l) (e2:y=.ref b) (h1:H l=some (.lst xs)) (h2:H b=some (.lst zs)) (n:xs.length+zs.length<=sizeLine) (q:∀p,H p=none->Q (.ref p) (upd H p (.lst (xs++zs)))):UN x y H Q
def Vl:R2:=λ x y H Q=>UN x y H Q
theorem CM:OpR X (binaryOp .Add) Vl:=by
 intro pins s σ H x y v u Q I rx ry h;obtain⟨l,b,xs,zs,rfl,rfl,hH,hB,hz,q⟩:=h;cases rx;cases ry;obtain⟨z,its,n,r,hl,e⟩:=I.lstM hH;obtain⟨z2,its2,n2,r2,hl2,e2⟩:=I.lstM hB;refine PySem.P.add_list e e2 ?_ (by rw[List.size_toArray,List.size_toArray];lia);have ea:its.toArray++its2.toArray=(its++its2).toArray:=by simp
 rw[ea];exact⟨.ref _,_,I.lnew (t':=s.toks) (r.append r2) (by rw[List.length_append];lia),rfl,q _ I.fresh⟩
end
end L2
namespace Att
open PySem.W
open PySem PySem.Calls PyProof.Rows
theorem FR{P:Params}{h:Heap}:∀(ns:List Int)(vs:LWz),WellAll P h vs (ns.map WData.int)->IntsAre vs ns:=by
 intro ns
 induction ns with
 |nil =>
  intro vs w;rw[List.map_nil]at w;cases w;exact .nil
 |cons n ns ih =>
  intro vs w;rw[List.map_cons]at w;cases w with
  |cons a b =>
   cases a;exact .cons _ _ (ih _ b)
theorem Oy{l:OpenLaw}{n:Nat}(hn:l.most=some n){P:Params}{h:Heap}{args:List WData}{vals:LWz}
  (hpre:l.row.toRowW.claim.pre args=true) (hwl:WellAll P h vals args) :
  ∃a vs ns,vals=[Value.ref a]/\args=[WData.list (ns.map WData.int)]/\h.get? a=some { cls:=.type "list",data:=.seq vs.toArray }/\IntsAre vs ns/\ns.length<=n:=by
 have hsh:WShape.hasAll [] args [.list .int]=true:=(pre_splitW hpre).1;have hc:l.pre.holds [] { args:=args }=true:=(pre_splitW hpre).2;obtain⟨d,r,rfl,h1,h2⟩:=hasAllW_cons hsh;obtain rfl:=hasAllW_nil h2;obtain⟨xs,rfl,h3⟩:=hasW_list h1;obtain⟨ns,rfl⟩:=items_int h3;have hlen:ns.length<=n:=by
  unfold OpenLaw.pre at hc;have h4:(WTm.not (.lt (.lit (.int (n:Int))) (.len (.arg 0)))).holds [] { args:=[.list (ns.map .int)] }=true:=by
   have h4:=(holds_andW hc).1;rw[hn]at h4;exact h4
  have h5:=condW_of h4 (w_not (w_lt w_lit (w_len_list (w_arg rfl))));rw[List.length_map]at h5;refine Nat.le_of_not_lt λ q=>?_;have q':(n:Int)<((ns.length:Nat):Int):=by lia
  first
   | (rw[decide_eq_true q']at h5;exact absurd h5 (by decide))
   | (simp at h5;lia)
 cases hwl with
 |cons w1 w2 =>
  cases w2;cases w1 with
  |list ho hall=>exact⟨_,_,ns,rfl,rfl,ho,FR ns _ hall,hlen⟩
theorem O2(l:OpenLaw)(args:List WData):l.row.toRowW.claim.post args (.bool true) args=true :=
 postW_of (r:=l.row.toRowW) (X:=(true==true))
  (show WShape.has [] (.bool true) .bool=true by first|rfl|decide|simp[WShape.has,WShape.arms,WShape.armsAll])
  (show(WTm.eq .res (.lit (.bool true))).value [] { args:=args,res:=some (.bool true),after:=args }=some (.bool (true==true)) from w_eq_bool (w_res rfl) w_lit) rfl
theorem attach_call{l:OpenLaw}{n:Nat}{q:Program}{loose:LSz}{XP:(MGz)->Heap->Prop}{YP:World->Heap->Prop}{d:DefRec}
  (hn:l.most=some n) (hdf:d.params.defaults=[])
  (call:∀(w:World)(s₀ s₁:Shared)(mg mb:MGz)(fa:Addr)(o:Obj)(pm cd doc:Value)(a:Addr)(vs:LWz)(ns:List Int),
   Ground q loose [] XP w s₀ mg mb s₁.heap->YP w s₁.heap ->
   s₁.heap.get? fa=some o->o.data=.func (docDef d.name d.params d.body d.scope pm cd doc)->s₁.heap.CodeRec cd d.name->mg d.name=some (.ref fa) ->
   s₁.heap.get? a=some { cls:=.type "list",data:=.seq vs.toArray }->IntsAre vs ns->ns.length<=n->s₁.gens=#[] ->
   codeAny (model l.prog w) callerA (.call (.ref fa) ⟨[.ref a],[]⟩) (λ r s'=>r=.ok (.ret (.bool true))/\OldK s₁.heap s'.heap/\s'.os=s₁.os/\AllBare s'.gens) s₁) :
  WalkO q loose XP YP l.row.toRowW d [] (λ f vs=>PySem.call f vs):=by
 intro w s₀ s₁ mg mb G Y fa o pm cd doc dV kV ho hd hcd hD hmg hg args vals as hpre hlay hrd hwl hlo;obtain rfl:dV=.none:=Dflts.none hD hdf;obtain rfl:kV=.none:=Dflts.noKw hD;obtain⟨a,vs,ns,rfl,rfl,hobj,hints,hlen⟩:=Oy hn hpre hwl;refine enter_call (codeAny_mono (call w s₀ s₁ mg mb fa o pm cd doc a vs ns G Y ho (fd_plain hd) hcd hmg hobj hints hlen hg) λ r s' hq=>?_);obtain⟨rfl,h2,h3,h4⟩:=hq;exact⟨.inl ⟨.bool true,.bool true,[],rfl,λ_=>rfl,.bool true,O2 l _,λ_=>⟨List.Pairwise.nil,λ_ hm=>(nomatch hm)⟩⟩,h2,h3,h4⟩
end Att
namespace L2
open PySem.W
open PySem PySem.Spec PyProof.Rows
theorem Is:∀{vs:LWz}{ns:List Int},IntsAre vs ns->Vals (ns.map V.int) vs
 |_,_,.nil=>.nil
 |_,_,.cons n t h=>.cons ⟨t,rfl⟩ (Is h)
end L2
/- THE LAST THEOREM (shape;LID,My.* are yours):
  My.Adr: a structure of the addresses that your layer names (classes,functions);My.Txt K t: a structure (Prop) of the equations over K;
  My.txt_mk:{K} {implicit addresses ..} (e1:nsIn K mainGlobals "law"=some (some (.ref f))) (e2:K.lookup f=some ⟨oc,od,.func (fnOf "law" "law" params body scope dV kV doc pm an cdv ct),sl⟩) (e3:codeIn K cdv "law"=true) ..:∃t,My.Txt K t
set_option maxRecDepth 100000 in
set_option maxHeartbeats 0 in
theorem PySem.Challenge.cw_LID_holds:PySem.Challenge.rw_LID.Holds:=by
 w_on;o_law;k_head;(case hw=>w_witness2)
 k_fill
 refine L2.walk_of (l:=PySem.Challenge.rw_LID) (n:=63) (k:=40) (x:="script") (CX:=λ w=>..) (sp:=λ_=>My.sp_law) rfl (by decide) rfl ⟨rfl,by decide,by decide⟩ (λ w h Y=>kIn_of Y) ?F ?S ?C
 case F =>
  intro w mg fa h KX G hmg;have T:∃t,My.Txt (L2.KOf KX) t:=by
   dsimp only[L2.KOf]                          -- K must stand as «<heap const> w.params» for k_is;refine' My.txt_mk ?e1 ?e2 ?e3 ..
   (case e1=>k_is)                    -- in the order: a name -> its address -> its object -> its parts
   (case e2=>k_is)
   ..
  obtain⟨t,T⟩:=T;have e0:=hmg.symm.trans (mg_of KX G T.law);cases e0                                       -- fa is the law's own address;exact⟨_,λ s u=>.of_eq rfl,λ base kb nb=>My.law_fn T kb nb⟩     -- if «.of_eq rfl» comes too early: refine'⟨_,?b,λ base kb nb=>My.law_fn T kb nb⟩;exact λ s u=>.of_eq rfl
 case S=>exact λ w H a ns hl hO hS=>..
 case C=>exact ..
(the tactic k_is has no namespace: write k_is) -/
namespace L2
open PySem.W
open PySem PySem.Spec PyProof.Rows
def AB(s:Stmt)(j:Nat):Stmt:=match s with
 |.ClassDef _ _ _ body _ _ _ _ _ _ _=>body.getD j (.Pass ⟨0,0,0,0⟩)
 |_=>.Pass ⟨0,0,0,0⟩
def Be(s:Stmt):Arguments:=match s with
 |.FunctionDef _ a _ _ _ _ _ _ _ _=>a
 |_=>{ posonlyargs:=[],args:=[],vararg:=none,kwonlyargs:=[],kw_defaults:=[],kwarg:=none,defaults:=[] }
def AE(s:Stmt):List Stmt:=match s with
 |.FunctionDef _ _ b _ _ _ _ _ _ _=>b
 |_=>[]
def Ai(s:Stmt):Scope:=match s with
 |.FunctionDef _ _ _ _ _ _ sc _ _ _=>sc
 |_=>{ kind:=.function,names:=[],isGenerator:=false,isCoroutine:=false }
abbrev CX0:CXT:=λ_ _ _ _ _ _=>False
abbrev E0:XK:=λ_ _ _=>False
theorem G8{X:Cx}:DR CX0 X E0:=λ_ _ _ _ _ _ _ h=>h.elim
structure Fun(K:Frag)(x qual:Str)(st:Stmt)(f:Addr)(fd:FuncData):Prop where
 ex:∃(oc:Value)(od:Option Addr)(kV doc pm:Value)(an:Option Addr)(cdv ct:Value)(osl:AOz),
  fd=fnOf x qual (Be st) (AE st) (Ai st) .none kV doc pm an cdv ct/\K.lookup f=some ⟨oc,od,.func fd,osl⟩/\codeIn K cdv qual=true
 kp:keepIn K (.ref f)=true
section
variable{P:Program}{w:World}{K:Frag}{mg:MGz}{base:Heap}
theorem Fun.ok{x qual:Str}{st:Stmt}{f:Addr}{fd:FuncData}{N ps:LSz}{k:Nat}{sp:Sp}(F:Fun K x qual st f fd)(S:Ak N ps (Ai st))(len:∀vs H Q E,sp vs H Q E->vs.length=ps.length)
  (hbody:∀(cdv:Value)(A:Around)(outer:List Env)(s:Shared)(H:Hp)(vs:LUz)(Q:VK)(E:XK),Room k (A.deeper (envOfC qual (Ai st) s.heap.objs.size f cdv))->sp vs H Q E ->
   ∃t,PSs (B8 CX0 P w K mg base N qual (Ai st) f cdv A outer s H E).nox (AE st) t/\t { nx:=λ_ H'=>Q .non H',rt:=Q } (BV N vs) H):A5 P w K mg base CX0 (k+1) f fd ps sp:=by
 obtain⟨oc,od,kV,doc,pm,an,cdv,ct,osl,rfl,lk,hcd⟩:=F.ex;refine NQ lk hcd S len λ A outer s H vs Q E hr hsp=>?_;obtain⟨t,h,q⟩:=hbody cdv A outer s H vs Q E hr hsp;exact⟨t,h.nox,q⟩
theorem Fun.binds{x qual:Str}{st:Stmt}{f:Addr}{fd:FuncData}{ps:LSz}(F:Fun K x qual st f fd)
  (h:∀(kV doc pm:Value)(an:Option Addr)(cdv ct:Value)(us:LWz),us.length=ps.length->bindArgs (fnOf x qual (Be st) (AE st) (Ai st) .none kV doc pm an cdv ct) ⟨us,[]⟩=pure (ps.zip us)):Binds K fd ps []:=by
 obtain⟨oc,od,kV,doc,pm,an,cdv,ct,osl,rfl,lk,hcd⟩:=F.ex;exact .all (h kV doc pm an cdv ct)
end
theorem Qn{A:Around}{k:Nat}(hr:Room k A):A.units+1<cLine:=Nat.lt_of_le_of_lt (Nat.add_le_add_left (by decide:1<=64) _) hr.units
theorem Am{n:Nat}(h:n<=1000):n<sizeLine:=Nat.lt_of_le_of_lt h (by decide)
section
variable{X:Cx}
theorem pv(i:Nat){x:Str}{pos:Pos}(hN:X.N[i]?=some x:=by rfl)(hv:Vis X.env.scope x:=by first|exact Or.inl rfl|exact Or.inr (Or.inl rfl)|exact Or.inr (Or.inr rfl))(hd:(x==("__debug__":Str))=false:=by decide)
  (hcd:(x==("__classdict__":Str))=false:=by decide):PE X (.Name x pos) (SI i):=SU hN hv hd hcd
end
theorem Qh{A B:Prop}(h:B):if false=true then A else B:=by
 rw[if_neg Bool.false_ne_true];exact h
theorem Tn{A B:Prop}(h:A):if true=true then A else B:=by
 rw[if_pos rfl];exact h
def Same(H H':Hp):Prop:=∀b o,H b=some o->H' b=some o
theorem Same.refl(H:Hp):Same H H:=λ_ _ h=>h
theorem Same.trans{H H1 H2:Hp}(a:Same H H1)(b:Same H1 H2):Same H H2:=λ c o h=>b c o (a c o h)
theorem Same.seq{K:Frag}{H H':Hp}{a:Addr}{xs:LUz}(e:Same H H')(h:SqL K H a xs):SqL K H' a xs:=by
 rcases h with (h|⟨o,h⟩)|h
 .exact .inl (.inl (e _ _ h))
 .exact .inl (.inr ⟨o,e _ _ h⟩)
 .exact .inr h
end L2
set_option maxHeartbeats 4000000
namespace L2
open PySem.W
open PySem PyProof.Rows
def II{α β:Type}(oS:Program->LSz->LSz->(Shared->Bool)->Bool->Shared->α)(ms:LSz)(p q:Program)(lo:LSz)(Xt:Shared->Bool)(Yf:Shared->β)(h0:Heap)(s:Shared):Bool×α×β :=
 ((((staticsOk ms h0 s.heap&&namesBound p s.heap)&&gensDone s)&&laidKept h0 s.heap),oS q lo ms Xt true s,Yf s)
noncomputable abbrev DQ(P:Params)(os:OsState):Shared:=Shared.mk (boot_heap P) (Array.mk []) boot_drawn boot_toks os
theorem OF{p q:Program}{lo:LSz}{Xt:Shared->Bool}{β:Type}{Yf:Shared->β}{Ya:World->β}{N m:Nat}{an:Option Value}
  (bo:∀w:World,Option.map (λ s=>(s.heap,s.gens,s.drawn,s.toks)) (fencedOpening treeTable p w N)=some (boot_heap w.params,Array.mk [],boot_drawn,boot_toks))
  (sz:∀w:World,((boot_heap w.params).isNs mainGlobals,(boot_heap w.params).objs.size,(boot_heap w.params).nsMap mainGlobals "__annotations__")=(true,m,an))
  (rn:∀(w:World)(os:OsState),Option.map (II openSeen (importedModules p.main.body) p q lo Xt Yf (boot_heap w.params)) (topRun treeTable p w m an N (DQ w.params os) (topStub p))=some (true,openGood q lo,Ya w)) :
  LeftO p q lo Xt Yf Ya N:=by
 intro w;obtain⟨s0,e0,e1⟩:=Option.map_eq_some_iff.mp (bo w);obtain⟨hp,gs,dr,tk,os⟩:=s0;simp only[Prod.mk.injEq]at e1;obtain⟨rfl,rfl,rfl,rfl⟩:=e1;have z:=sz w;simp only[Prod.mk.injEq]at z;obtain⟨z1,z2,z3⟩:=z;obtain⟨s1,r1,r2⟩:=Option.map_eq_some_iff.mp (rn w os);unfold II at r2;simp only[Prod.mk.injEq]at r2;obtain⟨l1,l2,l3⟩:=r2;have tf:topFrom treeTable p w N (DQ w.params os)=some s1:=by
  unfold topFrom;dsimp only;rw[z1,z2,z3];show Option.bind (topRun treeTable p w m an N (DQ w.params os) (topStub p)) _=_;rw[r1];show(match (((staticsOk (importedModules p.main.body) (boot_heap w.params) s1.heap&&namesBound p s1.heap)&&gensDone s1)&&laidKept (boot_heap w.params) s1.heap) with|true=>some s1|false=>none)=_;rw[l1]
 unfold openEnds;rw[e0];show Option.map _ (topFrom treeTable p w N (DQ w.params os))=_;rw[tf];exact congrArg some (Prod.ext l2 l3)
def Pn:List Obj->Nat->BT->BT
 |[],_,t=>t
 |o::r,i,t=>Pn r (i+1) (t.ins i o)
def B9(ok:Thread->Bool)(stp:SharedT->Thread->Option (SharedT×Thread)):Nat->SharedT->Thread->Option SharedT
 |0,_,_=>none
 |n+1,s,t=>match through t with
  |true=>some s
  |false=>match ok t with
   |false=>none
   |true=>match stp s t with
    |some (s1,t1)=>B9 ok stp n s1 t1
    |none=>none
theorem Go{tb:String->Option Builtin}{p:Program}{w:World}{m:Nat}{an:Option Value}:∀{n:Nat}{s s1:SharedT}{t:Thread},B9 (stepOk m an) (stepT (denote tb) p w) n s t=some s1->topRun tb p w m an n s.abs t=some s1.abs
 |0,_,_,_,h=>by cases h
 |n+1,s,s1,t,h=>by
  rw[B9]at h;rw[topRun];cases ht:through t with
  |true=>rw[ht]at h;cases h;rfl
  |false =>
   rw[ht]at h;cases hk:stepOk m an t with
   |false=>rw[hk]at h;cases h
   |true =>
    rw[hk]at h;cases hs:stepT (denote tb) p w s t with
    |none=>rw[hs]at h;cases h
    |some r =>
     obtain⟨s2,t2⟩:=r;rw[hs]at h;rw[stepT_spec hs];exact Go h
noncomputable def U8(P:Params):BT:=Pn (boot_heap P).objs.toList 0 .nil
noncomputable def C6(P:Params)(os:OsState):SharedT:=SharedT.mk (U8 P) 11 (boot_heap P).life (Array.mk []) boot_drawn boot_toks os
theorem QD(P:Params)(os:OsState):(C6 P os).abs=DQ P os:=by kernel_rfl
theorem SR{p q:Program}{lo ms:LSz}{Xt:Shared->Bool}{α β:Type}{Yf:Shared->β}{N m:Nat}{an:Option Value}{w:World}{os:OsState}{r:Bool×α×β}{oS:Program->LSz->LSz->(Shared->Bool)->Bool->Shared->α}
  (h:Option.map (λ s=>II oS ms p q lo Xt Yf (boot_heap w.params) (SharedT.abs s)) (B9 (stepOk m an) (stepT (denote treeTable) p w) N (C6 w.params os) (topStub p))=some r) :
  Option.map (II oS ms p q lo Xt Yf (boot_heap w.params)) (topRun treeTable p w m an N (DQ w.params os) (topStub p))=some r:=by
 obtain⟨s,e,z⟩:=Option.map_eq_some_iff.mp h;have e:=Go e;rw[QD]at e;rw[e];exact congrArg some z
theorem Ur{σ α β:Type}{r:Option σ}{f:σ->Bool}{g:σ->α}{k:σ->β}{a:α}{b:β}(h1:r.map f=some true)(h2:r.map g=some a)(h3:r.map k=some b):r.map (λ s=>(f s,g s,k s))=some (true,a,b):=by
 cases r with
 |none=>cases h1
 |some s =>
  have e1:=Option.some.inj h1;have e2:=Option.some.inj h2;have e3:=Option.some.inj h3;exact congrArg some (Prod.ext e1 (Prod.ext e2 e3))
def Uq(ms:LSz)(p:Program)(h0:Heap)(s:Shared):Bool:=(((staticsOk ms h0 s.heap&&namesBound p s.heap)&&gensDone s)&&laidKept h0 s.heap)
def UG(N m:Nat)(an:Option Value){p p':Program}{sT:(Code->Sem Fin)->Program->World->SharedT->Thread->Option (SharedT×Thread)}{dn:(String->Option Builtin)->Code->Sem Fin}{tT:String->Option Builtin}{iM:List Stmt->LSz}{oS:∀(q:Program)(lo ms:LSz)(Xt:Shared->Bool)(g0:Bool)(s:Shared),_}(h1:@stepT=sT)(h0:@denote=dn)(h2:treeTable=tT)(h3:@importedModules=iM)(h4:@openSeen=oS)(h5:p=p'):Prop:=∀(w:World)(os:OsState),Option.map (λ s=>Uq (iM p'.main.body) p' (boot_heap w.params) (SharedT.abs s)) (B9 (stepOk m an) (sT (dn tT) p' w) N (C6 w.params os) (topStub p'))=some true
def RunB(N m:Nat)(an:Option Value)(q:Program->Program)(lo:LSz)(Xt:Program->Shared->Bool){p p':Program}{sT:(Code->Sem Fin)->Program->World->SharedT->Thread->Option (SharedT×Thread)}{dn:(String->Option Builtin)->Code->Sem Fin}{tT:String->Option Builtin}{iM:List Stmt->LSz}{oS:∀(q:Program)(lo ms:LSz)(Xt:Shared->Bool)(g0:Bool)(s:Shared),_}(h1:@stepT=sT)(h0:@denote=dn)(h2:treeTable=tT)(h3:@importedModules=iM)(h4:@openSeen=oS)(h5:p=p'):Prop:=∀(w:World)(os:OsState),Option.map (λ s=>oS (q p') lo (iM p'.main.body) (Xt p') true (SharedT.abs s)) (B9 (stepOk m an) (sT (dn tT) p' w) N (C6 w.params os) (topStub p'))=some (openGood (q p') lo)
def UF(N m:Nat)(an:Option Value){β:Type}(Yf:Shared->β)(Ya:World->β){p p':Program}{sT:(Code->Sem Fin)->Program->World->SharedT->Thread->Option (SharedT×Thread)}{dn:(String->Option Builtin)->Code->Sem Fin}{tT:String->Option Builtin}{iM:List Stmt->LSz}{oS:∀(q:Program)(lo ms:LSz)(Xt:Shared->Bool)(g0:Bool)(s:Shared),_}(h1:@stepT=sT)(h0:@denote=dn)(h2:treeTable=tT)(h3:@importedModules=iM)(h4:@openSeen=oS)(h5:p=p'):Prop:=∀(w:World)(os:OsState),Option.map (λ s=>Yf (SharedT.abs s)) (B9 (stepOk m an) (sT (dn tT) p' w) N (C6 w.params os) (topStub p'))=some (Ya w)
theorem Rs{q:Program->Program}{lo:LSz}{Xt:Program->Shared->Bool}{β:Type}{Yf:Shared->β}{Ya:World->β}{N m:Nat}{an:Option Value}{p p':Program}{sT:(Code->Sem Fin)->Program->World->SharedT->Thread->Option (SharedT×Thread)}{dn:(String->Option Builtin)->Code->Sem Fin}{tT:String->Option Builtin}{iM:List Stmt->LSz}{oS:∀(q:Program)(lo ms:LSz)(Xt:Shared->Bool)(g0:Bool)(s:Shared),_}{h1:@stepT=sT}{h0:@denote=dn}{h2:treeTable=tT}{h3:@importedModules=iM}{h4:@openSeen=oS}{h5:p=p'}
  (rA:UG N m an h1 h0 h2 h3 h4 h5) (rB:RunB N m an q lo Xt h1 h0 h2 h3 h4 h5) (rC:UF N m an Yf Ya h1 h0 h2 h3 h4 h5) :
  ∀(w:World)(os:OsState),Option.map (II openSeen (importedModules p.main.body) p (q p) lo (Xt p) Yf (boot_heap w.params)) (topRun treeTable p w m an N (DQ w.params os) (topStub p))=some (true,openGood (q p) lo,Ya w):=by
 subst h1 h0 h2 h3 h4 h5;exact λ w os=>SR (Ur (rA w os) (rB w os) (rC w os))
open PySem.Spec
def hookT(K:Hook)(Ts:List Addr):Hook :=
 ⟨K.α×List (Option Obj),λ s=>(K.obs s,Ts.map λ T=>s.heap.get? T),λ w=>(K.val w,Ts.map λ_=>some (tabObj #[])),λ w h=>K.says w h/\∀T∈Ts,h.get? T=some (tabObj #[]),
  λ w s e=>⟨K.of w s (Prod.mk.inj e).1,λ T hT=>by
   have e2:=(Prod.mk.inj e).2;have:=List.map_eq_map_iff.mp e2 T hT;exact this⟩,λ w h h' x k=>⟨K.keeps w h h' x.1 k,λ T hT=>k _ _ (x.2 T hT)⟩⟩
def S1(N m:Nat)(an:Option Value)(q:Program->Program)(lo:LSz)(Xt:Program->Shared->Bool){p p':Program}{sT:(Code->Sem Fin)->Program->World->SharedT->Thread->Option (SharedT×Thread)}{dn:(String->Option Builtin)->Code->Sem Fin}{tT:String->Option Builtin}{iM:List Stmt->LSz}{oS:∀(q:Program)(lo ms:LSz)(Xt:Shared->Bool)(g0:Bool)(s:Shared),_}(h1:@stepT=sT)(h0:@denote=dn)(h2:treeTable=tT)(h3:@importedModules=iM)(h4:@openSeen=oS)(h5:p=p'):Prop:=∀(w:World)(os:OsState),Option.map (λ s=>(oS (q p') lo (iM p'.main.body) (Xt p') true (SharedT.abs s)).1) (B9 (stepOk m an) (sT (dn tT) p' w) N (C6 w.params os) (topStub p'))=some ((openGood (q p') lo).1)
def S0(N m:Nat)(an:Option Value)(q:Program->Program)(lo:LSz)(Xt:Program->Shared->Bool){p p':Program}{sT:(Code->Sem Fin)->Program->World->SharedT->Thread->Option (SharedT×Thread)}{dn:(String->Option Builtin)->Code->Sem Fin}{tT:String->Option Builtin}{iM:List Stmt->LSz}{oS:∀(q:Program)(lo ms:LSz)(Xt:Shared->Bool)(g0:Bool)(s:Shared),_}(h1:@stepT=sT)(h0:@denote=dn)(h2:treeTable=tT)(h3:@importedModules=iM)(h4:@openSeen=oS)(h5:p=p'):Prop:=∀(w:World)(os:OsState),Option.map (λ s=>((oS (q p') lo (iM p'.main.body) (Xt p') true (SharedT.abs s)).2.1,(oS (q p') lo (iM p'.main.body) (Xt p') true (SharedT.abs s)).2.2.1,(oS (q p') lo (iM p'.main.body) (Xt p') true (SharedT.abs s)).2.2.2.1,(oS (q p') lo (iM p'.main.body) (Xt p') true (SharedT.abs s)).2.2.2.2.1)) (B9 (stepOk m an) (sT (dn tT) p' w) N (C6 w.params os) (topStub p'))=some (((openGood (q p') lo).2.1,(openGood (q p') lo).2.2.1,(openGood (q p') lo).2.2.2.1,(openGood (q p') lo).2.2.2.2.1))
def Sz(N m:Nat)(an:Option Value)(q:Program->Program)(lo:LSz)(Xt:Program->Shared->Bool){p p':Program}{sT:(Code->Sem Fin)->Program->World->SharedT->Thread->Option (SharedT×Thread)}{dn:(String->Option Builtin)->Code->Sem Fin}{tT:String->Option Builtin}{iM:List Stmt->LSz}{oS:∀(q:Program)(lo ms:LSz)(Xt:Shared->Bool)(g0:Bool)(s:Shared),_}(h1:@stepT=sT)(h0:@denote=dn)(h2:treeTable=tT)(h3:@importedModules=iM)(h4:@openSeen=oS)(h5:p=p'):Prop:=∀(w:World)(os:OsState),Option.map (λ s=>(oS (q p') lo (iM p'.main.body) (Xt p') true (SharedT.abs s)).2.2.2.2.2) (B9 (stepOk m an) (sT (dn tT) p' w) N (C6 w.params os) (topStub p'))=some ((openGood (q p') lo).2.2.2.2.2)
theorem RunB.of3{N m:Nat}{an:Option Value}{q:Program->Program}{lo:LSz}{Xt:Program->Shared->Bool}{p p':Program}{sT:(Code->Sem Fin)->Program->World->SharedT->Thread->Option (SharedT×Thread)}{dn:(String->Option Builtin)->Code->Sem Fin}{tT:String->Option Builtin}{iM:List Stmt->LSz}{oS:∀(q:Program)(lo ms:LSz)(Xt:Shared->Bool)(g0:Bool)(s:Shared),_}{h1:@stepT=sT}{h0:@denote=dn}{h2:treeTable=tT}{h3:@importedModules=iM}{h4:@openSeen=oS}{h5:p=p'}(r1:S1 N m an q lo Xt h1 h0 h2 h3 h4 h5)(r2:S0 N m an q lo Xt h1 h0 h2 h3 h4 h5)(r3:Sz N m an q lo Xt h1 h0 h2 h3 h4 h5):RunB N m an q lo Xt h1 h0 h2 h3 h4 h5:=λ w os=>by
 have e1:=r1 w os;have e2:=r2 w os;have e3:=r3 w os;show Option.map _ _=_;generalize B9 _ _ _ _ _=r at e1 e2 e3 |-;cases r with
 |none=>cases e1
 |some s =>
  have e1:=Option.some.inj e1;have e2:=Option.some.inj e2;have e3:=Option.some.inj e3;have a:=congrArg Prod.fst e2;have b:=congrArg (λ x=>x.2.1) e2;have c:=congrArg (λ x=>x.2.2.1) e2;have d:=congrArg (λ x=>x.2.2.2) e2;exact congrArg some (Prod.ext e1 (Prod.ext a (Prod.ext b (Prod.ext c (Prod.ext d e3)))))
end L2
namespace KH
open PySem.W
open PySem PyProof.Rows L2
noncomputable def top(i:Nat):Stmt:=PySem.Challenge.pw_glazebench_k24_whole_cut_panels_have_tre.main.body.getD i (.Pass ⟨0,0,0,0⟩)
noncomputable def kE(P:Params)(x:Str)(t:Tok)(v:Value):DictEntry:=⟨PyData.keyHash P x,.str x t,v⟩
noncomputable abbrev fo(a b:Str)(e:Stmt)(d m:Value)(c:Addr):Obj:=⟨(.type "function"),none,(.func (fnOf a b (Be e) (AE e) (Ai e) d .none .none m none (.ref c) .none)),#[]⟩
noncomputable abbrev cp(a b:Str)(t u v:Tok)(l n:Int)(r:Addr)(i:Int)(p:Addr)(q x y:Value)(j k:Int)(z:Tok):Obj:=⟨(.type "code"),none,(.fields #[(.str a t),(.str b u),(.str "/claim/cut.py" v),(.int l 0),(.int n 0),(.int (0) 0),(.int (0) 0),(.int (3) 0),(.ref r),(.bool true),(.int i 0),(.ref p),.none,q,x,y,(.int j 0),(.int k 0),(.str "/claim/cut.py" z)]),#[]⟩
noncomputable abbrev co(a b:Str)(t u v:Tok)(l n:Int)(r:Addr)(i:Int)(p q x y:Addr)(j k:Int)(z:Tok):Obj:=⟨(.type "code"),none,(.fields #[(.str a t),(.str b u),(.str "/claim/cut.py" v),(.int l 0),(.int n 0),(.int (0) 0),(.int (0) 0),(.int (3) 0),(.ref r),(.bool true),(.int i 0),(.ref p),.none,(.ref q),(.ref x),(.ref y),(.int j 0),(.int k 0),(.str "/claim/cut.py" z)]),#[]⟩
noncomputable def KK:Params->Frag:=λ P=>(nat_lit 2,⟨.none,none,(.dict #[] 0),#[]⟩)::(nat_lit 3,⟨(.type "dict"),none,(.dict #[kE P "__name__" 165 (.str "law_glazebench_k24_whole_cut_panels_have_tre" 1004),kE P "__doc__" 166 .none,kE P "__package__" 167 .none,kE P "__loader__" 168 (.builtin "__main__.__loader__#opaque"),kE P "__spec__" 169 .none,kE P "__annotations__" 170 (.ref 6),kE P "__builtins__" 171 (.ref 4),kE P "__file__" 173 (.str "/claim/cut.py" 172),kE P "__cached__" 174 .none,kE P "_wall" 193 (.ref 21),kE P "GlassError" 213 (.ref 31),kE P "NoSide" 238 (.ref 51),kE P "TooMany" 263 (.ref 70),kE P "NoPane" 288 (.ref 89),kE P "Overlap" 313 (.ref 108),kE P "Bare" 338 (.ref 127),kE P "NoCut" 363 (.ref 146),kE P "NoBlock" 388 (.ref 165),kE P "Stuck" 417 (.ref 184),kE P "LONGEST_SIDE" 421 (.int (12) 420),kE P "MOST_PANES" 423 (.int (52) 422),kE P "is_whole" 430 (.ref 193),kE P "is_side" 437 (.ref 200),kE P "is_rectangle" 443 (.ref 205),kE P "inside" 452 (.ref 212),kE P "squares_of" 462 (.ref 219),kE P "check_sides" 471 (.ref 226),kE P "check_panes" 481 (.ref 233),kE P "panes_by_square" 492 (.ref 240),kE P "check_covered" 501 (.ref 247),kE P "Panel" 553 (.ref 281),kE P "TOP" 557 (.int (0) 556),kE P "LEFT" 559 (.int (1) 558),kE P "apart" 568 (.ref 292),kE P "is_block" 574 (.ref 297),kE P "check_block" 582 (.ref 304),kE P "panes_in" 588 (.ref 309),kE P "line_breaks" 597 (.ref 316),kE P "goes_through" 603 (.ref 321),kE P "lines_through" 609 (.ref 326),kE P "WHOLE" 613 (.str "whole" 612),kE P "UPRIGHT_cuts" 615 (.str "upright" 614),kE P "LEVEL_cuts" 617 (.str "level" 616),kE P "Tree" 673 (.ref 367),kE P "Whole" 698 (.ref 389),kE P "Upright" 727 (.ref 408),kE P "Level" 756 (.ref 427),kE P "kind_of" 763 (.ref 436),kE P "entry_of" 771 (.ref 443),kE P "entries_of" 781 (.ref 450),kE P "cut_from" 791 (.ref 457),kE P "tree_from" 803 (.ref 464),kE P "entries_by" 815 (.ref 471),kE P "turned_word" 822 (.ref 478),kE P "check_cut" 832 (.ref 485),kE P "first_piece" 841 (.ref 492),kE P "other_piece" 850 (.ref 499),kE P "cut_out" 864 (.ref 506),kE P "pieces" 873 (.ref 513),kE P "LEVEL_leads" 877 (.str "level" 876),kE P "UPRIGHT_leads" 879 (.str "upright" 878),kE P "runs" 889 (.ref 520),kE P "columns_parted" 895 (.ref 525),kE P "rows_parted" 901 (.ref 530),kE P "level_leads" 913 (.ref 537),kE P "upright_leads" 919 (.ref 542),kE P "leads" 928 (.ref 549),kE P "lies_on" 936 (.ref 556),kE P "turn" 942 (.ref 561),kE P "ROOM" 946 (.str "room" 945),kE P "entry_for" 952 (.ref 566),kE P "cut_up" 961 (.ref 573),kE P "pane_broken" 967 (.ref 578),kE P "breaks_of" 980 (.ref 585),kE P "one_longer" 991 (.ref 592),kE P "four_that_turn" 997 (.ref 597),kE P "tree_of" 1003 (.ref 602),kE P "_law_purse" 1014 (.ref 609),kE P "_law_take" 1023 (.ref 616),kE P "_law_wheel" 1029 (.ref 621),kE P "_law_cut_up" 1049 (.ref 628),kE P "_law_asked" 1059 (.ref 635),kE P "_law_right" 1065 (.ref 640),kE P "law" 1079 (.ref 647)] 84),#[]⟩)::(nat_lit 20,co "_wall" "_wall" 187 188 189 1 1 15 181 16 17 18 19 191 1 192)::(nat_lit 21,fo "_wall" "_wall" (top 0) .none (.str "__main__" 164) 20)::(nat_lit 30,⟨(.type "dict"),none,(.dict #[kE P "__module__" 203 (.str "glazebench.errors" 194),kE P "__firstlineno__" 207 (.int (5) 206),kE P "__static_attributes__" 208 (.ref 29),kE P "__weakref__" 210 (.ref 32),kE P "__doc__" 211 .none] 3),#[]⟩)::(nat_lit 31,⟨(.type "type"),none,(.cls { name:="GlassError",bases:=[(.type "ValueError")],mro:=[(.ref 31),(.type "ValueError"),(.type "Exception"),(.type "BaseException"),(.type "object")],ns:=30,qualname:="GlassError",hasDict:=true,slotNames:=[],subclasses:=[(.ref 51),(.ref 70),(.ref 89),(.ref 108),(.ref 127),(.ref 146),(.ref 165),(.ref 184)],abstract:=false,collection:=none,hasDel:=false }),#[some (.ref 22),none,some (.str "GlassError" 196),some (.str "GlassError" 204),some (.builtin "ValueError.__new__"),some (.bool true)]⟩)::(nat_lit 32,⟨(.type "getset_descriptor"),none,(.fields #[(.str "__weakref__" 209),(.ref 31),(.builtin "ExceptionGroup.__weakref__"),.none]),#[]⟩)::(nat_lit 47,co "__init__" "NoSide.__init__" 226 227 228 9 2 42 181 43 44 45 46 231 9 232)::(nat_lit 48,fo "__init__" "NoSide.__init__" (AB (top 3) 0) .none (.str "glazebench.errors" 194) 47)::(nat_lit 50,⟨(.type "dict"),none,(.dict #[kE P "__module__" 221 (.str "glazebench.errors" 194),kE P "__firstlineno__" 225 (.int (7) 224),kE P "__init__" 233 (.ref 48),kE P "__static_attributes__" 235 (.ref 49),kE P "__doc__" 236 .none] 2),#[]⟩)::(nat_lit 51,⟨(.type "type"),none,(.cls { name:="NoSide",bases:=[(.ref 31)],mro:=[(.ref 51),(.ref 31),(.type "ValueError"),(.type "Exception"),(.type "BaseException"),(.type "object")],ns:=50,qualname:="NoSide",hasDict:=true,slotNames:=[],subclasses:=[],abstract:=false,collection:=none,hasDel:=false }),#[some (.ref 35),none,some (.str "NoSide" 214),some (.str "NoSide" 222),some (.builtin "ValueError.__new__"),some (.bool true)]⟩)::(nat_lit 66,co "__init__" "TooMany.__init__" 251 252 253 13 2 61 181 62 63 64 65 256 13 257)::(nat_lit 67,fo "__init__" "TooMany.__init__" (AB (top 4) 0) .none (.str "glazebench.errors" 194) 66)::(nat_lit 69,⟨(.type "dict"),none,(.dict #[kE P "__module__" 246 (.str "glazebench.errors" 194),kE P "__firstlineno__" 250 (.int (11) 249),kE P "__init__" 258 (.ref 67),kE P "__static_attributes__" 260 (.ref 68),kE P "__doc__" 261 .none] 2),#[]⟩)::(nat_lit 70,⟨(.type "type"),none,(.cls { name:="TooMany",bases:=[(.ref 31)],mro:=[(.ref 70),(.ref 31),(.type "ValueError"),(.type "Exception"),(.type "BaseException"),(.type "object")],ns:=69,qualname:="TooMany",hasDict:=true,slotNames:=[],subclasses:=[],abstract:=false,collection:=none,hasDel:=false }),#[some (.ref 54),none,some (.str "TooMany" 239),some (.str "TooMany" 247),some (.builtin "ValueError.__new__"),some (.bool true)]⟩)::(nat_lit 85,co "__init__" "NoPane.__init__" 276 277 278 17 2 80 181 81 82 83 84 281 17 282)::(nat_lit 86,fo "__init__" "NoPane.__init__" (AB (top 5) 0) .none (.str "glazebench.errors" 194) 85)::(nat_lit 88,⟨(.type "dict"),none,(.dict #[kE P "__module__" 271 (.str "glazebench.errors" 194),kE P "__firstlineno__" 275 (.int (15) 274),kE P "__init__" 283 (.ref 86),kE P "__static_attributes__" 285 (.ref 87),kE P "__doc__" 286 .none] 2),#[]⟩)::(nat_lit 89,⟨(.type "type"),none,(.cls { name:="NoPane",bases:=[(.ref 31)],mro:=[(.ref 89),(.ref 31),(.type "ValueError"),(.type "Exception"),(.type "BaseException"),(.type "object")],ns:=88,qualname:="NoPane",hasDict:=true,slotNames:=[],subclasses:=[],abstract:=false,collection:=none,hasDel:=false }),#[some (.ref 73),none,some (.str "NoPane" 264),some (.str "NoPane" 272),some (.builtin "ValueError.__new__"),some (.bool true)]⟩)::(nat_lit 104,co "__init__" "Overlap.__init__" 301 302 303 21 2 99 181 100 101 102 103 306 21 307)::(nat_lit 105,fo "__init__" "Overlap.__init__" (AB (top 6) 0) .none (.str "glazebench.errors" 194) 104)::(nat_lit 107,⟨(.type "dict"),none,(.dict #[kE P "__module__" 296 (.str "glazebench.errors" 194),kE P "__firstlineno__" 300 (.int (19) 299),kE P "__init__" 308 (.ref 105),kE P "__static_attributes__" 310 (.ref 106),kE P "__doc__" 311 .none] 2),#[]⟩)::(nat_lit 108,⟨(.type "type"),none,(.cls { name:="Overlap",bases:=[(.ref 31)],mro:=[(.ref 108),(.ref 31),(.type "ValueError"),(.type "Exception"),(.type "BaseException"),(.type "object")],ns:=107,qualname:="Overlap",hasDict:=true,slotNames:=[],subclasses:=[],abstract:=false,collection:=none,hasDel:=false }),#[some (.ref 92),none,some (.str "Overlap" 289),some (.str "Overlap" 297),some (.builtin "ValueError.__new__"),some (.bool true)]⟩)::(nat_lit 123,co "__init__" "Bare.__init__" 326 327 328 25 2 118 181 119 120 121 122 331 25 332)::(nat_lit 124,fo "__init__" "Bare.__init__" (AB (top 7) 0) .none (.str "glazebench.errors" 194) 123)::(nat_lit 126,⟨(.type "dict"),none,(.dict #[kE P "__module__" 321 (.str "glazebench.errors" 194),kE P "__firstlineno__" 325 (.int (23) 324),kE P "__init__" 333 (.ref 124),kE P "__static_attributes__" 335 (.ref 125),kE P "__doc__" 336 .none] 2),#[]⟩)::(nat_lit 127,⟨(.type "type"),none,(.cls { name:="Bare",bases:=[(.ref 31)],mro:=[(.ref 127),(.ref 31),(.type "ValueError"),(.type "Exception"),(.type "BaseException"),(.type "object")],ns:=126,qualname:="Bare",hasDict:=true,slotNames:=[],subclasses:=[],abstract:=false,collection:=none,hasDel:=false }),#[some (.ref 111),none,some (.str "Bare" 314),some (.str "Bare" 322),some (.builtin "ValueError.__new__"),some (.bool true)]⟩)::(nat_lit 142,co "__init__" "NoCut.__init__" 351 352 353 29 2 137 181 138 139 140 141 356 29 357)::(nat_lit 143,fo "__init__" "NoCut.__init__" (AB (top 8) 0) .none (.str "glazebench.errors" 194) 142)::(nat_lit 145,⟨(.type "dict"),none,(.dict #[kE P "__module__" 346 (.str "glazebench.errors" 194),kE P "__firstlineno__" 350 (.int (27) 349),kE P "__init__" 358 (.ref 143),kE P "__static_attributes__" 360 (.ref 144),kE P "__doc__" 361 .none] 2),#[]⟩)::(nat_lit 146,⟨(.type "type"),none,(.cls { name:="NoCut",bases:=[(.ref 31)],mro:=[(.ref 146),(.ref 31),(.type "ValueError"),(.type "Exception"),(.type "BaseException"),(.type "object")],ns:=145,qualname:="NoCut",hasDict:=true,slotNames:=[],subclasses:=[],abstract:=false,collection:=none,hasDel:=false }),#[some (.ref 130),none,some (.str "NoCut" 339),some (.str "NoCut" 347),some (.builtin "ValueError.__new__"),some (.bool true)]⟩)::(nat_lit 161,co "__init__" "NoBlock.__init__" 376 377 378 33 2 156 181 157 158 159 160 381 33 382)::(nat_lit 162,fo "__init__" "NoBlock.__init__" (AB (top 9) 0) .none (.str "glazebench.errors" 194) 161)::(nat_lit 164,⟨(.type "dict"),none,(.dict #[kE P "__module__" 371 (.str "glazebench.errors" 194),kE P "__firstlineno__" 375 (.int (31) 374),kE P "__init__" 383 (.ref 162),kE P "__static_attributes__" 385 (.ref 163),kE P "__doc__" 386 .none] 2),#[]⟩)::(nat_lit 165,⟨(.type "type"),none,(.cls { name:="NoBlock",bases:=[(.ref 31)],mro:=[(.ref 165),(.ref 31),(.type "ValueError"),(.type "Exception"),(.type "BaseException"),(.type "object")],ns:=164,qualname:="NoBlock",hasDict:=true,slotNames:=[],subclasses:=[],abstract:=false,collection:=none,hasDel:=false }),#[some (.ref 149),none,some (.str "NoBlock" 364),some (.str "NoBlock" 372),some (.builtin "ValueError.__new__"),some (.bool true)]⟩)::(nat_lit 180,co "__init__" "Stuck.__init__" 401 402 403 37 4 175 181 176 177 178 179 408 37 409)::(nat_lit 181,fo "__init__" "Stuck.__init__" (AB (top 10) 0) .none (.str "glazebench.errors" 194) 180)::(nat_lit 183,⟨(.type "dict"),none,(.dict #[kE P "__module__" 396 (.str "glazebench.errors" 194),kE P "__firstlineno__" 400 (.int (35) 399),kE P "__init__" 410 (.ref 181),kE P "__static_attributes__" 414 (.ref 182),kE P "__doc__" 415 .none] 2),#[]⟩)::(nat_lit 184,⟨(.type "type"),none,(.cls { name:="Stuck",bases:=[(.ref 31)],mro:=[(.ref 184),(.ref 31),(.type "ValueError"),(.type "Exception"),(.type "BaseException"),(.type "object")],ns:=183,qualname:="Stuck",hasDict:=true,slotNames:=[],subclasses:=[],abstract:=false,collection:=none,hasDel:=false }),#[some (.ref 168),none,some (.str "Stuck" 389),some (.str "Stuck" 397),some (.builtin "ValueError.__new__"),some (.bool true)]⟩)::(nat_lit 192,co "is_whole" "is_whole" 424 425 426 44 1 187 181 188 189 190 191 428 44 429)::(nat_lit 193,fo "is_whole" "is_whole" (top 14) .none (.str "glazebench.panels" 418) 192)::(nat_lit 199,co "is_side" "is_side" 431 432 433 46 1 194 181 195 196 197 198 435 46 436)::(nat_lit 200,fo "is_side" "is_side" (top 15) .none (.str "glazebench.panels" 418) 199)::(nat_lit 204,cp "is_rectangle" "is_rectangle" 438 439 440 48 1 201 181 202 .none .none (.ref 203) 441 48 442)::(nat_lit 205,fo "is_rectangle" "is_rectangle" (top 16) .none (.str "glazebench.panels" 418) 204)::(nat_lit 211,co "inside" "inside" 444 445 446 54 2 206 181 207 208 209 210 450 54 451)::(nat_lit 212,fo "inside" "inside" (top 17) .none (.str "glazebench.panels" 418) 211)::(nat_lit 218,co "squares_of" "squares_of" 453 454 455 57 1 213 181 214 215 216 217 460 57 461)::(nat_lit 219,fo "squares_of" "squares_of" (top 18) .none (.str "glazebench.panels" 418) 218)::(nat_lit 225,co "check_sides" "check_sides" 463 464 465 63 2 220 181 221 222 223 224 469 63 470)::(nat_lit 226,fo "check_sides" "check_sides" (top 19) .none (.str "glazebench.panels" 418) 225)::(nat_lit 232,co "check_panes" "check_panes" 472 473 474 67 2 227 181 228 229 230 231 479 67 480)::(nat_lit 233,fo "check_panes" "check_panes" (top 20) .none (.str "glazebench.panels" 418) 232)::(nat_lit 239,co "panes_by_square" "panes_by_square" 482 483 484 73 1 234 181 235 236 237 238 490 73 491)::(nat_lit 240,fo "panes_by_square" "panes_by_square" (top 21) .none (.str "glazebench.panels" 418) 239)::(nat_lit 246,co "check_covered" "check_covered" 493 494 495 81 2 241 181 242 243 244 245 499 81 500)::(nat_lit 247,fo "check_covered" "check_covered" (top 22) .none (.str "glazebench.panels" 418) 246)::(nat_lit 258,cp "__init__" "Panel.__init__" 514 515 516 87 4 255 181 256 .none .none (.ref 257) 517 87 518)::(nat_lit 259,fo "__init__" "Panel.__init__" (AB (top 23) 0) .none (.str "glazebench.panels" 418) 258)::(nat_lit 265,co "panes" "Panel.panes" 520 521 522 99 1 260 181 261 262 263 264 524 99 525)::(nat_lit 266,fo "panes" "Panel.panes" (AB (top 23) 1) .none (.str "glazebench.panels" 418) 265)::(nat_lit 272,co "pane_at" "Panel.pane_at" 527 528 529 102 3 267 181 268 269 270 271 533 102 534)::(nat_lit 273,fo "pane_at" "Panel.pane_at" (AB (top 23) 2) .none (.str "glazebench.panels" 418) 272)::(nat_lit 277,cp "turned" "Panel.turned" 536 537 538 105 1 274 181 275 .none .none (.ref 276) 539 105 540)::(nat_lit 278,fo "turned" "Panel.turned" (AB (top 23) 3) .none (.str "glazebench.panels" 418) 277)::(nat_lit 280,⟨(.type "dict"),none,(.dict #[kE P "__module__" 509 (.str "glazebench.panels" 418),kE P "__firstlineno__" 513 (.int (85) 512),kE P "__init__" 519 (.ref 259),kE P "panes" 526 (.ref 266),kE P "pane_at" 535 (.ref 273),kE P "turned" 541 (.ref 278),kE P "__static_attributes__" 546 (.ref 279),kE P "__dict__" 548 (.ref 282),kE P "__weakref__" 550 (.ref 283),kE P "__doc__" 551 .none] 4),#[]⟩)::(nat_lit 281,⟨(.type "type"),none,(.cls { name:="Panel",bases:=[(.type "object")],mro:=[(.ref 281),(.type "object")],ns:=280,qualname:="Panel",hasDict:=true,slotNames:=[],subclasses:=[],abstract:=false,collection:=none,hasDel:=false }),#[none,none,some (.str "Panel" 502),some (.str "Panel" 510),some (.builtin "object.__new__"),some (.bool true)]⟩)::(nat_lit 282,⟨(.type "getset_descriptor"),none,(.fields #[(.str "__dict__" 547),(.ref 281),(.builtin "function.__dict__"),(.builtin "function.__dict__#set")]),#[]⟩)::(nat_lit 283,⟨(.type "getset_descriptor"),none,(.fields #[(.str "__weakref__" 549),(.ref 281),(.builtin "ExceptionGroup.__weakref__"),.none]),#[]⟩)::(nat_lit 291,co "apart" "apart" 560 561 562 111 2 286 181 287 288 289 290 566 111 567)::(nat_lit 292,fo "apart" "apart" (top 27) .none (.str "glazebench.blocks" 554) 291)::(nat_lit 296,cp "is_block" "is_block" 569 570 571 114 2 293 181 294 .none .none (.ref 295) 572 114 573)::(nat_lit 297,fo "is_block" "is_block" (top 28) .none (.str "glazebench.blocks" 554) 296)::(nat_lit 303,co "check_block" "check_block" 575 576 577 118 2 298 181 299 300 301 302 580 118 581)::(nat_lit 304,fo "check_block" "check_block" (top 29) .none (.str "glazebench.blocks" 554) 303)::(nat_lit 308,cp "panes_in" "panes_in" 583 584 585 121 2 305 181 306 .none .none (.ref 307) 586 121 587)::(nat_lit 309,fo "panes_in" "panes_in" (top 30) .none (.str "glazebench.blocks" 554) 308)::(nat_lit 315,co "line_breaks" "line_breaks" 589 590 591 124 3 310 181 311 312 313 314 595 124 596)::(nat_lit 316,fo "line_breaks" "line_breaks" (top 31) .none (.str "glazebench.blocks" 554) 315)::(nat_lit 320,cp "goes_through" "goes_through" 598 599 600 126 3 317 181 318 .none .none (.ref 319) 601 126 602)::(nat_lit 321,fo "goes_through" "goes_through" (top 32) .none (.str "glazebench.blocks" 554) 320)::(nat_lit 325,cp "lines_through" "lines_through" 604 605 606 128 3 322 181 323 .none .none (.ref 324) 607 128 608)::(nat_lit 326,fo "lines_through" "lines_through" (top 33) .none (.str "glazebench.blocks" 554) 325)::(nat_lit 337,cp "leaves" "Tree.leaves" 630 631 632 136 1 334 181 335 .none .none (.ref 336) 633 136 634)::(nat_lit 338,fo "leaves" "Tree.leaves" (AB (top 38) 0) .none (.str "glazebench.cuts" 610) 337)::(nat_lit 344,co "depth" "Tree.depth" 636 637 638 139 1 339 181 340 341 342 343 640 139 641)::(nat_lit 345,fo "depth" "Tree.depth" (AB (top 38) 1) .none (.str "glazebench.cuts" 610) 344)::(nat_lit 349,cp "turned" "Tree.turned" 643 644 645 142 1 346 181 347 .none .none (.ref 348) 646 142 647)::(nat_lit 350,fo "turned" "Tree.turned" (AB (top 38) 2) .none (.str "glazebench.cuts" 610) 349)::(nat_lit 356,co "fits" "Tree.fits" 649 650 651 145 3 351 181 352 353 354 355 655 145 656)::(nat_lit 357,fo "fits" "Tree.fits" (AB (top 38) 3) .none (.str "glazebench.cuts" 610) 356)::(nat_lit 363,co "same" "Tree.same" 658 659 660 148 2 358 181 359 360 361 362 663 148 664)::(nat_lit 364,fo "same" "Tree.same" (AB (top 38) 4) .none (.str "glazebench.cuts" 610) 363)::(nat_lit 366,⟨(.type "dict"),none,(.dict #[kE P "__module__" 625 (.str "glazebench.cuts" 610),kE P "__firstlineno__" 629 (.int (134) 628),kE P "leaves" 635 (.ref 338),kE P "depth" 642 (.ref 345),kE P "turned" 648 (.ref 350),kE P "fits" 657 (.ref 357),kE P "same" 665 (.ref 364),kE P "__static_attributes__" 666 (.ref 365),kE P "__dict__" 668 (.ref 368),kE P "__weakref__" 670 (.ref 369),kE P "__doc__" 671 .none] 4),#[]⟩)::(nat_lit 367,⟨(.type "type"),none,(.cls { name:="Tree",bases:=[(.type "object")],mro:=[(.ref 367),(.type "object")],ns:=366,qualname:="Tree",hasDict:=true,slotNames:=[],subclasses:=[(.ref 389),(.ref 408),(.ref 427)],abstract:=false,collection:=none,hasDel:=false }),#[none,none,some (.str "Tree" 618),some (.str "Tree" 626),some (.builtin "object.__new__"),some (.bool true)]⟩)::(nat_lit 368,⟨(.type "getset_descriptor"),none,(.fields #[(.str "__dict__" 667),(.ref 367),(.builtin "function.__dict__"),(.builtin "function.__dict__#set")]),#[]⟩)::(nat_lit 369,⟨(.type "getset_descriptor"),none,(.fields #[(.str "__weakref__" 669),(.ref 367),(.builtin "ExceptionGroup.__weakref__"),.none]),#[]⟩)::(nat_lit 379,⟨(.type "tuple"),none,(.seq #[.none] 0),#[]⟩)::(nat_lit 385,co "__init__" "Whole.__init__" 686 687 688 152 2 380 181 381 382 383 384 691 152 692)::(nat_lit 386,fo "__init__" "Whole.__init__" (AB (top 39) 0) (.ref 379) (.str "glazebench.cuts" 610) 385)::(nat_lit 388,⟨(.type "dict"),none,(.dict #[kE P "__module__" 681 (.str "glazebench.cuts" 610),kE P "__firstlineno__" 685 (.int (150) 684),kE P "__init__" 693 (.ref 386),kE P "__static_attributes__" 695 (.ref 387),kE P "__doc__" 696 .none] 2),#[]⟩)::(nat_lit 389,⟨(.type "type"),none,(.cls { name:="Whole",bases:=[(.ref 367)],mro:=[(.ref 389),(.ref 367),(.type "object")],ns:=388,qualname:="Whole",hasDict:=true,slotNames:=[],subclasses:=[],abstract:=false,collection:=none,hasDel:=false }),#[some (.ref 372),none,some (.str "Whole" 674),some (.str "Whole" 682),some (.builtin "object.__new__"),some (.bool true)]⟩)::(nat_lit 404,co "__init__" "Upright.__init__" 711 712 713 156 4 399 181 400 401 402 403 718 156 719)::(nat_lit 405,fo "__init__" "Upright.__init__" (AB (top 40) 0) .none (.str "glazebench.cuts" 610) 404)::(nat_lit 407,⟨(.type "dict"),none,(.dict #[kE P "__module__" 706 (.str "glazebench.cuts" 610),kE P "__firstlineno__" 710 (.int (154) 709),kE P "__init__" 720 (.ref 405),kE P "__static_attributes__" 724 (.ref 406),kE P "__doc__" 725 .none] 2),#[]⟩)::(nat_lit 408,⟨(.type "type"),none,(.cls { name:="Upright",bases:=[(.ref 367)],mro:=[(.ref 408),(.ref 367),(.type "object")],ns:=407,qualname:="Upright",hasDict:=true,slotNames:=[],subclasses:=[],abstract:=false,collection:=none,hasDel:=false }),#[some (.ref 392),none,some (.str "Upright" 699),some (.str "Upright" 707),some (.builtin "object.__new__"),some (.bool true)]⟩)::(nat_lit 423,co "__init__" "Level.__init__" 740 741 742 162 4 418 181 419 420 421 422 747 162 748)::(nat_lit 424,fo "__init__" "Level.__init__" (AB (top 41) 0) .none (.str "glazebench.cuts" 610) 423)::(nat_lit 426,⟨(.type "dict"),none,(.dict #[kE P "__module__" 735 (.str "glazebench.cuts" 610),kE P "__firstlineno__" 739 (.int (160) 738),kE P "__init__" 749 (.ref 424),kE P "__static_attributes__" 753 (.ref 425),kE P "__doc__" 754 .none] 2),#[]⟩)::(nat_lit 427,⟨(.type "type"),none,(.cls { name:="Level",bases:=[(.ref 367)],mro:=[(.ref 427),(.ref 367),(.type "object")],ns:=426,qualname:="Level",hasDict:=true,slotNames:=[],subclasses:=[],abstract:=false,collection:=none,hasDel:=false }),#[some (.ref 411),none,some (.str "Level" 728),some (.str "Level" 736),some (.builtin "object.__new__"),some (.bool true)]⟩)::(nat_lit 435,co "kind_of" "kind_of" 757 758 759 166 1 430 181 431 432 433 434 761 166 762)::(nat_lit 436,fo "kind_of" "kind_of" (top 42) .none (.str "glazebench.cuts" 610) 435)::(nat_lit 442,co "entry_of" "entry_of" 764 765 766 170 1 437 181 438 439 440 441 769 170 770)::(nat_lit 443,fo "entry_of" "entry_of" (top 43) .none (.str "glazebench.cuts" 610) 442)::(nat_lit 449,co "entries_of" "entries_of" 772 773 774 173 1 444 181 445 446 447 448 779 173 780)::(nat_lit 450,fo "entries_of" "entries_of" (top 44) .none (.str "glazebench.cuts" 610) 449)::(nat_lit 456,co "cut_from" "cut_from" 782 783 784 182 4 451 181 452 453 454 455 789 182 790)::(nat_lit 457,fo "cut_from" "cut_from" (top 45) .none (.str "glazebench.cuts" 610) 456)::(nat_lit 463,co "tree_from" "tree_from" 792 793 794 186 1 458 181 459 460 461 462 801 186 802)::(nat_lit 464,fo "tree_from" "tree_from" (top 46) .none (.str "glazebench.cuts" 610) 463)::(nat_lit 470,co "entries_by" "entries_by" 804 805 806 196 2 465 181 466 467 468 469 813 196 814)::(nat_lit 471,fo "entries_by" "entries_by" (top 47) .none (.str "glazebench.cuts" 610) 470)::(nat_lit 477,co "turned_word" "turned_word" 816 817 818 207 1 472 181 473 474 475 476 820 207 821)::(nat_lit 478,fo "turned_word" "turned_word" (top 48) .none (.str "glazebench.cuts" 610) 477)::(nat_lit 484,co "check_cut" "check_cut" 823 824 825 211 3 479 181 480 481 482 483 830 211 831)::(nat_lit 485,fo "check_cut" "check_cut" (top 49) .none (.str "glazebench.cuts" 610) 484)::(nat_lit 491,co "first_piece" "first_piece" 833 834 835 215 3 486 181 487 488 489 490 839 215 840)::(nat_lit 492,fo "first_piece" "first_piece" (top 50) .none (.str "glazebench.cuts" 610) 491)::(nat_lit 498,co "other_piece" "other_piece" 842 843 844 219 3 493 181 494 495 496 497 848 219 849)::(nat_lit 499,fo "other_piece" "other_piece" (top 51) .none (.str "glazebench.cuts" 610) 498)::(nat_lit 505,co "cut_out" "cut_out" 851 852 853 223 3 500 181 501 502 503 504 862 223 863)::(nat_lit 506,fo "cut_out" "cut_out" (top 52) .none (.str "glazebench.cuts" 610) 505)::(nat_lit 512,co "pieces" "pieces" 865 866 867 235 3 507 181 508 509 510 511 871 235 872)::(nat_lit 513,fo "pieces" "pieces" (top 53) .none (.str "glazebench.cuts" 610) 512)::(nat_lit 519,co "runs" "runs" 880 881 882 241 2 514 181 515 516 517 518 887 241 888)::(nat_lit 520,fo "runs" "runs" (top 57) .none (.str "glazebench.leads" 874) 519)::(nat_lit 524,cp "columns_parted" "columns_parted" 890 891 892 249 3 521 181 522 .none .none (.ref 523) 893 249 894)::(nat_lit 525,fo "columns_parted" "columns_parted" (top 58) .none (.str "glazebench.leads" 874) 524)::(nat_lit 529,cp "rows_parted" "rows_parted" 896 897 898 251 3 526 181 527 .none .none (.ref 528) 899 251 900)::(nat_lit 530,fo "rows_parted" "rows_parted" (top 59) .none (.str "glazebench.leads" 874) 529)::(nat_lit 536,co "level_leads" "level_leads" 902 903 904 253 2 531 181 532 533 534 535 911 253 912)::(nat_lit 537,fo "level_leads" "level_leads" (top 60) .none (.str "glazebench.leads" 874) 536)::(nat_lit 541,cp "upright_leads" "upright_leads" 914 915 916 259 3 538 181 539 .none .none (.ref 540) 917 259 918)::(nat_lit 542,fo "upright_leads" "upright_leads" (top 61) .none (.str "glazebench.leads" 874) 541)::(nat_lit 548,co "leads" "leads" 920 921 922 266 2 543 181 544 545 546 547 926 266 927)::(nat_lit 549,fo "leads" "leads" (top 62) .none (.str "glazebench.leads" 874) 548)::(nat_lit 555,co "lies_on" "lies_on" 929 930 931 270 2 550 181 551 552 553 554 934 270 935)::(nat_lit 556,fo "lies_on" "lies_on" (top 63) .none (.str "glazebench.leads" 874) 555)::(nat_lit 560,cp "turn" "turn" 937 938 939 274 1 557 181 558 .none .none (.ref 559) 940 274 941)::(nat_lit 561,fo "turn" "turn" (top 64) .none (.str "glazebench.leads" 874) 560)::(nat_lit 565,cp "entry_for" "entry_for" 947 948 949 280 2 562 181 563 .none .none (.ref 564) 950 280 951)::(nat_lit 566,fo "entry_for" "entry_for" (top 67) .none (.str "glazebench.rooms" 943) 565)::(nat_lit 572,co "cut_up" "cut_up" 953 954 955 291 2 567 181 568 569 570 571 959 291 960)::(nat_lit 573,fo "cut_up" "cut_up" (top 68) .none (.str "glazebench.rooms" 943) 572)::(nat_lit 577,cp "pane_broken" "pane_broken" 962 963 964 293 3 574 181 575 .none .none (.ref 576) 965 293 966)::(nat_lit 578,fo "pane_broken" "pane_broken" (top 69) .none (.str "glazebench.rooms" 943) 577)::(nat_lit 584,co "breaks_of" "breaks_of" 968 969 970 295 2 579 181 580 581 582 583 978 295 979)::(nat_lit 585,fo "breaks_of" "breaks_of" (top 70) .none (.str "glazebench.rooms" 943) 584)::(nat_lit 591,co "one_longer" "one_longer" 981 982 983 302 2 586 181 587 588 589 590 989 302 990)::(nat_lit 592,fo "one_longer" "one_longer" (top 71) .none (.str "glazebench.rooms" 943) 591)::(nat_lit 596,cp "four_that_turn" "four_that_turn" 992 993 994 309 1 593 181 594 .none .none (.ref 595) 995 309 996)::(nat_lit 597,fo "four_that_turn" "four_that_turn" (top 72) .none (.str "glazebench.rooms" 943) 596)::(nat_lit 601,cp "tree_of" "tree_of" 998 999 1000 314 1 598 181 599 .none .none (.ref 600) 1001 314 1002)::(nat_lit 602,fo "tree_of" "tree_of" (top 73) .none (.str "glazebench.rooms" 943) 601)::(nat_lit 608,co "_law_purse" "_law_purse" 1006 1007 1008 321 2 603 181 604 605 606 607 1012 321 1013)::(nat_lit 609,fo "_law_purse" "_law_purse" (top 75) .none (.str "law_glazebench_k24_whole_cut_panels_have_tre" 1004) 608)::(nat_lit 615,co "_law_take" "_law_take" 1015 1016 1017 328 2 610 181 611 612 613 614 1021 328 1022)::(nat_lit 616,fo "_law_take" "_law_take" (top 76) .none (.str "law_glazebench_k24_whole_cut_panels_have_tre" 1004) 615)::(nat_lit 620,cp "_law_wheel" "_law_wheel" 1024 1025 1026 332 4 617 181 618 .none .none (.ref 619) 1027 332 1028)::(nat_lit 621,fo "_law_wheel" "_law_wheel" (top 77) .none (.str "law_glazebench_k24_whole_cut_panels_have_tre" 1004) 620)::(nat_lit 627,co "_law_cut_up" "_law_cut_up" 1030 1031 1032 346 5 622 181 623 624 625 626 1047 346 1048)::(nat_lit 628,fo "_law_cut_up" "_law_cut_up" (top 78) .none (.str "law_glazebench_k24_whole_cut_panels_have_tre" 1004) 627)::(nat_lit 634,co "_law_asked" "_law_asked" 1050 1051 1052 359 1 629 181 630 631 632 633 1057 359 1058)::(nat_lit 635,fo "_law_asked" "_law_asked" (top 79) .none (.str "law_glazebench_k24_whole_cut_panels_have_tre" 1004) 634)::(nat_lit 639,cp "_law_right" "_law_right" 1060 1061 1062 367 2 636 181 637 .none .none (.ref 638) 1063 367 1064)::(nat_lit 640,fo "_law_right" "_law_right" (top 80) .none (.str "law_glazebench_k24_whole_cut_panels_have_tre" 1004) 639)::(nat_lit 646,co "law" "law" 1066 1067 1068 376 1 641 181 642 643 644 645 1077 376 1078)::(nat_lit 647,fo "law" "law" (top 81) .none (.str "law_glazebench_k24_whole_cut_panels_have_tre" 1004) 646)::(nat_lit 4,⟨(.type "module"),(some 0),.plain,#[]⟩)::[]
noncomputable def kas:List Addr:=nat_lit 2::nat_lit 3::nat_lit 20::nat_lit 21::nat_lit 30::nat_lit 31::nat_lit 32::nat_lit 47::nat_lit 48::nat_lit 50::nat_lit 51::nat_lit 66::nat_lit 67::nat_lit 69::nat_lit 70::nat_lit 85::nat_lit 86::nat_lit 88::nat_lit 89::nat_lit 104::nat_lit 105::nat_lit 107::nat_lit 108::nat_lit 123::nat_lit 124::nat_lit 126::nat_lit 127::nat_lit 142::nat_lit 143::nat_lit 145::nat_lit 146::nat_lit 161::nat_lit 162::nat_lit 164::nat_lit 165::nat_lit 180::nat_lit 181::nat_lit 183::nat_lit 184::nat_lit 192::nat_lit 193::nat_lit 199::nat_lit 200::nat_lit 204::nat_lit 205::nat_lit 211::nat_lit 212::nat_lit 218::nat_lit 219::nat_lit 225::nat_lit 226::nat_lit 232::nat_lit 233::nat_lit 239::nat_lit 240::nat_lit 246::nat_lit 247::nat_lit 258::nat_lit 259::nat_lit 265::nat_lit 266::nat_lit 272::nat_lit 273::nat_lit 277::nat_lit 278::nat_lit 280::nat_lit 281::nat_lit 282::nat_lit 283::nat_lit 291::nat_lit 292::nat_lit 296::nat_lit 297::nat_lit 303::nat_lit 304::nat_lit 308::nat_lit 309::nat_lit 315::nat_lit 316::nat_lit 320::nat_lit 321::nat_lit 325::nat_lit 326::nat_lit 337::nat_lit 338::nat_lit 344::nat_lit 345::nat_lit 349::nat_lit 350::nat_lit 356::nat_lit 357::nat_lit 363::nat_lit 364::nat_lit 366::nat_lit 367::nat_lit 368::nat_lit 369::nat_lit 379::nat_lit 385::nat_lit 386::nat_lit 388::nat_lit 389::nat_lit 404::nat_lit 405::nat_lit 407::nat_lit 408::nat_lit 423::nat_lit 424::nat_lit 426::nat_lit 427::nat_lit 435::nat_lit 436::nat_lit 442::nat_lit 443::nat_lit 449::nat_lit 450::nat_lit 456::nat_lit 457::nat_lit 463::nat_lit 464::nat_lit 470::nat_lit 471::nat_lit 477::nat_lit 478::nat_lit 484::nat_lit 485::nat_lit 491::nat_lit 492::nat_lit 498::nat_lit 499::nat_lit 505::nat_lit 506::nat_lit 512::nat_lit 513::nat_lit 519::nat_lit 520::nat_lit 524::nat_lit 525::nat_lit 529::nat_lit 530::nat_lit 536::nat_lit 537::nat_lit 541::nat_lit 542::nat_lit 548::nat_lit 549::nat_lit 555::nat_lit 556::nat_lit 560::nat_lit 561::nat_lit 565::nat_lit 566::nat_lit 572::nat_lit 573::nat_lit 577::nat_lit 578::nat_lit 584::nat_lit 585::nat_lit 591::nat_lit 592::nat_lit 596::nat_lit 597::nat_lit 601::nat_lit 602::nat_lit 608::nat_lit 609::nat_lit 615::nat_lit 616::nat_lit 620::nat_lit 621::nat_lit 627::nat_lit 628::nat_lit 634::nat_lit 635::nat_lit 639::nat_lit 640::nat_lit 646::nat_lit 647::nat_lit 4::[]
noncomputable def keeps:List Nat:=0::2::3::4::5::6::7::8::9::10::12::13::14::15::16::17::18::19::20::21::22::23::25::26::27::28::29::30::31::32::33::35::36::37::38::39::40::41::42::43::44::45::46::47::48::49::50::51::52::53::55::56::57::58::59::60::61::62::63::64::66::67::68::69::70::71::72::73::75::76::77::78::79::80::81::[]
noncomputable def lo:LSz:=["Whole"]
noncomputable def Ts:List Addr:=nat_lit 508::nat_lit 568::[]
theorem prep(h:PySem.Challenge.rw_glazebench_k24_whole_cut_panels_have_tre.row.wellSaid=true->PySem.Challenge.rw_glazebench_k24_whole_cut_panels_have_tre.row.Holds):PySem.Challenge.rw_glazebench_k24_whole_cut_panels_have_tre.Holds:=by
 w_on
 o_law
 exact h (by assumption)
noncomputable def qv(p:Program):Program:=view p keeps
noncomputable def Xp(p:Program)(s:Shared):Bool:=xlAt (qv p) [] s&&recOk (RowW.records (OpenRow.toRowW PySem.Challenge.rw_glazebench_k24_whole_cut_panels_have_tre.row)) s
theorem kas_is(P:Params):kas=(KK P).map (λ x=>x.1):=by kernel_rfl
theorem Ul:opening PySem.Challenge.pw_glazebench_k24_whole_cut_panels_have_tre=plainProg PySem.Challenge.pw_glazebench_k24_whole_cut_panels_have_tre.main.scope.names:=by kernel_rfl
theorem Qx(s:Shared):fenceModules? PySem.Challenge.pw_glazebench_k24_whole_cut_panels_have_tre s=some s:=by kernel_rfl
theorem Sc(w:World):((boot_heap w.params).isNs mainGlobals,(boot_heap w.params).objs.size,(boot_heap w.params).nsMap mainGlobals "__annotations__")=(true,11,(some (.ref 6))):=by kernel_rfl
theorem Vi:UG 10604 11 (some (.ref 6)) Fast.te10156331382660048174 Fast.te11892475500146522536 Fast.te14364793385576792824 Fast.te5923862056798008813 Fast.te4187177175401517315 Fast.te4610096461947833153:=λ w os=>by kernel_rfl
theorem Uf:S1 10604 11 (some (.ref 6)) qv lo Xp Fast.te10156331382660048174 Fast.te11892475500146522536 Fast.te14364793385576792824 Fast.te5923862056798008813 Fast.te4187177175401517315 Fast.te4610096461947833153:=λ w os=>by kernel_rfl
theorem Ue:S0 10604 11 (some (.ref 6)) qv lo Xp Fast.te10156331382660048174 Fast.te11892475500146522536 Fast.te14364793385576792824 Fast.te5923862056798008813 Fast.te4187177175401517315 Fast.te4610096461947833153:=λ w os=>by kernel_rfl
theorem Ud:Sz 10604 11 (some (.ref 6)) qv lo Xp Fast.te10156331382660048174 Fast.te11892475500146522536 Fast.te14364793385576792824 Fast.te5923862056798008813 Fast.te4187177175401517315 Fast.te4610096461947833153:=λ w os=>by kernel_rfl
theorem Vh:RunB 10604 11 (some (.ref 6)) qv lo Xp Fast.te10156331382660048174 Fast.te11892475500146522536 Fast.te14364793385576792824 Fast.te5923862056798008813 Fast.te4187177175401517315 Fast.te4610096461947833153:=RunB.of3 Uf Ue Ud
theorem Vg:UF 10604 11 (some (.ref 6)) (hookT (kHook KK kas kas_is) Ts).obs (hookT (kHook KK kas kas_is) Ts).val Fast.te10156331382660048174 Fast.te11892475500146522536 Fast.te14364793385576792824 Fast.te5923862056798008813 Fast.te4187177175401517315 Fast.te4610096461947833153:=λ w os=>by kernel_rfl
theorem ran:∀(w:World)(os:OsState),Option.map (II openSeen (importedModules PySem.Challenge.pw_glazebench_k24_whole_cut_panels_have_tre.main.body) PySem.Challenge.pw_glazebench_k24_whole_cut_panels_have_tre (qv PySem.Challenge.pw_glazebench_k24_whole_cut_panels_have_tre) lo (Xp PySem.Challenge.pw_glazebench_k24_whole_cut_panels_have_tre) (hookT (kHook KK kas kas_is) Ts).obs (boot_heap w.params)) (topRun treeTable PySem.Challenge.pw_glazebench_k24_whole_cut_panels_have_tre w 11 (some (.ref 6)) 10604 (DQ w.params os) (topStub PySem.Challenge.pw_glazebench_k24_whole_cut_panels_have_tre))=some (true,openGood (qv PySem.Challenge.pw_glazebench_k24_whole_cut_panels_have_tre) lo,(hookT (kHook KK kas kas_is) Ts).val w):=Rs Vi Vh Vg
theorem left:LeftO PySem.Challenge.pw_glazebench_k24_whole_cut_panels_have_tre (qv PySem.Challenge.pw_glazebench_k24_whole_cut_panels_have_tre) lo (Xp PySem.Challenge.pw_glazebench_k24_whole_cut_panels_have_tre) (hookT (kHook KK kas kas_is) Ts).obs (hookT (kHook KK kas kas_is) Ts).val 10604:=OF (boot_open Ul (by decide) Qx) Sc ran
end KH
namespace L2
open PySem.W
open PySem PySem.Spec PyProof.Rows
section
variable{α:Type}{κ:α->Int}
def Rise(κ:α->Int)(xs:List α):Prop:=xs.Pairwise λ x y=>κ x<=κ y
structure MI(κ:α->Int)(a b out:List α)(ia ib:Nat):Prop where
 pm:(out++(a.drop ia++b.drop ib)).Perm (a++b)
 so:Rise κ out
 le:∀x∈out,∀y∈a.drop ia++b.drop ib,κ x<=κ y
 la:ia<=a.length
 lb:ib<=b.length
theorem Rise.app{xs ys:List α}(h1:Rise κ xs)(h2:Rise κ ys)(h:∀x∈xs,∀y∈ys,κ x<=κ y):Rise κ (xs++ys):=List.pairwise_append.mpr ⟨h1,h2,h⟩
end
section
variable{M:Model}{A:Around}{E:VPz}{s:Shared}
theorem QW{α:Type}:∀(ms:List α)(n base:Nat)(xs:Array α),base+n+ms.length<=xs.size ->
  ((ms.zipIdx n).foldl (λ a p=>a.setIfInBounds (base+p.2) p.1) xs).toList=xs.toList.take (base+n)++ms++xs.toList.drop (base+n+ms.length)
 |[],n,base,xs,h=>by simp
 |m::ms,n,base,xs,h=>by
  rw[List.zipIdx_cons,List.foldl_cons];have hl:base+n+(ms.length+1)<=xs.size:=h;rw[QW ms (n+1) base (xs.setIfInBounds (base+n) m) (by rw[Array.size_setIfInBounds];lia)];rw[Array.toList_setIfInBounds];have h1:base+n<xs.toList.length:=by rw[Array.length_toList];lia
  rw[show base+(n+1)=base+n+1 by lia];rw[List.take_set,List.drop_set,if_pos (by lia)];have e1:(xs.toList.take (base+n+1)).set (base+n) m=xs.toList.take (base+n)++[m]:=by
   rw[List.take_succ_eq_append_getElem h1,List.set_append_right _ _ (by rw[List.length_take];lia)];rw[List.length_take,Nat.min_eq_left (by lia),Nat.sub_self];rfl
  rw[e1,show base+n+1+ms.length=base+n+(m::ms).length by simp;lia];simp
theorem Vz{α:Type}{κ:α->Int}{A1 A2 B1 B2 ms:List α}(sA:Rise κ (A1++A2))(sB:Rise κ (B1++B2))(hm:Rise κ ms)(pm:ms.Perm (A2++B1))(h1:∀x∈A1,∀y∈B1++B2,κ x<=κ y)(h2:∀x∈A1++A2,∀y∈B2,κ x<=κ y):Rise κ (A1++ms++B2):=by
 obtain⟨a1,a2,a3⟩:=List.pairwise_append.mp sA;obtain⟨b1,b2,b3⟩:=List.pairwise_append.mp sB;refine Rise.app (Rise.app a1 hm λ x hx y hy=>?_) b2 λ x hx y hy=>?_
 .rcases List.mem_append.mp (pm.mem_iff.mp hy) with hy|hy
  .exact a3 x hx y hy
  .exact h1 x hx y (List.mem_append_left _ hy)
 .rcases List.mem_append.mp hx with hx|hx
  .exact h2 x (List.mem_append_left _ hx) y hy
  .rcases List.mem_append.mp (pm.mem_iff.mp hx) with hx|hx
   .exact h2 x (List.mem_append_right _ hx) y hy
   .exact b3 x hx y hy
end
def Qi:Option NameKind->Bool
 |some .cell=>true
 |some .free=>true
 |_=>false
theorem NI{o:Option NameKind}(h:Qi o=true):o=some .cell\/o=some .free:=by
 match o,h with
 |some .cell,_=>exact .inl rfl
 |some .free,_=>exact .inr rfl
theorem E5(env:Env):∀(l:List (Str×NameKind))(acc:List (Str×Addr)),(∀y∈l,y.2=.free->∃c,env.cells.lookup y.1=some c) ->
  (∀x c,acc.lookup x=some c->env.cells.lookup x=some c) ->
  ∃cl,(forIn l acc (λ(x:Str×NameKind)(r:List (Str×Addr))=>if (x.2==.free)=true then (cellOf env x.1 >>= λ c=>pure (ForInStep.yield ((x.1,c)::r))) else pure (ForInStep.yield r)):Sem (List (Str×Addr)))=pure cl /\
   (∀x c,cl.lookup x=some c->env.cells.lookup x=some c)/\(∀x,((∃c,acc.lookup x=some c)\/(x,NameKind.free)∈l)->∃c,cl.lookup x=some c)
 |[],acc,_,ha=>⟨acc,by rfl,ha,λ x h=>h.elim id λ z=>nomatch z⟩
 | (n,k)::l,acc,hl,ha=>by
  have hl':∀y∈l,y.2=.free->∃c,env.cells.lookup y.1=some c:=λ y hy=>hl y (List.mem_cons_of_mem _ hy);by_cases hk:k=.free
  .subst hk;obtain⟨c,hc⟩:=hl (n,.free) List.mem_cons_self rfl;have hc':env.cells.lookup n=some c:=hc;have look:∀x,((n,c)::acc).lookup x=if x=n then some c else acc.lookup x:=λ x=>by
    rw[List.lookup_cons];by_cases e:x=n
    .subst e;simp
    .rw[if_neg e,show(x==n)=false by simpa using e]
   have ha':∀x d,((n,c)::acc).lookup x=some d->env.cells.lookup x=some d:=λ x d e=>by
    rw[look]at e;split at e
    .rename_i q;subst q;rw[hc'];exact e
    .exact ha x d e
   obtain⟨cl,e,h1,h2⟩:=E5 env l ((n,c)::acc) hl' ha';refine⟨cl,?_,h1,λ x h=>h2 x ?_⟩
   .rw[<-e,List.forIn_cons];have ec:cellOf env n=pure c:=by unfold cellOf;rw[hc']
    show((cellOf env n >>= λ c=>pure (ForInStep.yield ((n,c)::acc))) >>= _:Sem (List (Str×Addr)))=_;rw[ec];rfl
   .rcases h with ⟨d,q⟩|h
    .left
     rw[look];by_cases z:x=n
     .exact⟨c,by rw[if_pos z]⟩
     .exact⟨d,by rw[if_neg z];exact q⟩
    .rcases List.mem_cons.mp h with z|z
     .left
      rw[look];exact⟨c,by rw[if_pos (congrArg Prod.fst z)]⟩
     .exact .inr z
  .obtain⟨cl,e,h1,h2⟩:=E5 env l acc hl' ha;refine⟨cl,?_,h1,λ x h=>h2 x ?_⟩
   .rw[<-e,List.forIn_cons];have hb:(k==NameKind.free)=false:=by simpa using hk
    show((if (k==NameKind.free)=true then _ else pure (ForInStep.yield acc)) >>= _:Sem (List (Str×Addr)))=_;rw[hb];rfl
   .rcases h with h|h
    .exact .inl h
    .rcases List.mem_cons.mp h with z|z
     .exact absurd (congrArg Prod.snd z).symm hk
     .exact .inr z
theorem MR{scope:Scope}{env:Env}(h:∀y∈scope.names,y.2=.free->∃c,env.cells.lookup y.1=some c) :
  ∃cl,closureFor scope env=pure cl/\(∀x c,cl.lookup x=some c->env.cells.lookup x=some c)/\(∀x,(x,NameKind.free)∈scope.names->∃c,cl.lookup x=some c):=by
 obtain⟨cl,e,h1,h2⟩:=E5 env scope.names [] h (λ x c e=>by simp at e);refine⟨cl,?_,h1,λ x hx=>h2 x (.inr hx)⟩;have e2:closureFor scope env=(forIn scope.names [] (λ(x:Str×NameKind)(r:List (Str×Addr))=>if (x.2==.free)=true then (cellOf env x.1 >>= λ c=>pure (ForInStep.yield ((x.1,c)::r))) else pure (ForInStep.yield r)) >>= λ r=>pure r:Sem (List (Str×Addr))):=by
  rfl
 rw[e2,e];rfl
abbrev AK(X:Cx)(scope:Scope)(cl:List (Str×Addr))(N:LSz)(C:Addr)(s:Shared)(H:Hp)(ex:List Addr):Cx :=
 { X with N:=N,s₀:=s,H₀:=H,env:=compEnvC scope cl C X.env,outer:=X.stack,ex:=ex,fn:=λ_=>false,pn:=[],xe:=λ_ _=>False }
def Eb(osc:Scope)(oN:LSz)(sc:Scope)(N:LSz)(fr:List (Option Nat)):Bool :=
 decide (sc.kind=.function)&&sc.names.all (λ y=>decide (y.2≠.cell))&&sc.names.all (λ y=>decide (y.2≠.free)||Qi (osc.names.lookup y.1)) &&
 sc.names.all (λ y=>decide (y.2≠.local)||decide (sc.names.lookup y.1=some .local)) &&
 (N.zip fr).all (λ y=>match y.2 with
  |none=>true
  |some i=>decide (oN[i]?=some y.1)&&Qi (osc.names.lookup y.1)&&decide (sc.names.lookup y.1=some .free))&&decide (N.length=fr.length)
structure ES(osc:Scope)(oN:LSz)(sc:Scope)(N:LSz)(fr:List (Option Nat)):Prop where
 kind:sc.kind=.function
 nocell:∀y∈sc.names,y.2≠.cell
 free:∀y∈sc.names,y.2=.free->Qi (osc.names.lookup y.1)=true
 loc:∀y∈sc.names,y.2=.local->sc.names.lookup y.1=some .local
 slots:∀(j:Nat)(x:Str)(i:Nat),N[j]?=some x->fr[j]?=some (some i)->oN[i]?=some x/\Qi (osc.names.lookup x)=true/\sc.names.lookup x=some .free
 len:N.length=fr.length
theorem Dw{osc:Scope}{oN:LSz}{sc:Scope}{N:LSz}{fr:List (Option Nat)}(h:Eb osc oN sc N fr=true):ES osc oN sc N fr:=by
 unfold Eb at h;simp only[Bool.and_eq_true,List.all_eq_true,decide_eq_true_eq,Bool.or_eq_true]at h;obtain⟨⟨⟨⟨⟨h1,h2⟩,h3⟩,h4⟩,h5⟩,h6⟩:=h;refine⟨h1,h2,λ y hy e=>(h3 y hy).resolve_left λ z=>z e,λ y hy e=>(h4 y hy).resolve_left λ z=>z e,λ j x i e1 e2=>?_,h6⟩;have hm:(x,some i)∈N.zip fr:=by
  have:(N.zip fr)[j]?=some (x,some i):=by rw[List.getElem?_zip_eq_some];exact⟨e1,e2⟩
  exact List.mem_of_getElem? this
 have:=h5 _ hm;simp only[Bool.and_eq_true,decide_eq_true_eq]at this;exact⟨this.1.1,this.1.2,this.2⟩
def stC(fr:List (Option Nat))(σ:St):St:=fr.map λ o=>o.bind λ i=>(σ[i]?).join
def Pp(wi:TI)(g:TG)(te:TE)(fr:List (Option Nat)):TE:=λ σ H Q=>wi σ H λ J H1=>∀acc,H1 acc=none->∃W:Nat->Nat->St->Hp->Prop,(∃m,W 0 m (stC fr σ) (upd H1 acc (.lst [])))/\∀i m σ1 H2,W i m σ1 H2 ->
 (J.stop i H2/\Q (.ref acc) H2)\/(J.go i H2/\∀x H3,J.yld i H2 x H3->g x σ1 H3 λ σ4 H4=>te σ4 H4 λ v H5=>∃xs,H5 acc=some (.lst xs)/\xs.length<sizeLine/\∃m',m'<m/\W (i+1) m' σ4 (upd H5 acc (.lst (xs++[v]))))
section
variable{prog:Program}{w:World}{A:Around}{R:Result->Shared->Prop}{s:Shared}
theorem Kh{elt target iter:Expr}{scope:Scope}{pos:Pos}{it acc:Value}{env:Env}(I:Nat->Shared->Prop)
    (turn:∀n s,I n s->wpAny (model prog w) A (pyNext it) (λ r s₁=>match r with
      |none=>R (.ok .next) s₁
      |some v=>wpAny (model prog w) A (letOwnedTupleGo target it v) (λ_ s₁=>wpAny (model prog w) A (assign target env v) (λ_ s₂=>wpAny (model prog w) A (eval elt env) (λ x s₃ =>
          wpAny (model prog w) A (call (.builtin "list.append") [acc,x]) (λ_ s₄=>∃m,m<n/\I m s₄) (notedBy (model prog w) A env λ e s'=>R (.error e) s') s₃)
          (notedBy (model prog w) A env λ e s'=>R (.error e) s') s₂) (notedBy (model prog w) A env λ e s'=>R (.error e) s') s₁) (notedBy (model prog w) A env λ e s'=>R (.error e) s') s₁) (notedBy (model prog w) A env λ e s'=>R (.error e) s') s)
    (n:Nat) (h:I n s) :
    codeAny (model prog w) A (.compLoop (.ListComp elt [⟨target,iter,[],0⟩] scope pos) 0 it acc env) R s:=by
  refine codeAny_loop rfl I (λ n s hI=>?_) n h;show wpAny _ _ ((compTurn (.ListComp elt [⟨target,iter,[],0⟩] scope pos) 0 it acc env).onRaise (λ x=>do noteFrame x env;theTreesLotGoes x)) _ _ s;refine wpAny_noted ?_;rw[compTurn_list1];refine wpAny_bind (wpAny_standAt (wpAny_bind (wpAny_mono (turn n s hI) (λ r s₁ h₁=>?_) λ_ _ h'=>h')));cases r with
  |none=>exact wpAny_pure h₁
  |some v =>
    refine wpAny_bind (wpAny_mono h₁ (λ_ s₁ h₁=>?_) λ_ _ h'=>h');exact wpAny_bind (wpAny_mono h₁ (λ_ s₂ h₂=>wpAny_bind (wpAny_bind (wpAny_mono h₂ (λ x s₃ h₃=>wpAny_bind (wpAny_mono h₃
      (λ_ s₄ h₄=>wpAny_pure (wpAny_pure ⟨rfl,h₄⟩)) λ_ _ h'=>h')) λ_ _ h'=>h'))) λ_ _ h'=>h')
end
theorem Br{α:Type}{M:Model}{A:Around}{t:Sem α}{Q:α->Shared->Prop}{E:VPz}{s:Shared}(h:wpAny M A t Q (λ_ _=>False) s):wpAny M A t Q E s :=
 wpAny_mono h (λ_ _ q=>q) λ_ _ z=>z.elim
theorem Mt{scope:Scope}{env:Env}(hc:∀y∈scope.names,y.2≠.cell){x:Str}(h:(relabel scope env).names.lookup x=some .cell\/(relabel scope env).names.lookup x=some .free):(x,NameKind.free)∈scope.names:=by
 have key:∀(l:List (Str×NameKind)),(∀y∈l,y.2≠.cell)->((l.map λ(n,k)=>if (k==NameKind.free&&env.scope.kind==.function&&env.kindOf n==some .cell) then (n,NameKind.cell) else (n,k)).lookup x=some .cell \/
   (l.map λ(n,k)=>if (k==NameKind.free&&env.scope.kind==.function&&env.kindOf n==some .cell) then (n,NameKind.cell) else (n,k)).lookup x=some .free)->(x,NameKind.free)∈l:=by
  intro l
  induction l with
  |nil=>intro _ h;simp at h
  |cons y r ih =>
   obtain⟨n,k⟩:=y;intro hc h;have hr:∀y∈r,y.2≠.cell:=λ y hy=>hc y (List.mem_cons_of_mem _ hy);have hk:k≠.cell:=hc (n,k) List.mem_cons_self;rw[List.map_cons]at h;by_cases hxn:x=n
   .subst hxn;have hkf:k=.free:=by
     by_cases hb:(k==NameKind.free&&env.scope.kind==.function&&env.kindOf x==some .cell)=true
     .simp only[Bool.and_eq_true,beq_iff_eq]at hb;exact hb.1.1
     .simp only[hb,if_neg,Bool.false_eq_true,if_false]at h;simp only[List.lookup_cons,beq_self_eq_true]at h;rcases h with h|h
      .exact absurd (Option.some.inj h) hk
      .exact Option.some.inj h
    rw[hkf];exact List.mem_cons_self
   .have hb:(x==n)=false:=by simpa using hxn
    refine List.mem_cons_of_mem _ (ih hr ?_);by_cases hq:(k==NameKind.free&&env.scope.kind==.function&&env.kindOf n==some .cell)=true
    .simp only[hq,if_true,List.lookup_cons,hb]at h;exact h
    .simp only[hq,Bool.false_eq_true,if_false,List.lookup_cons,hb]at h;exact h
 exact key scope.names hc h
theorem EF{env:Env}{x:Str}:∀{l:List (Str×NameKind)},l.lookup x=some .free ->
  ((l.map λ(n,k)=>if (k==NameKind.free&&env.scope.kind==.function&&env.kindOf n==some .cell) then (n,NameKind.cell) else (n,k)).lookup x=some .cell \/
   (l.map λ(n,k)=>if (k==NameKind.free&&env.scope.kind==.function&&env.kindOf n==some .cell) then (n,NameKind.cell) else (n,k)).lookup x=some .free)
 |[],h=>by simp at h
 | (n,k)::r,h=>by
  rw[List.map_cons];by_cases hxn:x=n
  .subst hxn;simp only[List.lookup_cons,beq_self_eq_true]at h;have hk:=Option.some.inj h;subst hk;by_cases hq:(NameKind.free==NameKind.free&&env.scope.kind==.function&&env.kindOf x==some .cell)=true
   .left
    show List.lookup x ((if (NameKind.free==NameKind.free&&env.scope.kind==.function&&env.kindOf x==some .cell)=true then (x,NameKind.cell) else (x,NameKind.free))::_)=_;rw[if_pos hq,List.lookup_cons,beq_self_eq_true]
   .right
    show List.lookup x ((if (NameKind.free==NameKind.free&&env.scope.kind==.function&&env.kindOf x==some .cell)=true then (x,NameKind.cell) else (x,NameKind.free))::_)=_;rw[if_neg hq,List.lookup_cons,beq_self_eq_true]
  .have hb:(x==n)=false:=by simpa using hxn
   simp only[List.lookup_cons,hb]at h;have ih:=EF (env:=env) h;by_cases hq:(k==NameKind.free&&env.scope.kind==.function&&env.kindOf n==some .cell)=true
   .simp only[hq,if_true,List.lookup_cons,hb];exact ih
   .simp only[hq,Bool.false_eq_true,if_false,List.lookup_cons,hb];exact ih
theorem Ll{x:Str}{k:NameKind}:∀{l:List (Str×NameKind)},l.lookup x=some k->(x,k)∈l
 |[],h=>by simp at h
 | (n,j)::r,h=>by
  by_cases e:x=n
  .subst e;simp only[List.lookup_cons,beq_self_eq_true]at h;rw[<-Option.some.inj h];exact List.mem_cons_self
  .have hb:(x==n)=false:=by simpa using e
   simp only[List.lookup_cons,hb]at h;exact List.mem_cons_of_mem _ (Ll h)
section
variable{X:Cx}{elt tg iter:Expr}{scope:Scope}{pos:Pos}{wi:TI}{g:TG}{te:TE}{N:LSz}{fr:List (Option Nat)}
theorem Hl{pins:PNz}{σ:St}{H:Hp}{s s1:Shared}{cl:List (Str×Addr)}{ex:List Addr}{C:Addr}{m:MGz}(I:Inv X pins σ H s)(ck:ES X.env.scope X.N scope N fr)
    (c1:∀x c,cl.lookup x=some c->X.env.cells.lookup x=some c) (c2:∀x,(x,NameKind.free)∈scope.names->∃c,cl.lookup x=some c) (hex:∀b∈ex,E7 X pins H b/\b<s.heap.objs.size) (hC:s.heap.objs.size<=C)
    (hn:s1.heap.Ns C m) (k:∀b o,s.heap.get? b=some o->s1.heap.get? b=some o) (ho:s1.os=s.os) (hg:s1.gens=s.gens) :
    Inv (AK X scope cl N C s H ex) [] (stC fr σ) H s1:=by
  have lt_ne:∀{b:Addr}{o:Obj},s.heap.get? b=some o->b≠C:=λ e=>Nat.ne_of_lt (Nat.lt_of_lt_of_le (Heap.lt_size e) hC);have ok:(AK X scope cl N C s H ex).Ok :=
    { mod:=I.ok.mod
      kind:=ck.kind
      glob:=I.ok.glob
      blt:=I.ok.blt
      above:=hC
      inj:=λ x y c e1 e2=>I.ok.inj x y c (c1 x c e1) (c1 y c e2)
      has:=λ x h=>c2 x (Mt ck.nocell h)
      cab:=λ x c z=>by cases z
      hd:=I.ok.hd
      frames:=I.ok.frames
      stk:=.inl rfl
      exf:=λ b hb=>⟨Nat.ne_of_lt (Nat.lt_of_lt_of_le (hex b hb).2 hC),λ x c e=>(hex b hb).1.2.2.2.2.1 x c (c1 x c e)⟩
      bs:=I.bs
      bsz:=Nat.le_trans I.ok.bsz I.sz
      noex:=λ b o e hb=>by
        rcases(hex b hb).1.2.2.2.1 with z|z
        · exact I.ok.noex b o e z
        · exact absurd (Nat.lt_of_lt_of_le (Heap.lt_size e) (Nat.le_trans I.ok.bsz z)) (Nat.lt_irrefl _)
      exfs:=λ b hb hz=>by
        rcases List.mem_cons.mp (I.stkSub b hz) with z|z
        · exact(hex b hb).1.2.1 z
        · exact(hex b hb).1.2.2.1 z
      funs:=I.stack
      frf:=I.stkFree }
  refine⟨ok,ho,by rw[hg];exact I.bare,Un.kept k,⟨m,hn,λ j x v e1 e2 e3=>?_⟩,λ x c e=>?_,I.hok.fresh hC,λ x c e=>I.freeC x c (c1 x c e),λ p hp=>by simp at hp,I.hok.kept k,?_⟩
  · have e1':N[j]?=some x:=e1
    unfold stC at e2;rw[List.getElem?_map]at e2;cases q:fr[j]? with
    |none=>rw[q]at e2;cases e2
    |some o =>
      rw[q]at e2;cases o with
      |none =>
        have:(none:Option V)=some v:=Option.some.inj e2;cases this
      |some i =>
        have e2':(σ[i]?).join=some v:=Option.some.inj e2;obtain⟨s1',s2',s3'⟩:=ck.slots j x i e1' q;have hσ:σ[i]?=some (some v):=by
          cases z:σ[i]? with
          |none=>rw[z]at e2';cases e2'
          |some y=>rw[z]at e2';exact congrArg some e2'
        have hcf:=NI s2';obtain⟨m0,hn0,hl⟩:=I.loc;obtain⟨u,r,lk⟩:=hl i x v s1' hσ (Or.inr hcf);refine⟨u,r,Or.inr ⟨EF s3',?_⟩⟩;obtain⟨c,hc⟩:=c2 x (Ll s3');refine⟨c,hc,?_⟩;rcases lk with ⟨z,_⟩|⟨_,c',hc',hv⟩
        · rcases hcf with y|y
          · have z':X.env.scope.names.lookup x=some .local:=z
            rw[y]at z';cases z'
          · have z':X.env.scope.names.lookup x=some .local:=z
            rw[y]at z';cases z'
        · have:=c1 x c hc
          rw[hc']at this;cases this;exact hv.keeps k
  · obtain⟨v,z⟩:=I.cell x c (c1 x c e)
    exact⟨v,z.keeps k⟩
  · unfold stC
    rw[List.length_map];exact ck.len.symm
theorem IV{pins:PNz}{σ:St}{H:Hp}{s:Shared}{Q:VK}{cl:List (Str×Addr)}{R:Value->Addr->Result->Shared->Prop}(hc:X.calm=true)(I:Inv X pins σ H s)(hi:PI X tg iter wi)
  (hg:∀cl C s H ex,PG (AK X scope cl N C s H ex) tg g) (he:∀cl C s H ex,PE (AK X scope cl N C s H ex) elt te) (ck:ES X.env.scope X.N scope N fr)
  (c1:∀x c,cl.lookup x=some c->X.env.cells.lookup x=some c) (c2:∀x,(x,NameKind.free)∈scope.names->∃c,cl.lookup x=some c)
  (h:Pp wi g te fr σ H Q)
  (hR:∀acc C s' H' m,s'.heap.Ns C m->E7 X pins H' C->Inv X pins σ H' s'->Q (.ref acc) H'->R (.ref acc) C (.ok .next) s') :
  wpAny (model X.prog X.w) X.A (eval iter X.env) (λ x s₁=>wpAny (model X.prog X.w) X.A (pyIter x) (λ it s₂=>wpAny (model X.prog X.w) X.A (newList []) (λ acc s₃ =>
   wpAny (model X.prog X.w) X.A (newFunctionEnv scope X.env.globals cl [] X.env.qual none .none (some X.env)) (λ cenv s₄ =>
    codeAny (model X.prog X.w) X.A (.compStart (.ListComp elt [⟨tg,iter,[],0⟩] scope pos) 0 it acc { cenv with scope:=relabel scope X.env }) (R acc cenv.locals) s₄) X.xe s₃) X.xe s₂) X.xe s₁) X.xe s:=by
 refine thn (hi pins s σ H _ I h) λ v s1 h1=>thn h1 λ itv s2 h2=>?_;obtain⟨it,fp,tn,J,H2,e,I2,T,st2,f2,q2⟩:=h2;subst e;refine wpAny_newObj_type (wpAny_newFunctionEnv ck.nocell (by intro y hy;simp at hy) (λ h₁ hns₁ hsb₁=>?_) ck.kind);dsimp only at hns₁ hsb₁ |-;have I3:Inv X pins σ (upd H2 s2.heap.objs.size (.lst [])) { s2 with heap:=s2.heap.push { cls:=.type "list",dict:=none,data:=.seq ([]:LWz).toArray } }:=I2.lnew (t':=s2.toks) (its:=[]) .nil (Nat.zero_le _);have acc0:H2 s2.heap.objs.size=none:=I2.fresh;obtain⟨W,⟨m0,w0⟩,turn⟩:=q2 s2.heap.objs.size acc0;generalize hH3:s2.heap.push { cls:=.type "list",dict:=none,data:=.seq ([]:LWz).toArray }=h3 at hns₁ hsb₁ I3 |-;have hz3:h3.objs.size=s2.heap.objs.size+1:=by rw[<-hH3,Heap.size_push]
 have k23:∀b o,s2.heap.get? b=some o->h3.get? b=some o:=λ b o e=>by rw[<-hH3];exact Heap.get?_push_of_some _ e
 have k34:∀b o,h3.get? b=some o->h₁.get? b=some o:=λ b o e=>hsb₁.extBut b o (Nat.ne_of_lt (Heap.lt_size e)) (Heap.get?_push_of_some _ e);have fpo:∀b∈fp,∃o,s2.heap.get? b=some o/\∀v,o.data≠.cell v:=T.obj 0 _ st2;have hex:∀b∈fp,E7 X pins (upd H2 s2.heap.objs.size (.lst [])) b/\b<h3.objs.size:=λ b hb=>by
  obtain⟨o,eo,_⟩:=fpo b hb;have lt:=Heap.lt_size eo;obtain⟨f0,fr'⟩:=f2 b hb;exact⟨⟨by rw[Ae (Nat.ne_of_lt lt)];exact f0,fr'⟩,by rw[hz3];exact Nat.lt_succ_of_lt lt⟩
 have I4:Inv (AK X scope cl N h3.objs.size { s2 with heap:=h3 } (upd H2 s2.heap.objs.size (.lst [])) fp) [] (stC fr σ) (upd H2 s2.heap.objs.size (.lst [])) { s2 with heap:=h₁,toks:=s2.toks+([]:List (Str×Value)).length } :=
  Hl I3 ck c1 c2 hex (Nat.le_refl _) hns₁ k34 rfl rfl
 have stat:∀{H':Hp},(∀b∈fp,H' b=none)->∀b∈fp,E7 (AK X scope cl N h3.objs.size { s2 with heap:=h3 } (upd H2 s2.heap.objs.size (.lst [])) fp) [] H' b:=λ hn b hb =>
  ⟨hn b hb,(I4.ok.exf b hb).1,I4.ok.exfs b hb,.inl hb,(I4.ok.exf b hb).2,λ p hp=>by simp at hp⟩
 have stn:∀i h h',tn i h->(∀b o,h.get? b=some o->h'.get? b=some o)->tn i h':=λ i h h' st kk=>T.keep i h h' st λ b _ o e=>kk b o e;have loop:codeAny (model X.prog X.w) X.A (.compLoop (.ListComp elt [⟨tg,iter,[],0⟩] scope pos) 0 (.ref it) (.ref s2.heap.objs.size) (compEnvC scope cl h3.objs.size X.env)) (R (.ref s2.heap.objs.size) h3.objs.size)
   { s2 with heap:=h₁,toks:=s2.toks+([]:List (Str×Value)).length }:=by
  refine Kh (λ n s'=>∃i σ' H',Inv (AK X scope cl N h3.objs.size { s2 with heap:=h3 } (upd H2 s2.heap.objs.size (.lst [])) fp) [] σ' H' s'/\tn i s'.heap/\(∀b∈fp,H' b=none)/\W i n σ' H') ?_ m0
   ⟨0,_,_,I4,stn _ _ _ st2 λ b o e=>k34 b o (k23 b o e),λ b hb=>(hex b hb).1.1,w0⟩
  rintro n s3 ⟨i,σ3,H3,J3,st3,fr3,w3⟩;rcases turn i n σ3 H3 w3 with ⟨stop,qn⟩|⟨go,step⟩
  .refine Br (thn (T.done (AK X scope cl N h3.objs.size { s2 with heap:=h3 } (upd H2 s2.heap.objs.size (.lst [])) fp) rfl rfl rfl hc i [] s3 σ3 H3 (λ_ _=>False) J3 (stat fr3) st3 stop) λ r s4 hz_=>?_);obtain⟨hr,J4⟩:=hz_;subst hr;obtain⟨mc,hmc,_⟩:=J4.loc;have I5:Inv X pins σ H3 s4:=I3.call' (ch:=fp) J4.os J4.base J4.hok J4.bare λ b hb=>⟨(hex b hb).1.2.2.2.1,(hex b hb).1.2.1,(hex b hb).1.2.2.2.2.1,(hex b hb).1.2.2.2.2.2⟩;exact hR _ _ s4 H3 mc hmc (I3.fpOk (Nat.le_refl _) J4.free) I5 qn
  .refine Br (thn (T.item (AK X scope cl N h3.objs.size { s2 with heap:=h3 } (upd H2 s2.heap.objs.size (.lst [])) fp) rfl rfl rfl hc i [] s3 σ3 H3 (λ_ _=>False) J3 (stat fr3) st3 go) λ r s4 hz_=>?_);obtain⟨u,hr,h4⟩:=hz_;subst hr;refine Br (thn h4 λ_ s5 hz_=>?_);obtain⟨x,H5,J5,r5,y5,st5,fr5⟩:=hz_;have J5':=J5.pinned (stat fr5) (T.obj _ _ st5);refine Br (thn (hg _ _ _ _ _ _ s5 σ3 H5 x u _ J5' r5 (step x H5 y5)) λ_ s6 hz_=>?_);obtain⟨σ6,H6,J6,q6⟩:=hz_;refine Br (thn (he _ _ _ _ _ _ s6 σ6 H6 _ J6 q6) λ y s7 hz_=>?_);obtain⟨v7,H7,J7,r7,xs,hx,hz,m',hm',w7⟩:=hz_;refine Br (thn (AG _ s7 σ6 H7 (.ref s2.heap.objs.size) [v7] (.ref s2.heap.objs.size) [y] (λ v H8=>H8=upd H7 s2.heap.objs.size (.lst (xs++[v7]))) J7 rfl (.cons r7 .nil) ⟨_,xs,v7,rfl,rfl,hx,hz,rfl⟩) λ_ s8 hz_=>?_);obtain⟨_,H8,J8,_,e8⟩:=hz_;subst e8;refine⟨m',hm',i+1,σ6,_,J8.unpinned,T.keep _ _ _ st5 λ b hb o e=>(J8.pin (b,o) (List.mem_append_right _ (List.mem_append_right _ (AY hb e)))).1,λ b hb=>?_,w7⟩;obtain⟨o,e,d⟩:=T.obj _ _ st5 b hb;exact(J8.pin (b,o) (List.mem_append_right _ (List.mem_append_right _ (AY hb e)))).2.1
 exact codeAny_compStart_list loop (T.self _ 0 _ _ _ (stn _ _ _ st2 λ b o e=>k34 b o (k23 b o e)) loop)
theorem Gh(I:X.Ok)(ck:ES X.env.scope X.N scope N fr):∃cl,closureFor scope X.env=pure cl/\(∀x c,cl.lookup x=some c->X.env.cells.lookup x=some c)/\(∀x,(x,NameKind.free)∈scope.names->∃c,cl.lookup x=some c) :=
 MR λ y hy e=>I.has y.1 (NI (ck.free y hy e))
theorem DW(hc:X.calm=true)(hi:PI X tg iter wi)(hg:∀cl C s H ex,PG (AK X scope cl N C s H ex) tg g)(he:∀cl C s H ex,PE (AK X scope cl N C s H ex) elt te)
  (hk:Eb X.env.scope X.N scope N fr=true:=by rfl) (hs:∀x,foldedSetIterable iter X.env x=pure x:=by intro _;rfl):PE X (.ListComp elt [⟨tg,iter,[],0⟩] scope pos) (Pp wi g te fr):=by
 intro pins s σ H Q I h;have ck:=Dw hk;obtain⟨cl,e1,c1,c2⟩:=Gh I.ok ck;rw[eval_ListComp];refine wpAny_comprehension_free (use:=none) (Q:=EP X pins σ Q) rfl hs e1 ck.kind ck.loc (IV (R:=λ acc C=>compPost (model X.prog X.w) X.A X.xe none (EP X pins σ Q) acc C) hc I hi hg he ck c1 c2 h λ acc C s' H' m hn f I' q=>?_);obtain⟨f0,f1,f2,f3,f4,f5⟩:=f;exact⟨m,hn,λ h' hs'=>⟨.ref acc,H',I'.turned (t':=s'.toks) (λ b o hb e=>hs'.extBut b o hb e) f0 f1 f3 f4 f5,rfl,q⟩⟩
theorem Dn{y:Str}{py spos:Pos}{gy:TG}(hc:X.calm=true)(hy:PG X (.Name y py) gy)(hi:PI X tg iter wi)(hg:∀cl C s H ex,PG (AK X scope cl N C s H ex) tg g)(he:∀cl C s H ex,PE (AK X scope cl N C s H ex) elt te)
    (hk:Eb X.env.scope X.N scope N fr=true:=by rfl) (hsw:swapsWith (.ListComp elt [⟨tg,iter,[],0⟩] scope pos) (some (.Name y py)) spos.line X.env=pure true:=by rfl) (hs:∀x,foldedSetIterable iter X.env x=pure x:=by intro _;rfl) :
    PS X (.Assign [.Name y py] (.ListComp elt [⟨tg,iter,[],0⟩] scope pos) spos) (Re (Pp wi g te fr) gy):=by
  intro pins s σ H D I h;have ck:=Dw hk;obtain⟨cl,e1,c1,c2⟩:=Gh I.ok ck;rw[exec_Assign_Name_used _ _ _ _ hsw];refine wpAny_bind (wpAny_standAt (wpAny_bind ?_));show wpAny _ X.A (do let _ <-comprehension (.ListComp elt [⟨tg,iter,[],0⟩] scope pos) scope X.env _ (newList []) false (eval iter X.env) (some (assign (.Name y py) X.env))) _ _ s;refine wpAny_bind (wpAny_mono (wpAny_comprehension_free (use:=some (assign (.Name y py) X.env)) (Q:=λ_ s'=>SP X pins D .next s') rfl hs e1 ck.kind ck.loc
    (IV (R:=λ acc C=>compPost (model X.prog X.w) X.A X.xe (some (assign (.Name y py) X.env)) (λ_ s'=>SP X pins D .next s') acc C) hc I hi hg he ck c1 c2 h λ acc C s' H' m hn f I' q=>?_)) (λ_ s' hq=>wpAny_pure (wpAny_pure hq)) λ_ _ e=>e)
  show wpAny _ X.A (assign (.Name y py) X.env (.ref acc)) _ _ _;obtain⟨oC,es,ep,hoC,hdC,hrC⟩:=id hn;have IP:=I'.pinned (fp:=[C]) (λ b hb=>by rw[List.mem_singleton.mp hb];exact f) (λ b hb=>by rw[List.mem_singleton.mp hb];exact⟨oC,hoC,λ v z=>by rw[hdC]at z;cases z⟩);refine thn (hy _ s' σ H' (.ref acc) (.ref acc) _ IP rfl q) λ_ s'' ⟨σ6,H6,I6,q6⟩=>?_;have pC:=I6.pin (C,oC) (List.mem_append_right _ (List.mem_append_right _ (AY (List.mem_singleton.mpr rfl) hoC)));obtain⟨f0,f1,f2,f3,f4,f5⟩:=f;exact⟨m,⟨oC,es,ep,pC.1,hdC,hrC⟩,λ h' hs'=>⟨σ6,H6,I6.unpinned.turned (t':=s''.toks) (λ b o hb e=>hs'.extBut b o hb e) pC.2.1 f1 f3 f4 f5,q6⟩⟩
end
section
variable{X:Cx}
def QU(_ j:Int):Prop:=0<j/\j.natAbs.log2<9000
theorem KS:OpR X (binaryOp .FloorDiv) (rI QU λ i j=>.int (i / j)):=opI λ i j _ _ _ _ _ hc q=>by
 have h1:(0:Int)<j:=hc.1;exact floordiv_int (by lia) (by rw[Int.fdiv_eq_ediv_of_nonneg i (by lia)];exact q) (.inl (PyProof.noPylong_of_log2 hc.2))
theorem R8:OpR X (binaryOp .Mult) (rI IntMulOk λ i j=>.int (i*j)):=opI λ_ _ _ _ _ _ _ hc q=>mul_int q hc
theorem GP{n k:Nat}(hk:0<k)(h:n<2^k):n.log2<k:=by
 rcases Nat.eq_zero_or_pos n with h0|hp
 .rw[h0];simpa using hk
 .exact(Nat.log2_lt (Nat.ne_of_gt hp)).mpr h
theorem GY{z:Int}{k:Nat}(hk:0<k)(h:z.natAbs<2^k):Builtin.Int.intBits z<=k:=by
 unfold Builtin.Int.intBits;split
 .exact Nat.zero_le _
 .exact GP hk h
theorem Qc{a b:Int}(h1:a.natAbs<2^128)(h2:b.natAbs<2^128):IntMulOk a b:=by
 have e1:=GY (by decide) h1;have e2:=GY (by decide) h2;unfold IntMulOk Builtin.Int.intTooBig;intro h;simp only[Bool.and_eq_true,decide_eq_true_eq]at h;have h3:=h.2;have hb:(256:Int)<=(bitsLine:Int):=by decide +kernel
 lia
def tyO:Option HO->Option String
 |some (.lst _)=>some "list"
 |some (.frz _ (.lst _))=>some "list"
 |some (.tup _)=>some "tuple"
 |some (.dK _)=>some "dict"
 |some (.dT _)=>some "dict"
 |_=>none
def tyS(H:Hp):V->Option String
 |.non=>some "NoneType"
 |.bl _=>some "bool"
 |.int _=>some "int"
 |.str _=>some "str"
 |.ref a=>tyO (H a)
 |_=>none
theorem SB{K:Frag}{H:Hp}{x:V}{T:String}(h:tyS H x=some T):F1 K H x (.type T)/\(T="NoneType"\/T="bool"\/T="int"\/T="str"\/T="list"\/T="tuple"\/T="dict"):=by
 unfold tyS at h;split at h
 .cases h;exact⟨.non,by simp⟩
 .cases h;exact⟨.bl _,by simp⟩
 .cases h;exact⟨.int _,by simp⟩
 .cases h;exact⟨.str _,by simp⟩
 .unfold tyO at h;split at h
  .rename_i e;cases h;exact⟨.lst e,by simp⟩
  .rename_i e;cases h;exact⟨.frz e,by simp⟩
  .rename_i e;cases h;exact⟨.tup e,by simp⟩
  .rename_i e;cases h;exact⟨.dK e,by simp⟩
  .rename_i e;cases h;exact⟨.dT e,by simp⟩
  .cases h
 .cases h
def isB(T c:String):Bool:=decide (T=c)||(decide (T="bool")&&decide (c="int"))
theorem Qj:isB "tuple" "tuple"=true:=by decide
theorem RH{K:Frag}{T c:String}(h:T="NoneType"\/T="bool"\/T="int"\/T="str"\/T="list"\/T="tuple"\/T="dict")(hc:c="int"\/c="bool"\/c="tuple"\/c="list"\/c="str") :
  kitOne K (.type T) (.type c)=some (isB T c):=by
 rcases h with rfl|rfl|rfl|rfl|rfl|rfl|rfl<;>rcases hc with rfl|rfl|rfl|rfl|rfl<;>rfl
inductive S6(xs:LUz)(H:Hp)(Q:VK):Prop
 |mk (x:V) (T c:String) (e:xs=[x,.ty c]) (t:tyS H x=some T) (h:c="int"\/c="bool"\/c="tuple"\/c="list"\/c="str") (q:Q (.bl (isB T c)) H):S6 xs H Q
theorem Ed:D5 X (.builtin "isinstance") (λ xs H Q=>S6 xs H Q):=by
 intro pins s σ H xs us Q I r h;obtain⟨x,T,c,rfl,hT,hc,q⟩:=h;obtain⟨u,w',rfl,rx,ry⟩:=Ph r;cases(show w'=Value.type c from ry);obtain⟨ty,hl⟩:=SB (K:=X.K) hT;exact IQ I rx ty (RH hl hc) λ tk=>⟨.bl (isB T c),H,I.tok tk,rfl,q⟩
theorem OU{bs:List Bool}{its:LWz}(r:Vals (bs.map V.bl) its){i:Nat}{v:Value}(h:its.toArray[i]?=some v):v=.bool (bs.getD i false):=by
 have hl:=r.length;have hi:i<its.length:=by
  have:=(Array.getElem?_eq_some_iff.mp h).1
  simpa using this
 have hb:bs[i]?=some (bs.getD i false):=by
  have:i<bs.length:=by rw[List.length_map]at hl;lia
  rw[List.getD_eq_getElem?_getD,List.getElem?_eq_getElem this];rfl
 obtain⟨u,hu,ru⟩:=r.get (i:=i) (x:=.bl (bs.getD i false)) (by rw[List.getElem?_map,hb];rfl);have h':its[i]?=some v:=by simpa using h
 rw[h']at hu;cases hu;exact ru
theorem O1{α:Type}(bs:List Bool):(List.range bs.length).all (λ i=>bs.getD i false)=bs.all id:=by
 have e:(List.range bs.length).map (λ i=>bs.getD i false)=bs:=by
  apply List.ext_getElem?;intro i;rw[List.getElem?_map];by_cases h:i<bs.length
  .rw[List.getElem?_range h,List.getElem?_eq_getElem h,Option.map_some,List.getD_eq_getElem?_getD,List.getElem?_eq_getElem h];rfl
  .rw[List.getElem?_eq_none (by simpa using h),List.getElem?_eq_none (by lia)];rfl
 conv=>rhs;rw[<-e]
 rw[List.all_map];rfl
theorem O0{α:Type}(bs:List Bool):(List.range bs.length).any (λ i=>bs.getD i false)=bs.any id:=by
 have e:(List.range bs.length).map (λ i=>bs.getD i false)=bs:=by
  apply List.ext_getElem?;intro i;rw[List.getElem?_map];by_cases h:i<bs.length
  .rw[List.getElem?_range h,List.getElem?_eq_getElem h,Option.map_some,List.getD_eq_getElem?_getD,List.getElem?_eq_getElem h];rfl
  .rw[List.getElem?_eq_none (by simpa using h),List.getElem?_eq_none (by lia)];rfl
 conv=>rhs;rw[<-e]
 rw[List.any_map];rfl
theorem F5{prog:Program}{w:World}{A:Around}{bs:List Bool}{its:LWz}(r:Vals (bs.map V.bl) its):TruthOf prog w A (λ i v=>its.toArray[i]?=some v) (λ i=>bs.getD i false):=by
 intro i v s Q E hv hq;have e:=OU r hv;subst e;exact wpAny_truthy_bool hq
theorem Hn:D5 X (.builtin "all") (λ xs H Q=>∃(p:Addr)(bs:List Bool),xs=[.ref p]/\SqL X.K H p (bs.map V.bl)/\X.calm=true/\Q (.bl (bs.all id)) H):=by
 intro pins s σ H xs us Q I r h;obtain⟨p,bs,rfl,hp,hc,q⟩:=h;obtain⟨u,rfl,ru⟩:=F4 r;cases ru;obtain⟨its,rv,pl,hz⟩:=I.list hp;have hl:=rv.length;rw[List.length_map]at hl;refine call_all_walk (wpAny_pyIter_list pl.isList ?_);have hlt:p<s.heap.objs.size:=by obtain⟨o,ho,_⟩:=pl.isList;exact Heap.lt_size ho
 refine⟨s.heap.objs.size,_,_,_,_,_,_,rfl,Walks.list (show X.A.in1.handled=none from I.ok.hd hc) s.heap.objs.size p (Nat.ne_of_lt hlt) its.toArray,⟨⟨_,Heap.get?_push_size _ rfl,rfl,rfl⟩,let ⟨o,ho,r⟩:=pl.isList;⟨o,Heap.get?_push_of_some _ ho,r⟩⟩,F5 rv,λ h' tk k=>?_⟩;refine⟨.bl (bs.all id),H,I.kept (t':=tk) λ b o e=>k b o (λ z=>?_) (Heap.get?_push_of_some _ e),?_,q⟩
 .have:b=s.heap.objs.size:=by simpa using z
  exact absurd (this ▸ Heap.lt_size e) (Nat.lt_irrefl _)
 .show Value.bool _=Value.bool _;rw[List.size_toArray,<-hl,O1 (α:=Nat)]
theorem QC:D5 X (.builtin "any") (λ xs H Q=>∃(p:Addr)(bs:List Bool),xs=[.ref p]/\SqL X.K H p (bs.map V.bl)/\X.calm=true/\Q (.bl (bs.any id)) H):=by
 intro pins s σ H xs us Q I r h;obtain⟨p,bs,rfl,hp,hc,q⟩:=h;obtain⟨u,rfl,ru⟩:=F4 r;cases ru;obtain⟨its,rv,pl,hz⟩:=I.list hp;have hl:=rv.length;rw[List.length_map]at hl;refine call_any_walk (wpAny_pyIter_list pl.isList ?_);have hlt:p<s.heap.objs.size:=by obtain⟨o,ho,_⟩:=pl.isList;exact Heap.lt_size ho
 refine⟨s.heap.objs.size,_,_,_,_,_,_,rfl,Walks.list (show X.A.in1.handled=none from I.ok.hd hc) s.heap.objs.size p (Nat.ne_of_lt hlt) its.toArray,⟨⟨_,Heap.get?_push_size _ rfl,rfl,rfl⟩,let ⟨o,ho,r⟩:=pl.isList;⟨o,Heap.get?_push_of_some _ ho,r⟩⟩,F5 rv,λ h' tk k=>?_⟩;refine⟨.bl (bs.any id),H,I.kept (t':=tk) λ b o e=>k b o (λ z=>?_) (Heap.get?_push_of_some _ e),?_,q⟩
 .have:b=s.heap.objs.size:=by simpa using z
  exact absurd (this ▸ Heap.lt_size e) (Nat.lt_irrefl _)
 .show Value.bool _=Value.bool _;rw[List.size_toArray,<-hl,O0 (α:=Nat)]
end
structure Ay(P:Program)(w:World)(K:Frag)(mg:MGz)(base:Heap)(k:Nat)(x:Str)(ps:LSz)(sp:Sp):Prop where
 ex:∃(f:Addr)(fd:FuncData),A5 P w K mg base CX0 k f fd ps sp/\mg x=some (.ref f)/\keepIn K (.ref f)=true/\Binds K fd ps []
section
variable{X:Cx}{k j:Nat}{x:Str}{ps:LSz}{sp:Sp}{p pos:Pos}{e:Expr}{es:List Expr}{t:TA}
theorem Au(D:Ay X.prog X.w X.K X.mg X.base k x ps sp)(hr:Room j X.A)(ha:PA X (e::es) t)(hj:k<=j:=by decide)(hg:Gl X x:=by rfl)(hdb:(x==("__debug__":Str))=false:=by decide)
  (he:starEach (e::es) X.env=(false,eval e X.env)::starEach es X.env:=by rfl) (hpl:(backTo pos (starEach es X.env)).any (·.1)=false:=by rfl):PE X (.Call (.Name x p) (e::es) [] pos) (Pr sp [] E0 t):=by
 obtain⟨f,fd,F,hm,hk,hb⟩:=D.ex;exact R7 F (hr.mono hj) hg hm hk hb .nil G8 ha hdb he hpl
end
theorem Av{xs:LUz}(n:Nat)(h:xs.length=n:=by rfl)(h2:n<=1000:=by decide):xs.length<=sizeLine:=by rw[h];exact Nat.le_of_lt (Am h2)
theorem Bq{c:Bool}{A B:Prop}(h:c=false)(b:B):if c=true then A else B:=by rw[if_neg (by rw[h];exact Bool.false_ne_true)];exact b
theorem Bw{c:Bool}{A B:Prop}(h1:c=true->A)(h2:c=false->B):if c=true then A else B:=by
 cases c with
 |true=>exact Tn (h1 rfl)
 |false=>exact Qh (h2 rfl)
theorem decI{i j:Int}:decide (V.int i=V.int j)=true↔i=j:=by
 rw[decide_eq_true_eq];exact⟨λ h=>by injection h,λ h=>by rw[h]⟩
def SameX(p:Addr)(H H':Hp):Prop:=∀b o,b≠p->H b=some o->H' b=some o
theorem SameX.refl{p:Addr}{H:Hp}:SameX p H H:=λ_ _ _ h=>h
theorem SameX.trans{p:Addr}{H H1 H2:Hp}(a:SameX p H H1)(b:SameX p H1 H2):SameX p H H2:=λ c o n h=>b c o n (a c o n h)
theorem SameX.upd{p:Addr}{H:Hp}{o:HO}:SameX p H (upd H p o):=λ b u n h=>by rw[Ae n];exact h
theorem SameX.new{p l:Addr}{H:Hp}{o:HO}(h:H l=none):SameX p H (L2.upd H l o):=λ b u _ e=>by rw[Ae (Ad e h)];exact e
theorem Same.new{l:Addr}{H:Hp}{o:HO}(h:H l=none):Same H (L2.upd H l o):=λ b u e=>by rw[Ae (Ad e h)];exact e
theorem Same.x{p:Addr}{H H':Hp}(a:Same H H'):SameX p H H':=λ b o _ e=>a b o e
def cW(acc:Addr)(n:Nat)(Pv:Nat->LUz->St->Hp->Prop)(i m:Nat)(σ:St)(H:Hp):Prop:=i<=n/\m=n-i/\∃xs,xs.length=i/\H acc=some (.lst xs)/\Pv i xs σ H
def cNx(acc:Addr)(n:Nat)(Pv:Nat->LUz->St->Hp->Prop)(i:Nat)(σ:St)(v:V)(H:Hp):Prop:=∃xs,H acc=some (.lst xs)/\xs.length<sizeLine/\∃m',m'<n-i/\cW acc n Pv (i+1) m' σ (upd H acc (.lst (xs++[v])))
theorem cNx.mk{acc:Addr}{n:Nat}{Pv:Nat->LUz->St->Hp->Prop}{i:Nat}{σ:St}{v:V}{H:Hp}{xs:LUz}(hn:n<=sizeLine)(hi:i<n)(hl:xs.length=i)(ha:H acc=some (.lst xs))(hp:Pv (i+1) (xs++[v]) σ (upd H acc (.lst (xs++[v])))) :
  cNx acc n Pv i σ v H:=⟨xs,ha,by lia,n-(i+1),by lia,hi,rfl,xs++[v],by rw[List.length_append,hl];rfl,Ab,hp⟩
theorem MQ{lo:Int}{n:Nat}{g:TG}{te:TE}{σ:St}{H1:Hp}{acc:Addr}{Qr:Hp->Prop}(Pv:Nat->LUz->St->Hp->Prop)(h0:Pv 0 [] σ (upd H1 acc (.lst [])))
  (hs:∀i xs σ H,i<n->xs.length=i->H acc=some (.lst xs)->Pv i xs σ H->g (.int (lo+i)) σ H λ σ2 H2=>te σ2 H2 λ v H3=>cNx acc n Pv i σ2 v H3)
  (hd:∀xs σ H,xs.length=n->H acc=some (.lst xs)->Pv n xs σ H->Qr H) :
  ∃W:Nat->Nat->St->Hp->Prop,(∃m,W 0 m σ (upd H1 acc (.lst [])))/\∀i m σ1 H2,W i m σ1 H2 ->
   ((Itr lo n).stop i H2/\Qr H2)\/((Itr lo n).go i H2/\∀x H3,(Itr lo n).yld i H2 x H3->g x σ1 H3 λ σ4 H4=>te σ4 H4 λ v H5=>∃xs,H5 acc=some (.lst xs)/\xs.length<sizeLine/\∃m',m'<m/\W (i+1) m' σ4 (upd H5 acc (.lst (xs++[v])))):=by
 refine⟨cW acc n Pv,⟨n,Nat.zero_le _,rfl,[],rfl,Ab,h0⟩,?_⟩;rintro i m σ1 H2 ⟨hi,rfl,xs,hl,ha,hp⟩;rcases Nat.lt_or_ge i n with h|h
 .refine .inr ⟨h,?_⟩;rintro x H3 ⟨rfl,rfl⟩;exact hs i xs σ1 H3 h hl ha hp
 .have e:i=n:=Nat.le_antisymm hi h;subst e;exact .inl ⟨Nat.le_refl _,hd xs σ1 H2 hl ha hp⟩
theorem B7{K:Frag}{a:Addr}{ys:LUz}{g:TG}{te:TE}{σ:St}{H1:Hp}{acc:Addr}{Qr:Hp->Prop}(Pv:Nat->LUz->St->Hp->Prop)(h0:Pv 0 [] σ (upd H1 acc (.lst [])))
  (hq:∀i xs σ H,i<=ys.length->H acc=some (.lst xs)->Pv i xs σ H->SqL K H a ys)
  (hs:∀i x xs σ H,ys[i]?=some x->i<ys.length->xs.length=i->H acc=some (.lst xs)->Pv i xs σ H->g x σ H λ σ2 H2=>te σ2 H2 λ v H3=>cNx acc ys.length Pv i σ2 v H3)
  (hd:∀xs σ H,xs.length=ys.length->H acc=some (.lst xs)->Pv ys.length xs σ H->Qr H) :
  ∃W:Nat->Nat->St->Hp->Prop,(∃m,W 0 m σ (upd H1 acc (.lst [])))/\∀i m σ1 H2,W i m σ1 H2 ->
   ((Itl K a).stop i H2/\Qr H2)\/((Itl K a).go i H2/\∀x H3,(Itl K a).yld i H2 x H3->g x σ1 H3 λ σ4 H4=>te σ4 H4 λ v H5=>∃xs,H5 acc=some (.lst xs)/\xs.length<sizeLine/\∃m',m'<m/\W (i+1) m' σ4 (upd H5 acc (.lst (xs++[v])))):=by
 refine⟨cW acc ys.length Pv,⟨ys.length,Nat.zero_le _,rfl,[],rfl,Ab,h0⟩,?_⟩;rintro i m σ1 H2 ⟨hi,rfl,xs,hl,ha,hp⟩;have hsq:=hq i xs σ1 H2 hi ha hp;rcases Nat.lt_or_ge i ys.length with h|h
 .refine .inr ⟨⟨ys,ys[i],hsq,List.getElem?_eq_getElem h⟩,?_⟩;rintro x H3 ⟨rfl,hx⟩;exact hs i x xs σ1 H3 (hx ys hsq) h hl ha hp
 .have e:i=ys.length:=Nat.le_antisymm hi h;subst e;exact .inl ⟨⟨ys,hsq,Nat.le_refl _⟩,hd xs σ1 H2 hl ha hp⟩
theorem Q9{K:Frag}{a:Addr}{ys:LUz}{g:TG}{te:TE}{σ:St}{H1:Hp}{acc:Addr}{Qr:Hp->Prop}(Pv:Nat->LUz->St->Hp->Prop)(h0:Pv 0 [] σ (upd H1 acc (.lst [])))
  (hq:∀i xs σ H,i<=ys.length->H acc=some (.lst xs)->Pv i xs σ H->SqT K H a ys)
  (hs:∀i x xs σ H,ys[i]?=some x->i<ys.length->xs.length=i->H acc=some (.lst xs)->Pv i xs σ H->g x σ H λ σ2 H2=>te σ2 H2 λ v H3=>cNx acc ys.length Pv i σ2 v H3)
  (hd:∀xs σ H,xs.length=ys.length->H acc=some (.lst xs)->Pv ys.length xs σ H->Qr H) :
  ∃W:Nat->Nat->St->Hp->Prop,(∃m,W 0 m σ (upd H1 acc (.lst [])))/\∀i m σ1 H2,W i m σ1 H2 ->
   ((Itt K a).stop i H2/\Qr H2)\/((Itt K a).go i H2/\∀x H3,(Itt K a).yld i H2 x H3->g x σ1 H3 λ σ4 H4=>te σ4 H4 λ v H5=>∃xs,H5 acc=some (.lst xs)/\xs.length<sizeLine/\∃m',m'<m/\W (i+1) m' σ4 (upd H5 acc (.lst (xs++[v])))):=by
 refine⟨cW acc ys.length Pv,⟨ys.length,Nat.zero_le _,rfl,[],rfl,Ab,h0⟩,?_⟩;rintro i m σ1 H2 ⟨hi,rfl,xs,hl,ha,hp⟩;have hsq:=hq i xs σ1 H2 hi ha hp;rcases Nat.lt_or_ge i ys.length with h|h
 .refine .inr ⟨⟨ys,ys[i],hsq,List.getElem?_eq_getElem h⟩,?_⟩;rintro x H3 ⟨rfl,hx⟩;exact hs i x xs σ1 H3 (hx ys hsq) h hl ha hp
 .have e:i=ys.length:=Nat.le_antisymm hi h;subst e;exact .inl ⟨⟨ys,hsq,Nat.le_refl _⟩,hd xs σ1 H2 hl ha hp⟩
section
variable{cmp:Nat->Nat->(Bool->Shared->Prop)->Shared->Prop}{key:Nat->Int}{N:Nat}{s:Shared}
def KP(key:Nat->Int)(p:Array Nat)(i:Nat):Int:=key (p.getD i 0)
def PermN(N:Nat)(p:Array Nat):Prop:=p.toList.Perm (List.range N)
theorem PermN.size{p:Array Nat}(h:PermN N p):p.size=N:=by
 have:=List.Perm.length_eq h;rw[List.length_range]at this
 simpa using this
theorem PermN.lt{p:Array Nat}(h:PermN N p){i:Nat}(hi:i<N):p.getD i 0<N:=by
 have hs:=h.size;have hi':i<p.size:=by lia
 have e:p.getD i 0=p[i]:=by simp[Array.getD,hi']
 rw[e];have hm:p[i]∈p.toList:=by simp
 exact List.mem_range.mp ((List.Perm.mem_iff h).mp hm)
theorem PermN.of{p q:Array Nat}(h:PermN N p)(hq:q.Perm p):PermN N q:=(Array.perm_iff_toList_perm.mp hq).trans h
def Hq(key:Nat->Int)(p:Array Nat)(k:Nat):Prop:=∀i j,i<=j->j<k->KP key p i<=KP key p j
def Nb(key:Nat->Int)(p:Array Nat)(k:Nat):Prop:=∀i j,i<=j->j<k->KP key p j<=KP key p i
theorem DS{p q:Array Nat}{i j:Nat}(h:p[i]?=q[j]?):KP key p i=KP key q j:=by
 unfold KP;rw[Array.getD_eq_getD_getElem?,Array.getD_eq_getD_getElem?,h]
theorem Hy{p:Array Nat}{i j:Nat}(hj:j<=p.size)(k:Nat):KP key (kas_rev p i j) k=if i<=k/\k<j then KP key p (i+j-1-k) else KP key p k:=by
 have e:=getElem?_mirror_all (i:=i) hj k;by_cases h:i<=k/\k<j
 .rw[if_pos h]at e |-;exact DS e
 .rw[if_neg h]at e |-;exact DS e
theorem Je{p:Array Nat}{src d:Nat}(hs:src<p.size)(hd:d<=src)(k:Nat) :
  KP key (bubble p src d) k=if k=src-d then KP key p src else if src-d<k/\k<=src then KP key p (k-1) else KP key p k:=by
 have e:=getElem?_bubble hs d hd k;by_cases h1:k=src-d
 .rw[if_pos h1]at e |-;exact DS e
 .rw[if_neg h1]at e |-;by_cases h2:src-d<k/\k<=src
  .rw[if_pos h2]at e |-;exact DS e
  .rw[if_neg h2]at e |-;exact DS e
theorem PermN.rev{p:Array Nat}(h:PermN N p)(i j:Nat):PermN N (kas_rev p i j):=h.of (mirror_perm _ _ _ _)
theorem PermN.bub{p:Array Nat}(h:PermN N p)(i j:Nat):PermN N (bubble p i j):=h.of (bubble_perm _ _ _)
theorem Rh{p:Array Nat}{n:Nat}(h:Hq key p n)(hn:1<=n)(hc:KP key p (n-1)<=KP key p n):Hq key p (n+1):=λ i j hij hj=>by
 by_cases e:j=n
 .subst e;by_cases e2:i=j
  .subst e2;exact Int.le_refl _
  .exact Int.le_trans (h i (j-1) (by lia) (by lia)) hc
 .exact h i j hij (by lia)
theorem Ga{p:Array Nat}{n:Nat}(h:Nb key p n)(hn:1<=n)(hc:KP key p n<=KP key p (n-1)):Nb key p (n+1):=λ i j hij hj=>by
 by_cases e:j=n
 .subst e;by_cases e2:i=j
  .subst e2;exact Int.le_refl _
  .exact Int.le_trans hc (h i (j-1) (by lia) (by lia))
 .exact h i j hij (by lia)
variable(hcmp:∀i j (C:Bool->Shared->Prop),i<N->j<N->C (decide (key i<key j)) s->cmp i j C s)
include hcmp
theorem MS{p:Array Nat}(hp:PermN N p){G:Nat->Shared->Prop}:∀(f n:Nat),1<=n->n+f<=N->Hq key p n->(∀m,n<=m->m<=n+f->Hq key p m->(m<n+f->KP key p m<KP key p (m-1))->G m s)->(kas_asc p f n).kasWp cmp G s
 |0,n,h1,hn,hs,hG=>hG n (Nat.le_refl _) (by lia) hs (λ h=>absurd h (by lia))
 |f+1,n,h1,hn,hs,hG=>by
  show cmp _ _ _ s;refine hcmp _ _ _ (hp.lt (by lia)) (hp.lt (by lia)) ?_;by_cases h:key (p.getD n 0)<key (p.getD (n-1) 0)
  .rw[decide_eq_true h];simp only[if_true];exact hG n (Nat.le_refl _) (by lia) hs λ_=>h
  .rw[decide_eq_false h];simp only[Bool.false_eq_true,if_false];exact MS hp f (n+1) (by lia) (by lia) (Rh hs h1 (by unfold KP;lia)) λ m a b c d=>hG m (by lia) (by lia) c λ z=>d (by lia)
theorem K2{p:Array Nat}(hp:PermN N p){n:Nat}(h1:1<=n)(hn:n<=N)(hs:Nb key p n){G:Nat×Array Nat->Shared->Prop}(hG:∀m q,1<=m->m<=N->PermN N q->Hq key q m->G (m,q) s):(kas_tail3 n N p).kasWp cmp G s:=by
 unfold kas_tail3;rw[KasT.kasWp_bind];have hz:=hp.size;refine MS hcmp (hp.rev 0 n) (N-n) n h1 (by lia) (λ i j hij hj=>?_) λ m a b c _=>hG m _ (by lia) (by lia) (hp.rev 0 n) c;rw[Hy (by lia),Hy (by lia),if_pos (by lia),if_pos (by lia)];exact hs _ _ (by lia) (by lia)
theorem Gf{G:Array Nat×Nat×Nat->Shared->Prop}:∀(f:Nat)(p:Array Nat)(n q:Nat),PermN N p->1<=n->n+f<=N->q<n->Nb key p n->(∀i,n-1-q<=i->i<n->KP key p i=KP key p (n-1)) ->
  (∀p' m r,PermN N p'->1<=m->m<=N->r<m->Nb key p' m->(∀i,m-1-r<=i->i<m->KP key p' i=KP key p' (m-1))->G (p',m,r) s)->(kas_desc f p n q).kasWp cmp G s
 |0,p,n,q,hp,h1,hn,hq,hs,he,hG=>hG p n q hp h1 (by lia) hq hs he
 |f+1,p,n,q,hp,h1,hn,hq,hs,he,hG=>by
  have hz:=hp.size;show cmp _ _ _ s;refine hcmp _ _ _ (hp.lt (by lia)) (hp.lt (by lia)) ?_;by_cases h:key (p.getD n 0)<key (p.getD (n-1) 0)
  .rw[decide_eq_true h];simp only[if_true];have h':KP key p n<KP key p (n-1):=h;have key1:Nb key p (n+1):=Ga hs h1 (by lia);by_cases hq0:q>0
   .rw[if_pos hq0];have same:∀k,KP key (kas_rev p (n-(q+1)) n) k=KP key p k:=λ k=>by
     rw[Hy (by lia)];split
     .rw[he _ (by lia) (by lia),he k (by lia) (by lia)]
     .rfl
    refine Gf f _ (n+1) 0 (hp.rev _ _) (by lia) (by lia) (by lia) (λ i j hij hj=>?_) (λ i a b=>?_) hG
    .rw[same,same];exact key1 i j hij hj
    .rw[show i=n+1-1 by lia]
   .rw[if_neg hq0];exact Gf f _ (n+1) 0 hp (by lia) (by lia) (by lia) key1 (λ i a b=>by rw[show i=n+1-1 by lia]) hG
  .rw[decide_eq_false h];simp only[Bool.false_eq_true,if_false];show cmp _ _ _ s;refine hcmp _ _ _ (hp.lt (by lia)) (hp.lt (by lia)) ?_;by_cases h2:key (p.getD (n-1) 0)<key (p.getD n 0)
   .rw[decide_eq_true h2];simp only[if_true];exact hG p n q hp h1 (by lia) hq hs he
   .rw[decide_eq_false h2];simp only[Bool.false_eq_true,if_false];have e:KP key p n=KP key p (n-1):=by unfold KP;lia
    refine Gf f p (n+1) (q+1) hp (by lia) (by lia) (by lia) (Ga hs h1 (by lia)) (λ i a b=>?_) hG;by_cases hi:i=n
    .subst hi;rfl
    .rw[he i (by lia) (by lia),<-e];rfl
theorem FE{p:Array Nat}(hp:PermN N p){n:Nat}(hn:n+1<=N)(hs:Nb key p (n+1)){G:Nat×Array Nat->Shared->Prop}(hG:∀m q,1<=m->m<=N->PermN N q->Hq key q m->G (m,q) s):(kas_descPart n N p).kasWp cmp G s:=by
 unfold kas_descPart;rw[KasT.kasWp_bind];refine Gf hcmp (N-(n+1)) p (n+1) 0 hp (by lia) (by lia) (by lia) hs (λ i a b=>by rw[show i=n+1-1 by lia]) λ p' m r hp' h1 hm hr hs' he=>?_;dsimp only;have hz:=hp'.size;split
 .have same:∀k,KP key (kas_rev p' (m-(r+1)) m) k=KP key p' k:=λ k=>by
   rw[Hy (by lia)];split
   .rw[he _ (by lia) (by lia),he k (by lia) (by lia)]
   .rfl
  exact K2 hcmp (hp'.rev _ _) h1 hm (λ i j hij hj=>by rw[same,same];exact hs' i j hij hj) hG
 .exact K2 hcmp hp' h1 hm hs' hG
theorem Q7{p:Array Nat}(hp:PermN N p)(h1:1<=N){G:Nat×Array Nat->Shared->Prop}(hG:∀m q,1<=m->m<=N->PermN N q->Hq key q m->G (m,q) s):(kas_count N p).kasWp cmp G s:=by
 unfold kas_count;rw[KasT.kasWp_bind];have hz:=hp.size;refine MS hcmp hp (N-1) 1 (Nat.le_refl _) (by lia) (λ i j hij hj=>by rw[show i=j by lia];exact Int.le_refl _) λ m a b c d=>?_;split
 .exact hG m p a (by lia) hp c
 .rename_i hne;have hm:m<N:=by
   have:m≠N:=λ e=>hne (by rw[e];exact beq_self_eq_true _);lia
  have hd:=d (by lia);split
  .show cmp _ _ _ s;refine hcmp _ _ _ (hp.lt (by lia)) (hp.lt (by lia)) ?_;by_cases h:key (p.getD 0 0)<key (p.getD (m-1) 0)
   .rw[decide_eq_true h];simp only[if_true];exact hG m p a (by lia) hp c
   .rw[decide_eq_false h];simp only[Bool.false_eq_true,if_false];have h':KP key p (m-1)<=KP key p 0:=by unfold KP;lia
    have eqs:∀i,i<m->KP key p i=KP key p 0:=λ i hi=>Int.le_antisymm (Int.le_trans (c i (m-1) (by lia) (by lia)) h') (c 0 i (by lia) hi);have same:∀k,KP key (kas_rev p 0 m) k=KP key p k:=λ k=>by
     rw[Hy (by lia)];split
     .rw[eqs _ (by lia),eqs k (by lia)]
     .rfl
    refine FE hcmp (hp.rev 0 m) (by lia) (Ga (λ i j hij hj=>?_) a ?_) hG
    .rw[same,same,eqs i (by lia),eqs j (by lia)];exact Int.le_refl _
    .rw[same,same];lia
  .have em:m=1:=by lia
   subst em;exact FE hcmp hp (by lia) (Ga (λ i j hij hj=>by rw[show i=j by lia];exact Int.le_refl _) (Nat.le_refl _) (by lia)) hG
theorem G3{p:Array Nat}(hp:PermN N p){k:Nat}(hk:k<N)(hs:Hq key p k){G:Nat->Shared->Prop}(hG:∀l,l<=k->(∀i,i<l->KP key p i<=KP key p k)->(∀i,l<=i->i<k->KP key p k<KP key p i)->G l s) :
  ∀(f l r:Nat),r-l<=f->l<=r->r<=k->(∀i,i<l->KP key p i<=KP key p k)->(∀i,r<=i->i<k->KP key p k<KP key p i)->(kas_place p k f l r).kasWp cmp G s
 |0,l,r,hf,hlr,hr,ha,hb=>hG l (by lia) ha λ i h1 h2=>hb i (by lia) h2
 |f+1,l,r,hf,hlr,hr,ha,hb=>by
  unfold kas_place;split
  .exact hG l (by lia) ha λ i h1 h2=>hb i (by lia) h2
  .show cmp _ _ _ s;refine hcmp _ _ _ (hp.lt hk) (hp.lt (by lia)) ?_;by_cases h:key (p.getD k 0)<key (p.getD ((l+r) / 2) 0)
   .rw[decide_eq_true h];simp only[if_true];refine G3 hp hk hs hG f l ((l+r) / 2) (by lia) (by lia) (by lia) ha λ i h1 h2=>?_;exact Int.lt_of_lt_of_le h (hs _ i h1 h2)
   .rw[decide_eq_false h];simp only[Bool.false_eq_true,if_false];refine G3 hp hk hs hG f ((l+r) / 2+1) r (by lia) (by lia) hr (λ i h1=>?_) hb;have h2:=hs i ((l+r) / 2) (by lia) (by lia);have h3:KP key p ((l+r) / 2)<=KP key p k:=by unfold KP;lia
    lia
theorem QE{G:Array Nat->Shared->Prop}(hG:∀q,PermN N q->Hq key q N->G q s):∀(f:Nat)(p:Array Nat)(k:Nat),PermN N p->k+f=N->Hq key p k->(kas_bin f p k).kasWp cmp G s
 |0,p,k,hp,hk,hs=>hG p hp (by rw[<-hk];exact hs)
 |f+1,p,k,hp,hk,hs=>by
  unfold kas_bin;rw[KasT.kasWp_bind];have hz:=hp.size;refine G3 hcmp hp (by lia) hs (λ l hl ha hb=>?_) k 0 k (by lia) (by lia) (Nat.le_refl _) (λ i h=>absurd h (by lia)) λ i h1 h2=>absurd h1 (by lia);refine QE hG f _ (k+1) (hp.bub _ _) (by lia) λ i j hij hj=>?_;rw[Je (by lia) (by lia),Je (by lia) (by lia),show k-(k-l)=l by lia];by_cases i1:i=l
  .rw[if_pos i1];by_cases j1:j=l
   .rw[if_pos j1];exact Int.le_refl _
   .rw[if_neg j1,if_pos (by lia)];exact Int.le_of_lt (hb _ (by lia) (by lia))
  .rw[if_neg i1];by_cases i2:l<i/\i<=k
   .rw[if_pos i2,if_neg (by lia),if_pos (by lia)];exact hs _ _ (by lia) (by lia)
   .rw[if_neg i2];by_cases j1:j=l
    .rw[if_pos j1];exact ha i (by lia)
    .rw[if_neg j1];by_cases j2:l<j/\j<=k
     .rw[if_pos j2];exact hs _ _ (by lia) (by lia)
     .rw[if_neg j2];exact hs _ _ hij (by lia)
theorem FC(h1:1<=N){G:Array Nat->Shared->Prop}(hG:∀q:Array Nat,PermN N q->(q.toList.map key).Pairwise (·<=·)->G q s):(kas_sort N).kasWp cmp G s:=by
 have p0:PermN N (List.toArray (List.range N)):=by show List.Perm _ _;simp
 have hG':∀q,PermN N q->Hq key q N->G q s:=λ q hq hs=>hG q hq (by
  have hz:=hq.size;rw[List.pairwise_iff_getElem];intro i j hi hj hij;have hi':i<q.size:=by simpa using hi
  have hj':j<q.size:=by simpa using hj
  have:=hs i j (by lia) (by lia);unfold KP at this;rw[show q.getD i 0=q[i] by simp[Array.getD,hi'],show q.getD j 0=q[j] by simp[Array.getD,hj']]at this
  simpa using this)
 unfold kas_sort;rw[KasT.kasWp_bind];refine Q7 hcmp p0 h1 λ m q hm1 hm2 hq hs=>?_;dsimp only;split
 .exact QE hcmp hG' _ q _ hq (by lia) (by rw[show max m 1=m by lia];exact hs)
 .exact hG' q hq (by rw[show N=m by lia];exact hs)
end
section
variable{prog:Program}{w:World}{A:Around}{E:VPz}{s:Shared}
def B4(h:Heap)(a:Addr)(vs:LWz):Heap:=((h.update a (Obj.mapSeq λ_=>#[])).push (seqObj "tuple" vs.toArray 0)).push (seqObj "list" #[] 0)
theorem JR{h:Heap}{a b:Addr}{vs:LWz}{o:Obj}(hb:b≠a)(e:h.get? b=some o):(B4 h a vs).get? b=some o:=by
 unfold B4;exact Heap.get?_push_of_some _ (Heap.get?_push_of_some _ (by rw[Heap.get?_update_ne _ _ _ _ hb];exact e))
theorem KQ(vs:LWz):(List.range vs.length).map (λ i=>vs.getD i Value.none)=vs:=by
 apply List.ext_getElem?;intro i;rw[List.getElem?_map];by_cases h:i<vs.length
 .rw[List.getElem?_range h,Option.map_some,List.getD_eq_getElem?_getD,List.getElem?_eq_getElem h];rfl
 .rw[List.getElem?_eq_none (by simpa using h),List.getElem?_eq_none (by lia)];rfl
theorem FQ{a:Addr}{vs:LWz}{n:Nat}{P:PySem.Fin->Shared->Prop}{κ:SortKind}{key:Nat->Int}(ho:s.heap.get? a=some (seqObj "list" vs.toArray n))(h64:vs.length<64)
  (hK:∀(Q:SortKind->Shared->Prop)(E:VPz),2<=vs.length->Q κ { s with heap:=B4 s.heap a vs }->wpAny (model prog w) A (keyKind' vs.toArray) Q E { s with heap:=B4 s.heap a vs })
  (hL:∀i j (C:Bool->Shared->Prop),i<vs.length->j<vs.length->C (decide (key i<key j)) { s with heap:=B4 s.heap a vs } ->
   wpAny (model prog w) A (keyLt' κ (vs.getD i Value.none) (vs.getD j Value.none)) C (λ_ _=>False) { s with heap:=B4 s.heap a vs })
  (h:∀q:Array Nat,PermN vs.length q->(q.toList.map key).Pairwise (·<=·)->P (.done (.ret .none)) { s with heap:=sortedHeap s.heap a vs (List.toArray (q.toList.map λ i=>vs.getD i Value.none)) }) :
  wpAny (model prog w) A (Builtin.«list.sort» ⟨[.ref a],[]⟩) P E s:=by
 rw[list_sort_plain];have ha:a<s.heap.objs.size:=Heap.lt_size ho;refine wpAny_bind (listItems_at ho rfl ?_);refine wpAny_bind (listUpdate_at ho rfl ?_ (by rw[List.size_toArray,sizeLine_eq];lia) (Nat.zero_le _));obtain⟨e1,ho1⟩:∃e1,(s.heap.update a (Obj.mapSeq λ_=>#[])).get? a=some (seqObj "list" #[] e1):=⟨_,get?_update_seq ho (λ_=>#[])⟩;refine wpAny_bind (seqEpoch_at ho1 rfl ?_);refine wpAny_bind (wpAny_newTuple ?_ (by show vs.length<=_;rw[sizeLine_eq];lia));refine wpAny_bind (wpAny_newList ?_ (Nat.zero_le _));refine wpAny_holding ?_;have ho6:(B4 s.heap a vs).get? a=some (seqObj "list" #[] e1):=by
  unfold B4;rw[Heap.get?_push_ne _ _ _ (by rw[size_push',Heap.size_update];exact Nat.ne_of_lt (Nat.lt_succ_of_lt ha)),Heap.get?_push_ne _ _ _ (by rw[Heap.size_update];exact Nat.ne_of_lt ha)];exact ho1
 show wpAny (model prog w) A _ P E { s with heap:=B4 s.heap a vs };dsimp only;have hsz:vs.toArray.size=vs.length:=by simp
 by_cases h2:vs.toArray.size<2
 .rw[if_pos h2,if_pos h2];refine wpAny_bind (wpAny_pure ?_);rw[StateT.run_pure];refine wpAny_bind (wpAny_pure ?_);dsimp only;refine wpAny_bind (seqEpoch_at ho6 rfl ?_);refine wpAny_bind (listUpdate_at ho6 rfl ?_ (Nat.zero_le _) (by rw[Array.size_map];show(pairsOf vs).size<=_;rw[pairsOf_size,sizeLine_eq];lia));simp only[bne_self_eq_false,Bool.false_eq_true,if_false];have hh:=h (List.toArray (List.range vs.length)) (by show List.Perm _ _;simp) (by
   rw[hsz]at h2;rcases(by lia:vs.length=0\/vs.length=1) with e|e<;>rw[e]<;>simp[List.range_succ])
  have e3:List.map (λ i=>vs.getD i Value.none) (List.range vs.length).toArray.toList=vs:=KQ vs;rw[e3]at hh;have e2:(arrOf (SortSt.mk' general' (vs.toArray.zip vs.toArray) #[] 7 none)).map (·.2)=vs.toArray:=by
   show(vs.toArray.zip vs.toArray).map (·.2)=vs.toArray;apply Array.ext';simp[List.map_snd_zip]
  refine wpAny_pure ?_;rw[e2];exact hh
 .rw[if_neg h2,if_neg h2];have h2':2<=vs.length:=by lia
  refine wpAny_bind (hK _ _ h2' ?_);refine wpAny_bind (wpAny_mono (kat_run (ks:=vs) (vs:=vs) (Q:=λ st' s'=>s'={ s with heap:=B4 s.heap a vs }/\∃p:Array Nat,p.size=vs.length/\arrOf st'=p.map (kas_item (vs.toArray.zip vs.toArray))/\failedOf st'=none/\PermN vs.length p/\(p.toList.map key).Pairwise (·<=·))
   (G:=λ p s'=>s'={ s with heap:=B4 s.heap a vs }/\PermN vs.length p/\(p.toList.map key).Pairwise (·<=·)) rfl h2' h64 (λ p st' s' a1 a2 a3 a4=>⟨a4.1,p,a1,a2,a3,a4.2⟩)
   (FC (λ i j C hi hj hC=>hL i j C hi hj hC) (by lia) λ q hq hp=>⟨rfl,hq,hp⟩)) ?_ λ_ _ e=>e)
  rintro⟨⟨⟩,st'⟩ s' ⟨rfl,p,hp,har,hf,pp,ps⟩;dsimp only;have hout:=kat_snds rfl har;have hsz2:(List.toArray (p.toList.map λ i=>vs.getD i Value.none)).size=vs.length:=by rw[List.size_toArray,List.length_map,Array.length_toList,hp]
  rw[hout];refine wpAny_bind (seqEpoch_at ho6 rfl ?_);refine wpAny_bind (listUpdate_at ho6 rfl ?_ (Nat.zero_le _) (Nat.le_trans (Nat.le_of_eq hsz2) (by rw[sizeLine_eq];lia)));rw[hf];simp only[bne_self_eq_false,Bool.false_eq_true,if_false];exact wpAny_pure (h p pp ps)
theorem Rn{l:Addr}{vs:LWz}{κ:SortKind}{key:Nat->Int}{Q:VPz}(hl:s.heap.IsList l vs.toArray)(h64:vs.length<64)
  (hK:∀(h':Heap),(∀b o,s.heap.get? b=some o->h'.get? b=some o)->∀(A:Around)(Q:SortKind->Shared->Prop)(E:VPz),2<=vs.length->Q κ { s with heap:=h' }->wpAny (model prog w) A (keyKind' vs.toArray) Q E { s with heap:=h' })
  (hL:∀(h':Heap),(∀b o,s.heap.get? b=some o->h'.get? b=some o)->∀(A:Around) i j (C:Bool->Shared->Prop),i<vs.length->j<vs.length->C (decide (key i<key j)) { s with heap:=h' } ->
   wpAny (model prog w) A (keyLt' κ (vs.getD i Value.none) (vs.getD j Value.none)) C (λ_ _=>False) { s with heap:=h' })
  (h:∀q:Array Nat,PermN vs.length q->(q.toList.map key).Pairwise (·<=·)->Q (.ref (s.heap.objs.size+1)) { s with heap:=sortedAll s.heap vs (List.toArray (q.toList.map λ i=>vs.getD i Value.none)) }) :
  wpAny (model prog w) A (call (.builtin "sorted") [.ref l]) Q E s:=by
 refine Calls.call_function_entry kind_sorted plain_sorted entry_sorted (args_sorted1 _) ?_;unfold Builtin.«sorted»;refine wpAny_bind (m:=checkCount "sorted" 1 1 _) (wpAny_pure ?_);refine wpAny_bind (collect_list hl ?_ (by rw[sizeLine_eq];lia));refine wpAny_bind (wpAny_newList ?_ (by rw[sizeLine_eq];lia));have hsz:((s.heap.push (seqObj "list" #[] 0)).update s.heap.objs.size (Obj.mapSeq (·++vs.toArray))).objs.size=s.heap.objs.size+1:=by
  rw[Heap.size_update,size_push']
 have hoL:(((s.heap.push (seqObj "list" #[] 0)).update s.heap.objs.size (Obj.mapSeq (·++vs.toArray))).push (seqObj "list" vs.toArray 0)).get? (s.heap.objs.size+1)=some (seqObj "list" vs.toArray 0):=by
  rw[<-hsz];exact Heap.get?_push_size _ rfl
 have keep:∀b o,s.heap.get? b=some o->(((s.heap.push (seqObj "list" #[] 0)).update s.heap.objs.size (Obj.mapSeq (·++vs.toArray))).push (seqObj "list" vs.toArray 0)).get? b=some o:=λ b o q=>by
  have hlt:b<s.heap.objs.size:=Heap.lt_size q;rw[Heap.get?_push_ne _ _ _ (by rw[hsz];exact Nat.ne_of_lt (Nat.lt_succ_of_lt hlt)),Heap.get?_update_ne _ _ _ _ (Nat.ne_of_lt hlt),Heap.get?_push_ne _ _ _ (Nat.ne_of_lt hlt)];exact q
 show wpAny _ _ _ _ _ { s with heap:=((s.heap.push (seqObj "list" #[] 0)).update s.heap.objs.size (Obj.mapSeq (·++vs.toArray))).push (seqObj "list" vs.toArray 0) };rw[hsz];have mid:∀b o,s.heap.get? b=some o->(B4 (((s.heap.push (seqObj "list" #[] 0)).update s.heap.objs.size (Obj.mapSeq (·++vs.toArray))).push (seqObj "list" vs.toArray 0)) (s.heap.objs.size+1) vs).get? b=some o:=λ b o q =>
  JR (Nat.ne_of_lt (Nat.lt_succ_of_lt (Heap.lt_size q))) (keep b o q)
 refine wpAny_bind (wpAny_holding (wpAny_call_entry slot_list_sort ⟨_,hoL,rfl⟩ entry_list_sort (FQ (κ:=κ) (key:=key) (s:={ s with heap:=((s.heap.push (seqObj "list" #[] 0)).update s.heap.objs.size (Obj.mapSeq (·++vs.toArray))).push (seqObj "list" vs.toArray 0) }) hoL h64 (λ Q E h2 hq=>hK _ mid _ Q E h2 hq) (λ i j C hi hj hc=>hL _ mid _ i j C hi hj hc) λ q a1 a2=>⟨_,rfl,?_⟩) (args_list_sort _)));exact wpAny_pure ⟨_,rfl,h q a1 a2⟩
theorem DM{fin:Bool}{Q:Bool->Shared->Prop}(hf:fin=false):∀{vs ws:LWz}{ns ms:List Int}(i:Nat),IntsAre vs ns->IntsAre ws ms->ns.length=ms.length->Q (HT.lexLt ns ms) s->KatLex prog w A true fin Q (vs.zip ws) i s
 |_,_,_,_,i,.nil,.nil,_,hq=>by rw[HT.lexLt_nil_nil]at hq;rw[hf];exact hq
 |_,_,_,_,i,.cons n t hn,.cons m u hm,hl,hq=>by
  rw[List.zip_cons_cons];rw[HT.lexLt_cons]at hq;refine kat_cons (wpAny_eqBool_int (kat_go (λ e=>kat_yes ?_) λ e=>kat_no ?_))
  .have e':n=m:=by simpa using e
   rw[if_pos e']at hq;exact DM hf (i+1) hn hm (by simpa using hl) hq
  .have e':¬n=m:=by simpa using e
   rw[if_neg e']at hq;by_cases hi:i=0
   .subst hi;exact oneLt_int hq
   .have hb:(true&&i==0)=false:=by simp[hi]
    rw[hb];exact kat_one _ _ (lt_int hq)
end
section
variable{X:Cx}
theorem Fe:∀{ts:List Addr}{its:LWz},Vals (ts.map V.ref) its->its=ts.map Value.ref
 |[],_,.nil=>rfl
 |a::r,_,.cons h t=>by
  cases(show _=Value.ref a from h);rw[List.map_cons,Fe t]
theorem Ew:∀(ts:List Addr),Vals (ts.map V.ref) (ts.map Value.ref)
 |[]=>.nil
 |a::r=>.cons rfl (Ew r)
theorem E2{h:Heap}{m:Nat}:∀{ts:List (Addr×List Int)},(∀t∈ts,t.2.length=m+1/\∃items,IsTup h t.1 items/\IntsAre items.toList t.2)->∃fs,KatTups h (ts.map λ t=>Value.ref t.1) fs/\fs.length=ts.length/\∀v∈fs,∃n tk,v=Value.int n tk
 |[],_=>⟨[],KatTups.nil,rfl,λ v hv=>nomatch hv⟩
 |t::r,hh=>by
  obtain⟨fs,h1,h2,h3⟩:=E2 (ts:=r) λ u hu=>hh u (List.mem_cons_of_mem _ hu);obtain⟨hl,items,⟨o,ho,hc,n,hd⟩,hi⟩:=hh t List.mem_cons_self;obtain⟨x,tk,z,e⟩:∃(n:Int)(tk:Tok)(zs:LWz),items.toList=Value.int n tk::zs:=by
   generalize items.toList=vs at hi;generalize t.2=ns at hi hl;cases hi with
   |nil=>simp at hl
   |cons n tk hz=>exact⟨n,tk,_,rfl⟩
  have hf:items[0]?=some (Value.int x tk):=by
   rw[<-Array.getElem?_toList,e];rfl
  exact⟨_,KatTups.cons ho hc hd hf h1,by simp[h2],λ v hv=>by
   rcases List.mem_cons.mp hv with rfl|hv
   .exact⟨x,tk,rfl⟩
   .exact h3 v hv⟩
theorem Kk:D5 X (.builtin "sorted") (λ xs H Q=>∃(p:Addr)(ts:List (Addr×List Int))(m:Nat)(key:List Int->Int),xs=[.ref p]/\SqL X.K H p (ts.map λ t=>V.ref t.1)/\ts.length<64 /\
  (∀t∈ts,t.2.length=m+1/\H t.1=some (.tup (t.2.map V.int)))/\(∀t∈ts,∀u∈ts,HT.lexLt t.2 u.2=decide (key t.2<key u.2)) /\
  ∀l (ts':List (Addr×List Int)),H l=none->ts'.Perm ts->(ts'.map λ t=>key t.2).Pairwise (·<=·)->Q (.ref l) (upd H l (.lst (ts'.map λ t=>V.ref t.1)))):=by
 intro pins s σ H xs us Q I r h;obtain⟨p,ts,m,key,rfl,hp,h64,ht,hkey,q⟩:=h;obtain⟨u,rfl,ru⟩:=F4 r;cases ru;obtain⟨its,rv,pl,hz⟩:=I.list hp;have hits:its=ts.map λ t=>Value.ref t.1:=by
  have:=Fe (ts:=ts.map (·.1)) (its:=its) (by rw[List.map_map];exact rv);rw[this,List.map_map];rfl
 have hlen:its.length=ts.length:=by rw[hits,List.length_map]
 have tup:∀t∈ts,t.2.length=m+1/\∃items,IsTup s.heap t.1 items/\IntsAre items.toList t.2:=λ t htm=>by
  obtain⟨h1,h2⟩:=ht t htm;obtain⟨_,zs,rz,tz⟩:=(show ObjOk X.prog X.w H s.heap t.1 (.tup (t.2.map V.int)) from I.hok _ _ h2);exact⟨h1,_,tz,by simpa using GX rz⟩
 have tupK:∀(h':Heap),(∀b o,s.heap.get? b=some o->h'.get? b=some o)->∀t∈ts,t.2.length=m+1/\∃items,IsTup h' t.1 items/\IntsAre items.toList t.2:=λ h' k t htm=>by
  obtain⟨h1,items,⟨o,e,c⟩,h3⟩:=tup t htm;exact⟨h1,items,⟨o,k _ _ e,c⟩,h3⟩
 refine Rn (κ:=tuples' true) (key:=λ i=>key ((ts.map (·.2)).getD i [])) pl.isList (by lia) (λ h' k A' Q' E' h2 hq=>?_) (λ h' k A' i j C hi hj hc=>?_) λ qq pq sq=>?_
 .obtain⟨fs,f1,f2,f3⟩:=E2 (tupK h' k);rw[hits];refine kat_kind (s:={ s with heap:=h' }) (T:=Value.type "int") f1 (by lia) (λ v hv=>?_) (by decide) hq;obtain⟨n,tk,rfl⟩:=f3 v hv;exact .now
 .have hi':i<ts.length:=by lia
  have hj':j<ts.length:=by lia
  obtain⟨l1,x1,⟨o1,e1,c1,n1,d1⟩,z1⟩:=tupK h' k _ (List.getElem_mem hi');obtain⟨l2,x2,⟨o2,e2,c2,n2,d2⟩,z2⟩:=tupK h' k _ (List.getElem_mem hj');have g1:its.getD i Value.none=Value.ref ts[i].1:=by rw[hits];simp[List.getD,hi']
  have g2:its.getD j Value.none=Value.ref ts[j].1:=by rw[hits];simp[List.getD,hj']
  have k1:(ts.map (·.2)).getD i []=ts[i].2:=by simp[List.getD,hi']
  have k2:(ts.map (·.2)).getD j []=ts[j].2:=by simp[List.getD,hj']
  simp only[k1,k2]at hc;rw[<-hkey _ (List.getElem_mem hi') _ (List.getElem_mem hj')]at hc;rw[g1,g2];have s1:=z1.length;have s2:=z2.length;exact kat_lt (s:={ s with heap:=h' }) e1 d1 e2 d2 (DM (by rw[decide_eq_false];simp at s1 s2;lia) 0 z1 z2 (by lia) hc)
 .obtain⟨e,he⟩:=sortedAll_at s.heap its (List.toArray (qq.toList.map λ i=>its.getD i Value.none));have hn:H (s.heap.objs.size+1)=none:=I.hok.fresh (Nat.le_succ _);have pq':qq.toList.Perm (List.range ts.length):=by rw[<-hlen];exact pq
  have pick:ts.Perm (qq.toList.map λ i=>ts.getD i (0,[])):=by
   have:=(pq'.map λ i=>ts.getD i ((0:Addr),([]:List Int))).symm;have e2:(List.range ts.length).map (λ i=>ts.getD i ((0:Addr),([]:List Int)))=ts:=by
    apply List.ext_getElem?;intro i;rw[List.getElem?_map];by_cases h:i<ts.length
    .rw[List.getElem?_range h,Option.map_some,List.getD_eq_getElem?_getD,List.getElem?_eq_getElem h];rfl
    .rw[List.getElem?_eq_none (by simpa using h),List.getElem?_eq_none (by lia)];rfl
   rw[e2]at this;exact this
  have inR:∀i∈qq.toList,i<ts.length:=λ i hi=>List.mem_range.mp (pq'.mem_iff.mp hi);have eV:qq.toList.map (λ i=>its.getD i Value.none)=(qq.toList.map λ i=>ts.getD i (0,[])).map λ t=>Value.ref t.1:=by
   rw[List.map_map];refine List.map_congr_left λ i hi=>?_;have:=inR i hi;rw[hits];simp[List.getD,this]
  refine⟨.ref (s.heap.objs.size+1),_,I.laid (o:=.lst ((qq.toList.map λ i=>ts.getD i (0,[])).map λ t=>V.ref t.1)) (t':=s.toks) (λ b o z=>sortedAll_old z) (Nat.le_succ _) ⟨?_,_,e,?_,he⟩,rfl,q _ _ hn pick.symm ?_⟩
  .rw[List.length_map,List.length_map,Array.length_toList,pq.size,sizeLine_eq];lia
  .rw[eV];generalize (qq.toList.map λ i=>ts.getD i ((0:Addr),([]:List Int)))=zs;have:=Ew (zs.map (·.1));rw[List.map_map,List.map_map]at this;exact this
  .rw[List.map_map];have e4:qq.toList.map ((λ t:Addr×List Int=>key t.2)∘λ i=>ts.getD i (0,[]))=qq.toList.map λ i=>key ((ts.map (·.2)).getD i []):=by
    refine List.map_congr_left λ i hi=>?_;have:=inR i hi;simp[List.getD,this]
   rw[e4];exact sq
end
section
variable{κ:Type}[DecidableEq κ]
def Bz(kvs:List (κ×V))(k:κ):Option V:=(kvs.find? λ kv=>decide (kv.1=k)).map (·.2)
def Fh(kvs:List (κ×V))(k:κ)(v:V):List (κ×V) :=
 if (kvs.any λ kv=>decide (kv.1=k))=true then kvs.map (λ kv=>if kv.1=k then (kv.1,v) else kv) else kvs++[(k,v)]
theorem Bm{p:κ×V}{r:List (κ×V)}{k:κ}(e:p.1=k):Bz (p::r) k=some p.2:=by simp[Bz,List.find?_cons,e]
theorem Bn{p:κ×V}{r:List (κ×V)}{k:κ}(e:¬p.1=k):Bz (p::r) k=Bz r k:=by simp[Bz,List.find?_cons,e]
theorem E8(k:κ):∀kvs:List (κ×V),(kvs.any λ kv=>decide (kv.1=k))=(Bz kvs k).isSome
 |[]=>rfl
 |p::r=>by
  rw[List.any_cons];by_cases e:p.1=k
  .simp only[Bm e,decide_eq_true e,Bool.true_or,Option.isSome_some]
  .rw[Bn e,decide_eq_false e,Bool.false_or];exact E8 k r
theorem K1(k j:κ)(y:V):∀kvs:List (κ×V),Bz (kvs.map λ kv=>if kv.1=k then (kv.1,y) else kv) j=(Bz kvs j).map λ x=>if j=k then y else x
 |[]=>rfl
 |p::r=>by
  have ih:=K1 k j y r;rw[List.map_cons];by_cases h:p.1=k
  .rw[if_pos h];by_cases e:p.1=j
   .rw[Bm (p:=(p.1,y)) e,Bm e,Option.map_some,if_pos (e.symm.trans h)]
   .rw[Bn (p:=(p.1,y)) e,Bn e,ih]
  .rw[if_neg h];by_cases e:p.1=j
   .rw[Bm (p:=p) e,Bm e,Option.map_some,if_neg (λ z=>h (e.trans z))]
   .rw[Bn (p:=p) e,Bn e,ih]
theorem Iu(k j:κ)(y:V):∀kvs:List (κ×V),Bz kvs k=none->Bz (kvs++[(k,y)]) j=if j=k then some y else Bz kvs j
 |[],_=>by
  by_cases e:k=j
  .rw[if_pos e.symm];exact Bm (p:=(k,y)) e
  .rw[if_neg (λ z=>e z.symm)];exact Bn (p:=(k,y)) e
 |p::r,hn=>by
  rw[List.cons_append];have hk:¬p.1=k:=λ z=>by rw[Bm z]at hn;cases hn
  rw[Bn hk]at hn;have ih:=Iu k j y r hn;by_cases e:p.1=j
  .rw[Bm e,Bm e,if_neg (λ z=>hk (e.trans z))]
  .rw[Bn e,Bn e,ih]
theorem Gm(kvs:List (κ×V))(k j:κ)(y:V):Bz (Fh kvs k y) j=if j=k then some y else Bz kvs j:=by
 unfold Fh;by_cases a:(kvs.any λ kv=>decide (kv.1=k))=true
 .rw[if_pos a,K1];rw[E8]at a;by_cases e:j=k
  .obtain⟨x,hx⟩:=Option.isSome_iff_exists.mp a;rw[if_pos e,e,hx,Option.map_some,if_pos rfl]
  .rw[if_neg e];cases Bz kvs j with
   |none=>rfl
   |some x=>rw[Option.map_some,if_neg e]
 .rw[if_neg a];refine Iu k j y kvs ?_;rw[E8]at a;cases q:Bz kvs k with
  |none=>rfl
  |some x=>rw[q]at a;exact(a rfl).elim
theorem DJ(kvs:List (κ×V))(k:κ)(v:V):(Fh kvs k v).length<=kvs.length+1:=by
 unfold Fh;split
 .rw[List.length_map];lia
 .rw[List.length_append,List.length_cons,List.length_nil];lia
theorem RelO.isSome_eq{o:Option V}{u:Option Value}(r:RelO o u):o.isSome=u.isSome:=by
 cases o with
 |none=>cases u with
  |none=>rfl
  |some _=>exact(show False from r).elim
 |some _=>cases u with
  |none=>exact(show False from r).elim
  |some _=>rfl
theorem KV.val{kvs:List (κ×V)}{vs:List (κ×Value)}(r:KV kvs vs)(k:κ):RelO (Bz kvs k) (valueAt vs k):=by
 unfold KV at r
 induction r with
 |nil=>exact True.intro
 |@cons p q ps qs h t ih =>
  obtain⟨h1,h2⟩:=h;by_cases e:p.1=k
  .have e':q.1=k:=h1.symm.trans e;have b:valueAt (q::qs) k=some q.2:=by simp[valueAt,List.find?_cons,e']
   rw[Bm e,b];exact h2
  .have e':¬q.1=k:=λ z=>e (h1.trans z);have b:valueAt (q::qs) k=valueAt qs k:=by simp[valueAt,List.find?_cons,e']
   rw[Bn e,b];exact ih
theorem KV.any{kvs:List (κ×V)}{vs:List (κ×Value)}(r:KV kvs vs)(k:κ):(kvs.any λ kv=>decide (kv.1=k))=vs.any λ kv=>decide (kv.1=k):=by
 unfold KV at r
 induction r with
 |nil=>rfl
 |cons h t ih=>rw[List.any_cons,List.any_cons,ih,h.1]
theorem KV.repl{kvs:List (κ×V)}{vs:List (κ×Value)}(r:KV kvs vs)(k:κ){y:V}{u:Value}(ry:RelV y u) :
  KV (kvs.map λ kv=>if kv.1=k then (kv.1,y) else kv) (vs.map λ kv=>if kv.1=k then (kv.1,u) else kv):=by
 unfold KV at r |-
 induction r with
 |nil=>exact .nil
 |@cons p q ps qs h t ih =>
  rw[List.map_cons,List.map_cons];refine .cons ?_ ih;obtain⟨h1,h2⟩:=h;by_cases e:p.1=k
  .rw[if_pos e,if_pos (h1.symm.trans e)];exact⟨h1,ry⟩
  .rw[if_neg e,if_neg (λ z=>e (h1.trans z))];exact⟨h1,h2⟩
theorem KV.put{kvs:List (κ×V)}{vs:List (κ×Value)}(r:KV kvs vs)(k:κ){y:V}{u:Value}(ry:RelV y u):KV (Fh kvs k y) (stored vs k u):=by
 unfold Fh stored;rw[r.any k];by_cases e:(vs.any λ kv=>decide (kv.1=k))=true
 .rw[if_pos e,if_pos e];exact r.repl k ry
 .rw[if_neg e,if_neg e];exact Paired.snoc r ⟨rfl,ry⟩
theorem KV.length{kvs:List (κ×V)}{vs:List (κ×Value)}(r:KV kvs vs):kvs.length=vs.length:=Paired.length r
end
theorem Lq{P:Program}{w:World}{k:Key}{u:Value}(r:RelV (kV k) u):(Bl P w).is k u=true:=by
 cases k with
 |inl i=>obtain⟨t,e⟩:=(show ∃t,u=Value.int i t from r);subst e;exact Lk P w i t
 |inr x=>obtain⟨t,e⟩:=(show ∃t,u=Value.str x t from r);subst e;exact Lj P w x t
theorem IN{P:Program}{w:World}:∀{ks:List Key}{us:LWz},Vals (ks.map kV) us->ItemsAre (Bl P w) ks us
 |[],_,r=>by rw[List.map_nil]at r;cases r;exact .nil
 |k::ks,_,r=>by
  rw[List.map_cons]at r;cases r with
  |cons h t=>exact .cons (Lq h) (IN t)
abbrev KT(H:Hp):LKz->List (List Key×Addr×Value)->Prop:=Paired λ p q=>p.1=q.1/\H q.2.1=some (.tup (p.1.map kV))/\RelV p.2 q.2.2
theorem KT.val{H:Hp}{kvs:LKz}{xs:List (List Key×Addr×Value)}(r:KT H kvs xs)(k:List Key):RelO (Bz kvs k) ((atKey xs k).map (·.2)):=by
 induction r with
 |nil=>exact True.intro
 |@cons p q ps qs h t ih =>
  obtain⟨h1,_,h2⟩:=h;by_cases e:p.1=k
  .have e':q.1=k:=h1.symm.trans e;have b:atKey (q::qs) k=some q.2:=by simp[atKey,List.find?_cons,e']
   rw[Bm e,b];exact h2
  .have e':¬q.1=k:=λ z=>e (h1.trans z);have b:atKey (q::qs) k=atKey qs k:=by simp[atKey,List.find?_cons,e']
   rw[Bn e,b];exact ih
theorem KT.repl{H:Hp}{kvs:LKz}{xs:List (List Key×Addr×Value)}(r:KT H kvs xs)(k:List Key){y:V}{u:Value}(ry:RelV y u) :
  KT H (kvs.map λ kv=>if kv.1=k then (kv.1,y) else kv) (xs.map (putAt k u)):=by
 induction r with
 |nil=>exact .nil
 |@cons p q ps qs h t ih =>
  rw[List.map_cons,List.map_cons];refine .cons ?_ ih;obtain⟨h1,h2,h3⟩:=h;unfold putAt;by_cases e:p.1=k
  .rw[if_pos e,if_pos (h1.symm.trans e)];exact⟨h1,h2,ry⟩
  .rw[if_neg e,if_neg (λ z=>e (h1.trans z))];exact⟨h1,h2,h3⟩
theorem KT.put{H:Hp}{kvs:LKz}{xs:List (List Key×Addr×Value)}(r:KT H kvs xs)(k:List Key){b:Addr}{y:V}{u:Value}(hb:H b=some (.tup (k.map kV)))(ry:RelV y u) :
  KT H (Fh kvs k y) (storedH xs k b u):=by
 have e:(kvs.any λ kv=>decide (kv.1=k))=(atKey xs k).isSome:=by
  rw[E8,(r.val k).isSome_eq,Option.isSome_map]
 unfold Fh storedH;rw[e];by_cases q:(atKey xs k).isSome=true
 .rw[if_pos q,if_pos q];exact r.repl k ry
 .rw[if_neg q,if_neg q];exact Paired.snoc r ⟨rfl,hb,ry⟩
theorem KT.keeps{H H':Hp}{kvs:LKz}{xs:List (List Key×Addr×Value)}(r:KT H kvs xs)(ht:∀b ys,H b=some (.tup ys)->H' b=some (.tup ys)):KT H' kvs xs :=
 Paired.mapP r λ_ _ z=>⟨z.1,ht _ _ z.2.1,z.2.2⟩
section
variable{P:Program}{w:World}{H:Hp}{h:Heap}{a:Addr}
theorem So{u:HO}(ok:HOk P w H h)(e:Rd H a u):ObjOk P w H h a u:=e.ok ok
theorem L6{kvs:List (Key×V)}(ok:HOk P w H h)(e:Rd H a (.dK kvs)):kvs.length<=sizeLine/\(a==sysModules)=false/\∃vs,KV kvs vs/\h.DictOf (Bl P w) a vs :=
 show ObjOk P w H h a (.dK kvs) from So ok e
theorem U6{kvs:List (Key×V)}(ok:HOk P w H h)(e:H a=some (.dK kvs)):kvs.length<=sizeLine/\(a==sysModules)=false/\∃vs,KV kvs vs/\h.DictOf (Bl P w) a vs:=L6 ok (.inl e)
theorem GV{ks:List Key}(ok:HOk P w H h)(e:H a=some (.tup (ks.map kV))):(tupleKind (Bl P w)).is h ks a:=by
 obtain⟨_,its,r,o,h1,h2,n,h3⟩:=(show ObjOk P w H h a (.tup (ks.map kV)) from ok a _ e);exact⟨o,its.toArray,n,h1,h2,h3,by simpa using IN r⟩
theorem Lz{kvs:LKz}(ok:HOk P w H h)(e:Rd H a (.dT kvs)):kvs.length<=sizeLine/\(a==sysModules)=false /\
  ∃xs,KT H kvs xs/\h.DictOfH (tupleKind (Bl P w)) a xs:=by
 obtain⟨z,y,xs,r,o,es,ep,h1,h2,h3,h4,h5⟩:=(show ObjOk P w H h a (.dT kvs) from So ok e);refine⟨z,y,xs,r,o,es,ep,h1,h2,h3,h4,λ x hx=>?_,h5⟩;have all:∀{l:LKz}{m:List (List Key×Addr×Value)},KT H l m->∀x∈m,(tupleKind (Bl P w)).is h x.1 x.2.1:=by
  intro l m q
  induction q with
  |nil=>intro x hx;exact nomatch hx
  |@cons p q ps qs hq t ih =>
   intro x hx;rcases List.mem_cons.mp hx with e|hx
   .subst e;exact GV ok (by rw[<-hq.1];exact hq.2.1)
   .exact ih x hx
 exact all r x hx
theorem U5{kvs:LKz}(ok:HOk P w H h)(e:H a=some (.dT kvs)):kvs.length<=sizeLine/\(a==sysModules)=false /\
  ∃xs,KT H kvs xs/\h.DictOfH (tupleKind (Bl P w)) a xs:=Lz ok (.inl e)
end
def DGet(H:Hp)(a:Addr)(y:V)(r:Option V):Prop :=
 (∃kvs k,Rd H a (.dK kvs)/\y=kV k/\r=Bz kvs k)\/∃kvs k b,Rd H a (.dT kvs)/\y=.ref b/\H b=some (.tup (k.map kV))/\r=Bz kvs k
def DPut(H:Hp)(a:Addr)(y v:V)(H':Hp):Prop :=
 (∃kvs k,H a=some (.dK kvs)/\y=kV k/\kvs.length<sizeLine/\H'=upd H a (.dK (Fh kvs k v))) \/
 ∃kvs k b,H a=some (.dT kvs)/\y=.ref b/\H b=some (.tup (k.map kV))/\kvs.length<sizeLine/\H'=upd H a (.dT (Fh kvs k v))
theorem DGet.t{H:Hp}{a b:Addr}{kvs:LKz}{k:List Key}(e:H a=some (.dT kvs))(eb:H b=some (.tup (k.map kV))):DGet H a (.ref b) (Bz kvs k):=.inr ⟨kvs,k,b,.inl e,rfl,eb,rfl⟩
theorem DPut.t{H:Hp}{a b:Addr}{kvs:LKz}{k:List Key}{v:V}(e:H a=some (.dT kvs))(eb:H b=some (.tup (k.map kV)))(hl:kvs.length<sizeLine) :
  DPut H a (.ref b) v (upd H a (.dT (Fh kvs k v))):=.inr ⟨kvs,k,b,e,rfl,eb,hl,rfl⟩
section
variable{X:Cx}{pins:PNz}{σ:St}{H:Hp}{s:Shared}{a:Addr}{y v:V}{u r:Value}{o:Option V}{A:Around}{E:VPz}
theorem Inv.big(I:Inv X pins σ H s):sysModules<s.heap.objs.size:=by
 have h:mainGlobals<s.heap.objs.size:=(I.mod.glob.keeps I.bk).lt;exact Nat.lt_trans (by decide) h
theorem OR{Q:VPz}(hu:A.units+1<cLine)(I:Inv X pins σ H s)(g:DGet H a y (some v))(ry:RelV y u)(h:∀w' s',Inv X pins σ H s'->RelV v w'->Q w' s') :
  wpAny (model X.prog X.w) A (getItem (.ref a) u) Q E s:=by
 rcases g with ⟨kvs,k,e,ey,l⟩|⟨kvs,k,b,e,ey,eb,l⟩
 .subst ey;obtain⟨z,hd,vs,rel,dd⟩:=L6 I.hok e;obtain⟨w',hw,rw'⟩:=RelO.some_of (v:=v) (o:=valueAt vs k) (by rw[l];exact rel.val k);exact wpAny_getItem_of (Lq ry) dd.mapOf hw (h w' _ (I.tok _) rw')
 .subst ey;cases(show u=Value.ref b from ry);obtain⟨z,hd,xs,rel,dd⟩:=Lz I.hok e;obtain⟨w',hw,rw'⟩:=RelO.some_of (v:=v) (o:=(atKey xs k).map (·.2)) (by rw[l];exact rel.val k);obtain⟨p,hp,hp2⟩:=Option.map_eq_some_iff.mp hw;refine wpAny_getItem_heap (tupleKind_room_in1 hu) (GV I.hok eb) dd hp ?_;rw[hp2];exact h w' _ (I.tok _) rw'
theorem Vu{Q:VPz}(hu:A.units+1<cLine)(I:Inv X pins σ H s)(g:DGet H a y o)(ry:RelV y u)(h:∀s',Inv X pins σ H s'->Q (.bool o.isSome) s') :
  wpAny (model X.prog X.w) A (compareOp .In u (.ref a)) Q E s:=by
 rcases g with ⟨kvs,k,e,ey,l⟩|⟨kvs,k,b,e,ey,eb,l⟩
 .subst ey;obtain⟨z,hd,vs,rel,dd⟩:=L6 I.hok e;refine wpAny_in_of (Lq ry) hd dd.mapOf ?_;rw[<-(rel.val k).isSome_eq,<-l];exact h _ (I.tok _)
 .subst ey;cases(show u=Value.ref b from ry);obtain⟨z,hd,xs,rel,dd⟩:=Lz I.hok e;refine wpAny_in_heap (tupleKind_room_in1 hu) (GV I.hok eb) hd dd ?_;have q:=(rel.val k).isSome_eq;rw[Option.isSome_map]at q;rw[<-q,<-l];exact h _ (I.tok _)
theorem RY{Q:VPz}(hu:A.units+1<cLine)(I:Inv X pins σ H s)(g:DGet H a y o)(ry:RelV y u)(h:∀s',Inv X pins σ H s'->Q (.bool (!o.isSome)) s') :
  wpAny (model X.prog X.w) A (compareOp .NotIn u (.ref a)) Q E s:=by
 rcases g with ⟨kvs,k,e,ey,l⟩|⟨kvs,k,b,e,ey,eb,l⟩
 .subst ey;obtain⟨z,hd,vs,rel,dd⟩:=L6 I.hok e;refine wpAny_notIn_of (Lq ry) hd dd.mapOf ?_;rw[<-(rel.val k).isSome_eq,<-l];exact h _ (I.tok _)
 .subst ey;cases(show u=Value.ref b from ry);obtain⟨z,hd,xs,rel,dd⟩:=Lz I.hok e;refine wpAny_notIn_heap (tupleKind_room_in1 hu) (GV I.hok eb) hd dd ?_;have q:=(rel.val k).isSome_eq;rw[Option.isSome_map]at q;rw[<-q,<-l];exact h _ (I.tok _)
theorem NV{h':Heap}{t':Nat}{ob:HO}(I:Inv X pins σ H s)(mu:Mut (H a))(hs:Heap.SameBut a s.heap h')(he:∃q,h'.get? a=some q)(new:ObjOk X.prog X.w (upd H a ob) h' a ob) :
  Inv X pins σ (upd H a ob) { s with heap:=h',toks:=t' } :=
 I.write (x:=a) (e:=a) mu (.inl rfl) (λ b q hb z=>(hs.2 b hb).trans z) he new
theorem Tw{P:Program}{w:World}{H':Hp}{h':Heap}{kvs:List (Key×V)}{vs:List (Key×Value)}(z:kvs.length<=sizeLine)(hd:(a==sysModules)=false)(rel:KV kvs vs)(dd:h'.DictOf (Bl P w) a vs) :
  ObjOk P w H' h' a (.dK kvs):=⟨z,hd,vs,rel,dd⟩
theorem OQ{H':Hp}{Q:Unit->Shared->Prop}(hu:A.units+1<cLine)(I:Inv X pins σ H s)(g:DPut H a y v H')(ry:RelV y u)(rv:RelV v r)(h:∀s',Inv X pins σ H' s'->Q () s') :
  wpAny (model X.prog X.w) A (setItem (.ref a) u r) Q E s:=by
 rcases g with ⟨kvs,k,e,ey,l,eH⟩|⟨kvs,k,b,e,ey,eb,l,eH⟩
 .subst ey eH;obtain⟨z,hd,vs,rel,dd⟩:=U6 I.hok e;have hz:vs.length<=sizeLine:=by rw[<-rel.length];exact z
  have hl:(Fh kvs k v).length<=sizeLine:=by have:=DJ kvs k v;lia
  refine wpAny_setItem_pairs (hsz:=hz) (Lq ry) dd λ h' dd' hs=>h _ ?_;have he:∃q,h'.get? a=some q:=let ⟨q,_,_,hq,_⟩:=dd';⟨q,hq⟩;exact NV I (by rw[e];exact True.intro) hs he (Tw hl hd (rel.put k rv) dd')
 .subst ey eH;cases(show u=Value.ref b from ry);obtain⟨z,hd,xs,rel,dd⟩:=U5 I.hok e;have hz:xs.length<=sizeLine:=by rw[<-Paired.length rel];exact z
  have hl:(Fh kvs k v).length<=sizeLine:=by have:=DJ kvs k v;lia
  refine wpAny_setItem_heap (hsz:=hz) (tupleKind_room_in1 hu) (GV I.hok eb) dd λ h' dd' hs=>h _ ?_;obtain⟨q,es,ep,hq,h2,h3,h4,_,h5⟩:=dd';refine NV I (by rw[e];exact True.intro) hs ⟨q,hq⟩ ⟨hl,hd,_,(rel.put k eb rv).keeps λ c ys ec=>?_,q,es,ep,hq,h2,h3,h4,h5⟩;rw[Ae (AU ec e (λ z=>nomatch z))];exact ec
end
def UI(i:Expr):Prop:=∀ov iv,subscripted i false ov iv=operate [ov,iv] (getItem ov iv)
theorem Rf{prog:Program}{w:World}{A:Around}{E:VPz}{s:Shared}{env:Env}{value slice:Expr}{pos:Pos}{T id:String}{Q:VPz}
  (hl:typeLookup (.type T) "__getitem__"=pure (some (.builtin id))) (hs:UI slice)
  (h:wpAny (model prog w) A (eval value env) (λ o s₁=>wpAny (model prog w) A (eval slice env) (λ i s₂=>s₂.TypeIs o T/\wpAny (model prog w) A (getItem o i) Q E s₂) E s₁) E s) :
  wpAny (model prog w) A (eval (.Subscript value slice pos) env) Q E s:=by
 refine Subscript_ (wpAny_mono h (λ o s₁ h₁=>wpAny_mono h₁ (λ i s₂ h₂=>?_) λ_ _ x=>x) λ_ _ x=>x);obtain⟨hT,h₂⟩:=h₂;unfold subscriptTail;refine wpAny_bind ?_;rw[getitemInPython_of_ne hT.not_modules];refine wpAny_bind (wpAny_specialOf hT hl ?_);have fin:wpAny (model prog w) A (subscripted slice false o i) (λ r s₃=>wpAny (model prog w) A (letTemporaryGo value o r >>= λ_=>pure r) Q E s₃) E s₂:=by
  rw[hs o i];exact wpAny_operating (wpAny_mono h₂ (λ r s₃ h₃=>wpAny_bind (wpAny_letTemporaryGo (wpAny_pure h₃))) λ_ _ x=>x)
 first
  |exact wpAny_pure (wpAny_bind fin)
  |exact wpAny_bind (wpAny_pure (wpAny_bind fin))
  |exact wpAny_bind fin
theorem L7{X:Cx}{pins:PNz}{σ:St}{H:Hp}{s:Shared}{a:Addr}{y:V}{o:Option V}(I:Inv X pins σ H s)(g:DGet H a y o):s.TypeIs (.ref a) "dict":=by
 rcases g with ⟨kvs,k,e,_,_⟩|⟨kvs,k,b,e,_,_,_⟩
 .obtain⟨_,_,vs,_,dd⟩:=L6 I.hok e;exact dd.typeIs
 .obtain⟨_,_,xs,_,dd⟩:=Lz I.hok e;exact dd.typeIs
def TU(td ty:TE):TE:=λ σ H Q=>td σ H λ x H1=>ty σ H1 λ y H2=>∃a v,x=.ref a/\DGet H2 a y (some v)/\Q v H2
def Vc(ty td:TE):TE:=λ σ H Q=>ty σ H λ y H1=>td σ H1 λ x H2=>∃a o,x=.ref a/\DGet H2 a y o/\Q (.bl o.isSome) H2
def Rb(ty td:TE):TE:=λ σ H Q=>ty σ H λ y H1=>td σ H1 λ x H2=>∃a o,x=.ref a/\DGet H2 a y o/\Q (.bl (!o.isSome)) H2
def Ua(td ty tv:TE):TS:=λ D σ H=>tv σ H λ v H1=>td σ H1 λ x H2=>ty σ H2 λ y H3=>∃a H4,x=.ref a/\DPut H3 a y v H4/\D.nx σ H4
section
variable{X:Cx}{o i e value:Expr}{pos pos' tpos:Pos}{td ty tv:TE}
theorem R6(hu:X.A.units+1<cLine)(ho:PE X o td)(hi:PE X i ty)(hs:UI i):PE X (.Subscript o i pos) (TU td ty):=by
 intro pins s σ H Q I h;refine Rf PySem.F.slot_dict_getitem.lookup hs (thn (ho pins s σ H _ I h) λ u s1 hz_=>?_);obtain⟨x,H1,I1,rx,q1⟩:=hz_;refine thn (hi pins s1 σ H1 _ I1 q1) λ iv s2 hz_=>?_;obtain⟨y,H2,I2,ry,a,v,ex,g,q2⟩:=hz_;subst ex;obtain rfl:u=Value.ref a:=rx;exact⟨L7 I2 g,OR hu I2 g ry λ w' s3 I3 rw'=>⟨v,H2,I3,rw',q2⟩⟩
theorem SW(hu:X.A.units+1<cLine)(hi:PE X i ty)(ho:PE X o td):PC X .In i o (Vc ty td):=by
 intro pins s σ H Q I h;refine thn (hi pins s σ H _ I h) λ iv s1 hz_=>?_;obtain⟨y,H1,I1,ry,q1⟩:=hz_;refine thn (ho pins s1 σ H1 _ I1 q1) λ u s2 hz_=>?_;obtain⟨x,H2,I2,rx,a,ov,ex,g,q2⟩:=hz_;subst ex;obtain rfl:u=Value.ref a:=rx;exact Vu hu I2 g ry λ s3 I3=>⟨.bl ov.isSome,H2,I3,rfl,q2⟩
theorem O5(hu:X.A.units+1<cLine)(hi:PE X i ty)(ho:PE X o td):PC X .NotIn i o (Rb ty td):=by
 intro pins s σ H Q I h;refine thn (hi pins s σ H _ I h) λ iv s1 hz_=>?_;obtain⟨y,H1,I1,ry,q1⟩:=hz_;refine thn (ho pins s1 σ H1 _ I1 q1) λ u s2 hz_=>?_;obtain⟨x,H2,I2,rx,a,ov,ex,g,q2⟩:=hz_;subst ex;obtain rfl:u=Value.ref a:=rx;exact RY hu I2 g ry λ s3 I3=>⟨.bl (!ov.isSome),H2,I3,rfl,q2⟩
theorem Ry(hu:X.A.units+1<cLine)(ho:PE X o td)(hi:PE X i ty)(hv:PE X value tv)(hs:swapsWith value (some (.Subscript o i pos')) pos.line X.env=pure false) :
  PS X (.Assign [.Subscript o i pos'] value pos) (Ua td ty tv):=by
 intro pins s σ H D I h;refine wpAny_Assign_Subscript (thn (hv pins s σ H _ I h) λ r s1 hz_=>?_) hs;obtain⟨v,H1,I1,rv,q1⟩:=hz_;refine thn (ho pins s1 σ H1 _ I1 q1) λ u s2 hz_=>?_;obtain⟨x,H2,I2,rx,q2⟩:=hz_;refine thn (hi pins s2 σ H2 _ I2 q2) λ iv s3 hz_=>?_;obtain⟨y,H3,I3,ry,a,H4,ex,g,q3⟩:=hz_;subst ex;obtain rfl:u=Value.ref a:=rx;exact OQ hu I3 g ry rv λ s4 I4=>⟨σ,H4,I4,q3⟩
end
theorem Q4{P:Program}{w:World}{H:Hp}(h:Heap)(hb:sysModules<h.objs.size):ObjOk P w H (h.push { cls:=.type "dict",data:=.dict #[] }) h.objs.size (.dT []) :=
 ⟨Nat.zero_le _,beq_eq_false_iff_ne.mpr (Ne.symm (Nat.ne_of_lt hb)),[],.nil,_,#[],0,Heap.get?_push_size _ rfl,⟨rfl,rfl,rfl⟩,rfl,rfl,List.nodup_nil⟩
def SL:TE:=λ_ H Q=>∀p,H p=none->Q (.ref p) (upd H p (.dT []))
section
variable{X:Cx}{pos:Pos}
theorem PR:PE X (.Dict [] [] pos) SL:=λ pins s σ H Q I h =>
 wpAny_Dict_empty ⟨.ref s.heap.objs.size,_,I.laid (a:=s.heap.objs.size) (o:=.dT []) (t':=s.toks) (λ_ _ q=>Heap.get?_push_of_some _ q) (Nat.le_refl _) (Q4 s.heap I.big),rfl,h _ (I.hok.fresh (Nat.le_refl _))⟩
end
def Ite(K:Frag)(a:Addr):It :=
 ⟨λ i H=>∃xs x,SqL K H a xs/\xs[i]?=some x,λ i H y H'=>∃t x,(∀xs,SqL K H a xs->xs[i]?=some x)/\y=.ref t/\H t=none/\H'=upd H t (.tup [.int i,x]),λ i H=>∃xs,SqL K H a xs/\xs.length<=i⟩
theorem OO{X:Cx}{pins:PNz}{σ:St}{H:Hp}{s:Shared}{h':Heap}{e it:Addr}{t':Nat}{ys:LUz}(I:Inv X pins σ H s)(fe:E7 X pins H e)(fi:E7 X pins H it)
  (k:∀b o,b≠e->b≠it->s.heap.get? b=some o->h'.get? b=some o) (he:∃o,h'.get? e=some o) (hi:∃o,h'.get? it=some o)
  (new:ObjOk X.prog X.w (upd H s.heap.objs.size (.tup ys)) h' s.heap.objs.size (.tup ys)) :
  Inv X pins σ (upd H s.heap.objs.size (.tup ys)) { s with heap:=h',toks:=t' }:=by
 have hn:H s.heap.objs.size=none:=I.hok.fresh (Nat.le_refl _);obtain⟨e0,e1,e2,e3,e4,e5⟩:=fe;obtain⟨i0,i1,i2,i3,i4,i5⟩:=fi;have nt:∀b u,H b=some u->b≠e/\b≠it:=λ b u q=>⟨λ z=>(by rw[z,e0]at q;cases q),λ z=>(by rw[z,i0]at q;cases q)⟩;have nc:∀b,b∉[e,it]->b≠e/\b≠it:=λ b hb=>⟨λ z=>hb (by simp[z]),λ z=>hb (by simp[z])⟩;have ne:∀b u,H b=some u->b≠s.heap.objs.size:=λ b u q=>Ad q hn;refine I.step (g':=s.gens) (d':=s.drawn) (ch:=[e,it]) (λ b hb=>?_) (λ b o _ _ hc q _=>k b o (nc b hc).1 (nc b hc).2 q) (λ b o _ _ hc q _=>⟨o.slots,k b o (nc b hc).1 (nc b hc).2 q⟩)
  (λ b o _ q n=>by rw[Ae (Nat.ne_of_lt (Heap.lt_size q))];exact n) (λ b o hc q=>⟨o,k b o (nc b hc).1 (nc b hc).2 q⟩) (λ b xs q=>by rw[Ae (ne b _ q)];exact q) (λ b o u q=>by rw[Ae (ne b _ q)];exact q)
  (λ b ps q=>⟨#[],by rw[Ae (ne b _ q),q];simp⟩) (λ m hm=>?_) (λ b u q=>?_) I.bare
 .rcases List.mem_cons.mp hb with rfl|hb
  .exact⟨e3,e1,e4,e5⟩
  .rw[List.mem_singleton.mp hb];exact⟨i3,i1,i4,i5⟩
 .obtain⟨o,es,ep,ho,r⟩:=hm;exact⟨o,es,ep,k _ o (Ne.symm e1) (Ne.symm i1) ho,r⟩
 .by_cases hb:b=s.heap.objs.size
  .subst hb;rw[Ab]at q;cases q;exact new
  .rw[Ae hb]at q;refine(I.hok b u q).stay (λ c v hc z=>k c v ?_ ?_ z) (λ c z=>by rw[Ae (ne c _ z)];exact z) λ c xs z=>by rw[Ae (ne c _ z)];exact z
   .rcases hc with rfl|hc
    .exact(nt c u q).1
    .exact(nt c _ hc).1
   .rcases hc with rfl|hc
    .exact(nt c u q).2
    .exact(nt c _ hc).2
theorem Ot{P:Program}{w:World}{K:Frag}{es:List Expr}{k:Nat}{pos:Pos}(a e it:Addr)(hei:e≠it) :
  OW P w K (.Tuple es k pos) (Ite K a) [e,it] e (λ i h=>(∃old,IsEnum h e it i old)/\h.IsListIter it a i) where
 mem:=by simp
 obj:=λ i h st b hb=>by
  obtain⟨⟨old,he⟩,⟨o,eo,c,d⟩⟩:=st;rcases List.mem_cons.mp hb with rfl|hb
  .exact⟨_,he,λ v z=>by
    have z':Data.fields _=Data.cell v:=z;cases z'⟩
  .rw[List.mem_singleton.mp hb];exact⟨o,eo,λ v z=>by rw[d]at z;cases z⟩
 keep:=λ i h h' st kk=>by
  obtain⟨⟨old,he⟩,st⟩:=st;exact⟨⟨old,kk e (by simp) _ he⟩,st.at λ o z=>kk it (by simp) o z⟩
 item:=by
  intro X hP hw hK hc i pins s σ H E I hf st hg;subst hP hw hK;obtain⟨⟨old,he⟩,st⟩:=st;obtain⟨xs,x,hq,hx⟩:=hg;obtain⟨its,rv,p,hz⟩:=I.list hq;obtain⟨u,hu,ru⟩:=rv.get hx;have fe:=hf e (by simp);have fi:=hf it (by simp);refine wpAny_pyNext_enum_item he st p.isList (x:=u) (by simpa using hu) hei λ h' he' st' ht hz' kk=>?_;refine⟨_,rfl,?_⟩;have ltE:e<s.heap.objs.size:=Heap.lt_size he;have hn:H s.heap.objs.size=none:=I.hok.fresh (Nat.le_refl _);have I1:Inv X pins σ (upd H s.heap.objs.size (.tup [.int i,x])) { s with heap:=h',toks:=s.toks+1 }:=by
   refine OO I fe fi kk ⟨_,he'⟩ (let ⟨o,eo,_⟩:=st';⟨o,eo⟩) ⟨?_,[.int i s.toks,u],.cons ⟨_,rfl⟩ (.cons ru .nil),⟨_,ht,rfl,_,rfl⟩⟩;show 2<=sizeLine;decide
  refine wpAny_letOwnedTupleGo_enum (s:={ s with heap:=h',toks:=s.toks+1 }) he' λ h2 he2 sb=>?_;have neE:e≠s.heap.objs.size:=Nat.ne_of_lt ltE;have fe2:(upd H s.heap.objs.size (.tup [.int i,x])) e=none:=by rw[Ae neE];exact fe.1
  have I2:Inv X pins σ (upd H s.heap.objs.size (.tup [.int i,x])) { ({ s with heap:=h',toks:=s.toks+1 }:Shared) with heap:=h2,toks:=s.toks+1 } :=
   I1.turned (t':=s.toks+1) (it:=e) (λ b o hb z=>(sb.2 b hb).trans z) fe2 fe.2.1 fe.2.2.2.1 fe.2.2.2.2.1 fe.2.2.2.2.2
  obtain⟨oi,hoi,_⟩:=id st;have ltI:it<s.heap.objs.size:=Heap.lt_size hoi;refine⟨.ref s.heap.objs.size,_,I2,rfl,⟨_,x,λ ys hy=>by rw[I.list_inj hy hq];exact hx,rfl,hn,rfl⟩,⟨⟨u,?_⟩,?_⟩,λ b hb=>?_⟩
  .have e1:((i+1:Nat):Int)=(i:Int)+1:=by push_cast;rfl
   rw[e1];exact he2
  .exact st'.at λ o z=>(sb.2 it (Ne.symm hei)).trans z
  .rcases List.mem_cons.mp hb with rfl|hb
   .exact fe2
   .rw[List.mem_singleton.mp hb,Ae (Nat.ne_of_lt ltI)];exact fi.1
 done:=by
  intro X hP hw hK hc i pins s σ H E I hf st hg;subst hP hw hK;obtain⟨⟨old,he⟩,st⟩:=st;obtain⟨xs,hq,hx⟩:=hg;obtain⟨its,rv,p,hz⟩:=I.list hq;obtain⟨f0,f1,f2,f3,f4,f5⟩:=hf it (by simp);have hl:=rv.length;exact wpAny_pyNext_enum_end (I.ok.hd hc) he st p.isList (by simp;lia) λ h' eb=>⟨rfl,I.turned (t':=s.toks) (λ b o hb z=>eb b o hb z) f0 f1 f3 f4 f5⟩
 self:=λ_ _ _ _ _ st h=>by
  obtain⟨⟨old,he⟩,_⟩:=st;exact wpAny_pyIter_enum he h
def U0(K:Frag)(ta:TA):TI:=λ σ H R=>ta σ H λ vs H1=>∃a,vs=[.ref a]/\(∃xs,SqL K H1 a xs)/\R (Ite K a) H1
section
variable{X:Cx}
theorem N6{a:Expr}{es:List Expr}{k:Nat}{tpos:Pos}{ta:TA}{p pos:Pos}(hg:Gl X "enumerate")(hm:X.mg "enumerate"=none)(ha:PA X [a] ta)(hs:starEach [a] X.env=[(false,eval a X.env)]:=by rfl) :
  PI X (.Tuple es k tpos) (.Call (.Name "enumerate" p) [a] [] pos) (U0 X.K ta):=by
 intro pins s σ H R I h;refine Call_ (DL I hg hm boot_enumerate (PyProof.Rows.callWith_type1 (thn (ha pos pins s σ H _ I h) λ us s1 hz_=>?_) hs rfl));obtain⟨vs,H1,I1,r1,q1⟩:=hz_;obtain⟨b,e,⟨xs,hq⟩,q⟩:=q1;subst e;cases r1 with
 |cons r rr =>
  cases rr;cases r;obtain⟨its,rv,pl,hz⟩:=I1.list hq;refine call_enumerate_list pl.isList λ h' he hit hsz hk=>?_;have I2:Inv X pins σ H1 { s1 with heap:=h' }:=I1.kept (t':=s1.toks) hk;refine wpAny_pyIter_enum (s:={ s1 with heap:=h' }) he ?_;refine⟨s1.heap.objs.size+1,[s1.heap.objs.size+1,s1.heap.objs.size],_,_,H1,rfl,I2,Ot b _ _ (Nat.succ_ne_self _),⟨⟨_,he⟩,hit⟩,λ c hc=>?_,q⟩;rcases List.mem_cons.mp hc with rfl|hc
  .exact I1.fpOk (Nat.le_succ _) (I1.hok.fresh (Nat.le_succ _))
  .rw[List.mem_singleton.mp hc];exact I1.fpOk (Nat.le_refl _) (I1.hok.fresh (Nat.le_refl _))
end
theorem Lv{K:Frag}{a:Addr}{xs:LUz}{g:TG}{tb:TS}{D:CN}{σ:St}{H:Hp}(Pv:Nat->St->Hp->Prop)(h0:Pv 0 σ H)(hl:∀i σ H,i<=xs.length->Pv i σ H->SqL K H a xs)
  (hs:∀i x σ H t,xs[i]?=some x->Pv i σ H->H t=none->g (.ref t) σ (upd H t (.tup [.int i,x])) λ σ2 H2=>tb { D with nx:=Pv (i+1),ct:=Pv (i+1),bk:=D.nx } σ2 H2) (hd:∀σ H,Pv xs.length σ H->D.nx σ H) :
  ∃W:Nat->Nat->St->Hp->Prop,(∃m,W 0 m σ H)/\∀i m σ H,W i m σ H ->
   ((Ite K a).stop i H/\D.nx σ H)\/((Ite K a).go i H/\∃N:St->Hp->Prop,(∀σ' H',N σ' H'->∃m',m'<m/\W (i+1) m' σ' H')/\∀x H',(Ite K a).yld i H x H'->g x σ H' λ σ2 H2=>tb { D with nx:=N,ct:=N,bk:=D.nx } σ2 H2):=by
 refine⟨λ i m σ H=>m=xs.length-i/\i<=xs.length/\Pv i σ H,⟨xs.length,by simp,Nat.zero_le _,h0⟩,?_⟩;rintro i m σ H ⟨rfl,hi,p⟩;have q:=hl i σ H hi p;by_cases hlt:i<xs.length
 .refine .inr ⟨⟨xs,xs[i],q,by simp[hlt]⟩,Pv (i+1),λ σ' H' p'=>⟨xs.length-(i+1),by lia,rfl,hlt,p'⟩,λ x H' y=>?_⟩;obtain⟨t,z,hz,rfl,ht,rfl⟩:=y;exact hs i z σ H t (hz xs q) p ht
 .have e:i=xs.length:=by lia
  subst e;exact .inl ⟨⟨xs,q,Nat.le_refl _⟩,hd σ H p⟩
open PySem.SeqAt
mutual
inductive D where
 |at (v:V)
 |tup (xs:Ds)
 |lst (xs:Ds)
inductive Ds where
 |nil
 |cons (d:D) (r:Ds)
end
mutual
def DIs(K:Frag)(H:Hp):D->V->Prop
 |.at u,v=>v=u/\Cn u=true
 |.tup ds,v=>∃a xs,v=.ref a/\SqT K H a xs/\DIss K H ds xs
 |.lst ds,v=>∃a xs,v=.ref a/\SqL K H a xs/\DIss K H ds xs
def DIss(K:Frag)(H:Hp):Ds->LUz->Prop
 |.nil,xs=>xs=[]
 |.cons d r,xs=>∃x ys,xs=x::ys/\DIs K H d x/\DIss K H r ys
end
mutual
def dep:D->Nat
 |.at _=>0
 |.tup ds=>Dv ds+1
 |.lst ds=>Dv ds+1
def Dv:Ds->Nat
 |.nil=>0
 |.cons d r=>max (dep d) (Dv r)
end
mutual
def deq:D->D->Bool
 |.at u,.at v=>eqV u v
 |.tup xs,.tup ys=>Fx xs ys
 |.lst xs,.lst ys=>Fx xs ys
 |_,_=>false
def Fx:Ds->Ds->Bool
 |.nil,.nil=>true
 |.cons d r,.cons e q=>deq d e&&Fx r q
 |_,_=>false
end
def Ds.len:Ds->Nat
 |.nil=>0
 |.cons _ r=>r.len+1
def Ds.get:Ds->Nat->D
 |.nil,_=>.at .non
 |.cons d _,0=>d
 |.cons _ r,i+1=>r.get i
theorem BC:∀(ds es:Ds),((List.range (min ds.len es.len)).all (λ j=>deq (ds.get j) (es.get j))&&ds.len==es.len)=Fx ds es
 |.nil,.nil=>rfl
 |.nil,.cons e q=>by simp[Ds.len,Fx]
 |.cons d r,.nil=>by simp[Ds.len,Fx]
 |.cons d r,.cons e q=>by
  have ih:=BC r q;rw[show Fx (.cons d r) (.cons e q)=(deq d e&&Fx r q) from by rw[Fx],<-ih];show((List.range (min (r.len+1) (q.len+1))).all _&&(r.len+1==q.len+1))=_;rw[show min (r.len+1) (q.len+1)=min r.len q.len+1 by lia,List.range_succ_eq_map,List.all_cons,List.all_map,Bool.and_assoc];congr 1;rw[show(r.len+1==q.len+1)=(r.len==q.len) by simp];rfl
mutual
theorem EN:∀{K:Frag}{H:Hp}(d:D){v:V},DIs K H d v->deq d d=true
 |_,_,.at u,v,h=>by
  obtain⟨_,hf⟩:=(show v=u/\Cn u=true by simpa [DIs] using h);rw[deq];cases u<;>simp_all [Cn,eqV]
 |_,_,.tup ds,v,h=>by
  rw[DIs]at h;obtain⟨a,xs,_,_,q⟩:=h;rw[deq];exact Fw ds q
 |_,_,.lst ds,v,h=>by
  rw[DIs]at h;obtain⟨a,xs,_,_,q⟩:=h;rw[deq];exact Fw ds q
theorem Fw:∀{K:Frag}{H:Hp}(ds:Ds){xs:LUz},DIss K H ds xs->Fx ds ds=true
 |_,_,.nil,_,_=>by rw[Fx]
 |_,_,.cons d r,xs,h=>by
  rw[DIss]at h;obtain⟨x,ys,_,h1,h2⟩:=h;rw[Fx,EN d h1,Fw r h2];rfl
end
theorem DIss.len{K:Frag}{H:Hp}:∀{ds:Ds}{xs:LUz},DIss K H ds xs->ds.len=xs.length
 |.nil,xs,h=>by rw[DIss]at h;rw[h];rfl
 |.cons d r,xs,h=>by
  rw[DIss]at h;obtain⟨x,ys,rfl,_,h2⟩:=h;show r.len+1=ys.length+1;rw[DIss.len h2]
theorem DIss.get{K:Frag}{H:Hp}:∀{ds:Ds}{xs:LUz}{i:Nat}{x:V},DIss K H ds xs->xs[i]?=some x->DIs K H (ds.get i) x
 |.nil,xs,i,x,h,e=>by rw[DIss]at h;rw[h]at e;simp at e
 |.cons d r,xs,i,x,h,e=>by
  rw[DIss]at h;obtain⟨y,ys,rfl,h1,h2⟩:=h;cases i with
  |zero=>simp at e;subst e;exact h1
  |succ i =>
   show DIs K H (r.get i) x;exact DIss.get h2 (by simpa using e)
theorem Gg:∀(ds:Ds)(i:Nat),i<ds.len->dep (ds.get i)<=Dv ds
 |.nil,i,h=>absurd h (by simp[Ds.len])
 |.cons d r,0,_=>by show dep d<=_;rw[Dv];lia
 |.cons d r,i+1,h=>by
  have:=Gg r i (by simpa [Ds.len] using h);show dep (r.get i)<=_;rw[Dv];lia
section
variable{X:Cx}{pins:PNz}{σ:St}{H:Hp}{s:Shared}
mutual
theorem DIs.inj(I:Inv X pins σ H s):∀{d e:D}{v:V},DIs X.K H d v->DIs X.K H e v->d=e
 |.at u,.at w',v,h,h'=>by
  rw[DIs]at h;rw[DIs]at h';rw[<-h.1,<-h'.1]
 |.at u,.tup ds,v,h,h'=>by
  rw[DIs]at h;rw[DIs]at h';obtain⟨a,xs,e,_⟩:=h';have:=h.2;rw[<-h.1,e]at this;cases this
 |.at u,.lst ds,v,h,h'=>by
  rw[DIs]at h;rw[DIs]at h';obtain⟨a,xs,e,_⟩:=h';have:=h.2;rw[<-h.1,e]at this;cases this
 |.tup ds,.at u,v,h',h=>by
  rw[DIs]at h;rw[DIs]at h';obtain⟨a,xs,e,_⟩:=h';have:=h.2;rw[<-h.1,e]at this;cases this
 |.lst ds,.at u,v,h',h=>by
  rw[DIs]at h;rw[DIs]at h';obtain⟨a,xs,e,_⟩:=h';have:=h.2;rw[<-h.1,e]at this;cases this
 |.tup ds,.tup es,v,h,h'=>by
  rw[DIs]at h;rw[DIs]at h';obtain⟨a,xs,rfl,h1,h2⟩:=h;obtain⟨b,ys,e,k1,k2⟩:=h';cases e;have e:=I.tuple_inj h1 k1;subst e;rw[DIss.inj I h2 k2]
 |.lst ds,.lst es,v,h,h'=>by
  rw[DIs]at h;rw[DIs]at h';obtain⟨a,xs,rfl,h1,h2⟩:=h;obtain⟨b,ys,e,k1,k2⟩:=h';cases e;have e:=I.list_inj h1 k1;subst e;rw[DIss.inj I h2 k2]
 |.tup ds,.lst es,v,h,h'=>by
  rw[DIs]at h;rw[DIs]at h';obtain⟨a,xs,rfl,h1,h2⟩:=h;obtain⟨b,ys,e,k1,k2⟩:=h';cases e;obtain⟨_,_,t1,_⟩:=I.tuple h1;obtain⟨_,_,t2,_⟩:=I.list k1;exact absurd rfl (ne_of_list_tuple t2.isList (show s.heap.IsTuple a _ from t1))
 |.lst ds,.tup es,v,h,h'=>by
  rw[DIs]at h;rw[DIs]at h';obtain⟨a,xs,rfl,h1,h2⟩:=h;obtain⟨b,ys,e,k1,k2⟩:=h';cases e;obtain⟨_,_,t1,_⟩:=I.tuple k1;obtain⟨_,_,t2,_⟩:=I.list h1;exact absurd rfl (ne_of_list_tuple t2.isList (show s.heap.IsTuple a _ from t1))
theorem DIss.inj(I:Inv X pins σ H s):∀{ds es:Ds}{xs:LUz},DIss X.K H ds xs->DIss X.K H es xs->ds=es
 |.nil,.nil,xs,h,h'=>rfl
 |.nil,.cons d r,xs,h,h'=>by
  rw[DIss]at h;rw[DIss]at h';obtain⟨x,ys,e,_⟩:=h';rw[h]at e;cases e
 |.cons d r,.nil,xs,h',h=>by
  rw[DIss]at h;rw[DIss]at h';obtain⟨x,ys,e,_⟩:=h';rw[h]at e;cases e
 |.cons d r,.cons e q,xs,h,h'=>by
  rw[DIss]at h;rw[DIss]at h';obtain⟨x,ys,rfl,h1,h2⟩:=h;obtain⟨y,zs,e',k1,k2⟩:=h';cases e';rw[DIs.inj I h1 k1,DIss.inj I h2 k2]
end
theorem He{A:Around}{u:V}{x:Value}{l:Addr}{items:Array Value}(r:RelV u x)(f:Cn u=true)(hl:s.heap.IsTuple l items)(hu:A.units<cLine):EqAt A s x (.ref l) false/\EqAt A s (.ref l) x false:=by
 cases u with
 |non=>cases r;exact⟨.none_tuple hl hu,.tuple_none hl hu⟩
 |bl b=>cases r;exact⟨.bool_tuple b hl hu,.tuple_bool b hl hu⟩
 |int b=>obtain⟨t,rfl⟩:=r;exact⟨.int_tuple b t hl hu,.tuple_int b t hl hu⟩
 |str b=>obtain⟨t,rfl⟩:=r;exact⟨.str_tuple b t hl hu,.tuple_str b t hl hu⟩
 |_=>exact absurd (show false=true from f) Bool.false_ne_true
theorem Hf{A:Around}{u:V}{x:Value}{l:Addr}{items:Array Value}(r:RelV u x)(f:Cn u=true)(hl:s.heap.IsList l items)(hu:A.units<cLine):EqAt A s x (.ref l) false/\EqAt A s (.ref l) x false:=by
 cases u with
 |non=>cases r;exact⟨.none_list hl hu,.list_none hl hu⟩
 |bl b=>cases r;exact⟨.bool_list b hl hu,.list_bool b hl hu⟩
 |int b=>obtain⟨t,rfl⟩:=r;exact⟨.int_list b t hl hu,.list_int b t hl hu⟩
 |str b=>obtain⟨t,rfl⟩:=r;exact⟨.str_list b t hl hu,.list_str b t hl hu⟩
 |_=>exact absurd (show false=true from f) Bool.false_ne_true
theorem Tu(I:Inv X pins σ H s):∀(n:Nat)(A:Around)(d e:D)(x y:V)(u v:Value),dep d<=n->DIs X.K H d x->DIs X.K H e y->RelV x u->RelV y v->A.units+n<cLine->EqAt A s u v (deq d e):=by
 intro n
 induction n with
 |zero =>
  intro A d e x y u v hn hd he rx ry hu;cases d with
  |tup ds=>rw[dep]at hn;lia
  |lst ds=>rw[dep]at hn;lia
  | «at» p =>
   rw[DIs]at hd;obtain⟨rfl,hf⟩:=hd;cases e with
   | «at» q =>
    rw[DIs]at he;obtain⟨rfl,hg⟩:=he;rw[deq];exact MO rx ry hf hg
   |tup es =>
    rw[DIs]at he;obtain⟨b,ys,rfl,h1,_⟩:=he;obtain⟨_,_,t,_⟩:=I.tuple h1;cases ry;rw[deq]
    .exact(He rx hf (show s.heap.IsTuple b _ from t) hu).1
    all_goals (intros;simp_all)
   |lst es =>
    rw[DIs]at he;obtain⟨b,ys,rfl,h1,_⟩:=he;obtain⟨_,_,t,_⟩:=I.list h1;cases ry;rw[deq]
    .exact(Hf rx hf t.isList hu).1
    all_goals (intros;simp_all)
 |succ n ih =>
  intro A d e x y u v hn hd he rx ry hu;have hu1:A.in1.units+n<cLine:=by show A.units+1+n<cLine;lia
  cases d with
  | «at» p =>
   rw[DIs]at hd;obtain⟨rfl,hf⟩:=hd;cases e with
   | «at» q =>
    rw[DIs]at he;obtain⟨rfl,hg⟩:=he;rw[deq];exact MO rx ry hf hg
   |tup es =>
    rw[DIs]at he;obtain⟨b,ys,rfl,h1,_⟩:=he;obtain⟨_,_,t,_⟩:=I.tuple h1;cases ry;rw[deq]
    .exact(He rx hf (show s.heap.IsTuple b _ from t) (by lia)).1
    all_goals (intros;simp_all)
   |lst es =>
    rw[DIs]at he;obtain⟨b,ys,rfl,h1,_⟩:=he;obtain⟨_,_,t,_⟩:=I.list h1;cases ry;rw[deq]
    .exact(Hf rx hf t.isList (by lia)).1
    all_goals (intros;simp_all)
  |tup ds =>
   have hd0:=hd;rw[dep]at hn;rw[DIs]at hd;obtain⟨a,xs,rfl,h1,h2⟩:=hd;obtain⟨i1,r1,t1,_⟩:=I.tuple h1;cases rx;cases e with
   | «at» q =>
    rw[DIs]at he;obtain⟨rfl,hg⟩:=he;rw[deq]
    .exact(He ry hg (show s.heap.IsTuple a _ from t1) (by lia)).2
    all_goals (intros;simp_all)
   |lst es =>
    rw[DIs]at he;obtain⟨b,ys,rfl,k1,_⟩:=he;obtain⟨_,_,t2,_⟩:=I.list k1;cases ry;rw[deq]
    .exact EqAt.tuple_list (show s.heap.IsTuple a _ from t1) t2.isList (by lia)
    all_goals (intros;simp_all)
   |tup es =>
    have he0:=he;rw[DIs]at he;obtain⟨b,ys,rfl,k1,k2⟩:=he;obtain⟨i2,r2,t2,_⟩:=I.tuple k1;cases ry;by_cases hab:a=b
    .subst hab;rw[DIs.inj I he0 hd0,EN _ hd0];exact EqAt.same _
    .refine EqAt.of_refs hab ?_;have:=RcAt.tuples (A:=A) (e:=λ j=>deq (ds.get j) (es.get j)) (show s.heap.IsTuple a i1.toArray from t1) (show s.heap.IsTuple b i2.toArray from t2) (by lia) λ j g1 g2=>?_
     .have l1:=r1.length;have l2:=r2.length;have m1:=h2.len;have m2:=k2.len;rw[List.size_toArray,List.size_toArray,<-l1,<-l2,<-m1,<-m2,BC]at this;rw[deq];exact this
     .have l1:=r1.length;have l2:=r2.length;have m1:=h2.len;have g1':j<xs.length:=by simp at g1;lia
      have g2':j<ys.length:=by simp at g2;lia
      obtain⟨u1,e1,q1⟩:=r1.get (List.getElem?_eq_getElem g1');obtain⟨u2,e2,q2⟩:=r2.get (List.getElem?_eq_getElem g2');have d1:i1.toArray[j]=u1:=by
       have:i1[j]?=some i1.toArray[j]:=by simp
       rw[e1]at this;exact(Option.some.inj this).symm
      have d2:i2.toArray[j]=u2:=by
       have:i2[j]?=some i2.toArray[j]:=by simp
       rw[e2]at this;exact(Option.some.inj this).symm
      rw[d1,d2];exact ih _ _ _ _ _ _ _ (Nat.le_trans (Gg ds j (by lia)) (by lia)) (h2.get (List.getElem?_eq_getElem g1')) (k2.get (List.getElem?_eq_getElem g2')) q1 q2 hu1
  |lst ds =>
   have hd0:=hd;rw[dep]at hn;rw[DIs]at hd;obtain⟨a,xs,rfl,h1,h2⟩:=hd;obtain⟨i1,r1,t1,_⟩:=I.list h1;cases rx;cases e with
   | «at» q =>
    rw[DIs]at he;obtain⟨rfl,hg⟩:=he;rw[deq]
    .exact(Hf ry hg t1.isList (by lia)).2
    all_goals (intros;simp_all)
   |tup es =>
    rw[DIs]at he;obtain⟨b,ys,rfl,k1,_⟩:=he;obtain⟨_,_,t2,_⟩:=I.tuple k1;cases ry;rw[deq]
    .exact EqAt.list_tuple t1.isList (show s.heap.IsTuple b _ from t2) (by lia)
    all_goals (intros;simp_all)
   |lst es =>
    have he0:=he;rw[DIs]at he;obtain⟨b,ys,rfl,k1,k2⟩:=he;obtain⟨i2,r2,t2,_⟩:=I.list k1;cases ry;by_cases hab:a=b
    .subst hab;rw[DIs.inj I he0 hd0,EN _ hd0];exact EqAt.same _
    .refine EqAt.of_refs hab ?_;have l1:=r1.length;have l2:=r2.length;have m1:=h2.len;have m2:=k2.len;rw[deq];rw[<-BC];by_cases hz:ds.len=es.len
     .have:=RcAt.lists (A:=A) (e:=λ j=>deq (ds.get j) (es.get j)) t1.isList t2.isList (by simp;lia) (by lia) λ j g1 g2=>?_
      .rw[List.size_toArray,<-l1,<-m1]at this;rw[hz,Nat.min_self,beq_self_eq_true,Bool.and_true,<-hz];exact this
      .have g1':j<xs.length:=by simp at g1;lia
       have g2':j<ys.length:=by simp at g2;lia
       obtain⟨u1,e1,q1⟩:=r1.get (List.getElem?_eq_getElem g1');obtain⟨u2,e2,q2⟩:=r2.get (List.getElem?_eq_getElem g2');have d1:i1.toArray[j]=u1:=by
        have:i1[j]?=some i1.toArray[j]:=by simp
        rw[e1]at this;exact(Option.some.inj this).symm
       have d2:i2.toArray[j]=u2:=by
        have:i2[j]?=some i2.toArray[j]:=by simp
        rw[e2]at this;exact(Option.some.inj this).symm
       rw[d1,d2];exact ih _ _ _ _ _ _ _ (Nat.le_trans (Gg ds j (by lia)) (by lia)) (h2.get (List.getElem?_eq_getElem g1')) (k2.get (List.getElem?_eq_getElem g2')) q1 q2 hu1
     .have e0:(ds.len==es.len)=false:=by simpa using hz
      rw[e0,Bool.and_false];exact RcAt.lists_lengths t1.isList t2.isList (by simp;lia) (by lia)
end
section
variable{X:Cx}
theorem Ge{pins:PNz}{σ:St}{H:Hp}{s:Shared}(I:Inv X pins σ H s){A:Around}{ds es:Ds}{xs ys:LUz}{i1 i2:LWz}(h2:DIss X.K H ds xs)(k2:DIss X.K H es ys)(r1:Vals xs i1)(r2:Vals ys i2)
  (hu:A.units+60<cLine) (hd:Dv ds<=50):∀j (g1:j<i1.toArray.size) (g2:j<i2.toArray.size),EqAt A.in1 s i1.toArray[j] i2.toArray[j] (deq (ds.get j) (es.get j)):=λ j g1 g2=>by
 have l1:=r1.length;have l2:=r2.length;have m1:=h2.len;have g1':j<xs.length:=by simp at g1;lia
 have g2':j<ys.length:=by simp at g2;lia
 obtain⟨u1,e1,q1⟩:=r1.get (List.getElem?_eq_getElem g1');obtain⟨u2,e2,q2⟩:=r2.get (List.getElem?_eq_getElem g2');have d1:i1.toArray[j]=u1:=by
  have:i1[j]?=some i1.toArray[j]:=by simp
  rw[e1]at this;exact(Option.some.inj this).symm
 have d2:i2.toArray[j]=u2:=by
  have:i2[j]?=some i2.toArray[j]:=by simp
  rw[e2]at this;exact(Option.some.inj this).symm
 rw[d1,d2];exact Tu I 50 _ _ _ _ _ _ _ (Nat.le_trans (Gg ds j (by lia)) hd) (h2.get (List.getElem?_eq_getElem g1')) (k2.get (List.getElem?_eq_getElem g2')) q1 q2 (by show A.units+1+50<cLine;lia)
def ST(K:Frag)(neg:Bool):R2:=λ x y H Q=>∃d e,DIs K H d x/\DIs K H e y/\(∃a,x=.ref a)/\(∃b,y=.ref b)/\dep d<=50/\Q (.bl (if neg then !deq d e else deq d e)) H
theorem SZ{k:Nat}(hr:Room k X.A):OpR X (compareOp .Eq) (ST X.K false):=by
 intro pins s σ H x y v u Q I rx ry h;obtain⟨d,e,hd,he,⟨a,rfl⟩,⟨b,rfl⟩,hn,q⟩:=h;cases rx;cases ry;have hu:=hr.units;cases d with
 | «at» p=>rw[DIs]at hd;obtain⟨rfl,hf⟩:=hd;cases hf
 |tup ds =>
  rw[dep]at hn;rw[DIs]at hd;obtain⟨a',xs,e',h1,h2⟩:=hd;cases e';obtain⟨i1,r1,t1,_⟩:=I.tuple h1;cases e with
  | «at» p=>rw[DIs]at he;obtain⟨rfl,hf⟩:=he;cases hf
  |tup es =>
   rw[DIs]at he;obtain⟨b',ys,e',k1,k2⟩:=he;cases e';obtain⟨i2,r2,t2,_⟩:=I.tuple k1;refine RcAt.tuples (show s.heap.IsTuple a i1.toArray from t1) (show s.heap.IsTuple b i2.toArray from t2) (by lia) (Ge I h2 k2 r1 r2 (by lia) (by lia)) _ _ _ _ ⟨.bl _,H,I,?_,q⟩;show Value.bool _=Value.bool _;rw[List.size_toArray,List.size_toArray,<-r1.length,<-r2.length,<-h2.len,<-k2.len,BC];simp only[Bool.false_eq_true,if_false];rw[deq]
  |lst es =>
   rw[DIs]at he;obtain⟨b',ys,e',k1,k2⟩:=he;cases e';obtain⟨i2,r2,t2,_⟩:=I.list k1;refine RcAt.tuple_list (show s.heap.IsTuple a _ from t1) t2.isList (by lia) _ _ _ _ ⟨.bl _,H,I,?_,q⟩;show Value.bool _=Value.bool _;simp only[Bool.false_eq_true,if_false];rw[deq]<;>(intros;simp_all)
 |lst ds =>
  rw[dep]at hn;rw[DIs]at hd;obtain⟨a',xs,e',h1,h2⟩:=hd;cases e';obtain⟨i1,r1,t1,_⟩:=I.list h1;cases e with
  | «at» p=>rw[DIs]at he;obtain⟨rfl,hf⟩:=he;cases hf
  |tup es =>
   rw[DIs]at he;obtain⟨b',ys,e',k1,k2⟩:=he;cases e';obtain⟨i2,r2,t2,_⟩:=I.tuple k1;refine RcAt.list_tuple t1.isList (show s.heap.IsTuple b _ from t2) (by lia) _ _ _ _ ⟨.bl _,H,I,?_,q⟩;show Value.bool _=Value.bool _;simp only[Bool.false_eq_true,if_false];rw[deq]<;>(intros;simp_all)
  |lst es =>
   rw[DIs]at he;obtain⟨b',ys,e',k1,k2⟩:=he;cases e';obtain⟨i2,r2,t2,_⟩:=I.list k1;have l1:=r1.length;have l2:=r2.length;have m1:=h2.len;have m2:=k2.len;by_cases hz:ds.len=es.len
   .refine RcAt.lists t1.isList t2.isList (by simp;lia) (by lia) (Ge I h2 k2 r1 r2 (by lia) (by lia)) _ _ _ _ ⟨.bl _,H,I,?_,q⟩;show Value.bool _=Value.bool _;simp only[Bool.false_eq_true,if_false];rw[deq,<-BC,List.size_toArray,<-l1,<-m1,hz,Nat.min_self,beq_self_eq_true,Bool.and_true]
   .refine RcAt.lists_lengths t1.isList t2.isList (by simp;lia) (by lia) _ _ _ _ ⟨.bl _,H,I,?_,q⟩;show Value.bool _=Value.bool _;have e0:(ds.len==es.len)=false:=by simpa using hz
    simp only[Bool.false_eq_true,if_false];rw[deq,<-BC,e0,Bool.and_false]
theorem SY{k:Nat}(hr:Room k X.A):OpR X (compareOp .NotEq) (ST X.K true):=by
 intro pins s σ H x y v u Q I rx ry h;obtain⟨d,e,hd,he,⟨a,rfl⟩,⟨b,rfl⟩,hn,q⟩:=h;cases rx;cases ry;have hu:=hr.units;cases d with
 | «at» p=>rw[DIs]at hd;obtain⟨rfl,hf⟩:=hd;cases hf
 |tup ds =>
  rw[dep]at hn;rw[DIs]at hd;obtain⟨a',xs,e',h1,h2⟩:=hd;cases e';obtain⟨i1,r1,t1,_⟩:=I.tuple h1;cases e with
  | «at» p=>rw[DIs]at he;obtain⟨rfl,hf⟩:=he;cases hf
  |tup es =>
   rw[DIs]at he;obtain⟨b',ys,e',k1,k2⟩:=he;cases e';obtain⟨i2,r2,t2,_⟩:=I.tuple k1;refine RcNeAt.tuples (show s.heap.IsTuple a i1.toArray from t1) (show s.heap.IsTuple b i2.toArray from t2) (by lia) (Ge I h2 k2 r1 r2 (by lia) (by lia)) _ _ _ _ ⟨.bl _,H,I,?_,q⟩;show Value.bool _=Value.bool _;rw[List.size_toArray,List.size_toArray,<-r1.length,<-r2.length,<-h2.len,<-k2.len,BC];simp only[if_true];rw[deq]
  |lst es =>
   rw[DIs]at he;obtain⟨b',ys,e',k1,k2⟩:=he;cases e';obtain⟨i2,r2,t2,_⟩:=I.list k1;refine RcNeAt.tuple_list (show s.heap.IsTuple a _ from t1) t2.isList (by lia) _ _ _ _ ⟨.bl _,H,I,?_,q⟩;show Value.bool _=Value.bool _;simp only[if_true];rw[deq]<;>first|rfl|(intros;simp_all)
 |lst ds =>
  rw[dep]at hn;rw[DIs]at hd;obtain⟨a',xs,e',h1,h2⟩:=hd;cases e';obtain⟨i1,r1,t1,_⟩:=I.list h1;cases e with
  | «at» p=>rw[DIs]at he;obtain⟨rfl,hf⟩:=he;cases hf
  |tup es =>
   rw[DIs]at he;obtain⟨b',ys,e',k1,k2⟩:=he;cases e';obtain⟨i2,r2,t2,_⟩:=I.tuple k1;refine RcNeAt.list_tuple t1.isList (show s.heap.IsTuple b _ from t2) (by lia) _ _ _ _ ⟨.bl _,H,I,?_,q⟩;show Value.bool _=Value.bool _;simp only[if_true];rw[deq]<;>first|rfl|(intros;simp_all)
  |lst es =>
   rw[DIs]at he;obtain⟨b',ys,e',k1,k2⟩:=he;cases e';obtain⟨i2,r2,t2,_⟩:=I.list k1;have l1:=r1.length;have l2:=r2.length;have m1:=h2.len;have m2:=k2.len;by_cases hz:ds.len=es.len
   .refine RcNeAt.lists t1.isList t2.isList (by simp;lia) (by lia) (Ge I h2 k2 r1 r2 (by lia) (by lia)) _ _ _ _ ⟨.bl _,H,I,?_,q⟩;show Value.bool _=Value.bool _;simp only[if_true];rw[deq,<-BC,List.size_toArray,<-l1,<-m1,hz,Nat.min_self,beq_self_eq_true,Bool.and_true]
   .refine RcNeAt.lists_lengths t1.isList t2.isList (by simp;lia) (by lia) _ _ _ _ ⟨.bl _,H,I,?_,q⟩;show Value.bool _=Value.bool _;have e0:(ds.len==es.len)=false:=by simpa using hz
    simp only[if_true];rw[deq,<-BC,e0,Bool.and_false];rfl
end
structure LO(P:Program)(w:World)(K:Frag)(mg:MGz)(base:Heap)(k:Nat)(x:Str)(C:Addr)(ps:LSz)(sp:Sp):Prop where
 ex:∃(f:Addr)(fd:FuncData),Mk K C f/\A5 P w K mg base CX0 k f fd ps sp/\mg x=some (.ref C)/\Binds K fd ps []
structure Ip(P:Program)(w:World)(K:Frag)(mg:MGz)(base:Heap)(k:Nat)(C:Addr)(m:Str)(ps:LSz)(sp:Sp):Prop where
 cl:Cls K C
 ex:∃(f:Addr)(fd:FuncData),Sh K C m f/\A5 P w K mg base CX0 k f fd ps sp/\Binds K fd ps []
section
variable{X:Cx}{k j:Nat}{x m:Str}{C:Addr}{ps:LSz}{sp:Sp}{p pos apos:Pos}{e o:Expr}{es:List Expr}{t:TA}{ta:TE}
theorem KR(D:LO X.prog X.w X.K X.mg X.base k x C ps sp)(hr:Room j X.A)(ha:PA X (e::es) t)(hj:k+1<=j:=by decide)(hg:Gl X x:=by rfl)(hdb:(x==("__debug__":Str))=false:=by decide)
  (he:starEach (e::es) X.env=(false,eval e X.env)::starEach es X.env:=by rfl) (hpl:(backTo pos (starEach es X.env)).any (·.1)=false:=by rfl):PE X (.Call (.Name x p) (e::es) [] pos) (Sm C sp [] E0 t):=by
 obtain⟨f,fd,M,F,hm,hb⟩:=D.ex;exact R5 M F (hr.mono hj) hg hm hb .nil G8 ha hdb he hpl
theorem N9{pl:Sem Bool}(D:Ip X.prog X.w X.K X.mg X.base k C m ps sp)(hr:Room j X.A)(he:PE X o ta)(ha:PA X (e::es) t)(hj:k<=j:=by decide)
    (hst:starEach (e::es) X.env=(false,eval e X.env)::starEach es X.env:=by rfl) (hpl:(backTo pos (starEach es X.env)).any (·.1)=false:=by rfl)
    (ht:eval (.Call (.Attribute o m apos) (e::es) [] pos) X.env=(do
      let ov <-eval o X.env
      standAt apos.atName
      let (f,first) <-holding [ov] (getMethod ov m pl)
      callWith pos f first (backTo pos (starEach (e::es) X.env)) (backToKw pos (keywordEach [] X.env))):=by rfl):PE X (.Call (.Attribute o m apos) (e::es) [] pos) (Nj C m sp [] E0 ta t):=by
  obtain⟨f,fd,M,F,hb⟩:=D.ex;exact R4 he D.cl M F (hr.mono hj) hb .nil G8 ha hst hpl ht
theorem G4{pl:Sem Bool}(D:Ip X.prog X.w X.K X.mg X.base k C m ps sp)(hr:Room j X.A)(he:PE X o ta)(hj:k<=j:=by decide)
    (ht:eval (.Call (.Attribute o m apos) [] [] pos) X.env=(do
      let ov <-eval o X.env
      standAt apos.atName
      let (f,first) <-holding [ov] (getMethod ov m pl)
      callWith pos f first (backTo pos (starEach [] X.env)) (backToKw pos (keywordEach [] X.env))):=by rfl):PE X (.Call (.Attribute o m apos) [] [] pos) (Nj C m sp [] E0 ta Ra):=by
  obtain⟨f,fd,M,F,hb⟩:=D.ex;exact PP he D.cl M F (hr.mono hj) hb .nil G8 ht
end
section
variable{X:Cx}{K:Frag}{pos:Pos}
theorem JF{es:List Expr}{k:Nat}{t:TGs}{n:Nat}(hc:X.calm=true)(h:PGs X es t)(hK:X.K=K:=by rfl)
  (hn:(assignEach es X.env).length=n:=by rfl) (hst:(assignEach es X.env).findIdx? (·.1)=none:=by rfl):PG X (.Tuple es k pos) (U2 K n t):=by
 subst hK;exact BS hc h hn hst
def PD(K:Frag):LUz->Hp->VK->Prop:=λ xs H Q=>∃p ys,xs=[V.ref p]/\((SqL K H p ys/\∀l,H l=none->Q (.ref l) (upd H l (.tup ys)))\/(SqT K H p ys/\Q (.ref p) H))
theorem Kj(hK:X.K=K:=by rfl):D5 X (.type "tuple") (PD K):=by subst hK;exact Ia
end
end L2
namespace GB
open PySem.W
open PySem L2
structure Rc where
 t:Int
 l:Int
 b:Int
 r:Int
 deriving DecidableEq
def Rc.ls(p:Rc):List Int:=[p.t,p.l,p.b,p.r]
def Rc.has(p:Rc)(r c:Int):Prop:=p.t<=r/\r<p.b/\p.l<=c/\c<p.r
def Rc.In(w h:Int)(p:Rc):Prop:=0<=p.t/\p.t<p.b/\p.b<=h/\0<=p.l/\p.l<p.r/\p.r<=w
def Apart(p q:Rc):Prop:=∀r c,p.has r c->q.has r c->False
theorem Apart.symm{p q:Rc}(h:Apart p q):Apart q p:=λ r c a b=>h r c b a
structure Tiles(w h:Int)(ps:List Rc):Prop where
 ins:∀p∈ps,p.In w h
 dis:ps.Pairwise Apart
 cov:∀r c,0<=r->r<h->0<=c->c<w->∃p∈ps,p.has r c
theorem MT{ps:List Rc}(h:ps.Pairwise Apart){p q:Rc}{r c:Int}(hp:p∈ps)(hq:q∈ps)(a:p.has r c)(b:q.has r c):p=q:=by
 obtain⟨i,hi,rfl⟩:=List.getElem_of_mem hp;obtain⟨j,hj,rfl⟩:=List.getElem_of_mem hq;rw[List.pairwise_iff_getElem]at h;rcases Nat.lt_trichotomy i j with e|e|e
 .exact(h i j hi hj e r c a b).elim
 .subst e;rfl
 .exact(h j i hj hi e r c b a).elim
theorem Tiles.perm{w h:Int}{ps qs:List Rc}(T:Tiles w h ps)(e:qs.Perm ps):Tiles w h qs :=
 ⟨λ p hp=>T.ins p (e.mem_iff.mp hp),(e.pairwise_iff (λ{a b} x=>Apart.symm x)).mpr T.dis,λ r c a b x y=>let ⟨p,hp,z⟩:=T.cov r c a b x y;⟨p,e.mem_iff.mpr hp,z⟩⟩
def Rc.sw(p:Rc):Rc:=⟨p.l,p.t,p.r,p.b⟩
theorem Rc.sw_sw(p:Rc):p.sw.sw=p:=rfl
theorem Rc.sw_has{p:Rc}{r c:Int}:p.sw.has r c↔p.has c r:=by
 show p.l<=r/\r<p.r/\p.t<=c/\c<p.b↔p.t<=c/\c<p.b/\p.l<=r/\r<p.r;lia
theorem Rc.sw_in{p:Rc}{w h:Int}(x:p.In w h):p.sw.In h w:=by
 obtain⟨a,b,c,d,e,f⟩:=x;exact⟨d,e,f,a,b,c⟩
theorem Tiles.sw{w h:Int}{ps:List Rc}(T:Tiles w h ps):Tiles h w (ps.map Rc.sw):=by
 refine⟨λ p hp=>?_,?_,λ r c a b x y=>?_⟩
 .obtain⟨q,hq,rfl⟩:=List.mem_map.mp hp;exact Rc.sw_in (T.ins q hq)
 .rw[List.pairwise_map];exact T.dis.imp λ{p q} h r c a b=>h c r (Rc.sw_has.mp a) (Rc.sw_has.mp b)
 .obtain⟨p,hp,z⟩:=T.cov c r x y a b;exact⟨p.sw,List.mem_map.mpr ⟨p,hp,rfl⟩,Rc.sw_has.mpr z⟩
def key:List Int->Int
 |[a,b,c,d]=>((a*13+b)*13+c)*13+d
 |_=>0
theorem JX(p:Rc):key p.ls=((p.t*13+p.l)*13+p.b)*13+p.r:=rfl
theorem key_lt{p q:Rc}{w h w' h':Int}(hp:p.In w h)(hq:q.In w' h')(b1:w<=12)(b2:h<=12)(b3:w'<=12)(b4:h'<=12):HT.lexLt p.ls q.ls=decide (key p.ls<key q.ls):=by
 obtain⟨a1,a2,a3,a4,a5,a6⟩:=hp;obtain⟨c1,c2,c3,c4,c5,c6⟩:=hq;rw[JX,JX];show(if p.t=q.t then (if p.l=q.l then (if p.b=q.b then (if p.r=q.r then false else decide (p.r<q.r)) else decide (p.b<q.b)) else decide (p.l<q.l)) else decide (p.t<q.t))=_
 repeat' split
 all_goals (first|(apply Eq.symm;rw[decide_eq_false_iff_not];lia)|(rw[decide_eq_decide];lia))
theorem RI{p q:Rc}{w h w' h':Int}(hp:p.In w h)(hq:q.In w' h')(b1:w<=12)(b2:h<=12)(b3:w'<=12)(b4:h'<=12)(e:key p.ls=key q.ls):p=q:=by
 obtain⟨a1,a2,a3,a4,a5,a6⟩:=hp;obtain⟨c1,c2,c3,c4,c5,c6⟩:=hq;rw[JX,JX]at e;obtain⟨pt,pl,pb,pr⟩:=p;obtain⟨qt,ql,qb,qr⟩:=q;simp only at *;have e1:pt=qt:=by lia
 subst e1;have e2:pl=ql:=by lia
 subst e2;have e3:pb=qb:=by lia
 subst e3;have e4:pr=qr:=by lia
 subst e4;rfl
def Srt(ps:List Rc):Prop:=(ps.map λ p=>key p.ls).Pairwise (·<=·)
theorem sorted_same{ps qs:List Rc}{w h:Int}(hp:∀p∈ps,p.In w h)(b1:w<=12)(b2:h<=12)(e:ps.Perm qs)(s1:Srt ps)(s2:Srt qs):ps=qs:=by
 have hq:∀p∈qs,p.In w h:=λ p x=>hp p (e.mem_iff.mpr x);have hm:=ksm_same (List.Perm.map (λ p:Rc=>key p.ls) e) s1 s2;have len:=e.length_eq;apply List.ext_getElem len;intro i h1 h2;have:=congrArg (λ l=>l[i]?) hm;simp only[List.getElem?_map,List.getElem?_eq_getElem h1,List.getElem?_eq_getElem h2,Option.map_some,Option.some.injEq]at this;exact RI (hp _ (List.getElem_mem h1)) (hq _ (List.getElem_mem h2)) b1 b2 b1 b2 this
def D0(p:Rc)(i:Nat)(j:Nat):List (Int×Int):=(List.range j).map λ(k:Nat)=>(p.t+(i:Int),p.l+(k:Int))
def FK(p:Rc):Nat->List (Int×Int)
 |0=>[]
 |i+1=>FK p i++D0 p i (p.r-p.l).toNat
def sqs(p:Rc):List (Int×Int):=FK p (p.b-p.t).toNat
theorem mem_rowSq{p:Rc}{i j:Nat}{r c:Int}:(r,c)∈D0 p i j↔r=p.t+i/\p.l<=c/\c<p.l+j:=by
 unfold D0;rw[List.mem_map]
 constructor
 .rintro⟨k,hk,e⟩;have:=List.mem_range.mp hk;cases e;lia
 .rintro⟨rfl,a,b⟩;exact⟨(c-p.l).toNat,List.mem_range.mpr (by lia),by rw[show((c-p.l).toNat:Int)=c-p.l by lia];congr 1;lia⟩
theorem GO{p:Rc}(h:p.l<=p.r){r c:Int}:∀{n:Nat},(r,c)∈FK p n↔p.t<=r/\r<p.t+n/\p.l<=c/\c<p.r
 |0=>by
  simp only[FK,List.not_mem_nil,false_iff];lia
 |n+1=>by
  rw[FK,List.mem_append,GO h,mem_rowSq];lia
theorem Gb{p:Rc}(h:p.l<=p.r)(h2:p.t<=p.b){r c:Int}:(r,c)∈sqs p↔p.has r c:=by
 unfold sqs Rc.has;rw[GO h];lia
theorem KF(p:Rc)(i j:Nat):(D0 p i j).Nodup:=by
 unfold D0;rw[List.nodup_iff_pairwise_ne,List.pairwise_map];exact(List.nodup_range (n:=j)).imp λ{a b} h e=>h (by
  have:=congrArg Prod.snd e;simp only at this;lia)
theorem Gr{p:Rc}(h:p.l<=p.r):∀n,(FK p n).Nodup
 |0=>List.nodup_nil
 |n+1=>by
  rw[FK,List.nodup_append];refine⟨Gr h n,KF p n _,λ a ha b hb e=>?_⟩;subst e;obtain⟨r,c⟩:=a;have h1:=(GO h).mp ha;have h2:=mem_rowSq.mp hb;lia
theorem Gs(p:Rc):∀n,(FK p n).length=n*(p.r-p.l).toNat
 |0=>by simp[FK]
 |n+1=>by rw[FK,List.length_append,Gs p n,D0,List.length_map,List.length_range,Nat.succ_mul]
theorem Ms(p:Rc)(i j:Nat):D0 p i (j+1)=D0 p i j++[(p.t+(i:Int),p.l+(j:Int))]:=by
 unfold D0;rw[List.range_succ,List.map_append];rfl
end GB
namespace L2
open PySem.W
open PySem PySem.Spec PyProof.Rows
section
variable{prog:Program}{w:World}{A:Around}{E:VPz}{h:Heap}{g:Array GenState}{d:Drawn}{t:Nat}{os:OsState}
 {nm qn:Str} {C N:Addr} {bs bm bmB:LWz} {hdct:Bool} {sn:LSz} {sub:LWz} {ab:Bool} {col:Option Bool} {dd:Option Addr} {k0 k1 k2 k3 k5:Option Value} {B newId initId:String}
def BQ(h:Heap)(C:Addr)(rest:LWz):Heap:=(h.push { cls:=.type "tuple",data:=.seq rest.toArray }).push { cls:=.ref C,data:=.fields #[.ref h.objs.size,.none,.none,.none,.bool false,.none] }
theorem BJ{C:Addr}{rest:LWz}{b:Addr}{o:Obj}(e:h.get? b=some o):(BQ h C rest).get? b=some o:=Heap.get?_push_of_some _ (Heap.get?_push_of_some _ e)
theorem IC(C:Addr)(rest:LWz):(BQ h C rest).get? (h.objs.size+1)=some { cls:=.ref C,data:=.fields #[.ref h.objs.size,.none,.none,.none,.bool false,.none] }:=by
 unfold BQ;heap_get
theorem Gn(F:ExcBaseFacts B newId initId bmB)(T:OwnTail h bmB bm){mN:MGz}{rest:LWz}{fI:Addr}{oI:Obj}{Q:Fin->Shared->Prop}
  (hC:h.get? C=some (excClassObj nm qn C N bs bm hdct sn sub ab col dd k0 k1 k2 k3 k5 newId)) (hn:h.Ns N mN) (hi:mN "__init__"=some (.ref fI)) (hfI:h.get? fI=some oI) (hfc:oI.cls=.type "function") (hrest:rest.length<=sizeLine)
  (hq:wpAny (model prog w) A (call (.ref fI) (.ref (h.objs.size+1)::rest)) (λ r s'=>r=.none/\Q (.done (.ret (.ref (h.objs.size+1)))) s') E ⟨BQ h C rest,g,d,t,os⟩) :
  wpAny (model prog w) A (Builtin.«type.__call__» ⟨.ref C::rest,[]⟩) Q E ⟨h,g,d,t,os⟩:=by
 repeat (first|with_reducible refine wpAny_loadPart_at hC ?_|with_reducible refine wpAny_madeBy_exc hC ?_|wp_step)
 refine codeAny_call_builtin_code (Code.quiet_builtin _ F.quiet) (wpAny_check_new_subT F T hC (codeAny_exc_new_subT F T hC ?_ hrest));show wpAny _ _ _ _ _ ⟨BQ h C rest,g,d,t,os⟩;have c1:(BQ h C rest).get? C=_:=BJ hC;have n1:(BQ h C rest).Ns N mN:=let ⟨o,es,ep,e,r⟩:=hn;⟨o,es,ep,BJ e,r⟩;have e1:=IC (h:=h) C rest;have T1:OwnTail (BQ h C rest) bmB bm:=T.keeps λ_ _ e=>BJ e;have cc:(Value.ref C::bm).contains (.ref C)=true:=by simp
 unfold isInstance
 repeat (first|with_reducible refine wpAny_loadPart_at e1 ?_|(with_reducible refine wpAny_isSubtype_exc c1 ?_;rw[cc])|wp_step)
 show wpAny _ _ (typeLookup (.ref C) _) _ _ _;refine wpAny_typeLookup_tail c1 n1 T1 F.mroIs F.init.lookup ?_;rw[hi];refine wpAny_holding (wpAny_bind ?_);unfold bindSpecial;refine wpAny_bind (wpAny_typeOf (T:="function") ⟨_,BJ hfI,hfc⟩ ?_);rw[if_pos (by decide)];refine wpAny_pure (wpAny_bind (wpAny_mono hq (λ r s' hr=>?_) λ_ _ x=>x));obtain⟨rfl,hQ⟩:=hr
 wp_walk
 exact hQ
theorem OT(F:ExcBaseFacts B newId initId bmB)(T:OwnTail h bmB bm){mN:MGz}{rest:LWz}{fI:Addr}{oI:Obj}{Q:VPz}
  (hC:h.get? C=some (excClassObj nm qn C N bs bm hdct sn sub ab col dd k0 k1 k2 k3 k5 newId)) (hn:h.Ns N mN) (hi:mN "__init__"=some (.ref fI)) (hfI:h.get? fI=some oI) (hfc:oI.cls=.type "function") (hrest:rest.length<=sizeLine)
  (hq:wpAny (model prog w) (A.under (.builtin "type.__call__" ⟨.ref C::rest,[]⟩)) (call (.ref fI) (.ref (h.objs.size+1)::rest)) (λ r s'=>r=.none/\Q (.ref (h.objs.size+1)) s') E ⟨BQ h C rest,g,d,t,os⟩) :
  wpAny (model prog w) A (call (.ref C) rest) Q E ⟨h,g,d,t,os⟩:=by
 have l1:=tc_lookup;have l2:=tc_bind (.ref C);have ty:(⟨h,g,d,t,os⟩:Shared).TypeIs (.ref C) "type":=⟨_,hC,rfl⟩;refine wpAny_call (codeAny_of_tree ?_);show wpAny _ _ (callAny (.ref C) _) _ _ _
 repeat (any_goals (first|assumption|with_reducible refine wpAny_loadPart_at hC ?_|wp_step))
 exact⟨rfl,codeAny_call_builtin_at (Code.quiet_builtin _ (by decide +kernel)) entry_typeCall (wpAny_check_type_call_sub hC (Gn F T hC hn hi hfI hfc hrest hq))⟩
end
open PySem.Builtin PySem.Builtin.ObjectAttr
def vErr:LWz:=[.type "ValueError",.type "Exception",.type "BaseException",.type "object"]
def Fu:LWz->Bool
 |[]=>false
 |x::r=>(match x with|.ref _=>Fu r|_=>false)||(x::r==vErr)
theorem G1(self:Value):∀{l:LWz},Fu l=true->refuseLoop self "__setattr__" l=pure ()
 |[],e=>by cases e
 |x::r,e=>by
  unfold Fu at e;rw[Bool.or_eq_true]at e;rcases e with e|e
  .cases x<;>first|(rw[refuseLoop_ref];exact G1 self e)|cases e
  .rw[show x::r=vErr from beq_iff_eq.mp e];exact PySem.F.store_ValueError.passes self
theorem Ke{T:String}(hT:vErr.contains (.type T)=true):∀{l:LWz},Fu l=true->l.contains (.type T)=true
 |[],e=>by cases e
 |x::r,e=>by
  unfold Fu at e;rw[Bool.or_eq_true]at e;rcases e with e|e
  .cases x<;>first|(rw[List.contains_cons,Ke hT e,Bool.or_true])|cases e
  .rw[show x::r=vErr from beq_iff_eq.mp e];exact hT
def excIn(K:Frag)(C:Addr):Bool:=(clsIn K C).any λ cd=>Fu cd.mro
section
variable{prog:Program}{w:World}{A:Around}{E:VPz}{R:Result->Shared->Prop}{s:Shared}{K:Frag}{x C:Addr}{ox:Obj}{od:Option Obj}{name:Str}{tk:Tok}{v:Value}
theorem NB(X:K.In s.heap)(I:InstAt s.heap x ox C od)(hp:excIn K C=true)(ht:findIn K (.ref C) name=some none)
  (h:wpAny (model prog w) A.in1 (storeInOwnDict (.ref x) (.ref C) (.str name tk) name v false)
   (λ fin s'=>match fin with|.done f=>R (.ok f) s'|.again c'=>c'.quiet=true/\codeAny (model prog w) A c' R s') (λ e s'=>R (.error e) s') s) :
  codeAny (model prog w) A (.call (.builtin "object.__setattr__") ⟨[.ref x,.str name tk,v],[]⟩) R s:=by
 have SF:=PySem.F.store_object;obtain⟨cd,hc,ho⟩:=any_some hp;have ne:cd.mro.isEmpty=false:=by cases q:cd.mro with|nil=>rw[q]at ho;cases ho|cons _ _=>rfl
 have tO:Looks (model prog w) s.heap (isInstance (.ref x) (.type "object")) true:=I.type.andThen (looks_mroIn X (by
  unfold mroIn;rw[hc,Option.bind_some,ne];show some (cd.mro.contains (.type "object"))=some true;rw[Ke (by decide +kernel) ho]))
 have tM:Looks (model prog w) s.heap (mroOf (.ref C)) cd.mro:=(looks_clsIn X hc).andThen .now;refine codeAny_call_builtin SF.slot.plain SF.entry (@check_slot (model prog w) _ _ s "object.__setattr__" "object" "__setattr__" (.ref x) [.str name tk,v] [] _ SF.kind SF.split tO (SF.args (.ref x) (.str name tk) v) ?_);rw[osa_eq,refuse_eq];refine wpAny_bind (wpAny_bind (I.type.here (wpAny_bind (tM.here ?_))));rw[G1 _ ho];exact wpAny_pure (wpAny_bind (I.type.here (wpAny_bind ((looks_findIn X ht).here (wpAny_bind (wpAny_pure h))))))
theorem P2{vs:Array Value}{sl:AOz}{Q:Unit->Shared->Prop}(X:K.In s.heap)(hx:s.heap.get? x=some ⟨.ref C,none,.fields vs,sl⟩)(hs:findIn K (.ref C) "__setattr__"=some (some (.builtin "object.__setattr__")))
  (hp:excIn K C=true) (hh:hasDictIn K C=true) (ht:findIn K (.ref C) name=some none)
  (h:∀h',h'.get? x=some ⟨.ref C,some s.heap.objs.size,.fields vs,sl⟩->h'.Ns1 s.heap.objs.size (λ y=>if y=name then some v else none)->(∀b o,b≠x->s.heap.get? b=some o->h'.get? b=some o)->Q () { s with heap:=h',toks:=s.toks+2 }) :
  wpAny (model prog w) A (setAttr (.ref x) name v) Q E s:=by
 have I:InstAt s.heap x ⟨.ref C,none,.fields vs,sl⟩ C none:=⟨hx,rfl,rfl,trivial⟩;obtain⟨cd,hc,hd'⟩:=any_some hh;have nx:x≠s.heap.objs.size:=Nat.ne_of_lt (Heap.lt_size hx);refine set_plain X I hs (NB (s:={ s with toks:=s.toks+1 }) X I hp ht ?_);refine wpAny_bind (wpAny_pure (wpAny_bind (wpAny_bind (wpAny_loadPart hx (wpAny_bind (Looks.here (s:={ s with toks:=s.toks+1 }) (looks_clsIn X hc) ?_))))));rw[hd'];refine wpAny_bind (wpAny_alloc (wpAny_bind (wpAny_update (Heap.get?_push_of_some _ hx) (wpAny_pure ?_))));generalize hH:(s.heap.push { cls:=.type "dict",data:=.dict #[] }).update x (λ o=>{ o with dict:=some s.heap.objs.size })=H1;have hx1:H1.get? x=some ⟨.ref C,some s.heap.objs.size,.fields vs,sl⟩:=by
  rw[<-hH];exact Heap.get?_update_self _ (Heap.get?_push_of_some _ hx) rfl
 have hd1:H1.get? s.heap.objs.size=some { cls:=.type "dict",data:=.dict #[] }:=by
  rw[<-hH,Heap.get?_update_ne _ _ _ _ (Ne.symm nx)];exact Heap.get?_push_size _ rfl
 have hk1:∀b o,b≠x->s.heap.get? b=some o->H1.get? b=some o:=λ b o hb e=>by
  rw[<-hH,Heap.get?_update_ne _ _ _ _ hb];exact Heap.get?_push_of_some _ e
 have hn1:H1.Ns1 s.heap.objs.size (λ_=>none):=Heap.Ns1.of_empty ⟨_,#[],_,hd1,rfl,λ e he=>absurd he (by simp),λ_=>rfl⟩;refine wpAny_bind (wpAny_pure (wpAny_bind (wpAny_nsSet1 (s:={ s with heap:=H1,toks:=s.toks+1 }) hn1 λ h' hn2 hs2=>?_)));obtain⟨oD,esD,epD,hoD,hdD,hcD⟩:=hn2.count (Within.cons name v Within.nil);refine wpAny_bind (wpAny_lookBehind hoD (by rw[hdD];exact pastItsLine_dict (Nat.le_trans hcD (by rw[List.length_cons,List.length_nil,sizeLine_eq];lia))) ?_);exact wpAny_pure (h _ ((hs2.2 _ nx).trans hx1) hn2 λ b o hb e=>(hs2.2 _ (Nat.ne_of_lt (Heap.lt_size e))).trans (hk1 b o hb e))
theorem Rq{vs:Array Value}{sl:AOz}{dx:Addr}{mA:MGz}{ns:LSz}{Q:Unit->Shared->Prop}(X:K.In s.heap)(hx:s.heap.get? x=some ⟨.ref C,some dx,.fields vs,sl⟩)(hn:s.heap.Ns1 dx mA)(hne:dx≠x)
  (hs:findIn K (.ref C) "__setattr__"=some (some (.builtin "object.__setattr__"))) (hp:excIn K C=true) (hh:hasDictIn K C=true) (ht:findIn K (.ref C) name=some none) (hw:PySem.Within mA ns) (hsz:ns.length<=sizeLine)
  (h:∀h',h'.get? x=some ⟨.ref C,some dx,.fields vs,sl⟩->h'.Ns1 dx (λ y=>if y=name then some v else mA y)->Heap.SameBut dx s.heap h'->Q () { s with heap:=h',toks:=s.toks+2 }) :
  wpAny (model prog w) A (setAttr (.ref x) name v) Q E s:=by
 obtain⟨od,ho⟩:∃o,s.heap.get? dx=some o:=let ⟨o,_,_,e,_⟩:=hn;⟨o,e⟩;have I:InstAt s.heap x ⟨.ref C,some dx,.fields vs,sl⟩ C (some od):=⟨hx,rfl,rfl,ho⟩;obtain⟨cd,hc,hd'⟩:=any_some hh;refine set_plain X I hs (NB (s:={ s with toks:=s.toks+1 }) X I hp ht ?_);refine wpAny_bind (wpAny_pure (wpAny_bind (wpAny_bind (wpAny_loadPart hx (wpAny_bind (Looks.here (s:={ s with toks:=s.toks+1 }) (looks_clsIn X hc) ?_))))));rw[hd'];refine wpAny_pure (a:=some dx) (wpAny_bind (wpAny_pure (wpAny_bind (wpAny_nsSet1 (s:={ s with toks:=s.toks+1 }) hn λ h' hn2 hs2=>?_))));obtain⟨oD,esD,epD,hoD,hdD,hcD⟩:=hn2.count (Within.cons name v hw);refine wpAny_bind (wpAny_lookBehind hoD (by rw[hdD];exact pastItsLine_dict (Nat.le_trans hcD (by rw[List.length_cons];lia))) ?_);exact wpAny_pure (h _ ((hs2.2 _ (Ne.symm hne)).trans hx) hn2 hs2)
end
section
variable{prog:Program}{w:World}{A:Around}{E:VPz}{R:Result->Shared->Prop}{s:Shared}{K:Frag}{x C:Addr}{ox:Obj}{od:Option Obj}{name:Str}{tk:Tok}{v:Value}{expr:Bool}
theorem RN(X:K.In s.heap)(I:InstAt s.heap x ox C od)(hp:L2.excIn K C=true)
  (h:wpAny (model prog w) A.in1 (Builtin.«object.__getattribute__» ⟨[.ref x,.str name tk],[]⟩)
   (λ fin s'=>match fin with|.done f=>R (.ok f) s'|.again c'=>c'.quiet=true/\codeAny (model prog w) A c' R s') (λ e s'=>R (.error e) s') s) :
  codeAny (model prog w) A (.call (.builtin "BaseException.__getattribute__") ⟨[.ref x,.str name tk],[]⟩) R s:=by
 obtain⟨cd,hc,ho⟩:=any_some hp;have ne:cd.mro.isEmpty=false:=by cases q:cd.mro with|nil=>rw[q]at ho;cases ho|cons _ _=>rfl
 have tB:Looks (model prog w) s.heap (isInstance (.ref x) (.type "BaseException")) true:=I.type.andThen (looks_mroIn X (by
  unfold mroIn;rw[hc,Option.bind_some,ne];show some (cd.mro.contains (.type "BaseException"))=some true;rw[Ke (by decide +kernel) ho]))
 exact codeAny_call_builtin PySem.F.attrBase_ValueError.ga.plain PySem.F.entry_bexc_ga (@check_slot (model prog w) _ _ s "BaseException.__getattribute__" "BaseException" "__getattribute__" (.ref x) [.str name tk] [] _ (by decide +kernel) (by decide +kernel) tB (PySem.F.args_bexc_ga (.ref x) (.str name tk)) h)
theorem U1(X:K.In s.heap)(I:InstAt s.heap x ox C od)(hp:L2.excIn K C=true)(hga:findIn K (.ref C) "__getattribute__"=some (some (.builtin "BaseException.__getattribute__")))(hk:findIn K (.ref C) "__getattr__"=some none){fill:Bool}{Q:VPz}
  (h:wpAny (model prog w) A.in1 (Builtin.«object.__getattribute__» ⟨[.ref x,.str name tk],[]⟩)
   (λ fin s'=>match fin with|.done (.ret v)=>wpAny (model prog w) A (handedOut v) Q E s'|_=>False) (λ_ _=>False) s) :
  wpAny (model prog w) A (getAttrBy (.ref x) (.str name tk) fill expr) Q E s:=by
 have L0:=I.type (M:=model prog w);have L1:=looks_findIn (M:=model prog w) X hga;have L2:=looks_findIn (M:=model prog w) X hk;unfold getAttrBy;refine wpAny_holding (wpAny_bind (L0.here (wpAny_bind (L1.here ?_))));show wpAny _ _ (getAttrByItsOwn (.ref x) (.str name tk) (.ref C) (.builtin "BaseException.__getattribute__") fill expr) _ _ _;unfold getAttrByItsOwn hookBefore callGetattribute boundAndCalled;refine wpAny_bind (L2.here ?_);refine wpAny_bind (wpAny_attempt (wpAny_holding ?_));rw[show(expr&&onTheHeap (Value.builtin "BaseException.__getattribute__"))=false from by cases expr<;>rfl,if_neg Bool.false_ne_true];refine wpAny_bind (wpAny_of_eq (PySem.F.attrBase_ValueError.ga.bind _) ?_);refine wpAny_call (RN X I hp (wpAny_mono h (λ fin s' z=>?_) λ_ _ z=>z.elim));rcases fin with (_|_|_|_)|_<;>first|exact z.elim|exact z
theorem RM{Q:VPz}(X:K.In s.heap)(I:InstAt s.heap x ox C od)(hp:L2.excIn K C=true)(hga:findIn K (.ref C) "__getattribute__"=some (some (.builtin "BaseException.__getattribute__")))(hk:findIn K (.ref C) "__getattr__"=some none)
  (hf:findObj K C od name=some (.value v)) (hh:handedIn v=true) (h:Q v { s with toks:=s.toks+1 }):wpAny (model prog w) A (getAttr (.ref x) name expr) Q E s:=by
 unfold getAttr;refine wpAny_bind (wpAny_mkText (U1 (s:={ s with toks:=s.toks+1 }) X I hp hga hk ?_));have L0:=I.type (M:=model prog w);have L1:=looks_find (M:=model prog w) X I hf;refine wpAny_bind (wpAny_of_eq (show slotArgs "__getattribute__" 1 ⟨[.ref x,.str name s.toks],[]⟩=pure (.ref x,[.str name s.toks]) from rfl) ?_);refine wpAny_bind (wpAny_pure (wpAny_bind (Looks.here (s:={ s with toks:=s.toks+1 }) L0 (wpAny_bind (Looks.here (s:={ s with toks:=s.toks+1 }) L1 ?_)))));refine wpAny_pure ?_;show wpAny _ _ (handedOut v) _ _ _;rw[handedOut_of hh];exact wpAny_pure h
end
def Iq(C x:Addr):HO:=.ext λ h=>∃vs sl,h.get? x=some ⟨.ref C,none,.fields vs,sl⟩/\vs[1]?=some Value.none
def Ef(C dx x:Addr):HO:=.ext λ h=>∃vs sl,h.get? x=some ⟨.ref C,some dx,.fields vs,sl⟩/\vs[1]?=some Value.none
def FW(C:Addr)(d:Option Addr)(x T:Addr):HO:=.ext λ h=>∃vs sl,h.get? x=some ⟨.ref C,d,.fields vs,sl⟩/\vs[1]?=some (.ref T)
def Da(dx:Addr)(fs:LFz):HO:=.ext λ h=>∃mA,h.Ns1 dx mA/\(∀f,RelO (fs.lookup f) (mA f))/\PySem.Within mA (fs.map (·.1))
section
variable{P:Program}{w:World}{H:Hp}{h:Heap}{x C dx:Addr}{fs:LFz}
theorem RW{vs:Array Value}{sl:AOz}(e:h.get? x=some ⟨.ref C,none,.fields vs,sl⟩)(f:vs[1]?=some Value.none):ObjOk P w H h x (Iq C x) :=
 ⟨⟨vs,sl,e,f⟩,⟨_,e⟩,λ_ _ ⟨vs,sl,e,f⟩ k=>⟨vs,sl,k _ e,f⟩⟩
theorem RV{vs:Array Value}{sl:AOz}(e:h.get? x=some ⟨.ref C,some dx,.fields vs,sl⟩)(f:vs[1]?=some Value.none):ObjOk P w H h x (Ef C dx x) :=
 ⟨⟨vs,sl,e,f⟩,⟨_,e⟩,λ_ _ ⟨vs,sl,e,f⟩ k=>⟨vs,sl,k _ e,f⟩⟩
theorem RU{d:Option Addr}{T:Addr}{vs:Array Value}{sl:AOz}(e:h.get? x=some ⟨.ref C,d,.fields vs,sl⟩)(f:vs[1]?=some (.ref T)):ObjOk P w H h x (FW C d x T) :=
 ⟨⟨vs,sl,e,f⟩,⟨_,e⟩,λ_ _ ⟨vs,sl,e,f⟩ k=>⟨vs,sl,k _ e,f⟩⟩
theorem NR{mA:MGz}(n:h.Ns1 dx mA)(r:∀f,RelO (fs.lookup f) (mA f))(wi:PySem.Within mA (fs.map (·.1))):ObjOk P w H h dx (Da dx fs) :=
 ⟨⟨mA,n,r,wi⟩,let ⟨o,_,_,e,_⟩:=n;⟨o,e⟩,λ_ _ ⟨mA,n,r,wi⟩ k=>⟨mA,n.at k,r,wi⟩⟩
end
structure XCls(K:Frag)(C:Addr):Prop where
 ga:findIn K (.ref C) "__getattribute__"=some (some (.builtin "BaseException.__getattribute__"))
 gh:findIn K (.ref C) "__getattr__"=some none
 hd:hasDictIn K C=true
 sa:findIn K (.ref C) "__setattr__"=some (some (.builtin "object.__setattr__"))
 ex:L2.excIn K C=true
 ca:findIn K (.ref C) "__class__"=some (some (.builtin "object.__class__"))
 gn:specialIn K (.builtin "object.__class__") "__get__"=some (some (.builtin "getset_descriptor.__get__"))
 tk:takesIn K (.builtin "object.__class__")=some true
 mo:mroIn K C (.type "object")=some true
def Ng(K:Frag)(C:Addr):Bool:=(findIn K (.ref C) "__getattribute__"==some (some (.builtin "BaseException.__getattribute__")))&&(findIn K (.ref C) "__getattr__"==some none)&&hasDictIn K C&&(findIn K (.ref C) "__setattr__"==some (some (.builtin "object.__setattr__")))&&L2.excIn K C &&
 (findIn K (.ref C) "__class__"==some (some (.builtin "object.__class__")))&&(specialIn K (.builtin "object.__class__") "__get__"==some (some (.builtin "getset_descriptor.__get__"))) &&
 (takesIn K (.builtin "object.__class__")==some true)&&(mroIn K C (.type "object")==some true)
theorem XCls.of{K:Frag}{C:Addr}(h:Ng K C=true):XCls K C:=by
 unfold Ng at h;simp only[Bool.and_eq_true,beq_iff_eq]at h;obtain⟨⟨⟨⟨⟨⟨⟨⟨a,a'⟩,b⟩,c⟩,d⟩,e⟩,f⟩,g⟩,i⟩:=h;exact⟨a,a',b,c,d,e,f,g,i⟩
section
variable{X:Cx}{pins:PNz}{σ:St}{H:Hp}{s:Shared}{a C dx:Addr}{fs:LFz}{f:Str}{v:V}{A:Around}{E:VPz}
theorem Hh{φ:Heap->Prop}{b c:Addr}(h:H b=some (.ext φ)):H b≠some (.own c):=λ e=>by rw[h]at e;cases e
theorem Mm{y:V}{u:Value}{Q:Unit->Shared->Prop}(I:Inv X pins σ H s)(e:H a=some (Iq C a))(c:XCls X.K C)(n:NoAttr X.K C f)(ry:RelV y u)
  (h:∀s' d,H d=none->Inv X pins σ (upd (upd H d (Da d [(f,y)])) a (Ef C d a)) s'->Q () s'):wpAny (model X.prog X.w) A (setAttr (.ref a) f u) Q E s:=by
 obtain⟨⟨vs,sl,hx,hv1⟩,_⟩:=(show ObjOk X.prog X.w H s.heap a (Iq C a) from I.hok a _ e);refine P2 I.kIn hx c.sa c.ex c.hd n λ h' h1 h2 k=>?_;have hn:H s.heap.objs.size=none:=I.hok.fresh (Nat.le_refl _);have nea:s.heap.objs.size≠a:=Ne.symm (Ad e hn);refine h _ s.heap.objs.size hn ?_;have e':∀b o,H b=some o->b≠s.heap.objs.size:=λ b o q=>Ad q hn;have lt:∀b o,s.heap.get? b=some o->b≠s.heap.objs.size:=λ b o q=>Nat.ne_of_lt (Heap.lt_size q);have na:∀b o,H b=some o->(∀φ,o≠.ext φ)->b≠a:=λ b o q z t=>by subst t;rw[e]at q;cases q;exact z _ rfl
 refine I.un (h':=h') (t':=s.toks+2) ⟨λ b o q m _ _=>k b o (λ z=>by rw[z,e]at m;cases m) q,λ b o q m _ _=>⟨o.slots,k b o (λ z=>by rw[z,e]at m;cases m) q⟩,
  λ b o q m _=>by rw[Ae (λ z=>by rw[z,e]at m;cases m),Ae (lt b o q)];exact m,λ b o q _=>?_,λ b xs q=>by rw[Ae (na b _ q (λ φ z=>by cases z)),Ae (e' b _ q)];exact q,
  λ b o u q=>by rw[Ae (na b _ q (λ φ z=>by cases z)),Ae (e' b _ q)];exact q,λ b ps q=>⟨#[],by rw[Ae (na b _ q (λ φ z=>by cases z)),Ae (e' b _ q),q];simp⟩⟩ λ b o q=>?_
 .by_cases hb:b=a
  .subst hb;exact⟨_,h1⟩
  .exact⟨o,k b o hb q⟩
 .by_cases hb:b=a
  .subst hb;rw[Ab]at q;cases q;exact RV h1 hv1
  .rw[Ae hb]at q;by_cases hd:b=s.heap.objs.size
   .subst hd;rw[Ab]at q;cases q;refine NR h2 (λ g=>?_) λ g hg=>?_
    .show RelO (List.lookup g [(f,y)]) (if g=f then some u else none);by_cases q:g=f
     .have hb:(g==f)=true:=beq_iff_eq.mpr q;rw[if_pos q];simp only[List.lookup,hb];exact ry
     .have hb:(g==f)=false:=beq_eq_false_iff_ne.mpr q;rw[if_neg q];simp only[List.lookup,hb];exact True.intro
    .by_cases q:g=f
     .rw[q];simp
     .exact absurd (if_neg q) hg
   .rw[Ae hd]at q;refine(I.hok b o q).stay (λ cc w' hc z=>k cc w' ?_ z) (λ cc z=>?_) λ cc xs z=>?_
    .rcases hc with rfl|hc
     .exact hb
     .exact λ t=>Hh e (t ▸ hc)
    .rw[Ae (λ t=>Hh e (t ▸ z)),Ae (e' cc _ z)];exact z
    .rw[Ae (na cc _ z (λ φ t=>by cases t)),Ae (e' cc _ z)];exact z
theorem Ox{y:V}{u:Value}{Q:Unit->Shared->Prop}(I:Inv X pins σ H s)(e:H a=some (Ef C dx a))(ed:H dx=some (Da dx fs))(c:XCls X.K C)(n:NoAttr X.K C f)(hl:fs.length<1000)(ry:RelV y u)
  (h:∀s',Inv X pins σ (upd H dx (Da dx (AT f y fs))) s'->Q () s'):wpAny (model X.prog X.w) A (setAttr (.ref a) f u) Q E s:=by
 obtain⟨⟨vs,sl,hx,_⟩,_⟩:=(show ObjOk X.prog X.w H s.heap a (Ef C dx a) from I.hok a _ e);obtain⟨⟨mA,hn,r,wi⟩,_⟩:=(show ObjOk X.prog X.w H s.heap dx (Da dx fs) from I.hok dx _ ed);have hne:dx≠a:=λ z=>by
  subst z;obtain⟨o,es,ep,ho,hd,_⟩:=hn;rw[hx]at ho;cases ho;cases hd
 have hz:(fs.map (·.1)).length<=sizeLine:=by rw[List.length_map,sizeLine_eq];lia
 refine Rq I.kIn hx hn hne c.sa c.ex c.hd n wi hz λ h' h1 h2 sb=>h _ ?_;have hd:∃o,h'.get? dx=some o:=let ⟨o,_,_,e',_⟩:=h2;⟨o,e'⟩;refine I.write (x:=dx) (e:=dx) (t':=s.toks+2) (by rw[ed];exact True.intro) (.inl rfl) (λ b q hb z=>(sb.2 b hb).trans z) hd (NR h2 (λ g=>?_) λ g hg=>?_)
 .show RelO ((AT f y fs).lookup g) (if g=f then some u else mA g);rw[Aw];by_cases q:g=f
  .rw[if_pos q,if_pos q];exact ry
  .rw[if_neg q,if_neg q];exact r g
 .by_cases q:g=f
  .rw[q];exact(CV f y fs).1
  .refine(CV f y fs).2 g (wi g λ z=>hg ?_);show(if g=f then some u else mA g)=none;rw[if_neg q];exact z
def XAt(H:Hp)(C dx a:Addr):Prop:=H a=some (Ef C dx a)\/∃T,H a=some (FW C (some dx) a T)
theorem XAt.obj(I:Inv X pins σ H s)(h:XAt H C dx a):∃vs sl,s.heap.get? a=some ⟨.ref C,some dx,.fields vs,sl⟩:=by
 rcases h with h|⟨T,h⟩
 .obtain⟨⟨vs,sl,hx,_⟩,_⟩:=(show ObjOk X.prog X.w H s.heap a (Ef C dx a) from I.hok a _ h);exact⟨vs,sl,hx⟩
 .obtain⟨⟨vs,sl,hx,_⟩,_⟩:=(show ObjOk X.prog X.w H s.heap a (FW C (some dx) a T) from I.hok a _ h);exact⟨vs,sl,hx⟩
theorem ON{b:Bool}{Q:VPz}(I:Inv X pins σ H s)(e:XAt H C dx a)(ed:H dx=some (Da dx fs))(c:XCls X.K C)(n:NoAttr X.K C f)(l:fs.lookup f=some v)
  (h:∀u s',Inv X pins σ H s'->RelV v u->Q u s'):wpAny (model X.prog X.w) A (getAttr (.ref a) f b) Q E s:=by
 obtain⟨vs,sl,hx⟩:=e.obj I;obtain⟨⟨mA,hn,r,wi⟩,_⟩:=(show ObjOk X.prog X.w H s.heap dx (Da dx fs) from I.hok dx _ ed);obtain⟨u,hu,ru⟩:=RelO.some_of (v:=v) (o:=mA f) (by rw[<-l];exact r f);obtain⟨od,ho,hl⟩:=IJ hn;have J:InstAt s.heap a ⟨.ref C,some dx,.fields vs,sl⟩ C (some od):=⟨hx,rfl,rfl,ho⟩;exact RM I.kIn J c.ex c.ga c.gh (findObj_own c.hd n rfl (by rw[hl,hu])) (IS ru) (h u _ (I.tok _) ru)
end
def Sk(K:Frag)(ta:TE)(f:Str):TE:=λ σ H Q=>ta σ H λ x H1=>∃a C dx fs v,x=.ref a/\XAt H1 C dx a/\H1 dx=some (Da dx fs)/\XCls K C/\NoAttr K C f/\fs.lookup f=some v/\Q v H1
def TY(K:Frag)(ta tv:TE)(f:Str):TS:=λ D σ H=>tv σ H λ y H1=>ta σ H1 λ x H2=>∃a C,x=.ref a/\XCls K C/\NoAttr K C f /\
 ((H2 a=some (Iq C a)/\∀d,H2 d=none->D.nx σ (upd (upd H2 d (Da d [(f,y)])) a (Ef C d a)))\/∃dx fs,H2 a=some (Ef C dx a)/\H2 dx=some (Da dx fs)/\fs.length<1000/\D.nx σ (upd H2 dx (Da dx (AT f y fs))))
section
variable{X:Cx}{o e value:Expr}{f:Str}{pos pos':Pos}{ta tv:TE}
theorem R3(he:PE X e ta)(hb:attributeBase e f X.env (eval e X.env)=eval e X.env):PE X (.Attribute e f pos) (Sk X.K ta f):=by
 intro pins s σ H Q I h;refine Oa hb (thn (he pins s σ H _ I h) λ u s1 hz_=>?_);obtain⟨x,H1,I1,rx,a,C,dx,fs,v,ex,ea,ed,c,n,l,q⟩:=hz_;subst ex;obtain rfl:u=Value.ref a:=rx;exact ON I1 ea ed c n l λ u' s2 I2 ru=>⟨v,H1,I2,ru,q⟩
theorem JD(ha:PE X o ta)(hv:PE X value tv)(hs:swapsWith value (some (.Attribute o f pos')) pos.line X.env=pure false):PS X (.Assign [.Attribute o f pos'] value pos) (TY X.K ta tv f):=by
 intro pins s σ H D I h;refine plainObj_wpAny_Assign_Attribute (thn (hv pins s σ H _ I h) λ u s1 hz_=>?_) hs;obtain⟨y,H1,I1,ry,q⟩:=hz_;refine thn (ha pins s1 σ H1 _ I1 q) λ ov s2 hz_=>?_;obtain⟨x,H2,I2,rx,a,C,ex,c,n,q2⟩:=hz_;subst ex;obtain rfl:ov=Value.ref a:=rx;rcases q2 with ⟨e0,q2⟩|⟨dx,fs,e1,e2,l,q2⟩
 .exact Mm I2 e0 c n ry λ s3 d hd I3=>⟨σ,_,I3,q2 d hd⟩
 .exact Ox I2 e1 e2 c n l ry λ s3 I3=>⟨σ,_,I3,q2⟩
end
def DP(K:Frag)(C:Addr)(fI:Addr):Bool:=match K.lookup C with
 |some ⟨.type "type",_,.cls cd,sl⟩=>(match cd.mro,sl.toList with
  |.ref C'::bm,[_,_,_,_,some (.builtin n),_]=>C'==C&&n=="ValueError.__new__"&&!cd.hasDel&&tailIn K vErr bm&&nsOkIn K cd.ns&&nsIn K cd.ns "__init__"==some (some (.ref fI))
  |_,_=>false)
 |_=>false
theorem M6{K:Frag}{h:Heap}{N:Addr}{mg:MGz}{n:Str}{v:Value}(X:K.In h)(G:h.Ns N mg)(e:nsIn K N n=some (some v)):mg n=some v:=by
 obtain⟨o,es,ep,ho,hd,_,hf⟩:=G;unfold nsIn at e;split at e
 .rename_i c d es' n' sl q;have:=X _ _ q;rw[ho]at this;cases this;cases hd;split at e
  .rename_i e' he;cases e;rw[<-hf];unfold nsFind findBy;rw[<-Array.find?_toList,he];rfl
  .split at e<;>cases e
 .cases e
structure XMk(K:Frag)(C fI:Addr):Prop where
 cl:XCls K C
 ei:DP K C fI=true
 kp:keepIn K (.ref C)=true
 fn:isFn K (.ref fI)=true
theorem XMk.call{K:Frag}{C fI:Addr}(M:XMk K C fI){prog:Program}{w:World}{A:Around}{E:VPz}{s:Shared}{rest:LWz}{Q:VPz}(X:K.In s.heap)(hrest:rest.length<=sizeLine)
  (hq:wpAny (model prog w) (A.under (.builtin "type.__call__" ⟨.ref C::rest,[]⟩)) (call (.ref fI) (.ref (s.heap.objs.size+1)::rest)) (λ r s'=>r=.none/\Q (.ref (s.heap.objs.size+1)) s') E { s with heap:=BQ s.heap C rest }) :
  wpAny (model prog w) A (call (.ref C) rest) Q E s:=by
 obtain⟨hh,g,d,t,os⟩:=s;have q:=M.ei;have fnt:typeIn K (.ref fI)=some (.type "function"):=beq_iff_eq.mp M.fn;have hfI:∃oI:Obj,hh.get? fI=some oI/\oI.cls=.type "function":=by
  cases z:K.lookup fI with
  |none=>simp[typeIn,z]at fnt
  |some o=>exact⟨o,X _ _ z,by simpa [typeIn,z] using fnt⟩
 obtain⟨oI,hoI,hcI⟩:=hfI;unfold DP at q;split at q
 .rename_i dd cd sl ho;split at q
  .rename_i C' bm k0 k1 k2 k3 n k5 hm hs;simp only[Bool.and_eq_true,beq_iff_eq,Bool.not_eq_true']at q;obtain⟨⟨⟨⟨⟨rfl,rfl⟩,hdel⟩,ht⟩,hok⟩,hni⟩:=q;obtain⟨nm,bs,mro,ns,qn,hd,sn,sub,ab,col,del⟩:=cd;dsimp only at hm hdel hok hni;subst hm hdel;have hsl:sl=#[k0,k1,k2,k3,some (.builtin "ValueError.__new__"),k5]:=by
    obtain⟨l⟩:=sl;simp only at hs;rw[hs]
   subst hsl;have G:hh.Ns ns (hh.nsMap ns):=.of_isNs (isNs_of_in X hok);exact OT PySem.F.excBase_ValueError (tail_of_in X ht) (X _ _ ho) G (M6 X G hni) hoI hcI hrest hq
  .cases q
 .cases q
theorem ObjOk.there{P:Program}{w:World}{H:Hp}{h:Heap}{a:Addr}{o:HO}(x:ObjOk P w H h a o):∃u,h.get? a=some u:=by
 cases o with
 |lst xs=>obtain⟨_,_,_,_,e⟩:=x;exact⟨_,e⟩
 |tup xs=>obtain⟨_,_,_,p⟩:=x;obtain⟨_,e,_⟩:=p;exact⟨_,e⟩
 |dK kvs=>obtain⟨_,_,_,_,o,_,_,e,_⟩:=x;exact⟨_,e⟩
 |dT kvs=>obtain⟨_,_,_,_,o,_,_,e,_⟩:=x;exact⟨_,e⟩
 |set S n=>obtain⟨o,_,_,_,e,_⟩:=x;exact⟨_,e⟩
 |ins C dx fs=>obtain⟨_,_,_,e,_⟩:=x;exact⟨_,e⟩
 |own y=>obtain⟨_,e⟩:=x;exact⟨_,e⟩
 |xd fs=>obtain⟨_,⟨_,_,_,e,_⟩,_⟩:=x;exact⟨_,e⟩
 |rng lo hi=>obtain⟨_,_,_,e⟩:=x;exact⟨_,e⟩
 |frz ob u=>obtain⟨e,_⟩:=x;exact⟨_,e⟩
 |tbl ps=>exact⟨_,(show h.get? a=some _ from x)⟩
 |met f y=>exact⟨_,(show h.get? a=some _ from x)⟩
 |ext φ=>obtain⟨_,⟨_,e⟩,_⟩:=x;exact⟨_,e⟩
def SN(C:Addr)(names:LSz):Sp:=λ vs H Q _=>∃x ws,vs=.ref x::ws/\ws.length=names.length/\H x=some (Iq C x) /\
 ∀d H',H d=none->H' x=some (Ef C d x)->H' d=some (Da d (names.zip ws))->(∀a o,a≠x->H a=some o->H' a=some o)->Q .non H'
structure QJ(P:Program)(w:World)(K:Frag)(mg:MGz)(base:Heap)(k:Nat)(x:Str)(C:Addr)(ps names:LSz):Prop where
 few:names.length<=1000
 ex:∃(f:Addr)(fd:FuncData),XMk K C f/\A5 P w K mg base CX0 k f fd ps (SN C names)/\mg x=some (.ref C)/\Binds K fd ps []
section
variable{X:Cx}{CX:CXT}{k j:Nat}{f C:Addr}{fd:FuncData}{ps names:LSz}{sp:Sp}{E:XK}{x m:Str}{p pos apos:Pos}{e o:Expr}{es:List Expr}{ta:TE}{t:TA}
theorem Rr{pins:PNz}{σ:St}{H:Hp}{s:Shared}{Q:VK}{us:LWz}{vs:LUz}(M:XMk X.K C f)(F:A5 X.prog X.w X.K X.mg X.base CX k f fd ps sp)(hr:Room (k+1) X.A)(hb:Binds X.K fd ps [])
  (hx:DR CX X E) (I:Inv X pins σ H s) (r:Vals vs us) (hz:vs.length<=1000)
  (h:∀x,H x=none->sp (.ref x::vs) (upd H x (Iq C x)) (λ v H2=>v=.non/\Q (.ref x) H2) E) :
  wpAny (model X.prog X.w) X.A (call (.ref C) us) (EP X pins σ Q) X.xe s:=by
 have hq:=h (s.heap.objs.size+1) (I.hok.fresh (Nat.le_succ _));have hus:us.length<=sizeLine:=by rw[<-r.length,sizeLine_eq];lia
 have I2:Inv X pins σ (upd H (s.heap.objs.size+1) (Iq C (s.heap.objs.size+1))) { s with heap:=BQ s.heap C us } :=
  I.laid (t':=s.toks) (λ b u z=>BJ z) (Nat.le_succ _) (RW (IC C us) rfl)
 have r2:Vals (V.ref (s.heap.objs.size+1)::vs) (Value.ref (s.heap.objs.size+1)::us):=.cons rfl r;have hl:(Value.ref (s.heap.objs.size+1)::us++[]).length=ps.length:=by
  have e:=r2.length;rw[F.len _ _ _ _ hq]at e;rw[List.append_nil];exact e.symm
 have hb2:=hb { s with heap:=BQ s.heap C us } (Value.ref (s.heap.objs.size+1)::us) I2.kIn hl;rw[List.append_nil]at hb2;refine M.call I.kIn hus (wpAny_call (codeAny_mono (F.run _ X.stack _ _ ⟨Value.ref (s.heap.objs.size+1)::us,[]⟩ (Value.ref (s.heap.objs.size+1)::us) _ _ E (hr.make C us [])
  (I2.env0.make C us []) hb2 r2 hq) λ r s' hq'=>?_))
 cases r with
 |error e=>exact hx pins σ _ _ e s' I2 hq'
 |ok fl =>
  cases fl with
  |ret u =>
   obtain⟨v,H',I3,rv,ev,q3⟩:=I2.after hq';subst ev;exact⟨rv,⟨V.ref (s.heap.objs.size+1),H',I3,rfl,q3⟩⟩
  |next=>exact False.elim hq'
  |brk=>exact False.elim hq'
  |cont=>exact False.elim hq'
end
structure Hw(fr tt:List Addr)(e T:Addr)(fl cls:Value)(d:Option Addr)(h h':Heap):Prop where
 nT:h.get? T=none
 keep:∀b o,b≠e->b∉fr->b∉tt->h.get? b=some o->h'.get? b=some o
 slot:∀b o,b∈fr->h.get? b=some o->∃sl,h'.get? b=some { o with slots:=sl }
 exc:∃vs sl,h'.get? e=some ⟨cls,d,.fields vs,sl⟩/\vs[1]?=some (.ref T)
 tb:∃o ts,h'.get? T=some o/\o.data=.fields ts/\ts[3]?=some fl
 old:∀t o ts,t∈tt->t≠e->h.get? t=some o->o.data=.fields ts->3<ts.size->∃o' ts',h'.get? t=some o'/\o'.data=.fields ts'/\ts'[3]?=some Value.none
section
variable{M:Model}{A:Around}{E:VPz}{s:Shared}{base:Heap}{env:Env}{outer:List Env}{L e:Addr}{cls:Value}{d:Option Addr}{vs:Array Value}{sl:AOz}{Q:Unit->Shared->Prop}
theorem GL{head:Value}{hadNext:Bool}(hfr:A.frames=some (env::outer))(hl:s.heap.FunFrames base (env::outer))(hf:env.frame=some L)(he:s.heap.get? e=some ⟨cls,d,.fields vs,sl⟩)(hsz:1<vs.size)
    (h:∀h' T,Hw (frs (env::outer)) [] e T (rawInt L) cls d s.heap h'->Q () { s with heap:=h' }) :
    wpAny M A (do
      let a <-frameOf env
      let pl <-entryPlaceOf L hadNext
      let b <-EntryCells.newEntry head a .none (rawInt L) .none pl
      setField (.ref e) 1 b) Q E s:=by
  have hne:e∉frs (env::outer):=λ hm=>by
    obtain⟨_,o,ho,hnf⟩:=hl.mem hm;rw[he]at ho;cases ho;exact hnf vs rfl
  refine wpAny_bind (wpAny_frameOf_fun hfr hl hf λ h₁ hs=>wpAny_bind (wpAny_entryPlaceOf λ pl hpl=>?_));unfold EntryCells.newEntry newFields;refine wpAny_bind (wpAny_newObj_type ?_ (hpl.sizeOk5 _ _ _ _ _));have e1:h₁.get? e=some ⟨cls,d,.fields vs,sl⟩:=(hs.2.1 e hne).trans he;generalize hob:({ cls:=.type "traceback",dict:=none,data:=.fields ([head,.ref L,.none,rawInt L,.none]++(if pl.isEmpty then List.replicate 6 Value.none else pl)).toArray }:Obj)=ob;have hfb:ob.isFreed=false:=by rw[<-hob];rfl
  have e2:=Heap.get?_push_of_some (h:=h₁) ob e1;refine wpAny_setField e2 rfl hsz (h _ h₁.objs.size ?_);have nTe:h₁.objs.size≠e:=Nat.ne_of_gt (Heap.lt_size e1);have kp:∀b o,b≠e->h₁.get? b=some o->((h₁.push ob).update e (Obj.mapFields (·.setIfInBounds 1 (Value.ref h₁.objs.size)))).get? b=some o:=λ b o nb hb=>by
    rw[Heap.get?_update_other _ _ (Ne.symm nb)];exact Heap.get?_push_of_some _ hb
  refine⟨Heap.get?_none_of_le (Nat.le_of_eq hs.1.symm),λ b o nb nf _ hb=>kp b o nb ((hs.2.1 b nf).trans hb),λ b o bf hb=>?_,⟨vs.setIfInBounds 1 (.ref h₁.objs.size),sl,?_,by simp[hsz]⟩,⟨ob,([head,.ref L,.none,rawInt L,.none]++(if pl.isEmpty then List.replicate 6 Value.none else pl)).toArray,?_,by rw[<-hob],?_⟩,λ_ _ _ z=>nomatch z⟩
  · obtain⟨sl',z⟩:=hs.2.2 b o hb
    exact⟨sl',kp b _ (λ q=>hne (q ▸ bf)) z⟩
  · exact Heap.get?_update_self _ e2 rfl
  · rw[Heap.get?_update_other _ _ (Ne.symm nTe)];exact Heap.get?_push_size _ hfb
  · simp
theorem Lg(hfr:A.frames=some (env::outer))(hl:s.heap.FunFrames base (env::outer))(hf:env.frame=some L)(he:s.heap.get? e=some ⟨cls,d,.fields vs,sl⟩)(h1:vs[1]?=some Value.none)
  (h:∀h' T,Hw (frs (env::outer)) [] e T (rawInt L) cls d s.heap h'->Q () { s with heap:=h' }):wpAny M A (noteFrame (.ref e) env) Q E s:=by
 unfold noteFrame;simp only[hf];refine wpAny_bind (wpAny_field he rfl h1 ?_);rw[if_neg (by decide)];exact GL hfr hl hf he (Array.getElem?_eq_some_iff.mp h1).1 h
theorem OB{T1:Addr}{oT:Obj}{ts:Array Value}(hfr:A.frames=some (env::outer))(hl:s.heap.FunFrames base (env::outer))(hf:env.frame=some L)(he:s.heap.get? e=some ⟨cls,d,.fields vs,sl⟩)(h1:vs[1]?=some (.ref T1))
  (hT:s.heap.get? T1=some oT) (hd:oT.data=.fields ts) (h3:ts[3]?=some Value.none) (ne:T1≠e)
  (h:∀h' T,Hw (frs (env::outer)) [T1] e T (rawInt L) cls d s.heap h'->Q () { s with heap:=h' }):wpAny M A (noteFrame (.ref e) env) Q E s:=by
 unfold noteFrame;simp only[hf];refine wpAny_bind (wpAny_field he rfl h1 ?_);rw[if_pos (show(Value.ref T1 != Value.none)=true from by simp)];refine wpAny_bind (wpAny_field hT hd h3 ?_);rw[if_neg (show ¬((Value.none==rawInt L)=true) from by simp[rawInt])];have hs3:3<ts.size:=(Array.getElem?_eq_some_iff.mp h3).1;refine wpAny_bind (wpAny_setField hT hd hs3 ?_);have oth:∀b,b≠T1->(s.heap.update T1 (Obj.mapFields (·.setIfInBounds 3 Value.none))).get? b=s.heap.get? b:=λ b hb=>Heap.get?_update_other _ _ (Ne.symm hb);have nT1:T1∉frs (env::outer):=λ hm=>by
  obtain⟨_,o,ho,hnf⟩:=hl.mem hm;rw[hT]at ho;cases ho;exact hnf ts hd
 have self:(s.heap.update T1 (Obj.mapFields (·.setIfInBounds 3 Value.none))).get? T1=some (Obj.mapFields (·.setIfInBounds 3 Value.none) oT):=Heap.get?_update_self _ hT (Obj.isFreed_of_fields (Obj.data_mapFields hd _));refine GL (s:={ s with heap:=s.heap.update T1 (Obj.mapFields (·.setIfInBounds 3 Value.none)) }) hfr (hl.of_keeps λ b o hb hnf=>⟨o,(oth b λ q=>?_).trans hb,rfl⟩) hf ((oth e (Ne.symm ne)).trans he) (Array.getElem?_eq_some_iff.mp h1).1 λ h' T n=>h h' T ?_
 .rw[q,hT]at hb;cases hb;exact hnf ts hd
 .have nT':s.heap.get? T=none:=by
   by_cases q:T=T1
   .have:=n.nT;rw[q]at this;rw[self]at this;cases this
   .rw[<-oth T q];exact n.nT
  refine⟨nT',λ b o nb nf nt hb=>n.keep b o nb nf (by simp) ((oth b (by simpa using nt)).trans hb),λ b o bf hb=>n.slot b o bf ((oth b λ q=>nT1 (q ▸ bf)).trans hb),n.exc,n.tb,λ t o us ht hte hb hdo hsz=>?_⟩;obtain rfl:t=T1:=by simpa using ht
  rw[hT]at hb;cases hb;rw[hd]at hdo;cases hdo;exact⟨_,_,n.keep t _ hte nT1 (by simp) self,Obj.data_mapFields hd _,by simp[hs3]⟩
theorem Hd{T:Addr}{oT:Obj}{ts:Array Value}(he:s.heap.get? e=some ⟨cls,d,.fields vs,sl⟩)(h1:vs[1]?=some (.ref T))(hT:s.heap.get? T=some oT)(hd:oT.data=.fields ts)(hs3:3<ts.size)
  (h:∀h',(∀b,b≠T->h'.get? b=s.heap.get? b)->(∃o' ts',h'.get? T=some o'/\o'.data=.fields ts'/\ts'[3]?=some Value.none)->Q () { s with heap:=h' }):wpAny M A (setFlight (.ref e) none) Q E s:=by
 unfold setFlight;refine wpAny_bind (wpAny_field he rfl h1 ?_);rw[if_pos (show(Value.ref T != Value.none)=true from by simp)];refine wpAny_setField hT hd hs3 (h _ (λ b hb=>Heap.get?_update_other _ _ (Ne.symm hb)) ⟨_,_,Heap.get?_update_self _ hT (Obj.isFreed_of_fields (Obj.data_mapFields hd _)),Obj.data_mapFields hd _,by simp[hs3]⟩)
end
section
variable{prog:Program}{w:World}{A:Around}{E:VPz}{s:Shared}{K:Frag}{C fI e:Addr}{d:Option Addr}{env:Env}
theorem Mu{x:Sem Value}{Q:Flow->Shared->Prop}(M:XMk K C fI)(hh:A.handled=none)
  (h:wpAny (model prog w) A x (λ v s₁=>∃e d vs sl,v=.ref e/\K.In s₁.heap/\s₁.heap.get? e=some ⟨.ref C,d,.fields vs,sl⟩/\vs[1]?=some Value.none/\E (.ref e) s₁) E s) :
  wpAny (model prog w) A (raiseStmt env (some x) none) Q E s:=by
 unfold raiseStmt;refine wpAny_bind (wpAny_mono h (λ v s₁ h₁=>?_) λ_ _ x=>x);obtain⟨e,d,vs,sl',rfl,X,he,h1,hE⟩:=h₁;obtain⟨hp,g,dr,tk,os⟩:=s₁;have q:=M.ei;unfold DP at q;split at q
 .rename_i dd cd sl ho;split at q
  .rename_i C' bm k0 k1 k2 k3 n k5 hm hs;simp only[Bool.and_eq_true,beq_iff_eq,Bool.not_eq_true']at q;obtain⟨⟨⟨⟨⟨rfl,rfl⟩,hdel⟩,ht⟩,hok⟩,hni⟩:=q;obtain⟨nm,bs,mro,ns,qn,hd,sn,sub,ab,col,del⟩:=cd;dsimp only at hm hdel hok hni;subst hm hdel;have hsl:sl=#[k0,k1,k2,k3,some (.builtin "ValueError.__new__"),k5]:=by
    obtain⟨l⟩:=sl;simp only at hs;rw[hs]
   subst hsl;have hC:hp.get? C'=some (excClassObj nm qn C' ns bs bm hd sn sub ab col dd k0 k1 k2 k3 k5 "ValueError.__new__"):=X _ _ ho;have hcB:(Value.ref C'::bm).contains (.type "BaseException")=true:=by
    rw[List.contains_cons,(tail_of_in X ht).hasType (show vErr.contains (.type "BaseException")=true by decide +kernel)];exact Bool.or_true _
   repeat (first|with_reducible refine wpAny_field he rfl h1 ?_|with_reducible refine wpAny_loadPart_at he ?_|with_reducible refine wpAny_loadPart_at hC ?_|(with_reducible refine wpAny_isSubtype_exc hC ?_;rw[hcB])|wp_step)
   exact wpAny_raiseNew_none hh hE
  .cases q
 .cases q
end
def TbO(T:Addr):HO:=.ext λ h=>∃o ts,h.get? T=some o/\o.data=.fields ts/\ts[3]?=some Value.none
theorem Md{P:Program}{w:World}{H:Hp}{h:Heap}{T:Addr}(t:∃o ts,h.get? T=some o/\o.data=.fields ts/\ts[3]?=some Value.none):ObjOk P w H h T (TbO T) :=
 ⟨t,let ⟨o,_,e,_⟩:=t;⟨o,e⟩,λ_ _ ⟨o,ts,e,r⟩ k=>⟨o,ts,k _ e,r⟩⟩
def Op(H:Hp)(x C:Addr)(d:Option Addr):Prop:=(d=none/\H x=some (Iq C x))\/∃dx,d=some dx/\H x=some (Ef C dx x)
def ER(H:Hp)(x C:Addr)(d:Option Addr)(T:Addr):Prop:=H x=some (FW C d x T)/\H T=some (TbO T)/\T≠x
def thrown(H:Hp)(x C:Addr)(d:Option Addr)(T:Addr):Hp:=upd (upd H T (TbO T)) x (FW C d x T)
theorem D8{H:Hp}{x C T:Addr}{d:Option Addr}:thrown H x C d T x=some (FW C d x T):=Ab
theorem EA{H:Hp}{x C T:Addr}{d:Option Addr}(n:T≠x):thrown H x C d T T=some (TbO T):=by unfold thrown;rw[Ae n,Ab]
theorem AN{H:Hp}{x C T b:Addr}{d:Option Addr}(n:b≠x)(m:b≠T):thrown H x C d T b=H b:=by unfold thrown;rw[Ae n,Ae m]
section
variable{X:Cx}{pins:PNz}{σ:St}{H:Hp}{s:Shared}{x C T:Addr}{d:Option Addr}{h1 h2:Heap}{fl:Value}{tt:List Addr}
theorem RC(I:Inv X pins σ H s){φ:Heap->Prop}(hx:H x=some (.ext φ))(htt:∀t∈tt,H t=some (TbO t)/\t≠x)(n:Hw (frs X.stack) tt x T fl (.ref C) d s.heap h1)(k2:∀b,b≠T->h2.get? b=h1.get? b)
  (t2:∃o ts,h2.get? T=some o/\o.data=.fields ts/\ts[3]?=some Value.none):H T=none/\T≠x/\Un (frs X.stack) [] H (thrown H x C d T) s.heap h2/\HOk X.prog X.w (thrown H x C d T) h2:=by
 have hT:H T=none:=by
  cases q:H T with
  |none=>rfl
  |some u =>
   obtain⟨o,ho⟩:=(I.hok T u q).there;rw[n.nT]at ho;cases ho
 have nTx:T≠x:=λ z=>by rw[z,hx]at hT;cases hT
 have tn:∀b o,s.heap.get? b=some o->b≠T:=λ b o e z=>by rw[z,n.nT]at e;cases e
 have un:∀b,H b=none->b≠x:=λ b e z=>by rw[z,hx]at e;cases e
 have ut:∀b,H b=none->b∉tt:=λ b e z=>by rw[(htt b z).1]at e;cases e
 have hb:∀b u,H b=some u->b≠T:=λ b u e z=>by rw[z,hT]at e;cases e
 have old:∀t∈tt,∃o' ts',h2.get? t=some o'/\o'.data=.fields ts'/\ts'[3]?=some Value.none:=λ t ht=>by
  obtain⟨e,ne⟩:=htt t ht;obtain⟨⟨o,ts,e1,e2,e3⟩,_⟩:=(show ObjOk X.prog X.w H s.heap t (TbO t) from I.hok t _ e);obtain⟨o',ts',f1,f2,f3⟩:=n.old t o ts ht ne e1 e2 (Array.getElem?_eq_some_iff.mp e3).1;exact⟨o',ts',(k2 t (hb t _ e)).trans f1,f2,f3⟩
 have exc:∃vs sl,h2.get? x=some ⟨.ref C,d,.fields vs,sl⟩/\vs[1]?=some (.ref T):=by
  obtain⟨vs,sl,e1,e2⟩:=n.exc;exact⟨vs,sl,(k2 x (Ne.symm nTx)).trans e1,e2⟩
 have ne_ext:∀b u,H b=some u->(∀ψ,u≠.ext ψ)->b≠x:=λ b u e z q=>by rw[q,hx]at e;cases e;exact z _ rfl
 refine⟨hT,nTx,⟨λ b o q e nf _=>?_,λ b o q e bf _=>?_,λ b o q e _=>?_,λ b o q _=>?_,λ b xs e=>?_,λ b o u e=>?_,λ b ps e=>⟨#[],?_⟩⟩,λ b u e=>?_⟩
 .exact(k2 b (tn b o q)).trans (n.keep b o (un b e) nf (ut b e) q)
 .obtain⟨sl,z⟩:=n.slot b o bf q;exact⟨sl,(k2 b (tn b o q)).trans z⟩
 .rw[AN (un b e) (tn b o q)];exact e
 .by_cases z:b=x
  .obtain⟨vs,sl,e1,_⟩:=exc;exact⟨_,z ▸ e1⟩
  .by_cases zf:b∈frs X.stack
   .obtain⟨sl,z⟩:=n.slot b o zf q;exact⟨_,(k2 b (tn b o q)).trans z⟩
   .by_cases zt:b∈tt
    .obtain⟨o',_,e1,_⟩:=old b zt;exact⟨o',e1⟩
    .exact⟨o,(k2 b (tn b o q)).trans (n.keep b o z zf zt q)⟩
 .rw[AN (ne_ext b _ e λ ψ z=>by cases z) (hb b _ e)];exact e
 .rw[AN (ne_ext b _ e λ ψ z=>by cases z) (hb b _ e)];exact e
 .rw[AN (ne_ext b _ e λ ψ z=>by cases z) (hb b _ e),e];simp
 .by_cases z:b=x
  .subst z;rw[D8]at e;cases e;obtain⟨vs,sl,e1,e2⟩:=exc;exact RU e1 e2
  .by_cases zT:b=T
   .subst zT;rw[EA nTx]at e;cases e;exact Md t2
   .rw[AN z zT]at e;by_cases zt:b∈tt
    .rw[(htt b zt).1]at e;cases e;exact Md (old b zt)
    .have own_ne:∀c,H c=some (.own b)->c≠x/\c≠T:=λ c hc=>⟨ne_ext c _ hc (λ ψ z=>by cases z),hb c _ hc⟩;refine(I.hok b u e).stay (λ c v hc q=>?_) (λ c q=>?_) λ c xs q=>?_
     .have hcH:∃y,H c=some y:=by
       rcases hc with rfl|hc
       .exact⟨u,e⟩
       .exact⟨_,hc⟩
      obtain⟨y,hy⟩:=hcH;refine(k2 c (hb c y hy)).trans (n.keep c v ?_ (λ zf=>by rw[I.stkFree c zf]at hy;cases hy) (λ zt'=>?_) q)
      .rcases hc with rfl|hc
       .exact z
       .exact(own_ne c hc).1
      .rcases hc with rfl|hc
       .exact zt zt'
       .rw[(htt c zt').1]at hc;cases hc
     .rw[AN (own_ne c q).1 (own_ne c q).2];exact q
     .rw[AN (ne_ext c _ q λ ψ z=>by cases z) (hb c _ q)];exact q
theorem F9{E:VPz}{Q:Unit->Shared->Prop}(I:Inv X pins σ H s)(hst:X.stack=X.env::X.outer)(hfr:X.env.frame=some X.env.locals)(hf:Op H x C d\/∃T,ER H x C d T)
  (h:∀h' T,H T=none->T≠x->Inv X pins σ (thrown H x C d T) { s with heap:=h' }->Q () { s with heap:=h' }) :
  wpAny (model X.prog X.w) X.A (noteFrame (.ref x) X.env) (λ_ s₂=>wpAny (model X.prog X.w) X.A (setFlight (.ref x) none) Q E s₂) E s:=by
 have fr:X.A.frames=some (X.env::X.outer):=hst ▸ I.ok.frames;have ff:s.heap.FunFrames X.base (X.env::X.outer):=hst ▸ I.stack;have rest:∀{φ:Heap->Prop}{tt:List Addr}(hx:H x=some (.ext φ))(htt:∀t∈tt,H t=some (TbO t)/\t≠x)(h1:Heap)(T:Addr),Hw (frs (X.env::X.outer)) tt x T (rawInt X.env.locals) (.ref C) d s.heap h1 ->
   wpAny (model X.prog X.w) X.A (setFlight (.ref x) none) Q E { s with heap:=h1 }:=λ{φ tt} hx htt h1 T n=>by
  obtain⟨vs,sl,e1,e2⟩:=n.exc;obtain⟨o,ts,f1,f2,f3⟩:=n.tb;refine Hd (s:={ s with heap:=h1 }) e1 e2 f1 f2 (Array.getElem?_eq_some_iff.mp f3).1 λ h2 k2 t2=>?_;obtain⟨hT,nT,un,ok⟩:=RC I hx htt (hst ▸ n) k2 t2;exact h h2 T hT nT (I.call (g':=s.gens) (d':=s.drawn) (t':=s.toks) (ch:=[]) un ok I.bare (λ b z=>absurd z (by simp)))
 rcases hf with (⟨rfl,hx⟩|⟨dx,rfl,hx⟩)|⟨T,hx,hT,ne⟩
 .obtain⟨⟨vs,sl,e1,e2⟩,_⟩:=(show ObjOk X.prog X.w H s.heap x (Iq C x) from I.hok x _ hx);exact Lg fr ff hfr e1 e2 λ h1 T n=>rest (tt:=[]) hx (λ t z=>absurd z (by simp)) h1 T n
 .obtain⟨⟨vs,sl,e1,e2⟩,_⟩:=(show ObjOk X.prog X.w H s.heap x (Ef C dx x) from I.hok x _ hx);exact Lg fr ff hfr e1 e2 λ h1 T n=>rest (tt:=[]) hx (λ t z=>absurd z (by simp)) h1 T n
 .obtain⟨⟨vs,sl,e1,e2⟩,_⟩:=(show ObjOk X.prog X.w H s.heap x (FW C d x T) from I.hok x _ hx);obtain⟨⟨o,ts,f1,f2,f3⟩,_⟩:=(show ObjOk X.prog X.w H s.heap T (TbO T) from I.hok T _ hT);exact OB fr ff hfr e1 e2 f1 f2 f3 ne λ h1 T' n=>rest (tt:=[T]) hx (λ t z=>by rw[List.mem_singleton.mp z];exact⟨hT,ne⟩) h1 T' n
theorem OG{E:VPz}{Q:Unit->Shared->Prop}(I:Inv X pins σ H s)(hst:X.stack=X.env::X.outer)(hfr:X.env.frame=some X.env.locals)(hf:Op H x C d\/∃T,ER H x C d T)
  (h:∀h' T,H T=none->T≠x->Inv X pins σ (thrown H x C d T) { s with heap:=h' }->Q () { s with heap:=h' }):wpAny (model X.prog X.w) X.A (leaving X.env (.ref x)) Q E s:=by
 unfold leaving;exact wpAny_bind (F9 I hst hfr hf h)
end
def CX1(P:Program)(w:World):CXT:=λ outer H s E e s'=>∃x T C d H',e=Value.ref x/\s'.os=s.os/\AllBare s'.gens/\Un (frs outer) [] H H' s.heap s'.heap/\HOk P w H' s'.heap/\ER H' x C d T/\E (.ref x) d H'
def UB(X:Cx)(E:XK):Prop:=∀(pins:PNz)(σ:St)(H:Hp)(s:Shared)(x C:Addr)(d:Option Addr),Inv X pins σ H s->(Op H x C d\/∃T,ER H x C d T) ->
 (∀T,H T=none->T≠x->E (.ref x) d (thrown H x C d T))->X.xe (.ref x) s
section
variable{P:Program}{w:World}{K:Frag}{mg:MGz}{base:Heap}{N:LSz}{qual:Str}{scope:Scope}{f:Addr}{cd:Value}{A:Around}{outer:List Env}{s:Shared}{H:Hp}{E E₁:XK}
theorem QV:UB (B8 (CX1 P w) P w K mg base N qual scope f cd A outer s H E) E:=by
 intro pins σ H1 s1 x C d I hf hE;exact OG I rfl rfl hf λ h' T hT nT I'=>⟨x,T,C,d,_,rfl,I'.os,I'.bare,I'.base,I'.hok,⟨D8,EA nT,nT⟩,hE T hT nT⟩
theorem SX:PassesOwn (model (B8 (CX1 P w) P w K mg base N qual scope f cd A outer s H E).prog (B8 (CX1 P w) P w K mg base N qual scope f cd A outer s H E).w) (B8 (CX1 P w) P w K mg base N qual scope f cd A outer s H E).A (B8 (CX1 P w) P w K mg base N qual scope f cd A outer s H E).env (B8 (CX1 P w) P w K mg base N qual scope f cd A outer s H E).xe:=PassesOwn.leaving
end
theorem Fun.okx{P:Program}{w:World}{K:Frag}{mg:MGz}{base:Heap}{x qual:Str}{st:Stmt}{f:Addr}{fd:FuncData}{N ps:LSz}{k:Nat}{sp:Sp}(F:Fun K x qual st f fd)(S:Ak N ps (Ai st))(len:∀vs H Q E,sp vs H Q E->vs.length=ps.length)
  (hbody:∀(cdv:Value)(A:Around)(outer:List Env)(s:Shared)(H:Hp)(vs:LUz)(Q:VK)(E:XK),Room k (A.deeper (envOfC qual (Ai st) s.heap.objs.size f cdv))->sp vs H Q E ->
   ∃t,PSs (B8 (CX1 P w) P w K mg base N qual (Ai st) f cdv A outer s H E) (AE st) t/\t { nx:=λ_ H'=>Q .non H',rt:=Q } (BV N vs) H):A5 P w K mg base (CX1 P w) (k+1) f fd ps sp:=by
 obtain⟨oc,od,kV,doc,pm,an,cdv,ct,osl,rfl,lk,hcd⟩:=F.ex;exact NQ lk hcd S len λ A outer s H vs Q E hr hsp=>hbody cdv A outer s H vs Q E hr hsp
structure Nf(P:Program)(w:World)(K:Frag)(mg:MGz)(base:Heap)(k:Nat)(x:Str)(ps:LSz)(sp:Sp):Prop where
 ex:∃(f:Addr)(fd:FuncData),A5 P w K mg base (CX1 P w) k f fd ps sp/\mg x=some (.ref f)/\keepIn K (.ref f)=true/\Binds K fd ps []
def SO(C:Addr)(names:LSz)(E:XK)(t:TA):TS:=λ_ σ H=>t σ H λ vs H1=>vs.length=names.length /\
 ∀y dx T H2,H1 y=none->Same H1 H2->H2 y=some (Ef C dx y)->H2 dx=some (Da dx (names.zip vs))->dx≠y->H2 T=none->T≠y->E (.ref y) (some dx) (thrown H2 y C (some dx) T)
section
variable{X:Cx}{k j:Nat}{x:Str}{C:Addr}{ps names:LSz}{sp:Sp}{p pos cpos:Pos}{e:Expr}{es:List Expr}{t:TA}{E E₁:XK}
theorem PH(hX:UB X E)(D:QJ X.prog X.w X.K X.mg X.base k x C ps names)(hr:Room j X.A)(ha:PA X (e::es) t)(hc:X.calm=true:=by rfl)(hj:k+1<=j:=by decide)(hg:Gl X x:=by rfl)(hdb:(x==("__debug__":Str))=false:=by decide)
  (he:starEach (e::es) X.env=(false,eval e X.env)::starEach es X.env:=by rfl) (hpl:(backTo cpos (starEach es X.env)).any (·.1)=false:=by rfl):PS X (.Raise (some (.Call (.Name x p) (e::es) [] cpos)) none pos) (SO C names E t):=by
 intro pins s σ H Dd I h;obtain⟨f,fd,M,F,hm,hb⟩:=D.ex;have pe:wpAny (model X.prog X.w) X.A (eval (.Call (.Name x p) (e::es) [] cpos) X.env) (EP X pins σ λ v H2=>∃y d,v=V.ref y/\Op H2 y C d/\∀T,H2 T=none->T≠y->E (.ref y) d (thrown H2 y C d T)) X.xe s:=by
  refine wpAny_Call_Name_kw (Dr I hg hm ?_ hdb);refine callWith_K (h₀:=X.base) I.ok.mod.kin M.kp (thn (ha cpos pins s σ H _ I h) λ us s1 ⟨vs,H1,I1,r,hl,q⟩=>⟨I1.kIn,?_⟩) he hpl;refine Rr M F (hr.mono hj) hb G8 I1 r (hl ▸ D.few) λ y hy=>⟨y,vs,rfl,hl,Ab,λ d H' hd h1 h2 hs=>⟨rfl,y,some d,rfl,.inr ⟨d,rfl,h1⟩,λ T hT nT=>?_⟩⟩;refine q y d T H' hy (λ a o ho=>hs a o (Ad ho hy) ?_) h1 h2 (λ z=>by rw[z,Ab]at hd;cases hd) hT nT;rw[Ae (Ad ho hy)];exact ho
 rw[arm_exec_Raise];simp only[evalOpt,Option.map];refine wpAny_bind (wpAny_standAt (Mu M (I.ok.hd hc) ?_));refine wpAny_bind (thn pe λ v s1 ⟨u,H2,I2,r,y,d,ey,fr,hE⟩=>wpAny_bind (wpAny_standAt (wpAny_pure ?_)));subst ey;obtain rfl:v=Value.ref y:=r;have ob:∃vs sl,s1.heap.get? y=some ⟨.ref C,d,.fields vs,sl⟩/\vs[1]?=some Value.none:=by
  rcases fr with ⟨rfl,hx⟩|⟨dx,rfl,hx⟩
  .exact(show ObjOk X.prog X.w H2 s1.heap y (Iq C y) from I2.hok y _ hx).1
  .exact(show ObjOk X.prog X.w H2 s1.heap y (Ef C dx y) from I2.hok y _ hx).1
 obtain⟨vs,sl,e1,e2⟩:=ob;exact⟨y,d,vs,sl,rfl,I2.kIn,e1,e2,hX pins σ H2 s1 y C d I2 (.inl fr) hE⟩
end
def Du:Nat->Heap
 |0=>{}
 |n+1=>(Du n).push { cls:=.type "dict",data:=.dict #[] }
theorem Dt:∀n,(Du n).objs.size=n
 |0=>rfl
 |n+1=>by rw[Du,Heap.size_push,Dt n]
theorem Q1{C C' x T T':Addr}{d d':Option Addr}(h:FW C d x T=FW C' d' x T'):C=C'/\d=d'/\T=T':=by
 have h:(HO.ext λ h=>∃vs sl,h.get? x=some ⟨.ref C,d,.fields vs,sl⟩/\vs[1]?=some (.ref T))=HO.ext λ h=>∃vs sl,h.get? x=some ⟨.ref C',d',.fields vs,sl⟩/\vs[1]?=some (.ref T'):=h;injection h with h;have e:=congrFun h ((Du x).push ⟨.ref C,d,.fields #[.none,.ref T],#[]⟩);have g:((Du x).push ⟨.ref C,d,.fields #[.none,.ref T],#[]⟩).get? x=some ⟨.ref C,d,.fields #[.none,.ref T],#[]⟩:=Heap.get?_push_at (Dt x).symm rfl;have q:=e.mp ⟨_,_,g,rfl⟩;obtain⟨vs,sl,e1,e2⟩:=q;rw[g]at e1;cases e1;cases e2;exact⟨rfl,rfl,rfl⟩
section
variable{X:Cx}{pins:PNz}{σ:St}{H:Hp}{s:Shared}
theorem Gd{M:Model}{A:Around}{E:VPz}{i:Nat}{n:Str}{pos:Pos}{Q:Unit->Shared->Prop}(I:Inv X pins σ H s)(hN:X.N.Nodup)(hi:X.N[i]?=some n)(hk:X.env.scope.names.lookup n=some .local)
    (h:∀s',Inv X pins (σ.set i none) H s'->Q () s'):wpAny M A (do bindName X.env n .none;unbindBehindTheSuite X.env n pos) Q E s:=by
  obtain⟨m,hn,hl⟩:=id I.loc;have hcls:(X.env.scope.kind==.class||(X.env.scope.kind==.module&&X.env.locals != X.env.globals))=false:=by rw[I.ok.kind];rfl
  have hiσ:i<σ.length:=by rw[I.len];exact(List.getElem?_eq_some_iff.mp hi).1
  refine wpAny_nameGoes_keeps hk hn hcls λ h' v hn' hs=>h _ ?_;have nl:∀b o,X.s₀.heap.get? b=some o->b≠X.env.locals:=λ b o e=>Nat.ne_of_lt (Nat.lt_of_lt_of_le (Heap.lt_size e) I.ok.above);refine⟨I.ok,I.os,I.bare,⟨λ b o e z hb hx=>(hs.2 b (nl b o e)).trans (I.base.keep b o e z hb hx),λ b o e z hb hx=>?_,I.base.free,λ b o e hx=>?_,I.base.tups,I.base.frzs,I.base.tbls⟩,⟨_,hn',λ j y v' e1 e2 e3=>?_⟩,λ y c e=>?_,I.free,I.freeC,λ p hp=>?_,λ b ob e=>?_,by simpa using I.len⟩
  · obtain⟨sl,e1⟩:=I.base.slot b o e z hb hx
    exact⟨sl,(hs.2 b (nl b o e)).trans e1⟩
  · obtain⟨o',e1⟩:=I.base.there b o e hx
    exact⟨o',(hs.2 b (nl b o e)).trans e1⟩
  · by_cases hj:j=i
    · subst hj
      rw[List.getElem?_set_self hiσ]at e2;cases e2
    · rw[List.getElem?_set_ne (Ne.symm hj)]at e2
      obtain⟨u',r',q⟩:=hl j y v' e1 e2 e3;refine⟨u',r',?_⟩;rcases q with ⟨k,e⟩|⟨k,c,e,z⟩
      · have ny:y≠n:=λ e=>hj (GM hN e1 (e ▸ hi))
        exact .inl ⟨k,by simp[ny,e]⟩
      · exact .inr ⟨k,c,e,z.sameBut hs (I.cne y c e)⟩
  · obtain⟨w',z⟩:=I.cell y c e
    exact⟨w',z.sameBut hs (I.cne y c e)⟩
  · obtain⟨e,z,ne,nf,d⟩:=I.pin p hp
    exact⟨(hs.2 p.1 ne).trans e,z,ne,nf,d⟩
  · refine(I.hok b ob e).stay (λ c w' hc q=>(hs.2 c ?_).trans q) (λ_ q=>q) λ_ _ q=>q
    rintro rfl;rcases hc with hc|hc
    · rw[<-hc,I.free]at e;cases e
    · rw[I.free]at hc;cases hc
abbrev Cx.suite(X:Cx)(x:Addr):Cx:={ X with A:=X.A.mark (some (.ref x)),calm:=false,xe:=λ_ _=>False }
theorem Inv.suite(I:Inv X pins σ H s)(x:Addr):Inv (X.suite x) pins σ H s :=
 ⟨⟨I.ok.mod,I.ok.kind,I.ok.glob,I.ok.blt,I.ok.above,I.ok.inj,I.ok.has,I.ok.cab,(λ z=>nomatch z),I.ok.frames,I.ok.stk,I.ok.exf,I.ok.bs,I.ok.bsz,I.ok.noex,I.ok.exfs,I.ok.funs,I.ok.frf⟩,I.os,I.bare,I.base,I.loc,I.cell,I.free,I.freeC,I.pin,I.hok,I.len⟩
theorem Inv.unsuite{ok:X.Ok}{x:Addr}(I:Inv (X.suite x) pins σ H s):Inv X pins σ H s :=
 ⟨ok,I.os,I.bare,I.base,I.loc,I.cell,I.free,I.freeC,I.pin,I.hok,I.len⟩
end
def PX(X:Cx)(e:Expr)(t:TE)(E:XK):Prop:=∀(pins:PNz)(s:Shared)(σ:St)(H:Hp)(Q:VK)(Ex:VPz),Inv X pins σ H s->t σ H Q ->
 (∀x T C d H' s',Inv X pins σ H' s'->ER H' x C d T->E (.ref x) d H'->Ex (.ref x) s')->wpAny (model X.prog X.w) X.A (eval e X.env) (EP X pins σ Q) Ex s
section
variable{X:Cx}{k j:Nat}{x:Str}{C:Addr}{ps:LSz}{sp:Sp}{p pos:Pos}{e:Expr}{es:List Expr}{t:TA}{E:XK}
theorem Ui(D:Nf X.prog X.w X.K X.mg X.base k x ps sp)(hr:Room j X.A)(ha:PA X.nox (e::es) t)(hj:k<=j:=by decide)(hg:Gl X x:=by rfl)(hdb:(x==("__debug__":Str))=false:=by decide)
  (he:starEach (e::es) X.env=(false,eval e X.env)::starEach es X.env:=by rfl) (hpl:(backTo pos (starEach es X.env)).any (·.1)=false:=by rfl):PX X (.Call (.Name x p) (e::es) [] pos) (Pr sp [] E t) E:=by
 obtain⟨f,fd,F,hm,hk,hb⟩:=D.ex;intro pins s σ H Q Ex I h hx;refine wpAny_Call_Name_kw (Dr I hg hm ?_ hdb);refine callWith_K (h₀:=X.base) I.ok.mod.kin hk (wpAny_mono (ha pos pins s σ H _ (I.wish _) h) (λ us s1 ⟨vs,H1,I1',r,q⟩=>⟨I1'.unwish.kIn,?_⟩) λ_ _ z=>False.elim z) he hpl;have I1:Inv X pins σ H1 s1:=I1'.unwish;have q:sp (vs++[]) H1 Q E:=q;rw[List.append_nil]at q;have hl:us.length=ps.length:=by rw[<-r.length];exact F.len _ _ _ _ q
 have hb2:=hb s1 us I1.kIn (by rw[List.append_nil];exact hl);rw[List.append_nil]at hb2;refine wpAny_call (codeAny_mono (F.run X.A X.stack s1 H1 ⟨us,[]⟩ us vs Q E (hr.mono hj) I1.env0 hb2 r q) λ r s' hq=>?_);cases r with
 |error e =>
  obtain⟨x,T,C,d,H',rfl,os,bare,un,hok,fl,q'⟩:=hq;exact hx x T C d H' s' (I1.call' (ch:=[]) os un hok bare (λ b z=>absurd z (by simp))) fl q'
 |ok fl =>
  cases fl with
  |ret u=>exact I1.after hq
  |next=>exact False.elim hq
  |brk=>exact False.elim hq
  |cont=>exact False.elim hq
end
def Su(im:Nat)(D:CN):CN:={ nx:=λ σ H=>D.nx (σ.set im none) H,rt:=D.rt,bk:=λ σ H=>D.bk (σ.set im none) H,ct:=λ σ H=>D.ct (σ.set im none) H }
def Me(wi:TI)(g:TG)(tc:TT)(te:TE)(fr:List (Option Nat)):TE:=λ σ H Q=>wi σ H λ J H1=>∀acc,H1 acc=none->∃W:Nat->Nat->St->Hp->Prop,(∃m,W 0 m (stC fr σ) (upd H1 acc (.lst [])))/\∀i m σ1 H2,W i m σ1 H2 ->
 (J.stop i H2/\Q (.ref acc) H2)\/(J.go i H2/\∀x H3,J.yld i H2 x H3->g x σ1 H3 λ σ4 H4=>tc σ4 H4 λ b Hb=>match b with
  |true=>te σ4 Hb λ v H5=>∃xs,H5 acc=some (.lst xs)/\xs.length<sizeLine/\∃m',m'<m/\W (i+1) m' σ4 (upd H5 acc (.lst (xs++[v])))
  |false=>∃m',m'<m/\W (i+1) m' σ4 Hb)
section
variable{prog:Program}{w:World}{A:Around}{R:Result->Shared->Prop}{s:Shared}
theorem HZ{elt target iter cnd:Expr}{scope:Scope}{pos:Pos}{it acc:Value}{env:Env}(I:Nat->Shared->Prop)
    (turn:∀n s,I n s->wpAny (model prog w) A (pyNext it) (λ r s₁=>match r with
      |none=>R (.ok .next) s₁
      |some v=>wpAny (model prog w) A (letOwnedTupleGo target it v) (λ_ s₁=>wpAny (model prog w) A (assign target env v) (λ_ s₂ =>
          wpAny (model prog w) A (forIn [cnd] true λ c r=>if r=true then do let ok <-isTrue c env (eval c env);pure (ForInStep.yield ok) else pure (ForInStep.yield r)) (λ ok s₃ =>
            if ok=true then wpAny (model prog w) A (eval elt env) (λ x s₄=>wpAny (model prog w) A (call (.builtin "list.append") [acc,x]) (λ_ s₅=>∃m,m<n/\I m s₅) (notedBy (model prog w) A env λ e s'=>R (.error e) s') s₄)
              (notedBy (model prog w) A env λ e s'=>R (.error e) s') s₃
            else ∃m,m<n/\I m s₃) (notedBy (model prog w) A env λ e s'=>R (.error e) s') s₂)
          (notedBy (model prog w) A env λ e s'=>R (.error e) s') s₁) (notedBy (model prog w) A env λ e s'=>R (.error e) s') s₁) (notedBy (model prog w) A env λ e s'=>R (.error e) s') s)
    (n:Nat) (h:I n s) :
    codeAny (model prog w) A (.compLoop (.ListComp elt [⟨target,iter,[cnd],0⟩] scope pos) 0 it acc env) R s:=by
  refine codeAny_loop rfl I (λ n s hI=>?_) n h;show wpAny _ _ ((compTurn (.ListComp elt [⟨target,iter,[cnd],0⟩] scope pos) 0 it acc env).onRaise (λ x=>do noteFrame x env;theTreesLotGoes x)) _ _ s;refine wpAny_noted ?_;rw[compTurn_list];refine wpAny_bind (wpAny_standAt (wpAny_bind (wpAny_mono (turn n s hI) (λ r s₁ h₁=>?_) λ_ _ h'=>h')));cases r with
  |none=>exact wpAny_pure h₁
  |some v =>
    refine wpAny_bind (wpAny_mono h₁ (λ_ s₁ h₁=>?_) λ_ _ h'=>h');refine wpAny_bind (wpAny_mono h₁ (λ_ s₂ h₂=>wpAny_bind (wpAny_mono h₂ (λ ok s₃ h₃=>?_) λ_ _ h'=>h')) λ_ _ h'=>h');cases ok with
    |false=>exact wpAny_pure ⟨rfl,h₃⟩
    |true=>exact wpAny_bind (wpAny_bind (wpAny_mono h₃ (λ x s₄ h₄=>wpAny_bind (wpAny_mono h₄ (λ_ s₅ h₅=>wpAny_pure (wpAny_pure ⟨rfl,h₅⟩)) λ_ _ h'=>h')) λ_ _ h'=>h'))
end
section
variable{X:Cx}{elt tg iter:Expr}{scope:Scope}{pos:Pos}{wi:TI}{g:TG}{te:TE}{N:LSz}{fr:List (Option Nat)}
variable{cnd:Expr}{tc:TT}
theorem Hm{pins:PNz}{σ:St}{H:Hp}{s:Shared}{Q:VK}{cl:List (Str×Addr)}{R:Value->Addr->Result->Shared->Prop}(hc:X.calm=true)(I:Inv X pins σ H s)(hi:PI X tg iter wi)
  (hg:∀cl C s H ex,PG (AK X scope cl N C s H ex) tg g) (hcn:∀cl C s H ex,PT (AK X scope cl N C s H ex) cnd tc) (he:∀cl C s H ex,PE (AK X scope cl N C s H ex) elt te) (ck:ES X.env.scope X.N scope N fr)
  (c1:∀x c,cl.lookup x=some c->X.env.cells.lookup x=some c) (c2:∀x,(x,NameKind.free)∈scope.names->∃c,cl.lookup x=some c)
  (h:Me wi g tc te fr σ H Q)
  (hR:∀acc C s' H' m,s'.heap.Ns C m->E7 X pins H' C->Inv X pins σ H' s'->Q (.ref acc) H'->R (.ref acc) C (.ok .next) s') :
  wpAny (model X.prog X.w) X.A (eval iter X.env) (λ x s₁=>wpAny (model X.prog X.w) X.A (pyIter x) (λ it s₂=>wpAny (model X.prog X.w) X.A (newList []) (λ acc s₃ =>
   wpAny (model X.prog X.w) X.A (newFunctionEnv scope X.env.globals cl [] X.env.qual none .none (some X.env)) (λ cenv s₄ =>
    codeAny (model X.prog X.w) X.A (.compStart (.ListComp elt [⟨tg,iter,[cnd],0⟩] scope pos) 0 it acc { cenv with scope:=relabel scope X.env }) (R acc cenv.locals) s₄) X.xe s₃) X.xe s₂) X.xe s₁) X.xe s:=by
 refine thn (hi pins s σ H _ I h) λ v s1 h1=>thn h1 λ itv s2 h2=>?_;obtain⟨it,fp,tn,J,H2,e,I2,T,st2,f2,q2⟩:=h2;subst e;refine wpAny_newObj_type (wpAny_newFunctionEnv ck.nocell (by intro y hy;simp at hy) (λ h₁ hns₁ hsb₁=>?_) ck.kind);dsimp only at hns₁ hsb₁ |-;have I3:Inv X pins σ (upd H2 s2.heap.objs.size (.lst [])) { s2 with heap:=s2.heap.push { cls:=.type "list",dict:=none,data:=.seq ([]:LWz).toArray } }:=I2.lnew (t':=s2.toks) (its:=[]) .nil (Nat.zero_le _);have acc0:H2 s2.heap.objs.size=none:=I2.fresh;obtain⟨W,⟨m0,w0⟩,turn⟩:=q2 s2.heap.objs.size acc0;generalize hH3:s2.heap.push { cls:=.type "list",dict:=none,data:=.seq ([]:LWz).toArray }=h3 at hns₁ hsb₁ I3 |-;have hz3:h3.objs.size=s2.heap.objs.size+1:=by rw[<-hH3,Heap.size_push]
 have k23:∀b o,s2.heap.get? b=some o->h3.get? b=some o:=λ b o e=>by rw[<-hH3];exact Heap.get?_push_of_some _ e
 have k34:∀b o,h3.get? b=some o->h₁.get? b=some o:=λ b o e=>hsb₁.extBut b o (Nat.ne_of_lt (Heap.lt_size e)) (Heap.get?_push_of_some _ e);have fpo:∀b∈fp,∃o,s2.heap.get? b=some o/\∀v,o.data≠.cell v:=T.obj 0 _ st2;have hex:∀b∈fp,E7 X pins (upd H2 s2.heap.objs.size (.lst [])) b/\b<h3.objs.size:=λ b hb=>by
  obtain⟨o,eo,_⟩:=fpo b hb;have lt:=Heap.lt_size eo;obtain⟨f0,fr'⟩:=f2 b hb;exact⟨⟨by rw[Ae (Nat.ne_of_lt lt)];exact f0,fr'⟩,by rw[hz3];exact Nat.lt_succ_of_lt lt⟩
 have I4:Inv (AK X scope cl N h3.objs.size { s2 with heap:=h3 } (upd H2 s2.heap.objs.size (.lst [])) fp) [] (stC fr σ) (upd H2 s2.heap.objs.size (.lst [])) { s2 with heap:=h₁,toks:=s2.toks+([]:List (Str×Value)).length } :=
  Hl I3 ck c1 c2 hex (Nat.le_refl _) hns₁ k34 rfl rfl
 have stat:∀{H':Hp},(∀b∈fp,H' b=none)->∀b∈fp,E7 (AK X scope cl N h3.objs.size { s2 with heap:=h3 } (upd H2 s2.heap.objs.size (.lst [])) fp) [] H' b:=λ hn b hb =>
  ⟨hn b hb,(I4.ok.exf b hb).1,I4.ok.exfs b hb,.inl hb,(I4.ok.exf b hb).2,λ p hp=>by simp at hp⟩
 have stn:∀i h h',tn i h->(∀b o,h.get? b=some o->h'.get? b=some o)->tn i h':=λ i h h' st kk=>T.keep i h h' st λ b _ o e=>kk b o e;have loop:codeAny (model X.prog X.w) X.A (.compLoop (.ListComp elt [⟨tg,iter,[cnd],0⟩] scope pos) 0 (.ref it) (.ref s2.heap.objs.size) (compEnvC scope cl h3.objs.size X.env)) (R (.ref s2.heap.objs.size) h3.objs.size)
   { s2 with heap:=h₁,toks:=s2.toks+([]:List (Str×Value)).length }:=by
  refine HZ (λ n s'=>∃i σ' H',Inv (AK X scope cl N h3.objs.size { s2 with heap:=h3 } (upd H2 s2.heap.objs.size (.lst [])) fp) [] σ' H' s'/\tn i s'.heap/\(∀b∈fp,H' b=none)/\W i n σ' H') ?_ m0
   ⟨0,_,_,I4,stn _ _ _ st2 λ b o e=>k34 b o (k23 b o e),λ b hb=>(hex b hb).1.1,w0⟩
  rintro n s3 ⟨i,σ3,H3,J3,st3,fr3,w3⟩;rcases turn i n σ3 H3 w3 with ⟨stop,qn⟩|⟨go,step⟩
  .refine Br (thn (T.done (AK X scope cl N h3.objs.size { s2 with heap:=h3 } (upd H2 s2.heap.objs.size (.lst [])) fp) rfl rfl rfl hc i [] s3 σ3 H3 (λ_ _=>False) J3 (stat fr3) st3 stop) λ r s4 hz_=>?_);obtain⟨hr,J4⟩:=hz_;subst hr;obtain⟨mc,hmc,_⟩:=J4.loc;have I5:Inv X pins σ H3 s4:=I3.call' (ch:=fp) J4.os J4.base J4.hok J4.bare λ b hb=>⟨(hex b hb).1.2.2.2.1,(hex b hb).1.2.1,(hex b hb).1.2.2.2.2.1,(hex b hb).1.2.2.2.2.2⟩;exact hR _ _ s4 H3 mc hmc (I3.fpOk (Nat.le_refl _) J4.free) I5 qn
  .refine Br (thn (T.item (AK X scope cl N h3.objs.size { s2 with heap:=h3 } (upd H2 s2.heap.objs.size (.lst [])) fp) rfl rfl rfl hc i [] s3 σ3 H3 (λ_ _=>False) J3 (stat fr3) st3 go) λ r s4 hz_=>?_);obtain⟨u,hr,h4⟩:=hz_;subst hr;refine Br (thn h4 λ_ s5 hz_=>?_);obtain⟨x,H5,J5,r5,y5,st5,fr5⟩:=hz_;have J5':=J5.pinned (stat fr5) (T.obj _ _ st5);refine Br (thn (hg _ _ _ _ _ _ s5 σ3 H5 x u _ J5' r5 (step x H5 y5)) λ_ s6 hz_=>?_);obtain⟨σ6,H6,J6,q6⟩:=hz_;refine wpAny_tests_one (Br (thn (hcn _ _ _ _ _ _ s6 σ6 H6 _ J6 q6) λ b sb hz_=>?_));obtain⟨Hb,Jb,qb⟩:=hz_;cases b with
   |false =>
    obtain⟨m',hm',w7⟩:=qb;refine ite_ff ⟨m',hm',i+1,σ6,_,Jb.unpinned,T.keep _ _ _ st5 λ b hb o e=>(Jb.pin (b,o) (List.mem_append_right _ (List.mem_append_right _ (AY hb e)))).1,λ b hb=>?_,w7⟩;obtain⟨o,e,d⟩:=T.obj _ _ st5 b hb;exact(Jb.pin (b,o) (List.mem_append_right _ (List.mem_append_right _ (AY hb e)))).2.1
   |true =>
    refine ite_tt ?_;refine Br (thn (he _ _ _ _ _ _ sb σ6 Hb _ Jb qb) λ y s7 hz_=>?_);obtain⟨v7,H7,J7,r7,xs,hx,hz,m',hm',w7⟩:=hz_;refine Br (thn (AG _ s7 σ6 H7 (.ref s2.heap.objs.size) [v7] (.ref s2.heap.objs.size) [y] (λ v H8=>H8=upd H7 s2.heap.objs.size (.lst (xs++[v7]))) J7 rfl (.cons r7 .nil) ⟨_,xs,v7,rfl,rfl,hx,hz,rfl⟩) λ_ s8 hz_=>?_);obtain⟨_,H8,J8,_,e8⟩:=hz_;subst e8;refine⟨m',hm',i+1,σ6,_,J8.unpinned,T.keep _ _ _ st5 λ b hb o e=>(J8.pin (b,o) (List.mem_append_right _ (List.mem_append_right _ (AY hb e)))).1,λ b hb=>?_,w7⟩;obtain⟨o,e,d⟩:=T.obj _ _ st5 b hb;exact(J8.pin (b,o) (List.mem_append_right _ (List.mem_append_right _ (AY hb e)))).2.1
 exact codeAny_compStart_list loop (T.self _ 0 _ _ _ (stn _ _ _ st2 λ b o e=>k34 b o (k23 b o e)) loop)
theorem Ck(hc:X.calm=true)(hi:PI X tg iter wi)(hg:∀cl C s H ex,PG (AK X scope cl N C s H ex) tg g)(hcn:∀cl C s H ex,PT (AK X scope cl N C s H ex) cnd tc)(he:∀cl C s H ex,PE (AK X scope cl N C s H ex) elt te)
  (hk:Eb X.env.scope X.N scope N fr=true:=by rfl) (hs:∀x,foldedSetIterable iter X.env x=pure x:=by intro _;rfl):PE X (.ListComp elt [⟨tg,iter,[cnd],0⟩] scope pos) (Me wi g tc te fr):=by
 intro pins s σ H Q I h;have ck:=Dw hk;obtain⟨cl,e1,c1,c2⟩:=Gh I.ok ck;rw[eval_ListComp];refine wpAny_comprehension_free (use:=none) (Q:=EP X pins σ Q) rfl hs e1 ck.kind ck.loc (Hm (R:=λ acc C=>compPost (model X.prog X.w) X.A X.xe none (EP X pins σ Q) acc C) hc I hi hg hcn he ck c1 c2 h λ acc C s' H' m hn f I' q=>?_);obtain⟨f0,f1,f2,f3,f4,f5⟩:=f;exact⟨m,hn,λ h' hs'=>⟨.ref acc,H',I'.turned (t':=s'.toks) (λ b o hb e=>hs'.extBut b o hb e) f0 f1 f3 f4 f5,rfl,q⟩⟩
theorem F7{y:Str}{py spos:Pos}{gy:TG}(hc:X.calm=true)(hy:PG X (.Name y py) gy)(hi:PI X tg iter wi)(hg:∀cl C s H ex,PG (AK X scope cl N C s H ex) tg g)(hcn:∀cl C s H ex,PT (AK X scope cl N C s H ex) cnd tc)(he:∀cl C s H ex,PE (AK X scope cl N C s H ex) elt te)
    (hk:Eb X.env.scope X.N scope N fr=true:=by rfl) (hsw:swapsWith (.ListComp elt [⟨tg,iter,[cnd],0⟩] scope pos) (some (.Name y py)) spos.line X.env=pure true:=by rfl) (hs:∀x,foldedSetIterable iter X.env x=pure x:=by intro _;rfl) :
    PS X (.Assign [.Name y py] (.ListComp elt [⟨tg,iter,[cnd],0⟩] scope pos) spos) (Re (Me wi g tc te fr) gy):=by
  intro pins s σ H D I h;have ck:=Dw hk;obtain⟨cl,e1,c1,c2⟩:=Gh I.ok ck;rw[exec_Assign_Name_used _ _ _ _ hsw];refine wpAny_bind (wpAny_standAt (wpAny_bind ?_));show wpAny _ X.A (do let _ <-comprehension (.ListComp elt [⟨tg,iter,[cnd],0⟩] scope pos) scope X.env _ (newList []) false (eval iter X.env) (some (assign (.Name y py) X.env))) _ _ s;refine wpAny_bind (wpAny_mono (wpAny_comprehension_free (use:=some (assign (.Name y py) X.env)) (Q:=λ_ s'=>SP X pins D .next s') rfl hs e1 ck.kind ck.loc
    (Hm (R:=λ acc C=>compPost (model X.prog X.w) X.A X.xe (some (assign (.Name y py) X.env)) (λ_ s'=>SP X pins D .next s') acc C) hc I hi hg hcn he ck c1 c2 h λ acc C s' H' m hn f I' q=>?_)) (λ_ s' hq=>wpAny_pure (wpAny_pure hq)) λ_ _ e=>e)
  show wpAny _ X.A (assign (.Name y py) X.env (.ref acc)) _ _ _;obtain⟨oC,es,ep,hoC,hdC,hrC⟩:=id hn;have IP:=I'.pinned (fp:=[C]) (λ b hb=>by rw[List.mem_singleton.mp hb];exact f) (λ b hb=>by rw[List.mem_singleton.mp hb];exact⟨oC,hoC,λ v z=>by rw[hdC]at z;cases z⟩);refine thn (hy _ s' σ H' (.ref acc) (.ref acc) _ IP rfl q) λ_ s'' ⟨σ6,H6,I6,q6⟩=>?_;have pC:=I6.pin (C,oC) (List.mem_append_right _ (List.mem_append_right _ (AY (List.mem_singleton.mpr rfl) hoC)));obtain⟨f0,f1,f2,f3,f4,f5⟩:=f;exact⟨m,⟨oC,es,ep,pC.1,hdC,hrC⟩,λ h' hs'=>⟨σ6,H6,I6.unpinned.turned (t':=s''.toks) (λ b o hb e=>hs'.extBut b o hb e) pC.2.1 f1 f3 f4 f5,q6⟩⟩
end
section
variable{X:Cx}{a b c d:Expr}{ta tb tc td:TE}{pos:Pos}
theorem EL{K:Frag}(hK:X.K=K:=by rfl):IxR X (SS K):=by subst hK;exact Al
theorem CW{K:Frag}(hK:X.K=K:=by rfl):IxR X (Uh K):=by subst hK;exact Bd
end
def fW(acc:Addr)(n:Nat)(Pv:Nat->LUz->St->Hp->Prop)(i m:Nat)(σ:St)(H:Hp):Prop:=i<=n/\m=n-i/\∃xs,xs.length<=i/\H acc=some (.lst xs)/\Pv i xs σ H
def fNx(acc:Addr)(n:Nat)(Pv:Nat->LUz->St->Hp->Prop)(i:Nat)(σ:St)(v:V)(H:Hp):Prop:=∃xs,H acc=some (.lst xs)/\xs.length<sizeLine/\∃m',m'<n-i/\fW acc n Pv (i+1) m' σ (upd H acc (.lst (xs++[v])))
def fSk(acc:Addr)(n:Nat)(Pv:Nat->LUz->St->Hp->Prop)(i:Nat)(σ:St)(H:Hp):Prop:=∃m',m'<n-i/\fW acc n Pv (i+1) m' σ H
theorem fNx.mk{acc:Addr}{n:Nat}{Pv:Nat->LUz->St->Hp->Prop}{i:Nat}{σ:St}{v:V}{H:Hp}{xs:LUz}(hn:n<=sizeLine)(hi:i<n)(hl:xs.length<=i)(ha:H acc=some (.lst xs))(hp:Pv (i+1) (xs++[v]) σ (upd H acc (.lst (xs++[v])))) :
  fNx acc n Pv i σ v H:=⟨xs,ha,by lia,n-(i+1),by lia,hi,rfl,xs++[v],by rw[List.length_append,List.length_singleton];lia,Ab,hp⟩
theorem fSk.mk{acc:Addr}{n:Nat}{Pv:Nat->LUz->St->Hp->Prop}{i:Nat}{σ:St}{H:Hp}{xs:LUz}(hi:i<n)(hl:xs.length<=i)(ha:H acc=some (.lst xs))(hp:Pv (i+1) xs σ H):fSk acc n Pv i σ H:=⟨n-(i+1),by lia,hi,rfl,xs,by lia,ha,hp⟩
theorem Cs{K:Frag}{a:Addr}{ys:LUz}{g:TG}{tc:TT}{te:TE}{σ:St}{H1:Hp}{acc:Addr}{Qr:Hp->Prop}(Pv:Nat->LUz->St->Hp->Prop)(h0:Pv 0 [] σ (upd H1 acc (.lst [])))
  (hq:∀i xs σ H,i<=ys.length->H acc=some (.lst xs)->Pv i xs σ H->SqL K H a ys)
  (hs:∀i x xs σ H,ys[i]?=some x->i<ys.length->xs.length<=i->H acc=some (.lst xs)->Pv i xs σ H->g x σ H λ σ2 H2=>tc σ2 H2 λ b Hb=>match b with
   |true=>te σ2 Hb λ v H3=>fNx acc ys.length Pv i σ2 v H3
   |false=>fSk acc ys.length Pv i σ2 Hb)
  (hd:∀xs σ H,xs.length<=ys.length->H acc=some (.lst xs)->Pv ys.length xs σ H->Qr H) :
  ∃W:Nat->Nat->St->Hp->Prop,(∃m,W 0 m σ (upd H1 acc (.lst [])))/\∀i m σ1 H2,W i m σ1 H2 ->
   ((Itl K a).stop i H2/\Qr H2)\/((Itl K a).go i H2/\∀x H3,(Itl K a).yld i H2 x H3->g x σ1 H3 λ σ4 H4=>tc σ4 H4 λ b Hb=>match b with
    |true=>te σ4 Hb λ v H5=>∃xs,H5 acc=some (.lst xs)/\xs.length<sizeLine/\∃m',m'<m/\W (i+1) m' σ4 (upd H5 acc (.lst (xs++[v])))
    |false=>∃m',m'<m/\W (i+1) m' σ4 Hb):=by
 refine⟨fW acc ys.length Pv,⟨ys.length,Nat.zero_le _,rfl,[],Nat.le_refl _,Ab,h0⟩,?_⟩;rintro i m σ1 H2 ⟨hi,rfl,xs,hl,ha,hp⟩;have hsq:=hq i xs σ1 H2 hi ha hp;rcases Nat.lt_or_ge i ys.length with h|h
 .refine .inr ⟨⟨ys,ys[i],hsq,List.getElem?_eq_getElem h⟩,?_⟩;rintro x H3 ⟨rfl,hx⟩;exact hs i x xs σ1 H3 (hx ys hsq) h hl ha hp
 .have e:i=ys.length:=Nat.le_antisymm hi h;subst e;exact .inl ⟨⟨ys,hsq,Nat.le_refl _⟩,hd xs σ1 H2 hl ha hp⟩
theorem C5{lo:Int}{n:Nat}{g:TG}{tc:TT}{te:TE}{σ:St}{H1:Hp}{acc:Addr}{Qr:Hp->Prop}(Pv:Nat->LUz->St->Hp->Prop)(h0:Pv 0 [] σ (upd H1 acc (.lst [])))
  (hs:∀i xs σ H,i<n->xs.length<=i->H acc=some (.lst xs)->Pv i xs σ H->g (.int (lo+i)) σ H λ σ2 H2=>tc σ2 H2 λ b Hb=>match b with
   |true=>te σ2 Hb λ v H3=>fNx acc n Pv i σ2 v H3
   |false=>fSk acc n Pv i σ2 Hb)
  (hd:∀xs σ H,xs.length<=n->H acc=some (.lst xs)->Pv n xs σ H->Qr H) :
  ∃W:Nat->Nat->St->Hp->Prop,(∃m,W 0 m σ (upd H1 acc (.lst [])))/\∀i m σ1 H2,W i m σ1 H2 ->
   ((Itr lo n).stop i H2/\Qr H2)\/((Itr lo n).go i H2/\∀x H3,(Itr lo n).yld i H2 x H3->g x σ1 H3 λ σ4 H4=>tc σ4 H4 λ b Hb=>match b with
    |true=>te σ4 Hb λ v H5=>∃xs,H5 acc=some (.lst xs)/\xs.length<sizeLine/\∃m',m'<m/\W (i+1) m' σ4 (upd H5 acc (.lst (xs++[v])))
    |false=>∃m',m'<m/\W (i+1) m' σ4 Hb):=by
 refine⟨fW acc n Pv,⟨n,Nat.zero_le _,rfl,[],Nat.le_refl _,Ab,h0⟩,?_⟩;rintro i m σ1 H2 ⟨hi,rfl,xs,hl,ha,hp⟩;rcases Nat.lt_or_ge i n with h|h
 .refine .inr ⟨h,?_⟩;rintro x H3 ⟨rfl,rfl⟩;exact hs i xs σ1 H3 h hl ha hp
 .have e:i=n:=Nat.le_antisymm hi h;subst e;exact .inl ⟨Nat.le_refl _,hd xs σ1 H2 hl ha hp⟩
structure Nc(K:Frag)(C:Addr):Prop where
 cl:Cls K C
 ha:findIn K (.ref C) "__class__"=some (some (.builtin "object.__class__"))
 hn:specialIn K (.builtin "object.__class__") "__get__"=some (some (.builtin "getset_descriptor.__get__"))
 htk:takesIn K (.builtin "object.__class__")=some true
 hm:mroIn K C (.type "object")=some true
section
variable{X:Cx}
theorem E6:D5 X (.builtin "isinstance") (λ xs H Q=>∃a C dx fs c u b,xs=[.ref a,c]/\H a=some (.ins C dx fs)/\Nc X.K C/\RelV c u/\(∀u',RelV c u'->u'=u)/\kitOne X.K (.ref C) u=some b/\Q (.bl b) H):=by
 intro pins s σ H xs us Q I r h;obtain⟨a,C,dx,fs,c,u,b,rfl,he,hc,ru,uq,hk,q⟩:=h;obtain⟨v1,v2,rfl,r1,r2⟩:=Ph r;have:=uq v2 r2;subst this;exact IQ I r1 (.ins he hc.cl hc.ha hc.hn hc.htk hc.hm) hk λ tk=>⟨.bl b,H,I.tok tk,rfl,q⟩
end
def Itv(K:Frag)(a:Addr)(n:Nat):It :=
 ⟨λ i H=>∃xs,SqL K H a xs/\xs.length=n/\i<n,λ i H x H'=>H'=H/\∀xs,SqL K H a xs->xs[n-1-i]?=some x,λ i H=>n<=i⟩
theorem Pm{P:Program}{w:World}{K:Frag}{tg:Expr}(a it:Addr)(n:Nat):OW P w K tg (Itv K a n) [it] it (λ i h=>i<=n/\h.IsRevIter it a ((n:Int)-1-i)) where
 mem:=by simp
 obj:=λ i h st b hb=>by
  have e:b=it:=by simpa using hb
  subst e;obtain⟨_,o,e,c,d⟩:=st;exact⟨o,e,λ v z=>by rw[d]at z;cases z⟩
 keep:=λ i h h' st k=>⟨st.1,st.2.at λ o e=>k it (by simp) o e⟩
 item:=by
  intro X hP hw hK hc i pins s σ H E I hf st hg;subst hP hw hK;obtain⟨xs,hq,hn,hi⟩:=hg;obtain⟨hin,st⟩:=st;obtain⟨its,rv,p,hz⟩:=I.list hq;have hx:xs[n-1-i]?=some (xs[n-1-i]'(by lia)):=List.getElem?_eq_getElem (by lia);obtain⟨u,hu,ru⟩:=rv.get hx;obtain⟨f0,f1,f2,f3,f4,f5⟩:=hf it (by simp);have st':s.heap.IsRevIter it a (((n-1-i:Nat):Int)):=by
   rw[show(((n-1-i:Nat):Int))=(n:Int)-1-i by lia];exact st
  refine wpAny_pyNext_rev_item st' p.isList (x:=u) (by simpa using hu) λ h' st' sb=>?_;have I1:Inv X pins σ H { s with heap:=h' }:=I.turned (t':=s.toks) (λ b o hb e=>(sb.2 b hb).trans e) f0 f1 f3 f4 f5;obtain⟨o,e,c,d⟩:=id st';refine⟨u,rfl,NK (s:={ s with heap:=h' }) e c d (by decide) ⟨_,H,I1,ru,⟨rfl,λ ys hy=>by rw[I.list_inj hy hq];exact hx⟩,⟨by lia,?_⟩,λ b hb=>(hf b hb).1⟩⟩;rw[show(n:Int)-1-((i+1:Nat):Int)=((n-1-i:Nat):Int)-1 by lia];exact st'
 done:=by
  intro X hP hw hK hc i pins s σ H E I hf st hg;subst hP hw hK;obtain⟨hin,st⟩:=st;obtain⟨f0,f1,f2,f3,f4,f5⟩:=hf it (by simp);have e:i=n:=Nat.le_antisymm hin hg;subst e;rw[show(i:Int)-1-(i:Int)=-1 by lia]at st;exact wpAny_pyNext_rev_end (I.ok.hd hc) st λ h' eb=>⟨rfl,I.turned (t':=s.toks) (λ b o hb e=>eb b o hb e) f0 f1 f3 f4 f5⟩
 self:=λ_ _ _ _ _ st h=>wpAny_pyIter_revIter st.2 h
def Vq(K:Frag)(ta:TA):TI:=λ σ H R=>ta σ H λ vs H1=>∃a xs,vs=[.ref a]/\SqL K H1 a xs/\R (Itv K a xs.length) H1
theorem Ib:bootBuiltins "reversed"=some (.type "reversed"):=rfl
section
variable{X:Cx}{tg:Expr}
theorem Rz{a:Expr}{ta:TA}{p pos:Pos}(hg:Gl X "reversed")(hm:X.mg "reversed"=none)(ha:PA X [a] ta)(hs:starEach [a] X.env=[(false,eval a X.env)]:=by rfl) :
  PI X tg (.Call (.Name "reversed" p) [a] [] pos) (Vq X.K ta):=by
 intro pins s σ H R I h;refine Call_ (DL I hg hm Ib (PyProof.Rows.callWith_type1 (thn (ha pos pins s σ H _ I h) λ us s1 hz_=>?_) hs rfl));obtain⟨vs,H1,I1,r1,q1⟩:=hz_;obtain⟨b,xs,e,hq,q⟩:=q1;subst e;cases r1 with
 |cons r rr =>
  cases rr;cases r;obtain⟨its,rv,pl,hz⟩:=I1.list hq;have hl:=rv.length;refine call_reversed_list pl.isList ?_;have I2:Inv X pins σ H1 { s1 with heap:=s1.heap.push (revObj b ((its.toArray.size:Int)-1)) }:=I1.kept (t':=s1.toks) λ c o e=>Heap.get?_push_of_some _ e;refine wpAny_pyIter_revIter (s:={ s1 with heap:=s1.heap.push (revObj b ((its.toArray.size:Int)-1)) }) ⟨_,Heap.get?_push_size _ rfl,rfl,rfl⟩ ?_;refine⟨s1.heap.objs.size,[s1.heap.objs.size],_,_,H1,rfl,I2,Pm b _ xs.length,⟨Nat.zero_le _,⟨_,Heap.get?_push_size _ rfl,rfl,?_⟩⟩,λ c hc=>?_,q⟩
  .show Data.fields _=Data.fields _;rw[show((its.toArray.size:Int)-1)=(xs.length:Int)-1-((0:Nat):Int) by rw[List.size_toArray,<-hl];lia]
  .have e:c=s1.heap.objs.size:=by simpa using hc
   subst e;exact I1.fpOk (Nat.le_refl _) (I1.hok.fresh (Nat.le_refl _))
end
theorem RQ{K:Frag}{a:Addr}{xs:LUz}{g:TG}{tb:TS}{D:CN}{σ:St}{H:Hp}(Pv:Nat->St->Hp->Prop)(h0:Pv 0 σ H)(hl:∀i σ H,i<=xs.length->Pv i σ H->SqL K H a xs)
  (hs:∀i x σ H,xs[xs.length-1-i]?=some x->i<xs.length->Pv i σ H->g x σ H λ σ2 H2=>tb { D with nx:=Pv (i+1),ct:=Pv (i+1),bk:=D.nx } σ2 H2) (hd:∀σ H,Pv xs.length σ H->D.nx σ H) :
  ∃W:Nat->Nat->St->Hp->Prop,(∃m,W 0 m σ H)/\∀i m σ H,W i m σ H ->
   ((Itv K a xs.length).stop i H/\D.nx σ H)\/((Itv K a xs.length).go i H/\∃N:St->Hp->Prop,(∀σ' H',N σ' H'->∃m',m'<m/\W (i+1) m' σ' H')/\∀x H',(Itv K a xs.length).yld i H x H'->g x σ H' λ σ2 H2=>tb { D with nx:=N,ct:=N,bk:=D.nx } σ2 H2):=by
 refine⟨λ i m σ H=>m=xs.length-i/\i<=xs.length/\Pv i σ H,⟨xs.length,by simp,Nat.zero_le _,h0⟩,?_⟩;rintro i m σ H ⟨rfl,hi,p⟩;have q:=hl i σ H hi p;by_cases hlt:i<xs.length
 .refine .inr ⟨⟨xs,q,rfl,hlt⟩,Pv (i+1),λ σ' H' p'=>⟨xs.length-(i+1),by lia,rfl,hlt,p'⟩,λ x H' y=>?_⟩;obtain⟨e,y⟩:=y;subst e;exact hs i x σ _ (y xs q) hlt p
 .have e:i=xs.length:=by lia
  subst e;exact .inl ⟨Nat.le_refl _,hd σ H p⟩
structure FunD(K:Frag)(x qual:Str)(st:Stmt)(f:Addr)(fd:FuncData):Prop where
 ex:∃(oc:Value)(od:Option Addr)(T:Addr)(kV doc pm:Value)(an:Option Addr)(cdv ct:Value)(osl:AOz)(o:Obj)(n:Nat),
  fd=fnOf x qual (Be st) (AE st) (Ai st) (.ref T) kV doc pm an cdv ct/\K.lookup f=some ⟨oc,od,.func fd,osl⟩/\codeIn K cdv qual=true/\K.lookup T=some o/\o.data=.seq #[.none] n
 kp:keepIn K (.ref f)=true
section
variable{P:Program}{w:World}{K:Frag}{mg:MGz}{base:Heap}
theorem FunD.ok{x qual:Str}{st:Stmt}{f:Addr}{fd:FuncData}{N ps:LSz}{k:Nat}{sp:Sp}(F:FunD K x qual st f fd)(S:Ak N ps (Ai st))(len:∀vs H Q E,sp vs H Q E->vs.length=ps.length)
  (hbody:∀(cdv:Value)(A:Around)(outer:List Env)(s:Shared)(H:Hp)(vs:LUz)(Q:VK)(E:XK),Room k (A.deeper (envOfC qual (Ai st) s.heap.objs.size f cdv))->sp vs H Q E ->
   ∃t,PSs (B8 CX0 P w K mg base N qual (Ai st) f cdv A outer s H E).nox (AE st) t/\t { nx:=λ_ H'=>Q .non H',rt:=Q } (BV N vs) H):A5 P w K mg base CX0 (k+1) f fd ps sp:=by
 obtain⟨oc,od,T,kV,doc,pm,an,cdv,ct,osl,o,n,rfl,lk,hcd,lT,dT⟩:=F.ex;refine NQ lk hcd S len λ A outer s H vs Q E hr hsp=>?_;obtain⟨t,h,q⟩:=hbody cdv A outer s H vs Q E hr hsp;exact⟨t,h.nox,q⟩
theorem FunD.binds{x qual:Str}{st:Stmt}{f:Addr}{fd:FuncData}{ps:LSz}{ds:LWz}(F:FunD K x qual st f fd)
  (h:∀(T:Addr)(kV doc pm:Value)(an:Option Addr)(cdv ct:Value)(us:LWz),(us++ds).length=ps.length->∃k:Option (Array Value)->Sem (List (Str×Value)),
   bindArgs (fnOf x qual (Be st) (AE st) (Ai st) (.ref T) kV doc pm an cdv ct) ⟨us,[]⟩=seqItems? (.ref T) >>= k/\k (some #[.none])=pure (ps.zip (us++ds))):Binds K fd ps ds:=by
 obtain⟨oc,od,T,kV,doc,pm,an,cdv,ct,osl,o,n,rfl,lk,hcd,lT,dT⟩:=F.ex;intro s us X hl;obtain⟨k,h1,h2⟩:=h T kV doc pm an cdv ct us hl;exact .of_defaults rfl (X _ _ lT) dT h1 h2
end
def PXS(X:Cx)(st:Stmt)(t:XK->TS):Prop:=∀(E:XK)(pins:PNz)(s:Shared)(σ:St)(H:Hp)(D:CN)(Ex:VPz),Inv X pins σ H s->t E D σ H ->
 (∀x T C d H' s',Inv X pins σ H' s'->ER H' x C d T->E (.ref x) d H'->Ex (.ref x) s')->wpAny (model X.prog X.w) X.A (exec st X.env) (SP X pins D) Ex s
mutual
def DAt(H:Hp):D->V->Prop
 |.at u,v=>v=u/\Cn u=true
 |.tup ds,v=>∃a xs,v=.ref a/\H a=some (.tup xs)/\Ir H ds xs
 |.lst ds,v=>∃a xs,v=.ref a/\H a=some (.lst xs)/\Ir H ds xs
def Ir(H:Hp):Ds->LUz->Prop
 |.nil,xs=>xs=[]
 |.cons d r,xs=>∃x ys,xs=x::ys/\DAt H d x/\Ir H r ys
end
mutual
theorem Q6{H H':Hp}(s:Same H H'):∀(d:D){v:V},DAt H d v->DAt H' d v
 |.at u,v,h=>by rw[DAt]at h |-;exact h
 |.tup ds,v,h=>by
  rw[DAt]at h |-;obtain⟨a,xs,e,q,r⟩:=h;exact⟨a,xs,e,s _ _ q,Fy s ds r⟩
 |.lst ds,v,h=>by
  rw[DAt]at h |-;obtain⟨a,xs,e,q,r⟩:=h;exact⟨a,xs,e,s _ _ q,Fy s ds r⟩
theorem Fy{H H':Hp}(s:Same H H'):∀(ds:Ds){xs:LUz},Ir H ds xs->Ir H' ds xs
 |.nil,xs,h=>by rw[Ir]at h |-;exact h
 |.cons d r,xs,h=>by
  rw[Ir]at h |-;obtain⟨x,ys,e,p,q⟩:=h;exact⟨x,ys,e,Q6 s d p,Fy s r q⟩
end
mutual
theorem Tx{K:Frag}{H:Hp}:∀(d:D){v:V},DAt H d v->DIs K H d v
 |.at u,v,h=>by rw[DAt]at h;rw[DIs];exact h
 |.tup ds,v,h=>by
  rw[DAt]at h;rw[DIs];obtain⟨a,xs,e,q,r⟩:=h;exact⟨a,xs,e,SqT.of q,Kf ds r⟩
 |.lst ds,v,h=>by
  rw[DAt]at h;rw[DIs];obtain⟨a,xs,e,q,r⟩:=h;exact⟨a,xs,e,SqL.of q,Kf ds r⟩
theorem Kf{K:Frag}{H:Hp}:∀(ds:Ds){xs:LUz},Ir H ds xs->DIss K H ds xs
 |.nil,xs,h=>by rw[Ir]at h;rw[DIss];exact h
 |.cons d r,xs,h=>by
  rw[Ir]at h;rw[DIss];obtain⟨x,ys,e,p,q⟩:=h;exact⟨x,ys,e,Tx d p,Kf r q⟩
end
def Ct(c:Addr)(q:Str):HO:=.ext λ h=>∃o vs t,h.get? c=some o/\o.data=.fields vs/\vs[1]?=some (.str q t)
def By(f:Addr)(o:Obj):HO:=.ext λ h=>h.get? f=some o
theorem IW{P:Program}{w:World}{H:Hp}{h:Heap}{c:Addr}{q:Str}(x:ObjOk P w H h c (Ct c q)):h.CodeRec (.ref c) q:=by
 obtain⟨⟨o,vs,t,e,d,v⟩,_⟩:=x;exact⟨c,o,vs,t,rfl,e,d,v⟩
theorem QA{P:Program}{w:World}{H:Hp}{h:Heap}{c:Addr}{q:Str}(x:h.CodeRec (.ref c) q):ObjOk P w H h c (Ct c q):=by
 obtain⟨c',o,vs,t,e,g,d,v⟩:=x;cases e;exact⟨⟨o,vs,t,g,d,v⟩,⟨o,g⟩,λ h1 h2 ⟨o,vs,t,e,d,v⟩ k=>⟨o,vs,t,k o e,d,v⟩⟩
theorem JP{P:Program}{w:World}{H:Hp}{h:Heap}{f:Addr}{o:Obj}(x:h.get? f=some o):ObjOk P w H h f (By f o):=⟨x,⟨o,x⟩,λ h1 h2 e k=>k o e⟩
section
variable{X:Cx}{pins:PNz}{σ:St}{H:Hp}{s:Shared}{h1:Heap}
theorem Inv.grow{T c':Addr}{ps more:Array Value}{o:HO}{t':Nat}(I:Inv X pins σ H s)(hT:H T=some (.tbl ps))(k:∀b u,b≠T->s.heap.get? b=some u->h1.get? b=some u)(eT:h1.get? T=some (tabObj (ps++more)))
  (hc:s.heap.objs.size<=c') (new:ObjOk X.prog X.w (upd (upd H T (.tbl (ps++more))) c' o) h1 c' o):Inv X pins σ (upd (upd H T (.tbl (ps++more))) c' o) { s with heap:=h1,toks:=t' }:=by
 have hn:H c'=none:=I.hok.fresh hc;have nT:T≠c':=Ad hT hn;have ne:∀{b:Addr}{u:HO},H b=some u->(∀ps,u≠.tbl ps)->b≠T:=λ{b u} e nu z=>by rw[z,hT]at e;cases e;exact nu _ rfl
 have to:∀{b:Addr}{u:HO},H b=some u->(∀ps,u≠.tbl ps)->(upd (upd H T (.tbl (ps++more))) c' o) b=some u:=λ{b u} e nu=>by rw[Ae (Ad e hn),Ae (ne e nu)];exact e
 refine I.un ⟨λ b u q n _ _=>k b u (λ z=>by rw[z,hT]at n;cases n) q,λ b u q n _ _=>⟨u.slots,k b u (λ z=>by rw[z,hT]at n;cases n) q⟩,λ b u q n _=>?_,λ b u q _=>?_,
  λ b xs q=>to q (λ_ z=>nomatch z),λ b u xs q=>to q (λ_ z=>nomatch z),λ b ps' q=>?_⟩ λ b u e=>?_
 .rw[Ae (Nat.ne_of_lt (Nat.lt_of_lt_of_le (Heap.lt_size q) hc)),Ae (λ z=>by rw[z,hT]at n;cases n)];exact n
 .by_cases z:b=T
  .exact⟨_,by rw[z];exact eT⟩
  .exact⟨u,k b u z q⟩
 .by_cases z:b=T
  .subst z;rw[hT]at q;cases q;exact⟨more,by rw[Ae nT,Ab]⟩
  .exact⟨#[],by rw[Ae (Ad q hn),Ae z,q];simp⟩
 .by_cases z:b=c'
  .subst z;rw[Ab]at e;cases e;exact new
  .rw[Ae z]at e;by_cases zT:b=T
   .subst zT;rw[Ab]at e;cases e;exact eT
   .rw[Ae zT]at e;refine(I.hok b u e).stay (λ c v hcb r=>k c v ?_ r) (λ c r=>to r (λ_ z=>nomatch z)) λ c xs r=>to r (λ_ z=>nomatch z);rcases hcb with rfl|hcb
    .exact zT
    .exact ne hcb (λ_ z=>nomatch z)
end
structure Si(K:Frag)(mg:MGz):Prop where
 ex:∃bm sl,mg "__builtins__"=some (.ref bm)/\bm≠builtinsNs/\bm≠mainGlobals/\K.lookup bm=some ⟨.type "module",some builtinsNs,.plain,sl⟩
abbrev Bx(mg:MGz)(qual:Str)(params:Arguments)(body:Expr)(scope:Scope)(clos:List (Str×Addr))(c':Addr)(ctv:Value):Obj:=kla_obj "<lambda>" qual params body scope clos ((mg "__name__").getD .none) c' ctv
def TQ(mg:MGz)(T:Addr)(pos:Pos)(params:Arguments)(body:Expr)(scope:Scope)(clos:List (Str×Addr))(qual:Str):TE:=λ σ H Q=>∃ps,H T=some (.tbl ps)/\TriplesOk ps.toList /\
 ((codeAmong pos ps.toList=none/\∀c' f ctv,H c'=none->H f=none->c'≠f->c'≠T->f≠T->Q (.ref f) (upd (upd (upd H T (.tbl (ps++#[rawInt pos.line,rawInt pos.col,.ref c']))) c' (Ct c' qual)) f (By f (Bx mg qual params body scope clos c' ctv)))) \/
  ∃c',codeAmong pos ps.toList=some (.ref c')/\H c'=some (Ct c' qual)/\∀f ctv,H f=none->Q (.ref f) (upd H f (By f (Bx mg qual params body scope clos c' ctv))))
section
variable{X:Cx}
theorem PQ{params:Arguments}{body:Expr}{scope:Scope}{pos:Pos}{c T:Addr}{clos:List (Str×Addr)}{qual:Str}(hcode:X.env.code=.ref c)(hC:∀h,X.K.In h->CodeHd h c T)(hB:Si X.K X.mg)(hdef:defaultsOf params X.env=([],[]))
  (hcl:closureFor scope X.env=pure clos) (hq:X.env.qual++"<lambda>"=qual):PE X (.Lambda params body scope pos) (TQ X.mg T pos params body scope clos qual):=by
 intro pins s σ H Q I h;obtain⟨ps,hT,ht,alt⟩:=h;have hP:s.heap.get? T=some (tabObj ps):=I.hok T _ hT;have hg:s.heap.Ns mainGlobals X.mg:=I.mod.glob.keeps I.bk;obtain⟨bm,sl,b1,b2,b3,b4⟩:=hB.ex;have hbm:X.base.get? bm=some ⟨.type "module",some builtinsNs,.plain,sl⟩:=I.mod.kin bm _ b4;have hbT:bm≠T:=λ z=>by
  have:=(I.bs bm _ hbm).2;rw[z,hT]at this;cases this
 have hgT:mainGlobals≠T:=λ z=>by
  obtain⟨o,es,ep,e,_⟩:=I.mod.glob;have:=(I.bs _ _ e).2;rw[z,hT]at this;cases this
 have hb:s.heap.BuiltinsAt X.mg T:=⟨bm,_,b1,b2,b3,hbT,I.bk bm _ hbm,rfl,rfl,rfl⟩;refine kla_eval hdef ?_;rw[hq];rcases alt with ⟨hnf,q⟩|⟨c',hf,hc',q⟩
 .refine kla_makeFunction hcl I.ok.glob hg hcode (hC _ I.kIn) hP ht hnf hgT hb λ c' ctv h' tk hx hge hlt hrec htb=>?_;have I1:=I.grow (t':=tk) (h1:=h') (c':=c') (o:=Ct c' qual) (more:=#[rawInt pos.line,rawInt pos.col,.ref c']) hT (λ b u nb e=>hx b u nb e) htb hge (QA hrec);have hn:H c'=none:=I.hok.fresh hge;have hnf':H h'.objs.size=none:=I.hok.fresh (Nat.le_trans hge (Nat.le_of_lt hlt));have I2:=I1.laid (a:=h'.objs.size) (o:=By h'.objs.size (Bx X.mg qual params body scope clos c' ctv)) (t':=tk) (h':=h'.push (Bx X.mg qual params body scope clos c' ctv)) (λ b u e=>Heap.get?_push_of_some _ e) (Nat.le_refl _) (JP (Heap.get?_push_size _ rfl));exact⟨.ref h'.objs.size,_,I2,rfl,q c' h'.objs.size ctv hn hnf' (Nat.ne_of_lt hlt) (Ne.symm (Ad hT hn)) (Ne.symm (Ad hT hnf'))⟩
 .refine kla_makeFunctionHit hcl I.ok.glob hg hcode (hC _ I.kIn) hP ht hf hb λ ctv h' tk hk hsz=>?_;have hnf':H h'.objs.size=none:=I.hok.fresh hsz;have I1:=I.kept (t':=tk) hk;have I2:=I1.laid (a:=h'.objs.size) (o:=By h'.objs.size (Bx X.mg qual params body scope clos c' ctv)) (t':=tk) (h':=h'.push (Bx X.mg qual params body scope clos c' ctv)) (λ b u e=>Heap.get?_push_of_some _ e) (Nat.le_refl _) (JP (Heap.get?_push_size _ rfl));exact⟨.ref h'.objs.size,_,I2,rfl,q h'.objs.size ctv hnf'⟩
end
theorem Qf{P:Program}{w:World}{K:Frag}{mg:MGz}{base:Heap}{A:Around}{outer:List Env}{s:Shared}{H:Hp}{f c':Addr}{params:Arguments}{body:Expr}{scope:Scope}{qual:Str}{ctv:Value}{N ps:LSz}{vs:LUz}{us:LWz}{Q:VK}{E:XK}{k:Nat}{te:TE}{CX:CXT}
  (hf:H f=some (By f (Bx mg qual params body scope [] c' ctv))) (hc:H c'=some (Ct c' qual)) (S:Ak N ps scope) (hr:Room (k+1) A) (e0:Env0 P w K mg base A outer s H) (hl:vs.length=ps.length) (r:Vals vs us)
  (hb:BindsTo s (kla_fn "<lambda>" qual params body scope [] ((mg "__name__").getD .none) (.ref c') ctv) ⟨us,[]⟩ (ps.zip us)) (hbody:PE (B8 CX P w K mg base N qual scope f (.ref c') A outer s H E) body te) (hq:te (BV N vs) H Q) :
  codeAny (model P w) A (.call (.ref f) ⟨us,[]⟩) (CR CX outer P w H s Q E) s:=by
 have lim:s.heap.NoLimit:=e0.mod.nolimit.keeps λ b o e=>(e0.bs b o e).1;have hkind:∀y∈ps.zip us,scope.names.lookup y.1=some .local\/(scope.names.lookup y.1=some .cell/\((cellsFrom (s.heap.objs.size+1) scope.names []).lookup y.1).isSome=true):=λ⟨n,v⟩ hy=>by
  rcases S.par n (List.of_mem_zip hy).1 with q|q
  .exact .inl q
  .exact .inr ⟨q,cellsFrom_some _ _ _ (.inl q)⟩
 have ho:s.heap.get? f=some (Bx mg qual params body scope [] c' ctv):=(show ObjOk P w H s.heap f (By f _) from e0.hok f _ hf).1;refine kla_callFunE hr.depth ho rfl S.co S.gen rfl (IW (e0.hok c' _ hc)) (hb _ _ _ _ ?_);refine wpAny_newFunctionEnv_cells S.kind hkind λ env he s1 x=>?_;subst he;refine⟨lim.keeps x.toInCall.keep,kla_codeExpr ?_⟩;have I:Inv (B8 CX P w K mg base N qual scope f (.ref c') A outer s H E) [] (BV N vs) H s1:=IR S hr.hd e0 hl r x;exact wpAny_mono (hbody [] s1 (BV N vs) H Q I hq) (λ u s' ⟨v,H',J,rv,q⟩=>⟨v,H',J.os,J.bare,J.base,J.hok,rv,q⟩) λ e s' h=>h
section
variable{X:Cx}{pins:PNz}{σ:St}{H:Hp}{s:Shared}
theorem Inv.track{D:Addr}{o:HO}(I:Inv X pins σ H s)(hn:H D=none)(h1:X.s₀.heap.objs.size<=D)(hL:D≠X.env.locals)(h2:∀x c,X.env.cells.lookup x=some c->c≠D)(h3:∀p∈X.pn++pins,p.1≠D)
  (new:ObjOk X.prog X.w (upd H D o) s.heap D o):Inv X pins σ (upd H D o) s:=by
 have to:∀{b:Addr}{u:HO},H b=some u->(upd H D o) b=some u:=λ{b u} e=>by rw[Ae (Ad e hn)];exact e
 have J:=I.step (h':=s.heap) (H':=upd H D o) (g':=s.gens) (d':=s.drawn) (t':=s.toks) (ch:=[D]) (λ b hb=>?_) (λ b u _ _ _ e _=>e) (λ b u _ _ _ e _=>⟨u.slots,e⟩) (λ b u hc e n=>?_) (λ b u _ e=>⟨u,e⟩)
  (λ b xs e=>to e) (λ b u xs e=>to e) (λ b ps e=>⟨#[],by rw[to e];simp⟩) (λ m hm=>hm) (λ b u e=>?_) I.bare
 .exact J
 .have e:b=D:=by simpa using hb
  subst e;exact⟨.inr h1,hL,h2,h3⟩
 .rw[Ae (λ z=>hc (by simp[z]))];exact n
 .by_cases hb:b=D
  .subst hb;rw[Ab]at e;cases e;exact new
  .rw[Ae hb]at e;exact(I.hok b u e).stay (λ c v _ r=>r) (λ c r=>to r) λ c xs r=>to r
theorem Inv.apart(I:Inv X pins σ H s){D:Addr}(h:s.heap.objs.size<=D):H D=none/\X.s₀.heap.objs.size<=D/\D≠X.env.locals/\D∉X.fs/\(∀x c,X.env.cells.lookup x=some c->c≠D)/\∀p∈X.pn++pins,p.1≠D:=by
 have no:¬D<s.heap.objs.size:=Nat.not_lt.mpr h;refine⟨I.hok.fresh h,Nat.le_trans I.sz h,λ z=>no (by rw[z];exact I.lt),λ hb=>?_,λ x c e z=>?_,λ p hp z=>?_⟩
 .obtain⟨_,o,ho,_⟩:=I.ok.funs.mem hb;exact no (Nat.lt_of_lt_of_le (Heap.lt_size ho) I.sz)
 .obtain⟨v,o,ho,_⟩:=I.cell x c e;exact no (by rw[<-z];exact Heap.lt_size ho)
 .exact no (by rw[<-z];exact Heap.lt_size (I.pin p hp).1)
theorem Inv.unpin{p:Addr×Obj}(I:Inv X (p::pins) σ H s):Inv X pins σ H s:=I.pins_of λ q hq=>I.pin q (List.mem_append_right _ (List.mem_cons_of_mem _ hq))
end
section
variable{X:Cx}{pins:PNz}{σ:St}{H:Hp}{s:Shared}{A:Around}{D kS:Addr}{vs ks:LWz}{e e1:Nat}
theorem EG{p:Addr×Obj}(I:Inv X pins σ H s)(hp:p∈pins):s.heap.get? p.1=some p.2:=(I.pin p (List.mem_append_right _ hp)).1
theorem Inv.repin{D:Addr}{n:Nat}{items:Array Value}{g:Array Value->Array Value}{pins:PNz}(I:Inv X ((D,seqObj "list" items n)::pins) σ H s)(h1:X.s₀.heap.objs.size<=D)(h2:∀x c,X.env.cells.lookup x=some c->c≠D)(h3:∀p∈X.pn++pins,p.1≠D) :
  ∃c,Inv X ((D,seqObj "list" (g items) c)::pins) σ H { s with heap:=s.heap.update D (Obj.mapSeq g) }:=by
 obtain⟨e,hn,hL,hf,_⟩:=I.pin (D,seqObj "list" items n) (List.mem_append_right _ List.mem_cons_self);obtain⟨c,hc⟩:∃c,(s.heap.update D (Obj.mapSeq g)).get? D=some (seqObj "list" (g items) c):=⟨_,get?_update_seq e g⟩;have J:Inv X pins σ H { s with heap:=s.heap.update D (Obj.mapSeq g),toks:=s.toks }:=I.unpin.turned (it:=D) (t':=s.toks) (λ b o nb q=>by rw[Heap.get?_update_ne _ _ _ _ nb];exact q) hn hL (.inr h1) h2 h3;refine⟨c,J.pins_of λ p hp=>?_⟩;rcases List.mem_cons.mp hp with rfl|hp
 .exact⟨hc,hn,hL,hf,λ v z=>nomatch z⟩
 .exact J.pin p (List.mem_append_right _ hp)
end
theorem JW{X:Cx}{pins:PNz}{σ:St}{H:Hp}{s:Shared}{A:Around}{kts:List (Addr×List Int)}{m:Nat}(I:Inv X pins σ H s)(ht:∀t∈kts,t.2.length=m+1/\H t.1=some (.tup (t.2.map V.int))) :
  ∀t∈kts,t.2.length=m+1/\∃items,IsTup s.heap t.1 items/\IntsAre items.toList t.2:=λ t htm=>by
 obtain⟨h1,h2⟩:=ht t htm;obtain⟨_,zs,rz,tz⟩:=(show ObjOk X.prog X.w H s.heap t.1 (.tup (t.2.map V.int)) from I.hok _ _ h2);exact⟨h1,_,tz,by simpa using GX rz⟩
section
variable{X:Cx}{pins:PNz}{σ:St}{H:Hp}{s:Shared}{A:Around}{D kS f:Addr}{vs:LWz}{e1:Nat}{kts:List (Addr×List Int)}{m:Nat}{key:List Int->Int}{P:PySem.Fin->Shared->Prop}{E:VPz}
abbrev BL(kts:List (Addr×List Int)):LWz:=kts.map λ t=>Value.ref t.1
theorem IL{e:Nat}{st:SortSt}{ks out:LWz}(I:Inv X ((kS,seqObj "list" ks.toArray e)::(D,seqObj "list" #[] e1)::pins) σ H s)(hk1:X.s₀.heap.objs.size<=kS)(hkc:∀x c,X.env.cells.lookup x=some c->c≠kS)(hkp:∀p∈X.pn++((D,seqObj "list" #[] e1)::pins),p.1≠kS)
  (hD1:X.s₀.heap.objs.size<=D) (hDc:∀x c,X.env.cells.lookup x=some c->c≠D) (hDp:∀p∈X.pn++pins,p.1≠D) (hout:(arrOf st).map (·.2)=List.toArray out) (hz:out.length<64) (hkz:ks.length<64) (hf:failedOf st=none)
  (h:∀(c:Nat)(s':Shared),Inv X pins σ H s'->s'.heap.get? D=some (seqObj "list" (List.toArray out) c)->P (.done (.ret .none)) s'):wpAny (model X.prog X.w) A (ksk_tail D false e1 (.ref kS) st) P E s:=by
 have ek:=EG I List.mem_cons_self;obtain⟨ck,I1⟩:=I.repin (g:=λ_=>(#[]:Array Value)) hk1 hkc hkp;have eD:=EG I1 (List.mem_cons_of_mem _ List.mem_cons_self);obtain⟨cD,I2⟩:=(I1.unpin).repin (g:=λ_=>List.toArray out) hD1 hDc hDp;unfold ksk_tail
 try dsimp only
 rw[hout];refine wpAny_bind (listUpdate_at ek rfl ?_ (by rw[List.size_toArray,sizeLine_eq];lia) (Nat.zero_le _));refine wpAny_bind (wpAny_letGo ?_);refine wpAny_bind (seqEpoch_at eD rfl ?_);refine wpAny_bind (listUpdate_at eD rfl ?_ (Nat.zero_le _) (by show out.toArray.size<=_;rw[List.size_toArray,sizeLine_eq];lia));rw[hf];simp only[bne_self_eq_false,Bool.false_eq_true,if_false];exact wpAny_pure (h cD _ I2.unpin (EG I2 List.mem_cons_self))
theorem Qg{e:Nat}(I:Inv X ((kS,seqObj "list" (BL kts).toArray e)::(D,seqObj "list" #[] e1)::pins) σ H s)(hk1:X.s₀.heap.objs.size<=kS)(hkc:∀x c,X.env.cells.lookup x=some c->c≠kS)(hkp:∀p∈X.pn++((D,seqObj "list" #[] e1)::pins),p.1≠kS)
  (hD1:X.s₀.heap.objs.size<=D) (hDc:∀x c,X.env.cells.lookup x=some c->c≠D) (hDp:∀p∈X.pn++pins,p.1≠D) (hl:kts.length=vs.length) (h64:vs.length<64) (ht:∀t∈kts,t.2.length=m+1/\H t.1=some (.tup (t.2.map V.int))) (hkey:∀t∈kts,∀u∈kts,HT.lexLt t.2 u.2=decide (key t.2<key u.2))
  (h:∀(q:Array Nat)(c:Nat)(s':Shared),PermN vs.length q->(q.toList.map λ i=>key ((kts.map (·.2)).getD i [])).Pairwise (·<=·)->Inv X pins σ H s'->s'.heap.get? D=some (seqObj "list" (List.toArray (q.toList.map λ i=>vs.getD i Value.none)) c)->P (.done (.ret .none)) s') :
  wpAny (model X.prog X.w) A (ksk_end D false vs.toArray e1 (.ref kS) (BL kts).toArray) P E s:=by
 have hlk:(BL kts).length=vs.length:=by rw[List.length_map];exact hl
 have tup:=JW (A:=A) I ht;unfold ksk_end
 try dsimp only
 simp only[Bool.false_eq_true,if_false];have hsz:vs.toArray.size=vs.length:=by simp
 by_cases h2:vs.toArray.size<2
 .rw[if_pos h2,if_pos h2];refine wpAny_bind (wpAny_pure ?_);rw[StateT.run_pure];refine wpAny_bind (wpAny_pure ?_);dsimp only;have e2:(arrOf (SortSt.mk' general' ((BL kts).toArray.zip vs.toArray) #[] 7 none)).map (·.2)=List.toArray vs:=by
   show((BL kts).toArray.zip vs.toArray).map (·.2)=vs.toArray;apply Array.ext';rw[Array.toList_map];simp only[Array.toList_zip,List.toList_toArray];exact List.map_snd_zip (by lia)
  refine IL I hk1 hkc hkp hD1 hDc hDp e2 h64 (by lia) rfl λ c s' I' e'=>?_;have e3:List.map (λ i=>vs.getD i Value.none) (List.range vs.length).toArray.toList=vs:=KQ vs;refine h (List.toArray (List.range vs.length)) c s' (by show List.Perm _ _;simp) ?_ I' (by rw[e3];exact e');rw[hsz]at h2;rcases(by lia:vs.length=0\/vs.length=1) with e|e<;>rw[e]<;>simp[List.range_succ]
 .rw[if_neg h2,if_neg h2];have h2':2<=vs.length:=by lia
  obtain⟨fs,f1,f2,f3⟩:=E2 tup;refine wpAny_bind (kat_kind (T:=Value.type "int") (vs:=BL kts) f1 (by lia) (λ v hv=>by obtain⟨n,tk,rfl⟩:=f3 v hv;exact .now) (by decide) ?_);refine wpAny_bind (wpAny_mono (kat_run (ks:=BL kts) (vs:=vs) (Q:=λ st' s'=>s'=s/\∃p:Array Nat,p.size=vs.length/\arrOf st'=p.map (kas_item ((BL kts).toArray.zip vs.toArray))/\failedOf st'=none/\PermN vs.length p/\(p.toList.map λ i=>key ((kts.map (·.2)).getD i [])).Pairwise (·<=·))
   (G:=λ p s'=>s'=s/\PermN vs.length p/\(p.toList.map λ i=>key ((kts.map (·.2)).getD i [])).Pairwise (·<=·)) hlk h2' h64 (λ p st' s' a1 a2 a3 a4=>⟨a4.1,p,a1,a2,a3,a4.2⟩)
   (FC (key:=λ i=>key ((kts.map (·.2)).getD i [])) (λ i j C hi hj hC=>?_) (by lia) λ q hq hp=>⟨rfl,hq,hp⟩)) ?_ λ_ _ e=>e)
  .have hi':i<kts.length:=by lia
   have hj':j<kts.length:=by lia
   obtain⟨l1,x1,⟨o1,g1,c1,n1,d1⟩,z1⟩:=tup _ (List.getElem_mem hi');obtain⟨l2,x2,⟨o2,g2,c2,n2,d2⟩,z2⟩:=tup _ (List.getElem_mem hj');have w1:(BL kts).getD i Value.none=Value.ref kts[i].1:=by simp[List.getD,hi']
   have w2:(BL kts).getD j Value.none=Value.ref kts[j].1:=by simp[List.getD,hj']
   have k1:(kts.map (·.2)).getD i []=kts[i].2:=by simp[List.getD,hi']
   have k2:(kts.map (·.2)).getD j []=kts[j].2:=by simp[List.getD,hj']
   simp only[k1,k2]at hC;rw[<-hkey _ (List.getElem_mem hi') _ (List.getElem_mem hj')]at hC;show wpAny (model X.prog X.w) A (keyLt' _ ((BL kts).getD i Value.none) ((BL kts).getD j Value.none)) C (λ_ _=>False) s;rw[w1,w2];have s1:=z1.length;have s2:=z2.length;exact kat_lt g1 d1 g2 d2 (DM (by rw[decide_eq_false];simp at s1 s2;lia) 0 z1 z2 (by lia) hC)
  .rintro⟨⟨⟩,st'⟩ s' ⟨rfl,p,hp,har,hf,pp,ps⟩;dsimp only;exact IL I hk1 hkc hkp hD1 hDc hDp (kat_snds hlk har) (by rw[List.length_map,Array.length_toList,hp];exact h64) (by lia) hf λ c s' I' e'=>h p c s' pp ps I' e'
theorem OI(I:Inv X ((kS,seqObj "list" #[] 0)::(D,seqObj "list" #[] e1)::pins) σ H s)(hk1:X.s₀.heap.objs.size<=kS)(hkc:∀x c,X.env.cells.lookup x=some c->c≠kS)(hkp:∀p∈X.pn++((D,seqObj "list" #[] e1)::pins),p.1≠kS)
  (hD1:X.s₀.heap.objs.size<=D) (hDc:∀x c,X.env.cells.lookup x=some c->c≠D) (hDp:∀p∈X.pn++pins,p.1≠D) (hl:kts.length=vs.length) (h64:vs.length<64) (ht:∀t∈kts,t.2.length=m+1/\H t.1=some (.tup (t.2.map V.int))) (hkey:∀t∈kts,∀u∈kts,HT.lexLt t.2 u.2=decide (key t.2<key u.2))
  (hcall:∀(i:Nat)(v:Value)(t:Addr×List Int)(pins':PNz)(s':Shared),vs[i]?=some v->kts[i]?=some t->Inv X pins' σ H s'->wpAny (model X.prog X.w) A (call (.ref f) [v]) (λ u s''=>u=.ref t.1/\Inv X pins' σ H s'') (λ_ _=>False) s')
  (h:∀(q:Array Nat)(c:Nat)(s':Shared),PermN vs.length q->(q.toList.map λ i=>key ((kts.map (·.2)).getD i [])).Pairwise (·<=·)->Inv X pins σ H s'->s'.heap.get? D=some (seqObj "list" (List.toArray (q.toList.map λ i=>vs.getD i Value.none)) c)->P (.done (.ret .none)) s') :
  wpAny (model X.prog X.w) A (ksk_rest D (.ref f) false vs.toArray e1 (.ref kS)) P E s:=by
 unfold ksk_rest;refine wpAny_bind (wpAny_rule ?_)
 first
  |rw[List.forIn_toArray]
  | (rw[<-Array.forIn_toList];simp only[List.toList_toArray])
  |rw[<-Array.forIn_toList]
 refine wpAny_bind (ksk_fold (λ i s'=>∃e,Inv X ((kS,seqObj "list" (BL (kts.take i)).toArray e)::(D,seqObj "list" #[] e1)::pins) σ H s') vs 0 s ⟨0,I⟩ (λ j x s' hx hJ=>?_) λ s' hJ=>?_)
 .obtain⟨e,J⟩:=hJ;rw[Nat.zero_add]at J |-;have hj:j<kts.length:=by rw[hl];exact(List.getElem?_eq_some_iff.mp hx).1
  have htj:kts[j]?=some kts[j]:=List.getElem?_eq_getElem hj;refine wpAny_bind (wpAny_attempt (wpAny_mono (hcall j x kts[j] _ s' hx htj J) (λ u s'' hu=>?_) λ_ _ hF=>hF.elim));obtain⟨rfl,J'⟩:=hu;have ek:=EG J' List.mem_cons_self;obtain⟨c,J2⟩:=J'.repin (g:=(·.push (Value.ref kts[j].1))) hk1 hkc hkp;have ea:((BL (kts.take j)).toArray).push (Value.ref kts[j].1)=(BL (kts.take (j+1))).toArray:=by
   unfold BL;rw[List.take_succ,htj,List.map_append];simp
  rw[ea]at J2;have sz:(BL (kts.take j)).length<64:=by rw[List.length_map,List.length_take];lia
  try dsimp only
  refine wpAny_bind (listUpdate_at ek rfl ?_ (by rw[List.size_toArray,sizeLine_eq];lia) (Nat.le_trans (Nat.le_of_eq (Array.size_push ..)) (by rw[List.size_toArray,sizeLine_eq];lia)));exact wpAny_pure ⟨rfl,c,J2⟩
 .obtain⟨e,J⟩:=hJ;rw[Nat.zero_add,<-hl,List.take_length]at J
  try dsimp only
  refine wpAny_bind (listItems_at (EG J List.mem_cons_self) rfl ?_);exact Qg J hk1 hkc hkp hD1 hDc hDp hl h64 ht hkey h
end
theorem HW{X:Cx}{pins:PNz}{σ:St}{H:Hp}{s:Shared}{A:Around}{D f:Addr}{vs:LWz}{n:Nat}{kts:List (Addr×List Int)}{m:Nat}{key:List Int->Int}{P:PySem.Fin->Shared->Prop}{E:VPz}
  (I:Inv X pins σ H s) (ho:s.heap.get? D=some (seqObj "list" vs.toArray n)) (hD:H D=none) (hD1:X.s₀.heap.objs.size<=D) (hDL:D≠X.env.locals) (hDf:D∉X.fs) (hDc:∀x c,X.env.cells.lookup x=some c->c≠D) (hDp:∀p∈X.pn++pins,p.1≠D)
  (hl:kts.length=vs.length) (h64:vs.length<64) (ht:∀t∈kts,t.2.length=m+1/\H t.1=some (.tup (t.2.map V.int))) (hkey:∀t∈kts,∀u∈kts,HT.lexLt t.2 u.2=decide (key t.2<key u.2))
  (hcall:∀(i:Nat)(v:Value)(t:Addr×List Int)(pins':PNz)(s':Shared),vs[i]?=some v->kts[i]?=some t->Inv X pins' σ H s'->wpAny (model X.prog X.w) A (call (.ref f) [v]) (λ u s''=>u=.ref t.1/\Inv X pins' σ H s'') (λ_ _=>False) s')
  (h:∀(q:Array Nat)(c:Nat)(s':Shared),PermN vs.length q->(q.toList.map λ i=>key ((kts.map (·.2)).getD i [])).Pairwise (·<=·)->Inv X pins σ H s'->s'.heap.get? D=some (seqObj "list" (List.toArray (q.toList.map λ i=>vs.getD i Value.none)) c)->P (.done (.ret .none)) s') :
  wpAny (model X.prog X.w) A (Builtin.«list.sort» ⟨[.ref D],[(Str.ofString "key",.ref f)]⟩) P E s:=by
 rw[ksk_t1];unfold ksk_tree;refine wpAny_bind (listItems_at ho rfl ?_);refine wpAny_bind (listUpdate_at ho rfl ?_ (by rw[List.size_toArray,sizeLine_eq];lia) (Nat.zero_le _));obtain⟨e1,ho1⟩:∃e1,(s.heap.update D (Obj.mapSeq λ_=>(#[]:Array Value))).get? D=some (seqObj "list" #[] e1):=⟨_,get?_update_seq ho λ_=>#[]⟩;have I1:Inv X pins σ H { s with heap:=s.heap.update D (Obj.mapSeq λ_=>(#[]:Array Value)),toks:=s.toks }:=I.turned (it:=D) (λ b o nb q=>by rw[Heap.get?_update_ne _ _ _ _ nb];exact q) hD hDL (.inr hD1) hDc hDp;have I1:Inv X ((D,seqObj "list" #[] e1)::pins) σ H { s with heap:=s.heap.update D (Obj.mapSeq λ_=>(#[]:Array Value)) }:=I1.pins_of λ p hp=>by
  rcases List.mem_cons.mp hp with rfl|hp
  .exact⟨ho1,hD,hDL,hDf,λ v z=>nomatch z⟩
  .exact I1.pin p (List.mem_append_right _ hp)
 refine wpAny_bind (seqEpoch_at ho1 rfl ?_);refine wpAny_bind (wpAny_newTuple ?_ (by show vs.length<=_;rw[sizeLine_eq];lia));refine wpAny_bind (wpAny_newList ?_ (Nat.zero_le _));refine wpAny_holding ?_;have I2:=(I1.kept (t':=s.toks) (h':=(s.heap.update D (Obj.mapSeq λ_=>(#[]:Array Value))).push (seqObj "tuple" vs.toArray 0)) λ b u q=>Heap.get?_push_of_some _ q);have ap:=I2.apart (D:=((s.heap.update D (Obj.mapSeq λ_=>(#[]:Array Value))).push (seqObj "tuple" vs.toArray 0)).objs.size) (Nat.le_refl _);have I3:=I2.kept (t':=s.toks) (h':=((s.heap.update D (Obj.mapSeq λ_=>(#[]:Array Value))).push (seqObj "tuple" vs.toArray 0)).push (seqObj "list" #[] 0)) λ b u q=>Heap.get?_push_of_some _ q;have hk0:(((s.heap.update D (Obj.mapSeq λ_=>(#[]:Array Value))).push (seqObj "tuple" vs.toArray 0)).push (seqObj "list" #[] 0)).get? ((s.heap.update D (Obj.mapSeq λ_=>(#[]:Array Value))).push (seqObj "tuple" vs.toArray 0)).objs.size=some (seqObj "list" #[] 0):=Heap.get?_push_size _ rfl;show wpAny (model X.prog X.w) A (ksk_rest D (.ref f) false vs.toArray e1 (.ref ((s.heap.update D (Obj.mapSeq λ_=>(#[]:Array Value))).push (seqObj "tuple" vs.toArray 0)).objs.size)) P E { s with heap:=((s.heap.update D (Obj.mapSeq λ_=>(#[]:Array Value))).push (seqObj "tuple" vs.toArray 0)).push (seqObj "list" #[] 0) };obtain⟨a1,a2,a3,a4,a5,a6⟩:=ap;refine OI (I3.pins_of λ p hp=>?_) a2 a5 a6 hD1 hDc hDp hl h64 ht hkey hcall h;rcases List.mem_cons.mp hp with rfl|hp
 .exact⟨hk0,a1,a3,a4,λ v z=>nomatch z⟩
 .exact I3.pin p (List.mem_append_right _ hp)
theorem Tf{X:Cx}{pins:PNz}{σ:St}{H:Hp}{s:Shared}{A:Around}{f c' a:Addr}{params:Arguments}{body:Expr}{scope:Scope}{qual:Str}{ctv u:Value}{v:V}{N ps:LSz}{k:Nat}{te:TE}(I:Inv X pins σ H s)(e0:Env0 X.prog X.w X.K X.mg X.base A X.stack s H)
  (hf:H f=some (By f (Bx X.mg qual params body scope [] c' ctv))) (hc:H c'=some (Ct c' qual)) (S:Ak N ps scope) (hr:Room (k+1) A) (hl:ps.length=1) (r:RelV v u)
  (hb:BindsTo s (kla_fn "<lambda>" qual params body scope [] ((X.mg "__name__").getD .none) (.ref c') ctv) ⟨[u],[]⟩ (ps.zip [u]))
  (hbody:PE (B8 CX0 X.prog X.w X.K X.mg X.base N qual scope f (.ref c') A X.stack s H E0) body te) (hq:te (BV N [v]) H λ y H'=>y=.ref a/\H'=H) :
  wpAny (model X.prog X.w) A (call (.ref f) [u]) (λ y s'=>y=.ref a/\Inv X pins σ H s') (λ_ _=>False) s:=by
 refine wpAny_call (codeAny_mono (Qf (Q:=λ y H'=>y=.ref a/\H'=H) hf hc S hr e0 (by rw[hl];rfl) (.cons r .nil) hb hbody hq) λ r s' hq'=>?_);cases r with
 |error e=>exact False.elim hq'
 |ok fl =>
  cases fl with
  |ret y =>
   obtain⟨z,H',J,rz,ez,eH⟩:=I.after hq';subst ez eH;cases rz;exact⟨rfl,J⟩
  |next=>exact False.elim hq'
  |brk=>exact False.elim hq'
  |cont=>exact False.elim hq'
def SJ(K:Frag)(mg:MGz)(N:LSz)(qual:Str)(params:Arguments)(body:Expr)(scope:Scope)(te:TE)(ta:TA)(tl:TE):TE:=λ σ H Q=>ta σ H λ xs H1=>tl σ H1 λ fv H2=>∃(f c' p:Addr)(ctv:Value)(β:Type)(ts:List (Addr×β))(kt:Addr×β->Addr×List Int)(m:Nat)(key:List Int->Int),
 fv=.ref f/\H2 f=some (By f (Bx mg qual params body scope [] c' ctv))/\H2 c'=some (Ct c' qual)/\xs=[.ref p]/\SqL K H2 p (ts.map λ t=>V.ref t.1)/\ts.length<64/\(∀t∈ts,(kt t).2.length=m+1/\H2 (kt t).1=some (.tup ((kt t).2.map V.int))) /\
 (∀t∈ts,te (BV N [.ref t.1]) H2 λ y H'=>y=.ref (kt t).1/\H'=H2)/\(∀t∈ts,∀u∈ts,HT.lexLt (kt t).2 (kt u).2=decide (key (kt t).2<key (kt u).2)) /\
 ∀l (ts':List (Addr×β)),H2 l=none->ts'.Perm ts->(ts'.map λ t=>key (kt t).2).Pairwise (·<=·)->Q (.ref l) (upd H2 l (.lst (ts'.map λ t=>V.ref t.1)))
theorem O3{β:Type}{ts:List β}{z:β}{q:Array Nat}(h:PermN ts.length q):ts.Perm (q.toList.map λ i=>ts.getD i z):=by
 have:=(h.map λ i=>ts.getD i z).symm;have e:(List.range ts.length).map (λ i=>ts.getD i z)=ts:=by
  apply List.ext_getElem?;intro i;rw[List.getElem?_map];by_cases h:i<ts.length
  .rw[List.getElem?_range h,Option.map_some,List.getD_eq_getElem?_getD,List.getElem?_eq_getElem h];rfl
  .rw[List.getElem?_eq_none (by simpa using h),List.getElem?_eq_none (by lia)];rfl
 rw[e]at this;exact this
section
variable{X:Cx}
theorem PM{e:Expr}{p kp lp pos:Pos}{params:Arguments}{body:Expr}{scope:Scope}{qual:Str}{N ps:LSz}{te tl:TE}{ta:TA}{k:Nat}(hg:Gl X "sorted")(hm:X.mg "sorted"=none)(ha:PA X [e] ta)(hl:PE X (.Lambda params body scope lp) tl)(S:Ak N ps scope)(hps:ps.length=1)(hr:Room (k+3) X.A)
  (hb:∀(s:Shared)(pm ctv u:Value)(c':Addr),BindsTo s (kla_fn "<lambda>" qual params body scope [] pm (.ref c') ctv) ⟨[u],[]⟩ (ps.zip [u]))
  (hbody:∀(A:Around)(outer:List Env)(s:Shared)(H:Hp)(f c':Addr),PE (B8 CX0 X.prog X.w X.K X.mg X.base N qual scope f (.ref c') A outer s H E0) body te)
  (he:backTo pos (starEach [e] X.env)=(false,eval e X.env)::backTo pos (starEach [] X.env):=by rfl) (hn:(backTo pos (starEach [e] X.env)).any (·.1)=false:=by rfl) :
  PE X (.Call (.Name "sorted" p) [e] [⟨some "key",.Lambda params body scope lp,kp⟩] pos) (SJ X.K X.mg N qual params body scope te ta tl):=by
 intro pins s σ H Q I h;refine wpAny_Call_Name_kw (DL I hg hm (by rfl) ?_);refine PyProof.Rows.callWith_kw (thn (ha pos pins s σ H _ I h) λ us s1 ⟨vs,H1,I1,r1,q1⟩=>?_) he hn;refine PyProof.Rows.kws_cons (thn (hl pins s1 σ H1 _ I1 q1) λ fv s2 ⟨y,H2,I2,ry,q2⟩=>PyProof.Rows.kws_nil ?_);obtain⟨f,c',l,ctv,β,ts,kt,m,key,rfl,hf,hc,rfl,hp,h64,hk,hte,hkey,q⟩:=q2;obtain⟨u,rfl,ru⟩:=F4 r1;cases ru;cases ry;obtain⟨its,rv,pl,hz⟩:=I2.list hp;have hits:its=ts.map λ t=>Value.ref t.1:=by
  have:=Fe (ts:=ts.map (·.1)) (its:=its) (by rw[List.map_map];exact rv);rw[this,List.map_map];rfl
 have hlen:its.length=ts.length:=by rw[hits,List.length_map]
 show wpAny (model X.prog X.w) X.A (call (.builtin "sorted") [.ref l] [(Str.ofString "key",.ref f)]) _ _ s2;refine call_function_entry_kw kind_sorted plain_sorted entry_sorted (ksk_s1 _ _) ?_;unfold Builtin.«sorted»;refine wpAny_bind (m:=checkCount "sorted" 1 1 _) (wpAny_pure ?_);refine wpAny_bind (collect_list pl.isList ?_ (by rw[sizeLine_eq];lia));refine wpAny_bind (wpAny_newList ?_ (by rw[sizeLine_eq];lia));have hsz:((s2.heap.push (seqObj "list" #[] 0)).update s2.heap.objs.size (Obj.mapSeq (·++its.toArray))).objs.size=s2.heap.objs.size+1:=by
  rw[Heap.size_update,size_push']
 have hoL:(((s2.heap.push (seqObj "list" #[] 0)).update s2.heap.objs.size (Obj.mapSeq (·++its.toArray))).push (seqObj "list" its.toArray 0)).get? (s2.heap.objs.size+1)=some (seqObj "list" its.toArray 0):=by
  rw[<-hsz];exact Heap.get?_push_size _ rfl
 have keep:∀b o,s2.heap.get? b=some o->(((s2.heap.push (seqObj "list" #[] 0)).update s2.heap.objs.size (Obj.mapSeq (·++its.toArray))).push (seqObj "list" its.toArray 0)).get? b=some o:=λ b o q=>by
  have hlt:b<s2.heap.objs.size:=Heap.lt_size q;rw[Heap.get?_push_ne _ _ _ (by rw[hsz];exact Nat.ne_of_lt (Nat.lt_succ_of_lt hlt)),Heap.get?_update_ne _ _ _ _ (Nat.ne_of_lt hlt),Heap.get?_push_ne _ _ _ (Nat.ne_of_lt hlt)];exact q
 obtain⟨a1,a2,a3,a4,a5,a6⟩:=I2.apart (D:=s2.heap.objs.size+1) (Nat.le_succ _);have I3:Inv X pins σ H2 { s2 with heap:=((s2.heap.push (seqObj "list" #[] 0)).update s2.heap.objs.size (Obj.mapSeq (·++its.toArray))).push (seqObj "list" its.toArray 0) }:=I2.kept (t':=s2.toks) keep;show wpAny _ _ _ _ _ { s2 with heap:=((s2.heap.push (seqObj "list" #[] 0)).update s2.heap.objs.size (Obj.mapSeq (·++its.toArray))).push (seqObj "list" its.toArray 0) };rw[hsz];refine wpAny_bind (wpAny_holding (wpAny_call_entry_kw slot_list_sort ⟨_,hoL,rfl⟩ entry_list_sort ?body (ksk_l1 _ _)))
 case body =>
  refine HW (kts:=ts.map kt) (m:=m) (key:=key) I3 hoL a1 a2 a3 a4 a5 a6 (by rw[List.length_map,hlen]) (by lia) (λ t ht=>?_) (λ t ht u hu=>?_) (λ i v t pins' s' hv ht J=>?_) λ qq c s' pq sq J eD=>?_
  .obtain⟨t0,ht0,rfl⟩:=List.mem_map.mp ht;exact hk t0 ht0
  .obtain⟨t0,ht0,rfl⟩:=List.mem_map.mp ht;obtain⟨u0,hu0,rfl⟩:=List.mem_map.mp hu;exact hkey t0 ht0 u0 hu0
  .rw[List.getElem?_map]at ht;obtain⟨t0,ht0,rfl⟩:=Option.map_eq_some_iff.mp ht;rw[hits,List.getElem?_map,ht0]at hv;cases hv;have mem:=List.mem_of_getElem? ht0;exact Tf (te:=te) (v:=.ref t0.1) (u:=.ref t0.1) J (J.env0.in1.in1) hf hc S ((hr.in1).in1) hps rfl (hb _ _ _ _ _) (hbody _ _ _ _ _ _) (hte t0 mem)
  .refine⟨_,rfl,wpAny_pure ⟨_,rfl,?_⟩⟩;rw[hlen]at pq;have inR:∀i∈qq.toList,i<ts.length:=λ i hi=>List.mem_range.mp (pq.mem_iff.mp hi);cases ts with
   |nil =>
    have e0:qq.toList=[]:=by
     have:=List.Perm.length_eq pq;exact List.length_eq_zero_iff.mp (by rw[this];rfl)
    rw[e0]at eD;refine⟨.ref (s2.heap.objs.size+1),_,J.track (o:=.lst []) a1 a2 a3 a5 a6 ⟨Nat.zero_le _,[],c,.nil,eD⟩,rfl,q _ [] a1 .nil .nil⟩
   |cons t0 tr =>
    have eV:qq.toList.map (λ i=>its.getD i Value.none)=(qq.toList.map λ i=>(t0::tr).getD i t0).map λ t=>Value.ref t.1:=by
     rw[List.map_map];refine List.map_congr_left λ i hi=>?_;have:=inR i hi;rw[hits];rw[List.getD_eq_getElem?_getD,List.getElem?_map,List.getElem?_eq_getElem this];show Value.ref _=Value.ref ((t0::tr).getD i t0).1;rw[List.getD_eq_getElem?_getD,List.getElem?_eq_getElem this];rfl
    rw[eV]at eD;have pick:=O3 (z:=t0) pq;refine⟨.ref (s2.heap.objs.size+1),_,J.track (o:=.lst ((qq.toList.map λ i=>(t0::tr).getD i t0).map λ t=>V.ref t.1)) a1 a2 a3 a5 a6 ⟨?_,_,c,?_,eD⟩,rfl,q _ _ a1 pick.symm ?_⟩
    .rw[List.length_map,List.length_map,Array.length_toList,pq.size,sizeLine_eq];lia
    .generalize (qq.toList.map λ i=>(t0::tr).getD i t0)=zs;have:=Ew (zs.map (·.1));rw[List.map_map,List.map_map]at this;exact this
    .rw[List.map_map];have e4:qq.toList.map ((λ t:Addr×β=>key (kt t).2)∘λ i=>(t0::tr).getD i t0)=qq.toList.map λ i=>key ((((t0::tr).map kt).map (·.2)).getD i []):=by
      refine List.map_congr_left λ i hi=>?_;have:=inR i hi;show key (kt ((t0::tr).getD i t0)).2=_;rw[List.getD_eq_getElem?_getD,List.getElem?_eq_getElem this,List.getD_eq_getElem?_getD,List.getElem?_map,List.getElem?_map,List.getElem?_eq_getElem this];rfl
     rw[e4];exact sq
end
theorem PK{α β:Type}{f:α->β}{l m:List β}(h:l.Perm m):∀ts:List α,m=ts.map f->∃ts':List α,ts'.Perm ts/\l=ts'.map f:=by
 induction h with
 |nil =>
  intro ts e;rw[List.map_eq_nil_iff.mp e.symm];exact⟨[],.nil,rfl⟩
 |cons x p ih =>
  intro ts e;obtain⟨t,r,rfl,e1,e2⟩:=List.map_eq_cons_iff.mp e.symm;obtain⟨r',p',e'⟩:=ih r e2.symm;exact⟨t::r',p'.cons t,by rw[e',List.map_cons,e1]⟩
 |swap x y l =>
  intro ts e;obtain⟨t,r,rfl,e1,e2⟩:=List.map_eq_cons_iff.mp e.symm;obtain⟨u,q,rfl,e3,e4⟩:=List.map_eq_cons_iff.mp e2;exact⟨u::t::q,List.Perm.swap _ _ _,by rw[List.map_cons,List.map_cons,e1,e3,e4]⟩
 |trans p q ih1 ih2 =>
  intro ts e;obtain⟨t2,p2,e2⟩:=ih2 ts e;obtain⟨t1,p1,e1⟩:=ih1 t2 e2;exact⟨t1,p1.trans p2,e1⟩
def QO(Ts:List Addr)(H:Hp):Prop:=(∀b,H b=none\/(∃o xs,H b=some (.frz o (.lst xs)))\/(b∈Ts/\H b=some (.tbl #[])))/\∀T∈Ts,H T=some (.tbl #[])
theorem Ki{h:Heap}{c T:Addr}(x:CodeHd h c T):isCodeTable h T:=by
 obtain⟨o,vs,file,tf,flags,tg,inF,text,tt,e1,e2,e3,e4,_⟩:=x;exact⟨c,o,vs,e1,e2,e3,e4⟩
theorem law_callT{P:Program}{w:World}{K:Frag}{mg mb:MGz}{CX:CXT}{k:Nat}{fa a:Addr}{fd:FuncData}{x:Str}{sp:Sp}{s₁:Shared}{vs:LWz}{ns:List Int}{Ts:List Addr}
  (KX:K.In s₁.heap) (hns:s₁.heap.Ns mainGlobals mg) (hb:s₁.heap.Ns builtinsNs mb) (hbb:∀x:Str,x≠"__name__"->mb x=bootBuiltins x) (hlim:s₁.heap.NoLimit) (hg:s₁.gens=#[])
  (ha:s₁.heap.get? a=some { cls:=.type "list",data:=.seq vs.toArray }) (hi:IntsAre vs ns) (hl:ns.length<=sizeLine) (hr:Room k callerA)
  (hT:∀T∈Ts,s₁.heap.get? T=some (tabObj #[])/\K.lookup T=none/\∃c,CodeHd s₁.heap c T)
  (F:∀base:Heap,K.In base->base.Ns mainGlobals mg->A5 P w K mg base CX k fa fd [x] sp) (hbind:∀(s:Shared)(u:Value),BindsTo s fd ⟨[u],[]⟩ [(x,u)])
  (hsp:∀H:Hp,QO Ts H->SqL K H a (ns.map V.int)->sp [.ref a] H (λ v _=>v=.bl true) λ_ _ _=>False)
  (hCX:∀H e s',CX [] H s₁ (λ_ _ _=>False) e s'->False) :
  codeAny (model P w) callerA (.call (.ref fa) ⟨[.ref a],[]⟩) (λ r s'=>r=.ok (.ret (.bool true))/\OldK s₁.heap s'.heap/\s'.os=s₁.os/\AllBare s'.gens) s₁:=by
 have rv:=Is hi;have lenV:=hi.length;have core:∀H:Hp,QO Ts H->SqL K H a (ns.map V.int)->HOk P w H s₁.heap->(∀b,H b≠none->b=a\/b∈Ts)->(H a≠none->K.lookup a=none) ->
   codeAny (model P w) callerA (.call (.ref fa) ⟨[.ref a],[]⟩) (λ r s'=>r=.ok (.ret (.bool true))/\OldK s₁.heap s'.heap/\s'.os=s₁.os/\AllBare s'.gens) s₁:=by
  intro H hO hS hok hA hK;have base_of:∀{b:Addr}{o:Obj},s₁.heap.get? b=some o->H b=none->(JY s₁.heap H).get? b=some o:=λ e n=>Qo e n;have noA:∀{b:Addr}{o:Obj}{es:Array DictEntry}{ep:Nat},s₁.heap.get? b=some o->o.data=.dict es ep->H b=none:=λ{b o es ep} e d=>by
   cases q:H b with
   |none=>rfl
   |some u =>
    rcases hA b (by rw[q];simp) with e'|e'
    .subst e';rw[ha]at e;cases e;have d':Data.seq vs.toArray _=Data.dict es ep:=d;cases d'
    .rw[(hT b e').1]at e;cases e;cases d
  have nsK:∀{b:Addr}{m:MGz},s₁.heap.Ns b m->(JY s₁.heap H).Ns b m:=λ{b m} ⟨o,es,ep,e,d,r⟩=>⟨o,es,ep,base_of e (noA e d),d,r⟩;have hKb:K.In (JY s₁.heap H):=λ b o e=>base_of (KX b o e) (by
   cases q:H b with
   |none=>rfl
   |some u =>
    rcases hA b (by rw[q];simp) with e'|e'
    .subst e';rw[hK (by rw[q];simp)]at e;cases e
    .rw[(hT b e').2.1]at e;cases e)
  have hM:Mod K mg (JY s₁.heap H):=⟨hKb,nsK hns,⟨mb,nsK hb,hbb⟩,let ⟨mc,h1,h2⟩:=hlim;⟨mc,nsK h1,h2⟩⟩;have e0:Env0 P w K mg (JY s₁.heap H) callerA [] s₁ H:=⟨rfl,hM,λ b o e=>RB e,Nat.le_of_eq (OL _ _),trivial,λ b hb=>absurd (show b∈([]:List Addr) from hb) (by simp),hok,.of_eq hg⟩;refine codeAny_mono ((F _ hKb (nsK hns)).run callerA [] s₁ H ⟨[.ref a],[]⟩ [.ref a] [.ref a] _ _ hr e0 (hbind s₁ (.ref a)) (.cons rfl .nil) (hsp H hO hS)) λ r s' h=>?_;cases r with
  |error e=>exact(hCX H e s' h).elim
  |ok fl =>
   cases fl with
   |next=>exact False.elim h
   |brk=>exact False.elim h
   |cont=>exact False.elim h
   |ret u =>
    obtain⟨v,H',os,bare,un,hok',r',q⟩:=h;have q':v=.bl true:=q;subst q';obtain rfl:u=Value.bool true:=r';have old:∀b o,s₁.heap.get? b=some o->asItWas s₁.heap s'.heap b o/\∃o',s'.heap.get? b=some o':=λ b o e=>by
     cases q:H b with
     |none =>
      have:=un.keep b o e q (by intro z;exact absurd (show b∈([]:List Addr) from z) (by simp)) (by simp);exact⟨.inl this,_,this⟩
     |some u =>
      rcases hO.1 b with z|⟨ob,xs,z⟩|⟨hb',z⟩
      .rw[q]at z;cases z
      .have z2:=un.frzs b ob _ z;obtain⟨e1,_⟩:=hok b _ z;obtain⟨e2,_⟩:=hok' b _ z2;rw[e]at e1;cases e1;exact⟨.inl e2,_,e2⟩
      .obtain⟨more,z2⟩:=un.tbls b #[] z;have e2:s'.heap.get? b=some (tabObj (#[]++more)):=hok' b _ z2;obtain⟨e1,_,c,hc⟩:=hT b hb';rw[e]at e1;cases e1;exact⟨.inr (.inl ⟨Ki hc,rfl,#[],more,rfl,e2⟩),_,e2⟩
    exact⟨rfl,⟨λ b o e=>(old b o e).1,λ b o e=>(old b o e).2⟩,os,bare⟩
 have aT:a∉Ts:=λ z=>by
  have e:=(hT a z).1;rw[ha]at e;cases e
 have tblT:∀T∈Ts,∀H:Hp,ObjOk P w H s₁.heap T (.tbl #[]):=λ T z H=>(hT T z).1;cases hk:K.lookup a with
 |some o =>
  have e:=KX a o hk;rw[ha]at e;cases e;refine core (λ b=>if b∈Ts then some (.tbl #[]) else none) ⟨λ b=>?_,λ T z=>if_pos z⟩ (.inr ⟨_,vs.toArray,_,hk,rfl,rfl,rfl,by rw[List.size_toArray,lenV];exact hl,by simpa using rv⟩) (λ b u z=>?_) (λ b z=>?_) λ z=>absurd (if_neg aT) z
  .by_cases hb:b∈Ts
   .exact .inr (.inr ⟨hb,if_pos hb⟩)
   .exact .inl (if_neg hb)
  .by_cases hb:b∈Ts
   .have z':=(if_pos hb).symm.trans z;cases z';exact tblT b hb _
   .have z':=(if_neg hb).symm.trans z;cases z'
  .by_cases hb:b∈Ts
   .exact .inr hb
   .exact absurd (if_neg hb) z
 |none =>
  refine core (λ b=>if b=a then some (.frz { cls:=.type "list",data:=.seq vs.toArray } (.lst (ns.map V.int))) else if b∈Ts then some (.tbl #[]) else none) ⟨λ b=>?_,λ T z=>?_⟩ (.inl (.inr ⟨{ cls:=.type "list",data:=.seq vs.toArray },if_pos rfl⟩)) (λ b u z=>?_) (λ b z=>?_) λ_=>hk
  .by_cases hb:b=a
   .exact .inr (.inl ⟨_,_,if_pos hb⟩)
   .by_cases hb2:b∈Ts
    .exact .inr (.inr ⟨hb2,(if_neg hb).trans (if_pos hb2)⟩)
    .exact .inl ((if_neg hb).trans (if_neg hb2))
  .have ne:¬T=a:=λ e=>aT (by rw[<-e];exact z);exact(if_neg ne).trans (if_pos z)
  .by_cases hb:b=a
   .have z':=(if_pos hb).symm.trans z;cases z';subst hb;exact⟨ha,by rw[List.length_map];exact hl,vs,_,rv,ha⟩
   .by_cases hb2:b∈Ts
    .have z':=((if_neg hb).trans (if_pos hb2)).symm.trans z;cases z';exact tblT b hb2 _
    .have z':=((if_neg hb).trans (if_neg hb2)).symm.trans z;cases z'
  .by_cases hb:b=a
   .exact .inl hb
   .by_cases hb2:b∈Ts
    .exact .inr hb2
    .exact absurd ((if_neg hb).trans (if_neg hb2)) z
theorem walk_ofT{l:OpenLaw}{n k:Nat}{q:Program}{loose:LSz}{XP:(MGz)->Heap->Prop}{YP:World->Heap->Prop}{d:DefRec}{K:Params->Frag}{CX:World->CXT}{sp:World->Sp}{x:Str}{Ts:List Addr}
  (hn:l.most=some n) (hn2:n<=sizeLine) (hdf:d.params.defaults=[]) (hr:Room k callerA)
  (hY:∀(w:World)(h:Heap),YP w h->(K w.params).In h) (hT:∀(w:World)(h:Heap),YP w h->∀T∈Ts,h.get? T=some (tabObj #[])/\(K w.params).lookup T=none/\∃c,CodeHd h c T)
  (F:∀(w:World)(mg:MGz)(fa:Addr)(h:Heap),(K w.params).In h->h.Ns mainGlobals mg->mg d.name=some (.ref fa) ->
   ∃fd:FuncData,(∀(s:Shared)(u:Value),BindsTo s fd ⟨[u],[]⟩ [(x,u)]) /\
    ∀base:Heap,(K w.params).In base->base.Ns mainGlobals mg->A5 l.prog w (K w.params) mg base (CX w) k fa fd [x] (sp w))
  (hsp:∀(w:World)(H:Hp)(a:Addr)(ns:List Int),ns.length<=n->QO Ts H->SqL (K w.params) H a (ns.map V.int)->sp w [.ref a] H (λ v _=>v=.bl true) λ_ _ _=>False)
  (hCX:∀(w:World)(H:Hp)(s:Shared)(e:Value)(s':Shared),CX w [] H s (λ_ _ _=>False) e s'->False) :
  WalkO q loose XP YP l.row.toRowW d [] (λ f vs=>PySem.call f vs):=by
 refine Att.attach_call hn hdf λ w s₀ s₁ mg mb fa o pm cd doc a vs ns G Y ho hd hcd hmg hobj hints hlen hg=>?_;have KX:=hY w _ Y;obtain⟨fd,hb,hF⟩:=F w mg fa _ KX G.T.g hmg;exact law_callT KX G.T.g G.T.b G.T.builtins G.T.nolimit hg hobj hints (Nat.le_trans hlen hn2) hr (hT w _ Y) hF hb (λ H hO hS=>hsp w H a ns hlen hO hS) λ H e s'=>hCX w H s₁ e s'
structure FunC(K:Frag)(x qual:Str)(st:Stmt)(f:Addr)(fd:FuncData)(c:Addr):Prop where
 ex:∃(oc:Value)(od:Option Addr)(kV doc pm:Value)(an:Option Addr)(ct:Value)(osl:AOz),
  fd=fnOf x qual (Be st) (AE st) (Ai st) .none kV doc pm an (.ref c) ct/\K.lookup f=some ⟨oc,od,.func fd,osl⟩/\codeIn K (.ref c) qual=true
 kp:keepIn K (.ref f)=true
section
variable{P:Program}{w:World}{K:Frag}{mg:MGz}{base:Heap}{x qual:Str}{st:Stmt}{f c:Addr}{fd:FuncData}{N ps:LSz}{k:Nat}{sp:Sp}
theorem FunC.fn(F:FunC K x qual st f fd c):Fun K x qual st f fd:=by
 obtain⟨oc,od,kV,doc,pm,an,ct,osl,e,lk,hcd⟩:=F.ex;exact⟨⟨oc,od,kV,doc,pm,an,.ref c,ct,osl,e,lk,hcd⟩,F.kp⟩
theorem NM{oc:Value}{od an:Option Addr}{osl:AOz}{kV doc pm cdv ct:Value}(l:K.lookup f=some ⟨oc,od,.func (fnOf x qual (Be st) (AE st) (Ai st) .none kV doc pm an cdv ct),osl⟩)
  (cc:codeIn K cdv qual=true) (kp:keepIn K (.ref f)=true) (e:cdv=.ref c):FunC K x qual st f (fnOf x qual (Be st) (AE st) (Ai st) .none kV doc pm an cdv ct) c:=by
 subst e;exact⟨⟨oc,od,kV,doc,pm,an,ct,osl,rfl,l,cc⟩,kp⟩
end
def F0(K:Frag)(c T:Addr):Bool:=match K.lookup c with
 |some o=>match o.data with
  |.fields vs=>(o.cls==.type "code")&&(vs[11]?==some (.ref T))&&(match vs.getD 18 .none with|.str _ _=>true|_=>false)&&(match vs.getD 7 .none with|.int _ _=>true|_=>false)&&(match vs.getD 9 .none with|.bool _=>true|_=>false)&&(match vs.getD 10 .none with|.int _ _=>true|_=>false)&&(c != T)
  |_=>false
 |none=>false
theorem codeTB_of{K:Frag}{c T:Addr}(h:F0 K c T=true):∀hp:Heap,K.In hp->CodeHd hp c T:=λ hp KX=>by
 unfold F0 at h;cases e:K.lookup c with
 |none=>rw[e]at h;cases h
 |some o =>
  rw[e]at h;cases d:o.data with
  |fields vs =>
   simp only[d,Bool.and_eq_true]at h;obtain⟨⟨⟨⟨⟨⟨h1,h2⟩,h3⟩,h4⟩,h5⟩,h6⟩,h7⟩:=h;have h2:vs[11]?=some (.ref T):=eq_of_beq h2;have e18:∃a b,vs.getD 18 .none=.str a b:=by
    generalize vs.getD 18 .none=v at h3;cases v with
    |str a b=>exact⟨a,b,rfl⟩
    |_=>cases h3
   have e7:∃a b,vs.getD 7 .none=.int a b:=by
    generalize vs.getD 7 .none=v at h4;cases v with
    |int a b=>exact⟨a,b,rfl⟩
    |_=>cases h4
   have e9:∃a,vs.getD 9 .none=.bool a:=by
    generalize vs.getD 9 .none=v at h5;cases v with
    |bool a=>exact⟨a,rfl⟩
    |_=>cases h5
   have e10:∃a b,vs.getD 10 .none=.int a b:=by
    generalize vs.getD 10 .none=v at h6;cases v with
    |int a b=>exact⟨a,b,rfl⟩
    |_=>cases h6
   obtain⟨f1,f2,e18⟩:=e18;obtain⟨g1,g2,e7⟩:=e7;obtain⟨i1,e9⟩:=e9;obtain⟨t1,t2,e10⟩:=e10;refine⟨o,vs,f1,f2,g1,g2,i1,t1,t2,KX c o e,eq_of_beq h1,d,h2,?_,e18,e7,e9,e10,?_⟩
   .rw[Array.getD_eq_getD_getElem?,h2];rfl
   .intro z;rw[z]at h7;simp at h7
  |_=>simp only[d]at h;cases h
def SameN(H H':Hp):Prop:=∀a o,H a=some o->(∀ps,o≠.tbl ps)->H' a=some o
theorem SameN.trans{H H1 H2:Hp}(a:SameN H H1)(b:SameN H1 H2):SameN H H2:=λ x o e n=>b x o (a x o e n) n
theorem Same.n{H H':Hp}(s:Same H H'):SameN H H':=λ a o e _=>s a o e
theorem SameN.tup{H H':Hp}(s:SameN H H'){a:Addr}{xs:LUz}(e:H a=some (.tup xs)):H' a=some (.tup xs):=s a _ e λ_ z=>nomatch z
theorem SameN.lst{H H':Hp}(s:SameN H H'){a:Addr}{xs:LUz}(e:H a=some (.lst xs)):H' a=some (.lst xs):=s a _ e λ_ z=>nomatch z
def TabOk(pos:Pos)(qual:Str)(T:Addr)(H:Hp):Prop:=∃ps,H T=some (.tbl ps)/\TriplesOk ps.toList/\(codeAmong pos ps.toList=none\/∃c',codeAmong pos ps.toList=some (.ref c')/\H c'=some (Ct c' qual))
theorem TabOk.same{pos:Pos}{qual:Str}{T:Addr}{H H':Hp}(h:TabOk pos qual T H)(s:Same H H'):TabOk pos qual T H':=by
 obtain⟨ps,e,t,c⟩:=h;refine⟨ps,s _ _ e,t,?_⟩;rcases c with c|⟨c',c1,c2⟩
 .exact .inl c
 .exact .inr ⟨c',c1,s _ _ c2⟩
theorem TabOk.new{pos:Pos}{qual:Str}{T:Addr}{H:Hp}(h:H T=some (.tbl #[])):TabOk pos qual T H:=⟨#[],h,trivial,.inl rfl⟩
theorem E9{a b c:Int}{t u:Tok}{v:Value}:∀(l:LWz),TriplesOk l->TriplesOk (l++[.int a t,.int b u,v])
 |[],_=>trivial
 |.int _ _::.int _ _::_::rest,h=>E9 (c:=c) rest h
end L2
namespace HT
open PySem.W
open PySem PySem.Spec PyProof.Rows
end HT
namespace L2
open PySem.W
open PySem PySem.Spec PyProof.Rows
section
variable{P:Program}{w:World}{K:Frag}{mg:MGz}{base:Heap}{x qual:Str}{st:Stmt}{f c:Addr}{fd:FuncData}{N ps:LSz}{k:Nat}{sp:Sp}
theorem FunC.ok(F:FunC K x qual st f fd c)(S:Ak N ps (Ai st))(len:∀vs H Q E,sp vs H Q E->vs.length=ps.length)
  (hbody:∀(A:Around)(outer:List Env)(s:Shared)(H:Hp)(vs:LUz)(Q:VK)(E:XK),Room k (A.deeper (envOfC qual (Ai st) s.heap.objs.size f (.ref c)))->sp vs H Q E ->
   ∃t,PSs (B8 CX0 P w K mg base N qual (Ai st) f (.ref c) A outer s H E).nox (AE st) t/\t { nx:=λ_ H'=>Q .non H',rt:=Q } (BV N vs) H):A5 P w K mg base CX0 (k+1) f fd ps sp:=by
 obtain⟨oc,od,kV,doc,pm,an,ct,osl,rfl,lk,hcd⟩:=F.ex;refine NQ lk hcd S len λ A outer s H vs Q E hr hsp=>?_;obtain⟨t,h,q⟩:=hbody A outer s H vs Q E hr hsp;exact⟨t,h.nox,q⟩
end
def tkd(H:Hp)(L:PNz):Hp:=λ a=>match L.lookup a with|some o=>some (By a o)|none=>H a
def utk(H:Hp)(L:PNz):Hp:=λ a=>match L.lookup a with|some _=>none|none=>H a
section
variable{P:Program}{w:World}{H H':Hp}{h h':Heap}{a:Addr}{o:Obj}{L:PNz}{fs:List Addr}
theorem Gp(e:L.lookup a=some o):tkd H L a=some (By a o):=by unfold tkd;rw[e]
theorem AR(e:L.lookup a=none):tkd H L a=H a:=by unfold tkd;rw[e]
theorem ET(e:L.lookup a=some o):utk H L a=none:=by unfold utk;rw[e]
theorem Bi(e:L.lookup a=none):utk H L a=H a:=by unfold utk;rw[e]
theorem Ca(e:H a=none):utk H L a=none:=by
 cases q:L.lookup a with
 |none=>rw[Bi q];exact e
 |some o=>exact ET q
theorem Ey{u:HO}(hL:∀a o,L.lookup a=some o->H a=none)(e:H a=some u):L.lookup a=none:=by
 cases q:L.lookup a with
 |none=>rfl
 |some o=>rw[hL a o q]at e;cases e
theorem DX{u:HO}(hL:∀a o,L.lookup a=some o->H a=some (By a o))(e:H a=some u)(n:∀o,u≠By a o):L.lookup a=none:=by
 cases q:L.lookup a with
 |none=>rfl
 |some o=>rw[hL a o q]at e;cases e;exact absurd rfl (n o)
theorem HOk.tkd(hok:HOk P w H h)(hL:∀a o,L.lookup a=some o->H a=none)(hc:∀a o,L.lookup a=some o->h.get? a=some o):HOk P w (tkd H L) h:=λ a u e=>by
 cases q:L.lookup a with
 |some o =>
  rw[Gp q]at e;cases e;exact JP (hc a o q)
 |none =>
  rw[AR q]at e;exact(hok a u e).stay (λ_ _ _ z=>z) (λ b z=>by rw[AR (Ey hL z)];exact z) (λ b xs z=>by rw[AR (Ey hL z)];exact z)
theorem HOk.utk(hok:HOk P w H h)(hL:∀a o,L.lookup a=some o->H a=some (By a o)):HOk P w (utk H L) h:=λ a u e=>by
 cases q:L.lookup a with
 |some o=>rw[ET q]at e;cases e
 |none =>
  rw[Bi q]at e;exact(hok a u e).stay (λ_ _ _ z=>z) (λ b z=>by rw[Bi (DX hL z (λ_ z=>nomatch z))];exact z) (λ b xs z=>by rw[Bi (DX hL z (λ_ z=>nomatch z))];exact z)
theorem Un.utk(u:Un fs [] (L2.tkd H L) H' h h')(hok:HOk P w H' h')(hL:∀a o,L.lookup a=some o->H a=none)(hc:∀a o,L.lookup a=some o->h.get? a=some o)(hf:∀a o,L.lookup a=some o->a∉fs)(hk:∀a o,L.lookup a=some o->H' a=some (By a o)):Un fs [] H (L2.utk H' L) h h' where
 keep b o q n nf nx:=by
  cases e:L.lookup b with
  |some o' =>
   rw[hc b o' e]at q;cases q;exact(hok b _ (hk b o e)).1
  |none=>exact u.keep b o q (by rw[AR e];exact n) nf nx
 slot b o q n hb nx:=by
  cases e:L.lookup b with
  |some o'=>exact absurd hb (hf b o' e)
  |none=>exact u.slot b o q (by rw[AR e];exact n) hb nx
 free b o q n nx:=by
  cases e:L.lookup b with
  |some o'=>exact ET e
  |none=>rw[Bi e];exact u.free b o q (by rw[AR e];exact n) nx
 there b o q nx:=u.there b o q nx
 tups b xs e:=by
  have n:=Ey hL e;rw[Bi n];exact u.tups b xs (by rw[AR n];exact e)
 frzs b o v e:=by
  have n:=Ey hL e;rw[Bi n];exact u.frzs b o v (by rw[AR n];exact e)
 tbls b ps e:=by
  have n:=Ey hL e;rw[Bi n];exact u.tbls b ps (by rw[AR n];exact e)
theorem Un.tkd(u:Un fs [] (L2.utk H L) H' h h')(hL:∀a o,L.lookup a=some o->H a=some (By a o)):Un fs [] H (L2.tkd H' L) h h':=by
 have out:∀{b},H b=none->L.lookup b=none:=λ{b} n=>by
  cases e:L.lookup b with
  |none=>rfl
  |some o=>rw[hL b o e]at n;cases n
 exact {
  keep:=λ b o q n nf nx=>u.keep b o q (Ca n) nf nx
  slot:=λ b o q n hb nx=>u.slot b o q (Ca n) hb nx
  free:=λ b o q n nx=>by rw[AR (out n)];exact u.free b o q (Ca n) nx
  there:=λ b o q nx=>u.there b o q nx
  tups:=λ b xs e=>by
   have n:=DX hL e (λ_ z=>nomatch z);rw[AR n];exact u.tups b xs (by rw[Bi n];exact e)
  frzs:=λ b o v e=>by
   have n:=DX hL e (λ_ z=>nomatch z);rw[AR n];exact u.frzs b o v (by rw[Bi n];exact e)
  tbls:=λ b ps e=>by
   have n:=DX hL e (λ_ z=>nomatch z);rw[AR n];exact u.tbls b ps (by rw[Bi n];exact e) }
end
def FvOk(P:Program)(w:World)(K:Frag)(mg:MGz)(base:Heap)(k:Nat)(H:Hp)(f:Addr)(sp:Sp):Prop :=
 (∃o fd,H f=some (By f o)/\o.data=.func fd)/\∀(A:Around)(outer:List Env)(s:Shared)(H':Hp)(us:LWz)(vs:LUz)(Q:VK)(E:XK),Same H H'->Room k A->Env0 P w K mg base A outer s H'->Vals vs us->sp vs H' Q E ->
  codeAny (model P w) A (.call (.ref f) ⟨us,[]⟩) (CR CX0 outer P w H' s Q E) s
theorem FvOk.same{P:Program}{w:World}{K:Frag}{mg:MGz}{base:Heap}{k:Nat}{H H':Hp}{f:Addr}{sp:Sp}(h:FvOk P w K mg base k H f sp)(s:Same H H'):FvOk P w K mg base k H' f sp :=
 ⟨let ⟨o,fd,e,d⟩:=h.1;⟨o,fd,s _ _ e,d⟩,λ A outer sh H2 us vs Q E s2=>h.2 A outer sh H2 us vs Q E (s.trans s2)⟩
def tFv(P:Program)(w:World)(K:Frag)(mg:MGz)(base:Heap)(k:Nat)(tv:TE)(t:TA):TE:=λ σ H Q=>tv σ H λ v H1=>∃f sp,v=.ref f/\FvOk P w K mg base k H1 f sp/\t σ H1 λ vs H2=>Same H1 H2/\sp vs H2 Q E0
section
variable{X:Cx}{k j:Nat}{y:Str}{p pos:Pos}{e:Expr}{es:List Expr}{tv:TE}{t:TA}
theorem Uk(hr:Room j X.A)(hv:PE X (.Name y p) tv)(ha:PA X (e::es) t)(hj:k<=j:=by decide)
  (he:starEach (e::es) X.env=(false,eval e X.env)::starEach es X.env:=by rfl) (hpl:(backTo pos (starEach es X.env)).any (·.1)=false:=by rfl):PE X (.Call (.Name y p) (e::es) [] pos) (tFv X.prog X.w X.K X.mg X.base k tv t):=by
 intro pins s σ H Q I h;refine wpAny_Call_Name_kw (thn (hv pins s σ H _ I h) λ u s1 hz_=>?_);obtain⟨v,H1,I1,r1,f,sp,e1,F,q1⟩:=hz_;subst e1;cases r1;have fnat:∀{H2:Hp}{s2:Shared},Same H1 H2->Inv X pins σ H2 s2->FnAt f s2.heap:=λ{H2 s2} sm I2=>by
  obtain⟨o,fd,e,d⟩:=F.1;have:=(show ObjOk X.prog X.w H2 s2.heap f (By f o) from I2.hok f _ (sm _ _ e)).1;obtain⟨oc,od,dt,sl⟩:=o;cases d;exact⟨_,_,_,_,this⟩
 refine callWith_F (fnat (Same.refl _) I1) (thn (ha pos pins s1 σ H1 _ I1 q1) λ us s2 ⟨vs,H2,I2,r,sm,q⟩=>⟨fnat sm I2,?_⟩) he hpl;refine wpAny_call (codeAny_mono (F.2 X.A X.stack s2 H2 us vs Q E0 sm (hr.mono hj) I2.env0 r q) λ r s' hq=>?_);cases r with
 |error e=>exact G8 pins σ H2 s2 e s' I2 hq
 |ok fl =>
  cases fl with
  |ret u=>exact I2.after hq
  |next=>exact False.elim hq
  |brk=>exact False.elim hq
  |cont=>exact False.elim hq
end
theorem IH{g:Addr->Obj}:∀{l:List Addr}{a:Addr},(l.map λ c=>(c,g c)).lookup a=if a∈l then some (g a) else none
 |[],a=>by simp
 |c::r,a=>by
  rw[List.map_cons,List.lookup_cons];by_cases e:a=c
  .subst e;simp
  .have:(a==c)=false:=by simpa using e
   rw[this];show List.lookup a (r.map λ c=>(c,g c))=_;rw[IH];simp[e]
structure Oq(N:LSz)(clos:List (Str×Addr))(σ:St)(H:Hp)(L:PNz):Prop where
 new:∀a o,L.lookup a=some o->H a=none
 has:∀p∈clos,∃o v,L.lookup p.2=some o/\o.data=.cell v
 val:∀p∈clos,∀(i:Nat)(v:V),N[i]?=some p.1->σ[i]?=some (some v)->∃o u,L.lookup p.2=some o/\o.data=.cell (some u)/\RelV v u
def SM(N:LSz)(clos:List (Str×Addr))(sp:Sp)(t:TA):TE:=λ σ H Q=>t σ H λ vs H1=>∀L,Oq N clos σ H1 L->sp vs (tkd H1 L) (λ v H2=>(∀a o,L.lookup a=some o->H2 a=some (By a o))/\Q v (utk H2 L)) E0
section
variable{X:Cx}{k j:Nat}{x:Str}{ps:LSz}{sp:Sp}{p pos:Pos}{e:Expr}{es:List Expr}{t:TA}{clos:List (Str×Addr)}
theorem SV(D:Ay X.prog X.w X.K X.mg X.base k x ps sp)(hr:Room j X.A)(ha:PA X (e::es) t)(hcl:∀p∈clos,X.env.cells.lookup p.1=some p.2/\X.env.kindOf p.1=some .cell)(hfn:∀y,X.fn y=true)(hex:X.ex=[])(hj:k<=j:=by decide)(hg:Gl X x:=by rfl)(hdb:(x==("__debug__":Str))=false:=by decide)
  (he:starEach (e::es) X.env=(false,eval e X.env)::starEach es X.env:=by rfl) (hpl:(backTo pos (starEach es X.env)).any (·.1)=false:=by rfl):PE X (.Call (.Name x p) (e::es) [] pos) (SM X.N clos sp t):=by
 obtain⟨f,fd,F,hm,hk,hb⟩:=D.ex;intro pins s σ H Q I h;refine wpAny_Call_Name_kw (Dr I hg hm ?_ hdb);refine callWith_K (h₀:=X.base) I.ok.mod.kin hk (thn (ha pos pins s σ H _ I h) λ us s1 ⟨vs,H1,I1,r,q⟩=>⟨I1.kIn,?_⟩) he hpl
 let g:Addr->Obj:=λ c=>(s1.heap.get? c).getD ⟨.none,none,.plain,#[]⟩
 let L:PNz:=(clos.map (·.2)).map λ c=>(c,g c)
 have hLk:∀a,L.lookup a=if a∈clos.map (·.2) then some (g a) else none:=λ a=>IH;have hcell:∀p∈clos,∃v,s1.heap.IsCell p.2 v:=λ p hp=>I1.cell p.1 p.2 (hcl p hp).1;have hin:∀a o,L.lookup a=some o->∃p∈clos,p.2=a/\s1.heap.get? a=some o:=λ a o e=>by
  rw[hLk]at e;split at e
  .rename_i hm;obtain⟨p,hp,rfl⟩:=List.mem_map.mp hm;refine⟨p,hp,rfl,?_⟩;obtain⟨v,o',ho',_⟩:=hcell p hp;cases e;show _=some ((s1.heap.get? p.2).getD _);rw[ho'];rfl
  .cases e
 have hof:∀p∈clos,∀o,s1.heap.get? p.2=some o->L.lookup p.2=some o:=λ p hp o e=>by
  rw[hLk,if_pos (List.mem_map.mpr ⟨p,hp,rfl⟩)];show some ((s1.heap.get? p.2).getD _)=_;rw[e];rfl
 have hnew:∀a o,L.lookup a=some o->H1 a=none:=λ a o e=>by
  obtain⟨p,hp,rfl,_⟩:=hin a o e;exact I1.freeC p.1 p.2 (hcl p hp).1
 have hget:∀a o,L.lookup a=some o->s1.heap.get? a=some o:=λ a o e=>let ⟨_,_,_,z⟩:=hin a o e;z;have habove:∀a o,L.lookup a=some o->X.s₀.heap.objs.size<=a:=λ a o e=>by
  obtain⟨p,hp,rfl,_⟩:=hin a o e;exact I1.ok.cab p.1 p.2 (hfn _) (hcl p hp).1
 have hnf:∀a o,L.lookup a=some o->a∉frs X.stack:=λ a o e hb=>by
  have ab:=habove a o e;obtain⟨p,hp,rfl,_⟩:=hin a o e;rcases List.mem_cons.mp (I1.stkSub _ hb) with z|z
  .exact I1.cne p.1 p.2 (hcl p hp).1 z
  .obtain⟨_,o',ho',_⟩:=I1.ok.funs.mem z;exact absurd (Nat.lt_of_lt_of_le (Heap.lt_size ho') ab) (Nat.lt_irrefl _)
 have CA:Oq X.N clos σ H1 L:=by
  refine⟨hnew,λ p hp=>?_,λ p hp i v hi hv=>?_⟩
  .obtain⟨v,o,ho,hd⟩:=hcell p hp;exact⟨o,v,hof p hp o ho,hd⟩
  .obtain⟨m,hns,hloc⟩:=I1.loc;obtain⟨u,ru,hlook⟩:=hloc i p.1 v hi hv (.inr (.inl (hcl p hp).2));rcases hlook with ⟨k1,_⟩|⟨_,c,hc,o,ho,hd⟩
   .rw[(hcl p hp).2]at k1;cases k1
   .rw[(hcl p hp).1]at hc;cases hc;exact⟨o,u,hof p hp o ho,hd,ru⟩
 have hsp:=q L CA;have e0:Env0 X.prog X.w X.K X.mg X.base X.A X.stack s1 (tkd H1 L):=by
  have z:=I1.env0;refine⟨z.frames,z.mod,λ b o e=>?_,z.bsz,z.funs,λ b hb=>?_,z.hok.tkd hnew hget,z.bare⟩
  .refine⟨(z.bs b o e).1,?_⟩;cases q:L.lookup b with
   |none=>rw[AR q];exact(z.bs b o e).2
   |some o'=>exact absurd (Nat.lt_of_lt_of_le (Heap.lt_size e) (Nat.le_trans I1.ok.bsz (habove b o' q))) (Nat.lt_irrefl _)
  .cases q:L.lookup b with
   |none=>rw[AR q];exact z.frf b hb
   |some o'=>exact absurd hb (hnf b o' q)
 have hl:us.length=ps.length:=by rw[<-r.length];exact F.len _ _ _ _ hsp
 have hbd:=hb s1 us I1.kIn (by rw[List.append_nil];exact hl);rw[List.append_nil]at hbd;refine wpAny_call (codeAny_mono (F.run X.A X.stack s1 (tkd H1 L) ⟨us,[]⟩ us vs _ E0 (hr.mono hj) e0 hbd r hsp) λ rs s' hq=>?_);cases rs with
 |error e=>exact G8 pins σ H1 s1 e s' I1 (by exact hq)
 |ok fl =>
  cases fl with
  |ret u =>
   obtain⟨v,H2,os,bare,un,hok,rv,hkp,q2⟩:=hq;exact I1.after ⟨v,utk H2 L,os,bare,un.utk hok hnew hget hnf hkp,hok.utk hkp,rv,q2⟩
  |next=>exact False.elim hq
  |brk=>exact False.elim hq
  |cont=>exact False.elim hq
end
def RZ(P:Program)(w:World)(K:Frag)(mg:MGz)(base:Heap)(N:LSz)(qual:Str)(scope:Scope)(f:Addr)(cd:Value)(clos:List (Str×Addr))(A:Around)(outer:List Env)(s:Shared)(H Hx:Hp)(E:XK):Cx where
 prog:=P
 w:=w
 K:=K
 mg:=mg
 base:=base
 A:=A.deeper (envX qual scope s.heap.objs.size f cd clos)
 N:=N
 s₀:=s
 H₀:=H
 env:=envX qual scope s.heap.objs.size f cd clos
 outer:=outer
 stack:=envX qual scope s.heap.objs.size f cd clos::outer
 ex:=[]
 calm:=true
 fn:=λ_=>false
 pn:=[]
 xe:=λ e s'=>wpAny (model P w) (A.deeper (envX qual scope s.heap.objs.size f cd clos)) (leaving (envX qual scope s.heap.objs.size f cd clos) e) (λ_ s''=>CX0 outer Hx s E e s'') (λ e' s''=>CX0 outer Hx s E e' s'') s'
theorem TabOk.lamC{clos:List (Str×Addr)}{mg:MGz}{pos:Pos}{qual:Str}{T:Addr}{params:Arguments}{body:Expr}{scope:Scope}{σ:St}{H:Hp}{Q:VK}(h:TabOk pos qual T H)
  (q:∀c' f ctv H',SameX T H H'->TabOk pos qual T H'->H' f=some (By f (Bx mg qual params body scope clos c' ctv))->H' c'=some (Ct c' qual)->(∀b,H b=none->H' b=none\/b=c'\/b=f)->Q (.ref f) H'):TQ mg T pos params body scope clos qual σ H Q:=by
 obtain⟨ps,e,t,c⟩:=h;refine⟨ps,e,t,?_⟩;rcases c with c|⟨c',c1,c2⟩
 .refine .inl ⟨c,λ c' f ctv hc hf n1 n2 n3=>?_⟩;have eT:(upd (upd (upd H T (.tbl (ps++#[rawInt pos.line,rawInt pos.col,.ref c']))) c' (Ct c' qual)) f (By f (Bx mg qual params body scope clos c' ctv))) T=some (.tbl (ps++#[rawInt pos.line,rawInt pos.col,.ref c'])):=by
   rw[Ae (Ne.symm n3),Ae (Ne.symm n2),Ab]
  have eC:(upd (upd (upd H T (.tbl (ps++#[rawInt pos.line,rawInt pos.col,.ref c']))) c' (Ct c' qual)) f (By f (Bx mg qual params body scope clos c' ctv))) c'=some (Ct c' qual):=by
   rw[Ae n1,Ab]
  refine q c' f ctv _ (λ a o ea no=>?_) ⟨_,eT,?_,.inr ⟨c',?_,eC⟩⟩ Ab eC λ b hb=>?_
  .rw[Ae (Ad no hf),Ae (Ad no hc),Ae ea];exact no
  .rw[Array.toList_append];exact E9 (c:=0) _ t
  .rw[Array.toList_append];exact codeAmong_snoc _ t c
  .by_cases h1:b=f
   .exact .inr (.inr h1)
   .by_cases h2:b=c'
    .exact .inr (.inl h2)
    .refine .inl ?_;rw[Ae h1,Ae h2,Ae (λ z=>by rw[z,e]at hb;cases hb)];exact hb
 .refine .inr ⟨c',c1,c2,λ f ctv hf=>?_⟩;have s:Same H (upd H f (By f (Bx mg qual params body scope clos c' ctv))):=Same.new hf;refine q c' f ctv _ s.x (TabOk.same ⟨ps,e,t,.inr ⟨c',c1,c2⟩⟩ s) Ab (s _ _ c2) λ b hb=>?_;by_cases h1:b=f
  .exact .inr (.inr h1)
  .exact .inl (by rw[Ae h1];exact hb)
theorem TabOk.tb{pos:Pos}{qual:Str}{T T':Addr}{H H':Hp}(h:TabOk pos qual T H)(s:SameX T' H H')(n:T≠T')(hT:∃ps,H T'=some (.tbl ps)):TabOk pos qual T H':=by
 obtain⟨ps,e,t,c⟩:=h;refine⟨ps,s _ _ n e,t,?_⟩;rcases c with c|⟨c',c1,c2⟩
 .exact .inl c
 .refine .inr ⟨c',c1,s _ _ (λ z=>?_) c2⟩;obtain⟨ps',e'⟩:=hT;rw[z,e']at c2;cases c2
theorem TabOk.tbl{pos:Pos}{qual:Str}{T:Addr}{H:Hp}(h:TabOk pos qual T H):∃ps,H T=some (.tbl ps):=let ⟨ps,e,_⟩:=h;⟨ps,e⟩
theorem SameX.toN{T:Addr}{H H':Hp}(s:SameX T H H')(hT:∃ps,H T=some (.tbl ps)):SameN H H':=λ a o e n=>s a o (λ z=>by obtain⟨ps,e'⟩:=hT;rw[z,e']at e;cases e;exact n _ rfl) e
theorem P3{H H':Hp}{L:PNz}(hL:∀a o,L.lookup a=some o->H a=none)(s:Same (tkd H L) H'):Same H (utk H' L)/\∀a o,L.lookup a=some o->H' a=some (By a o) :=
 ⟨λ a o e=>by
  have n:=Ey hL e;rw[Bi n];exact s _ _ (by rw[AR n];exact e),λ a o e=>s _ _ (Gp e)⟩
theorem Jr{H:Hp}{L:PNz}{a:Addr}{u:HO}(hL:∀a o,L.lookup a=some o->H a=some (By a o))(e:H a=some u)(n:∀o,u≠By a o):utk H L a=some u:=by rw[Bi (DX hL e n)];exact e
theorem Li{M:Model}{A:Around}{E:VPz}{s:Shared}{scope:Scope}{globals:Addr}{clos:List (Str×Addr)}{pn:Str}{u:Value}{qual:Str}{func:Option Addr}{code:Value}{builtins:Addr}{Q:Env->Shared->Prop}
  (hk:scope.kind=.function) (hp:scope.names.lookup pn=some .cell) (hc:∀n acc,cellsFrom n scope.names acc=(pn,n)::acc) (hpu:∀h,pushCells h scope.names=h.push { cls:=.type "cell",data:=.cell none })
  (hQ:∀h' tk,h'.Ns s.heap.objs.size (λ_=>none)->h'.IsCell (s.heap.objs.size+1) (some u)->(∀b o,s.heap.get? b=some o->h'.get? b=some o)->Q (newEnv scope s.heap.objs.size globals ((pn,s.heap.objs.size+1)::clos) qual func code none builtins) { s with heap:=h',toks:=tk }) :
  wpAny M A (newFunctionEnv scope globals clos [(pn,u)] qual func code none builtins) Q E s:=by
 simp only[newFunctionEnv,Option.isSome_none,Bool.false_eq_true,if_false];refine wpAny_bind (wpAny_alloc ?_);refine wpAny_bind (wpAny_layCells _ (λ name kind cells=>by cases hkc:kind==NameKind.cell<;>simp[hkc]) _ _ _ _ ?_);rw[hc,hpu,show({ s with heap:=s.heap.push { cls:=.type "frame",data:=.dict #[] } }:Shared).heap.objs.size=s.heap.objs.size+1 from Heap.size_push ..];have hcell:((s.heap.push { cls:=.type "frame",data:=.dict #[] }).push { cls:=.type "cell",data:=.cell none }).IsCell (s.heap.objs.size+1) none:=⟨{ cls:=.type "cell",data:=.cell none },Heap.get?_push_at (Heap.size_push ..).symm rfl,rfl⟩;have hns:=(Heap.Ns.new s.heap (.type "frame")).keeps (h':=(s.heap.push { cls:=.type "frame",data:=.dict #[] }).push { cls:=.type "cell",data:=.cell none }) λ b o e=>Heap.get?_push_of_some _ e;refine wpAny_bind ?_;rw[List.forIn_cons];refine wpAny_bind (wpAny_bind (wpAny_storeName_cell (env:=newEnv scope s.heap.objs.size globals ((pn,s.heap.objs.size+1)::clos) qual func code none builtins) hk hp (by simp[newEnv]) hcell λ h' hc' hs'=>?_));refine wpAny_pure ?_;show wpAny M A (forIn ([]:List (Str×Value)) PUnit.unit _) _ _ _;rw[List.forIn_nil];refine wpAny_pure (wpAny_pure (hQ h' _ (hns.sameBut hs' (Nat.ne_of_lt (Nat.lt_succ_self _))) hc' λ b o e=>hs'.extBut b o (Nat.ne_of_lt (Nat.lt_succ_of_lt (Heap.lt_size e))) (Heap.get?_push_of_some _ (Heap.get?_push_of_some _ e))))
structure Jd(pn:Str)(fs:LSz)(sc:Scope):Prop where
 kind:sc.kind=.function
 co:sc.isCoroutine=false
 gen:sc.isGenerator=false
 par:sc.names.lookup pn=some .cell
 cells:∀n acc,cellsFrom n sc.names acc=(pn,n)::acc
 push:∀h,pushCells h sc.names=h.push { cls:=.type "cell",data:=.cell none }
 own:∀y,sc.names.lookup y=some .cell->y=pn
 free:∀y,sc.names.lookup y=some .free->y∈fs
 isfree:∀y∈fs,sc.names.lookup y=some .free
theorem RO{P:Program}{w:World}{K:Frag}{mg:MGz}{base:Heap}{k:Nat}{H:Hp}{f c':Addr}{params:Arguments}{body:Expr}{scope:Scope}{qual pn:Str}{ctv:Value}{fs:LSz}{clos:List (Str×Addr)}{cv:LUz}{L:PNz}{sp:Sp}
  (hf:H f=some (By f (Bx mg qual params body scope clos c' ctv))) (hc:H c'=some (Ct c' qual)) (S:Jd pn fs scope) (hlen:cv.length=fs.length) (hkeys:∀y,(∃c,clos.lookup y=some c)↔y∈fs) (hinj:∀x y c,clos.lookup x=some c->clos.lookup y=some c->x=y)
  (hL:∀a o,L.lookup a=some o->H a=some (By a o)) (hcell:∀p∈clos,∃o v,L.lookup p.2=some o/\o.data=.cell v) (hval:∀p∈clos,∀(i:Nat)(v:V),fs[i]?=some p.1->cv[i]?=some v->∃o u,L.lookup p.2=some o/\o.data=.cell (some u)/\RelV v u)
  (hb:∀(s:Shared)(u:Value),BindsTo s (kla_fn "<lambda>" qual params body scope clos ((mg "__name__").getD .none) (.ref c') ctv) ⟨[u],[]⟩ [(pn,u)])
  (hone:∀vs H' Q E,sp vs H' Q E->∃v,vs=[v])
  (hbody:∀(A:Around)(outer:List Env)(s:Shared)(H':Hp)(E:XK)(v:V)(Q:VK),Same H H'->Room k (A.deeper (envX qual scope s.heap.objs.size f (.ref c') ((pn,s.heap.objs.size+1)::clos)))->sp [v] H' Q E ->
   ∃te,PE (RZ P w K mg base (pn::fs) qual scope f (.ref c') ((pn,s.heap.objs.size+1)::clos) A outer s (utk H' L) H' E) body te/\te (some v::cv.map some) (utk H' L) (λ v' H2=>(∀a o,L.lookup a=some o->H2 a=none)->Q v' (tkd H2 L))) :
  FvOk P w K mg base (k+1) H f sp:=by
 refine⟨⟨_,_,hf,rfl⟩,λ A outer s H' us vs Q E sm hr e0 r h=>?_⟩;obtain⟨v,rfl⟩:=hone _ _ _ _ h;obtain⟨u,rfl,ru⟩:=F4 r;obtain⟨te,hpe,h⟩:=hbody A outer s H' E v Q sm (hr.deeper _) h;have hL':∀a o,L.lookup a=some o->H' a=some (By a o):=λ a o e=>sm _ _ (hL a o e);have hget:∀a o,L.lookup a=some o->s.heap.get? a=some o:=λ a o e=>(show ObjOk P w H' s.heap a (By a o) from e0.hok a _ (hL' a o e)).1;have lim:s.heap.NoLimit:=e0.mod.nolimit.keeps λ b o e=>(e0.bs b o e).1;have ho:s.heap.get? f=some (Bx mg qual params body scope clos c' ctv):=(show ObjOk P w H' s.heap f (By f _) from e0.hok f _ (sm _ _ hf)).1;refine kla_callFunE hr.depth ho rfl S.co S.gen rfl (IW (e0.hok c' _ (sm _ _ hc))) (hb s u _ _ _ _ ?_);refine Li S.kind S.par S.cells S.push λ h1 tk hns hcl hk=>?_;refine⟨lim.keeps hk,?_⟩;show codeAny _ _ (.expr body (envX qual scope s.heap.objs.size f (.ref c') ((pn,s.heap.objs.size+1)::clos))) _ _;refine kla_codeExpr ?_;have noA:∀b:Addr,b∉(RZ P w K mg base (pn::fs) qual scope f (.ref c') ((pn,s.heap.objs.size+1)::clos) A outer s (utk H' L) H' E).ex:=λ b z=>absurd (show b∈([]:List Addr) from z) (by simp);have mem:∀y c,clos.lookup y=some c->(y,c)∈clos:=λ y c e=>PySem.mem_of_lookup e;have npf:pn∉fs:=λ z=>by have:=S.isfree pn z;rw[S.par]at this;cases this
 have look:∀y c,((pn,s.heap.objs.size+1)::clos).lookup y=some c->(y=pn/\c=s.heap.objs.size+1)\/(y≠pn/\clos.lookup y=some c):=λ y c e=>by
  rw[List.lookup_cons]at e;by_cases q:y=pn
  .subst q;rw[beq_self_eq_true]at e;exact .inl ⟨rfl,(Option.some.inj e).symm⟩
  .rw[show(y==pn)=false from beq_false_of_ne q]at e;exact .inr ⟨q,e⟩
 have lookF:∀y c,y≠pn->clos.lookup y=some c->((pn,s.heap.objs.size+1)::clos).lookup y=some c:=λ y c n e=>by rw[List.lookup_cons,show(y==pn)=false from beq_false_of_ne n];exact e
 have lookP:((pn,s.heap.objs.size+1)::clos).lookup pn=some (s.heap.objs.size+1):=by rw[List.lookup_cons,beq_self_eq_true]
 have lt:∀y c,clos.lookup y=some c->c<s.heap.objs.size:=λ y c e=>by
  obtain⟨o,vv,ho',_⟩:=hcell (y,c) (mem y c e);exact Heap.lt_size (hget _ _ ho')
 have I:Inv (RZ P w K mg base (pn::fs) qual scope f (.ref c') ((pn,s.heap.objs.size+1)::clos) A outer s (utk H' L) H' E) [] (some v::cv.map some) (utk H' L) { s with heap:=h1,toks:=tk }:=by
  refine⟨⟨e0.mod,S.kind,rfl,rfl,Nat.le_refl _,λ x y c h1' h2'=>?_,λ y hy=>?_,λ y c z=>absurd z (by simp[RZ]),λ_=>hr.hd,Around.frames_deeper e0.frames,.inr ⟨rfl,rfl⟩,λ b z=>absurd z (noA b),λ b o e=>⟨(e0.bs b o e).1,Ca (e0.bs b o e).2⟩,e0.bsz,λ b _ _=>noA b,λ b z=>absurd z (noA b),e0.funs,λ b hb=>Ca (e0.frf b hb)⟩,
   rfl,e0.bare,Un.kept hk,⟨_,hns,λ i y vv h1' h2 h3=>?_⟩,λ y c e=>?_,Ca (e0.hok.fresh (Nat.le_refl _)),λ y c e=>?_,λ p hp=>absurd (show p∈([]:PNz) from hp) (by simp),(e0.hok.utk hL').kept hk,?_⟩
  .rcases look x c h1' with ⟨rfl,rfl⟩|⟨_,q1⟩
   .rcases look y _ h2' with ⟨rfl,_⟩|⟨_,q2⟩
    .rfl
    .exact absurd (lt y _ q2) (Nat.not_lt.mpr (Nat.le_succ _))
   .rcases look y _ h2' with ⟨rfl,rfl⟩|⟨_,q2⟩
    .exact absurd (lt x _ q1) (Nat.not_lt.mpr (Nat.le_succ _))
    .exact hinj x y c q1 q2
  .have hy:scope.names.lookup y=some .cell\/scope.names.lookup y=some .free:=hy;rcases hy with hy|hy
   .rw[S.own y hy];exact⟨_,lookP⟩
   .have m:=S.free y hy;obtain⟨c,e⟩:=(hkeys y).mpr m;exact⟨c,lookF y c (λ z=>npf (z ▸ m)) e⟩
  .have h1':(pn::fs)[i]?=some y:=h1';cases i with
   |zero =>
    cases h1';cases h2;exact⟨u,ru,.inr ⟨.inl S.par,_,lookP,hcl⟩⟩
   |succ i =>
    have h1':fs[i]?=some y:=h1';have h2:(cv.map some)[i]?=some (some vv):=h2;rw[List.getElem?_map]at h2;obtain⟨z,hz,e⟩:=Option.map_eq_some_iff.mp h2;cases e;have m:=List.mem_of_getElem? h1';obtain⟨c,hc'⟩:=(hkeys y).mpr m;obtain⟨o,u',ho',hd,rv⟩:=hval (y,c) (mem y c hc') i vv h1' hz;exact⟨u',rv,.inr ⟨.inr (S.isfree y m),c,lookF y c (λ z=>npf (z ▸ m)) hc',o,hk _ _ (hget _ _ ho'),hd⟩⟩
  .rcases look y c e with ⟨rfl,rfl⟩|⟨_,e⟩
   .exact⟨_,hcl⟩
   .obtain⟨o,vv,ho',hd⟩:=hcell (y,c) (mem y c e);exact⟨vv,o,hk _ _ (hget _ _ ho'),hd⟩
  .rcases look y c e with ⟨rfl,rfl⟩|⟨_,e⟩
   .exact Ca (e0.hok.fresh (Nat.le_succ _))
   .obtain⟨o,vv,ho',hd⟩:=hcell (y,c) (mem y c e);exact ET ho'
  .show(some v::cv.map some).length=(pn::fs).length;rw[List.length_cons,List.length_cons,List.length_map,hlen]
 refine wpAny_mono (hpe [] _ _ _ _ I h) (λ u2 s' ⟨v2,H2,J,rv,q⟩=>?_) λ e s' z=>z;have un:Un (frs outer) [] (utk H' L) H2 s.heap s'.heap:=J.base;have hnf:∀a o,L.lookup a=some o->a∉frs outer:=λ a o e hb=>by
  have:=e0.frf a hb;rw[hL' a o e]at this;cases this
 have hno:∀a o,L.lookup a=some o->H2 a=none:=λ a o e=>un.free a o (hget a o e) (ET e) (by simp);exact⟨v2,tkd H2 L,J.os,J.bare,un.tkd hL',J.hok.tkd hno (λ a o e=>un.keep a o (hget a o e) (ET e) (hnf a o e) (by simp)),rv,q hno⟩
theorem M9{M:Model}{A:Around}{E:VPz}{s:Shared}{K:Frag}{G C e:Addr}{d:Option Addr}{dt:Data}{sl':AOz}{Q:Bool->Shared->Prop}{b:Bool}(X:K.In s.heap){fI:Addr}(hG:DP K G fI=true)
  (he:s.heap.get? e=some ⟨.ref C,d,dt,sl'⟩) (hs:mroIn K C (.ref G)=some b) (h:Q b s):wpAny M A (excMatches (.ref e) (.ref G)) Q E s:=by
 have LS:=looks_mroIn (M:=M) X hs;obtain⟨hp,g,dr,tk,os⟩:=s;have q:=hG;unfold DP at q;split at q
 .rename_i dd cd sl ho;split at q
  .rename_i C' bm k0 k1 k2 k3 n k5 hm hs;simp only[Bool.and_eq_true,beq_iff_eq,Bool.not_eq_true']at q;obtain⟨⟨⟨⟨⟨rfl,rfl⟩,hdel⟩,ht⟩,hok⟩,hni⟩:=q;obtain⟨nm,bs,mro,ns,qn,hd,sn,sub,ab,col,del⟩:=cd;dsimp only at hm hdel hok hni;subst hm hdel;have hsl:sl=#[k0,k1,k2,k3,some (.builtin "ValueError.__new__"),k5]:=by
    obtain⟨l⟩:=sl;simp only at hs;rw[hs]
   subst hsl;have hC:hp.get? C'=some (excClassObj nm qn C' ns bs bm hd sn sub ab col dd k0 k1 k2 k3 k5 "ValueError.__new__"):=X _ _ ho;have hcB:(Value.ref C'::bm).contains (.type "BaseException")=true:=by
    rw[List.contains_cons,(tail_of_in X ht).hasType (show vErr.contains (.type "BaseException")=true by decide +kernel)];exact Bool.or_true _
   have f:=tc_notTuple;unfold excMatches;cases b<;>(repeat (first|with_reducible refine wpAny_loadPart_at he ?_|with_reducible refine wpAny_loadPart_at hC ?_|(with_reducible refine wpAny_isSubtype_exc hC ?_;rw[hcB])|(with_reducible refine LS.at ?_)|wp_step))<;>exact h
  .cases q
 .cases q
abbrev TH:=CN->St->Hp->Addr->Addr->Option Addr->Addr->Prop
def PHs(X:Cx)(hs:List ExceptHandler)(t:TH):Prop:=∀(pins:PNz)(s:Shared)(σ:St)(H':Hp)(D:CN)(x C:Addr)(d:Option Addr)(T2:Addr),T2≠x->Inv X pins σ (thrown H' x C d T2) s->t D σ H' x C d T2 ->
 wpAny (model X.prog X.w) X.A (handleBy (.ref x) X.env hs) (SP X pins D) X.xe s
inductive S7(K:Frag)(im:Nat)(G:Addr)(ts:TS)(tr:TH)(D:CN)(σ:St)(H':Hp)(x C:Addr)(d:Option Addr)(T2:Addr):Prop
 |mk (b:Bool) (m:mroIn K C (.ref G)=some b) (y:b=true->ts (Su im D) (σ.set im (some (.ref x))) (thrown H' x C d T2)) (n:b=false->tr D σ H' x C d T2):S7 K im G ts tr D σ H' x C d T2
def Vr:TH:=λ_ _ _ _ _ _ _=>False
def TZ(t:XK->TS)(th:TH):TS:=λ D σ H=>∃E₁:XK,t E₁ { nx:=D.nx,rt:=λ_ _=>False } σ H /\
 ∀x C d T T2 H',E₁ (.ref x) d H'->ER H' x C d T->H' T2=none->T2≠x->th D σ H' x C d T2
section
variable{X:Cx}{im:Nat}{m g:Str}{G:Addr}{b₀ st:Stmt}{suite:List Stmt}{gp hpos pos:Pos}{ts:TS}{t:XK->TS}{hs:List ExceptHandler}{th:TH}
theorem R1:PHs X [] Vr:=λ_ _ _ _ _ _ _ _ _ _ _ z=>z.elim
theorem Rx(he:PXS X st t)(hh:PHs X hs th)(hst:X.stack=X.env::X.outer)(hfr:X.env.frame=some X.env.locals)(hne:hs≠[]):PS X (.Try [st] hs [] [] pos) (TZ t th):=by
 intro pins s σ H D I ⟨E₁,h,hk⟩;rw[arm_exec_Try];cases hs with
 |nil=>exact absurd rfl hne
 |cons h0 hs =>
 refine wpAny_bind (wpAny_standAt (wpAny_tryStmt_except ?_));refine wpAny_execs_cons (thn (he E₁ pins s σ H _ _ I h λ x T C d H' s' I' fl q=>?_) λ f s1 q=>?_)
 .refine F9 I' hst hfr (.inr ⟨T,fl⟩) λ h' T2 hT2 nT2 I2=>?_;exact hh pins _ σ H' D x C d T2 nT2 I2 (hk x C d T T2 H' q fl hT2 nT2)
 .cases f with
  |next=>obtain⟨σ',H',I',q⟩:=q;exact wpAny_execs_nil (wpAny_execs_nil ⟨σ',H',I',q⟩)
  |ret v=>obtain⟨_,_,_,_,_,q⟩:=q;exact q.elim
  |brk=>obtain⟨_,_,_,q⟩:=q;exact q.elim
  |cont=>obtain⟨_,_,_,q⟩:=q;exact q.elim
end
section
open PySem.SeqAt
open PySem.AutoSeq1 (wpAny_loadPart')
open PySem.MeetsSeq PySem.MeetsSeq2 PySem.MeetsSeq3
inductive RowsAt(h:Heap):LWz->LWz->List Int->List Int->Prop
 |nil:RowsAt h [] [] [] []
 |last {p q:Addr} {i1 i2:Array Value} {ns ms:List Int}:IsTup h p i1->IsTup h q i2->IntsAre i1.toList ns->IntsAre i2.toList ms->RowsAt h [.ref p] [.ref q] ns ms
 |cons {i j:Int} {tk tj:Tok} {vs ws:LWz} {ns ms:List Int}:RowsAt h vs ws ns ms->RowsAt h (.int i tk::vs) (.int j tj::ws) (i::ns) (j::ms)
end
section
variable{X:Cx}{k j i:Nat}{x m n:Str}{C:Addr}{ps ks:LSz}{sp:Sp}{p pos apos np:Pos}{e o value:Expr}{es:List Expr}{kws:List Keyword}{t tk:TA}{ta:TE}{te:XK->TE}{E:XK}{g:LWz->LWz->LWz}{gV:LUz->LUz->LUz}
def TK(i:Nat)(te:XK->TE):XK->TS:=λ E D σ H=>te E σ H (λ v H1=>D.nx (σ.set i (some v)) H1)
theorem Rw(hN:X.N.Nodup)(hi:X.N[i]?=some n)(hx:Loc X.env.scope n)(he:∀E,PX X value (te E) E)(hsw:swapsWith value (some (.Name n np)) apos.line X.env=pure false:=by rfl)(hf:X.fn n=true\/X.env.scope.names.lookup n=some .local:=by first|exact .inl rfl|exact .inr rfl|assumption) :
  PXS X (.Assign [.Name n np] value apos) (TK i te):=by
 intro E pins s σ H D Ex I h hx';refine wpAny_Assign_Name (thn (he E pins s σ H _ _ I h hx') λ v s1 ⟨y,H1,I1,r1,q1⟩=>?_) hsw;exact EC I1 hN hi hx r1 (λ s2 I2=>⟨_,H1,I2,q1⟩) hf
end
theorem RS{K:Frag}{hp:Heap}{G:Addr}(X:K.In hp)(hG:PySem.W.excIn K G vErr "ValueError.__new__"=true):∃nm qn ns bs bm hd sn sub ab col dd k0 k1 k2 k3 k5,hp.get? G=some (excClassObj nm qn G ns bs bm hd sn sub ab col dd k0 k1 k2 k3 k5 "ValueError.__new__")/\(Value.ref G::bm).contains (.type "BaseException")=true:=by
 have q:=hG;unfold PySem.W.excIn at q;split at q
 .rename_i dd cd sl ho;split at q
  .rename_i C' bm k0 k1 k2 k3 n k5 hm hs;simp only[Bool.and_eq_true,beq_iff_eq,Bool.not_eq_true']at q;obtain⟨⟨⟨⟨⟨rfl,rfl⟩,hdel⟩,ht⟩,hok⟩,hni⟩:=q;obtain⟨nm,bs,mro,ns,qn,hd,sn,sub,ab,col,del⟩:=cd;dsimp only at hm hdel hok hni;subst hm hdel;have hsl:sl=#[k0,k1,k2,k3,some (.builtin "ValueError.__new__"),k5]:=by
    obtain⟨l⟩:=sl;simp only at hs;rw[hs]
   subst hsl;have hcB:(Value.ref C'::bm).contains (.type "BaseException")=true:=by
    rw[List.contains_cons,(tail_of_in X ht).hasType (show vErr.contains (.type "BaseException")=true by decide +kernel)];exact Bool.or_true _
   exact⟨_,_,_,_,_,_,_,_,_,_,_,_,_,_,_,_,X _ _ ho,hcB⟩
  .cases q
 .cases q
theorem MA{M:Model}{A:Around}{E:VPz}{s:Shared}{K:Frag}{G C e:Addr}{d:Option Addr}{dt:Data}{sl':AOz}{Q:Bool->Shared->Prop}{b:Bool}(X:K.In s.heap)(hG:PySem.W.excIn K G vErr "ValueError.__new__"=true)
  (he:s.heap.get? e=some ⟨.ref C,d,dt,sl'⟩) (hs:mroIn K C (.ref G)=some b) (h:Q b s):wpAny M A (excMatches (.ref e) (.ref G)) Q E s:=by
 have LS:=looks_mroIn (M:=M) X hs;obtain⟨hp,g,dr,tk,os⟩:=s;obtain⟨nm,qn,ns,bs,bm,hd,sn,sub,ab,col,dd,k0,k1,k2,k3,k5,hC,hcB⟩:=RS X hG;have f:=tc_notTuple;unfold excMatches;cases b<;>(repeat (first|with_reducible refine wpAny_loadPart_at he ?_|with_reducible refine wpAny_loadPart_at hC ?_|(with_reducible refine wpAny_isSubtype_exc hC ?_;rw[hcB])|(with_reducible refine LS.at ?_)|wp_step))<;>exact h
def S8(K:Frag)(G:Addr):Prop:=(∃fI,DP K G fI=true)\/PySem.W.excIn K G vErr "ValueError.__new__"=true
section
variable{X:Cx}{k j im:Nat}{x m g:Str}{C G:Addr}{p pos cpos:Pos}{e:Expr}{E:XK}{te:TE}{b₀:Stmt}{suite:List Stmt}{gp hpos:Pos}{ts:TS}{hs:List ExceptHandler}{th:TH}
theorem O4(hN:X.N.Nodup)(him:X.N[im]?=some m)(hm:X.env.scope.names.lookup m=some .local)(hgl:Gl X g)(hg:X.mg g=some (.ref G))(hG:S8 X.K G)(hsu:∀x,PSs (X.suite x) (b₀::suite) ts)(hr:PHs X hs th)
    (hdb:(g==("__debug__":Str))=false:=by decide):PHs X (.ExceptHandler (some (.Name g gp)) (some m) (b₀::suite) hpos::hs) (S7 X.K im G ts th):=by
  intro pins s' σ H' D x C d T2 nT2 I2 hh;obtain⟨b,hsub,hy,hn⟩:=hh;have fl2:ER (thrown H' x C d T2) x C d T2:=⟨D8,EA nT2,nT2⟩;obtain⟨⟨vs,sl,e1,e2⟩,_⟩:=(show ObjOk X.prog X.w (thrown H' x C d T2) s'.heap x (FW C d x T2) from I2.hok x _ fl2.1);obtain⟨⟨o,tv,f1,f2,f3⟩,_⟩:=(show ObjOk X.prog X.w (thrown H' x C d T2) s'.heap T2 (TbO T2) from I2.hok T2 _ fl2.2.1);have mt:∀{A:Around}{Ex:VPz}{Q:Bool->Shared->Prop},Q b s'->wpAny (model X.prog X.w) A (excMatches (.ref x) (.ref G)) Q Ex s':=λ q=>hG.elim (λ⟨fI,z⟩=>M9 I2.kIn z e1 hsub q) λ z=>MA I2.kIn z e1 hsub q;refine wpAny_handleBy_cons (codeAny_handlers_test (Dr (X:=X.suite x) (I2.suite x) hgl hg (mt ?_) hdb)) (by intro z;cases z);cases b with
  |false=>exact hr pins s' σ H' D x C d T2 nT2 I2 (hn rfl)
  |true =>
    have hts:=hy rfl;show codeAny _ _ _ _ _;refine codeAny_handlers_suite_as (Hd e1 e2 f1 f2 (Array.getElem?_eq_some_iff.mp f3).1 λ h3 k3 t3=>?_);have same:upd (thrown H' x C d T2) T2 (TbO T2)=thrown H' x C d T2:=funext λ b=>by
      by_cases z:b=T2
      · rw[z,Ab,EA nT2]
      · rw[Ae z]
    have I3:Inv X pins σ (thrown H' x C d T2) { s' with heap:=h3 }:=by
      have:=I2.write (x:=T2) (e:=T2) (h':=h3) (o:=TbO T2) (t':=s'.toks) (by rw[fl2.2.1];exact True.intro) (.inl rfl) (λ b u nb z=>(k3 b nb).trans z) (let ⟨o,_,e,_⟩:=t3;⟨o,e⟩) (Md t3);rw[same]at this;exact this
    refine EC (X:=X.suite x) (I3.suite x) hN him (.inl hm) (v:=.ref x) rfl (λ s4 I4=>?_) (.inr hm);refine wpAny_mono (hsu x pins s4 _ _ (Su im D) I4 hts) (λ fl s5 q5=>?_) λ_ _ z=>False.elim z;show wpAny (model X.prog X.w) X.A (do bindName X.env m .none;unbindBehindTheSuite X.env m hpos) (λ_ s₃=>SP X pins D fl s₃) X.xe s5;cases fl with
    |next=>obtain⟨σ',H5,I5,q⟩:=q5;exact Gd (I5.unsuite (ok:=I2.ok)) hN him hm λ s6 I6=>⟨_,H5,I6,q⟩
    |brk=>obtain⟨σ',H5,I5,q⟩:=q5;exact Gd (I5.unsuite (ok:=I2.ok)) hN him hm λ s6 I6=>⟨_,H5,I6,q⟩
    |cont=>obtain⟨σ',H5,I5,q⟩:=q5;exact Gd (I5.unsuite (ok:=I2.ok)) hN him hm λ s6 I6=>⟨_,H5,I6,q⟩
    |ret u=>obtain⟨v,σ',H5,I5,r,q⟩:=q5;exact Gd (I5.unsuite (ok:=I2.ok)) hN him hm λ s6 I6=>⟨v,_,H5,I6,r,q⟩
end
end L2
namespace K24
open PySem.W
open PySem L2 GB
def top(i:Nat):Stmt:=PySem.Challenge.pw_glazebench_k24_whole_cut_panels_have_tre.main.body.getD i (.Pass ⟨0,0,0,0⟩)
abbrev Dj:Stmt:=AB (top 10) 0
abbrev Ep:Stmt:=top 14
abbrev Fc:Stmt:=top 15
abbrev Cd:Stmt:=top 16
abbrev Gz:Stmt:=top 17
abbrev Db:Stmt:=top 18
abbrev CH:Stmt:=top 19
abbrev CI:Stmt:=top 20
abbrev BA:Stmt:=top 21
abbrev BO:Stmt:=top 22
abbrev Dk:Stmt:=AB (top 23) 0
abbrev CK:Stmt:=AB (top 23) 1
abbrev BP:Stmt:=AB (top 23) 2
abbrev Cg:Stmt:=AB (top 23) 3
abbrev J1:Stmt:=top 27
abbrev Er:Stmt:=top 28
abbrev CJ:Stmt:=top 29
abbrev Eo:Stmt:=top 30
abbrev CD:Stmt:=top 31
abbrev Ce:Stmt:=top 32
abbrev BN:Stmt:=top 33
abbrev Bt:Stmt:=AB (top 39) 0
abbrev Cf:Stmt:=AB (top 40) 0
abbrev Dl:Stmt:=AB (top 41) 0
abbrev Fb:Stmt:=top 42
abbrev Es:Stmt:=top 43
abbrev De:Stmt:=top 44
abbrev Et:Stmt:=top 45
abbrev DC:Stmt:=top 46
abbrev Df:Stmt:=top 47
abbrev BI:Stmt:=top 49
abbrev CG:Stmt:=top 50
abbrev CC:Stmt:=top 51
abbrev Fd:Stmt:=top 52
abbrev Bp:Stmt:=top 53
abbrev Mp:Stmt:=top 57
abbrev BG:Stmt:=top 58
abbrev C9:Stmt:=top 59
abbrev CF:Stmt:=top 60
abbrev BM:Stmt:=top 61
abbrev J0:Stmt:=top 62
abbrev Fa:Stmt:=top 63
abbrev Mo:Stmt:=top 64
abbrev DD:Stmt:=top 67
abbrev Bf:Stmt:=top 68
abbrev CB:Stmt:=top 69
abbrev DE:Stmt:=top 70
abbrev Dc:Stmt:=top 71
abbrev BF:Stmt:=top 72
abbrev EZ:Stmt:=top 73
abbrev Dh:Stmt:=top 75
abbrev DF:Stmt:=top 76
abbrev Ba:Stmt:=top 77
abbrev AW:Stmt:=top 78
abbrev Di:Stmt:=top 79
abbrev Dg:Stmt:=top 80
abbrev F6:Stmt:=top 81
theorem nw{H:Hp}{c:Addr}(o:HO)(n:H c=none):∃G,upd H c o=G/\Same H G/\G c=some o:=⟨_,rfl,Same.new n,Ab⟩
def D6:V->Bool
 |.int _=>true
 |_=>false
def K8:V->Bool
 |.int i=>decide (1<=i)&&decide (i<=12)
 |_=>false
def Eh:LUz->Bool
 |[.int a,.int b,.int c,.int d]=>decide (0<=a)&&decide (a<c)&&(decide (0<=b)&&decide (b<d))
 |_=>false
def Ty(H:Hp)(v:V):Prop:=∃T,tyS H v=some T
theorem Pl{H H':Hp}(s:Same H H'){v:V}{T:String}(h:tyS H v=some T):tyS H' v=some T:=by
 cases v with
 |ref a =>
  have h:tyO (H a)=some T:=h;show tyO (H' a)=some T;cases e:H a with
  |none=>rw[e]at h;cases h
  |some o=>rw[e]at h;rw[s a o e];exact h
 |_=>exact h
theorem Ty.same{H H':Hp}(s:Same H H'){v:V}(h:Ty H v):Ty H' v:=let ⟨T,e⟩:=h;⟨T,Pl s e⟩
theorem K0{H:Hp}{v:V}{T:String}(h:tyS H v=some T):(isB T "int"=true->(!isB T "bool")=D6 v)/\(isB T "int"=false->false=D6 v):=by
 cases v with
 |non=>cases h;exact⟨λ z=>absurd z (by decide),λ_=>rfl⟩
 |bl b=>cases h;exact⟨λ_=>by show(!isB "bool" "bool")=false;decide,λ z=>absurd z (by decide)⟩
 |int i=>cases h;exact⟨λ_=>by show(!isB "int" "bool")=true;decide,λ z=>absurd z (by decide)⟩
 |str x=>cases h;exact⟨λ z=>absurd z (by decide),λ_=>rfl⟩
 |byt b=>cases h
 |flt b=>cases h
 |ty n=>cases h
 |ref a =>
  have key:T="list"\/T="tuple"\/T="dict":=by
   have h:tyO (H a)=some T:=h;unfold tyO at h;split at h<;>first|(cases h;simp)|cases h
  rcases key with rfl|rfl|rfl<;>exact⟨λ z=>absurd z (by decide),λ_=>rfl⟩
theorem Pj{H:Hp}{a:Addr}{xs:LUz}(h:H a=some (.tup xs)):tyS H (.ref a)=some "tuple":=by
 show tyO (H a)=some "tuple";rw[h];rfl
abbrev A8(a b c d:Int):LUz:=[.int a,.int b,.int c,.int d]
def GZ(a0 a1 a2 a3 o0 o1 o2 o3:Int):Bool:=decide (o0<=a0)&&decide (o1<=a1)&&(decide (a2<=o2)&&decide (a3<=o3))
def At(H:Hp)(ts:List (Addr×Rc)):Prop:=∀t∈ts,H t.1=some (.tup (A8 t.2.t t.2.l t.2.b t.2.r))
theorem At.same{H H':Hp}{ts:List (Addr×Rc)}(a:At H ts)(s:Same H H'):At H' ts:=λ t h=>s _ _ (a t h)
abbrev Ao{α:Type}(ts:List (Addr×α)):LUz:=ts.map λ t=>V.ref t.1
abbrev rcs(ts:List (Addr×Rc)):List Rc:=ts.map (·.2)
theorem IA(us:List (Addr×Rc))(x:Addr×Rc):Ao (us++[x])=Ao us++[V.ref x.1]:=by simp
theorem PB(us:List (Addr×Rc))(x:Addr×Rc):rcs (us++[x])=rcs us++[x.2]:=by simp
theorem Bg{α:Type}{ts:List (Addr×α)}{i:Nat}{x:V}(h:(Ao ts)[i]?=some x):∃t,ts[i]?=some t/\x=.ref t.1:=by
 rw[List.getElem?_map]at h;cases e:ts[i]? with
 |none=>rw[e]at h;cases h
 |some t=>rw[e]at h;exact⟨t,rfl,(Option.some.inj h).symm⟩
def E3(w h:Int)(ls ld:Addr):LFz:=AT "by_square" (.ref ld) (AT "sorted_panes" (.ref ls) (AT "height" (.int h) (AT "width" (.int w) [])))
theorem JZ(w h:Int)(ls ld:Addr):(E3 w h ls ld).lookup ("width":Str)=some (.int w):=by
 unfold E3;rw[Aw,if_neg (by decide +kernel),Aw,if_neg (by decide +kernel),Aw,if_neg (by decide +kernel),Aw,if_pos rfl]
theorem Kb(w h:Int)(ls ld:Addr):(E3 w h ls ld).lookup ("height":Str)=some (.int h):=by
 unfold E3;rw[Aw,if_neg (by decide +kernel),Aw,if_neg (by decide +kernel),Aw,if_pos rfl]
theorem Qu(w h:Int)(ls ld:Addr):(E3 w h ls ld).lookup ("sorted_panes":Str)=some (.ref ls):=by
 unfold E3;rw[Aw,if_neg (by decide +kernel),Aw,if_pos rfl]
theorem Tt(w h:Int)(ls ld:Addr):(E3 w h ls ld).lookup ("by_square":Str)=some (.ref ld):=by
 unfold E3;rw[Aw,if_pos rfl]
theorem Ka(w h:Int)(ls ld:Addr){m:Str}(h1:¬m="by_square")(h2:¬m="sorted_panes")(h3:¬m="height")(h4:¬m="width"):(E3 w h ls ld).lookup m=none:=by
 unfold E3;rw[Aw,if_neg h1,Aw,if_neg h2,Aw,if_neg h3,Aw,if_neg h4];rfl
abbrev sqK(r c:Int):List Key:=[Sum.inl r,Sum.inl c]
theorem Nk{r c r' c':Int}(h:sqK r c=sqK r' c'):r=r'/\c=c':=by
 injection h with h1 h2;injection h2 with h2 _;exact⟨Sum.inl.inj h1,Sum.inl.inj h2⟩
structure PanelAt(C:Addr)(H:Hp)(a:Addr)(w h:Int)(ts:List (Addr×Rc))(dx ls ld:Addr)(kvs:LKz):Prop where
 ob:H a=some (.ins C dx (E3 w h ls ld))
 lst:H ls=some (.lst (Ao ts))
 dic:H ld=some (.dT kvs)
 ats:At H ts
 til:Tiles w h (rcs ts)
 few:ts.length<=52
 srt:Srt (rcs ts)
 look:∀r c,0<=r->r<h->0<=c->c<w->∃t∈ts,Bz kvs (sqK r c)=some (.ref t.1)/\t.2.has r c
 sw:1<=w/\w<=12
 sh:1<=h/\h<=12
theorem PanelAt.same{C:Addr}{H H':Hp}{a:Addr}{w h:Int}{ts:List (Addr×Rc)}{dx ls ld:Addr}{kvs:LKz}(p:PanelAt C H a w h ts dx ls ld kvs)(s:Same H H'):PanelAt C H' a w h ts dx ls ld kvs :=
 ⟨s _ _ p.ob,s _ _ p.lst,s _ _ p.dic,p.ats.same s,p.til,p.few,p.srt,p.look,p.sw,p.sh⟩
def rcD(p:Rc):D:=.tup (.cons (.at (.int p.t)) (.cons (.at (.int p.l)) (.cons (.at (.int p.b)) (.cons (.at (.int p.r)) .nil))))
theorem JC{K:Frag}{H:Hp}{a:Addr}{p:Rc}(h:H a=some (.tup (A8 p.t p.l p.b p.r))):DIs K H (rcD p) (.ref a):=by
 unfold rcD;rw[DIs];refine⟨a,_,rfl,SqT.of h,?_⟩;rw[DIss];refine⟨_,_,rfl,by rw[DIs];exact⟨rfl,rfl⟩,?_⟩;rw[DIss];refine⟨_,_,rfl,by rw[DIs];exact⟨rfl,rfl⟩,?_⟩;rw[DIss];refine⟨_,_,rfl,by rw[DIs];exact⟨rfl,rfl⟩,?_⟩;rw[DIss];refine⟨_,_,rfl,by rw[DIs];exact⟨rfl,rfl⟩,?_⟩;rw[DIss]
theorem Rt(p:Rc):dep (rcD p)=1:=by
 unfold rcD;simp[dep,Dv]
theorem KL(p:Rc):dep (rcD p)<=50:=by rw[Rt];decide
def ED:Sp:=λ vs H Q _=>∃v,vs=[v]/\Ty H v/\Q (.bl (D6 v)) H
def Nm:Sp:=λ vs H Q _=>∃v,vs=[v]/\Ty H v/\Q (.bl (K8 v)) H
def Jx:Sp:=λ vs H Q _=>∃v,vs=[v]/\((∃a xs,v=.ref a/\H a=some (.tup xs)/\xs.length<=100/\(∀x∈xs,Ty H x)/\∀H',Same H H'->Q (.bl (Eh xs)) H')\/∃T,tyS H v=some T/\T≠"tuple"/\Q (.bl false) H)
def CP:Sp:=λ vs H Q _=>∃a b a0 a1 a2 a3 o0 o1 o2 o3,vs=[.ref a,.ref b]/\H a=some (.tup (A8 a0 a1 a2 a3))/\H b=some (.tup (A8 o0 o1 o2 o3))/\Q (.bl (GZ a0 a1 a2 a3 o0 o1 o2 o3)) H
inductive Jh(K:Frag)(vs:LUz)(H:Hp)(Q:VK)(E:XK):Prop
 |mk (a:Addr) (ns:List Int) (k:Int) (h0:vs=[.ref a,.int k]) (h1:SqL K H a (ns.map V.int)) (h2:0<=k) (h3:k<1000) (h4:∀p z,H p=none->Q (.ref p) (upd H p (.lst [.int z]))):Jh K vs H Q E
def Gv(K:Frag) :Sp:=λ vs H Q E=>Jh K vs H Q E
def FX:Sp:=λ vs H Q _=>∃p z m,vs=[.ref p,.int m]/\H p=some (.lst [.int z])/\0<m/\m<18446744073709551616/\∀r z',0<=r->r<m->Q (.int r) (upd H p (.lst [.int z']))
inductive FF(vs:LUz)(H:Hp)(Q:VK)(E:XK):Prop
 |mk (a:Addr) (p:Rc) (h0:vs=[.ref a]) (h1:H a=some (.tup (A8 p.t p.l p.b p.r))) (h2:0<=p.t) (h3:p.t<=p.b) (h4:p.b<=12) (h5:0<=p.l) (h6:p.l<=p.r) (h7:p.r<=12) (h8:∀(l:Addr)(sq:List (Addr×(Int×Int)))(H':Hp),Same H H'->H l=none->H' l=some (.lst (sq.map λ s=>V.ref s.1))->(∀s∈sq,H' s.1=some (.tup [.int s.2.1,.int s.2.2]))->sq.map (·.2)=sqs p->Q (.ref l) H'):FF vs H Q E
def Ej:Sp:=λ vs H Q E=>FF vs H Q E
inductive D3(vs:LUz)(H:Hp)(Q:VK)(E:XK):Prop
 |mk (w h:Int) (h0:vs=[.int w,.int h]) (h1:(1<=w/\w<=12)) (h2:(1<=h/\h<=12)) (h3:∀H',Same H H'->Q .non H'):D3 vs H Q E
def Cb:Sp:=λ vs H Q E=>D3 vs H Q E
inductive D4(K:Frag)(vs:LUz)(H:Hp)(Q:VK)(E:XK):Prop
 |mk (l sh:Addr) (w h:Int) (ts:List (Addr×Rc)) (h0:vs=[.ref l,.ref sh]) (h1:SqL K H l (Ao ts)) (h2:At H ts) (h3:H sh=some (.tup (A8 0 0 h w))) (h4:(∀p∈rcs ts,p.In w h)) (h5:ts.length<=52) (h6:∀H',Same H H'->Q .non H'):D4 K vs H Q E
def DA(K:Frag) :Sp:=λ vs H Q E=>D4 K vs H Q E
inductive Ei(K:Frag)(vs:LUz)(H:Hp)(Q:VK)(E:XK):Prop
 |mk (l:Addr) (w h:Int) (ts:List (Addr×Rc)) (h0:vs=[.ref l]) (h1:SqL K H l (Ao ts)) (h2:At H ts) (h3:(∀p∈rcs ts,p.In w h)) (h4:(rcs ts).Pairwise Apart) (h5:ts.length<=52) (h6:w<=12) (h7:h<=12) (h8:∀(d:Addr)(kvs:LKz)(H':Hp),Same H H'->H d=none->H' d=some (.dT kvs)->(∀t∈ts,∀r c,t.2.has r c->Bz kvs (sqK r c)=some (.ref t.1))->Q (.ref d) H'):Ei K vs H Q E
def EE(K:Frag) :Sp:=λ vs H Q E=>Ei K vs H Q E
inductive C7(vs:LUz)(H:Hp)(Q:VK)(E:XK):Prop
 |mk (d sh:Addr) (w h:Int) (kvs:LKz) (h0:vs=[.ref d,.ref sh]) (h1:H d=some (.dT kvs)) (h2:H sh=some (.tup (A8 0 0 h w))) (h3:(1<=w/\w<=12)) (h4:(1<=h/\h<=12)) (h5:(∀r c,0<=r->r<h->0<=c->c<w->Bz kvs (sqK r c)≠none)) (h6:∀H',Same H H'->Q .non H'):C7 vs H Q E
def CQ:Sp:=λ vs H Q E=>C7 vs H Q E
inductive Jo(K:Frag)(C:Addr)(vs:LUz)(H:Hp)(Q:VK)(E:XK):Prop
 |mk (a dx l:Addr) (w h:Int) (ts:List (Addr×Rc)) (h0:vs=[.ref a,.int w,.int h,.ref l]) (h1:H a=some (.ins C dx [])) (h2:SqL K H l (Ao ts)) (h3:At H ts) (h4:Tiles w h (rcs ts)) (h5:ts.length<=52) (h6:(1<=w/\w<=12)) (h7:(1<=h/\h<=12)) (h8:∀(ts':List (Addr×Rc))(ls ld:Addr)(kvs:LKz)(H':Hp),SameX a H H'->ts'.Perm ts->PanelAt C H' a w h ts' dx ls ld kvs->Q .non H'):Jo K C vs H Q E
def Gy(K:Frag)(C:Addr) :Sp:=λ vs H Q E=>Jo K C vs H Q E
inductive Ji(C:Addr)(vs:LUz)(H:Hp)(Q:VK)(E:XK):Prop
 |mk (a dx ls ld:Addr) (w h:Int) (ts:List (Addr×Rc)) (kvs:LKz) (h0:vs=[.ref a]) (h1:PanelAt C H a w h ts dx ls ld kvs) (h2:∀l,H l=none->Q (.ref l) (upd H l (.lst (Ao ts)))):Ji C vs H Q E
def D9(C:Addr) :Sp:=λ vs H Q E=>Ji C vs H Q E
inductive FG(C:Addr)(vs:LUz)(H:Hp)(Q:VK)(E:XK):Prop
 |mk (a dx ls ld:Addr) (w h r c:Int) (ts:List (Addr×Rc)) (kvs:LKz) (h0:vs=[.ref a,.int r,.int c]) (h1:PanelAt C H a w h ts dx ls ld kvs) (h2:0<=r) (h3:r<h) (h4:0<=c) (h5:c<w) (h6:∀t H',t∈ts->t.2.has r c->Same H H'->Q (.ref t.1) H'):FG C vs H Q E
def Ek(C:Addr) :Sp:=λ vs H Q E=>FG C vs H Q E
inductive Hz(C:Addr)(vs:LUz)(H:Hp)(Q:VK)(E:XK):Prop
 |mk (a dx ls ld:Addr) (w h:Int) (ts:List (Addr×Rc)) (kvs:LKz) (h0:vs=[.ref a]) (h1:PanelAt C H a w h ts dx ls ld kvs) (h2:∀(b dy ls' ld':Addr)(ts':List (Addr×Rc))(kvs':LKz)(H':Hp),Same H H'->PanelAt C H' b h w ts' dy ls' ld' kvs'->(rcs ts').Perm ((rcs ts).map Rc.sw)->Q (.ref b) H'):Hz C vs H Q E
def Ix(C:Addr) :Sp:=λ vs H Q E=>Hz C vs H Q E
structure Txt(mg:MGz)(tk:Tok×Tok×Tok×Tok×Tok×Tok×Tok×Tok×Tok×Tok):Prop where
 z_isinstance:mg "isinstance"=none
 z_int:mg "int"=none
 z_bool:mg "bool"=none
 z_tuple:mg "tuple"=none
 z_list:mg "list"=none
 z_len:mg "len"=none
 z_range:mg "range"=none
 z_all:mg "all"=none
 z_any:mg "any"=none
 z_sorted:mg "sorted"=none
 z_str:mg "str"=none
 z_reversed:mg "reversed"=none
 z_min:mg "min"=none
 z_max:mg "max"=none
 z_enumerate:mg "enumerate"=none
 z_ValueError:mg "ValueError"=none
 g_LONGEST_SIDE:mg "LONGEST_SIDE"=some (.int 12 tk.1)
 g_MOST_PANES:mg "MOST_PANES"=some (.int 52 tk.2.1)
 g_WHOLE:mg "WHOLE"=some (.str "whole" tk.2.2.1)
 g_UPRIGHT_cuts:mg "UPRIGHT_cuts"=some (.str "upright" tk.2.2.2.1)
 g_LEVEL_cuts:mg "LEVEL_cuts"=some (.str "level" tk.2.2.2.2.1)
 g_TOP:mg "TOP"=some (.int 0 tk.2.2.2.2.2.1)
 g_LEFT:mg "LEFT"=some (.int 1 tk.2.2.2.2.2.2.1)
 g_ROOM:mg "ROOM"=some (.str "room" tk.2.2.2.2.2.2.2.1)
 g_LEVEL_leads:mg "LEVEL_leads"=some (.str "level" tk.2.2.2.2.2.2.2.2.1)
 g_UPRIGHT_leads:mg "UPRIGHT_leads"=some (.str "upright" tk.2.2.2.2.2.2.2.2.2)
structure LN(K:Frag)(C:Addr):Prop where
 cl:Cls K C
 n_width:NoAttr K C "width"
 n_height:NoAttr K C "height"
 n_sorted_panes:NoAttr K C "sorted_panes"
 n_by_square:NoAttr K C "by_square"
theorem BE{c:Bool}{A B:Prop}(h:c=true)(a:A):if c=true then A else B:=by rw[if_pos h];exact a
def BY(p q:Rc):Bool:=GZ p.t p.l p.b p.r q.t q.l q.b q.r
def apR(p q:Rc):Bool:=decide (p.r<=q.l)||decide (q.r<=p.l)||(decide (p.b<=q.t)||decide (q.b<=p.t))
def okA(ps:List Rc)(q:Rc):Bool:=ps.all λ p=>BY p q||apR p q
def N0(q:Rc):Bool:=Eh (A8 q.t q.l q.b q.r)
def blk(w h:Int)(ps:List Rc)(q:Rc):Bool:=N0 q&&BY q ⟨0,0,h,w⟩&&okA ps q
def UA(w h:Int)(ps:List Rc):Option Rc->Bool
 |none=>false
 |some q=>blk w h ps q
def Sd(H:Hp)(v:V):Option Rc->Prop
 |some q=>∃b,v=.ref b/\H b=some (.tup (A8 q.t q.l q.b q.r))
 |none=>(∃a xs,v=.ref a/\H a=some (.tup xs)/\xs.length<=100/\(∀x∈xs,Ty H x)/\Eh xs=false)\/∃T,tyS H v=some T/\T≠"tuple"
def K7:Sp:=λ vs H Q _=>∃a b p q,vs=[.ref a,.ref b]/\H a=some (.tup (A8 p.t p.l p.b p.r))/\H b=some (.tup (A8 q.t q.l q.b q.r))/\Q (.bl (apR p q)) H
inductive Jm(C:Addr)(vs:LUz)(H:Hp)(Q:VK)(E:XK):Prop
 |mk (a dx ls ld:Addr) (w h:Int) (ts:List (Addr×Rc)) (kvs:LKz) (v:V) (g:Option Rc) (h0:vs=[.ref a,v]) (h1:PanelAt C H a w h ts dx ls ld kvs) (h2:Sd H v g) (h3:∀H',Same H H'->Q (.bl (UA w h (rcs ts) g)) H'):Jm C vs H Q E
def K6(C:Addr) :Sp:=λ vs H Q E=>Jm C vs H Q E
def Bb(g:Int->Bool)(acc:List (Int×Int))(p:Int):List (Int×Int) :=
 match acc.getLast? with
 |some u=>if u.2=p/\g p=false then acc.dropLast++[(u.1,p+1)] else acc++[(p,p+1)]
 |none=>acc++[(p,p+1)]
def Eg(g:Int->Bool)(ps:List Int):List (Int×Int):=ps.foldl (Bb g) []
def Bu(f:Int->Bool)(lo:Int):Nat->List Int
 |0=>[]
 |n+1=>Bu f lo n++(if f (lo+n) then [lo+n] else [])
def Cw(f g:Int->Bool)(lo:Int)(n:Nat):List (Int×Int):=Eg g (Bu f lo n)
structure Run(f g:Int->Bool)(s e:Int):Prop where
 lt:s<e
 on:∀x,s<=x->x<e->f x=true
 no:∀x,s<x->x<e->g x=false
 st:f (s-1)=false\/g s=true
theorem Run.uniq{f g:Int->Bool}{s s' e:Int}(h:Run f g s e)(h':Run f g s' e):s=s':=by
 have key:∀a b,Run f g a e->Run f g b e->¬a<b:=λ a b ha hb lt=>by
  rcases hb.st with h1|h1
  .rw[ha.on (b-1) (by lia) (by have:=hb.lt;lia)]at h1;cases h1
  .rw[ha.no b lt hb.lt]at h1;cases h1
 have h1:=key s s' h h';have h2:=key s' s h' h;lia
theorem Mq(f g:Int->Bool)(lo:Int)(n:Nat):Cw f g lo (n+1)=if f (lo+n) then Bb g (Cw f g lo n) (lo+n) else Cw f g lo n:=by
 unfold Cw Eg;show(Bu f lo n++_).foldl _ _=_;rw[List.foldl_append];cases f (lo+n)<;>rfl
structure TB(f g:Int->Bool)(lo hi:Int)(acc:List (Int×Int)):Prop where
 mem:∀u,u∈acc↔(lo<=u.1/\u.2<=hi/\Run f g u.1 u.2/\(u.2=hi\/f u.2=false\/g u.2=true))
 ord:acc.Pairwise λ u v=>u.2<=v.1
 last:f (hi-1)=true->lo<hi->∃s,acc.getLast?=some (s,hi)
theorem J9{f g:Int->Bool}{lo:Int}(h0:∀x,x<lo->f x=false):∀n:Nat,TB f g lo (lo+n) (Cw f g lo n)
 |0=>by
  refine⟨λ u=>⟨λ h=>absurd h List.not_mem_nil,λ⟨h1,h2,h3,_⟩=>?_⟩,List.Pairwise.nil,λ_ h=>absurd h (by simp)⟩;have:=h3.lt;simp at h2;lia
 |n+1=>by
  have I:=J9 (f:=f) (g:=g) h0 n;rw[Mq];generalize Cw f g lo n=acc at I |-;have hp:(lo+(n:Int))+1=lo+((n+1:Nat):Int):=by lia
  rw[<-hp];have lo_le:lo<=lo+(n:Int):=by lia
  generalize lo+(n:Int)=p at I lo_le |-;have e1:p+1-1=p:=by lia
  cases hf:f p with
  |false =>
   rw[if_neg Bool.false_ne_true];refine⟨λ u=>?_,I.ord,λ h=>by rw[e1,hf]at h;cases h⟩;rw[I.mem]
   constructor
   .rintro⟨h1,h2,h3,h4⟩;refine⟨h1,by lia,h3,?_⟩;rcases h4 with h4|h4
    .rw[h4];exact .inr (.inl hf)
    .exact .inr h4
   .rintro⟨h1,h2,h3,h4⟩;have h5:u.2≠p+1:=λ e=>by
     have:=h3.on p (by have:=h3.lt;lia) (by lia);rw[hf]at this;cases this
    exact⟨h1,by lia,h3,h4.imp_left λ e=>absurd e h5⟩
  |true =>
   rw[if_pos rfl];by_cases hx:∃s,acc.getLast?=some (s,p)/\g p=false
   .obtain⟨s,hl,hg⟩:=hx;have ha:acc=acc.dropLast++[(s,p)]:=by
     obtain⟨hne,he⟩:=List.getLast?_eq_some_iff.mp hl;rw[he];simp
    have hr:Bb g acc p=acc.dropLast++[(s,p+1)]:=by
     unfold Bb;rw[hl];simp[hg]
    rw[hr];generalize acc.dropLast=dl at ha |-;subst ha;have od:=List.pairwise_append.mp I.ord;have hs:lo<=s/\p<=p/\Run f g s p/\_:=(I.mem (s,p)).mp (by simp);obtain⟨s1,-,s2,-⟩:=hs;have s3:=s2.lt;refine⟨λ u=>?_,List.pairwise_append.mpr ⟨od.1,List.pairwise_singleton _ _,λ a ha b hb=>?_⟩,λ_ _=>⟨s,by simp⟩⟩
    .rw[List.mem_append,List.mem_singleton]
     constructor
     .rintro(h|rfl)
      .obtain⟨h1,h2,h3,h4⟩:=(I.mem u).mp (List.mem_append_left _ h);have h5:=od.2.2 u h (s,p) (by simp);refine⟨h1,by lia,h3,?_⟩;have h6:u.2≠p:=by have:u.2<=s:=h5;lia
       exact .inr (h4.resolve_left h6)
      .refine⟨s1,Int.le_refl _,⟨by show s<p+1;lia,λ x a b=>?_,λ x a b=>?_,s2.st⟩,.inl rfl⟩
       .by_cases e:x=p
        .rw[e];exact hf
        .exact s2.on x a (by have:x<p+1:=b;lia)
       .by_cases e:x=p
        .rw[e];exact hg
        .exact s2.no x a (by have:x<p+1:=b;lia)
     .rintro⟨h1,h2,h3,h4⟩;by_cases e:u.2=p+1
      .right
       have h5:u.1≠p:=λ e'=>by
        rcases h3.st with h6|h6
        .rw[e',s2.on (p-1) (by lia) (by lia)]at h6;cases h6
        .rw[e',hg]at h6;cases h6
       have h7:=h3.lt;have h8:Run f g u.1 p:=⟨by lia,λ x a b=>h3.on x a (by lia),λ x a b=>h3.no x a (by lia),h3.st⟩;have h9:=h8.uniq s2;exact Prod.ext h9 e
      .left
       have h5:u.2≠p:=λ e'=>by
        rcases h4 with h4|h4|h4
        .exact e h4
        .rw[e',hf]at h4;cases h4
        .rw[e',hg]at h4;cases h4
       have h6:=(I.mem u).mpr ⟨h1,by lia,h3,.inr (h4.resolve_left e)⟩;rcases List.mem_append.mp h6 with h6|h6
       .exact h6
       .rw[List.mem_singleton.mp h6]at h5;exact absurd rfl h5
    .rw[List.mem_singleton.mp hb];exact od.2.2 a ha (s,p) (by simp)
   .have hr:Bb g acc p=acc++[(p,p+1)]:=by
     unfold Bb;cases hl:acc.getLast? with
     |none=>rfl
     |some u =>
      show(if _ then _ else _)=_;rw[if_neg];rintro⟨a,b⟩;exact hx ⟨u.1,by rw[hl,<-a],b⟩
    rw[hr];have top:∀u∈acc,u.2=p->g p=true:=λ u hu e=>by
     obtain⟨h1,h2,h3,h4⟩:=(I.mem u).mp hu;have h5:=h3.lt;obtain⟨s,hl⟩:=I.last (h3.on (p-1) (by lia) (by lia)) (by lia);cases hg:g p with
     |true=>rfl
     |false=>exact absurd ⟨s,hl,hg⟩ hx
    refine⟨λ u=>?_,List.pairwise_append.mpr ⟨I.ord,List.pairwise_singleton _ _,λ a ha b hb=>?_⟩,λ_ _=>⟨p,by simp⟩⟩
    .rw[List.mem_append,List.mem_singleton]
     constructor
     .rintro(h|rfl)
      .obtain⟨h1,h2,h3,h4⟩:=(I.mem u).mp h;refine⟨h1,by lia,h3,?_⟩;rcases h4 with h4|h4
       .exact .inr (.inr (by rw[h4];exact top u h h4))
       .exact .inr h4
      .refine⟨lo_le,Int.le_refl _,⟨by show p<p+1;lia,λ x a b=>?_,λ x a b=>?_,?_⟩,.inl rfl⟩
       .have:x=p:=by have:x<p+1:=b;have:p<=x:=a;lia
        rw[this];exact hf
       .have:x<p+1:=b;have:p<x:=a;lia
       .show f (p-1)=false\/g p=true;cases h1:f (p-1) with
        |false=>exact .inl rfl
        |true =>
         right
         have lt:lo<p:=by
          apply Classical.byContradiction;intro hn;rw[h0 (p-1) (by lia)]at h1;cases h1
         obtain⟨s,hl⟩:=I.last h1 lt;cases hg:g p with
         |true=>rfl
         |false=>exact absurd ⟨s,hl,hg⟩ hx
     .rintro⟨h1,h2,h3,h4⟩;have h7:=h3.lt;by_cases e:u.2=p+1
      .right
       refine Prod.ext ?_ e;show u.1=p;apply Classical.byContradiction;intro ne;have gp:=h3.no p (by lia) (by lia);obtain⟨s,hl⟩:=I.last (h3.on (p-1) (by lia) (by lia)) (by lia);exact hx ⟨s,hl,gp⟩
      .left
       exact(I.mem u).mpr ⟨h1,by lia,h3,.inr (h4.resolve_left e)⟩
    .rw[List.mem_singleton.mp hb];exact((I.mem a).mp ha).2.1
structure BZ(f g:Int->Bool)(s e:Int):Prop extends Run f g s e where
 en:f e=false\/g e=true
theorem KA{f g:Int->Bool}{lo hi:Int}(h:lo<=hi)(h0:∀x,x<lo->f x=false)(h1:∀x,hi<=x->f x=false)(u:Int×Int):u∈Cw f g lo (hi-lo).toNat↔BZ f g u.1 u.2:=by
 have I:=J9 (g:=g) h0 (hi-lo).toNat;have e:lo+((hi-lo).toNat:Int)=hi:=by lia
 rw[e]at I;rw[I.mem]
 constructor
 .rintro⟨a,b,c,d⟩;exact⟨c,d.elim (λ z=>.inl (h1 _ (by lia))) id⟩
 .rintro⟨c,d⟩;refine⟨?_,?_,c,.inr d⟩
  .apply Classical.byContradiction;intro hn;have:=c.on u.1 (Int.le_refl _) c.lt;rw[h0 u.1 (by lia)]at this;cases this
  .apply Classical.byContradiction;intro hn;have:=c.on (u.2-1) (by have:=c.lt;lia) (by lia);rw[h1 (u.2-1) (by lia)]at this;cases this
theorem G0{f g:Int->Bool}{lo:Int}(h0:∀x,x<lo->f x=false)(n:Nat):(Cw f g lo n).Nodup:=by
 have I:=J9 (g:=g) h0 n;refine List.Pairwise.imp_of_mem ?_ I.ord;intro a b ha hb h e;subst e;have:=((I.mem a).mp ha).2.2.1.lt;lia
def Qp(p:Rc)(r c:Int):Bool:=decide (p.t<=r)&&decide (r<p.b)&&(decide (p.l<=c)&&decide (c<p.r))
theorem hasB_iff{p:Rc}{r c:Int}:Qp p r c=true↔p.has r c:=by
 unfold Qp Rc.has;simp only[Bool.and_eq_true,decide_eq_true_eq]
 constructor
 .rintro⟨⟨a,b⟩,c,d⟩;exact⟨a,b,c,d⟩
 .rintro⟨a,b,c,d⟩;exact⟨⟨a,b⟩,c,d⟩
def own(ps:List Rc)(r c:Int):Rc:=(ps.find? λ p=>Qp p r c).getD ⟨0,0,0,0⟩
theorem Dp{ps:List Rc}(h:ps.Pairwise Apart){p:Rc}{r c:Int}(hp:p∈ps)(a:p.has r c):own ps r c=p:=by
 unfold own;cases e:ps.find? λ p=>Qp p r c with
 |none=>exact absurd (hasB_iff.mpr a) (List.find?_eq_none.mp e p hp)
 |some q=>exact MT h (List.mem_of_find?_eq_some e) hp (hasB_iff.mp (List.find?_some (p:=λ p=>Qp p r c) e)) a
def lvB(ps:List Rc)(q:Rc)(r c:Int):Bool:=decide (q.t<r)&&decide (r<q.b)&&(decide (q.l<=c)&&decide (c<q.r))&&!decide (own ps (r-1) c=own ps r c)
def upB(ps:List Rc)(q:Rc)(r c:Int):Bool:=decide (q.t<=r)&&decide (r<q.b)&&(decide (q.l<c)&&decide (c<q.r))&&!decide (own ps r (c-1)=own ps r c)
def psB(ps:List Rc)(q:Rc)(r c:Int):Bool:=lvB ps q r (c-1)&&lvB ps q r c
theorem BU{ps:List Rc}{q:Rc}{r c:Int}(h:lvB ps q r c=true):q.t<r/\r<q.b/\q.l<=c/\c<q.r:=by
 unfold lvB at h;simp only[Bool.and_eq_true,decide_eq_true_eq]at h;exact⟨h.1.1.1,h.1.1.2,h.1.2.1,h.1.2.2⟩
theorem C8{ps:List Rc}{q:Rc}{r c:Int}(h:upB ps q r c=true):q.t<=r/\r<q.b/\q.l<c/\c<q.r:=by
 unfold upB at h;simp only[Bool.and_eq_true,decide_eq_true_eq]at h;exact⟨h.1.1.1,h.1.1.2,h.1.2.1,h.1.2.2⟩
theorem ME{ps:List Rc}{q:Rc}{r c:Int}(h1:q.t<r)(h2:r<q.b)(h3:q.l<=c)(h4:c<q.r):lvB ps q r c=!decide (own ps (r-1) c=own ps r c):=by
 unfold lvB;simp[h1,h2,h3,h4]
theorem Ma{ps:List Rc}{q:Rc}{r c:Int}(h1:q.t<=r)(h2:r<q.b)(h3:q.l<c)(h4:c<q.r):upB ps q r c=!decide (own ps r (c-1)=own ps r c):=by
 unfold upB;simp[h1,h2,h3,h4]
abbrev LD:Type:=Bool×Int×Int×Int
def AQ(ps:List Rc)(q:Rc):LD->Prop
 | (false,n,s,e)=>BZ (λ c=>lvB ps q n c) (λ_=>false) s e
 | (true,n,s,e)=>BZ (λ r=>upB ps q r n) (λ r=>psB ps q r n) s e
def lvN(ps:List Rc)(q:Rc):Nat->List LD
 |0=>[]
 |n+1=>lvN ps q n++(Cw (λ c=>lvB ps q (q.t+1+n) c) (λ_=>false) q.l (q.r-q.l).toNat).map λ u=>(false,q.t+1+n,u.1,u.2)
def upN(ps:List Rc)(q:Rc):Nat->List LD
 |0=>[]
 |n+1=>upN ps q n++(Cw (λ r=>upB ps q r (q.l+1+n)) (λ r=>psB ps q r (q.l+1+n)) q.t (q.b-q.t).toNat).map λ u=>(true,q.l+1+n,u.1,u.2)
theorem JT{ps:List Rc}{q:Rc}(hq:q.l<=q.r)(d:LD):∀n:Nat,d∈lvN ps q n↔d.1=false/\AQ ps q d/\q.t<d.2.1/\d.2.1<q.t+1+n
 |0=>⟨λ h=>absurd h List.not_mem_nil,λ⟨_,_,a,b⟩=>by simp at b;lia⟩
 |k+1=>by
  show d∈lvN ps q k++_↔_;rw[List.mem_append,JT hq d k,List.mem_map];rcases d with ⟨b,n,s,e⟩;have rm:=λ u:Int×Int=>KA (f:=λ c=>lvB ps q (q.t+1+k) c) (g:=λ_=>false) hq (λ x hx=>by
   cases h:lvB ps q (q.t+1+k) x with
   |false=>rfl
   |true=>have:=BU h;lia) (λ x hx=>by
   cases h:lvB ps q (q.t+1+k) x with
   |false=>rfl
   |true=>have:=BU h;lia) u
  constructor
  .rintro(⟨a,b,c,d⟩|⟨u,hu,e⟩)
   .exact⟨a,b,c,by show n<_;have:n<q.t+1+k:=d;lia⟩
   .cases e;exact⟨rfl,(rm u).mp hu,by show q.t<q.t+1+k;lia,by show q.t+1+k<q.t+1+((k+1:Nat):Int);lia⟩
  .rintro⟨a,i,c,d⟩;cases a;have d':n<q.t+1+((k+1:Nat):Int):=d;by_cases e1:n=q.t+1+k
   .subst e1;exact .inr ⟨(s,e),(rm (s,e)).mpr i,rfl⟩
   .exact .inl ⟨rfl,i,c,by show n<_;lia⟩
theorem Js{ps:List Rc}{q:Rc}(hq:q.t<=q.b)(d:LD):∀n:Nat,d∈upN ps q n↔d.1=true/\AQ ps q d/\q.l<d.2.1/\d.2.1<q.l+1+n
 |0=>⟨λ h=>absurd h List.not_mem_nil,λ⟨_,_,a,b⟩=>by simp at b;lia⟩
 |k+1=>by
  show d∈upN ps q k++_↔_;rw[List.mem_append,Js hq d k,List.mem_map];rcases d with ⟨b,n,s,e⟩;have rm:=λ u:Int×Int=>KA (f:=λ r=>upB ps q r (q.l+1+k)) (g:=λ r=>psB ps q r (q.l+1+k)) hq (λ x hx=>by
   cases h:upB ps q x (q.l+1+k) with
   |false=>rfl
   |true=>have:=C8 h;lia) (λ x hx=>by
   cases h:upB ps q x (q.l+1+k) with
   |false=>rfl
   |true=>have:=C8 h;lia) u
  constructor
  .rintro(⟨a,b,c,d⟩|⟨u,hu,e⟩)
   .exact⟨a,b,c,by show n<_;have:n<q.l+1+k:=d;lia⟩
   .cases e;exact⟨rfl,(rm u).mp hu,by show q.l<q.l+1+k;lia,by show q.l+1+k<q.l+1+((k+1:Nat):Int);lia⟩
  .rintro⟨a,i,c,d⟩;cases a;have d':n<q.l+1+((k+1:Nat):Int):=d;by_cases e1:n=q.l+1+k
   .subst e1;exact .inr ⟨(s,e),(rm (s,e)).mpr i,rfl⟩
   .exact .inl ⟨rfl,i,c,by show n<_;lia⟩
theorem IG{ps:List Rc}{q:Rc}(hq:q.l<=q.r):∀n:Nat,(lvN ps q n).Nodup
 |0=>List.Pairwise.nil
 |k+1=>by
  show(lvN ps q k++_).Nodup;refine List.nodup_append.mpr ⟨IG hq k,?_,λ a ha b hb e=>?_⟩
  .refine List.pairwise_map.mpr ((G0 (λ x hx=>?_) _).imp λ{a b} h e=>h ?_)
   .cases h:lvB ps q (q.t+1+k) x with
    |false=>rfl
    |true=>have:=BU h;lia
   .exact congrArg (λ d:LD=>d.2.2) e
  .subst e;obtain⟨u,_,rfl⟩:=List.mem_map.mp hb;have h1:=((JT hq _ k).mp ha).2.2.2;simp at h1
theorem Iw{ps:List Rc}{q:Rc}(hq:q.t<=q.b):∀n:Nat,(upN ps q n).Nodup
 |0=>List.Pairwise.nil
 |k+1=>by
  show(upN ps q k++_).Nodup;refine List.nodup_append.mpr ⟨Iw hq k,?_,λ a ha b hb e=>?_⟩
  .refine List.pairwise_map.mpr ((G0 (λ x hx=>?_) _).imp λ{a b} h e=>h ?_)
   .cases h:upB ps q x (q.l+1+k) with
    |false=>rfl
    |true=>have:=C8 h;lia
   .exact congrArg (λ d:LD=>d.2.2) e
  .subst e;obtain⟨u,_,rfl⟩:=List.mem_map.mp hb;have h1:=((Js hq _ k).mp ha).2.2.2;simp at h1
def BX(ps:List Rc)(q:Rc):List LD:=lvN ps q (q.b-(q.t+1)).toNat
def Dy(ps:List Rc)(q:Rc):List LD:=upN ps q (q.r-(q.l+1)).toNat
theorem DY{ps:List Rc}{q:Rc}(hq:q.l<=q.r)(d:LD):d∈BX ps q↔d.1=false/\AQ ps q d:=by
 unfold BX;rw[JT hq];refine⟨λ⟨a,b,_⟩=>⟨a,b⟩,λ⟨a,b⟩=>⟨a,b,?_⟩⟩;rcases d with ⟨x,n,s,e⟩;cases a;have i:BZ (λ c=>lvB ps q n c) (λ_=>false) s e:=b;have:=BU (i.on s (Int.le_refl _) i.lt);exact⟨by show q.t<n;lia,by show n<_;lia⟩
theorem Iv{ps:List Rc}{q:Rc}(hq:q.t<=q.b)(d:LD):d∈Dy ps q↔d.1=true/\AQ ps q d:=by
 unfold Dy;rw[Js hq];refine⟨λ⟨a,b,_⟩=>⟨a,b⟩,λ⟨a,b⟩=>⟨a,b,?_⟩⟩;rcases d with ⟨x,n,s,e⟩;cases a;have i:BZ (λ r=>upB ps q r n) (λ r=>psB ps q r n) s e:=b;have:=C8 (i.on s (Int.le_refl _) i.lt);exact⟨by show q.l<n;lia,by show n<_;lia⟩
theorem Fr{ps:List Rc}{q:Rc}(h1:q.l<=q.r)(h2:q.t<=q.b)(d:LD):d∈BX ps q++Dy ps q↔AQ ps q d:=by
 rw[List.mem_append,DY h1,Iv h2];rcases d with ⟨b,n⟩;cases b<;>simp
theorem Lo{ps:List Rc}{q:Rc}(h1:q.l<=q.r)(h2:q.t<=q.b):(BX ps q++Dy ps q).Nodup :=
 List.nodup_append.mpr ⟨IG h1 _,Iw h2 _,λ a ha b hb e=>by
  subst e;have x:=((DY h1 a).mp ha).1;rw[((Iv h2 a).mp hb).1]at x;cases x⟩
theorem KC(f:Int->Bool)(lo:Int)(h0:∀x,x<lo->f x=false):∀(n:Nat)(x:Int),f x=true->x<lo+n->∃s,s<=x/\f (s-1)=false/\∀y,s<=y->y<=x->f y=true
 |0,x,h,b=>by rw[h0 x (by lia)]at h;cases h
 |n+1,x,h,b=>by
  cases e:f (x-1) with
  |false=>exact⟨x,Int.le_refl _,e,λ y a b=>by rw[show y=x by lia];exact h⟩
  |true =>
   obtain⟨s,s1,s2,s3⟩:=KC f lo h0 n (x-1) e (by lia);exact⟨s,by lia,s2,λ y a b=>by
    by_cases z:y=x
    .rw[z];exact h
    .exact s3 y a (by lia)⟩
theorem I8(f:Int->Bool)(hi:Int)(h1:∀x,hi<=x->f x=false):∀(n:Nat)(x:Int),f x=true->hi<=x+n->∃e,x<e/\f e=false/\∀y,x<=y->y<e->f y=true
 |0,x,h,b=>by rw[h1 x (by lia)]at h;cases h
 |n+1,x,h,b=>by
  cases e:f (x+1) with
  |false=>exact⟨x+1,by lia,e,λ y a b=>by rw[show y=x by lia];exact h⟩
  |true =>
   obtain⟨s,s1,s2,s3⟩:=I8 f hi h1 n (x+1) e (by lia);exact⟨s,by lia,s2,λ y a b=>by
    by_cases z:y=x
    .rw[z];exact h
    .exact s3 y (by lia) b⟩
theorem Ow{ps:List Rc}{q:Rc}(hq:q.l<=q.r)(r c:Int):(∃d∈BX ps q,d.2.1=r/\d.2.2.1<c/\c<d.2.2.2)↔psB ps q r c=true:=by
 constructor
 .rintro⟨⟨b,n,s,e⟩,hd,rfl,h1,h2⟩;obtain⟨hb,hl⟩:=(DY hq _).mp hd;cases hb;have i:BZ (λ c=>lvB ps q n c) (λ_=>false) s e:=hl;have h1':s<c:=h1;have h2':c<e:=h2;show(lvB ps q n (c-1)&&lvB ps q n c)=true;rw[i.on (c-1) (by lia) (by lia),i.on c (by lia) (by lia)];rfl
 .intro h;unfold psB at h;simp only[Bool.and_eq_true]at h;obtain⟨h1,h2⟩:=h;obtain⟨s,s1,s2,s3⟩:=KC (λ c=>lvB ps q r c) q.l (λ x hx=>by
   cases h:lvB ps q r x with
   |false=>rfl
   |true=>have:=BU h;lia) (c-q.l).toNat (c-1) h1 (by have:=BU h1;lia)
  obtain⟨e,e1,e2,e3⟩:=I8 (λ c=>lvB ps q r c) q.r (λ x hx=>by
   cases h:lvB ps q r x with
   |false=>rfl
   |true=>have:=BU h;lia) (q.r-c).toNat c h2 (by have:=BU h2;lia)
  refine⟨(false,r,s,e),(DY hq _).mpr ⟨rfl,?_⟩,rfl,by show s<c;lia,e1⟩;show BZ (λ c=>lvB ps q r c) (λ_=>false) s e;exact⟨⟨by lia,λ x a b=>by
   by_cases z:x<c
   .exact s3 x a (by lia)
   .exact e3 x (by lia) b,λ_ _ _=>rfl,.inl s2⟩,.inl e2⟩
def At2(H:Hp)(us:List (Addr×(Int×Int))):Prop:=∀u∈us,H u.1=some (.tup [.int u.2.1,.int u.2.2])
theorem At2.same{H H':Hp}{us:List (Addr×(Int×Int))}(a:At2 H us)(s:Same H H'):At2 H' us:=λ t h=>s _ _ (a t h)
abbrev B0(us:List (Addr×(Int×Int))):LUz:=us.map λ u=>V.ref u.1
def Tm(d:LD):List Key:=[Sum.inr (cond d.1 "upright" "level"),Sum.inl d.2.1,Sum.inl d.2.2.1,Sum.inl d.2.2.2]
def AtL(H:Hp)(us:List (Addr×LD)):Prop:=∀u∈us,H u.1=some (.tup ((Tm u.2).map kV))
theorem AtL.same{H H':Hp}{us:List (Addr×LD)}(a:AtL H us)(s:Same H H'):AtL H' us:=λ t h=>s _ _ (a t h)
abbrev AZ(us:List (Addr×LD)):LUz:=us.map λ u=>V.ref u.1
inductive Om(C:Addr)(vs:LUz)(H:Hp)(Q:VK)(E:XK):Prop
 |mk (a dx ls ld b:Addr) (w h:Int) (ts:List (Addr×Rc)) (kvs:LKz) (q:Rc) (h0:vs=[.ref a,.ref b]) (h1:PanelAt C H a w h ts dx ls ld kvs) (h2:H b=some (.tup (A8 q.t q.l q.b q.r))) (h3:blk w h (rcs ts) q=true) (h4:∀H',Same H H'->Q .non H'):Om C vs H Q E
def Mj(C:Addr) :Sp:=λ vs H Q E=>Om C vs H Q E
inductive LQ(K:Frag)(vs:LUz)(H:Hp)(Q:VK)(E:XK):Prop
 |mk (l m:Addr) (ps ss:List Int) (h0:vs=[.ref l,.ref m]) (h1:SqL K H l (ps.map V.int)) (h2:SqL K H m (ss.map V.int)) (h3:ps.length<=100) (h4:∀(lf:Addr)(us:List (Addr×(Int×Int)))(H':Hp),Same H H'->H lf=none->H' lf=some (.lst (B0 us))->At2 H' us->us.map (·.2)=Eg (λ x=>decide (x∈ss)) ps->Q (.ref lf) H'):LQ K vs H Q E
def Jw(K:Frag) :Sp:=λ vs H Q E=>LQ K vs H Q E
inductive LY(C:Addr)(vs:LUz)(H:Hp)(Q:VK)(E:XK):Prop
 |mk (a dx ls ld b:Addr) (w h n:Int) (ts:List (Addr×Rc)) (kvs:LKz) (q:Rc) (h0:vs=[.ref a,.ref b,.int n]) (h1:PanelAt C H a w h ts dx ls ld kvs) (h2:H b=some (.tup (A8 q.t q.l q.b q.r))) (h3:q.In w h) (h4:q.t<n) (h5:n<q.b) (h6:∀l H',Same H H'->H l=none->H' l=some (.lst ((Bu (λ c=>lvB (rcs ts) q n c) q.l (q.r-q.l).toNat).map V.int))->Q (.ref l) H'):LY C vs H Q E
def Nt(C:Addr) :Sp:=λ vs H Q E=>LY C vs H Q E
inductive LR(C:Addr)(vs:LUz)(H:Hp)(Q:VK)(E:XK):Prop
 |mk (a dx ls ld b:Addr) (w h n:Int) (ts:List (Addr×Rc)) (kvs:LKz) (q:Rc) (h0:vs=[.ref a,.ref b,.int n]) (h1:PanelAt C H a w h ts dx ls ld kvs) (h2:H b=some (.tup (A8 q.t q.l q.b q.r))) (h3:q.In w h) (h4:q.l<n) (h5:n<q.r) (h6:∀l H',Same H H'->H l=none->H' l=some (.lst ((Bu (λ r=>upB (rcs ts) q r n) q.t (q.b-q.t).toNat).map V.int))->Q (.ref l) H'):LR C vs H Q E
def Nn(C:Addr) :Sp:=λ vs H Q E=>LR C vs H Q E
inductive Oh(C:Addr)(vs:LUz)(H:Hp)(Q:VK)(E:XK):Prop
 |mk (a dx ls ld b:Addr) (w h:Int) (ts:List (Addr×Rc)) (kvs:LKz) (q:Rc) (h0:vs=[.ref a,.ref b]) (h1:PanelAt C H a w h ts dx ls ld kvs) (h2:H b=some (.tup (A8 q.t q.l q.b q.r))) (h3:q.In w h) (h4:∀l us H',Same H H'->H l=none->H' l=some (.lst (AZ us))->AtL H' us->us.map (·.2)=BX (rcs ts) q->Q (.ref l) H'):Oh C vs H Q E
def Py(C:Addr) :Sp:=λ vs H Q E=>Oh C vs H Q E
inductive Oc(C:Addr)(vs:LUz)(H:Hp)(Q:VK)(E:XK):Prop
 |mk (a dx ls ld b m:Addr) (w h:Int) (ts:List (Addr×Rc)) (kvs:LKz) (q:Rc) (us:List (Addr×LD)) (h0:vs=[.ref a,.ref b,.ref m]) (h1:PanelAt C H a w h ts dx ls ld kvs) (h2:H b=some (.tup (A8 q.t q.l q.b q.r))) (h3:q.In w h) (h4:H m=some (.lst (AZ us))) (h5:AtL H us) (h6:us.map (·.2)=BX (rcs ts) q) (h7:∀l us' H',Same H H'->H l=none->H' l=some (.lst (AZ us'))->AtL H' us'->us'.map (·.2)=Dy (rcs ts) q->Q (.ref l) H'):Oc C vs H Q E
def Pt(C:Addr) :Sp:=λ vs H Q E=>Oc C vs H Q E
inductive Jj(C:Addr)(vs:LUz)(H:Hp)(Q:VK)(E:XK):Prop
 |mk (a dx ls ld b:Addr) (w h:Int) (ts:List (Addr×Rc)) (kvs:LKz) (q:Rc) (h0:vs=[.ref a,.ref b]) (h1:PanelAt C H a w h ts dx ls ld kvs) (h2:H b=some (.tup (A8 q.t q.l q.b q.r))) (h3:q.In w h) (h4:blk w h (rcs ts) q=true) (h5:∀l us H',Same H H'->H l=none->H' l=some (.lst (AZ us))->AtL H' us->us.map (·.2)=BX (rcs ts) q++Dy (rcs ts) q->Q (.ref l) H'):Jj C vs H Q E
def K4(C:Addr) :Sp:=λ vs H Q E=>Jj C vs H Q E
section
variable{P:Program}{w:World}{K:Frag}{mg:MGz}{base:Heap}{tk:Tok×Tok×Tok×Tok×Tok×Tok×Tok×Tok×Tok×Tok}{cT cW cU cL C:Addr}
theorem MW:Ak ["thing"] ["thing"] (Ai Ep):=fsc
theorem KY{f:Addr}{fd:FuncData}(F:Fun K "is_whole" "is_whole" Ep f fd)(T:Txt mg tk):A5 P w K mg base CX0 1 f fd ["thing"] ED:=by
 have S:=MW;refine F.ok S (λ vs H Q E h=>?_) (λ cdv A outer s H vs Q E hr h=>?_)
 .obtain⟨v,rfl,_⟩:=h;rfl
 .obtain⟨v,rfl,⟨T',hT⟩,q⟩:=h;refine⟨_,(Ah (Ap (Do (A0 Ed rfl T.z_isinstance rfl (Aa (pv 0) (Aa (FY (v:=.ty "int") rfl T.z_int rfl rfl) Ac))) (Cj (PN (A0 Ed rfl T.z_isinstance rfl (Aa (pv 0) (Aa (FY (v:=.ty "bool") rfl T.z_bool rfl rfl) Ac)))))))),?_⟩;refine⟨v,rfl,v,T',"int",rfl,hT,.inl rfl,_,rfl,Bw (λ h=>?_) (λ h=>?_)⟩
  .refine⟨v,rfl,v,T',"bool",rfl,hT,.inr (.inl rfl),_,rfl,?_⟩;rw[(K0 hT).1 h];exact q
  .show Q (.bl false) H;rw[(K0 hT).2 h];exact q
theorem Pa:Ak ["thing"] ["thing"] (Ai Fc):=fsc
theorem M4{f:Addr}{fd:FuncData}(F:Fun K "is_side" "is_side" Fc f fd)(T:Txt mg tk)(D_is_whole:Ay P w K mg base 1 "is_whole" ["thing"] ED):A5 P w K mg base CX0 2 f fd ["thing"] Nm:=by
 have S:=Pa;refine F.ok S (λ vs H Q E h=>?_) (λ cdv A outer s H vs Q E hr h=>?_)
 .obtain⟨v,rfl,_⟩:=h;rfl
 .obtain⟨v,rfl,hv,q⟩:=h;refine⟨_,(Ah (Ap (Do (Au D_is_whole hr (Aa (pv 0) Ac)) (Cj (DG CT CT Ag (pv 0) (A7 (v:=.int 12) rfl T.g_LONGEST_SIDE ⟨_,rfl⟩)))))),?_⟩;refine⟨v,rfl,v,rfl,hv,_,rfl,Bw (λ h=>?_) (λ h=>?_)⟩
  .obtain⟨i,rfl⟩:∃i,v=.int i:=by cases v<;>first|exact⟨_,rfl⟩|cases h
   refine⟨_,rfl,_,_,rfl,rfl,_,rfl,Bw (λ h1=>?_) (λ h1=>?_)⟩
   .refine⟨_,_,rfl,rfl,?_⟩;have e:K8 (.int i)=decide (i<=12):=by
     show(decide (1<=i)&&decide (i<=12))=_;rw[h1];rfl
    show Q (.bl (decide (i<=12))) H;rw[<-e];exact q
   .have e:K8 (.int i)=false:=by
     show(decide (1<=i)&&decide (i<=12))=_;rw[h1];rfl
    show Q (.bl false) H;rw[<-e];exact q
  .have e:K8 v=false:=by cases v<;>first|rfl|cases h
   show Q (.bl false) H;rw[<-e];exact q
theorem at0{x0 x1 x2 x3:V}:atI [x0,x1,x2,x3] 0=some x0:=rfl
theorem at1{x0 x1 x2 x3:V}:atI [x0,x1,x2,x3] 1=some x1:=rfl
theorem at2{x0 x1 x2 x3:V}:atI [x0,x1,x2,x3] 2=some x2:=rfl
theorem at3{x0 x1 x2 x3:V}:atI [x0,x1,x2,x3] 3=some x3:=rfl
theorem RP:∀{xs:LUz},xs.length=4->(xs.map D6).all id=true->∃a b c d,xs=A8 a b c d
 |[x0,x1,x2,x3],_,h=>by
  simp only[List.map_cons,List.map_nil,List.all_cons,List.all_nil,id,Bool.and_true,Bool.and_eq_true]at h;obtain⟨h0,h1,h2,h3⟩:=h;have g:∀{x:V},D6 x=true->∃i,x=.int i:=λ{x} h=>by cases x<;>first|exact⟨_,rfl⟩|cases h
  obtain⟨a,rfl⟩:=g h0;obtain⟨b,rfl⟩:=g h1;obtain⟨c,rfl⟩:=g h2;obtain⟨d,rfl⟩:=g h3;exact⟨a,b,c,d,rfl⟩
theorem Nz{xs:LUz}(h:∀a b c d,xs≠A8 a b c d):Eh xs=false:=by
 unfold Eh;split
 .exact absurd rfl (h _ _ _ _)
 .rfl
theorem U7{n:Nat}:(!decide (V.int (n:Int)=V.int 4))=true->n≠4:=λ h e=>by
 subst e;have:decide (V.int ((4:Nat):Int)=V.int 4)=true:=decI.mpr rfl;rw[this]at h;cases h
theorem Sy{n:Nat}:(!decide (V.int (n:Int)=V.int 4))=false->n=4:=λ h=>by
 have e:decide (V.int (n:Int)=V.int 4)=true:=by
  cases z:decide (V.int (n:Int)=V.int 4) with
  |true=>rfl
  |false=>rw[z]at h;cases h
 have:=decI.mp e;lia
theorem Ou{xs:LUz}{i:Nat}{x:V}(h:xs[i]?=some x){f:V->V}:(xs.take i).map f++[f x]=(xs.take (i+1)).map f:=by
 rw[List.take_succ,h,List.map_append];rfl
theorem Hr:Ak ["thing"] ["thing"] (Ai Cd):=fsc
theorem FM{f:Addr}{fd:FuncData}(F:Fun K "is_rectangle" "is_rectangle" Cd f fd)(T:Txt mg tk)(D_is_whole:Ay P w K mg base 1 "is_whole" ["thing"] ED):A5 P w K mg base CX0 2 f fd ["thing"] Jx:=by
 have S:=Hr;refine F.ok S (λ vs H Q E h=>?_) (λ cdv A outer s H vs Q E hr h=>?_)
 .obtain⟨v,rfl,_⟩:=h;rfl
 .obtain⟨v,rfl,h⟩:=h;refine⟨_,(Af (AL (PW.pt (ID (BR (Bc (A0 Ed rfl T.z_isinstance rfl (Aa (pv 0) (Aa (FY (v:=.ty "tuple") rfl T.z_tuple rfl rfl) Ac))))) (Fg (A9 PU (A0 AA rfl T.z_len rfl (Aa (pv 0) Ac)) Ag (A3 _))))) (Ah (Ap G6)) A6)
   (Af (AL (BR (Bc (A0 Hn rfl T.z_all rfl (Aa (DW rfl (Mw (pv 0)) (λ_ _ _ _ _=>(Aj (i:=0) (show List.Nodup (["part"]:LSz) from by decide +kernel) rfl (Or.inl rfl))) (λ_ _ _ _ _=>(Au D_is_whole hr (Aa (pv 0) Ac))) (N:=["part"]) (fr:=[none])) Ac)))) (Ah (Ap G6)) A6)
   (Ah (Ap (Do (DG CT DH Ag (An Al (pv 0) Ag (λ_ _=>rfl)) (An Al (pv 0) Ag (λ_ _=>rfl))) (Cj (DG CT DH Ag (An Al (pv 0) Ag (λ_ _=>rfl)) (An Al (pv 0) Ag (λ_ _=>rfl))))))))),?_⟩
  rcases h with ⟨a,xs,rfl,ha,hlen,hx,q⟩|⟨T',hT,hne,q⟩
  .refine⟨_,rfl,_,"tuple","tuple",rfl,Pj ha,.inr (.inr (.inl rfl)),_,rfl,Bq (by rw[Qj];rfl) ?_⟩;refine⟨_,rfl,a,xs,rfl,.inr (SqT.of ha),rfl,_,rfl,Bw (λ h=>?_) (λ h=>?_)⟩
   .have e:Eh xs=false:=Nz λ a b c d z=>U7 h (by rw[z];rfl);show Q (.bl false) H;rw[<-e];exact q H (Same.refl H)
   .have h4:=Sy h;refine⟨_,rfl,a,rfl,⟨xs,SqT.of ha⟩,λ acc hacc=>Q9 (K:=K) (a:=a) (ys:=xs) (λ i zs σ H'=>(∃y,σ=[y])/\Same H H'/\zs=(xs.take i).map λ x=>V.bl (D6 x)) ⟨⟨none,rfl⟩,Same.new hacc,rfl⟩
     (λ i zs σ H' _ _ hp=>SqT.of (hp.2.1 _ _ ha)) ?_ ?_⟩
    .rintro i x zs σ H' hxi hi hl hacc' ⟨⟨y,rfl⟩,hs,hzs⟩;refine⟨x,rfl,x,rfl,(hx x (List.mem_of_getElem? hxi)).same hs,cNx.mk (Nat.le_of_lt (Am (by lia))) hi hl hacc' ⟨⟨_,rfl⟩,λ b o e=>?_,?_⟩⟩
     .rw[Ae (Ad e hacc)];exact hs b o e
     .rw[hzs];exact Ou (f:=λ x=>V.bl (D6 x)) hxi
    .rintro zs σ H' hl hacc' ⟨_,hs,hzs⟩;refine⟨acc,xs.map D6,rfl,SqL.of (by rw[hacc',hzs,List.take_length,List.map_map];rfl),rfl,_,rfl,Bw (λ h=>?_) (λ h=>?_)⟩
     .have e:Eh xs=false:=Nz λ a b c d z=>by subst z;cases h
      show Q (.bl false) H';rw[<-e];exact q H' hs
     .obtain⟨a0,a1,a2,a3,rfl⟩:=RP h4 (by simpa using h);have ha':=hs _ _ ha;have key:Q (.bl (decide (0<=a0)&&decide (a0<a2)&&(decide (0<=a1)&&decide (a1<a3)))) H':=q H' hs;refine⟨_,rfl,a,_,_,_,rfl,rfl,SqT.of ha',at0,_,_,rfl,rfl,_,rfl,Bw (λ h1=>?_) (λ h1=>?_)⟩
      .refine⟨_,rfl,a,_,_,_,rfl,rfl,SqT.of ha',at2,_,_,rfl,rfl,_,rfl,Bw (λ h2=>?_) (λ h2=>?_)⟩
       .refine⟨_,rfl,a,_,_,_,rfl,rfl,SqT.of ha',at1,_,_,rfl,rfl,_,rfl,Bw (λ h3=>?_) (λ h3=>?_)⟩
        .refine⟨_,rfl,a,_,_,_,rfl,rfl,SqT.of ha',at3,_,_,rfl,rfl,?_⟩;rw[h1,h2,h3]at key;exact key
        .show Q (.bl false) H';rw[h1,h2,h3]at key;exact key
       .show Q (.bl false) H';rw[h1,h2]at key;exact key
      .refine⟨_,rfl,Qh ?_⟩;show Q (.bl false) H';rw[h1]at key;exact key
  .refine⟨_,rfl,_,T',"tuple",rfl,hT,.inr (.inr (.inl rfl)),_,rfl,BE ?_ (Tn q)⟩;have e:isB T' "tuple"=false:=by
    unfold isB;rw[decide_eq_false hne];simp
   rw[e];rfl
theorem QM:Ak ["one","other","starts_within"] ["one","other"] (Ai Gz):=fsc
theorem O8{f:Addr}{fd:FuncData}(F:Fun K "inside" "inside" Gz f fd):A5 P w K mg base CX0 1 f fd ["one","other"] CP:=by
 have S:=QM;refine F.ok S (λ vs H Q E h=>?_) (λ cdv A outer s H vs Q E hr h=>?_)
 .obtain⟨a,b,a0,a1,a2,a3,o0,o1,o2,o3,rfl,_⟩:=h;rfl
 .obtain⟨a,b,a0,a1,a2,a3,o0,o1,o2,o3,rfl,ha,hb,q⟩:=h;refine⟨_,(Af (Aq (i:=2) S.nd rfl (Or.inl rfl) (Do (Bk CT (An Al (pv 1) Ag (λ_ _=>rfl)) (An Al (pv 0) Ag (λ_ _=>rfl)) (A3 _)) (Cj (Bk CT (An Al (pv 1) Ag (λ_ _=>rfl)) (An Al (pv 0) Ag (λ_ _=>rfl)) (A3 _)))))
   (Ah (Ap (Do (pv 2) (Do (Bk CT (An Al (pv 0) Ag (λ_ _=>rfl)) (An Al (pv 1) Ag (λ_ _=>rfl)) (A3 _)) (Cj (Bk CT (An Al (pv 0) Ag (λ_ _=>rfl)) (An Al (pv 1) Ag (λ_ _=>rfl)) (A3 _)))))))),?_⟩
  have key:Q (.bl (decide (o0<=a0)&&decide (o1<=a1)&&(decide (a2<=o2)&&decide (a3<=o3)))) H:=q;refine⟨_,rfl,b,_,_,_,rfl,rfl,SqT.of hb,at0,_,rfl,a,_,_,_,rfl,rfl,SqT.of ha,at0,_,_,rfl,rfl,_,rfl,Bw (λ h1=>?_) (λ h1=>?_)⟩
  .refine⟨_,rfl,b,_,_,_,rfl,rfl,SqT.of hb,at1,_,rfl,a,_,_,_,rfl,rfl,SqT.of ha,at1,_,_,rfl,rfl,?_⟩;refine⟨_,rfl,_,rfl,Bw (λ h2=>?_) (λ h2=>?_)⟩
   .refine⟨_,rfl,a,_,_,_,rfl,rfl,SqT.of ha,at2,_,rfl,b,_,_,_,rfl,rfl,SqT.of hb,at2,_,_,rfl,rfl,_,rfl,Bw (λ h3=>?_) (λ h3=>?_)⟩
    .refine⟨_,rfl,a,_,_,_,rfl,rfl,SqT.of ha,at3,_,rfl,b,_,_,_,rfl,rfl,SqT.of hb,at3,_,_,rfl,rfl,?_⟩;rw[h1,h2,h3]at key;exact key
    .show Q (.bl false) H;rw[h1,h2,h3]at key;exact key
   .show Q (.bl false) H;rw[h1,h2]at key;exact key
  .refine⟨_,rfl,_,rfl,Qh ?_⟩;show Q (.bl false) H;rw[h1]at key;exact key
theorem MV:Ak ["_law_purse_here","_law_many","_law_found"] ["_law_purse_here","_law_many"] (Ai DF):=fsc
theorem KW{f:Addr}{fd:FuncData}(F:Fun K "_law_take" "_law_take" DF f fd):A5 P w K mg base CX0 1 f fd ["_law_purse_here","_law_many"] FX:=by
 have S:=MV;refine F.ok S (λ vs H Q E h=>?_) (λ cdv A outer s H vs Q E hr h=>?_)
 .obtain⟨p,z,m,rfl,_⟩:=h;rfl
 .obtain⟨p,z,m,rfl,hp,hm,hm2,q⟩:=h;refine⟨_,(Af (Aq (i:=2) S.nd rfl (Or.inl rfl) (Ar M0 (An Bd (pv 0) Ag (λ_ _=>rfl)) (pv 1)))
   (Af (G2 (Ar KS (An Bd (pv 0) Ag (λ_ _=>rfl)) (pv 1)) (PJ (pv 0) Ag K9))
   (Ah (Ap (pv 2))))),?_⟩
  have hdiv:QU z m:=⟨hm,Nat.lt_trans (GP (k:=64) (by decide) (by lia)) (by decide)⟩;refine⟨_,rfl,p,_,_,_,rfl,rfl,SqL.of hp,rfl,_,rfl,_,_,rfl,rfl,hm,?_⟩;refine⟨_,rfl,p,_,_,_,rfl,rfl,SqL.of hp,rfl,_,rfl,_,_,rfl,rfl,hdiv,_,rfl,p,_,_,0,rfl,rfl,hp,rfl,?_⟩;exact⟨_,rfl,q _ _ (Int.emod_nonneg _ (by lia)) (Int.emod_lt_of_pos _ hm)⟩
theorem LI:Ak ["_law_script","_law_k","_law_cell"] ["_law_script","_law_k"] (Ai Dh):=fsc
theorem Sq:TJ 10 18:=⟨by decide,by decide,by decide⟩
theorem N4:TJ 10 30:=⟨by decide,by decide,by decide⟩
theorem Sx(z:Int):QU z (10^(18:Int).toNat):=⟨by decide +kernel,by decide +kernel⟩
theorem QF:(10:Int)^(30:Int).toNat+57=1000000000000000000000000000057:=by decide +kernel
theorem Gi:(0:Int)<(10:Int)^(30:Int).toNat+57:=by rw[QF];decide
theorem NZ{z k:Int}(h0:0<=k)(h1:k<1000):IntMulOk (z % ((10:Int)^(30:Int).toNat+57)+k+1) 618033988749894848204586834365:=by
 rw[QF];refine Qc ?_ (by decide +kernel);have a:=Int.emod_nonneg z (b:=1000000000000000000000000000057) (by decide);have b:=Int.emod_lt_of_pos z (b:=1000000000000000000000000000057) (by decide);have c:(2:Nat)^128=340282366920938463463374607431768211456:=by decide +kernel
 rw[c];lia
theorem JK{f:Addr}{fd:FuncData}(F:Fun K "_law_purse" "_law_purse" Dh f fd)(T:Txt mg tk):A5 P w K mg base CX0 1 f fd ["_law_script","_law_k"] (Gv K):=by
 have S:=LI;refine F.ok S (λ vs H Q E h=>?_) (λ cdv A outer s H vs Q E hr h=>?_)
 .obtain⟨a,ns,k,rfl,_⟩:=h;rfl
 .obtain⟨a,ns,k,rfl,hS,hk0,hk1,q⟩:=h;refine⟨_,(Af (Aq (i:=2) S.nd rfl (Or.inl rfl) Ag)
   (Af (AL (A9 DH (pv 1) (A0 AA rfl T.z_len rfl (Aa (pv 0) Ac)) (A3 _)) (Ah (Aq (i:=2) S.nd rfl (Or.inl rfl) (An Bd (pv 0) (pv 1) (λ_ _=>rfl)))) A6)
   (Af (AL (A9 PU (Ar KS (pv 2) (Ar Mz Ag Ag)) Ag (A3 _)) (Ah (Ap (AO (Aa (pv 2) Ac)))) A6)
   (Ah (Ap (AO (Aa (Ar M0 (Ar R8 (Ar AC (Ar AC (Ar M0 (pv 2) (Ar AC (Ar Mz Ag Ag) Ag)) (pv 1)) Ag) Ag) (Ar AC (Ar Mz Ag Ag) Ag)) Ac))))))),?_⟩
  refine⟨_,rfl,_,rfl,a,_,rfl,.inl hS,_,_,rfl,rfl,_,rfl,Bw (λ h=>?_) (λ h=>?_)⟩
  .have hk:k.toNat<ns.length:=by
    have h':k<((ns.map V.int).length:Int):=of_decide_eq_true h;rw[List.length_map]at h';lia
   have hz:(ns.map V.int)[k.toNat]?=some (.int ns[k.toNat]):=by rw[List.getElem?_map,List.getElem?_eq_getElem hk];rfl
   have hat:atI (ns.map V.int) k=some (.int ns[k.toNat]):=by
    have e:=Ee hz;rw[Int.toNat_of_nonneg hk0]at e;exact e
   refine⟨_,rfl,_,rfl,a,_,k,_,rfl,rfl,hS,hat,?_⟩;generalize ns[k.toNat]=z0;refine⟨_,rfl,_,_,rfl,rfl,Sq,_,_,rfl,rfl,Sx _,rfl,_,rfl,Bw (λ h=>?_) (λ h=>?_)⟩
   .exact⟨_,rfl,Av 1,λ p hp=>q p _ hp⟩
   .exact⟨_,rfl,_,_,rfl,rfl,N4,_,_,rfl,rfl,_,_,rfl,rfl,Gi,_,rfl,_,_,rfl,rfl,_,_,rfl,rfl,_,_,rfl,rfl,NZ hk0 hk1,_,_,rfl,rfl,N4,_,_,rfl,rfl,_,_,rfl,rfl,Gi,Av 1,λ p hp=>q p _ hp⟩
  .refine⟨_,rfl,_,_,rfl,rfl,Sq,_,_,rfl,rfl,Sx _,rfl,_,rfl,Bw (λ h=>?_) (λ h=>?_)⟩
   .exact⟨_,rfl,Av 1,λ p hp=>q p _ hp⟩
   .exact⟨_,rfl,_,_,rfl,rfl,N4,_,_,rfl,rfl,_,_,rfl,rfl,Gi,_,rfl,_,_,rfl,rfl,_,_,rfl,rfl,_,_,rfl,rfl,NZ hk0 hk1,_,_,rfl,rfl,N4,_,_,rfl,rfl,_,_,rfl,rfl,Gi,Av 1,λ p hp=>q p _ hp⟩
theorem Kn:Ak ["rectangle","squares","row","column"] ["rectangle"] (Ai Db):=fsc
theorem Qd{i m:Nat}(h1:i<=12)(h2:m<=12):i*m<=144:=Nat.mul_le_mul h1 h2
theorem HL{f:Addr}{fd:FuncData}(F:Fun K "squares_of" "squares_of" Db f fd)(T:Txt mg tk):A5 P w K mg base CX0 1 f fd ["rectangle"] Ej:=by
 have S:=Kn;refine F.ok S (λ vs H Q E h=>?_) (λ cdv A outer s H vs Q E hr h=>?_)
 .obtain⟨a,p,rfl,_⟩:=h;rfl
 .obtain⟨a,p,rfl,ha,g1,g2,g3,g4,g5,g6,q⟩:=h;refine⟨_,(Af (Aq (i:=1) S.nd rfl (Or.inl rfl) (AO Ac))
   (Af (AX PassesOwn.never rfl (B6 rfl T.z_range (Aa (An Al (pv 0) Ag (λ_ _=>rfl)) (Aa (An Al (pv 0) Ag (λ_ _=>rfl)) Ac))) (Aj (i:=2) S.nd rfl (Or.inl rfl)) (Ah (AX PassesOwn.never rfl (B6 rfl T.z_range (Aa (An Al (pv 0) Ag (λ_ _=>rfl)) (Aa (An Al (pv 0) Ag (λ_ _=>rfl)) Ac))) (Aj (i:=3) S.nd rfl (Or.inl rfl)) (Ah (AH (BW PySem.F.plainAttrs_list PySem.F.slot_list_append PySem.F.type_list_append AG (pv 1) (Aa (Az (Aa (pv 2) (Aa (pv 3) Ac))) Ac)))))))
   (Ah (Ap (pv 1))))),?_⟩
  refine⟨Av 0,λ l hl=>?_⟩;have ha0:(upd H l (.lst [])) a=some (.tup (A8 p.t p.l p.b p.r)):=Same.new hl _ _ ha;refine⟨_,rfl,a,_,_,_,rfl,rfl,SqT.of ha0,at0,_,rfl,a,_,_,_,rfl,rfl,SqT.of ha0,at2,p.t,p.b,rfl,⟨by lia,by lia,by lia,by lia⟩,
   BH (lo:=p.t) (n:=(p.b-p.t).toNat) (λ i σ H'=>∃x y,∃sq:List (Addr×(Int×Int)),σ=[some (.ref a),some (.ref l),x,y]/\Same H H'/\H' l=some (.lst (sq.map λ s=>V.ref s.1))/\(∀s∈sq,H' s.1=some (.tup [.int s.2.1,.int s.2.2]))/\sq.map (·.2)=FK p i)
    ⟨none,none,[],rfl,Same.new hl,Ab,λ s hs=>(nomatch hs),rfl⟩ ?_ ?_⟩
  .rintro i σ H' hi ⟨x,y,sq,rfl,hs,hlst,hsq,hmap⟩;have ha':=hs _ _ ha;refine⟨_,rfl,a,_,_,_,rfl,rfl,SqT.of ha',at1,_,rfl,a,_,_,_,rfl,rfl,SqT.of ha',at3,p.l,p.r,rfl,⟨by lia,by lia,by lia,by lia⟩,
    BH (lo:=p.l) (n:=(p.r-p.l).toNat) (λ j σ H2=>∃y,∃sq:List (Addr×(Int×Int)),σ=[some (.ref a),some (.ref l),some (.int (p.t+i)),y]/\Same H H2/\H2 l=some (.lst (sq.map λ s=>V.ref s.1))/\(∀s∈sq,H2 s.1=some (.tup [.int s.2.1,.int s.2.2]))/\sq.map (·.2)=FK p i++D0 p i j)
     ⟨y,sq,rfl,hs,hlst,hsq,by rw[hmap];simp[D0]⟩ ?_ ?_⟩
   .rintro j σ H2 hj ⟨y,sq,rfl,hs2,hl2,hq2,hm2⟩;refine⟨_,rfl,.inl ⟨rfl,_,SqL.of hl2⟩,_,rfl,_,rfl,Av 2,λ t ht=>?_⟩;have nlt:l≠t:=Ad hl2 ht;have hlen:sq.length<=288:=by
     have e:=congrArg List.length hm2;rw[List.length_map,List.length_append,Gs,D0,List.length_map,List.length_range]at e;have:=Qd (i:=i) (m:=(p.r-p.l).toNat) (by lia) (by lia);lia
    refine⟨l,_,_,rfl,rfl,by rw[Ae nlt];exact hl2,Am (by rw[List.length_map];lia),?_⟩;refine⟨_,sq++[(t,(p.t+(i:Int),p.l+(j:Int)))],rfl,λ b o e=>?_,?_,λ z hz=>?_,?_⟩
    .rw[Ae (Ad e hl),Ae (Ad (hs2 _ _ e) ht)];exact hs2 b o e
    .rw[Ab,List.map_append];rfl
    .rcases List.mem_append.mp hz with hz|hz
     .have e:=hq2 z hz;have n1:z.1≠l:=AU e hl2 (by intro q;cases q);rw[Ae n1,Ae (Ad e ht)];exact e
     .rw[List.mem_singleton.mp hz,Ae (Ne.symm nlt)];exact Ab
    .rw[List.map_append,hm2,List.append_assoc,Ms];rfl
   .rintro σ H2 ⟨y,sq,rfl,hs2,hl2,hq2,hm2⟩;exact⟨_,_,sq,rfl,hs2,hl2,hq2,hm2⟩
  .rintro σ H2 ⟨x,y,sq,rfl,hs2,hl2,hq2,hm2⟩;exact⟨_,rfl,q l sq H2 hs2 hl hl2 hq2 hm2⟩
theorem Ik:Ak ["width","height","side"] ["width","height"] (Ai CH):=fsc
theorem Ro{x:Int}(h:1<=x/\x<=12):K8 (.int x)=true:=by
 show(decide (1<=x)&&decide (x<=12))=true;rw[decide_eq_true h.1,decide_eq_true h.2];rfl
theorem GH{f:Addr}{fd:FuncData}(F:Fun K "check_sides" "check_sides" CH f fd)(D_is_side:Ay P w K mg base 2 "is_side" ["thing"] Nm):A5 P w K mg base CX0 3 f fd ["width","height"] Cb:=by
 have S:=Ik;refine F.ok S (λ vs H Q E h=>?_) (λ cdv A outer s H vs Q E hr h=>?_)
 .obtain⟨a,p,rfl,_⟩:=h;rfl
 .obtain⟨w,h,rfl,gw,gh,q⟩:=h;refine⟨_,(Ah (AX PassesOwn.never rfl (Mw (Az (Aa (pv 0) (Aa (pv 1) Ac)))) (Aj (i:=2) S.nd rfl (Or.inl rfl)) (Ah (AL (BR (Bc (Au D_is_side hr (Aa (pv 2) Ac)))) (Ah Ch) A6)))),?_⟩;refine⟨_,rfl,_,rfl,Av 2,λ t ht=>⟨t,rfl,⟨_,SqT.of Ab⟩,NO (K:=K) (a:=t) (xs:=[.int w,.int h]) (λ i σ H'=>(∃y,σ=[some (.int w),some (.int h),y])/\H'=upd H t (.tup [.int w,.int h])) ⟨⟨none,rfl⟩,rfl⟩ (λ i σ H' _ hp=>by rw[hp.2];exact SqT.of Ab) ?_ ?_⟩⟩
  .rintro i x σ H' hx ⟨⟨y,rfl⟩,rfl⟩;obtain⟨z,rfl,hz⟩:∃z,x=.int z/\(1<=z/\z<=12):=by
    have:=List.mem_of_getElem? hx;simp only[List.mem_cons,List.not_mem_nil,or_false]at this;rcases this with rfl|rfl
    .exact⟨_,rfl,gw⟩
    .exact⟨_,rfl,gh⟩
   refine⟨_,rfl,.int z,rfl,⟨"int",rfl⟩,_,rfl,Bq (by rw[Ro hz];rfl) ?_⟩;exact⟨⟨_,rfl⟩,rfl⟩
  .rintro σ H' ⟨⟨y,rfl⟩,rfl⟩;exact q _ (Same.new ht)
theorem Il:Ak ["panes","sheet","place","pane"] ["panes","sheet"] (Ai CI):=fsc
theorem RJ{p:Rc}{w h:Int}(i:p.In w h):Eh (A8 p.t p.l p.b p.r)=true:=by
 obtain⟨a1,a2,a3,a4,a5,a6⟩:=i;show(decide (0<=p.t)&&decide (p.t<p.b)&&(decide (0<=p.l)&&decide (p.l<p.r)))=true;rw[decide_eq_true a1,decide_eq_true a2,decide_eq_true a4,decide_eq_true a5];rfl
theorem To{p:Rc}{w h:Int}(i:p.In w h):GZ p.t p.l p.b p.r 0 0 h w=true:=by
 obtain⟨a1,a2,a3,a4,a5,a6⟩:=i;show(decide (0<=p.t)&&decide (0<=p.l)&&(decide (p.b<=h)&&decide (p.r<=w)))=true;rw[decide_eq_true a1,decide_eq_true a4,decide_eq_true a3,decide_eq_true a6];rfl
theorem NN{H:Hp}{a b c d:Int}:∀x∈A8 a b c d,Ty H x:=λ x hx=>by
 simp only[List.mem_cons,List.not_mem_nil,or_false]at hx;rcases hx with rfl|rfl|rfl|rfl<;>exact⟨"int",rfl⟩
theorem GI{f:Addr}{fd:FuncData}(F:Fun K "check_panes" "check_panes" CI f fd)(T:Txt mg tk)(D_is_rectangle:Ay P w K mg base 2 "is_rectangle" ["thing"] Jx)(D_inside:Ay P w K mg base 1 "inside" ["one","other"] CP) :
  A5 P w K mg base CX0 3 f fd ["panes","sheet"] (DA K):=by
 have S:=Il;refine F.ok S (λ vs H Q E h=>?_) (λ cdv A outer s H vs Q E hr h=>?_)
 .obtain⟨l,sh,w,h,ts,rfl,_⟩:=h;rfl
 .obtain⟨l,sh,w,h,ts,rfl,hl,hat,hsh,hin,hlen,q⟩:=h;refine⟨_,(Af (AL (A9 F8 (A0 AA rfl T.z_len rfl (Aa (pv 0) Ac)) (A7 (v:=.int 52) rfl T.g_MOST_PANES ⟨_,rfl⟩) (A3 _)) (Ah Ch) A6)
   (Ah (AX PassesOwn.never rfl (N6 rfl T.z_enumerate (Aa (pv 0) Ac)) (BS rfl (Ax (Aj (i:=2) S.nd rfl (Or.inl rfl)) (Ax (Aj (i:=3) S.nd rfl (Or.inl rfl)) Bj))) (Ah (AL (PW.pt (ID (BR (Bc (Au D_is_rectangle hr (Aa (pv 3) Ac)))) (Fg (BR (Bc (Au D_inside hr (Aa (pv 3) (Aa (pv 1) Ac)))))))) (Ah Ch) A6))))),?_⟩
  refine⟨_,rfl,l,_,rfl,.inl hl,_,_,rfl,rfl,_,rfl,Bq (decide_eq_false (by rw[List.length_map];lia)) ?_⟩;refine⟨_,rfl,l,rfl,⟨_,hl⟩,Lv (K:=K) (a:=l) (xs:=Ao ts) (λ i σ H'=>(∃x y,σ=[some (.ref l),some (.ref sh),x,y])/\Same H H') ⟨⟨none,none,rfl⟩,Same.refl H⟩ (λ i σ H' _ hp=>hp.2.seq hl) ?_ ?_⟩
  .rintro i x σ H' t hx ⟨⟨x0,y0,rfl⟩,hs⟩ ht;obtain⟨u,hu,rfl⟩:=Bg hx;have hum:=List.mem_of_getElem? hu;have hsT:=Same.new (o:=.tup [.int i,.ref u.1]) ht;have s1:=hs.trans hsT;have hui:=hin u.2 (List.mem_map.mpr ⟨u,hum,rfl⟩);have hua:=s1 _ _ (hat u hum);refine⟨t,_,rfl,SqT.of Ab,rfl,_,_,rfl,_,_,rfl,rfl,?_⟩;refine⟨_,rfl,_,rfl,.inl ⟨u.1,_,rfl,hua,(by show(4:Nat)<=100;decide),NN,λ H2 s2=>⟨_,rfl,Bq (by rw[RJ hui];rfl) ?_⟩⟩⟩;refine⟨_,rfl,_,rfl,u.1,sh,_,_,_,_,_,_,_,_,rfl,s2 _ _ hua,s2 _ _ (s1 _ _ hsh),_,rfl,Bq (by rw[To hui];rfl) ?_⟩;exact⟨⟨_,_,rfl⟩,s1.trans s2⟩
  .rintro σ H' ⟨⟨x0,y0,rfl⟩,hs⟩;exact q H' hs
theorem Bh{α:Type}{xs:List α}{i:Nat}{u x:α}(h:xs[i]?=some u):x∈xs.take (i+1)↔x∈xs.take i\/x=u:=by
 rw[List.take_succ,h,List.mem_append];simp
theorem Ho{ts:List (Addr×Rc)}(hd:(rcs ts).Pairwise Apart){i:Nat}{u t:Addr×Rc}(h:ts[i]?=some u)(ht:t∈ts.take i):Apart t.2 u.2:=by
 obtain⟨j,hj,rfl⟩:=List.getElem_of_mem ht;obtain⟨hi,rfl⟩:=List.getElem?_eq_some_iff.mp h;rw[List.pairwise_iff_getElem]at hd;have hj':j<i:=by rw[List.length_take]at hj;lia
 have:=hd j i (by rw[List.length_map];lia) (by rw[List.length_map];exact hi) hj'
 simpa using this
theorem M7{α β:Type}{xs:List α}{f:α->β}(hn:(xs.map f).Nodup){j:Nat}{s:α}(h:xs[j]?=some s):f s∉(xs.take j).map f:=λ hm=>by
 obtain⟨hj,rfl⟩:=List.getElem?_eq_some_iff.mp h;obtain⟨y,hy,e⟩:=List.mem_map.mp hm;obtain⟨k,hk,rfl⟩:=List.getElem_of_mem hy;have hk':k<j:=by rw[List.length_take]at hk;lia
 rw[List.nodup_iff_pairwise_ne,List.pairwise_iff_getElem]at hn;exact hn k j (by rw[List.length_map];lia) (by rw[List.length_map];exact hj) hk' (by simpa using e)
theorem Ps{sq:List (Addr×(Int×Int))}{i:Nat}{x:V}(h:(sq.map λ s=>V.ref s.1)[i]?=some x):∃t,sq[i]?=some t/\x=.ref t.1:=by
 rw[List.getElem?_map]at h;cases e:sq[i]? with
 |none=>rw[e]at h;cases h
 |some t=>rw[e]at h;exact⟨t,rfl,(Option.some.inj h).symm⟩
theorem Ri{p:Rc}{w h:Int}(i:p.In w h)(b1:w<=12)(b2:h<=12):(sqs p).length<=144:=by
 obtain⟨a1,a2,a3,a4,a5,a6⟩:=i;unfold sqs;rw[Gs];exact Qd (by lia) (by lia)
theorem EQ:Ak ["panes","by_square","place","pane","square"] ["panes"] (Ai BA):=fsc
theorem Ez{f:Addr}{fd:FuncData}(F:Fun K "panes_by_square" "panes_by_square" BA f fd)(T:Txt mg tk)(D_squares_of:Ay P w K mg base 1 "squares_of" ["rectangle"] Ej):A5 P w K mg base CX0 2 f fd ["panes"] (EE K):=by
 have S:=EQ;refine F.ok S (λ vs H Q E h=>?_) (λ cdv A outer s H vs Q E hr h=>?_)
 .obtain⟨l,w,h,ts,rfl,_⟩:=h;rfl
 .obtain⟨l,w,h,ts,rfl,hl,hat,hin,hap,hlen,bw,bh,q⟩:=h;have hu:=Qn hr;refine⟨_,(Af (Aq (i:=1) S.nd rfl (Or.inl rfl) PR)
   (Af (AX PassesOwn.never rfl (N6 rfl T.z_enumerate (Aa (pv 0) Ac)) (BS rfl (Ax (Aj (i:=2) S.nd rfl (Or.inl rfl)) (Ax (Aj (i:=3) S.nd rfl (Or.inl rfl)) Bj))) (Ah (AX PassesOwn.never rfl (AJ (Au D_squares_of hr (Aa (pv 3) Ac))) (Aj (i:=4) S.nd rfl (Or.inl rfl)) (Af (AL (PF (SW hu (pv 4) (pv 1))) (Ah Ch) A6)
   (Ah (Ry hu (pv 1) (pv 4) (pv 3) rfl))))))
   (Ah (Ap (pv 1))))),?_⟩
  intro d hd;refine⟨_,rfl,l,rfl,⟨_,(Same.new hd).seq hl⟩,Lv (K:=K) (a:=l) (xs:=Ao ts) (λ i σ H'=>(∃x y z,σ=[some (.ref l),some (.ref d),x,y,z])/\Same H H'/\∃kvs,H' d=some (.dT kvs)/\kvs.length<=144*i /\
    (∀t∈ts.take i,∀r c,t.2.has r c->Bz kvs (sqK r c)=some (.ref t.1))/\∀r c v,Bz kvs (sqK r c)=some v->∃t∈ts.take i,t.2.has r c)
   ⟨⟨none,none,none,rfl⟩,Same.new hd,[],Ab,Nat.zero_le _,λ t ht=>(nomatch ht),λ r c v e=>by cases e⟩ (λ i σ H' _ hp=>hp.2.1.seq hl) ?_ ?_⟩
  .rintro i x σ H' tt hx ⟨⟨x0,y0,z0,rfl⟩,hs,kvs,hk,hkl,ha1,ha2⟩ htt;obtain⟨u,hu',rfl⟩:=Bg hx;have hum:=List.mem_of_getElem? hu';have hi:i<ts.length:=(List.getElem?_eq_some_iff.mp hu').1;have s1:=hs.trans (Same.new (o:=.tup [.int i,.ref u.1]) htt);have hui:=hin u.2 (List.mem_map.mpr ⟨u,hum,rfl⟩);obtain⟨c1,c2,c3,c4,c5,c6⟩:=id hui;have hua:=s1 _ _ (hat u hum);have hk1:(upd H' tt (.tup [.int i,.ref u.1])) d=some (.dT kvs):=Same.new htt _ _ hk;refine⟨tt,_,rfl,SqT.of Ab,rfl,_,_,rfl,_,_,rfl,rfl,?_⟩;refine⟨_,rfl,u.1,u.2,rfl,hua,c1,by lia,by lia,c4,by lia,by lia,λ l2 sq H2 s2 n2 hl2 hsq hmap=>⟨l2,rfl,⟨_,SqL.of hl2⟩,?_⟩⟩;have hk2:=s2 _ _ hk1;have nl2:l2≠d:=AU hl2 hk2 (by intro z;cases z);have sql:sq.length<=144:=by
    have:=Ri hui bw bh;rw[<-hmap,List.length_map]at this;exact this
   have nd:=Gr (p:=u.2) (by lia) (u.2.b-u.2.t).toNat;have nd':(sq.map (·.2)).Nodup:=by rw[hmap];exact nd
   refine BB (K:=K) (a:=l2) (xs:=sq.map λ s=>V.ref s.1) (λ j σ H3=>(∃z,σ=[some (.ref l),some (.ref d),some (.int i),some (.ref u.1),z])/\SameX d H2 H3/\∃kvs,H3 d=some (.dT kvs)/\kvs.length<=144*i+j /\
     (∀t∈ts.take i,∀r c,t.2.has r c->Bz kvs (sqK r c)=some (.ref t.1))/\(∀z∈sq.take j,Bz kvs (sqK z.2.1 z.2.2)=some (.ref u.1)) /\
     ∀r c v,Bz kvs (sqK r c)=some v->(∃t∈ts.take i,t.2.has r c)\/(r,c)∈(sq.take j).map (λ y:Addr×(Int×Int)=>y.2))
    ⟨⟨_,rfl⟩,SameX.refl,kvs,hk2,by lia,ha1,λ z hz=>(nomatch hz),λ r c v e=>.inl (ha2 r c v e)⟩ (λ j σ H3 _ hp=>SqL.of (hp.2.1 _ _ nl2 hl2)) ?_ ?_
   .rintro j y σ H3 hy ⟨⟨z0,rfl⟩,s3,kv,hk3,hkl3,b1,b2,b3⟩;obtain⟨z,hz,rfl⟩:=Ps hy;have hzm:=List.mem_of_getElem? hz;have hj:j<sq.length:=(List.getElem?_eq_some_iff.mp hz).1;have hz2:=hsq z hzm;have nz:z.1≠d:=AU hz2 hk2 (by intro q;cases q);have hz3:=s3 _ _ nz hz2;have hin2:u.2.has z.2.1 z.2.2:=(Gb (by lia) (by lia)).mp (by rw[<-hmap];exact List.mem_map.mpr ⟨z,hzm,rfl⟩);have hno:Bz kv (sqK z.2.1 z.2.2)=none:=by
     cases e:Bz kv (sqK z.2.1 z.2.2) with
     |none=>rfl
     |some v =>
      rcases b3 _ _ v e with ⟨t,ht,hh⟩|hm
      .exact(Ho hap hu' ht _ _ hh hin2).elim
      .exact absurd hm (M7 nd' hz)
    have dg:=DGet.t (k:=sqK z.2.1 z.2.2) hk3 hz3;rw[hno]at dg;refine⟨_,rfl,_,rfl,d,_,rfl,dg,_,rfl,Qh ?_⟩;refine⟨_,rfl,_,rfl,_,rfl,d,_,rfl,DPut.t (k:=sqK z.2.1 z.2.2) hk3 hz3 (Nat.lt_of_le_of_lt (m:=20000) (by lia) (by rw[sizeLine_eq];decide)),?_⟩;refine⟨⟨_,rfl⟩,s3.trans SameX.upd,_,Ab,?_,λ t ht r c hh=>?_,λ y hy=>?_,λ r c v e=>?_⟩
    .have:=DJ kv (sqK z.2.1 z.2.2) (V.ref u.1);lia
    .rw[Gm,if_neg,b1 t ht r c hh];intro e;obtain⟨e1,e2⟩:=Nk e;exact Ho hap hu' ht _ _ (by rw[<-e1,<-e2];exact hh) hin2
    .rw[Gm];rcases(Bh hz).mp hy with hy|rfl
     .split
      .rfl
      .exact b2 y hy
     .rw[if_pos rfl]
    .rw[Gm]at e;split at e
     .rename_i e2;obtain⟨e3,e4⟩:=Nk e2;exact .inr (List.mem_map.mpr ⟨z,(Bh hz).mpr (.inr rfl),by rw[e3,e4]⟩)
     .rcases b3 r c v e with h1|h1
      .exact .inl h1
      .obtain⟨y,hy,e2⟩:=List.mem_map.mp h1;exact .inr (List.mem_map.mpr ⟨y,(Bh hz).mpr (.inl hy),e2⟩)
   .rintro σ H3 ⟨⟨z0,rfl⟩,s3,kv,hk3,hkl3,b1,b2,b3⟩;rw[List.length_map]at hkl3 b2 b3;rw[List.take_length]at b2 b3;refine⟨⟨_,_,_,rfl⟩,λ b o e=>?_,kv,hk3,by lia,λ t ht r c hh=>?_,λ r c v e=>?_⟩
    .exact s3 b o (Ad e hd) (s2 b o (s1 b o e))
    .rcases(Bh hu').mp ht with ht|rfl
     .exact b1 t ht r c hh
     .have hm:(r,c)∈sq.map (·.2):=by rw[hmap];exact(Gb (by lia) (by lia)).mpr hh
      obtain⟨z,hz,e⟩:=List.mem_map.mp hm;have:=b2 z hz;rw[e]at this;exact this
    .rcases b3 r c v e with ⟨t,ht,hh⟩|hm
     .exact⟨t,(Bh hu').mpr (.inl ht),hh⟩
     .exact⟨u,(Bh hu').mpr (.inr rfl),(Gb (by lia) (by lia)).mp (by rw[<-hmap];exact hm)⟩
  .rintro σ H' ⟨⟨x0,y0,z0,rfl⟩,hs,kvs,hk,hkl,ha1,ha2⟩;rw[List.length_map,List.take_length]at ha1;exact⟨_,rfl,q d kvs H' hs hd hk ha1⟩
theorem FU:Ak ["by_square","sheet","square"] ["by_square","sheet"] (Ai BO):=fsc
theorem Fm{f:Addr}{fd:FuncData}(F:Fun K "check_covered" "check_covered" BO f fd)(D_squares_of:Ay P w K mg base 1 "squares_of" ["rectangle"] Ej):A5 P w K mg base CX0 2 f fd ["by_square","sheet"] CQ:=by
 have S:=FU;refine F.ok S (λ vs H Q E h=>?_) (λ cdv A outer s H vs Q E hr h=>?_)
 .obtain⟨d,sh,w,h,kvs,rfl,_⟩:=h;rfl
 .obtain⟨d,sh,w,h,kvs,rfl,hd,hsh,gw,gh,hcov,q⟩:=h;have hu:=Qn hr;refine⟨_,(Ah (AX PassesOwn.never rfl (AJ (Au D_squares_of hr (Aa (pv 1) Ac))) (Aj (i:=2) S.nd rfl (Or.inl rfl)) (Ah (AL (PF (O5 hu (pv 2) (pv 0))) (Ah Ch) A6)))),?_⟩;refine⟨_,rfl,sh,⟨0,0,h,w⟩,rfl,hsh,Int.le_refl _,by show(0:Int)<=h;lia,by show h<=12;lia,Int.le_refl _,by show(0:Int)<=w;lia,by show w<=12;lia,λ l2 sq H2 s2 n2 hl2 hsq hmap=>⟨l2,rfl,⟨_,SqL.of hl2⟩,?_⟩⟩;refine BB (K:=K) (a:=l2) (xs:=sq.map λ s=>V.ref s.1) (λ j σ H3=>(∃z,σ=[some (.ref d),some (.ref sh),z])/\H3=H2) ⟨⟨none,rfl⟩,rfl⟩ (λ j σ H3 _ hp=>by rw[hp.2];exact SqL.of hl2) ?_ ?_
  .rintro j y σ H3 hy ⟨⟨z0,rfl⟩,rfl⟩;obtain⟨z,hz,rfl⟩:=Ps hy;have hzm:=List.mem_of_getElem? hz;have hz2:=hsq z hzm;have hin2:(⟨0,0,h,w⟩:Rc).has z.2.1 z.2.2:=(Gb (p:=⟨0,0,h,w⟩) (by show(0:Int)<=w;lia) (by show(0:Int)<=h;lia)).mp (by rw[<-hmap];exact List.mem_map.mpr ⟨z,hzm,rfl⟩);obtain⟨i1,i2,i3,i4⟩:=hin2;have hk2:=s2 _ _ hd;have dg:=DGet.t (k:=sqK z.2.1 z.2.2) hk2 hz2;cases e:Bz kvs (sqK z.2.1 z.2.2) with
   |none=>exact absurd e (hcov _ _ i1 i2 i3 i4)
   |some v =>
    rw[e]at dg;exact⟨_,rfl,_,rfl,d,_,rfl,dg,_,rfl,Qh ⟨⟨_,rfl⟩,rfl⟩⟩
  .rintro σ H3 ⟨⟨z0,rfl⟩,rfl⟩;exact q _ s2
theorem Mx{α β:Type}{f:α->β}:∀{l' m:List β},l'.Perm m->∀{l:List α},m=l.map f->∃us:List α,us.Perm l/\l'=us.map f:=by
 intro l' m h
 induction h with
 |nil=>intro l e;exact⟨l,.refl _,e⟩
 |cons x hp ih =>
  intro l e;cases l with
  |nil=>cases e
  |cons y r =>
   rw[List.map_cons]at e;injection e with e1 e2;obtain⟨us,h1,h2⟩:=ih e2;exact⟨y::us,h1.cons y,by rw[List.map_cons,<-h2,e1]⟩
 |swap x y r =>
  intro l e
  match l,e with
  |a::b::r',e =>
   rw[List.map_cons,List.map_cons]at e;injection e with e1 e2;injection e2 with e2 e3;exact⟨b::a::r',.swap a b r',by rw[List.map_cons,List.map_cons,e1,e2,e3]⟩
 |trans h1 h2 ih1 ih2 =>
  intro l e;obtain⟨us,a1,a2⟩:=ih2 e;obtain⟨vs,b1,b2⟩:=ih1 a2;exact⟨vs,b1.trans a1,b2⟩
theorem Kv:Ak ["self","width","height","panes","sheet","own_panes","by_square"] ["self","width","height","panes"] (Ai Dk):=fsc
theorem HU{f:Addr}{fd:FuncData}(F:Fun K "__init__" "Panel.__init__" Dk f fd)(T:Txt mg tk)(PC:LN K C)(D_check_sides:Ay P w K mg base 3 "check_sides" ["width","height"] Cb)(D_check_panes:Ay P w K mg base 3 "check_panes" ["panes","sheet"] (DA K))
  (D_panes_by_square:Ay P w K mg base 2 "panes_by_square" ["panes"] (EE K)) (D_check_covered:Ay P w K mg base 2 "check_covered" ["by_square","sheet"] CQ):A5 P w K mg base CX0 4 f fd ["self","width","height","panes"] (Gy K C):=by
 have S:=Kv;refine F.ok S (λ vs H Q E h=>?_) (λ cdv A outer s H vs Q E hr h=>?_)
 .obtain⟨a,dx,l,w,h,ts,rfl,_⟩:=h;rfl
 .obtain⟨a,dx,l,w,h,ts,rfl,hob,hl,hat,til,hlen,gw,gh,q⟩:=h;refine⟨_,(Af (AH (Au D_check_sides hr (Aa (pv 1) (Aa (pv 2) Ac))))
   (Af (Aq (i:=4) S.nd rfl (Or.inl rfl) (Az (Aa Ag (Aa Ag (Aa (pv 2) (Aa (pv 1) Ac))))))
   (Af (AH (Au D_check_panes hr (Aa (pv 3) (Aa (pv 4) Ac))))
   (Af (Dn rfl (Aj (i:=5) S.nd rfl (Or.inl rfl)) (AJ (pv 3)) (λ_ _ _ _ _=>(Aj (i:=0) (show List.Nodup (["pane"]:LSz) from by decide +kernel) rfl (Or.inl rfl))) (λ_ _ _ _ _=>(IE (Kj (K:=K)) rfl T.z_tuple rfl (Aa (pv 0) Ac))) (N:=["pane"]) (fr:=[none]))
   (Af (Aq (i:=6) S.nd rfl (Or.inl rfl) (Au D_panes_by_square hr (Aa (pv 5) Ac)))
   (Af (AH (Au D_check_covered hr (Aa (pv 6) (Aa (pv 4) Ac))))
   (Af (Ci (pv 0) (pv 1) rfl)
   (Af (Ci (pv 0) (pv 2) rfl)
   (Af (Ci (pv 0) (A0 Kk rfl T.z_sorted rfl (Aa (pv 5) Ac)) rfl)
   (Ah (Ci (pv 0) (pv 6) rfl))))))))))),?_⟩
  refine⟨_,rfl,_,rfl,w,h,rfl,gw,gh,λ H1 s1=>?_⟩;refine⟨_,rfl,_,rfl,Av 4,λ t ht=>?_⟩;have s2:=s1.trans (Same.new (o:=.tup (A8 0 0 h w)) ht);have hsh:(upd H1 t (.tup (A8 0 0 h w))) t=some (.tup (A8 0 0 h w)):=Ab;generalize upd H1 t (.tup (A8 0 0 h w))=H2 at s2 hsh |-;refine⟨_,rfl,_,rfl,l,t,w,h,ts,rfl,s2.seq hl,hat.same s2,hsh,til.ins,hlen,λ H3 s3=>?_⟩;have s13:=s2.trans s3;refine⟨_,rfl,l,rfl,⟨_,s13.seq hl⟩,λ acc hacc=>B7 (K:=K) (a:=l) (ys:=Ao ts) (λ i xs σ H'=>(∃y,σ=[y])/\Same H3 H'/\xs=(Ao ts).take i) ⟨⟨none,rfl⟩,Same.new hacc,rfl⟩
   (λ i xs σ H' _ _ hp=>(s13.trans hp.2.1).seq hl) ?_ ?_⟩
  .rintro i x xs σ H' hx hi hl' hacc' ⟨⟨y,rfl⟩,hs,rfl⟩;obtain⟨u,hu',rfl⟩:=Bg hx;have hua:=(s13.trans hs) _ _ (hat u (List.mem_of_getElem? hu'));refine⟨_,rfl,u.1,_,rfl,.inr ⟨SqT.of hua,cNx.mk (Nat.le_of_lt (Am (by rw[List.length_map];lia))) hi hl' hacc' ⟨⟨_,rfl⟩,λ b o e=>?_,?_⟩⟩⟩
   .rw[Ae (Ad e hacc)];exact hs b o e
   .rw[List.take_succ,hx];rfl
  .rintro xs σ H4 hl4 hacc4 ⟨_,s4,rfl⟩;rw[List.take_length]at hacc4;have s14:=s13.trans s4;refine⟨_,rfl,acc,w,h,ts,rfl,SqL.of hacc4,hat.same s14,til.ins,til.dis,hlen,gw.2,gh.2,λ d kvs H5 s5 n5 hd5 hk5=>?_⟩;have s15:=s14.trans s5;have look:∀r c,0<=r->r<h->0<=c->c<w->∃t∈ts,Bz kvs (sqK r c)=some (.ref t.1)/\t.2.has r c:=λ r c a1 a2 a3 a4=>by
    obtain⟨p,hp,hh⟩:=til.cov r c a1 a2 a3 a4;obtain⟨u,hu',rfl⟩:=List.mem_map.mp hp;exact⟨u,hu',hk5 u hu' r c hh,hh⟩
   refine⟨_,rfl,_,rfl,d,t,w,h,kvs,rfl,hd5,(s3.trans (s4.trans s5)) _ _ hsh,gw,gh,λ r c a1 a2 a3 a4 e=>?_,λ H6 s6=>?_⟩
   .obtain⟨u,_,hv,_⟩:=look r c a1 a2 a3 a4;rw[hv]at e;cases e
   have s16:=s15.trans s6;have ob6:=s16 _ _ hob;have hacc6:=(s5.trans s6) _ _ hacc4;have hd6:=s6 _ _ hd5;have na:acc≠a:=AU hacc6 ob6 (by intro z;cases z);have nd:d≠a:=AU hd6 ob6 (by intro z;cases z);refine⟨_,rfl,_,rfl,a,C,dx,_,rfl,ob6,PC.cl,PC.n_width,(by show 0<1000;decide),?_⟩;refine⟨_,rfl,_,rfl,a,C,dx,_,rfl,Ab,PC.cl,PC.n_height,(by show 1<1000;decide),?_⟩;have hacc7:(upd (upd H6 a (.ins C dx (AT "width" (.int w) []))) a (.ins C dx (AT "height" (.int h) (AT "width" (.int w) [])))) acc=some (.lst (Ao ts)):=by rw[Ae na,Ae na];exact hacc6
   have tup:∀t∈ts,(upd (upd H6 a (.ins C dx (AT "width" (.int w) []))) a (.ins C dx (AT "height" (.int h) (AT "width" (.int w) [])))) t.1=some (.tup (A8 t.2.t t.2.l t.2.b t.2.r)):=λ t ht=>by
    have e:=s16 _ _ (hat t ht);have nt:t.1≠a:=AU e ob6 (by intro z;cases z);rw[Ae nt,Ae nt];exact e
   refine⟨_,rfl,acc,ts.map λ t=>(t.1,t.2.ls),3,key,rfl,?_,by rw[List.length_map];lia,?_,?_,λ ls us hls hp hsr=>?_⟩
   .rw[List.map_map];exact SqL.of hacc7
   .intro z hz;obtain⟨t,ht,rfl⟩:=List.mem_map.mp hz;exact⟨rfl,tup t ht⟩
   .intro z hz y hy;obtain⟨t,ht,rfl⟩:=List.mem_map.mp hz;obtain⟨u,hu',rfl⟩:=List.mem_map.mp hy;exact key_lt (til.ins _ (List.mem_map.mpr ⟨t,ht,rfl⟩)) (til.ins _ (List.mem_map.mpr ⟨u,hu',rfl⟩)) gw.2 gh.2 gw.2 gh.2
   obtain⟨ts',hp',rfl⟩:=Mx hp rfl;have nls:ls≠a:=Ne.symm (Ad Ab hls);refine⟨_,rfl,a,C,dx,_,rfl,by rw[Ae (Ne.symm nls)];exact Ab,PC.cl,PC.n_sorted_panes,(by show 2<1000;decide),?_⟩;refine⟨_,rfl,_,rfl,a,C,dx,_,rfl,Ab,PC.cl,PC.n_by_square,(by show 3<1000;decide),?_⟩;have sx:SameX a H6 (upd (upd (upd (upd (upd H6 a (.ins C dx (AT "width" (.int w) []))) a (.ins C dx (AT "height" (.int h) (AT "width" (.int w) [])))) ls (.lst (List.map (λ t=>V.ref t.1) (List.map (λ t:Addr×Rc=>(t.1,t.2.ls)) ts')))) a (.ins C dx (AT "sorted_panes" (.ref ls) (AT "height" (.int h) (AT "width" (.int w) []))))) a (.ins C dx (E3 w h ls d))):=by
    refine SameX.trans (SameX.trans (SameX.trans (SameX.trans SameX.upd SameX.upd) (SameX.new hls)) SameX.upd) SameX.upd
   refine q ts' ls d kvs _ (λ b o nb e=>sx b o nb (s16 b o e)) hp' ⟨Ab,?_,sx _ _ nd hd6,λ t ht=>?_,til.perm (hp'.map _),by rw[hp'.length_eq];exact hlen,?_,λ r c a1 a2 a3 a4=>?_,gw,gh⟩
   .rw[Ae nls,Ae nls,Ab,List.map_map];rfl
   .have ht':=hp'.mem_iff.mp ht;have e:=s16 _ _ (hat t ht');have nt:t.1≠a:=AU e ob6 (by intro z;cases z);exact sx _ _ nt e
   .unfold Srt;rw[List.map_map]at hsr |-;exact hsr
   .obtain⟨u,hu',hv,hh⟩:=look r c a1 a2 a3 a4;exact⟨u,hp'.mem_iff.mpr hu',hv,hh⟩
theorem Io:Ak ["self"] ["self"] (Ai CK):=fsc
theorem GK{f:Addr}{fd:FuncData}(F:Fun K "panes" "Panel.panes" CK f fd)(T:Txt mg tk)(PC:LN K C):A5 P w K mg base CX0 1 f fd ["self"] (D9 C):=by
 have S:=Io;refine F.ok S (λ vs H Q E h=>?_) (λ cdv A outer s H vs Q E hr h=>?_)
 .obtain⟨a,dx,ls,ld,w,h,ts,kvs,rfl,_⟩:=h;rfl
 .obtain⟨a,dx,ls,ld,w,h,ts,kvs,rfl,pn,q⟩:=h;refine⟨_,(Ah (Ap (IE Kl rfl T.z_list rfl (Aa (B5 (pv 0) rfl) Ac)))),?_⟩;exact⟨_,rfl,a,C,dx,_,_,rfl,pn.ob,PC.cl,PC.n_sorted_panes,Qu _ _ _ _,ls,_,rfl,.inl (SqL.of pn.lst),λ l hl=>q l hl⟩
theorem FV:Ak ["self","row","column"] ["self","row","column"] (Ai BP):=fsc
theorem Fn{f:Addr}{fd:FuncData}(F:Fun K "pane_at" "Panel.pane_at" BP f fd)(PC:LN K C):A5 P w K mg base CX0 1 f fd ["self","row","column"] (Ek C):=by
 have S:=FV;refine F.ok S (λ vs H Q E h=>?_) (λ cdv A outer s H vs Q E hr h=>?_)
 .obtain⟨a,dx,ls,ld,w,h,r,c,ts,kvs,rfl,_⟩:=h;rfl
 .obtain⟨a,dx,ls,ld,w,h,r,c,ts,kvs,rfl,pn,a1,a2,a3,a4,q⟩:=h;have hu:=Qn hr;refine⟨_,(Ah (Ap (R6 hu (B5 (pv 0) rfl) (Az (Aa (pv 1) (Aa (pv 2) Ac))) (λ_ _=>rfl)))),?_⟩;obtain⟨u,hu',hv,hh⟩:=pn.look r c a1 a2 a3 a4;refine⟨_,rfl,a,C,dx,_,_,rfl,pn.ob,PC.cl,PC.n_by_square,Tt _ _ _ _,_,rfl,_,rfl,Av 2,λ t ht=>?_⟩;have dg:=DGet.t (H:=upd H t (.tup [.int r,.int c])) (b:=t) (k:=sqK r c) (Same.new ht _ _ pn.dic) Ab;rw[hv]at dg;exact⟨ld,_,rfl,dg,q u _ hu' hh (Same.new ht)⟩
theorem Hv:Ak ["self","panes"] ["self"] (Ai Cg):=fsc
theorem FP{f:Addr}{fd:FuncData}(F:Fun K "turned" "Panel.turned" Cg f fd)(PC:LN K C)(K_Panel:LO P w K mg base 4 "Panel" C ["self","width","height","panes"] (Gy K C)):A5 P w K mg base CX0 6 f fd ["self"] (Ix C):=by
 have S:=Hv;refine F.ok S (λ vs H Q E h=>?_) (λ cdv A outer s H vs Q E hr h=>?_)
 .obtain⟨a,dx,ls,ld,w,h,ts,kvs,rfl,_⟩:=h;rfl
 .obtain⟨a,dx,ls,ld,w,h,ts,kvs,rfl,pn,q⟩:=h;refine⟨_,(Af (Dn rfl (Aj (i:=1) S.nd rfl (Or.inl rfl)) (AJ (B5 (pv 0) rfl)) (λ_ _ _ _ _=>(JF (K:=K) (n:=4) rfl (Ax (Aj (i:=0) (show List.Nodup (["top","left","bottom","right"]:LSz) from by decide +kernel) rfl (Or.inl rfl)) (Ax (Aj (i:=1) (show List.Nodup (["top","left","bottom","right"]:LSz) from by decide +kernel) rfl (Or.inl rfl)) (Ax (Aj (i:=2) (show List.Nodup (["top","left","bottom","right"]:LSz) from by decide +kernel) rfl (Or.inl rfl)) (Ax (Aj (i:=3) (show List.Nodup (["top","left","bottom","right"]:LSz) from by decide +kernel) rfl (Or.inl rfl)) Bj)))))) (λ_ _ _ _ _=>(Az (Aa (pv 1) (Aa (pv 0) (Aa (pv 3) (Aa (pv 2) Ac)))))) (N:=["top","left","bottom","right"]) (fr:=[none,none,none,none]))
   (Ah (Ap (KR K_Panel hr (Aa (B5 (pv 0) rfl) (Aa (B5 (pv 0) rfl) (Aa (pv 1) Ac))))))),?_⟩
  refine⟨_,rfl,a,C,dx,_,_,rfl,pn.ob,PC.cl,PC.n_sorted_panes,Qu _ _ _ _,ls,rfl,⟨_,SqL.of pn.lst⟩,λ acc hacc=>B7 (K:=K) (a:=ls) (ys:=Ao ts)
   (λ i xs σ H'=>(∃y0 y1 y2 y3,σ=[y0,y1,y2,y3])/\Same H H'/\∃us,xs=Ao us/\At H' us/\rcs us=((rcs ts).take i).map Rc.sw) ⟨⟨none,none,none,none,rfl⟩,Same.new hacc,[],rfl,λ t ht=>(nomatch ht),rfl⟩
   (λ i xs σ H' _ _ hp=>SqL.of (hp.2.1 _ _ pn.lst)) ?_ ?_⟩
  .rintro i x xs σ H' hx hi hl' hacc' ⟨⟨y0,y1,y2,y3,rfl⟩,hs,us,rfl,hus,hrc⟩;obtain⟨u,hu',rfl⟩:=Bg hx;have hua:=hs _ _ (pn.ats u (List.mem_of_getElem? hu'));refine⟨u.1,_,rfl,SqT.of hua,rfl,_,_,rfl,_,_,rfl,_,_,rfl,_,_,rfl,rfl,?_⟩;refine⟨_,rfl,_,rfl,_,rfl,_,rfl,Av 4,λ t ht=>?_⟩;have nat:acc≠t:=Ad hacc' ht;refine cNx.mk (Nat.le_of_lt (Am (by rw[List.length_map];have:=pn.few;lia))) hi hl' (by rw[Ae nat];exact hacc') ⟨⟨_,_,_,_,rfl⟩,λ b o e=>?_,us++[(t,u.2.sw)],(IA us (t,u.2.sw)).symm,λ z hz=>?_,?_⟩
   .rw[Ae (Ad e hacc),Ae (Ad (hs _ _ e) ht)];exact hs b o e
   .rcases List.mem_append.mp hz with hz|hz
    .have e:=hus z hz;have n1:z.1≠acc:=AU e hacc' (by intro q;cases q);rw[Ae n1,Ae (Ad e ht)];exact e
    .rw[List.mem_singleton.mp hz,Ae (Ne.symm nat)];exact Ab
   .have e:(rcs ts)[i]?=some u.2:=by rw[List.getElem?_map,hu'];rfl
    rw[PB,hrc,List.take_succ,e,List.map_append];rfl
  .rintro xs σ H' hl' hacc' ⟨_,hs,us,rfl,hus,hrc⟩;rw[List.length_map]at hl';have hrc':rcs us=(rcs ts).map Rc.sw:=by rw[hrc,List.length_map,<-List.length_map (f:=(·.2)) (as:=ts),List.take_length]
   have pn':=pn.same hs;refine⟨_,rfl,a,C,dx,_,_,rfl,pn'.ob,PC.cl,PC.n_height,Kb _ _ _ _,_,rfl,a,C,dx,_,_,rfl,pn'.ob,PC.cl,PC.n_width,JZ _ _ _ _,_,rfl,?_⟩;intro x dy nx ndy ne;have sn:Same H' (upd (upd H' dy (.own x)) x (.ins C dy [])):=λ b o e=>by rw[Ae (Ad e nx),Ae (Ad e ndy)];exact e
   refine⟨x,dy,acc,h,w,us,rfl,Ab,SqL.of (sn _ _ hacc'),hus.same sn,by rw[hrc'];exact pn.til.sw,by have:=pn.few;rw[List.length_map]at hl';lia,pn.sh,pn.sw,λ ts' ls' ld' kvs' H2 sx hp pn2=>⟨rfl,?_⟩⟩;refine q x dy ls' ld' ts' kvs' H2 (λ b o e=>sx b o (Ad (hs _ _ e) nx) (sn _ _ (hs _ _ e))) pn2 ?_;rw[<-hrc'];exact hp.map _
def nth(b:List Stmt)(i:Nat):Stmt:=b.getD i (.Pass ⟨0,0,0,0⟩)
def NP:Stmt->List Stmt
 |.For _ _ b _ _=>b
 |_=>[]
theorem EK{w h:Int}{ls ld:Addr}:(E3 w h ls ld).lookup ("panes":Str)=none:=Ka _ _ _ _ (by decide +kernel) (by decide +kernel) (by decide +kernel) (by decide +kernel)
theorem Sf:Ak ["one","other","beside"] ["one","other"] (Ai J1):=fsc
theorem PY{f:Addr}{fd:FuncData}(F:Fun K "apart" "apart" J1 f fd):A5 P w K mg base CX0 1 f fd ["one","other"] K7:=by
 have S:=Sf;refine F.ok S (λ vs H Q E h=>?_) (λ cdv A outer s H vs Q E hr h=>?_)
 .obtain⟨a,b,p,q,rfl,_⟩:=h;rfl
 .obtain⟨a,b,p,q,rfl,ha,hb,k⟩:=h;refine⟨_,(Af (Aq (i:=2) S.nd rfl (Or.inl rfl) (N8 (Bk CT (An Al (pv 0) Ag (λ_ _=>rfl)) (An Al (pv 1) Ag (λ_ _=>rfl)) (A3 _)) (Cj (Bk CT (An Al (pv 1) Ag (λ_ _=>rfl)) (An Al (pv 0) Ag (λ_ _=>rfl)) (A3 _)))))
   (Ah (Ap (N8 (pv 2) (N8 (Bk CT (An Al (pv 0) Ag (λ_ _=>rfl)) (An Al (pv 1) Ag (λ_ _=>rfl)) (A3 _)) (Cj (Bk CT (An Al (pv 1) Ag (λ_ _=>rfl)) (An Al (pv 0) Ag (λ_ _=>rfl)) (A3 _)))))))),?_⟩
  have key:Q (.bl (decide (p.r<=q.l)||decide (q.r<=p.l)||(decide (p.b<=q.t)||decide (q.b<=p.t)))) H:=k;refine⟨_,rfl,a,_,_,_,rfl,rfl,SqT.of ha,at3,_,rfl,b,_,_,_,rfl,rfl,SqT.of hb,at1,_,_,rfl,rfl,_,rfl,Bw (λ h1=>?_) (λ h1=>?_)⟩
  .refine⟨_,rfl,_,rfl,Tn ?_⟩;show Q (.bl true) H;rw[h1]at key;exact key
  .refine⟨_,rfl,b,_,_,_,rfl,rfl,SqT.of hb,at3,_,rfl,a,_,_,_,rfl,rfl,SqT.of ha,at1,_,_,rfl,rfl,?_⟩;refine⟨_,rfl,_,rfl,Bw (λ h2=>?_) (λ h2=>?_)⟩
   .show Q (.bl true) H;rw[h1,h2]at key;exact key
   .refine⟨_,rfl,a,_,_,_,rfl,rfl,SqT.of ha,at2,_,rfl,b,_,_,_,rfl,rfl,SqT.of hb,at0,_,_,rfl,rfl,_,rfl,Bw (λ h3=>?_) (λ h3=>?_)⟩
    .show Q (.bl true) H;rw[h1,h2,h3]at key;exact key
    .refine⟨_,rfl,b,_,_,_,rfl,rfl,SqT.of hb,at2,_,rfl,a,_,_,_,rfl,rfl,SqT.of ha,at0,_,_,rfl,rfl,?_⟩;rw[h1,h2,h3]at key;exact key
theorem MX:Ak ["panel","block"] ["panel","block"] (Ai Er):=fsc
theorem KZ{f:Addr}{fd:FuncData}(F:Fun K "is_block" "is_block" Er f fd)(T:Txt mg tk)(PC:LN K C)(D_is_rectangle:Ay P w K mg base 2 "is_rectangle" ["thing"] Jx)(D_inside:Ay P w K mg base 1 "inside" ["one","other"] CP)(D_apart:Ay P w K mg base 1 "apart" ["one","other"] K7)
  (M_Panel_panes:Ip P w K mg base 1 C "panes" ["self"] (D9 C)):A5 P w K mg base CX0 3 f fd ["panel","block"] (K6 C):=by
 have S:=MX;refine F.ok S (λ vs H Q E h=>?_) (λ cdv A outer s H vs Q E hr h=>?_)
 .obtain⟨a,dx,ls,ld,ww,hh,ts,kvs,v,g,rfl,_⟩:=h;rfl
 .obtain⟨a,dx,ls,ld,ww,hh,ts,kvs,v,g,rfl,pn,tg,k⟩:=h;refine⟨_,(Af (AL (PW.pt (ID (BR (Bc (Au D_is_rectangle hr (Aa (pv 1) Ac)))) (Fg (BR (Bc (Au D_inside hr (Aa (pv 1) (Aa (Az (Aa Ag (Aa Ag (Aa (B5 (pv 0) rfl) (Aa (B5 (pv 0) rfl) Ac))))) Ac)))))))) (Ah (Ap G6)) A6)
   (Ah (Ap (A0 Hn rfl T.z_all rfl (Aa (DW rfl (AJ (G4 M_Panel_panes hr (pv 0))) (λ_ _ _ _ _=>(Aj (i:=0) (show List.Nodup (["pane","block"]:LSz) from by decide +kernel) rfl (Or.inl rfl))) (λ_ _ _ _ _=>(N8 (Au D_inside hr (Aa (pv 0) (Aa (pv 1) Ac))) (Cj (Au D_apart hr (Aa (pv 0) (Aa (pv 1) Ac)))))) (N:=["pane","block"]) (fr:=[none,some 1])) Ac))))),?_⟩
  cases g with
  |none =>
   refine⟨_,rfl,_,rfl,?_⟩;rcases tg with ⟨b,xs,rfl,hb,hz,ht,hrc⟩|⟨T',hT,hne⟩
   .exact .inl ⟨b,xs,rfl,hb,hz,ht,λ H' s1=>⟨_,rfl,BE (by rw[hrc];rfl) (k H' s1)⟩⟩
   .exact .inr ⟨T',hT,hne,_,rfl,BE rfl (k H (Same.refl H))⟩
  |some q =>
   obtain⟨b,rfl,hb⟩:=tg;have k:∀H',Same H H'->Q (.bl (N0 q&&BY q ⟨0,0,hh,ww⟩&&okA (rcs ts) q)) H':=k;refine⟨_,rfl,_,rfl,.inl ⟨b,_,rfl,hb,(by show(4:Nat)<=100;decide),NN,λ H1 s1=>⟨_,rfl,?_⟩⟩⟩;cases h1:N0 q with
   |false =>
    have h1':Eh (A8 q.t q.l q.b q.r)=false:=h1;rw[h1]at k;exact BE (by rw[h1'];rfl) (k H1 s1)
   |true =>
    have h1':Eh (A8 q.t q.l q.b q.r)=true:=h1;rw[h1]at k;refine Bq (by rw[h1'];rfl) ?_;have pn1:=pn.same s1;refine⟨_,rfl,_,rfl,a,C,dx,_,_,rfl,pn1.ob,PC.cl,PC.n_height,Kb _ _ _ _,_,rfl,a,C,dx,_,_,rfl,pn1.ob,PC.cl,PC.n_width,JZ _ _ _ _,Av 4,λ t ht=>?_⟩;have s2:=s1.trans (Same.new (o:=.tup (A8 0 0 hh ww)) ht);have hb2:=s2 _ _ hb;have pn2:=pn.same s2;have et:(upd H1 t (.tup (A8 0 0 hh ww))) t=some (.tup (A8 0 0 hh ww)):=Ab;generalize upd H1 t (.tup (A8 0 0 hh ww))=H2 at s2 hb2 pn2 et |-;refine⟨b,t,_,_,_,_,_,_,_,_,rfl,hb2,et,_,rfl,?_⟩;cases h2:BY q ⟨0,0,hh,ww⟩ with
    |false =>
     rw[h2]at k;have h2':GZ q.t q.l q.b q.r 0 0 hh ww=false:=h2;exact BE (by rw[h2'];rfl) (k H2 s2)
    |true =>
     rw[h2]at k;have h2':GZ q.t q.l q.b q.r 0 0 hh ww=true:=h2;refine Bq (by rw[h2'];rfl) ?_;refine⟨_,rfl,a,dx,_,rfl,pn2.ob,EK,a,dx,ls,ld,ww,hh,ts,kvs,rfl,pn2,λ l hl=>?_⟩;have s3:=s2.trans (Same.new (o:=.lst (Ao ts)) hl);have el:(upd H2 l (.lst (Ao ts))) l=some (.lst (Ao ts)):=Ab;generalize upd H2 l (.lst (Ao ts))=H3 at s3 el |-;have hb3:=s3 _ _ hb;refine⟨l,rfl,⟨_,SqL.of el⟩,λ acc hacc=>B7 (K:=K) (a:=l) (ys:=Ao ts) (λ i xs σ H'=>(∃y,σ=[y,some (.ref b)])/\Same H3 H'/\xs=((rcs ts).take i).map λ p=>V.bl (BY p q||apR p q)) ⟨⟨none,rfl⟩,Same.new hacc,rfl⟩ (λ i xs σ H' _ _ hp=>SqL.of (hp.2.1 _ _ el)) ?_ ?_⟩
     .rintro i x xs σ H' hx hi hl' hacc' ⟨⟨y,rfl⟩,s4,rfl⟩;obtain⟨u,hu',rfl⟩:=Bg hx;have hua:=(s3.trans s4) _ _ (pn.ats u (List.mem_of_getElem? hu'));have hb4:=s4 _ _ hb3;have er:(rcs ts)[i]?=some u.2:=by rw[List.getElem?_map,hu'];rfl
      have nx:cNx acc (Ao ts).length (λ i xs σ H'=>(∃y,σ=[y,some (.ref b)])/\Same H3 H'/\xs=((rcs ts).take i).map λ p=>V.bl (BY p q||apR p q)) i [some (.ref u.1),some (.ref b)] (V.bl (BY u.2 q||apR u.2 q)) H':=by
       refine cNx.mk (Nat.le_of_lt (Am (by rw[List.length_map];have:=pn.few;lia))) hi hl' hacc' ⟨⟨_,rfl⟩,λ c o e=>?_,?_⟩
       .rw[Ae (Ad e hacc)];exact s4 c o e
       .rw[List.take_succ,er,List.map_append];rfl
      refine⟨_,rfl,_,rfl,u.1,b,_,_,_,_,_,_,_,_,rfl,hua,hb4,_,rfl,Bw (λ h3=>?_) (λ h3=>?_)⟩
      .have h3':BY u.2 q=true:=h3;rw[h3']at nx;exact nx
      .have h3':BY u.2 q=false:=h3;rw[h3']at nx;exact⟨_,rfl,_,rfl,u.1,b,u.2,q,rfl,hua,hb4,nx⟩
     .rintro xs σ H' hl' hacc' ⟨_,s4,rfl⟩;have e:(Ao ts).length=(rcs ts).length:=by rw[List.length_map,List.length_map]
      rw[e,List.take_length]at hacc';have e2:List.map V.bl ((rcs ts).map λ p=>BY p q||apR p q)=(rcs ts).map λ p=>V.bl (BY p q||apR p q):=by rw[List.map_map (l:=rcs ts)];rfl
      refine⟨acc,(rcs ts).map λ p=>BY p q||apR p q,rfl,SqL.of (by rw[hacc',e2]),rfl,?_⟩;have:=k H' (s3.trans s4);rw[Bool.true_and,Bool.true_and]at this;show Q (.bl (((rcs ts).map λ p=>BY p q||apR p q).all id)) H';rw[List.all_map];exact this
theorem MM{α:Type}(f:α->Bool){xs:List α}{i:Nat}{x:α}(h:xs[i]?=some x):(xs.take (i+1)).filter f=(xs.take i).filter f++(if f x then [x] else []):=by
 rw[List.take_succ,h,List.filter_append];cases e:f x with
 |true=>simp[e]
 |false=>simp[e]
theorem Kg{xs:LUz}{i:Int}(h0:0<=i)(h1:i<xs.length):HX xs none (some i)=xs.take i.toNat:=by
 unfold HX HT.sIx;simp only[];rw[if_neg (by lia),Nat.min_eq_left (by lia)];simp
theorem MP{xs:LUz}{i:Int}(h0:0<=i)(h1:i<xs.length):HX xs (some (i+1)) none=xs.drop (i.toNat+1):=by
 unfold HX HT.sIx;simp only[];rw[if_neg (by lia),show(i+1).toNat=i.toNat+1 by lia,Nat.min_eq_left (by lia)];exact List.take_of_length_le (by rw[List.length_drop];exact Nat.le_refl _)
theorem L8(ts:List (Addr×Rc))(n:Nat)(t1 t2:Addr)(p1 p2:Rc):(Ao ts).take n++[V.ref t1,V.ref t2]++(Ao ts).drop (n+1)=Ao (ts.take n++(t1,p1)::(t2,p2)::ts.drop (n+1)):=by
 unfold Ao;rw[List.map_append,List.map_cons,List.map_cons,List.map_take,List.map_drop];simp
theorem QH{H H':Hp}{ts:List (Addr×Rc)}{n:Nat}{t1 t2:Addr}{p1 p2:Rc}(a:At H ts)(s:Same H H')(h1:H' t1=some (.tup (A8 p1.t p1.l p1.b p1.r)))(h2:H' t2=some (.tup (A8 p2.t p2.l p2.b p2.r))):At H' (ts.take n++(t1,p1)::(t2,p2)::ts.drop (n+1)):=λ t ht=>by
 rcases List.mem_append.mp ht with h|h
 .exact s _ _ (a t (List.mem_of_mem_take h))
 .rcases List.mem_cons.mp h with rfl|h
  .exact h1
  .rcases List.mem_cons.mp h with rfl|h
   .exact h2
   .exact s _ _ (a t (List.mem_of_mem_drop h))
structure QK(p p1 p2:Rc):Prop where
 o1:p1.t<p1.b/\p1.l<p1.r
 o2:p2.t<p2.b/\p2.l<p2.r
 has:∀r c,p.has r c↔p1.has r c\/p2.has r c
 ap:Apart p1 p2
 i1:p.t<=p1.t/\p1.b<=p.b/\p.l<=p1.l/\p1.r<=p.r
 i2:p.t<=p2.t/\p2.b<=p.b/\p.l<=p2.l/\p2.r<=p.r
theorem Rj{t l b r m:Int}(h:t<b)(h1:l<m)(h2:m<r):QK ⟨t,l,b,r⟩ ⟨t,l,b,m⟩ ⟨t,m,b,r⟩ :=
 ⟨⟨h,h1⟩,⟨h,h2⟩,λ x y=>by unfold Rc.has;simp only[];lia,λ x y a b=>by unfold Rc.has at a b;simp only[]at a b;lia,by simp only[];lia,by simp only[];lia⟩
theorem Rl{t l b r m:Int}(h:l<r)(h1:t<m)(h2:m<b):QK ⟨t,l,b,r⟩ ⟨t,l,m,r⟩ ⟨m,l,b,r⟩ :=
 ⟨⟨h1,h⟩,⟨h2,h⟩,λ x y=>by unfold Rc.has;simp only[];lia,λ x y a b=>by unfold Rc.has at a b;simp only[]at a b;lia,by simp only[];lia,by simp only[];lia⟩
theorem Ni{w h:Int}{ts:List (Addr×Rc)}{n:Nat}{u:Addr×Rc}{t1 t2:Addr}{p1 p2:Rc}(T:Tiles w h (rcs ts))(hu:ts[n]?=some u)(sp:QK u.2 p1 p2):Tiles w h (rcs (ts.take n++(t1,p1)::(t2,p2)::ts.drop (n+1))):=by
 obtain⟨hn,eu⟩:=List.getElem?_eq_some_iff.mp hu;have e0:ts=ts.take n++u::ts.drop (n+1):=by rw[<-eu,<-List.drop_eq_getElem_cons hn,List.take_append_drop]
 generalize ts.take n=As at e0;generalize ts.drop (n+1)=Bs at e0;subst e0;have e1:rcs (As++u::Bs)=rcs As++u.2::rcs Bs:=by simp
 have e2:rcs (As++(t1,p1)::(t2,p2)::Bs)=rcs As++p1::p2::rcs Bs:=by simp
 rw[e1]at T;rw[e2];generalize rcs As=A at T;generalize rcs Bs=B at T;have hin:=T.ins u.2 (by simp);obtain⟨a1,a2,a3,a4,a5,a6⟩:=hin;have i1:=sp.i1;have i2:=sp.i2;have o1:=sp.o1;have o2:=sp.o2;have in1:p1.In w h:=⟨by lia,o1.1,by lia,by lia,o1.2,by lia⟩;have in2:p2.In w h:=⟨by lia,o2.1,by lia,by lia,o2.2,by lia⟩;have d:=T.dis;rw[List.pairwise_append]at d;obtain⟨dA,dB,dAB⟩:=d;rw[List.pairwise_cons]at dB;obtain⟨duB,dB⟩:=dB;have x1:∀q,Apart u.2 q->Apart p1 q:=λ q a r c b e=>a r c ((sp.has r c).mpr (.inl b)) e;have x2:∀q,Apart u.2 q->Apart p2 q:=λ q a r c b e=>a r c ((sp.has r c).mpr (.inr b)) e;refine⟨λ p hp=>?_,?_,λ r c b1 b2 b3 b4=>?_⟩
 .rcases List.mem_append.mp hp with h|h
  .exact T.ins p (by simp[h])
  .rcases List.mem_cons.mp h with rfl|h
   .exact in1
   .rcases List.mem_cons.mp h with rfl|h
    .exact in2
    .exact T.ins p (by simp[h])
 .rw[List.pairwise_append,List.pairwise_cons,List.pairwise_cons];refine⟨dA,⟨λ q hq=>?_,λ q hq=>x2 q (duB q hq),dB⟩,λ p hp q hq=>?_⟩
  .rcases List.mem_cons.mp hq with rfl|hq
   .exact sp.ap
   .exact x1 q (duB q hq)
  .have hu:=dAB p hp u.2 (by simp);rcases List.mem_cons.mp hq with rfl|hq
   .exact(x1 p hu.symm).symm
   .rcases List.mem_cons.mp hq with rfl|hq
    .exact(x2 p hu.symm).symm
    .exact dAB p hp q (by simp[hq])
 .obtain⟨p,hp,hh⟩:=T.cov r c b1 b2 b3 b4;rcases List.mem_append.mp hp with h|h
  .exact⟨p,by simp[h],hh⟩
  .rcases List.mem_cons.mp h with rfl|h
   .rcases(sp.has r c).mp hh with h|h
    .exact⟨p1,by simp,h⟩
    .exact⟨p2,by simp,h⟩
   .exact⟨p,by simp[h],hh⟩
theorem SameX.of{x:Addr}{H H':Hp}(s:Same H H'):SameX x H H':=λ b o _ e=>s b o e
theorem SameX.drop{x:Addr}{H0 H H':Hp}(s:Same H0 H)(n:H0 x=none)(t:SameX x H H'):Same H0 H':=λ b o e=>t b o (Ad e n) (s b o e)
theorem CL{H:Hp}{p l:Addr}{z:Int}{ts:List (Addr×Rc)}(hp:H p=some (.lst [.int z]))(hl:H l=some (.lst (Ao ts))):l≠p:=λ e=>by
 rw[e,hp]at hl;injection hl with hl;injection hl with hl;cases ts with
 |nil=>cases hl
 |cons u r=>injection hl with h1 _;cases h1
theorem At.sx{H H':Hp}{p:Addr}{z:Int}{ts:List (Addr×Rc)}(a:At H ts)(hp:H p=some (.lst [.int z]))(s:SameX p H H'):At H' ts:=λ t h=>s _ _ (AU (a t h) hp (by intro z;cases z)) (a t h)
theorem Cy{i j:Int}{H:Hp}{Q:VK}(h:Q (.int (i+j)) H):rI0 (λ i j=>V.int (i+j)) (.int i) (.int j) H Q:=⟨i,j,rfl,rfl,h⟩
def Qm:Stmt->List Stmt
 |.If _ a _ _=>a
 |_=>[]
def Tq:Stmt->List Stmt
 |.If _ _ b _=>b
 |_=>[]
theorem Im:Ak ["panel","block"] ["panel","block"] (Ai CJ):=fsc
theorem GJ{f:Addr}{fd:FuncData}(F:Fun K "check_block" "check_block" CJ f fd)(D_is_block:Ay P w K mg base 3 "is_block" ["panel","block"] (K6 C)):A5 P w K mg base CX0 4 f fd ["panel","block"] (Mj C):=by
 have S:=Im;refine F.ok S (λ vs H Q E h=>?_) (λ cdv A outer s H vs Q E hr h=>?_)
 .obtain⟨a,dx,ls,ld,b,w,h,ts,kvs,q,rfl,_⟩:=h;rfl
 .obtain⟨a,dx,ls,ld,b,ww,hh,ts,kvs,q,rfl,pn,hb,hk,k⟩:=h;refine⟨_,(Ah (AL (BR (Bc (Au D_is_block hr (Aa (pv 0) (Aa (pv 1) Ac))))) (Ah Ch) A6)),?_⟩;refine⟨_,rfl,_,rfl,a,dx,ls,ld,ww,hh,ts,kvs,.ref b,some q,rfl,pn,⟨b,rfl,hb⟩,λ H1 s1=>⟨_,rfl,?_⟩⟩;have e:UA ww hh (rcs ts) (some q)=true:=hk;rw[e];exact Bq rfl (k H1 s1)
theorem Ls{x:Int}:∀{ks:List Int},inV (.int x) (ks.map V.int)=decide (x∈ks)
 |[]=>rfl
 |k::ks=>by
  have ih:=Ls (x:=x) (ks:=ks);unfold inV at ih |-;rw[List.map_cons,List.any_cons,ih];show(k==x||decide (x∈ks))=_;rw[Bool.eq_iff_iff,Bool.or_eq_true,beq_iff_eq,decide_eq_true_eq,decide_eq_true_eq,List.mem_cons]
  constructor
  .rintro(h|h)
   .exact .inl h.symm
   .exact .inr h
  .rintro(h|h)
   .exact .inl h.symm
   .exact .inr h
theorem Eu(g:Int->Bool)(ps:List Int)(p:Int):Eg g (ps++[p])=Bb g (Eg g ps) p:=by
 unfold Eg;rw[List.foldl_append];rfl
theorem JB(g:Int->Bool)(acc:List (Int×Int))(u:Int×Int)(p:Int)(h1:u.2=p)(h2:g p=false):Bb g (acc++[u]) p=acc++[(u.1,p+1)]:=by
 unfold Bb;rw[show(acc++[u]).getLast?=some u by simp];show(if _ then _ else _)=_;rw[if_pos ⟨h1,h2⟩,List.dropLast_concat]
theorem JA(g:Int->Bool)(acc:List (Int×Int))(u:Int×Int)(p:Int)(h:¬(u.2=p/\g p=false)):Bb g (acc++[u]) p=acc++[u]++[(p,p+1)]:=by
 unfold Bb;rw[show(acc++[u]).getLast?=some u by simp];show(if _ then _ else _)=_;rw[if_neg h]
theorem T8:Ak ["places","stops","found","place"] ["places","stops"] (Ai Mp):=fsc
theorem RA{f:Addr}{fd:FuncData}(F:Fun K "runs" "runs" Mp f fd):A5 P w K mg base CX0 1 f fd ["places","stops"] (Jw K):=by
 have S:=T8;refine F.ok S (λ vs H Q E h=>?_) (λ cdv A outer s H vs Q E hr h=>?_)
 .obtain⟨l,m,ps,ss,rfl,_⟩:=h;rfl
 .obtain⟨l,m,ps,ss,rfl,hl,hm,few,k⟩:=h;refine⟨_,(Af (Aq (i:=2) S.nd rfl (Or.inl rfl) (AO Ac))
   (Af (AX PassesOwn.never rfl (AJ (pv 0)) (Aj (i:=3) S.nd rfl (Or.inl rfl)) (Ah (AL (PW.pt (Mv (CS (pv 2) (λ_=>rfl)) (Mv (A9 Cl (An Al (An Bd (pv 2) (N7 Ju Ag) (λ_ _=>rfl)) Ag (λ_ _=>rfl)) (pv 3) (A3 _)) (N3 (A9 JG (pv 3) (pv 1) rfl))))) (Ah (G2 (Az (Aa (An Al (An Bd (pv 2) (N7 Ju Ag) (λ_ _=>rfl)) Ag (λ_ _=>rfl)) (Aa (Ar AC (pv 3) Ag) Ac))) (PJ (pv 2) (N7 Ju Ag) K9))) (Ah (AH (BW PySem.F.plainAttrs_list PySem.F.slot_list_append PySem.F.type_list_append AG (pv 2) (Aa (Az (Aa (pv 3) (Aa (Ar AC (pv 3) Ag) Ac))) Ac)))))))
   (Ah (Ap (pv 2))))),?_⟩
  refine⟨Av 0,λ lf hlf=>?_⟩;have s1:=Same.new (o:=.lst []) hlf;have e1:(upd H lf (.lst [])) lf=some (.lst []):=Ab;generalize upd H lf (.lst [])=H1 at s1 e1 |-;refine⟨_,rfl,l,rfl,⟨_,s1.seq hl⟩,BB (K:=K) (a:=l) (xs:=ps.map V.int) (λ i σ H'=>∃(us:List (Addr×(Int×Int)))(x3:Option V),σ=[some (.ref l),some (.ref m),some (.ref lf),x3]/\Same H H'/\H' lf=some (.lst (B0 us))/\At2 H' us/\us.map (·.2)=Eg (λ x=>decide (x∈ss)) (ps.take i)/\us.length<=i)
   ⟨[],_,rfl,s1,e1,λ u hu=>absurd hu List.not_mem_nil,rfl,Nat.le_refl _⟩ (λ i σ H' _ hp=>by obtain⟨_,_,_,h,_⟩:=hp;exact h.seq hl) ?_ ?_⟩
  .rintro i x σ H' hx ⟨us,x3,rfl,s2,e2,a2,r2,n2⟩;obtain⟨p,hp,rfl⟩:∃p,ps[i]?=some p/\x=.int p:=by
    rw[List.getElem?_map]at hx;cases h:ps[i]? with
    |none=>rw[h]at hx;cases hx
    |some p=>rw[h]at hx;exact⟨p,rfl,(Option.some.inj hx).symm⟩
   have et:ps.take (i+1)=ps.take i++[p]:=by rw[List.take_succ,hp];rfl
   have hi:i<ps.length:=(List.getElem?_eq_some_iff.mp hp).1;rcases List.eq_nil_or_concat us with rfl|⟨vs,u,eu⟩
   .refine⟨_,rfl,_,.inl ⟨_,SqL.of e2,rfl⟩,Bq rfl ?_⟩;refine⟨_,rfl,.inl ⟨rfl,_,SqL.of e2⟩,_,rfl,_,rfl,_,_,rfl,rfl,Av 2,λ t ht=>?_⟩;have s3:=Same.new (o:=.tup [.int p,.int (p+1)]) ht;have e3:(upd H' t (.tup [.int p,.int (p+1)])) t=some (.tup [.int p,.int (p+1)]):=Ab;have e4:=s3 _ _ e2;generalize upd H' t (.tup [.int p,.int (p+1)])=H2 at s3 e3 e4 |-;refine⟨lf,_,_,rfl,rfl,e4,Am (by show 0<=1000;lia),[(t,(p,p+1))],_,rfl,λ c o e=>?_,Ab,λ u hu=>?_,?_,by simp⟩
    .rw[Ae (Ad e hlf)];exact(s2.trans s3) c o e
    .rw[List.mem_singleton.mp hu,Ae (AU e3 e4 (by intro z;cases z))];exact e3
    .rw[et,Eu,<-r2];rfl
   .rw[List.concat_eq_append]at eu;subst eu;have n2':vs.length+1<=i:=by rw[List.length_append]at n2;simpa using n2
    have hu2:=a2 u (by simp);have er:B0 (vs++[u])=B0 vs++[.ref u.1]:=by simp
    have rm:(vs++[u]).map (·.2)=vs.map (·.2)++[u.2]:=by simp
    rw[er]at e2;have tru:(!(B0 vs++[V.ref u.1]).isEmpty)=true:=by cases vs<;>rfl
    have lst:atI (B0 vs++[V.ref u.1]) (-1)=some (V.ref u.1):=LC _ _;have lng:(B0 vs++[V.ref u.1]).length=vs.length+1:=by simp
    have fin:¬(u.2.2=p/\decide (p∈ss)=false)->∀t:Addr,H' t=none->∃(us':List (Addr×(Int×Int)))(x3':Option V),[some (V.ref l),some (V.ref m),some (V.ref lf),some (V.int p)]=[some (V.ref l),some (V.ref m),some (V.ref lf),x3']/\Same H (upd (upd H' t (.tup [.int p,.int (p+1)])) lf (.lst (B0 vs++[V.ref u.1]++[V.ref t])))/\(upd (upd H' t (.tup [.int p,.int (p+1)])) lf (.lst (B0 vs++[V.ref u.1]++[V.ref t]))) lf=some (.lst (B0 us'))/\At2 (upd (upd H' t (.tup [.int p,.int (p+1)])) lf (.lst (B0 vs++[V.ref u.1]++[V.ref t]))) us'/\us'.map (·.2)=Eg (λ x=>decide (x∈ss)) (ps.take (i+1))/\us'.length<=i+1:=λ ng t ht=>by
     have s3:=Same.new (o:=.tup [.int p,.int (p+1)]) ht;have e3:(upd H' t (.tup [.int p,.int (p+1)])) t=some (.tup [.int p,.int (p+1)]):=Ab;have e4:=s3 _ _ e2;have a4:=a2.same s3;generalize upd H' t (.tup [.int p,.int (p+1)])=H2 at s3 e3 e4 a4 |-;refine⟨vs++[u]++[(t,(p,p+1))],_,rfl,λ c o e=>?_,by rw[Ab];simp,λ v hv=>?_,?_,by simp;lia⟩
     .rw[Ae (Ad e hlf)];exact(s2.trans s3) c o e
     .rcases List.mem_append.mp hv with hv|hv
      .rw[Ae (AU (a4 v hv) e4 (by intro z;cases z))];exact a4 v hv
      .rw[List.mem_singleton.mp hv,Ae (AU e3 e4 (by intro z;cases z))];exact e3
     .rw[List.map_append,rm,et,Eu,<-r2,rm,JA _ _ _ _ ng];rfl
    refine⟨_,rfl,_,.inl ⟨_,SqL.of e2,rfl⟩,BE tru ?_⟩;refine⟨_,rfl,_,rfl,lf,_,_,_,rfl,rfl,SqL.of e2,lst,u.1,_,_,_,rfl,rfl,SqT.of hu2,rfl,_,rfl,rfl,_,rfl,Bw (λ c1=>?_) (λ c1=>?_)⟩
    .have c1:u.2.2=p:=by have:=of_decide_eq_true c1;injection this
     refine⟨_,rfl,_,rfl,m,_,rfl,.inl (s2.seq hm),rfl,by rw[List.all_eq_true];intro x hx;obtain⟨z,_,rfl⟩:=List.mem_map.mp hx;rfl,_,rfl,?_⟩;rw[if_pos rfl,Ls];cases c2:decide (p∈ss) with
     |false =>
      refine BE rfl ⟨_,rfl,_,rfl,lf,_,_,_,rfl,rfl,SqL.of e2,lst,u.1,_,_,_,rfl,rfl,SqT.of hu2,rfl,_,rfl,_,_,rfl,rfl,Av 2,λ t ht=>?_⟩;have s3:=Same.new (o:=.tup [.int u.2.1,.int (p+1)]) ht;have e3:(upd H' t (.tup [.int u.2.1,.int (p+1)])) t=some (.tup [.int u.2.1,.int (p+1)]):=Ab;have e4:=s3 _ _ e2;have a4:=a2.same s3;generalize upd H' t (.tup [.int u.2.1,.int (p+1)])=H2 at s3 e3 e4 a4 |-;have ij:ixN (B0 vs++[V.ref u.1]).length (-1)=some vs.length:=by
       rw[lng];unfold ixN;rw[if_neg (by lia),if_pos (by lia)];congr 1;lia
      have st:(B0 vs++[V.ref u.1]).set vs.length (V.ref t)=B0 (vs++[(t,(u.2.1,p+1))]):=by
       rw[List.set_append_right _ _ (by simp)];simp
      refine⟨_,rfl,_,rfl,lf,_,_,_,rfl,rfl,e4,ij,vs++[(t,(u.2.1,p+1))],_,rfl,λ c o e=>?_,by rw[Ab,st],λ v hv=>?_,?_,by simp;lia⟩
      .rw[Ae (Ad e hlf)];exact(s2.trans s3) c o e
      .rcases List.mem_append.mp hv with hv|hv
       .have hv':=a4 v (List.mem_append_left _ hv);rw[Ae (AU hv' e4 (by intro z;cases z))];exact hv'
       .rw[List.mem_singleton.mp hv,Ae (AU e3 e4 (by intro z;cases z))];exact e3
      .rw[et,Eu,<-r2,rm,JB _ _ _ _ c1 c2,List.map_append];rfl
     |true =>
      refine Bq rfl ⟨_,rfl,.inl ⟨rfl,_,SqL.of e2⟩,_,rfl,_,rfl,_,_,rfl,rfl,Av 2,λ t ht=>?_⟩;exact⟨lf,_,_,rfl,rfl,Same.new ht _ _ e2,Am (by rw[lng];lia),fin (λ z=>by rw[c2]at z;cases z.2) t ht⟩
    .have c1:u.2.2≠p:=λ z=>of_decide_eq_false c1 (by rw[z]);refine⟨_,rfl,.inl ⟨rfl,_,SqL.of e2⟩,_,rfl,_,rfl,_,_,rfl,rfl,Av 2,λ t ht=>?_⟩;exact⟨lf,_,_,rfl,rfl,Same.new ht _ _ e2,Am (by rw[lng];lia),fin (λ z=>c1 z.1) t ht⟩
  .rintro σ H' ⟨us,x3,rfl,s2,e2,a2,r2,n2⟩;rw[List.length_map,List.take_length]at r2;exact⟨_,rfl,k lf us H' s2 hlf e2 a2 r2⟩
theorem Dq{w h:Int}{ls ld:Addr}:(E3 w h ls ld).lookup ("pane_at":Str)=none:=Ka _ _ _ _ (by decide +kernel) (by decide +kernel) (by decide +kernel) (by decide +kernel)
theorem ND{X:Cx}{K:Frag}{k:Nat}(hr:Room k X.A)(hK:X.K=K:=by rfl):OpR X (compareOp .NotEq) (ST K true):=by subst hK;exact SY hr
theorem N2(p q:Rc):deq (rcD p) (rcD q)=decide (p=q):=by
 rcases p with ⟨a,b,c,d⟩;rcases q with ⟨a',b',c',d'⟩;unfold rcD;simp only[deq,Fx,eqV];rw[Bool.eq_iff_iff];simp
theorem EH{C:Addr}{H:Hp}{a:Addr}{w h:Int}{ts:List (Addr×Rc)}{dx ls ld:Addr}{kvs:LKz}(p:PanelAt C H a w h ts dx ls ld kvs){t:Addr×Rc}{r c:Int}(ht:t∈ts)(hh:t.2.has r c):own (rcs ts) r c=t.2 :=
 Dp p.til.dis (List.mem_map.mpr ⟨t,ht,rfl⟩) hh
theorem C1(f:Int->Bool)(lo:Int):∀n,(Bu f lo n).length<=n
 |0=>Nat.le_refl _
 |n+1=>by
  have:=C1 f lo n;unfold Bu;rw[List.length_append];split<;>simp<;>lia
theorem F3:Ak ["panel","block","line"] ["panel","block","line"] (Ai BG):=fsc
theorem EJ{f:Addr}{fd:FuncData}(F:Fun K "columns_parted" "columns_parted" BG f fd)(T:Txt mg tk)(M_Panel_pane_at:Ip P w K mg base 1 C "pane_at" ["self","row","column"] (Ek C)):A5 P w K mg base CX0 2 f fd ["panel","block","line"] (Nt C):=by
 have S:=F3;refine F.ok S (λ vs H Q E h=>?_) (λ cdv A outer s H vs Q E hr h=>?_)
 .obtain⟨a,dx,ls,ld,b,ww,hh,n,ts,kvs,q,rfl,_⟩:=h;rfl
 .obtain⟨a,dx,ls,ld,b,ww,hh,n,ts,kvs,q,rfl,pn,hb,⟨q1,q2,q3,q4,q5,q6⟩,n1,n2,k⟩:=h;have gw:=pn.sw;have gh:=pn.sh;refine⟨_,(Ah (Ap (Ck rfl (B6 rfl T.z_range (Aa (An Al (pv 1) Ag (λ_ _=>rfl)) (Aa (An Al (pv 1) Ag (λ_ _=>rfl)) Ac))) (λ_ _ _ _ _=>(Aj (i:=0) (show List.Nodup (["column","line","panel"]:LSz) from by decide +kernel) rfl (Or.inl rfl))) (λ_ _ _ _ _=>(A9 (ND (K:=K) hr) (N9 M_Panel_pane_at hr (pv 2) (Aa (Ar AM (pv 1) Ag) (Aa (pv 0) Ac))) (N9 M_Panel_pane_at hr (pv 2) (Aa (pv 1) (Aa (pv 0) Ac))) (A3 _))) (λ_ _ _ _ _=>(pv 0)) (N:=["column","line","panel"]) (fr:=[none,some 2,some 0])))),?_⟩;refine⟨_,rfl,b,_,_,_,rfl,rfl,SqT.of hb,at1,_,rfl,b,_,_,_,rfl,rfl,SqT.of hb,at3,q.l,q.r,rfl,⟨by lia,by lia,by lia,by lia⟩,λ acc hacc=>C5 (lo:=q.l) (n:=(q.r-q.l).toNat) (λ i xs σ H'=>(∃y,σ=[y,some (.int n),some (.ref a)])/\Same H H'/\xs=(Bu (λ c=>lvB (rcs ts) q n c) q.l i).map V.int) ⟨⟨none,rfl⟩,Same.new hacc,rfl⟩ ?_ ?_⟩
  .rintro i xs σ H' hi' hxl hacc' ⟨⟨y,rfl⟩,s1,rfl⟩;have pn1:=pn.same s1;refine⟨_,rfl,a,dx,_,rfl,pn1.ob,Dq,_,rfl,_,_,rfl,rfl,_,rfl,a,dx,ls,ld,ww,hh,n-1,q.l+i,ts,kvs,rfl,pn1,by lia,by lia,by lia,by lia,λ u1 H2 hu1 hh1 s2=>?_⟩;have pn2:=pn1.same s2;refine⟨_,rfl,a,dx,_,rfl,pn2.ob,Dq,_,rfl,_,rfl,a,dx,ls,ld,ww,hh,n,q.l+i,ts,kvs,rfl,pn2,by lia,by lia,by lia,by lia,λ u2 H3 hu2 hh2 s3=>?_⟩;have pn3:=pn2.same s3;have o1:=EH pn hu1 hh1;have o2:=EH pn hu2 hh2;have lv:lvB (rcs ts) q n (q.l+i)=!decide (u1.2=u2.2):=by rw[ME n1 n2 (by lia) (by lia),o1,o2]
   refine⟨rcD u1.2,rcD u2.2,JC (pn3.ats u1 hu1),JC (pn3.ats u2 hu2),⟨_,rfl⟩,⟨_,rfl⟩,KL _,?_⟩;rw[if_pos rfl,N2,<-lv];refine⟨_,rfl,?_⟩;have hacc3:=s3 _ _ (s2 _ _ hacc');have nacc:∀b o,H b=some o->b≠acc:=λ b o e=>Ad e hacc;have s13:=s1.trans (s2.trans s3);cases hb':lvB (rcs ts) q n (q.l+i) with
   |false =>
    refine fSk.mk hi' hxl hacc3 ⟨⟨_,rfl⟩,s13,?_⟩;rw[Bu,hb',if_neg Bool.false_ne_true,List.append_nil]
   |true =>
    refine⟨_,rfl,fNx.mk (Nat.le_of_lt (Am (by lia))) hi' hxl hacc3 ⟨⟨_,rfl⟩,λ c o e=>?_,?_⟩⟩
    .rw[Ae (nacc c o e)];exact s13 c o e
    .rw[Bu,hb',if_pos rfl,List.map_append];rfl
  .rintro xs σ H' hxl hacc' ⟨_,s1,rfl⟩;exact k acc H' s1 hacc hacc'
theorem Ic:Ak ["panel","block","line"] ["panel","block","line"] (Ai C9):=fsc
theorem G9{f:Addr}{fd:FuncData}(F:Fun K "rows_parted" "rows_parted" C9 f fd)(T:Txt mg tk)(M_Panel_pane_at:Ip P w K mg base 1 C "pane_at" ["self","row","column"] (Ek C)):A5 P w K mg base CX0 2 f fd ["panel","block","line"] (Nn C):=by
 have S:=Ic;refine F.ok S (λ vs H Q E h=>?_) (λ cdv A outer s H vs Q E hr h=>?_)
 .obtain⟨a,dx,ls,ld,b,ww,hh,n,ts,kvs,q,rfl,_⟩:=h;rfl
 .obtain⟨a,dx,ls,ld,b,ww,hh,n,ts,kvs,q,rfl,pn,hb,⟨q1,q2,q3,q4,q5,q6⟩,n1,n2,k⟩:=h;have gw:=pn.sw;have gh:=pn.sh;refine⟨_,(Ah (Ap (Ck rfl (B6 rfl T.z_range (Aa (An Al (pv 1) Ag (λ_ _=>rfl)) (Aa (An Al (pv 1) Ag (λ_ _=>rfl)) Ac))) (λ_ _ _ _ _=>(Aj (i:=0) (show List.Nodup (["row","line","panel"]:LSz) from by decide +kernel) rfl (Or.inl rfl))) (λ_ _ _ _ _=>(A9 (ND (K:=K) hr) (N9 M_Panel_pane_at hr (pv 2) (Aa (pv 0) (Aa (Ar AM (pv 1) Ag) Ac))) (N9 M_Panel_pane_at hr (pv 2) (Aa (pv 0) (Aa (pv 1) Ac))) (A3 _))) (λ_ _ _ _ _=>(pv 0)) (N:=["row","line","panel"]) (fr:=[none,some 2,some 0])))),?_⟩;refine⟨_,rfl,b,_,_,_,rfl,rfl,SqT.of hb,at0,_,rfl,b,_,_,_,rfl,rfl,SqT.of hb,at2,q.t,q.b,rfl,⟨by lia,by lia,by lia,by lia⟩,λ acc hacc=>C5 (lo:=q.t) (n:=(q.b-q.t).toNat) (λ i xs σ H'=>(∃y,σ=[y,some (.int n),some (.ref a)])/\Same H H'/\xs=(Bu (λ r=>upB (rcs ts) q r n) q.t i).map V.int) ⟨⟨none,rfl⟩,Same.new hacc,rfl⟩ ?_ ?_⟩
  .rintro i xs σ H' hi' hxl hacc' ⟨⟨y,rfl⟩,s1,rfl⟩;have pn1:=pn.same s1;refine⟨_,rfl,a,dx,_,rfl,pn1.ob,Dq,_,rfl,_,rfl,_,_,rfl,rfl,a,dx,ls,ld,ww,hh,q.t+i,n-1,ts,kvs,rfl,pn1,by lia,by lia,by lia,by lia,λ u1 H2 hu1 hh1 s2=>?_⟩;have pn2:=pn1.same s2;refine⟨_,rfl,a,dx,_,rfl,pn2.ob,Dq,_,rfl,_,rfl,a,dx,ls,ld,ww,hh,q.t+i,n,ts,kvs,rfl,pn2,by lia,by lia,by lia,by lia,λ u2 H3 hu2 hh2 s3=>?_⟩;have pn3:=pn2.same s3;have o1:=EH pn hu1 hh1;have o2:=EH pn hu2 hh2;have lv:upB (rcs ts) q (q.t+i) n=!decide (u1.2=u2.2):=by rw[Ma (by lia) (by lia) n1 n2,o1,o2]
   refine⟨rcD u1.2,rcD u2.2,JC (pn3.ats u1 hu1),JC (pn3.ats u2 hu2),⟨_,rfl⟩,⟨_,rfl⟩,KL _,?_⟩;rw[if_pos rfl,N2,<-lv];refine⟨_,rfl,?_⟩;have hacc3:=s3 _ _ (s2 _ _ hacc');have nacc:∀b o,H b=some o->b≠acc:=λ b o e=>Ad e hacc;have s13:=s1.trans (s2.trans s3);cases hb':upB (rcs ts) q (q.t+i) n with
   |false =>
    refine fSk.mk hi' hxl hacc3 ⟨⟨_,rfl⟩,s13,?_⟩;rw[Bu,hb',if_neg Bool.false_ne_true,List.append_nil]
   |true =>
    refine⟨_,rfl,fNx.mk (Nat.le_of_lt (Am (by lia))) hi' hxl hacc3 ⟨⟨_,rfl⟩,λ c o e=>?_,?_⟩⟩
    .rw[Ae (nacc c o e)];exact s13 c o e
    .rw[Bu,hb',if_pos rfl,List.map_append];rfl
  .rintro xs σ H' hxl hacc' ⟨_,s1,rfl⟩;exact k acc H' s1 hacc hacc'
theorem KD(g:Int->Bool)(acc:List (Int×Int))(p:Int):(Bb g acc p).length<=acc.length+1:=by
 unfold Bb;split
 .split
  .rw[List.length_append,List.length_dropLast];simp
  .simp
 .simp
theorem Oz(g:Int->Bool)(ps:List Int):(Eg g ps).length<=ps.length:=by
 have key:∀(ps:List Int)(acc:List (Int×Int)),(ps.foldl (Bb g) acc).length<=acc.length+ps.length:=by
  intro ps
  induction ps with
  |nil=>intro acc;simp
  |cons p ps ih=>intro acc;have:=ih (Bb g acc p);have:=KD g acc p;simp only[List.foldl_cons,List.length_cons];lia
 have:=key ps [];unfold Eg
 simpa using this
theorem DT(f g:Int->Bool)(lo:Int)(n:Nat):(Cw f g lo n).length<=n:=Nat.le_trans (Oz _ _) (C1 _ _ _)
theorem IB{ts:List (Addr×(Int×Int))}{i:Nat}{x:V}(h:(B0 ts)[i]?=some x):∃t,ts[i]?=some t/\x=.ref t.1:=by
 rw[List.getElem?_map]at h;cases e:ts[i]? with
 |none=>rw[e]at h;cases h
 |some t=>rw[e]at h;exact⟨t,rfl,(Option.some.inj h).symm⟩
theorem Ii:Ak ["panel","block","found","line","begin","end"] ["panel","block"] (Ai CF):=fsc
theorem GF{f:Addr}{fd:FuncData}(F:Fun K "level_leads" "level_leads" CF f fd)(T:Txt mg tk)(D_runs:Ay P w K mg base 1 "runs" ["places","stops"] (Jw K))(D_columns_parted:Ay P w K mg base 2 "columns_parted" ["panel","block","line"] (Nt C)):A5 P w K mg base CX0 3 f fd ["panel","block"] (Py C):=by
 have S:=Ii;refine F.ok S (λ vs H Q E h=>?_) (λ cdv A outer s H vs Q E hr h=>?_)
 .obtain⟨a,dx,ls,ld,b,ww,hh,ts,kvs,q,rfl,_⟩:=h;rfl
 .obtain⟨a,dx,ls,ld,b,ww,hh,ts,kvs,q,rfl,pn,hb,qi,k⟩:=h;have qi':=qi;obtain⟨q1,q2,q3,q4,q5,q6⟩:=qi;have gw:=pn.sw;have gh:=pn.sh;refine⟨_,(Af (Aq (i:=2) S.nd rfl (Or.inl rfl) (AO Ac))
   (Af (AX PassesOwn.never rfl (B6 rfl T.z_range (Aa (Ar AC (An Al (pv 1) Ag (λ_ _=>rfl)) Ag) (Aa (An Al (pv 1) Ag (λ_ _=>rfl)) Ac))) (Aj (i:=3) S.nd rfl (Or.inl rfl)) (Ah (AX PassesOwn.never rfl (AJ (Au D_runs hr (Aa (Au D_columns_parted hr (Aa (pv 0) (Aa (pv 1) (Aa (pv 3) Ac)))) (Aa (AO Ac) Ac)))) (BS rfl (Ax (Aj (i:=4) S.nd rfl (Or.inl rfl)) (Ax (Aj (i:=5) S.nd rfl (Or.inl rfl)) Bj))) (Ah (AH (BW PySem.F.plainAttrs_list PySem.F.slot_list_append PySem.F.type_list_append AG (pv 2) (Aa (Az (Aa (A7 (v:=.str "level") rfl T.g_LEVEL_leads ⟨_,rfl⟩) (Aa (pv 3) (Aa (pv 4) (Aa (pv 5) Ac))))) Ac)))))))
   (Ah (Ap (pv 2))))),?_⟩
  refine⟨Av 0,λ lf hlf=>?_⟩;have s1:=Same.new (o:=.lst []) hlf;have e1:(upd H lf (.lst [])) lf=some (.lst []):=Ab;generalize upd H lf (.lst [])=H1 at s1 e1 |-;refine⟨_,rfl,b,_,_,_,rfl,rfl,SqT.of (s1 _ _ hb),at0,_,_,rfl,rfl,_,rfl,b,_,_,_,rfl,rfl,SqT.of (s1 _ _ hb),at2,q.t+1,q.b,rfl,⟨by lia,by lia,by lia,by lia⟩,BH (lo:=q.t+1) (n:=(q.b-(q.t+1)).toNat) (λ i σ H'=>∃(us:List (Addr×LD))(x3 x4 x5:Option V),σ=[some (.ref a),some (.ref b),some (.ref lf),x3,x4,x5]/\Same H H'/\H' lf=some (.lst (AZ us))/\AtL H' us/\us.map (·.2)=lvN (rcs ts) q i/\us.length<=12*i)
   ⟨[],_,_,_,rfl,s1,e1,λ u hu=>absurd hu List.not_mem_nil,rfl,Nat.le_refl _⟩ ?_ ?_⟩
  .rintro i σ H' hi ⟨us,x3,x4,x5,rfl,s2,e2,a2,r2,n2⟩;have hil:i<11:=by lia
   refine⟨_,rfl,_,rfl,_,rfl,a,dx,ls,ld,b,ww,hh,q.t+1+i,ts,kvs,q,rfl,pn.same s2,s2 _ _ hb,qi',by lia,by lia,λ lc H3 s3 hlc ec=>?_⟩;refine⟨Av 0,λ l0 hl0=>?_⟩;have s4:=Same.new (o:=.lst []) hl0;have e4:(upd H3 l0 (.lst [])) l0=some (.lst []):=Ab;have ec4:=s4 _ _ ec;generalize upd H3 l0 (.lst [])=H4 at s4 e4 ec4 |-;refine⟨lc,l0,_,[],rfl,SqL.of ec4,SqL.of e4,by have:=C1 (λ c=>lvB (rcs ts) q (q.t+1+i) c) q.l (q.r-q.l).toNat;lia,λ lr rs H5 s5 hlr er ar rr=>?_⟩;have nl:lf≠lr:=Ad (s4 _ _ (s3 _ _ e2)) hlr;have s25:=s3.trans (s4.trans s5);have rr':rs.map (·.2)=Cw (λ c=>lvB (rcs ts) q (q.t+1+i) c) (λ_=>false) q.l (q.r-q.l).toNat:=by
    rw[rr];unfold Cw;congr 1
   have nr:rs.length<=12:=by
    have:=DT (λ c=>lvB (rcs ts) q (q.t+1+i) c) (λ_=>false) q.l (q.r-q.l).toNat;rw[<-rr',List.length_map]at this;lia
   refine⟨lr,rfl,⟨_,SqL.of er⟩,BB (K:=K) (a:=lr) (xs:=B0 rs) (λ j σ H'=>∃(vs:List (Addr×LD))(x4 x5:Option V),σ=[some (.ref a),some (.ref b),some (.ref lf),some (.int (q.t+1+i)),x4,x5]/\Same H H'/\H' lr=some (.lst (B0 rs))/\At2 H' rs/\H' lf=some (.lst (AZ (us++vs)))/\AtL H' (us++vs)/\vs.map (·.2)=((rs.map (·.2)).take j).map (λ u=>(false,q.t+1+(i:Int),u.1,u.2))/\vs.length<=j)
    ⟨[],_,_,rfl,s2.trans s25,er,ar,by rw[List.append_nil];exact s25 _ _ e2,by rw[List.append_nil];exact a2.same s25,rfl,Nat.le_refl _⟩ (λ j σ H' _ hp=>by obtain⟨_,_,_,_,_,h,_⟩:=hp;exact SqL.of h) ?_ ?_⟩
   .rintro j x σ H6 hx ⟨vs,y4,y5,rfl,s6,f6,g6,e6,a6,r6,n6⟩;obtain⟨u,hu,rfl⟩:=IB hx;have hua:=g6 u (List.mem_of_getElem? hu);have hj:j<rs.length:=(List.getElem?_eq_some_iff.mp hu).1;refine⟨u.1,_,rfl,SqT.of hua,rfl,_,_,rfl,_,_,rfl,rfl,?_⟩;refine⟨_,rfl,.inl ⟨rfl,_,SqL.of e6⟩,_,rfl,_,rfl,_,rfl,Av 4,λ t ht=>?_⟩;have s7:=Same.new (o:=.tup [.str "level",.int (q.t+1+i),.int u.2.1,.int u.2.2]) ht;have e7:(upd H6 t (.tup [.str "level",.int (q.t+1+i),.int u.2.1,.int u.2.2])) t=some (.tup [.str "level",.int (q.t+1+i),.int u.2.1,.int u.2.2]):=Ab;have f7:=s7 _ _ e6;have l7:=s7 _ _ f6;have a7:=a6.same s7;have g7:=g6.same s7;generalize upd H6 t (.tup [.str "level",.int (q.t+1+i),.int u.2.1,.int u.2.2])=H7 at s7 e7 f7 l7 a7 g7 |-;refine⟨lf,_,_,rfl,rfl,f7,Am (by rw[List.length_map,List.length_append];lia),vs++[(t,(false,q.t+1+i,u.2.1,u.2.2))],_,_,rfl,λ c o e=>?_,by rw[Ae (Ne.symm nl)];exact l7,λ v hv=>by rw[Ae (AU (g7 v hv) f7 (by intro z;cases z))];exact g7 v hv,by rw[Ab];simp,λ v hv=>?_,?_,by simp;lia⟩
    .rw[Ae (Ad e hlf)];exact(s6.trans s7) c o e
    .rw[<-List.append_assoc]at hv;rcases List.mem_append.mp hv with hv|hv
     .rw[Ae (AU (a7 v hv) f7 (by intro z;cases z))];exact a7 v hv
     .rw[List.mem_singleton.mp hv,Ae (AU e7 f7 (by intro z;cases z))];exact e7
    .have:(rs.map (·.2))[j]?=some u.2:=by rw[List.getElem?_map,hu];rfl
     rw[List.map_append,r6,List.take_succ,this,List.map_append];rfl
   .rintro σ H6 ⟨vs,y4,y5,rfl,s6,f6,g6,e6,a6,r6,n6⟩;have ll:(B0 rs).length=(rs.map (·.2)).length:=by rw[List.length_map,List.length_map]
    rw[ll,List.take_length,rr']at r6;refine⟨us++vs,_,_,_,rfl,s6,e6,a6,by rw[List.map_append,r2,r6];rfl,?_⟩;rw[List.length_map]at n6;rw[List.length_append];lia
  .rintro σ H' ⟨us,x3,x4,x5,rfl,s2,e2,a2,r2,n2⟩;exact⟨_,rfl,k lf us H' s2 hlf e2 a2 r2⟩
theorem Ff{ts:List (Addr×LD)}{i:Nat}{x:V}(h:(AZ ts)[i]?=some x):∃t,ts[i]?=some t/\x=.ref t.1:=by
 rw[List.getElem?_map]at h;cases e:ts[i]? with
 |none=>rw[e]at h;cases h
 |some t=>rw[e]at h;exact⟨t,rfl,(Option.some.inj h).symm⟩
theorem JU(ps:List Rc)(q:Rc)(hq:q.r-q.l<=12):∀n,(lvN ps q n).length<=12*n
 |0=>Nat.le_refl _
 |n+1=>by
  have h1:=JU ps q hq n;have h2:=DT (λ c=>lvB ps q (q.t+1+n) c) (λ_=>false) q.l (q.r-q.l).toNat;show(lvN ps q n++_).length<=_;rw[List.length_append,List.length_map];lia
theorem FS:Ak ["panel","block","levels","found","line","stops","begin","end"] ["panel","block","levels"] (Ai BM):=fsc
theorem Fk{f:Addr}{fd:FuncData}(F:Fun K "upright_leads" "upright_leads" BM f fd)(T:Txt mg tk)(D_runs:Ay P w K mg base 1 "runs" ["places","stops"] (Jw K))(D_rows_parted:Ay P w K mg base 2 "rows_parted" ["panel","block","line"] (Nn C)):A5 P w K mg base CX0 3 f fd ["panel","block","levels"] (Pt C):=by
 have S:=FS;refine F.ok S (λ vs H Q E h=>?_) (λ cdv A outer s H vs Q E hr h=>?_)
 .obtain⟨a,dx,ls,ld,b,m,ww,hh,ts,kvs,q,ws,rfl,_⟩:=h;rfl
 .obtain⟨a,dx,ls,ld,b,m,ww,hh,ts,kvs,q,ws,rfl,pn,hb,qi,hm,am,rm,k⟩:=h;have qi':=qi;obtain⟨q1,q2,q3,q4,q5,q6⟩:=qi;have gw:=pn.sw;have gh:=pn.sh;have lws:ws.length<=144:=by
   have h1:=JU (rcs ts) q (by lia) (q.b-(q.t+1)).toNat;have h2:(ws.map (·.2)).length=(BX (rcs ts) q).length:=by rw[rm]
   rw[List.length_map]at h2;unfold BX at h2;lia
  refine⟨_,(Af (Aq (i:=3) S.nd rfl (Or.inl rfl) (AO Ac))
   (Af (AX PassesOwn.never rfl (B6 rfl T.z_range (Aa (Ar AC (An Al (pv 1) Ag (λ_ _=>rfl)) Ag) (Aa (An Al (pv 1) Ag (λ_ _=>rfl)) Ac))) (Aj (i:=4) S.nd rfl (Or.inr rfl)) (Af (F7 rfl (Aj (i:=5) S.nd rfl (Or.inl rfl)) (AJ (pv 2)) (λ_ _ _ _ _=>(JF (K:=K) (n:=4) rfl (Ax (Aj (i:=0) (show List.Nodup (["word","row","left","right","line"]:LSz) from by decide +kernel) rfl (Or.inl rfl)) (Ax (Aj (i:=1) (show List.Nodup (["word","row","left","right","line"]:LSz) from by decide +kernel) rfl (Or.inl rfl)) (Ax (Aj (i:=2) (show List.Nodup (["word","row","left","right","line"]:LSz) from by decide +kernel) rfl (Or.inl rfl)) (Ax (Aj (i:=3) (show List.Nodup (["word","row","left","right","line"]:LSz) from by decide +kernel) rfl (Or.inl rfl)) Bj)))))) (λ_ _ _ _ _=>(KN DH DH (pv 2) (pv 4) (pv 3))) (λ_ _ _ _ _=>(pv 1)) (N:=["word","row","left","right","line"]) (fr:=[none,none,none,none,some 4]))
   (Ah (AX PassesOwn.never rfl (AJ (Au D_runs hr (Aa (Au D_rows_parted hr (Aa (pv 0) (Aa (pv 1) (Aa (pv 4) Ac)))) (Aa (pv 5) Ac)))) (BS rfl (Ax (Aj (i:=6) S.nd rfl (Or.inl rfl)) (Ax (Aj (i:=7) S.nd rfl (Or.inl rfl)) Bj))) (Ah (AH (BW PySem.F.plainAttrs_list PySem.F.slot_list_append PySem.F.type_list_append AG (pv 3) (Aa (Az (Aa (A7 (v:=.str "upright") rfl T.g_UPRIGHT_leads ⟨_,rfl⟩) (Aa (pv 4) (Aa (pv 6) (Aa (pv 7) Ac))))) Ac))))))))
   (Ah (Ap (pv 3))))),?_⟩
  refine⟨Av 0,λ lf hlf=>?_⟩;have s1:=Same.new (o:=.lst []) hlf;have e1:(upd H lf (.lst [])) lf=some (.lst []):=Ab;generalize upd H lf (.lst [])=H1 at s1 e1 |-;refine⟨_,rfl,b,_,_,_,rfl,rfl,SqT.of (s1 _ _ hb),at1,_,_,rfl,rfl,_,rfl,b,_,_,_,rfl,rfl,SqT.of (s1 _ _ hb),at3,q.l+1,q.r,rfl,⟨by lia,by lia,by lia,by lia⟩,BH (lo:=q.l+1) (n:=(q.r-(q.l+1)).toNat) (λ i σ H'=>∃(us:List (Addr×LD))(x3 x4 x5 x6:Option V),σ=[some (.ref a),some (.ref b),some (.ref m),some (.ref lf),x3,x4,x5,x6]/\Same H H'/\H' lf=some (.lst (AZ us))/\AtL H' us/\us.map (·.2)=upN (rcs ts) q i/\us.length<=12*i)
   ⟨[],_,_,_,_,rfl,s1,e1,λ u hu=>absurd hu List.not_mem_nil,rfl,Nat.le_refl _⟩ ?_ ?_⟩
  .rintro i σ H' hi ⟨us,x3,x4,x5,x6,rfl,s2,e2,a2,r2,n2⟩;have hil:i<11:=by lia
   refine⟨_,rfl,m,rfl,⟨_,SqL.of (s2 _ _ hm)⟩,λ acc hacc=>Cs (K:=K) (a:=m) (ys:=AZ ws) (λ j xs σ H2=>(∃y0 y1 y2 y3,σ=[y0,y1,y2,y3,some (.int (q.l+1+i))])/\Same H' H2/\∃ss:List Int,xs=ss.map V.int/\∀x,x∈ss↔∃d∈(ws.map (·.2)).take j,d.2.1=x/\d.2.2.1<q.l+1+i/\q.l+1+i<d.2.2.2) ⟨⟨none,none,none,none,rfl⟩,Same.new hacc,[],rfl,λ x=>⟨λ h=>absurd h List.not_mem_nil,λ⟨d,h,_⟩=>absurd h List.not_mem_nil⟩⟩ (λ j xs σ H2 _ _ hp=>SqL.of ((s2.trans hp.2.1) _ _ hm)) ?_ ?_⟩
   .rintro j x xs σ H2 hx hj hxl hacc' ⟨⟨y0,y1,y2,y3,rfl⟩,s3,ss,rfl,hss⟩;obtain⟨u,hu,rfl⟩:=Ff hx;have hua:=(am.same (s2.trans s3)) u (List.mem_of_getElem? hu);have hj':(ws.map (·.2))[j]?=some u.2:=by rw[List.getElem?_map,hu];rfl
    have skip:¬(u.2.2.2.1<q.l+1+i/\q.l+1+i<u.2.2.2.2)->∀x,x∈ss↔∃d∈(ws.map (·.2)).take (j+1),d.2.1=x/\d.2.2.1<q.l+1+i/\q.l+1+i<d.2.2.2:=λ hn x=>by
     rw[hss,List.take_succ,hj']
     constructor
     .rintro⟨d,h1,h2⟩;exact⟨d,List.mem_append_left _ h1,h2⟩
     .rintro⟨d,h1,h2,h3⟩;rcases List.mem_append.mp h1 with h1|h1
      .exact⟨d,h1,h2,h3⟩
      .have:d=u.2:=by simpa using h1
       subst this;exact absurd h3 hn
    have add:(u.2.2.2.1<q.l+1+i/\q.l+1+i<u.2.2.2.2)->∀x,x∈ss++[u.2.2.1]↔∃d∈(ws.map (·.2)).take (j+1),d.2.1=x/\d.2.2.1<q.l+1+i/\q.l+1+i<d.2.2.2:=λ hy x=>by
     rw[List.mem_append,hss,List.take_succ,hj']
     constructor
     .rintro(⟨d,h1,h2⟩|h)
      .exact⟨d,List.mem_append_left _ h1,h2⟩
      .exact⟨u.2,List.mem_append_right _ (by simp),(List.mem_singleton.mp h).symm,hy⟩
     .rintro⟨d,h1,h2,h3⟩;rcases List.mem_append.mp h1 with h1|h1
      .exact .inl ⟨d,h1,h2,h3⟩
      .have:d=u.2:=by simpa using h1
       subst this;exact .inr (List.mem_singleton.mpr h2.symm)
    have nacc:∀b o,H' b=some o->b≠acc:=λ b o e=>Ad e hacc;refine⟨u.1,_,rfl,SqT.of hua,rfl,_,_,rfl,_,_,rfl,_,_,rfl,_,_,rfl,rfl,?_⟩;refine⟨_,rfl,_,rfl,_,_,rfl,rfl,_,rfl,Bw (λ c1=>?_) (λ c1=>?_)⟩
    .refine⟨_,rfl,_,_,rfl,rfl,_,rfl,?_⟩;cases c2:decide (q.l+1+(i:Int)<u.2.2.2.2) with
     |true =>
      refine⟨_,rfl,fNx.mk (Nat.le_of_lt (Am (by rw[List.length_map];lia))) hj hxl hacc' ⟨⟨_,_,_,_,rfl⟩,λ c o e=>?_,ss++[u.2.2.1],by rw[List.map_append];rfl,add ⟨of_decide_eq_true c1,of_decide_eq_true c2⟩⟩⟩;rw[Ae (nacc c o e)];exact s3 c o e
     |false=>exact fSk.mk hj hxl hacc' ⟨⟨_,_,_,_,rfl⟩,s3,ss,rfl,skip λ z=>of_decide_eq_false c2 z.2⟩
    .exact⟨_,rfl,fSk.mk hj hxl hacc' ⟨⟨_,_,_,_,rfl⟩,s3,ss,rfl,skip λ z=>of_decide_eq_false c1 z.1⟩⟩
   rintro xs σ H2 hl' hacc' ⟨_,s3,ss,rfl,hss⟩;have ll:(AZ ws).length=(ws.map (·.2)).length:=by rw[List.length_map,List.length_map]
   rw[ll,List.take_length,rm]at hss;have hg:(λ x=>decide (x∈ss))=λ r=>psB (rcs ts) q r (q.l+1+i):=funext λ x=>by
    rw[Bool.eq_iff_iff,decide_eq_true_eq,hss,Ow (by lia)]
   refine⟨_,rfl,_,rfl,_,rfl,a,dx,ls,ld,b,ww,hh,q.l+1+i,ts,kvs,q,rfl,pn.same (s2.trans s3),(s2.trans s3) _ _ hb,qi',by lia,by lia,λ lc H3 s4 hlc ec=>?_⟩;refine⟨_,rfl,lc,acc,_,ss,rfl,SqL.of ec,SqL.of (s4 _ _ hacc'),by have:=C1 (λ r=>upB (rcs ts) q r (q.l+1+i)) q.t (q.b-q.t).toNat;lia,λ lr rs H5 s5 hlr er ar rr=>?_⟩;have nl:lf≠lr:=Ad (s4 _ _ (s3 _ _ e2)) hlr;have s25:=s3.trans (s4.trans s5);have rr':rs.map (·.2)=Cw (λ r=>upB (rcs ts) q r (q.l+1+i)) (λ r=>psB (rcs ts) q r (q.l+1+i)) q.t (q.b-q.t).toNat:=by
    rw[rr,hg];rfl
   have nr:rs.length<=12:=by
    have:=DT (λ r=>upB (rcs ts) q r (q.l+1+i)) (λ r=>psB (rcs ts) q r (q.l+1+i)) q.t (q.b-q.t).toNat;rw[<-rr',List.length_map]at this;lia
   refine⟨lr,rfl,⟨_,SqL.of er⟩,BB (K:=K) (a:=lr) (xs:=B0 rs) (λ j σ H'=>∃(vs:List (Addr×LD))(x4 x5:Option V),σ=[some (.ref a),some (.ref b),some (.ref m),some (.ref lf),some (.int (q.l+1+i)),some (.ref acc),x4,x5]/\Same H H'/\H' lr=some (.lst (B0 rs))/\At2 H' rs/\H' lf=some (.lst (AZ (us++vs)))/\AtL H' (us++vs)/\vs.map (·.2)=((rs.map (·.2)).take j).map (λ u=>(true,q.l+1+(i:Int),u.1,u.2))/\vs.length<=j)
    ⟨[],_,_,rfl,s2.trans s25,er,ar,by rw[List.append_nil];exact s25 _ _ e2,by rw[List.append_nil];exact a2.same s25,rfl,Nat.le_refl _⟩ (λ j σ H' _ hp=>by obtain⟨_,_,_,_,_,h,_⟩:=hp;exact SqL.of h) ?_ ?_⟩
   .rintro j x σ H6 hx ⟨vs,y4,y5,rfl,s6,f6,g6,e6,a6,r6,n6⟩;obtain⟨u,hu,rfl⟩:=IB hx;have hua:=g6 u (List.mem_of_getElem? hu);have hj:j<rs.length:=(List.getElem?_eq_some_iff.mp hu).1;refine⟨u.1,_,rfl,SqT.of hua,rfl,_,_,rfl,_,_,rfl,rfl,?_⟩;refine⟨_,rfl,.inl ⟨rfl,_,SqL.of e6⟩,_,rfl,_,rfl,_,rfl,Av 4,λ t ht=>?_⟩;have s7:=Same.new (o:=.tup [.str "upright",.int (q.l+1+i),.int u.2.1,.int u.2.2]) ht;have e7:(upd H6 t (.tup [.str "upright",.int (q.l+1+i),.int u.2.1,.int u.2.2])) t=some (.tup [.str "upright",.int (q.l+1+i),.int u.2.1,.int u.2.2]):=Ab;have f7:=s7 _ _ e6;have l7:=s7 _ _ f6;have a7:=a6.same s7;have g7:=g6.same s7;generalize upd H6 t (.tup [.str "upright",.int (q.l+1+i),.int u.2.1,.int u.2.2])=H7 at s7 e7 f7 l7 a7 g7 |-;refine⟨lf,_,_,rfl,rfl,f7,Am (by rw[List.length_map,List.length_append];lia),vs++[(t,(true,q.l+1+i,u.2.1,u.2.2))],_,_,rfl,λ c o e=>?_,by rw[Ae (Ne.symm nl)];exact l7,λ v hv=>by rw[Ae (AU (g7 v hv) f7 (by intro z;cases z))];exact g7 v hv,by rw[Ab];simp,λ v hv=>?_,?_,by simp;lia⟩
    .rw[Ae (Ad e hlf)];exact(s6.trans s7) c o e
    .rw[<-List.append_assoc]at hv;rcases List.mem_append.mp hv with hv|hv
     .rw[Ae (AU (a7 v hv) f7 (by intro z;cases z))];exact a7 v hv
     .rw[List.mem_singleton.mp hv,Ae (AU e7 f7 (by intro z;cases z))];exact e7
    .have:(rs.map (·.2))[j]?=some u.2:=by rw[List.getElem?_map,hu];rfl
     rw[List.map_append,r6,List.take_succ,this,List.map_append];rfl
   .rintro σ H6 ⟨vs,y4,y5,rfl,s6,f6,g6,e6,a6,r6,n6⟩;have ll:(B0 rs).length=(rs.map (·.2)).length:=by rw[List.length_map,List.length_map]
    rw[ll,List.take_length,rr']at r6;refine⟨us++vs,_,_,_,_,rfl,s6,e6,a6,by rw[List.map_append,r2,r6];rfl,?_⟩;rw[List.length_map]at n6;rw[List.length_append];lia
  .rintro σ H' ⟨us,x3,x4,x5,x6,rfl,s2,e2,a2,r2,n2⟩;exact⟨_,rfl,k lf us H' s2 hlf e2 a2 r2⟩
theorem Nh(ps:List Rc)(q:Rc)(hq:q.b-q.t<=12):∀n,(upN ps q n).length<=12*n
 |0=>Nat.le_refl _
 |n+1=>by
  have h1:=Nh ps q hq n;have h2:=DT (λ r=>upB ps q r (q.l+1+n)) (λ r=>psB ps q r (q.l+1+n)) q.t (q.b-q.t).toNat;show(upN ps q n++_).length<=_;rw[List.length_append,List.length_map];lia
theorem IK{w h:Int}{ps:List Rc}{q:Rc}(qi:q.In w h)(hw:w<=12)(hh:h<=12):(BX ps q).length<=144/\(Dy ps q).length<=144:=by
 obtain⟨q1,q2,q3,q4,q5,q6⟩:=qi;have h1:=JU ps q (by lia) (q.b-(q.t+1)).toNat;have h2:=Nh ps q (by lia) (q.r-(q.l+1)).toNat;unfold BX Dy;lia
theorem Se:Ak ["panel","block","levels"] ["panel","block"] (Ai J0):=fsc
theorem PV{f:Addr}{fd:FuncData}(F:Fun K "leads" "leads" J0 f fd)(D_check_block:Ay P w K mg base 4 "check_block" ["panel","block"] (Mj C))(D_level_leads:Ay P w K mg base 3 "level_leads" ["panel","block"] (Py C))(D_upright_leads:Ay P w K mg base 3 "upright_leads" ["panel","block","levels"] (Pt C)):A5 P w K mg base CX0 5 f fd ["panel","block"] (K4 C):=by
 have S:=Se;refine F.ok S (λ vs H Q E h=>?_) (λ cdv A outer s H vs Q E hr h=>?_)
 .obtain⟨a,dx,ls,ld,b,ww,hh,ts,kvs,q,rfl,_⟩:=h;rfl
 .obtain⟨a,dx,ls,ld,b,ww,hh,ts,kvs,q,rfl,pn,hb,qi,hk,k⟩:=h;have gw:=pn.sw;have gh:=pn.sh;obtain⟨n1,n2⟩:=IK (ps:=rcs ts) qi gw.2 gh.2;refine⟨_,(Af (AH (Au D_check_block hr (Aa (pv 0) (Aa (pv 1) Ac))))
   (Af (Aq (i:=2) S.nd rfl (Or.inl rfl) (Au D_level_leads hr (Aa (pv 0) (Aa (pv 1) Ac))))
   (Ah (Ap (Ar CM (pv 2) (Au D_upright_leads hr (Aa (pv 0) (Aa (pv 1) (Aa (pv 2) Ac))))))))),?_⟩
  refine⟨_,rfl,_,rfl,a,dx,ls,ld,b,ww,hh,ts,kvs,q,rfl,pn,hb,hk,λ H1 s1=>?_⟩;refine⟨_,rfl,_,rfl,a,dx,ls,ld,b,ww,hh,ts,kvs,q,rfl,pn.same s1,s1 _ _ hb,qi,λ l us H2 s2 hl el al rl=>?_⟩;have s12:=s1.trans s2;refine⟨_,rfl,_,rfl,_,rfl,_,rfl,a,dx,ls,ld,b,l,ww,hh,ts,kvs,q,us,rfl,pn.same s12,s12 _ _ hb,qi,el,al,rl,λ l' us' H3 s3 hl' el' al' rl'=>?_⟩;have m1:us.length<=144:=by rw[<-rl,List.length_map]at n1;exact n1
  have m2:us'.length<=144:=by rw[<-rl',List.length_map]at n2;exact n2
  refine⟨l,l',_,_,rfl,rfl,s3 _ _ el,el',Nat.le_of_lt (Am (by rw[List.length_map,List.length_map];lia)),λ p hp=>?_⟩;have s4:=Same.new (o:=.lst (AZ us++AZ us')) hp;have s14:=s12.trans (s3.trans s4);have hp0:H p=none:=by
   cases e:H p with
   |none=>rfl
   |some o=>rw[(s12.trans s3) _ _ e]at hp;cases hp
  refine k p (us++us') _ s14 hp0 (by rw[Ab];simp) (λ u hu=>?_) (by rw[List.map_append,rl,rl']);rcases List.mem_append.mp hu with hu|hu
  .exact(al.same (s3.trans s4)) u hu
  .exact(al'.same s4) u hu
theorem Po{w h:Int}{A B qs:List Rc}{u:Rc}(T:Tiles w h (A++u::B))(h1:∀x∈qs,x.t<x.b/\x.l<x.r/\u.t<=x.t/\x.b<=u.b/\u.l<=x.l/\x.r<=u.r)(h2:qs.Pairwise Apart)(h3:∀r c,u.has r c->∃x∈qs,x.has r c):Tiles w h (A++qs++B):=by
 have sub:∀x∈qs,∀r c,x.has r c->u.has r c:=λ x hx r c hh=>by
  obtain⟨a1,a2,a3,a4,a5,a6⟩:=h1 x hx;obtain⟨b1,b2,b3,b4⟩:=hh;exact⟨by lia,by lia,by lia,by lia⟩
 obtain⟨d1,d2,d3⟩:=List.pairwise_append.mp T.dis;obtain⟨d4,d5⟩:=List.pairwise_cons.mp d2;refine⟨λ p hp=>?_,?_,λ r c b1 b2 b3 b4=>?_⟩
 .rcases List.mem_append.mp hp with hp|hp
  .rcases List.mem_append.mp hp with hp|hp
   .exact T.ins p (List.mem_append_left _ hp)
   .obtain⟨u1,u2,u3,u4,u5,u6⟩:=T.ins u (by simp);obtain⟨a1,a2,a3,a4,a5,a6⟩:=h1 p hp;exact⟨by lia,by lia,by lia,by lia,by lia,by lia⟩
  .exact T.ins p (List.mem_append_right _ (List.mem_cons_of_mem _ hp))
 .refine List.pairwise_append.mpr ⟨List.pairwise_append.mpr ⟨d1,h2,λ a ha b hb r c x y=>d3 a ha u (by simp) r c x (sub b hb r c y)⟩,d5,λ a ha b hb=>?_⟩;rcases List.mem_append.mp ha with ha|ha
  .exact d3 a ha b (List.mem_cons_of_mem _ hb)
  .exact λ r c x y=>d4 b hb r c (sub a ha r c x) y
 .obtain⟨p,hp,hh⟩:=T.cov r c b1 b2 b3 b4;rcases List.mem_append.mp hp with hp|hp
  .exact⟨p,List.mem_append_left _ (List.mem_append_left _ hp),hh⟩
  .rcases List.mem_cons.mp hp with rfl|hp
   .obtain⟨x,hx,hx'⟩:=h3 r c hh;exact⟨x,List.mem_append_left _ (List.mem_append_right _ hx),hx'⟩
   .exact⟨p,List.mem_append_right _ hp,hh⟩
def Cp(u:Rc)(high low near far:Int):List Rc:=[⟨u.t,u.l,low,near⟩,⟨low,u.l,u.b,far⟩,⟨high,far,u.b,u.r⟩,⟨u.t,near,high,u.r⟩]
def Co(u:Rc)(high low near far:Int):List Rc:=[⟨u.t,u.l,high,far⟩,⟨u.t,far,low,u.r⟩,⟨low,near,u.b,u.r⟩,⟨high,u.l,u.b,near⟩]
theorem apt{t l b r t' l' b' r':Int}(h:b<=t'\/b'<=t\/r<=l'\/r'<=l):Apart ⟨t,l,b,r⟩ ⟨t',l',b',r'⟩:=by
 rintro ro co ⟨a1,a2,a3,a4⟩ ⟨a5,a6,a7,a8⟩;have a1:t<=ro:=a1;have a2:ro<b:=a2;have a3:l<=co:=a3;have a4:co<r:=a4;have a5:t'<=ro:=a5;have a6:ro<b':=a6;have a7:l'<=co:=a7;have a8:co<r':=a8;lia
def Nd(t l b r:Int)(qs:List Rc):Prop:=(∀x∈qs,x.t<x.b/\x.l<x.r/\t<=x.t/\x.b<=b/\l<=x.l/\x.r<=r)/\qs.Pairwise Apart/\∀ro co,t<=ro->ro<b->l<=co->co<r->∃x∈qs,x.has ro co
theorem Qw{t l b r high low near far:Int}(a1:t<high)(a2:high<low)(a3:low<b)(b1:l<near)(b2:near<far)(b3:far<r):Nd t l b r (Cp ⟨t,l,b,r⟩ high low near far++[⟨high,near,low,far⟩]):=by
 refine⟨?_,?_,λ ro co c1 c2 c3 c4=>?_⟩
 .simp only[Cp,List.cons_append,List.nil_append,List.forall_mem_cons,List.not_mem_nil,false_implies,implies_true,and_true];refine⟨?_,?_,?_,?_,?_⟩<;>lia
 .simp only[Cp,List.cons_append,List.nil_append,List.pairwise_cons,List.forall_mem_cons,List.not_mem_nil,false_implies,implies_true,and_true,List.Pairwise.nil];refine⟨⟨?_,?_,?_,?_⟩,⟨?_,?_,?_⟩,⟨?_,?_⟩,?_⟩<;>exact apt (by lia)
 .by_cases h1:ro<low/\co<near
  .exact⟨⟨t,l,low,near⟩,by simp[Cp],c1,h1.1,c3,h1.2⟩
  by_cases h2:low<=ro/\co<far
  .exact⟨⟨low,l,b,far⟩,by simp[Cp],h2.1,c2,c3,h2.2⟩
  by_cases h3:high<=ro/\far<=co
  .exact⟨⟨high,far,b,r⟩,by simp[Cp],h3.1,c2,h3.2,c4⟩
  by_cases h4:ro<high/\near<=co
  .exact⟨⟨t,near,high,r⟩,by simp[Cp],c1,h4.1,h4.2,c4⟩
  .exact⟨⟨high,near,low,far⟩,by simp[Cp],by show high<=ro;lia,by show ro<low;lia,by show near<=co;lia,by show co<far;lia⟩
theorem Qv{t l b r high low near far:Int}(a1:t<high)(a2:high<low)(a3:low<b)(b1:l<near)(b2:near<far)(b3:far<r):Nd t l b r (Co ⟨t,l,b,r⟩ high low near far++[⟨high,near,low,far⟩]):=by
 refine⟨?_,?_,λ ro co c1 c2 c3 c4=>?_⟩
 .simp only[Co,List.cons_append,List.nil_append,List.forall_mem_cons,List.not_mem_nil,false_implies,implies_true,and_true];refine⟨?_,?_,?_,?_,?_⟩<;>lia
 .simp only[Co,List.cons_append,List.nil_append,List.pairwise_cons,List.forall_mem_cons,List.not_mem_nil,false_implies,implies_true,and_true,List.Pairwise.nil];refine⟨⟨?_,?_,?_,?_⟩,⟨?_,?_,?_⟩,⟨?_,?_⟩,?_⟩<;>exact apt (by lia)
 .by_cases h1:ro<high/\co<far
  .exact⟨⟨t,l,high,far⟩,by simp[Co],c1,h1.1,c3,h1.2⟩
  by_cases h2:ro<low/\far<=co
  .exact⟨⟨t,far,low,r⟩,by simp[Co],c1,h2.1,h2.2,c4⟩
  by_cases h3:low<=ro/\near<=co
  .exact⟨⟨low,near,b,r⟩,by simp[Co],h3.1,c2,h3.2,c4⟩
  by_cases h4:high<=ro/\co<near
  .exact⟨⟨high,l,b,near⟩,by simp[Co],h4.1,c2,c3,h4.2⟩
  .exact⟨⟨high,near,low,far⟩,by simp[Co],by show high<=ro;lia,by show ro<low;lia,by show near<=co;lia,by show co<far;lia⟩
theorem RR{w h:Int}{A B qs:List Rc}{u:Rc}{high low near far:Int}(T:Tiles w h (A++u::B))(a1:u.t<high)(a2:high<low)(a3:low<u.b)(b1:u.l<near)(b2:near<far)(b3:far<u.r)
  (hq:qs=Cp u high low near far\/qs=Co u high low near far):Tiles w h (A++(qs++[⟨high,near,low,far⟩])++B):=by
 have o:Nd u.t u.l u.b u.r (qs++[⟨high,near,low,far⟩]):=by
  rcases hq with rfl|rfl
  .exact Qw a1 a2 a3 b1 b2 b3
  .exact Qv a1 a2 a3 b1 b2 b3
 exact Po T o.1 o.2.1 λ r c hh=>o.2.2 r c hh.1 hh.2.1 hh.2.2.1 hh.2.2.2
theorem Jv{α:Type}{xs:List α}{n:Nat}{x:α}(h:xs[n]?=some x):xs=xs.take n++x::xs.drop (n+1):=by
 obtain⟨h1,rfl⟩:=List.getElem?_eq_some_iff.mp h;rw[List.getElem_cons_drop,List.take_append_drop]
theorem T4{w h:Int}{ps:List Rc}{q:Rc}(h1:q.b<=h)(h2:q.r<=w)(bt:0<=q.t/\q.t<q.b)(bl:0<=q.l/\q.l<q.r):blk w h ps q=okA ps q:=by
 have e1:N0 q=true:=by
  show(decide (0<=q.t)&&decide (q.t<q.b)&&(decide (0<=q.l)&&decide (q.l<q.r)))=true;rw[decide_eq_true bt.1,decide_eq_true bt.2,decide_eq_true bl.1,decide_eq_true bl.2];rfl
 have e2:BY q ⟨0,0,h,w⟩=true:=by
  show(decide (0<=q.t)&&decide (0<=q.l)&&(decide (q.b<=h)&&decide (q.r<=w)))=true;rw[decide_eq_true bt.1,decide_eq_true bl.1,decide_eq_true h1,decide_eq_true h2];rfl
 unfold blk;rw[e1,e2];rfl
theorem Vn{α:Type}{us:List α}(h:us.length=1):∃a,us=[a]:=List.length_eq_one_iff.mp h
theorem Ut{α:Type}{us:List α}(h:us.length=2):∃a b,us=[a,b]:=by
 cases us with
 |nil=>cases h
 |cons a r=>obtain⟨b,rfl⟩:=Vn (Nat.succ.inj h);exact⟨a,b,rfl⟩
theorem Us{α:Type}{us:List α}(h:us.length=3):∃a b c,us=[a,b,c]:=by
 cases us with
 |nil=>cases h
 |cons a r=>obtain⟨b,c,rfl⟩:=Ut (Nat.succ.inj h);exact⟨a,b,c,rfl⟩
theorem Vm{α:Type}{us:List α}(h:us.length=4):∃a b c d,us=[a,b,c,d]:=by
 cases us with
 |nil=>cases h
 |cons a r=>obtain⟨b,c,d,rfl⟩:=Us (Nat.succ.inj h);exact⟨a,b,c,d,rfl⟩
theorem KI{α:Type}(ts:List (Addr×α)):(Ao ts).length=ts.length:=List.length_map ..
def wd(u:Bool):Str:=if u=true then "upright" else "level"
theorem D7(u v:Bool):decide (V.str (wd u)=V.str (wd v))=(u==v):=by cases u<;>cases v<;>decide +kernel
theorem Gk(u:Bool):decide (V.str (wd u)=V.str "whole")=false:=by cases u<;>decide +kernel
inductive Tr where
 |whole (m:Option Int)
 |cut (u:Bool) (k:Int) (x y:Tr)
def Tr.sz:Tr->Nat
 |.whole _=>1
 |.cut _ _ x y=>x.sz+y.sz
def CU:Option Int->V
 |none=>.non
 |some i=>.int i
def Fit:Tr->Int->Int->Prop
 |.whole _,_,_=>True
 |.cut u k x y,w,h=>if u=true then (1<=k/\k<w/\Fit x k h/\Fit y (w-k) h) else (1<=k/\k<h/\Fit x w k/\Fit y w (h-k))
theorem Hg:∀{t:Tr}{w h:Int},1<=w->1<=h->Fit t w h->(t.sz:Int)<=w*h
 |.whole _,w,h,hw,hh,_=>by
  show((1:Nat):Int)<=_;have:=Int.mul_le_mul hw hh (by lia) (by lia);lia
 |.cut u k x y,w,h,hw,hh,f=>by
  rw[Fit]at f;show((x.sz+y.sz:Nat):Int)<=_;cases u with
  |true =>
   obtain⟨a,b,c,d⟩:=f;have h1:=Hg a hh c;have h2:=Hg (by lia) hh d;rw[Int.sub_mul]at h2;lia
  |false =>
   obtain⟨a,b,c,d⟩:=f;have h1:=Hg hw a c;have h2:=Hg hw (by lia) d;rw[Int.mul_sub]at h2;lia
theorem Jc{x0 x1:V}:atI [x0,x1] 0=some x0:=rfl
theorem QI{x0 x1:V}:atI [x0,x1] 1=some x1:=rfl
def HY(cU cL:Addr)(u:Bool):Addr:=if u then cU else cL
abbrev wF(m:V):LFz:=AT "mark" m []
abbrev cF(k:Int)(vx vy:V):LFz:=AT "other" vy (AT "first" vx (AT "at" (.int k) []))
def Obj(cW cU cL:Addr)(H:Hp):Tr->V->Prop
 |.whole m,v=>∃a dx,v=.ref a/\H a=some (.ins cW dx (wF (CU m)))
 |.cut u k x y,v=>∃a dx vx vy,v=.ref a/\H a=some (.ins (HY cU cL u) dx (cF k vx vy))/\Obj cW cU cL H x vx/\Obj cW cU cL H y vy
theorem Obj.same{H H':Hp}(s:Same H H'):∀{t:Tr}{v:V},Obj cW cU cL H t v->Obj cW cU cL H' t v
 |.whole m,v,h=>by
  rw[Obj]at h |-;obtain⟨a,dx,e,h⟩:=h;exact⟨a,dx,e,s _ _ h⟩
 |.cut u k x y,v,h=>by
  rw[Obj]at h |-;obtain⟨a,dx,vx,vy,e,h,h1,h2⟩:=h;exact⟨a,dx,vx,vy,e,s _ _ h,Obj.same s h1,Obj.same s h2⟩
structure RT(mg:MGz)(K:Frag)(cT cW cU cL:Addr):Prop where
 g_Tree:mg "Tree"=some (.ref cT)
 g_Whole:mg "Whole"=some (.ref cW)
 g_Upright:mg "Upright"=some (.ref cU)
 g_Level:mg "Level"=some (.ref cL)
 iW:Nc K cW
 iC:∀u,Nc K (HY cU cL u)
 n_mark:NoAttr K cW "mark"
 n_at:∀u,NoAttr K (HY cU cL u) "at"
 n_first:∀u,NoAttr K (HY cU cL u) "first"
 n_other:∀u,NoAttr K (HY cU cL u) "other"
 kWW:kitOne K (.ref cW) (.ref cW)=some true
 kWC:∀u,kitOne K (.ref cW) (.ref (HY cU cL u))=some false
 kCW:∀u,kitOne K (.ref (HY cU cL u)) (.ref cW)=some false
 kCC:∀u v,kitOne K (.ref (HY cU cL u)) (.ref (HY cU cL v))=some (u==v)
 kWT:kitOne K (.ref cW) (.ref cT)=some true
 kCT:∀u,kitOne K (.ref (HY cU cL u)) (.ref cT)=some true
inductive QR(C:Addr)(vs:LUz)(H:Hp)(Q:VK)(E:XK):Prop
 |mk (a dx:Addr) (m:V) (h0:vs=[.ref a,m]) (h1:H a=some (.ins C dx [])) (h2:Q .non (upd H a (.ins C dx (wF m)))):QR C vs H Q E
def P0(C:Addr) :Sp:=λ vs H Q E=>QR C vs H Q E
inductive QS(C:Addr)(vs:LUz)(H:Hp)(Q:VK)(E:XK):Prop
 |mk (a dx:Addr) (k:Int) (vx vy:V) (h0:vs=[.ref a,.int k,vx,vy]) (h1:H a=some (.ins C dx [])) (h2:∀H',SameX a H H'->H' a=some (.ins C dx (cF k vx vy))->Q .non H'):QS C vs H Q E
def Np(C:Addr) :Sp:=λ vs H Q E=>QS C vs H Q E
theorem Kt:Ak ["self","mark"] ["self","mark"] (Ai Bt):=fsc
theorem HR{f:Addr}{fd:FuncData}(F:FunD K "__init__" "Whole.__init__" Bt f fd)(R:RT mg K cT cW cU cL):A5 P w K mg base CX0 1 f fd ["self","mark"] (P0 cW):=by
 have S:=Kt;refine F.ok S (λ vs H Q E h=>?_) (λ cdv A outer s H vs Q E hr h=>?_)
 .obtain⟨a,dx,m,rfl,_⟩:=h;rfl
 .obtain⟨a,dx,m,rfl,ha,q⟩:=h;refine⟨_,(Ah (Ci (pv 0) (pv 1) rfl)),?_⟩;exact⟨_,rfl,_,rfl,a,cW,dx,_,rfl,ha,R.iW.cl,R.n_mark,(by show 0<1000;decide),q⟩
theorem Hu:Ak ["self","at","first","other"] ["self","at","first","other"] (Ai Cf):=fsc
theorem FO{f:Addr}{fd:FuncData}(F:Fun K "__init__" "Upright.__init__" Cf f fd)(R:RT mg K cT cW cU cL):A5 P w K mg base CX0 1 f fd ["self","at","first","other"] (Np cU):=by
 have S:=Hu;refine F.ok S (λ vs H Q E h=>?_) (λ cdv A outer s H vs Q E hr h=>?_)
 .obtain⟨a,dx,k,vx,vy,rfl,_⟩:=h;rfl
 .obtain⟨a,dx,k,vx,vy,rfl,ha,q⟩:=h;refine⟨_,(Af (Ci (pv 0) (pv 1) rfl)
   (Af (Ci (pv 0) (pv 2) rfl)
   (Ah (Ci (pv 0) (pv 3) rfl)))),?_⟩
  refine⟨_,rfl,_,rfl,a,cU,dx,_,rfl,ha,(R.iC true).cl,R.n_at true,(by show 0<1000;decide),?_⟩;refine⟨_,rfl,_,rfl,a,cU,dx,_,rfl,Ab,(R.iC true).cl,R.n_first true,(by show 1<1000;decide),?_⟩;refine⟨_,rfl,_,rfl,a,cU,dx,_,rfl,Ab,(R.iC true).cl,R.n_other true,(by show 2<1000;decide),?_⟩;exact q _ ((SameX.upd.trans SameX.upd).trans SameX.upd) Ab
theorem Kw:Ak ["self","at","first","other"] ["self","at","first","other"] (Ai Dl):=fsc
theorem HV{f:Addr}{fd:FuncData}(F:Fun K "__init__" "Level.__init__" Dl f fd)(R:RT mg K cT cW cU cL):A5 P w K mg base CX0 1 f fd ["self","at","first","other"] (Np cL):=by
 have S:=Kw;refine F.ok S (λ vs H Q E h=>?_) (λ cdv A outer s H vs Q E hr h=>?_)
 .obtain⟨a,dx,k,vx,vy,rfl,_⟩:=h;rfl
 .obtain⟨a,dx,k,vx,vy,rfl,ha,q⟩:=h;refine⟨_,(Af (Ci (pv 0) (pv 1) rfl)
   (Af (Ci (pv 0) (pv 2) rfl)
   (Ah (Ci (pv 0) (pv 3) rfl)))),?_⟩
  refine⟨_,rfl,_,rfl,a,cL,dx,_,rfl,ha,(R.iC false).cl,R.n_at false,(by show 0<1000;decide),?_⟩;refine⟨_,rfl,_,rfl,a,cL,dx,_,rfl,Ab,(R.iC false).cl,R.n_first false,(by show 1<1000;decide),?_⟩;refine⟨_,rfl,_,rfl,a,cL,dx,_,rfl,Ab,(R.iC false).cl,R.n_other false,(by show 2<1000;decide),?_⟩;exact q _ ((SameX.upd.trans SameX.upd).trans SameX.upd) Ab
theorem Fp{H:Hp}{x dx:Addr}{o1 o2:HO}(hx:H x=none)(hd:H dx=none):Same H (upd (upd H dx o1) x o2):=λ b o e=>by
 rw[Ae (Ad e hx),Ae (Ad e hd)];exact e
theorem fW(m:V):(wF m).lookup ("mark":Str)=some m:=by rw[Aw,if_pos rfl]
theorem U4(k:Int)(vx vy:V):(cF k vx vy).lookup ("at":Str)=some (.int k):=by rw[Aw,if_neg (by decide +kernel),Aw,if_neg (by decide +kernel),Aw,if_pos rfl]
theorem Qz(k:Int)(vx vy:V):(cF k vx vy).lookup ("first":Str)=some vx:=by rw[Aw,if_neg (by decide +kernel),Aw,if_pos rfl]
theorem Qy(k:Int)(vx vy:V):(cF k vx vy).lookup ("other":Str)=some vy:=by rw[Aw,if_pos rfl]
theorem P9{C:Addr}:∀u',RelV (.ref C) u'->u'=.ref C:=λ_ z=>z
inductive En where
 |w (m:Option Int)
 |c (u:Bool) (k:Int)
def AD:Tr->List En
 |.whole m=>[.w m]
 |.cut u k x y=>.c u k::(AD x++AD y)
def Tr.nd:Tr->Nat
 |.whole _=>1
 |.cut _ _ x y=>x.nd+y.nd+1
theorem Cr:∀t:Tr,(AD t).length=t.nd
 |.whole _=>rfl
 |.cut _ _ x y=>by rw[AD,List.length_cons,List.length_append,Cr x,Cr y];rfl
theorem M8:∀t:Tr,0<t.nd
 |.whole _=>Nat.one_pos
 |.cut _ _ x y=>Nat.succ_pos _
def enV:En->LUz
 |.w m=>[.str "whole",CU m]
 |.c u k=>[.str (wd u),.int k]
def hdE:Tr->En
 |.whole m=>.w m
 |.cut u k _ _=>.c u k
def Kp(H H':Hp):Prop:=∀b o,H b=some o->(∀xs,o≠.lst xs)->H' b=some o
theorem C3{H H':Hp}(s:Same H H'):Kp H H':=λ b o e _=>s b o e
theorem Kp.trans{H H1 H2:Hp}(a:Kp H H1)(b:Kp H1 H2):Kp H H2:=λ c o e n=>b c o (a c o e n) n
theorem Kp.put{H:Hp}{l:Addr}{xs ys:LUz}(h:H l=some (.lst xs)):Kp H (upd H l (.lst ys)):=λ b o e n=>by
 rw[Ae (AU e h (n xs))];exact e
theorem Obj.kp{H H':Hp}(s:Kp H H'):∀{t:Tr}{v:V},Obj cW cU cL H t v->Obj cW cU cL H' t v
 |.whole m,v,h=>by
  rw[Obj]at h |-;obtain⟨a,dx,e,h⟩:=h;exact⟨a,dx,e,s _ _ h (by intro xs z;cases z)⟩
 |.cut u k x y,v,h=>by
  rw[Obj]at h |-;obtain⟨a,dx,vx,vy,e,h,h1,h2⟩:=h;exact⟨a,dx,vx,vy,e,s _ _ h (by intro xs z;cases z),Obj.kp s h1,Obj.kp s h2⟩
def EnsAt(H:Hp):LUz->List En->Prop
 |[],[]=>True
 |v::r,e::q=>(∃a,v=.ref a/\H a=some (.tup (enV e)))/\EnsAt H r q
 |_,_=>False
theorem EnsAt.kp{H H':Hp}(s:Kp H H'):∀{vs:LUz}{es:List En},EnsAt H vs es->EnsAt H' vs es
 |[],[],_=>trivial
 |v::r,e::q,h=>⟨let ⟨a,b,c⟩:=h.1;⟨a,b,s _ _ c (by intro xs z;cases z)⟩,EnsAt.kp s h.2⟩
 |[],_::_,h=>h
 |_::_,[],h=>h
theorem EnsAt.snoc{H:Hp}{a:Addr}{e:En}(ha:H a=some (.tup (enV e))):∀{vs:LUz}{es:List En},EnsAt H vs es->EnsAt H (vs++[.ref a]) (es++[e])
 |[],[],_=>⟨⟨a,rfl,ha⟩,trivial⟩
 |v::r,e'::q,h=>⟨h.1,EnsAt.snoc ha h.2⟩
 |[],_::_,h=>h.elim
 |_::_,[],h=>h.elim
theorem EnsAt.len{H:Hp}:∀{vs:LUz}{es:List En},EnsAt H vs es->vs.length=es.length
 |[],[],_=>rfl
 |v::r,e'::q,h=>by rw[List.length_cons,List.length_cons,EnsAt.len h.2]
 |[],_::_,h=>h.elim
 |_::_,[],h=>h.elim
theorem EnsAt.get{H:Hp}:∀{vs:LUz}{es:List En}{i:Nat}{v:V},EnsAt H vs es->vs[i]?=some v->∃e a,es[i]?=some e/\v=.ref a/\H a=some (.tup (enV e))
 |v::r,e::q,0,_,h,hv=>by
  cases hv;obtain⟨a,b,c⟩:=h.1;exact⟨e,a,rfl,b,c⟩
 |v::r,e::q,i+1,_,h,hv=>EnsAt.get (i:=i) h.2 hv
 |[],[],_,_,_,hv=>by cases hv
 |[],_::_,_,_,h,_=>h.elim
 |_::_,[],_,_,h,_=>h.elim
inductive Jk(cW cU cL:Addr)(vs:LUz)(H:Hp)(Q:VK)(E:XK):Prop
 |mk (v:V) (t:Tr) (h0:vs=[v]) (h1:Obj cW cU cL H t v) (h2:∀a,H a=none->Q (.ref a) (upd H a (.tup (enV (hdE t))))):Jk cW cU cL vs H Q E
def Gw(cW cU cL:Addr) :Sp:=λ vs H Q E=>Jk cW cU cL vs H Q E
inductive HH(cW cU cL:Addr)(vs:LUz)(H:Hp)(Q:VK)(E:XK):Prop
 |mk (v:V) (t:Tr) (h0:vs=[v]) (h1:Obj cW cU cL H t v) (h2:Q ((enV (hdE t)).headD .non) H):HH cW cU cL vs H Q E
def EX(cW cU cL:Addr) :Sp:=λ vs H Q E=>HH cW cU cL vs H Q E
theorem OZ:Ak ["tree"] ["tree"] (Ai Fb):=fsc
theorem M3{f:Addr}{fd:FuncData}(F:Fun K "kind_of" "kind_of" Fb f fd)(T:Txt mg tk)(R:RT mg K cT cW cU cL):A5 P w K mg base CX0 1 f fd ["tree"] (EX cW cU cL):=by
 have S:=OZ;refine F.ok S (λ vs H Q E h=>?_) (λ cdv A outer s H vs Q E hr h=>?_)
 .obtain⟨v,t,rfl,_⟩:=h;rfl
 .obtain⟨v,t,rfl,ho,q⟩:=h;refine⟨_,(Af (AL (Bc (A0 E6 rfl T.z_isinstance rfl (Aa (pv 0) (Aa (A7 (v:=.ref (cW)) rfl R.g_Whole rfl) Ac)))) (Ah (Ap (A7 (v:=.str "whole") rfl T.g_WHOLE ⟨_,rfl⟩))) A6)
   (Ah (Ap (G5 (Bc (A0 E6 rfl T.z_isinstance rfl (Aa (pv 0) (Aa (A7 (v:=.ref (cU)) rfl R.g_Upright rfl) Ac)))) (A7 (v:=.str "upright") rfl T.g_UPRIGHT_cuts ⟨_,rfl⟩) (A7 (v:=.str "level") rfl T.g_LEVEL_cuts ⟨_,rfl⟩))))),?_⟩
  cases t with
  |whole m =>
   rw[Obj]at ho;obtain⟨x,dx,rfl,hx⟩:=ho;exact⟨_,rfl,x,cW,dx,_,_,.ref cW,true,rfl,hx,R.iW,rfl,P9,R.kWW,_,rfl,BE rfl q⟩
  |cut u k y1 y2 =>
   rw[Obj]at ho;obtain⟨x,dx,w1,w2,rfl,hx,o1,o2⟩:=ho;refine⟨_,rfl,x,_,dx,_,_,.ref cW,false,rfl,hx,R.iC u,rfl,P9,R.kCW u,_,rfl,Bq rfl ?_⟩;refine⟨_,rfl,x,_,dx,_,_,.ref cU,_,rfl,hx,R.iC u,rfl,P9,R.kCC u true,_,rfl,?_⟩;cases u with
   |true=>exact BE rfl q
   |false=>exact Bq rfl q
theorem MY:Ak ["tree","kind"] ["tree"] (Ai Es):=fsc
theorem Le{f:Addr}{fd:FuncData}(F:Fun K "entry_of" "entry_of" Es f fd)(T:Txt mg tk)(R:RT mg K cT cW cU cL)(D_kind_of:Ay P w K mg base 1 "kind_of" ["tree"] (EX cW cU cL)):A5 P w K mg base CX0 2 f fd ["tree"] (Gw cW cU cL):=by
 have S:=MY;refine F.ok S (λ vs H Q E h=>?_) (λ cdv A outer s H vs Q E hr h=>?_)
 .obtain⟨v,t,rfl,_⟩:=h;rfl
 .obtain⟨v,t,rfl,ho,q⟩:=h;refine⟨_,(Af (Aq (i:=1) S.nd rfl (Or.inl rfl) (Au D_kind_of hr (Aa (pv 0) Ac)))
   (Ah (Ap (Az (Aa (pv 1) (Aa (G5 (A9 Cl (pv 1) (A7 (v:=.str "whole") rfl T.g_WHOLE ⟨_,rfl⟩) (A3 _)) (B5 (pv 0) rfl) (B5 (pv 0) rfl)) Ac)))))),?_⟩
  refine⟨_,rfl,_,t,rfl,ho,?_⟩;cases t with
  |whole m =>
   rw[Obj]at ho;obtain⟨x,dx,rfl,hx⟩:=ho;exact⟨_,rfl,_,rfl,rfl,_,rfl,BE (decide_eq_true rfl) ⟨_,rfl,x,cW,dx,_,_,rfl,hx,R.iW.cl,R.n_mark,fW _,Av 2,λ a ha=>q a ha⟩⟩
  |cut u k y1 y2 =>
   rw[Obj]at ho;obtain⟨x,dx,w1,w2,rfl,hx,o1,o2⟩:=ho;exact⟨_,rfl,_,rfl,rfl,_,rfl,Bq (Gk u) ⟨_,rfl,x,_,dx,_,_,rfl,hx,(R.iC u).cl,R.n_at u,U4 _ _ _,Av 2,λ a ha=>q a ha⟩⟩
def Cu(ws:List (V×Tr)):List En:=ws.reverse.flatMap λ p=>AD p.2
theorem AS(ws:List (V×Tr))(p:V×Tr):Cu (ws++[p])=AD p.2++Cu ws:=by
 unfold Cu;rw[List.reverse_append,List.reverse_singleton,List.singleton_append,List.flatMap_cons]
def cnt(ws:List (V×Tr)):Nat:=(ws.map λ p=>p.2.nd).sum
theorem B3(ws:List (V×Tr))(p:V×Tr):cnt (ws++[p])=cnt ws+p.2.nd:=by
 unfold cnt;rw[List.map_append,List.sum_append,List.map_singleton,List.sum_singleton]
theorem Ec:∀ws:List (V×Tr),ws.length<=cnt ws
 |[]=>Nat.le_refl 0
 |p::r=>by
  have:=Ec r;have:=M8 p.2;show r.length+1<=p.2.nd+cnt r;lia
theorem Ea(p:V×Tr)(r:List (V×Tr)):Cu (p::r)=Cu r++AD p.2:=by
 unfold Cu;rw[List.reverse_cons,List.flatMap_append,List.flatMap_cons,List.flatMap_nil,List.append_nil]
theorem CY:∀ws:List (V×Tr),(Cu ws).length=cnt ws
 |[]=>rfl
 |p::r=>by
  rw[Ea,List.length_append,Cr,CY r];show _=p.2.nd+cnt r;lia
theorem Cc{α:Type}(ws:List α):ws=[]\/∃ws0 p,ws=ws0++[p]:=by
 by_cases h:ws=[]
 .exact .inl h
 .exact .inr ⟨ws.dropLast,ws.getLast h,(List.dropLast_concat_getLast h).symm⟩
theorem GS{ws0:List (V×Tr)}{p:V×Tr}:((ws0++[p]).map (·.1))[((ws0++[p]).map (·.1)).length-1]?=some p.1:=by
 rw[List.length_map,List.length_append,List.length_singleton,Nat.add_sub_cancel,List.getElem?_map,List.getElem?_append_right (Nat.le_refl _),Nat.sub_self];rfl
theorem Hj{ws0:List (V×Tr)}{p:V×Tr}:((ws0++[p]).map (·.1)).dropLast=ws0.map (·.1):=by rw[List.map_append,List.map_singleton,List.dropLast_concat]
inductive FH(cW cU cL:Addr)(vs:LUz)(H:Hp)(Q:VK)(E:XK):Prop
 |mk (v:V) (t:Tr) (h0:vs=[v]) (h1:Obj cW cU cL H t v) (h2:t.nd<=400) (h3:∀l xs H',Same H H'->H l=none->H' l=some (.lst xs)->EnsAt H' xs (AD t)->Q (.ref l) H'):FH cW cU cL vs H Q E
def El(cW cU cL:Addr) :Sp:=λ vs H Q E=>FH cW cU cL vs H Q E
abbrev UO(cW cU cL:Addr)(H:Hp)(v:V)(t:Tr)(le lw:Addr)(m:Nat)(σ:St)(H':Hp):Prop:=∃(xs:LUz)(es:List En)(ws:List (V×Tr))(x3:Option V),σ=[some v,some (.ref le),some (.ref lw),x3]/\Same H H'/\H' le=some (.lst xs)/\EnsAt H' xs es/\H' lw=some (.lst (ws.map (·.1)))/\(∀p∈ws,Obj cW cU cL H' p.2 p.1)/\es++Cu ws=AD t/\m=cnt ws
theorem Kr:Ak ["tree","entries","waiting","part"] ["tree"] (Ai De):=fsc
theorem HP{f:Addr}{fd:FuncData}(F:Fun K "entries_of" "entries_of" De f fd)(T:Txt mg tk)(R:RT mg K cT cW cU cL)(D_entry_of:Ay P w K mg base 2 "entry_of" ["tree"] (Gw cW cU cL)):A5 P w K mg base CX0 3 f fd ["tree"] (El cW cU cL):=by
 have S:=Kr;refine F.ok S (λ vs H Q E h=>?_) (λ cdv A outer s H vs Q E hr h=>?_)
 .obtain⟨v,t,rfl,_⟩:=h;rfl
 .obtain⟨v,t,rfl,ho,hn,q⟩:=h;refine⟨_,(Af (Aq (i:=1) S.nd rfl (Or.inl rfl) (AO Ac))
   (Af (Aq (i:=2) S.nd rfl (Or.inl rfl) (AO (Aa (pv 0) Ac)))
   (Af (KO PassesOwn.never (CS (pv 2) (λ_=>rfl)) (Af (Aq (i:=3) S.nd rfl (Or.inl rfl) (Fj PySem.F.plainAttrs_list PySem.F.slot_list_pop PySem.F.type_list_pop Fo (pv 2)))
   (Af (AH (BW PySem.F.plainAttrs_list PySem.F.slot_list_append PySem.F.type_list_append AG (pv 1) (Aa (Au D_entry_of hr (Aa (pv 3) Ac)) Ac)))
   (Ah (AL (BR (Bc (A0 E6 rfl T.z_isinstance rfl (Aa (pv 3) (Aa (A7 (v:=.ref (cW)) rfl R.g_Whole rfl) Ac))))) (Ah (AH (BW PySem.F.plainAttrs_list PySem.F.slot_list_extend PySem.F.type_list_extend OD (pv 2) (Aa (AO (Aa (B5 (pv 3) rfl) (Aa (B5 (pv 3) rfl) Ac))) Ac)))) A6)))))
   (Ah (Ap (pv 1)))))),?_⟩
  refine⟨Av 0,λ le hle=>⟨_,rfl,Av 1,λ lw hlw=>?_⟩⟩;have nel:le≠lw:=Ad Ab hlw;have s0:Same H (upd (upd H le (.lst [])) lw (.lst [v])):=(Same.new hle).trans (Same.new hlw);have hlw0:H lw=none:=by
   cases e:H lw with
   |none=>rfl
   |some o=>rw[Same.new hle _ _ e]at hlw;cases hlw
  refine⟨UO cW cU cL H v t le lw,
   ⟨_,[],[],[(v,t)],none,rfl,s0,by rw[Ae nel];exact Ab,trivial,Ab,λ p hp=>?_,?_,rfl⟩,?_⟩
  .rw[List.mem_singleton.mp hp];exact ho.same s0
  .show AD t++[]=AD t;exact List.append_nil _
  rintro m σ H' ⟨xs,es,ws,x3,rfl,s1,hl,hen,hw,hob,heq,rfl⟩;have tot:es.length+cnt ws=t.nd:=by rw[<-Cr,<-heq,List.length_append,CY]
  rcases Cc ws with rfl|⟨ws0,p,rfl⟩
  .refine⟨_,rfl,_,.inl ⟨_,SqL.of hw,rfl⟩,Bq rfl ⟨_,rfl,q le xs H' s1 hle hl ?_⟩⟩;rw[<-heq];show EnsAt H' xs (es++[]);rw[List.append_nil];exact hen
  .refine⟨_,rfl,_,.inl ⟨_,SqL.of hw,rfl⟩,BE (by simp) ⟨λ σ' H''=>∃m',m'<cnt (ws0++[p])/\UO cW cU cL H v t le lw m' σ' H'',λ σ' H'' z=>z,?_⟩⟩;refine⟨_,rfl,.inl ⟨rfl,_,SqL.of hw⟩,lw,_,p.1,rfl,rfl,hw,GS,?_⟩;rw[Hj];have k2:Kp H' (upd H' lw (.lst (ws0.map (·.1)))):=Kp.put hw;have s2:Same H (upd H' lw (.lst (ws0.map (·.1)))):=λ b o e=>by rw[Ae (Ad e hlw0)];exact s1 b o e
   have l2:(upd H' lw (.lst (ws0.map (·.1)))) le=some (.lst xs):=by rw[Ae nel];exact hl
   have w2:(upd H' lw (.lst (ws0.map (·.1)))) lw=some (.lst (ws0.map (·.1))):=Ab;generalize upd H' lw (.lst (ws0.map (·.1)))=H2 at k2 s2 l2 w2 |-;have op:=(hob p (by simp)).kp k2;have ob0:∀r∈ws0,Obj cW cU cL H2 r.2 r.1:=λ r hr=>(hob r (List.mem_append_left _ hr)).kp k2;have hen2:=hen.kp k2;rw[AS]at heq;rw[B3]at tot;have hxl:=hen.len;have np:=M8 p.2;refine⟨_,rfl,.inl ⟨rfl,_,SqL.of l2⟩,_,rfl,p.1,p.2,rfl,op,λ a ha=>?_⟩;obtain⟨H3,g,s3,a3⟩:=nw (.tup (enV (hdE p.2))) ha;rw[g];have l3:=s3 _ _ l2;refine⟨le,xs,.ref a,rfl,rfl,l3,Am (by lia),?_⟩;have k4:Kp H3 (upd H3 le (.lst (xs++[.ref a]))):=Kp.put l3;have s4:Same H (upd H3 le (.lst (xs++[.ref a]))):=λ b o e=>by rw[Ae (Ad e hle)];exact s3 b o (s2 b o e)
   have l4:(upd H3 le (.lst (xs++[.ref a]))) le=some (.lst (xs++[.ref a])):=Ab;have w4:(upd H3 le (.lst (xs++[.ref a]))) lw=some (.lst (ws0.map (·.1))):=by rw[Ae (Ne.symm nel)];exact s3 _ _ w2
   have en4:EnsAt (upd H3 le (.lst (xs++[.ref a]))) (xs++[.ref a]) (es++[hdE p.2]):=((hen2.kp (C3 s3)).kp k4).snoc (k4 _ _ a3 (by intro xs z;cases z));have kk:=(C3 s3).trans k4;generalize upd H3 le (.lst (xs++[.ref a]))=H4 at k4 s4 l4 w4 en4 kk |-;have op4:=op.kp kk;have ob4:∀r∈ws0,Obj cW cU cL H4 r.2 r.1:=λ r hr=>(ob0 r hr).kp kk;obtain⟨pv,pt⟩:=p;cases pt with
   |whole m =>
    rw[Obj]at op4;obtain⟨x,dx,rfl,hx⟩:=op4;refine⟨_,rfl,x,cW,dx,_,_,.ref cW,true,rfl,hx,R.iW,rfl,P9,R.kWW,_,rfl,Bq rfl ?_⟩;refine⟨cnt ws0,by rw[B3];exact Nat.lt_succ_self _,_,_,ws0,_,rfl,s4,l4,en4,w4,ob4,?_,rfl⟩;rw[<-heq,List.append_assoc];rfl
   |cut u k y1 y2 =>
    rw[Obj]at op4;obtain⟨x,dx,v1,v2,rfl,hx,o1,o2⟩:=op4;refine⟨_,rfl,x,_,dx,_,_,.ref cW,false,rfl,hx,R.iC u,rfl,P9,R.kCW u,_,rfl,BE rfl ?_⟩;refine⟨_,rfl,.inl ⟨rfl,_,SqL.of w4⟩,_,rfl,x,_,dx,_,_,rfl,hx,(R.iC u).cl,R.n_other u,Qy _ _ _,_,rfl,x,_,dx,_,_,rfl,hx,(R.iC u).cl,R.n_first u,Qz _ _ _,Av 2,λ l5 hl5=>?_⟩;obtain⟨H5,g,s5,e5⟩:=nw (.lst [v2,v1]) hl5;rw[g];have cl:=Ec ws0;have ndp:(Tr.cut u k y1 y2).nd=y1.nd+y2.nd+1:=rfl;refine⟨lw,l5,_,_,rfl,rfl,s5 _ _ w4,e5,Nat.le_of_lt (Am (by show(ws0.map (·.1)).length+2<=1000;rw[List.length_map];lia)),?_⟩;have k6:Kp H5 (upd H5 lw (.lst (ws0.map (·.1)++[v2,v1]))):=Kp.put (s5 _ _ w4);have kk6:=(C3 s5).trans k6;refine⟨cnt (ws0++[(v2,y2)]++[(v1,y1)]),?_,xs++[.ref a],es++[.c u k],ws0++[(v2,y2)]++[(v1,y1)],_,rfl,λ b o e=>?_,?_,en4.kp kk6,?_,λ r hr=>?_,?_,rfl⟩
    .rw[B3,B3,B3];show cnt ws0+y2.nd+y1.nd<cnt ws0+(y1.nd+y2.nd+1);lia
    .rw[Ae (Ad e hlw0)];exact s5 b o (s4 b o e)
    .rw[Ae nel];exact s5 _ _ l4
    .rw[Ab,List.map_append,List.map_append,List.append_assoc];rfl
    .rcases List.mem_append.mp hr with hr|hr
     .rcases List.mem_append.mp hr with hr|hr
      .exact(ob4 r hr).kp kk6
      .rw[List.mem_singleton.mp hr];exact o2.kp kk6
     .rw[List.mem_singleton.mp hr];exact o1.kp kk6
    .rw[AS,AS,<-heq];show es++[.c u k]++(AD y1++(AD y2++Cu ws0))=es++(.c u k::(AD y1++AD y2)++Cu ws0);simp[List.append_assoc]
def wt:En->Int
 |.w _=>1
 |.c _ _=>-1
def wts(es:List En):Int:=(es.map wt).sum
theorem Jq(a b:List En):wts (a++b)=wts a+wts b:=by
 unfold wts;rw[List.map_append,List.sum_append]
theorem Kz(e:En)(b:List En):wts (e::b)=wt e+wts b:=by
 unfold wts;rw[List.map_cons,List.sum_cons]
theorem CO:∀t:Tr,wts (AD t)=1
 |.whole _=>rfl
 |.cut u k x y=>by
  rw[AD,Kz,Jq,CO x,CO y];rfl
theorem Gj:∀ws:List (V×Tr),wts (Cu ws)=ws.length
 |[]=>rfl
 |p::r=>by rw[Ea,Jq,CO,Gj r,List.length_cons];lia
theorem Jp:∀(t:Tr)(a b:List En),AD t=a++b->b≠[]->1<=wts b
 |.whole m,a,b,h,hb=>by
  have h:[En.w m]=a++b:=h;cases a with
  |nil=>rw[List.nil_append]at h;rw[<-h];exact Int.le_refl 1
  |cons e r =>
   have:=congrArg List.length h;simp only[List.length_append,List.length_cons,List.length_nil]at this;exact absurd (List.length_eq_zero_iff.mp (by lia)) hb
 |.cut u k x y,a,b,h,hb=>by
  cases a with
  |nil =>
   rw[List.nil_append]at h;rw[<-h,CO];decide
  |cons e r =>
   rw[AD,List.cons_append]at h;have h2:=List.cons.inj h |>.2;rcases List.append_eq_append_iff.mp h2 with ⟨c,hc,hd⟩|⟨c,hc,hd⟩
   .exact Jp y c b hd hb
   .rw[hd,Jq,CO];by_cases e:c=[]
    .rw[e];decide
    .have:=Jp x r c hc e;lia
theorem Hi:∀(t t':Tr)(r r':List En),AD t++r=AD t'++r'->t=t'/\r=r'
 |.whole m,.whole m',r,r',h=>by
  have h:En.w m::r=En.w m'::r':=h;injection h with h1 h2;injection h1 with h1;exact⟨by rw[h1],h2⟩
 |.whole m,.cut u k x y,r,r',h=>by
  have h:En.w m::r=En.c u k::(AD x++AD y++r'):=h;injection h with h1 _;cases h1
 |.cut u k x y,.whole m,r,r',h=>by
  have h:En.c u k::(AD x++AD y++r)=En.w m::r':=h;injection h with h1 _;cases h1
 |.cut u k x y,.cut u' k' x' y',r,r',h=>by
  have h:En.c u k::(AD x++AD y++r)=En.c u' k'::(AD x'++AD y'++r'):=h;injection h with h1 h2;injection h1 with h3 h4;rw[List.append_assoc,List.append_assoc]at h2;obtain⟨e1,h5⟩:=Hi x x' _ _ h2;obtain⟨e2,h6⟩:=Hi y y' _ _ h5;exact⟨by rw[h3,h4,e1,e2],h6⟩
inductive FJ(cW cU cL:Addr)(vs:LUz)(H:Hp)(Q:VK)(E:XK):Prop
 |mk (u:Bool) (k:Int) (v1 v2:V) (y1 y2:Tr) (h0:vs=[.str (wd u),.int k,v1,v2]) (h1:Obj cW cU cL H y1 v1) (h2:Obj cW cU cL H y2 v2) (h3:∀v' H',Same H H'->Obj cW cU cL H' (.cut u k y1 y2) v'->Q v' H'):FJ cW cU cL vs H Q E
def Em(cW cU cL:Addr) :Sp:=λ vs H Q E=>FJ cW cU cL vs H Q E
theorem MZ:Ak ["word","at","first","other"] ["word","at","first","other"] (Ai Et):=fsc
theorem Lf{f:Addr}{fd:FuncData}(F:Fun K "cut_from" "cut_from" Et f fd)(T:Txt mg tk)(K_Upright:LO P w K mg base 1 "Upright" cU ["self","at","first","other"] (Np cU))(K_Level:LO P w K mg base 1 "Level" cL ["self","at","first","other"] (Np cL)) :
  A5 P w K mg base CX0 3 f fd ["word","at","first","other"] (Em cW cU cL):=by
 have S:=MZ;refine F.ok S (λ vs H Q E h=>?_) (λ cdv A outer s H vs Q E hr h=>?_)
 .obtain⟨u,k,v1,v2,y1,y2,rfl,_⟩:=h;rfl
 .obtain⟨u,k,v1,v2,y1,y2,rfl,o1,o2,q⟩:=h;refine⟨_,(Af (AL (A9 Cl (pv 0) (A7 (v:=.str "upright") rfl T.g_UPRIGHT_cuts ⟨_,rfl⟩) (A3 _)) (Ah (Ap (KR K_Upright hr (Aa (pv 1) (Aa (pv 2) (Aa (pv 3) Ac)))))) A6)
   (Ah (Ap (KR K_Level hr (Aa (pv 1) (Aa (pv 2) (Aa (pv 3) Ac))))))),?_⟩
  cases u with
  |true =>
   refine⟨_,rfl,rfl,_,rfl,BE (D7 true true) ⟨_,rfl,_,rfl,_,rfl,λ x dx nx ndx nex=>⟨x,dx,k,v1,v2,rfl,Ab,λ H3 s3 e3=>⟨rfl,?_⟩⟩⟩⟩;have s4:Same H H3:=λ b o e=>s3 b o (Ad e nx) (Fp nx ndx b o e);exact q _ _ s4 (by rw[Obj];exact⟨x,dx,v1,v2,rfl,e3,o1.same s4,o2.same s4⟩)
  |false =>
   refine⟨_,rfl,rfl,_,rfl,Bq (D7 false true) ⟨_,rfl,_,rfl,_,rfl,λ x dx nx ndx nex=>⟨x,dx,k,v1,v2,rfl,Ab,λ H3 s3 e3=>⟨rfl,?_⟩⟩⟩⟩;have s4:Same H H3:=λ b o e=>s3 b o (Ad e nx) (Fp nx ndx b o e);exact q _ _ s4 (by rw[Obj];exact⟨x,dx,v1,v2,rfl,e3,o1.same s4,o2.same s4⟩)
inductive LW(K:Frag)(cW cU cL:Addr)(vs:LUz)(H:Hp)(Q:VK)(E:XK):Prop
 |mk (l:Addr) (xs:LUz) (t:Tr) (h0:vs=[.ref l]) (h1:SqL K H l xs) (h2:EnsAt H xs (AD t)) (h3:t.nd<=400) (h4:∀v' H',Same H H'->Obj cW cU cL H' t v'->Q v' H'):LW K cW cU cL vs H Q E
def Jy(K:Frag)(cW cU cL:Addr) :Sp:=λ vs H Q E=>LW K cW cU cL vs H Q E
theorem LF:Ak ["entries","done","word","number","first","other"] ["entries"] (Ai DC):=fsc
theorem OP{es:List En}{i:Nat}{e:En}(hi:i<es.length)(h:es[es.length-1-i]?=some e):es.drop (es.length-(i+1))=e::es.drop (es.length-i):=by
 have hk:es.length-1-i<es.length:=by lia
 rw[show es.length-(i+1)=es.length-1-i by lia,List.drop_eq_getElem_cons hk];rw[List.getElem?_eq_getElem hk]at h;rw[Option.some.inj h,show es.length-1-i+1=es.length-i by lia]
theorem JH{f:Addr}{fd:FuncData}(F:Fun K "tree_from" "tree_from" DC f fd)(T:Txt mg tk)(R:RT mg K cT cW cU cL)(K_Whole:LO P w K mg base 1 "Whole" cW ["self","mark"] (P0 cW))(D_cut_from:Ay P w K mg base 3 "cut_from" ["word","at","first","other"] (Em cW cU cL)) :
  A5 P w K mg base CX0 4 f fd ["entries"] (Jy K cW cU cL):=by
 have S:=LF;refine F.ok S (λ vs H Q E h=>?_) (λ cdv A outer s H vs Q E hr h=>?_)
 .obtain⟨l,xs,t,rfl,_⟩:=h;rfl
 .obtain⟨l,xs,t,rfl,hl,hen,hn,q⟩:=h;refine⟨_,(Af (Aq (i:=1) S.nd rfl (Or.inl rfl) (AO Ac))
   (Af (AX PassesOwn.never rfl (Rz rfl T.z_reversed (Aa (pv 0) Ac)) (BS rfl (Ax (Aj (i:=2) S.nd rfl (Or.inl rfl)) (Ax (Aj (i:=3) S.nd rfl (Or.inl rfl)) Bj))) (Ah (AL (A9 Cl (pv 2) (A7 (v:=.str "whole") rfl T.g_WHOLE ⟨_,rfl⟩) (A3 _)) (Ah (AH (BW PySem.F.plainAttrs_list PySem.F.slot_list_append PySem.F.type_list_append AG (pv 1) (Aa (KR K_Whole hr (Aa (pv 3) Ac)) Ac)))) (Af (Aq (i:=4) S.nd rfl (Or.inl rfl) (Fj PySem.F.plainAttrs_list PySem.F.slot_list_pop PySem.F.type_list_pop Fo (pv 1)))
   (Af (Aq (i:=5) S.nd rfl (Or.inl rfl) (Fj PySem.F.plainAttrs_list PySem.F.slot_list_pop PySem.F.type_list_pop Fo (pv 1)))
   (Ah (AH (BW PySem.F.plainAttrs_list PySem.F.slot_list_append PySem.F.type_list_append AG (pv 1) (Aa (Au D_cut_from hr (Aa (pv 2) (Aa (pv 3) (Aa (pv 4) (Aa (pv 5) Ac))))) Ac)))))))))
   (Ah (Ap (Fj PySem.F.plainAttrs_list PySem.F.slot_list_pop PySem.F.type_list_pop Fo (pv 1)))))),?_⟩
  refine⟨Av 0,λ ld hld=>⟨_,rfl,l,xs,rfl,(Same.new hld).seq hl,?_⟩⟩;have hxl:=hen.len;have hel:=Cr t;refine RQ (K:=K) (a:=l) (xs:=xs) (λ i σ H'=>∃(ws:List (V×Tr))(x2 x3 x4 x5:Option V),σ=[some (.ref l),some (.ref ld),x2,x3,x4,x5]/\Same H H'/\H' ld=some (.lst (ws.map (·.1)))/\(∀p∈ws,Obj cW cU cL H' p.2 p.1)/\(AD t).drop ((AD t).length-i)=Cu ws)
   ⟨[],_,_,_,_,rfl,Same.new hld,Ab,(λ p hp=>(nomatch hp)),by rw[Nat.sub_zero,List.drop_length];rfl⟩ (λ i σ H' _ hp=>let ⟨_,_,_,_,_,_,s,_⟩:=hp;s.seq hl) ?_ ?_
  .rintro i v σ H' hv hi ⟨ws,x2,x3,x4,x5,rfl,s1,hd,hob,heq⟩;obtain⟨e,a,he,rfl,ha⟩:=hen.get hv;have ha':=s1 _ _ ha;rw[hxl]at he hi;have hdr:=OP hi he;have wl:ws.length<=400:=by
    have h1:=Ec ws;have h2:=CY ws;rw[<-heq,List.length_drop]at h2;lia
   cases e with
   |w m =>
    refine⟨a,_,rfl,SqT.of ha',rfl,_,_,rfl,_,_,rfl,rfl,?_⟩;refine⟨_,rfl,rfl,_,rfl,BE (decide_eq_true rfl) ?_⟩;refine⟨_,rfl,.inl ⟨rfl,_,SqL.of hd⟩,_,rfl,λ x dx nx ndx nex=>⟨x,dx,_,rfl,Ab,rfl,?_⟩⟩;have s2:Same H' (upd (upd (upd H' dx (.own x)) x (.ins cW dx [])) x (.ins cW dx (wF (CU m)))):=λ b o e=>by
     rw[Ae (Ad e nx)];exact Fp nx ndx b o e
    have e2:(upd (upd (upd H' dx (.own x)) x (.ins cW dx [])) x (.ins cW dx (wF (CU m)))) x=some (.ins cW dx (wF (CU m))):=Ab;generalize upd (upd (upd H' dx (.own x)) x (.ins cW dx [])) x (.ins cW dx (wF (CU m)))=H2 at s2 e2 |-;have d2:=s2 _ _ hd;refine⟨ld,_,.ref x,rfl,rfl,d2,Am (by rw[List.length_map];lia),?_⟩;have k3:Kp H2 (upd H2 ld (.lst (ws.map (·.1)++[.ref x]))):=Kp.put d2;refine⟨ws++[(.ref x,.whole m)],_,_,_,_,rfl,λ b o e=>?_,?_,λ p hp=>?_,?_⟩
    .rw[Ae (Ad e hld)];exact s2 b o (s1 b o e)
    .rw[Ab,List.map_append];rfl
    .rcases List.mem_append.mp hp with hp|hp
     .exact((hob p hp).same s2).kp k3
     .rw[List.mem_singleton.mp hp,Obj];exact⟨x,dx,rfl,k3 _ _ e2 (by intro xs z;cases z)⟩
    .rw[hdr,heq,AS];rfl
   |c u k =>
    have big:2<=ws.length:=by
     have h1:=Jp t ((AD t).take ((AD t).length-(i+1))) ((AD t).drop ((AD t).length-(i+1))) (List.take_append_drop _ _).symm (by rw[hdr];intro z;cases z);rw[hdr,heq,Kz,Gj]at h1;have:wt (.c u k)=-1:=rfl;lia
    obtain rfl|⟨ws1,p1,rfl⟩:=Cc ws
    .exact absurd big (by decide)
    obtain rfl|⟨ws2,p2,rfl⟩:=Cc ws1
    .exact absurd big (by simp)
    refine⟨a,_,rfl,SqT.of ha',rfl,_,_,rfl,_,_,rfl,rfl,?_⟩;refine⟨_,rfl,rfl,_,rfl,Bq (Gk u) ?_⟩;refine⟨_,rfl,.inl ⟨rfl,_,SqL.of hd⟩,ld,_,p1.1,rfl,rfl,hd,GS,?_⟩;rw[Hj];have k2:Kp H' (upd H' ld (.lst ((ws2++[p2]).map (·.1)))):=Kp.put hd;have s2:Same H (upd H' ld (.lst ((ws2++[p2]).map (·.1)))):=λ b o e=>by rw[Ae (Ad e hld)];exact s1 b o e
    have d2:(upd H' ld (.lst ((ws2++[p2]).map (·.1)))) ld=some (.lst ((ws2++[p2]).map (·.1))):=Ab;generalize upd H' ld (.lst ((ws2++[p2]).map (·.1)))=H2 at k2 s2 d2 |-;refine⟨_,rfl,.inl ⟨rfl,_,SqL.of d2⟩,ld,_,p2.1,rfl,rfl,d2,GS,?_⟩;rw[Hj];have k3:Kp H2 (upd H2 ld (.lst (ws2.map (·.1)))):=Kp.put d2;have s3:Same H (upd H2 ld (.lst (ws2.map (·.1)))):=λ b o e=>by rw[Ae (Ad e hld)];exact s2 b o e
    have d3:(upd H2 ld (.lst (ws2.map (·.1)))) ld=some (.lst (ws2.map (·.1))):=Ab;generalize upd H2 ld (.lst (ws2.map (·.1)))=H3 at k3 s3 d3 |-;have kk:=k2.trans k3;refine⟨_,rfl,.inl ⟨rfl,_,SqL.of d3⟩,_,rfl,_,rfl,_,rfl,_,rfl,u,k,p1.1,p2.1,p1.2,p2.2,rfl,(hob p1 (by simp)).kp kk,(hob p2 (by simp)).kp kk,λ v' H4 s4 o4=>?_⟩;have d4:=s4 _ _ d3;rw[List.length_append,List.length_append]at wl;refine⟨ld,_,v',rfl,rfl,d4,Am (by rw[List.length_map];lia),?_⟩;have k5:Kp H4 (upd H4 ld (.lst (ws2.map (·.1)++[v']))):=Kp.put d4;refine⟨ws2++[(v',.cut u k p1.2 p2.2)],_,_,_,_,rfl,λ b o e=>?_,?_,λ p hp=>?_,?_⟩
    .rw[Ae (Ad e hld)];exact s4 b o (s3 b o e)
    .rw[Ab,List.map_append];rfl
    .rcases List.mem_append.mp hp with hp|hp
     .exact((((hob p (by simp[hp])).kp kk).same s4)).kp k5
     .rw[List.mem_singleton.mp hp];exact o4.kp k5
    .rw[hdr,heq,AS,AS,AS];show .c u k::(AD p1.2++(AD p2.2++Cu ws2))=.c u k::(AD p1.2++AD p2.2)++Cu ws2;rw[List.cons_append,List.append_assoc]
  .rintro σ H' ⟨ws,x2,x3,x4,x5,rfl,s1,hd,hob,heq⟩;rw[hxl,Nat.sub_self,List.drop_zero]at heq;have one:ws.length=1:=by
    have h1:=CO t;rw[heq,Gj]at h1;lia
   obtain⟨p,rfl⟩:∃p,ws=[p]:=by
    match ws,one with
    |[p],_=>exact⟨p,rfl⟩
   have hp:=hob p (by simp);have et:p.2=t:=by
    have h1:AD t++[]=AD p.2++[]:=by
     rw[List.append_nil,heq];rfl
    exact(Hi _ _ _ _ h1).1.symm
   refine⟨_,rfl,.inl ⟨rfl,_,SqL.of hd⟩,ld,_,p.1,rfl,rfl,hd,rfl,?_⟩;rw[et]at hp;exact q _ _ (λ b o e=>by rw[Ae (Ad e hld)];exact s1 b o e) (hp.kp (Kp.put hd))
abbrev Rk:=GB.Rc
abbrev Rk.vs(p:Rk):LUz:=[.int p.t,.int p.l,.int p.b,.int p.r]
def Rk.len(p:Rk)(u:Bool):Int:=if u then p.r-p.l else p.b-p.t
def Rk.fst(p:Rk)(u:Bool)(k:Int):Rk:=if u then ⟨p.t,p.l,p.b,p.l+k⟩ else ⟨p.t,p.l,p.t+k,p.r⟩
def Rk.oth(p:Rk)(u:Bool)(k:Int):Rk:=if u then ⟨p.t,p.l+k,p.b,p.r⟩ else ⟨p.t+k,p.l,p.b,p.r⟩
def BD(p:Rk)(t:Tr):Prop:=Fit t (p.r-p.l) (p.b-p.t)
theorem fitR_cut{p:Rk}{u:Bool}{k:Int}{x y:Tr}:BD p (.cut u k x y)↔(1<=k/\k<p.len u)/\BD (p.fst u k) x/\BD (p.oth u k) y:=by
 unfold BD Rk.len Rk.fst Rk.oth;rw[Fit];cases u with
 |true =>
  show(1<=k/\k<p.r-p.l/\Fit x k (p.b-p.t)/\Fit y (p.r-p.l-k) (p.b-p.t))↔((1<=k/\k<p.r-p.l)/\Fit x (p.l+k-p.l) (p.b-p.t)/\Fit y (p.r-(p.l+k)) (p.b-p.t));rw[show p.l+k-p.l=k by lia,show p.r-(p.l+k)=p.r-p.l-k by lia];exact⟨λ⟨a,b,c,d⟩=>⟨⟨a,b⟩,c,d⟩,λ⟨⟨a,b⟩,c,d⟩=>⟨a,b,c,d⟩⟩
 |false =>
  show(1<=k/\k<p.b-p.t/\Fit x (p.r-p.l) k/\Fit y (p.r-p.l) (p.b-p.t-k))↔((1<=k/\k<p.b-p.t)/\Fit x (p.r-p.l) (p.t+k-p.t)/\Fit y (p.r-p.l) (p.b-(p.t+k)));rw[show p.t+k-p.t=k by lia,show p.b-(p.t+k)=p.b-p.t-k by lia];exact⟨λ⟨a,b,c,d⟩=>⟨⟨a,b⟩,c,d⟩,λ⟨⟨a,b⟩,c,d⟩=>⟨a,b,c,d⟩⟩
def A4:Tr->Rk->List (Rk×Option Int)
 |.whole m,p=>[(p,m)]
 |.cut u k x y,p=>A4 x (p.fst u k)++A4 y (p.oth u k)
theorem DO:∀(t:Tr)(p:Rk),(A4 t p).length=t.sz
 |.whole _,_=>rfl
 |.cut u k x y,p=>by rw[A4,List.length_append,DO x,DO y];rfl
theorem C4:∀{t:Tr}{p:Rk},p.t<p.b->p.l<p.r->BD p t->∀g∈A4 t p,p.t<=g.1.t/\g.1.t<g.1.b/\g.1.b<=p.b/\p.l<=g.1.l/\g.1.l<g.1.r/\g.1.r<=p.r
 |.whole m,p,h1,h2,_,g,hg=>by
  rw[A4]at hg;rw[List.mem_singleton.mp hg];exact⟨Int.le_refl _,h1,Int.le_refl _,Int.le_refl _,h2,Int.le_refl _⟩
 |.cut u k x y,p,h1,h2,f,g,hg=>by
  rw[fitR_cut]at f;obtain⟨⟨a,b⟩,fx,fy⟩:=f;rw[A4,List.mem_append]at hg;cases u with
  |true =>
   have b:k<p.r-p.l:=b;rcases hg with hg|hg
   .have:=C4 (p:=p.fst true k) h1 (show p.l<p.l+k by lia) fx g hg;have:p.t<=g.1.t/\g.1.t<g.1.b/\g.1.b<=p.b/\p.l<=g.1.l/\g.1.l<g.1.r/\g.1.r<=p.l+k:=this;lia
   .have:=C4 (p:=p.oth true k) h1 (show p.l+k<p.r by lia) fy g hg;have:p.t<=g.1.t/\g.1.t<g.1.b/\g.1.b<=p.b/\p.l+k<=g.1.l/\g.1.l<g.1.r/\g.1.r<=p.r:=this;lia
  |false =>
   have b:k<p.b-p.t:=b;rcases hg with hg|hg
   .have:=C4 (p:=p.fst false k) (show p.t<p.t+k by lia) h2 fx g hg;have:p.t<=g.1.t/\g.1.t<g.1.b/\g.1.b<=p.t+k/\p.l<=g.1.l/\g.1.l<g.1.r/\g.1.r<=p.r:=this;lia
   .have:=C4 (p:=p.oth false k) (show p.t+k<p.b by lia) h2 fy g hg;have:p.t+k<=g.1.t/\g.1.t<g.1.b/\g.1.b<=p.b/\p.l<=g.1.l/\g.1.l<g.1.r/\g.1.r<=p.r:=this;lia
theorem Ft:∀{t:Tr}{p:Rk},p.t<p.b->p.l<p.r->BD p t->∀g∈A4 t p,∀h∈A4 t p,g.1=h.1->g=h
 |.whole m,p,_,_,_,g,hg,h,hh,_=>by
  rw[A4]at hg hh;rw[List.mem_singleton.mp hg,List.mem_singleton.mp hh]
 |.cut u k x y,p,h1,h2,f,g,hg,h,hh,e=>by
  rw[fitR_cut]at f;obtain⟨⟨a,b⟩,fx,fy⟩:=f;rw[A4,List.mem_append]at hg hh;obtain⟨⟨a1,a2⟩,b1,b2⟩:((p.fst u k).t<(p.fst u k).b/\(p.fst u k).l<(p.fst u k).r)/\(p.oth u k).t<(p.oth u k).b/\(p.oth u k).l<(p.oth u k).r:=by
   cases u with
   |true =>
    have b:k<p.r-p.l:=b;exact⟨⟨h1,show p.l<p.l+k by lia⟩,h1,show p.l+k<p.r by lia⟩
   |false =>
    have b:k<p.b-p.t:=b;exact⟨⟨show p.t<p.t+k by lia,h2⟩,show p.t+k<p.b by lia,h2⟩
  have mix:∀g∈A4 x (p.fst u k),∀h∈A4 y (p.oth u k),g.1=h.1->False:=λ g hg h hh e=>by
   have i1:=C4 a1 a2 fx g hg;have i2:=C4 b1 b2 fy h hh;rw[<-e]at i2;cases u with
   |true =>
    have i1:p.t<=g.1.t/\g.1.t<g.1.b/\g.1.b<=p.b/\p.l<=g.1.l/\g.1.l<g.1.r/\g.1.r<=p.l+k:=i1;have i2:p.t<=g.1.t/\g.1.t<g.1.b/\g.1.b<=p.b/\p.l+k<=g.1.l/\g.1.l<g.1.r/\g.1.r<=p.r:=i2;lia
   |false =>
    have i1:p.t<=g.1.t/\g.1.t<g.1.b/\g.1.b<=p.t+k/\p.l<=g.1.l/\g.1.l<g.1.r/\g.1.r<=p.r:=i1;have i2:p.t+k<=g.1.t/\g.1.t<g.1.b/\g.1.b<=p.b/\p.l<=g.1.l/\g.1.l<g.1.r/\g.1.r<=p.r:=i2;lia
  rcases hg with hg|hg
  .rcases hh with hh|hh
   .exact Ft a1 a2 fx g hg h hh e
   .exact(mix g hg h hh e).elim
  .rcases hh with hh|hh
   .exact(mix h hh g hg e.symm).elim
   .exact Ft b1 b2 fy g hg h hh e
def Due(t:Tr)(ww hh:Int)(L:List (Rk×Option Int)):Prop:=L.Perm (A4 t ⟨0,0,hh,ww⟩)/\(L.map λ g=>GB.key g.1.ls).Pairwise (·<=·)
theorem ML{t:Tr}{ww hh:Int}(f:Fit t ww hh):BD ⟨0,0,hh,ww⟩ t:=by
 show Fit t (ww-0) (hh-0);rw[Int.sub_zero,Int.sub_zero];exact f
theorem NL{t:Tr}{ww hh:Int}(w1:1<=ww)(h1:1<=hh)(f:Fit t ww hh):∀g∈A4 t ⟨0,0,hh,ww⟩,GB.Rc.In ww hh g.1:=λ g hg=>by
 have:0<=g.1.t/\g.1.t<g.1.b/\g.1.b<=hh/\0<=g.1.l/\g.1.l<g.1.r/\g.1.r<=ww:=C4 (p:=⟨0,0,hh,ww⟩) (show(0:Int)<hh by lia) (show(0:Int)<ww by lia) (ML f) g hg;exact⟨this.1,this.2.1,this.2.2.1,this.2.2.2.1,this.2.2.2.2.1,this.2.2.2.2.2⟩
theorem Q3{t:Tr}{ww hh:Int}(w1:1<=ww)(w2:ww<=12)(h1:1<=hh)(h2:hh<=12)(f:Fit t ww hh){L M:List (Rk×Option Int)}(a:Due t ww hh L)(b:Due t ww hh M):L=M:=by
 have inn:=NL w1 h1 f;have e:L.Perm M:=a.1.trans b.1.symm;have hm:=GB.sorted_same (ps:=L.map (·.1)) (qs:=M.map (·.1)) (w:=ww) (h:=hh) (λ p hp=>by obtain⟨g,hg,rfl⟩:=List.mem_map.mp hp;exact inn g (a.1.mem_iff.mp hg)) w2 h2 (e.map _) (by unfold GB.Srt;rw[List.map_map];exact a.2) (by unfold GB.Srt;rw[List.map_map];exact b.2);apply List.ext_getElem e.length_eq;intro i h1' h2';have:=congrArg (λ l=>l[i]?) hm;simp only[List.getElem?_map,List.getElem?_eq_getElem h1',List.getElem?_eq_getElem h2',Option.map_some,Option.some.injEq]at this;exact Ft (p:=⟨0,0,hh,ww⟩) (show(0:Int)<hh by lia) (show(0:Int)<ww by lia) (ML f) _ (a.1.mem_iff.mp (List.getElem_mem h1')) _ (b.1.mem_iff.mp (List.getElem_mem h2')) this
abbrev PT:=Addr×Addr×Rk×Option Int
abbrev pcs(ts:List PT):LUz:=ts.map λ t=>V.ref t.1
abbrev cons(ts:List PT):List (Rk×Option Int):=ts.map λ t=>t.2.2
def PcO(H:Hp)(ts:List PT):Prop:=∀t∈ts,H t.1=some (.tup [.ref t.2.1,CU t.2.2.2])/\H t.2.1=some (.tup t.2.2.1.vs)
theorem PcO.same{H H':Hp}{ts:List PT}(s:Same H H')(h:PcO H ts):PcO H' ts:=λ t ht=>⟨s _ _ (h t ht).1,s _ _ (h t ht).2⟩
theorem PcO.n{H H':Hp}{ts:List PT}(s:SameN H H')(h:PcO H ts):PcO H' ts:=λ t ht=>⟨s.tup (h t ht).1,s.tup (h t ht).2⟩
theorem PcO.perm{H:Hp}{ts us:List PT}(h:PcO H ts)(e:us.Perm ts):PcO H us:=λ t ht=>h t (e.mem_iff.mp ht)
inductive Ol(vs:LUz)(H:Hp)(Q:VK)(E:XK):Prop
 |mk (a:Addr) (p:Rk) (u:Bool) (k:Int) (h0:vs=[.ref a,.str (wd u),.int k]) (h1:H a=some (.tup p.vs)) (h2:∀x,H x=none->Q (.ref x) (upd H x (.tup (p.fst u k).vs))):Ol vs H Q E
def Mi:Sp:=λ vs H Q E=>Ol vs H Q E
inductive Og(vs:LUz)(H:Hp)(Q:VK)(E:XK):Prop
 |mk (a:Addr) (p:Rk) (u:Bool) (k:Int) (h0:vs=[.ref a,.str (wd u),.int k]) (h1:H a=some (.tup p.vs)) (h2:∀x,H x=none->Q (.ref x) (upd H x (.tup (p.oth u k).vs))):Og vs H Q E
def Mh:Sp:=λ vs H Q E=>Og vs H Q E
theorem Ij:Ak ["piece","word","at"] ["piece","word","at"] (Ai CG):=fsc
theorem GG{f:Addr}{fd:FuncData}(F:Fun K "first_piece" "first_piece" CG f fd)(T:Txt mg tk):A5 P w K mg base CX0 1 f fd ["piece","word","at"] Mi:=by
 have S:=Ij;refine F.ok S (λ vs H Q E h=>?_) (λ cdv A outer s H vs Q E hr h=>?_)
 .obtain⟨a,p,u,k,rfl,_⟩:=h;rfl
 .obtain⟨a,p,u,k,rfl,ha,q⟩:=h;refine⟨_,(Af (AL (A9 Cl (pv 1) (A7 (v:=.str "upright") rfl T.g_UPRIGHT_cuts ⟨_,rfl⟩) (A3 _)) (Ah (Ap (Az (Aa (An Al (pv 0) Ag (λ_ _=>rfl)) (Aa (An Al (pv 0) Ag (λ_ _=>rfl)) (Aa (An Al (pv 0) Ag (λ_ _=>rfl)) (Aa (Ar AC (An Al (pv 0) Ag (λ_ _=>rfl)) (pv 2)) Ac))))))) A6)
   (Ah (Ap (Az (Aa (An Al (pv 0) Ag (λ_ _=>rfl)) (Aa (An Al (pv 0) Ag (λ_ _=>rfl)) (Aa (Ar AC (An Al (pv 0) Ag (λ_ _=>rfl)) (pv 2)) (Aa (An Al (pv 0) Ag (λ_ _=>rfl)) Ac)))))))),?_⟩
  cases u with
  |true=>exact⟨_,rfl,rfl,_,rfl,BE (D7 true true) ⟨_,rfl,a,_,_,_,rfl,rfl,SqT.of ha,at0,_,rfl,a,_,_,_,rfl,rfl,SqT.of ha,at1,_,rfl,a,_,_,_,rfl,rfl,SqT.of ha,at2,_,rfl,a,_,_,_,rfl,rfl,SqT.of ha,at1,_,rfl,_,_,rfl,rfl,Av 4,q⟩⟩
  |false=>exact⟨_,rfl,rfl,_,rfl,Bq (D7 false true) ⟨_,rfl,a,_,_,_,rfl,rfl,SqT.of ha,at0,_,rfl,a,_,_,_,rfl,rfl,SqT.of ha,at1,_,rfl,a,_,_,_,rfl,rfl,SqT.of ha,at0,_,rfl,_,_,rfl,rfl,_,rfl,a,_,_,_,rfl,rfl,SqT.of ha,at3,Av 4,q⟩⟩
theorem Ig:Ak ["piece","word","at"] ["piece","word","at"] (Ai CC):=fsc
theorem GC{f:Addr}{fd:FuncData}(F:Fun K "other_piece" "other_piece" CC f fd)(T:Txt mg tk):A5 P w K mg base CX0 1 f fd ["piece","word","at"] Mh:=by
 have S:=Ig;refine F.ok S (λ vs H Q E h=>?_) (λ cdv A outer s H vs Q E hr h=>?_)
 .obtain⟨a,p,u,k,rfl,_⟩:=h;rfl
 .obtain⟨a,p,u,k,rfl,ha,q⟩:=h;refine⟨_,(Af (AL (A9 Cl (pv 1) (A7 (v:=.str "upright") rfl T.g_UPRIGHT_cuts ⟨_,rfl⟩) (A3 _)) (Ah (Ap (Az (Aa (An Al (pv 0) Ag (λ_ _=>rfl)) (Aa (Ar AC (An Al (pv 0) Ag (λ_ _=>rfl)) (pv 2)) (Aa (An Al (pv 0) Ag (λ_ _=>rfl)) (Aa (An Al (pv 0) Ag (λ_ _=>rfl)) Ac))))))) A6)
   (Ah (Ap (Az (Aa (Ar AC (An Al (pv 0) Ag (λ_ _=>rfl)) (pv 2)) (Aa (An Al (pv 0) Ag (λ_ _=>rfl)) (Aa (An Al (pv 0) Ag (λ_ _=>rfl)) (Aa (An Al (pv 0) Ag (λ_ _=>rfl)) Ac)))))))),?_⟩
  cases u with
  |true=>exact⟨_,rfl,rfl,_,rfl,BE (D7 true true) ⟨_,rfl,a,_,_,_,rfl,rfl,SqT.of ha,at0,_,rfl,a,_,_,_,rfl,rfl,SqT.of ha,at1,_,rfl,_,_,rfl,rfl,_,rfl,a,_,_,_,rfl,rfl,SqT.of ha,at2,_,rfl,a,_,_,_,rfl,rfl,SqT.of ha,at3,Av 4,q⟩⟩
  |false=>exact⟨_,rfl,rfl,_,rfl,Bq (D7 false true) ⟨_,rfl,a,_,_,_,rfl,rfl,SqT.of ha,at0,_,rfl,_,_,rfl,rfl,_,rfl,a,_,_,_,rfl,rfl,SqT.of ha,at1,_,rfl,a,_,_,_,rfl,rfl,SqT.of ha,at2,_,rfl,a,_,_,_,rfl,rfl,SqT.of ha,at3,Av 4,q⟩⟩
def PsAt(H:Hp)(ws:List (Addr×Rk×Tr)):Prop:=∀p∈ws,H p.1=some (.tup p.2.1.vs)
abbrev trs(ws:List (Addr×Rk×Tr)):List (V×Tr):=ws.map λ p=>(V.ref p.1,p.2.2)
abbrev AI(ws:List (Addr×Rk×Tr)):LUz:=ws.map λ p=>V.ref p.1
theorem PsAt.kp{H H':Hp}{ws:List (Addr×Rk×Tr)}(h:PsAt H ws)(k:Kp H H'):PsAt H' ws:=λ p hp=>k _ _ (h p hp) (by intro xs z;cases z)
theorem Fs{ws0:List (Addr×Rk×Tr)}{p:Addr×Rk×Tr}:(AI (ws0++[p]))[(AI (ws0++[p])).length-1]?=some (.ref p.1):=by
 rw[List.length_map,List.length_append,List.length_singleton,Nat.add_sub_cancel,List.getElem?_map,List.getElem?_append_right (Nat.le_refl _),Nat.sub_self];rfl
theorem Fv{ws0:List (Addr×Rk×Tr)}{p:Addr×Rk×Tr}:(AI (ws0++[p])).dropLast=AI ws0:=by
 show(List.map (λ p=>V.ref p.1) (ws0++[p])).dropLast=_;rw[List.map_append,List.map_singleton,List.dropLast_concat]
theorem Bo(ws:List (Addr×Rk×Tr))(p:Addr×Rk×Tr):trs (ws++[p])=trs ws++[(V.ref p.1,p.2.2)]:=by
 show List.map (λ p=>(V.ref p.1,p.2.2)) (ws++[p])=_;rw[List.map_append];rfl
theorem DU(ws:List (Addr×Rk×Tr))(p:Addr×Rk×Tr):AI (ws++[p])=AI ws++[V.ref p.1]:=by
 show List.map (λ p=>V.ref p.1) (ws++[p])=_;rw[List.map_append];rfl
theorem PcO.kp{H H':Hp}{ts:List PT}(h:PcO H ts)(k:Kp H H'):PcO H' ts:=λ t ht=>⟨k _ _ (h t ht).1 (by intro xs z;cases z),k _ _ (h t ht).2 (by intro xs z;cases z)⟩
theorem G7(ts:List PT)(t:PT):pcs (ts++[t])=pcs ts++[V.ref t.1]:=by
 show List.map (λ p=>V.ref p.1) (ts++[t])=_;rw[List.map_append];rfl
theorem Fz(ts:List PT)(t:PT):cons (ts++[t])=cons ts++[t.2.2]:=by
 show List.map (λ p=>p.2.2) (ts++[t])=_;rw[List.map_append];rfl
def Qt(ws:List (Addr×Rk×Tr)):List (Rk×Option Int):=ws.reverse.flatMap λ p=>A4 p.2.2 p.2.1
theorem DZ(ws:List (Addr×Rk×Tr))(p:Addr×Rk×Tr):Qt (ws++[p])=A4 p.2.2 p.2.1++Qt ws:=by
 unfold Qt;rw[List.reverse_append,List.reverse_singleton,List.singleton_append,List.flatMap_cons]
def RG:Expr:=match (AE Bp).getD 1 (.Pass ⟨0,0,0,0⟩) with
 |.Return (some (.Call _ _ [k] _)) _=>k.value
 |_=>.Constant .none 0 ⟨0,0,0,0⟩
def Uu:Arguments:=match RG with|.Lambda p _ _ _=>p|_=>Be Bp
def Tg:Expr:=match RG with|.Lambda _ b _ _=>b|e=>e
def RE:Scope:=match RG with|.Lambda _ _ s _=>s|_=>Ai Bp
def RF:Pos:=match RG with|.Lambda _ _ _ q=>q|_=>⟨0,0,0,0⟩
def OH:Str:="pieces.<locals>.<lambda>"
theorem UE:Ak ["piece"] ["piece"] RE:=fsc
def QP(H:Hp)(l:Addr):Prop:=∀o,H l=some o->∃ps,o=.tbl ps
theorem Uo{H H':Hp}{l:Addr}(s:SameN H H')(h:H' l=none):QP H l:=λ o e=>Classical.byContradiction λ z=>by
 have:=s l o e (λ ps e'=>z ⟨ps,e'⟩);rw[h]at this;cases this
theorem TabOk.upd{pos:Pos}{qual:Str}{T l:Addr}{H:Hp}{xs ys:LUz}(h:TabOk pos qual T H)(hl:H l=some (.lst xs)):TabOk pos qual T (upd H l (.lst ys)):=by
 obtain⟨ps,e,t,c⟩:=h;refine⟨ps,by rw[Ae (λ z=>by rw[z,hl]at e;cases e)];exact e,t,?_⟩;rcases c with c|⟨c',c1,c2⟩
 .exact .inl c
 .exact .inr ⟨c',c1,by rw[Ae (λ z=>by rw[z,hl]at c2;cases c2)];exact c2⟩
def Rk.lo(p:Rk)(u:Bool):Int:=if u then p.l else p.t
def Rk.hi(p:Rk)(u:Bool):Int:=if u then p.r else p.b
theorem Dm{p:Rk}{u:Bool}:p.len u=p.hi u-p.lo u:=by cases u<;>rfl
theorem Ny{p:Rk}{u:Bool}{k a:Int}:(p.fst u k).fst u a=p.fst u a:=by cases u<;>rfl
theorem Nx{p:Rk}{u:Bool}{k a:Int}:(p.fst u k).oth u a=(p.oth u a).fst u (k-a):=by
 cases u
 .show(⟨p.t+a,p.l,p.t+k,p.r⟩:Rk)=⟨p.t+a,p.l,p.t+a+(k-a),p.r⟩;rw[show p.t+a+(k-a)=p.t+k by lia]
 .show(⟨p.t,p.l+a,p.b,p.l+k⟩:Rk)=⟨p.t,p.l+a,p.b,p.l+a+(k-a)⟩;rw[show p.l+a+(k-a)=p.l+k by lia]
theorem Nw{p:Rk}{u:Bool}{k a:Int}:(p.oth u a).oth u (k-a)=p.oth u k:=by
 cases u
 .show(⟨p.t+a+(k-a),p.l,p.b,p.r⟩:Rk)=⟨p.t+k,p.l,p.b,p.r⟩;rw[show p.t+a+(k-a)=p.t+k by lia]
 .show(⟨p.t,p.l+a+(k-a),p.b,p.r⟩:Rk)=⟨p.t,p.l+k,p.b,p.r⟩;rw[show p.l+a+(k-a)=p.l+k by lia]
theorem SQ{p:Rk}{u v:Bool}{k a:Int}(h:¬v=u):(p.fst v k).fst u a=(p.fst u a).fst v k/\(p.fst v k).oth u a=(p.oth u a).fst v k/\(p.oth v k).fst u a=(p.fst u a).oth v k/\(p.oth v k).oth u a=(p.oth u a).oth v k/\(p.fst v k).len u=p.len u/\(p.oth v k).len u=p.len u/\(p.fst v k).lo u=p.lo u/\(p.oth v k).lo u=p.lo u/\(p.fst u a).len v=p.len v/\(p.oth u a).len v=p.len v:=by
 cases u<;>cases v<;>first|exact absurd rfl h|exact⟨rfl,rfl,rfl,rfl,rfl,rfl,rfl,rfl,rfl,rfl⟩
theorem P8{p:Rk}{u:Bool}{k:Int}:(p.fst u k).len u=k/\(p.oth u k).len u=p.len u-k/\(p.fst u k).lo u=p.lo u/\(p.oth u k).lo u=p.lo u+k/\(p.fst u k).hi u=p.lo u+k:=by
 cases u
 .exact⟨show p.t+k-p.t=k by lia,show p.b-(p.t+k)=p.b-p.t-k by lia,rfl,rfl,rfl⟩
 .exact⟨show p.l+k-p.l=k by lia,show p.r-(p.l+k)=p.r-p.l-k by lia,rfl,rfl,rfl⟩
abbrev Rk.ok(p:Rk):Prop:=p.t<p.b/\p.l<p.r
theorem KG{p:Rk}{u:Bool}{k:Int}(h:p.ok)(a:1<=k)(b:k<p.len u):(p.fst u k).ok/\(p.oth u k).ok:=by
 cases u with
 |true =>
  have b:k<p.r-p.l:=b;exact⟨⟨h.1,show p.l<p.l+k by lia⟩,h.1,show p.l+k<p.r by lia⟩
 |false =>
  have b:k<p.b-p.t:=b;exact⟨⟨show p.t<p.t+k by lia,h.2⟩,show p.t+k<p.b by lia,h.2⟩
def Thr:Tr->Bool->Int->Prop
 |.whole _,_,_=>False
 |.cut v k x y,u,a=>if v=u then (if a<k then Thr x u a else if k<a then Thr y u (a-k) else True) else Thr x u a/\Thr y u a
def ahd:Tr->Bool->Int->Tr
 |.whole m,_,_=>.whole m
 |.cut v k x y,u,a=>if v=u then (if a<k then ahd x u a else if k<a then .cut v k x (ahd y u (a-k)) else x) else .cut v k (ahd x u a) (ahd y u a)
def bhd:Tr->Bool->Int->Tr
 |.whole m,_,_=>.whole m
 |.cut v k x y,u,a=>if v=u then (if a<k then .cut v (k-a) (bhd x u a) y else if k<a then bhd y u (a-k) else y) else .cut v k (bhd x u a) (bhd y u a)
theorem CZ:∀{t:Tr}{p:Rk}{u:Bool}{a:Int},BD p t->Thr t u a->(1<=a/\a<p.len u)->BD (p.fst u a) (ahd t u a)/\BD (p.oth u a) (bhd t u a)
 |.whole _,p,u,a,_,h,_=>h.elim
 |.cut v k x y,p,u,a,f,h,⟨a1,a2⟩=>by
  rw[fitR_cut]at f;obtain⟨⟨k1,k2⟩,fx,fy⟩:=f;rw[Thr]at h;rw[ahd,bhd];by_cases e:v=u
  .subst e;rw[if_pos rfl]at h;rw[if_pos rfl,if_pos rfl];obtain⟨s1,s2,_,_,_⟩:=P8 (p:=p) (u:=v) (k:=k);by_cases c:a<k
   .rw[if_pos c]at h;rw[if_pos c,if_pos c,fitR_cut];obtain⟨i1,i2⟩:=CZ fx h ⟨a1,by rw[s1];exact c⟩;rw[Ny]at i1;rw[Nx]at i2;refine⟨i1,⟨by lia,?_⟩,i2,by rw[Nw];exact fy⟩;have:=(P8 (p:=p) (u:=v) (k:=a)).2.1;lia
   .rw[if_neg c]at h;rw[if_neg c,if_neg c];by_cases c2:k<a
    .rw[if_pos c2]at h;rw[if_pos c2,if_pos c2,fitR_cut];obtain⟨i1,i2⟩:=CZ fy h ⟨by lia,by rw[s2];lia⟩;rw[<-Nx]at i1;rw[Nw]at i2;refine⟨⟨⟨k1,?_⟩,by rw[Ny];exact fx,i1⟩,i2⟩;have:=(P8 (p:=p) (u:=v) (k:=a)).1;lia
    .rw[if_neg c2,if_neg c2];have:a=k:=by lia
     rw[this];exact⟨fx,fy⟩
  .rw[if_neg e]at h;rw[if_neg e,if_neg e,fitR_cut,fitR_cut];obtain⟨e1,e2,e3,e4,e5,e6,_,_,e9,e10⟩:=SQ (p:=p) (u:=u) (v:=v) (k:=k) (a:=a) e;obtain⟨i1,i2⟩:=CZ fx h.1 ⟨a1,by rw[e5];exact a2⟩;obtain⟨j1,j2⟩:=CZ fy h.2 ⟨a1,by rw[e6];exact a2⟩;rw[e1]at i1;rw[e2]at i2;rw[e3]at j1;rw[e4]at j2;exact⟨⟨⟨k1,by rw[e9];exact k2⟩,i1,j1⟩,⟨k1,by rw[e10];exact k2⟩,i2,j2⟩
theorem Uj{α:Type}{A B C D:List α}:((A++B)++(C++D)).Perm ((A++C)++(B++D)):=by
 rw[List.append_assoc,List.append_assoc];refine List.Perm.append_left A ?_;rw[<-List.append_assoc,<-List.append_assoc];exact List.Perm.append_right D List.perm_append_comm
theorem DN:∀{t:Tr}{p:Rk}{u:Bool}{a:Int},Thr t u a->(A4 t p).Perm (A4 (ahd t u a) (p.fst u a)++A4 (bhd t u a) (p.oth u a))
 |.whole _,p,u,a,h=>h.elim
 |.cut v k x y,p,u,a,h=>by
  rw[Thr]at h;rw[ahd,bhd];by_cases e:v=u
  .subst e;rw[if_pos rfl]at h;rw[if_pos rfl,if_pos rfl];by_cases c:a<k
   .rw[if_pos c]at h;rw[if_pos c,if_pos c,A4,A4,Nw,<-Nx,<-List.append_assoc];have:=DN (p:=p.fst v k) h;rw[Ny]at this;exact this.append_right _
   .rw[if_neg c]at h;rw[if_neg c,if_neg c];by_cases c2:k<a
    .rw[if_pos c2]at h;rw[if_pos c2,if_pos c2,A4,A4,Ny,Nx,List.append_assoc];have:=DN (p:=p.oth v k) h;rw[Nw]at this;exact this.append_left _
    .rw[if_neg c2,if_neg c2];have:a=k:=by lia
     rw[this,A4]
  .rw[if_neg e]at h;rw[if_neg e,if_neg e,A4,A4,A4];obtain⟨e1,e2,e3,e4,_⟩:=SQ (p:=p) (u:=u) (v:=v) (k:=k) (a:=a) e;have i:=DN (p:=p.fst v k) h.1;have j:=DN (p:=p.oth v k) h.2;rw[e1,e2]at i;rw[e3,e4]at j;exact(i.append j).trans Uj
def brk(u:Bool)(line:Int)(g:Rk×Option Int):Prop:=g.1.lo u<line/\line<g.1.hi u
theorem Gq:∀{t:Tr}{p:Rk}{u:Bool}{a:Int},BD p t->1<=a->a<p.len u->(∀g∈A4 t p,¬brk u (p.lo u+a) g)->Thr t u a
 |.whole m,p,u,a,_,h1,h2,h=>by
  rw[A4]at h;rw[Dm]at h2;exact absurd (show p.lo u<p.lo u+a/\p.lo u+a<p.hi u by lia) (h (p,m) (List.mem_singleton.mpr rfl))
 |.cut v k x y,p,u,a,f,h1,h2,h=>by
  rw[fitR_cut]at f;obtain⟨⟨k1,k2⟩,fx,fy⟩:=f;rw[A4]at h;rw[Thr];by_cases e:v=u
  .subst e;rw[if_pos rfl];obtain⟨s1,s2,s3,s4,_⟩:=P8 (p:=p) (u:=v) (k:=k);by_cases c:a<k
   .rw[if_pos c];exact Gq fx h1 (by rw[s1];exact c) λ g hg=>by rw[s3];exact h g (List.mem_append.mpr (.inl hg))
   .rw[if_neg c];by_cases c2:k<a
    .rw[if_pos c2];exact Gq fy (by lia) (by rw[s2];lia) λ g hg=>by rw[s4,show p.lo v+k+(a-k)=p.lo v+a by lia];exact h g (List.mem_append.mpr (.inr hg))
    .rw[if_neg c2];trivial
  .rw[if_neg e];obtain⟨_,_,_,_,e5,e6,e7,e8,_⟩:=SQ (p:=p) (u:=u) (v:=v) (k:=k) (a:=a) e;exact⟨Gq fx h1 (by rw[e5];exact h2) λ g hg=>by rw[e7];exact h g (List.mem_append.mpr (.inl hg)),Gq fy h1 (by rw[e6];exact h2) λ g hg=>by rw[e8];exact h g (List.mem_append.mpr (.inr hg))⟩
theorem IT{t:Tr}{p:Rk}(h:p.ok)(f:BD p t){g:Rk×Option Int}(hg:g∈A4 t p)(u:Bool):p.lo u<=g.1.lo u/\g.1.lo u<g.1.hi u/\g.1.hi u<=p.hi u:=by
 have:=C4 h.1 h.2 f g hg;cases u
 .exact⟨this.1,this.2.1,this.2.2.1⟩
 .exact⟨this.2.2.2.1,this.2.2.2.2.1,this.2.2.2.2.2⟩
theorem E4{x y:Tr}{p:Rk}{u:Bool}{k:Int}(h:p.ok)(k1:1<=k)(k2:k<p.len u)(fx:BD (p.fst u k) x)(fy:BD (p.oth u k) y) :
  ((A4 x (p.fst u k)++A4 y (p.oth u k)).filter λ g=>decide (g.1.lo u<p.lo u+k))=A4 x (p.fst u k)/\((A4 x (p.fst u k)++A4 y (p.oth u k)).filter λ g=>decide (p.lo u+k<=g.1.lo u))=A4 y (p.oth u k)/\∀g∈A4 x (p.fst u k)++A4 y (p.oth u k),¬brk u (p.lo u+k) g:=by
 obtain⟨o1,o2⟩:=KG h k1 k2;obtain⟨_,_,s3,s4,s5⟩:=P8 (p:=p) (u:=u) (k:=k);have i1:∀g∈A4 x (p.fst u k),g.1.lo u<p.lo u+k/\g.1.hi u<=p.lo u+k:=λ g hg=>by
  have:=IT o1 fx hg u;rw[s5]at this;lia
 have i2:∀g∈A4 y (p.oth u k),p.lo u+k<=g.1.lo u:=λ g hg=>by
  have:=IT o2 fy hg u;rw[s4]at this;lia
 refine⟨?_,?_,λ g hg z=>?_⟩
 .rw[List.filter_append,List.filter_eq_self.mpr (λ g hg=>decide_eq_true (i1 g hg).1),List.filter_eq_nil_iff.mpr (λ g hg z=>by have:=of_decide_eq_true z;have:=i2 g hg;lia),List.append_nil]
 .rw[List.filter_append,List.filter_eq_self.mpr (λ g hg=>decide_eq_true (i2 g hg)),List.filter_eq_nil_iff.mpr (λ g hg z=>by have:=of_decide_eq_true z;have:=i1 g hg;lia),List.nil_append]
 .obtain⟨z1,z2⟩:=z;rcases List.mem_append.mp hg with hg|hg
  .have:=i1 g hg;lia
  .have:=i2 g hg;lia
theorem O6{t:Tr}{p:Rk}{u:Bool}{a:Int}{L:List (Rk×Option Int)}(h:p.ok)(f:BD p t)(e:L.Perm (A4 t p))(a1:1<=a)(a2:a<p.len u)(hb:∀g∈L,¬brk u (p.lo u+a) g) :
  Thr t u a/\BD (p.fst u a) (ahd t u a)/\BD (p.oth u a) (bhd t u a)/\(L.filter λ g=>decide (g.1.lo u<p.lo u+a)).Perm (A4 (ahd t u a) (p.fst u a))/\(L.filter λ g=>decide (p.lo u+a<=g.1.lo u)).Perm (A4 (bhd t u a) (p.oth u a)):=by
 have th:=Gq f a1 a2 λ g hg=>hb g (e.mem_iff.mpr hg);obtain⟨f1,f2⟩:=CZ f th ⟨a1,a2⟩;obtain⟨q1,q2,_⟩:=E4 h a1 a2 f1 f2;have:=e.trans (DN (p:=p) th);refine⟨th,f1,f2,?_,?_⟩
 .have:=this.filter (λ g=>decide (g.1.lo u<p.lo u+a));rw[q1]at this;exact this
 .have:=this.filter (λ g=>decide (p.lo u+a<=g.1.lo u));rw[q2]at this;exact this
theorem OE(m:Option Int):Cn (CU m)=true:=by cases m<;>rfl
def gD(g:Rk×Option Int):D:=.tup (.cons (.tup (.cons (.at (.int g.1.t)) (.cons (.at (.int g.1.l)) (.cons (.at (.int g.1.b)) (.cons (.at (.int g.1.r)) .nil))))) (.cons (.at (CU g.2)) .nil))
def gsD:List (Rk×Option Int)->Ds
 |[]=>.nil
 |g::r=>.cons (gD g) (gsD r)
theorem NJ:∀gs,Dv (gsD gs)<=2
 |[]=>by rw[gsD,Dv];lia
 |g::r=>by
  have:=NJ r;rw[gsD,Dv,gD,dep,Dv,dep,Dv,Dv,Dv,Dv,Dv,Dv,Dv,dep,dep,dep,dep,dep];lia
theorem Qq{K:Frag}{H:Hp}:∀{ts:List PT},PcO H ts->DIss K H (gsD (cons ts)) (pcs ts)
 |[],_=>by show DIss K H .nil [];rw[DIss]
 |t::r,h=>by
  show DIss K H (.cons (gD t.2.2) (gsD (cons r))) (.ref t.1::pcs r);rw[DIss];refine⟨_,_,rfl,?_,Qq λ u hu=>h u (List.mem_cons_of_mem _ hu)⟩;obtain⟨h1,h2⟩:=h t List.mem_cons_self;rw[gD,DIs];refine⟨_,_,rfl,SqT.of h1,?_⟩;rw[DIss];refine⟨_,_,rfl,?_,?_⟩
  .rw[DIs];refine⟨_,_,rfl,SqT.of h2,?_⟩;rw[DIss];refine⟨_,_,rfl,by rw[DIs];exact⟨rfl,rfl⟩,?_⟩;rw[DIss];refine⟨_,_,rfl,by rw[DIs];exact⟨rfl,rfl⟩,?_⟩;rw[DIss];refine⟨_,_,rfl,by rw[DIs];exact⟨rfl,rfl⟩,?_⟩;rw[DIss];exact⟨_,_,rfl,by rw[DIs];exact⟨rfl,rfl⟩,by rw[DIss]⟩
  .rw[DIss];exact⟨_,_,rfl,by rw[DIs];exact⟨rfl,OE _⟩,by rw[DIss]⟩
theorem gsL{K:Frag}{H:Hp}{a:Addr}{ts:List PT}(h:H a=some (.lst (pcs ts)))(p:PcO H ts):DIs K H (.lst (gsD (cons ts))) (.ref a):=by
 rw[DIs];exact⟨a,_,rfl,SqL.of h,Qq p⟩
theorem Qb:∀t:Tr,t.nd+1=2*t.sz
 |.whole _=>by rw[Tr.nd,Tr.sz]
 |.cut _ _ x y=>by have:=Qb x;have:=Qb y;rw[Tr.nd,Tr.sz];lia
inductive Jl(vs:LUz)(H:Hp)(Q:VK)(E:XK):Prop
 |mk (a:Addr) (p:Rk) (u:Bool) (k:Int) (h0:vs=[.ref a,.str (wd u),.int k]) (h1:H a=some (.tup p.vs)) (h2:1<=k) (h3:k<p.len u) (h4:Q .non H):Jl vs H Q E
def K5:Sp:=λ vs H Q E=>Jl vs H Q E
theorem LL:Ak ["piece","word","at","length"] ["piece","word","at"] (Ai BI):=fsc
theorem JN{f:Addr}{fd:FuncData}(F:Fun K "check_cut" "check_cut" BI f fd)(T:Txt mg tk)(D_is_whole:Ay P w K mg base 1 "is_whole" ["thing"] ED):A5 P w K mg base CX0 2 f fd ["piece","word","at"] K5:=by
 have S:=LL;refine F.ok S (λ vs H Q E h=>?_) (λ cdv A outer s H vs Q E hr h=>?_)
 .obtain⟨a,p,u,k,rfl,_⟩:=h;rfl
 .obtain⟨a,p,u,k,rfl,ha,k1,k2,q⟩:=h;obtain⟨tt,htt,fin⟩:∃rd,PSs (B8 CX0 P w K mg base ["piece","word","at","length"] "check_cut" (Ai BI) f cdv A outer s H E).nox ((AE BI).drop 1) rd /\
    rd { nx:=λ_ H'=>Q .non H',rt:=Q } [some (.ref a),some (.str (wd u)),some (.int k),some (.int (p.len u))] H:=by
   refine⟨_,(Ah (AL (PW.pt (ID (BR (Bc (Au D_is_whole hr (Aa (pv 2) Ac)))) (Fg (BR (KN CT DH Ag (pv 2) (pv 3)))))) (Ah Ch) A6)),?_⟩;refine⟨_,rfl,.int k,rfl,⟨"int",rfl⟩,_,rfl,Bq rfl ?_⟩;exact⟨_,rfl,_,_,rfl,rfl,_,rfl,BE (decide_eq_true k1) ⟨_,rfl,_,_,rfl,rfl,_,rfl,Bq (by rw[decide_eq_true k2];rfl) q⟩⟩
  refine⟨_,(Af (Aq (i:=3) S.nd rfl (Or.inl rfl) (G5 (A9 Cl (pv 1) (A7 (v:=.str "upright") rfl T.g_UPRIGHT_cuts ⟨_,rfl⟩) (A3 _)) (Ar AM (An Al (pv 0) Ag (λ_ _=>rfl)) (An Al (pv 0) Ag (λ_ _=>rfl))) (Ar AM (An Al (pv 0) Ag (λ_ _=>rfl)) (An Al (pv 0) Ag (λ_ _=>rfl)))))
   htt),?_⟩
  cases u with
  |true=>exact⟨_,rfl,rfl,_,rfl,BE (D7 true true) ⟨_,rfl,a,_,_,_,rfl,rfl,SqT.of ha,at3,_,rfl,a,_,_,_,rfl,rfl,SqT.of ha,at1,_,_,rfl,rfl,fin⟩⟩
  |false=>exact⟨_,rfl,rfl,_,rfl,Bq (D7 false true) ⟨_,rfl,a,_,_,_,rfl,rfl,SqT.of ha,at2,_,rfl,a,_,_,_,rfl,rfl,SqT.of ha,at0,_,_,rfl,rfl,fin⟩⟩
inductive Of(cW cU cL:Addr)(vs:LUz)(H:Hp)(Q:VK)(E:XK):Prop
 |mk (v:V) (t:Tr) (ww hh:Int) (h0:vs=[v,.int ww,.int hh]) (h1:Obj cW cU cL H t v) (h2:t.nd<=400) (h3:Fit t ww hh) (h4:∀l ts H',Same H H'->H l=none->H' l=some (.lst (pcs ts))->PcO H' ts->cons ts=A4 t ⟨0,0,hh,ww⟩->Q (.ref l) H'):Of cW cU cL vs H Q E
def Mg(cW cU cL:Addr) :Sp:=λ vs H Q E=>Of cW cU cL vs H Q E
theorem Pc:Ak ["tree","width","height","found","waiting","word","number","piece"] ["tree","width","height"] (Ai Fd):=fsc
theorem M5{f:Addr}{fd:FuncData}(F:Fun K "cut_out" "cut_out" Fd f fd)(T:Txt mg tk)(D_entries_of:Ay P w K mg base 3 "entries_of" ["tree"] (El cW cU cL))(D_check_cut:Ay P w K mg base 2 "check_cut" ["piece","word","at"] K5)
  (D_first_piece:Ay P w K mg base 1 "first_piece" ["piece","word","at"] Mi) (D_other_piece:Ay P w K mg base 1 "other_piece" ["piece","word","at"] Mh):A5 P w K mg base CX0 4 f fd ["tree","width","height"] (Mg cW cU cL):=by
 have S:=Pc;refine F.ok S (λ vs H Q E h=>?_) (λ cdv A outer s H vs Q E hr h=>?_)
 .obtain⟨v,t,ww,hh,rfl,_⟩:=h;rfl
 .obtain⟨v,t,ww,hh,rfl,ho,hn,fit,q⟩:=h;refine⟨_,(Af (Aq (i:=3) S.nd rfl (Or.inl rfl) (AO Ac))
   (Af (Aq (i:=4) S.nd rfl (Or.inl rfl) (AO (Aa (Az (Aa Ag (Aa Ag (Aa (pv 2) (Aa (pv 1) Ac))))) Ac)))
   (Af (AX PassesOwn.never rfl (AJ (Au D_entries_of hr (Aa (pv 0) Ac))) (BS rfl (Ax (Aj (i:=5) S.nd rfl (Or.inl rfl)) (Ax (Aj (i:=6) S.nd rfl (Or.inl rfl)) Bj))) (Af (Aq (i:=7) S.nd rfl (Or.inl rfl) (Fj PySem.F.plainAttrs_list PySem.F.slot_list_pop PySem.F.type_list_pop Fo (pv 4)))
   (Ah (AL (A9 Cl (pv 5) (A7 (v:=.str "whole") rfl T.g_WHOLE ⟨_,rfl⟩) (A3 _)) (Ah (AH (BW PySem.F.plainAttrs_list PySem.F.slot_list_append PySem.F.type_list_append AG (pv 3) (Aa (Az (Aa (pv 7) (Aa (pv 6) Ac))) Ac)))) (Af (AH (Au D_check_cut hr (Aa (pv 7) (Aa (pv 5) (Aa (pv 6) Ac)))))
   (Af (AH (BW PySem.F.plainAttrs_list PySem.F.slot_list_append PySem.F.type_list_append AG (pv 4) (Aa (Au D_other_piece hr (Aa (pv 7) (Aa (pv 5) (Aa (pv 6) Ac)))) Ac)))
   (Ah (AH (BW PySem.F.plainAttrs_list PySem.F.slot_list_append PySem.F.type_list_append AG (pv 4) (Aa (Au D_first_piece hr (Aa (pv 7) (Aa (pv 5) (Aa (pv 6) Ac)))) Ac))))))))))
   (Ah (Ap (pv 3)))))),?_⟩
  refine⟨Av 0,λ lf hlf=>⟨_,rfl,_,rfl,Av 4,λ t0 ht0=>⟨Av 1,λ lw hlw=>?_⟩⟩⟩;obtain⟨HA,g,sA,eA⟩:=nw (.lst []) hlf;rw[g] at ht0 hlw |-;obtain⟨HB,g,sB,eB⟩:=nw (.tup [.int 0,.int 0,.int hh,.int ww]) ht0;rw[g] at hlw |-;have sC:Same HB (upd HB lw (.lst [.ref t0])):=Same.new hlw;have eC:(upd HB lw (.lst [.ref t0])) lw=some (.lst [.ref t0]):=Ab;have nfw:lf≠lw:=Ad (sB _ _ eA) hlw;have hlw0:H lw=none:=by
   cases e:H lw with
   |none=>rfl
   |some o=>rw[sB _ _ (sA _ _ e)]at hlw;cases hlw
  generalize upd HB lw (.lst [.ref t0])=HC at sC eC |-;have SC:=(sA.trans sB).trans sC;refine⟨_,rfl,v,t,rfl,ho.same SC,hn,λ le xs HD sD nle hle hen=>?_⟩;have hxl:=hen.len;have hel:=Cr t;have nlf:le≠lf:=Ne.symm (Ad ((sB.trans sC) _ _ eA) nle);have nlw:le≠lw:=Ne.symm (Ad eC nle);refine⟨le,rfl,⟨_,SqL.of hle⟩,BB (K:=K) (a:=le) (xs:=xs) (λ i σ H'=>∃(ts:List PT)(ws:List (Addr×Rk×Tr))(x5 x6 x7:Option V),σ=[some v,some (.int ww),some (.int hh),some (.ref lf),some (.ref lw),x5,x6,x7]/\Same H H'/\H' le=some (.lst xs)/\EnsAt H' xs (AD t) /\
    H' lf=some (.lst (pcs ts))/\PcO H' ts/\ts.length<=i/\H' lw=some (.lst (AI ws))/\PsAt H' ws/\(AD t).drop i=Cu (trs ws)/\(∀p∈ws,BD p.2.1 p.2.2)/\A4 t ⟨0,0,hh,ww⟩=cons ts++Qt ws)
   ⟨[],[(t0,⟨0,0,hh,ww⟩,t)],_,_,_,rfl,SC.trans sD,hle,hen,(sD _ _ ((sB.trans sC) _ _ eA)),(λ t ht=>(nomatch ht)),Nat.le_refl _,sD _ _ eC,(λ p hp=>by rw[List.mem_singleton.mp hp];exact sD _ _ (sC _ _ eB)),?_,?_,?_⟩ (λ i σ H' _ hp=>by obtain⟨_,_,_,_,_,_,_,h,_⟩:=hp;exact SqL.of h) ?_ ?_⟩
  .show AD t=Cu [(V.ref t0,t)];rw[Ea];rfl
  .intro p hp;rw[List.mem_singleton.mp hp];exact ML fit
  .have:=DZ [] (t0,(⟨0,0,hh,ww⟩:Rk),t);show A4 t ⟨0,0,hh,ww⟩=Qt ([]++[(t0,(⟨0,0,hh,ww⟩:Rk),t)]);rw[this];exact(List.append_nil _).symm
  .rintro i x σ H' hx ⟨ts,ws,x5,x6,x7,rfl,s1,l1,en1,f1,pc,fl1,w1,p1,heq,hbad,hg⟩;obtain⟨e,a,he,rfl,ha⟩:=en1.get hx;obtain⟨hi,hei⟩:=List.getElem?_eq_some_iff.mp he;have hdr:(AD t).drop i=e::(AD t).drop (i+1):=by rw[List.drop_eq_getElem_cons hi,hei]
   rw[hdr]at heq;have wl:ws.length<=400:=by
    have h1:=Ec (trs ws);have h2:=CY (trs ws);rw[<-heq,<-hdr,List.length_drop]at h2;rw[List.length_map]at h1;lia
   obtain rfl|⟨ws0,p,rfl⟩:=Cc ws
   .cases heq
   have hp0:=p1 p (by simp);rw[Bo,AS]at heq;rw[DZ]at hg;obtain⟨pa,pk,pt⟩:=p;have body:∀w0:V,(enV e)=[w0,(enV e).getD 1 .non]->True:=λ_ _=>trivial;have k2:Kp H' (upd H' lw (.lst (AI ws0))):=Kp.put w1;have s2:Same H (upd H' lw (.lst (AI ws0))):=λ b o e=>by rw[Ae (Ad e hlw0)];exact s1 b o e
   have l2:(upd H' lw (.lst (AI ws0))) le=some (.lst xs):=by rw[Ae nlw];exact l1
   have f2:(upd H' lw (.lst (AI ws0))) lf=some (.lst (pcs ts)):=by rw[Ae nfw];exact f1
   have w2:(upd H' lw (.lst (AI ws0))) lw=some (.lst (AI ws0)):=Ab;have ps0:PsAt H' ws0:=λ r hr=>p1 r (List.mem_append_left _ hr);cases pt with
   |whole m =>
    have heq:e::(AD t).drop (i+1)=.w m::Cu (trs ws0):=heq;injection heq with he1 he2;subst he1;refine⟨a,_,rfl,SqT.of ha,rfl,_,_,rfl,_,_,rfl,rfl,?_⟩;refine⟨_,rfl,.inl ⟨rfl,_,SqL.of w1⟩,lw,_,_,rfl,rfl,w1,Fs,?_⟩;rw[Fv];generalize upd H' lw (.lst (AI ws0))=H2 at k2 s2 l2 f2 w2 |-;refine⟨_,rfl,rfl,_,rfl,BE (decide_eq_true rfl) ?_⟩;refine⟨_,rfl,.inl ⟨rfl,_,SqL.of f2⟩,_,rfl,_,rfl,Av 2,λ t3 ht3=>?_⟩;obtain⟨H3,g,s3,e3⟩:=nw (.tup [.ref pa,CU m]) ht3;rw[g];have f3:=s3 _ _ f2;refine⟨lf,pcs ts,_,rfl,rfl,f3,Am (by rw[List.length_map];lia),?_⟩;have k4:Kp H3 (upd H3 lf (.lst (pcs ts++[.ref t3]))):=Kp.put f3;have kk:=(k2.trans (C3 s3)).trans k4;have hpa:=kk _ _ hp0 (by intro xs z;cases z);refine⟨ts++[(t3,pa,pk,m)],ws0,_,_,_,rfl,λ b o e=>?_,?_,en1.kp kk,by rw[Ab,G7],?_,by rw[List.length_append,List.length_singleton];lia,?_,ps0.kp kk,he2,?_,?_⟩
    .rw[Ae (Ad e hlf)];exact s3 b o (s2 b o e)
    .rw[Ae nlf];exact s3 _ _ l2
    .intro t ht;rcases List.mem_append.mp ht with ht|ht
     .exact pc.kp kk t ht
     .rw[List.mem_singleton.mp ht];exact⟨k4 _ _ e3 (by intro xs z;cases z),hpa⟩
    .rw[Ae (Ne.symm nfw)];exact s3 _ _ w2
    .exact λ r hr=>hbad r (List.mem_append_left _ hr)
    .rw[hg,Fz,List.append_assoc];rfl
   |cut u k y1 y2 =>
    have heq:e::(AD t).drop (i+1)=.c u k::(AD y1++AD y2)++Cu (trs ws0):=heq;rw[List.cons_append]at heq;injection heq with he1 he2;subst he1;refine⟨a,_,rfl,SqT.of ha,rfl,_,_,rfl,_,_,rfl,rfl,?_⟩;refine⟨_,rfl,.inl ⟨rfl,_,SqL.of w1⟩,lw,_,_,rfl,rfl,w1,Fs,?_⟩;rw[Fv];have hp2:=k2 _ _ hp0 (by intro xs z;cases z);generalize upd H' lw (.lst (AI ws0))=H2 at k2 s2 l2 f2 w2 hp2 |-;refine⟨_,rfl,rfl,_,rfl,Bq (Gk u) ?_⟩;obtain⟨ok,fy1,fy2⟩:=fitR_cut.mp (hbad (pa,pk,.cut u k y1 y2) (by simp));refine⟨_,rfl,_,rfl,_,rfl,pa,pk,u,k,rfl,hp2,ok.1,ok.2,?_⟩;refine⟨_,rfl,.inl ⟨rfl,_,SqL.of w2⟩,_,rfl,_,rfl,_,rfl,pa,pk,u,k,rfl,hp2,λ t3 ht3=>?_⟩;obtain⟨H3,g,s3,e3⟩:=nw (.tup (pk.oth u k).vs) ht3;rw[g];have w3:=s3 _ _ w2;rw[List.length_append,List.length_singleton]at wl;refine⟨lw,_,_,rfl,rfl,w3,Am (by rw[List.length_map];lia),?_⟩;have k4:Kp H3 (upd H3 lw (.lst (AI ws0++[.ref t3]))):=Kp.put w3;have s4:Same H (upd H3 lw (.lst (AI ws0++[.ref t3]))):=λ b o e=>by rw[Ae (Ad e hlw0)];exact s3 b o (s2 b o e)
    have l4:(upd H3 lw (.lst (AI ws0++[.ref t3]))) le=some (.lst xs):=by rw[Ae nlw];exact s3 _ _ l2
    have f4:(upd H3 lw (.lst (AI ws0++[.ref t3]))) lf=some (.lst (pcs ts)):=by rw[Ae nfw];exact s3 _ _ f2
    have w4:(upd H3 lw (.lst (AI ws0++[.ref t3]))) lw=some (.lst (AI ws0++[.ref t3])):=Ab;have kk4:=(C3 s3).trans k4;generalize upd H3 lw (.lst (AI ws0++[.ref t3]))=H4 at k4 s4 l4 f4 w4 kk4 |-;have hp4:=kk4 _ _ hp2 (by intro xs z;cases z);have e4:=k4 _ _ e3 (by intro xs z;cases z);refine⟨_,rfl,.inl ⟨rfl,_,SqL.of w4⟩,_,rfl,_,rfl,_,rfl,pa,pk,u,k,rfl,hp4,λ t5 ht5=>?_⟩;obtain⟨H5,g,s5,e5⟩:=nw (.tup (pk.fst u k).vs) ht5;rw[g];have w5:=s5 _ _ w4;refine⟨lw,_,_,rfl,rfl,w5,Am (by rw[List.length_append,List.length_map,List.length_singleton];lia),?_⟩;have k6:Kp H5 (upd H5 lw (.lst (AI ws0++[.ref t3]++[.ref t5]))):=Kp.put w5;have kk6:=(C3 s5).trans k6;have kall:=(k2.trans kk4).trans kk6;refine⟨ts,ws0++[(t3,pk.oth u k,y2)]++[(t5,pk.fst u k,y1)],_,_,_,rfl,λ b o e=>?_,?_,en1.kp kall,?_,pc.kp kall,by lia,?_,λ r hr=>?_,?_,?_,?_⟩
    .rw[Ae (Ad e hlw0)];exact s5 b o (s4 b o e)
    .rw[Ae nlw];exact s5 _ _ l4
    .rw[Ae nfw];exact s5 _ _ f4
    .rw[Ab,DU,DU]
    .rcases List.mem_append.mp hr with hr|hr
     .rcases List.mem_append.mp hr with hr|hr
      .exact kall _ _ (ps0 r hr) (by intro xs z;cases z)
      .rw[List.mem_singleton.mp hr];exact kk6 _ _ e4 (by intro xs z;cases z)
     .rw[List.mem_singleton.mp hr];exact k6 _ _ e5 (by intro xs z;cases z)
    .rw[he2,Bo,Bo,AS,AS,List.append_assoc]
    .intro r hr;rcases List.mem_append.mp hr with hr|hr
     .rcases List.mem_append.mp hr with hr|hr
      .exact hbad r (List.mem_append_left _ hr)
      .rw[List.mem_singleton.mp hr];exact fy2
     .rw[List.mem_singleton.mp hr];exact fy1
    .rw[hg,A4,DZ,DZ,List.append_assoc]
  .rintro σ H' ⟨ts,ws,x5,x6,x7,rfl,s1,l1,en1,f1,pc,fl1,w1,p1,heq,hbad,hg⟩;rw[hxl,List.drop_length]at heq;have wn:ws=[]:=by
    have h1:=Ec (trs ws);have h2:=CY (trs ws);rw[<-heq]at h2;rw[List.length_map]at h1;exact List.length_eq_zero_iff.mp (by simp at h2;lia)
   subst wn;exact⟨_,rfl,q lf ts H' s1 hlf f1 pc (by rw[hg];exact(List.append_nil _).symm)⟩
inductive HF(tb cW cU cL:Addr)(vs:LUz)(H:Hp)(Q:VK)(E:XK):Prop
 |mk (v:V) (t:Tr) (ww hh:Int) (h0:vs=[v,.int ww,.int hh]) (h1:Obj cW cU cL H t v) (h2:t.nd<=400) (h3:t.sz<64) (h4:TabOk RF OH tb H) (h5:1<=ww) (h6:ww<=12) (h7:1<=hh) (h8:hh<=12) (h9:Fit t ww hh) (h10:∀l ts H',SameX tb H H'->TabOk RF OH tb H'->QP H l->H' l=some (.lst (pcs ts))->PcO H' ts->Due t ww hh (cons ts)->Q (.ref l) H'):HF tb cW cU cL vs H Q E
def EW(tb cW cU cL:Addr) :Sp:=λ vs H Q E=>HF tb cW cU cL vs H Q E
theorem QL:Ak ["tree","width","height"] ["tree","width","height"] (Ai Bp):=fsc
theorem O7{f:Addr}{fd:FuncData}{c tb:Addr}(F:FunC K "pieces" "pieces" Bp f fd c)(T:Txt mg tk)(hC:F0 K c tb=true)(hB:Si K mg)(D_check_sides:Ay P w K mg base 3 "check_sides" ["width","height"] Cb)(D_cut_out:Ay P w K mg base 4 "cut_out" ["tree","width","height"] (Mg cW cU cL)) :
  A5 P w K mg base CX0 5 f fd ["tree","width","height"] (EW tb cW cU cL):=by
 have S:=QL;refine F.ok S (λ vs H Q E h=>?_) (λ A outer s H vs Q E hr h=>?_)
 .obtain⟨v,t,ww,hh,rfl,_⟩:=h;rfl
 .obtain⟨v,t,ww,hh,rfl,ho,hn,h64,tab,w1,w2,h1,h2,fit,q⟩:=h;have hlam:=PQ (X:=(B8 CX0 P w K mg base ["tree","width","height"] "pieces" (Ai Bp) f (.ref c) A outer s H E).nox) (params:=Uu) (body:=Tg) (scope:=RE) (pos:=RF) (qual:=OH) (clos:=[]) rfl (codeTB_of hC) hB rfl rfl rfl;have hbind:∀(s:Shared)(pm ctv u:Value)(c':Addr),BindsTo s (kla_fn "<lambda>" OH Uu Tg RE [] pm (.ref c') ctv) ⟨[u],[]⟩ ((["piece"]:LSz).zip [u]):=λ_ _ _ _ _=>.of_eq rfl;have hbody:∀(A:Around)(outer:List Env)(s:Shared)(H:Hp)(f c':Addr),PE (B8 CX0 P w K mg base ["piece"] OH RE f (.ref c') A outer s H E0) Tg (tOp (SS K) (SI 0) (tC (.int 0))):=λ_ _ _ _ _ _=>An Al (pv 0) Ag (λ_ _=>rfl);have hrl:Room (1+3) (A.deeper (PyProof.Rows.envOfC "pieces" (Ai Bp) s.heap.objs.size f (.ref c))):=hr;refine⟨_,(Af (AH (Au D_check_sides hr (Aa (pv 1) (Aa (pv 2) Ac))))
   (Ah (Ap (PM rfl T.z_sorted (Aa (Au D_cut_out hr (Aa (pv 0) (Aa (pv 1) (Aa (pv 2) Ac)))) Ac) hlam UE rfl hrl hbind hbody)))),?_⟩
  refine⟨_,rfl,_,rfl,ww,hh,rfl,⟨w1,w2⟩,⟨h1,h2⟩,λ H1 s1=>?_⟩;refine⟨_,rfl,_,rfl,_,rfl,v,t,ww,hh,rfl,ho.same s1,hn,fit,λ l ts H2 s2 nl hl pc ec=>?_⟩;have inn:∀t'∈ts,GB.Rc.In ww hh t'.2.2.1:=λ t' ht'=>NL w1 h1 fit t'.2.2 (ec ▸ List.mem_map.mpr ⟨t',ht',rfl⟩);unfold Ra;simp only[];have t2:=tab.same (s1.trans s2);refine TabOk.lamC t2 λ c' fl ctv H3 sx tab3 hf hc hnew=>?_;have s3:=sx.toN t2.tbl;refine⟨fl,c',l,ctv,Addr×Rk×Option Int,ts,λ t'=>(t'.2.1,t'.2.2.1.ls),3,GB.key,rfl,hf,hc,rfl,SqL.of (s3.lst hl),(by have:=congrArg List.length ec;rw[DO,List.length_map]at this;lia),λ t' ht'=>⟨rfl,((pc.n s3) t' ht').2⟩,λ t' ht'=>⟨_,rfl,t'.1,_,_,_,rfl,rfl,SqT.of ((pc.n s3) t' ht').1,Jc,rfl,rfl⟩,λ t' ht' u' hu'=>GB.key_lt (inn t' ht') (inn u' hu') w2 h2 w2 h2,λ l' ts' nl' pm srt=>?_⟩;have s4:Same H3 (upd H3 l' (.lst (pcs ts'))):=Same.new nl';have sN:SameN H H3:=((s1.trans s2).n).trans s3;exact q l' ts' _ ((s1.trans s2).x.trans (sx.trans s4.x)) (tab3.same s4) (Uo sN nl') Ab (((pc.n s3).perm pm).same s4) ⟨ec ▸ pm.map _,by rw[List.map_map];exact srt⟩
theorem none_of{H H':Hp}{l:Addr}(s:Same H H')(h:H' l=none):H l=none:=by
 cases e:H l with
 |none=>rfl
 |some o=>rw[s _ _ e]at h;cases h
def sd(u:Bool):Int:=if u then 1 else 0
theorem LB{p:Rk}{u:Bool}:atI p.vs (sd u)=some (.int (p.lo u)):=by cases u<;>rfl
theorem QG{p:Rk}{u:Bool}:atI p.vs (sd u+2)=some (.int (p.hi u)):=by cases u<;>rfl
theorem Ev{p:Rk}(h:p.ok)(u:Bool):p.lo u<p.hi u:=by
 cases u
 .exact h.1
 .exact h.2
theorem NA{ts:List PT}{i:Nat}{x:V}(h:(pcs ts)[i]?=some x):∃u,ts[i]?=some u/\x=.ref u.1:=by
 rw[List.getElem?_map]at h;cases e:ts[i]? with
 |none=>rw[e]at h;cases h
 |some u=>rw[e]at h;exact⟨u,rfl,(Option.some.inj h).symm⟩
theorem Uc{p:Rk}{u:Bool}{a:Int}(h:∀v,0<=p.lo v/\p.hi v<=12)(a1:1<=a)(a2:a<p.len u):(∀v,0<=(p.fst u a).lo v/\(p.fst u a).hi v<=12)/\(∀v,0<=(p.oth u a).lo v/\(p.oth u a).hi v<=12)/\(p.fst u a).len true+(p.fst u a).len false<p.len true+p.len false/\(p.oth u a).len true+(p.oth u a).len false<p.len true+p.len false:=by
 obtain⟨x1,x2⟩:=h true;obtain⟨y1,y2⟩:=h false;have x1:0<=p.l:=x1;have x2:p.r<=12:=x2;have y1:0<=p.t:=y1;have y2:p.b<=12:=y2;cases u with
 |true =>
  have a2:a<p.r-p.l:=a2;refine⟨λ v=>?_,λ v=>?_,?_,?_⟩
  .cases v
   .exact⟨y1,y2⟩
   .exact⟨x1,show p.l+a<=12 by lia⟩
  .cases v
   .exact⟨y1,y2⟩
   .exact⟨show 0<=p.l+a by lia,x2⟩
  .show p.l+a-p.l+(p.b-p.t)<p.r-p.l+(p.b-p.t);lia
  .show p.r-(p.l+a)+(p.b-p.t)<p.r-p.l+(p.b-p.t);lia
 |false =>
  have a2:a<p.b-p.t:=a2;refine⟨λ v=>?_,λ v=>?_,?_,?_⟩
  .cases v
   .exact⟨y1,show p.t+a<=12 by lia⟩
   .exact⟨x1,x2⟩
  .cases v
   .exact⟨show 0<=p.t+a by lia,y2⟩
   .exact⟨x1,x2⟩
  .show p.r-p.l+(p.t+a-p.t)<p.r-p.l+(p.b-p.t);lia
  .show p.r-p.l+(p.b-(p.t+a))<p.r-p.l+(p.b-p.t);lia
def Pd(en:Rk->En)(D:Rk->Prop):Tr->Rk->Prop
 |.whole m,p=>D p/\en p=.w m
 |.cut u k x y,p=>D p/\en p=.c u k/\Pd en D x (p.fst u k)/\Pd en D y (p.oth u k)
def Dx(u:Bool)(a:Int)(r:Rk):Bool:=decide (r.lo u<a)&&decide (a<r.hi u)
theorem brkR_iff{u:Bool}{a:Int}{r:Rk}:Dx u a r=true↔r.lo u<a/\a<r.hi u:=by
 unfold Dx;rw[Bool.and_eq_true,decide_eq_true_iff,decide_eq_true_iff]
def Ln(rs:List Rk)(u:Bool)(lo:Int):Nat->List Int
 |0=>[]
 |n+1=>Ln rs u lo n++if rs.any (Dx u (lo+1+n))=true then [] else [lo+1+n]
def lns(rs:List Rk)(p:Rk)(u:Bool):List Int:=Ln rs u (p.lo u) (p.hi u-(p.lo u+1)).toNat
theorem Lm{rs:List Rk}{u:Bool}{lo:Int}:∀{n:Nat}{a:Int},a∈Ln rs u lo n↔lo<a/\a<lo+1+n/\∀r∈rs,¬(r.lo u<a/\a<r.hi u)
 |0,a=>by
  rw[Ln];exact⟨λ h=>absurd h List.not_mem_nil,λ h=>by lia⟩
 |n+1,a=>by
  rw[Ln,List.mem_append,Lm]
  constructor
  .rintro(⟨h1,h2,h3⟩|h)
   .exact⟨h1,by lia,h3⟩
   .split at h
    .cases h
    .rename_i hn;cases List.mem_singleton.mp h;refine⟨by lia,by lia,λ r hr z=>hn ?_⟩;exact List.any_eq_true.mpr ⟨r,hr,brkR_iff.mpr z⟩
  .rintro⟨h1,h2,h3⟩;by_cases e:a=lo+1+n
   .right
    subst e;rw[if_neg (λ z=>by obtain⟨r,hr,hz⟩:=List.any_eq_true.mp z;exact h3 r hr (brkR_iff.mp hz))];exact List.mem_singleton.mpr rfl
   .exact .inl ⟨h1,by lia,h3⟩
theorem JS{rs:List Rk}{p:Rk}{u:Bool}{a:Int}(h:p.ok):a∈lns rs p u↔p.lo u<a/\a<p.hi u/\∀r∈rs,¬(r.lo u<a/\a<r.hi u):=by
 have:p.lo u<p.hi u:=Ev h u;unfold lns;rw[Lm]
 constructor
 .rintro⟨a1,a2,a3⟩;exact⟨a1,by lia,a3⟩
 .rintro⟨a1,a2,a3⟩;exact⟨a1,by lia,a3⟩
def EB(rs:List Rk)(p:Rk):List (Bool×Int):=(lns rs p true).map (λ a=>(true,a))++(lns rs p false).map (λ a=>(false,a))
theorem GN{rs:List Rk}{p:Rk}{c:Bool×Int}(h:p.ok):c∈EB rs p↔p.lo c.1<c.2/\c.2<p.hi c.1/\∀r∈rs,¬(r.lo c.1<c.2/\c.2<r.hi c.1):=by
 obtain⟨u,a⟩:=c;unfold EB;rw[List.mem_append,List.mem_map,List.mem_map]
 constructor
 .rintro(⟨b,hb,e⟩|⟨b,hb,e⟩)<;>cases e<;>exact(JS h).mp hb
 .intro z;cases u
  .exact .inr ⟨a,(JS h).mpr z,rfl⟩
  .exact .inl ⟨a,(JS h).mpr z,rfl⟩
def Ins(r p:Rk):Prop:=p.t<=r.t/\p.l<=r.l/\r.b<=p.b/\r.r<=p.r
instance (r p:Rk):Decidable (Ins r p):=inferInstanceAs (Decidable (_/\_/\_/\_))
def inP(L:List (Rk×Option Int))(p:Rk):List (Rk×Option Int):=L.filter λ g=>decide (Ins g.1 p)
theorem ins_iff{r p:Rk}:Ins r p↔∀u,p.lo u<=r.lo u/\r.hi u<=p.hi u:=by
 constructor
 .rintro⟨a,b,c,d⟩ u;cases u
  .exact⟨a,c⟩
  .exact⟨b,d⟩
 .intro h;exact⟨(h false).1,(h true).1,(h false).2,(h true).2⟩
theorem I9{p:Rk}{u v:Bool}{k:Int}(k1:1<=k)(k2:k<p.len u):(p.fst u k).lo v=p.lo v/\(p.fst u k).hi v=(if u=v then p.lo u+k else p.hi v)/\(p.oth u k).lo v=(if u=v then p.lo u+k else p.lo v)/\(p.oth u k).hi v=p.hi v:=by
 cases u<;>cases v<;>exact⟨rfl,rfl,rfl,rfl⟩
theorem Ql{L:List (Rk×Option Int)}{p:Rk}{u:Bool}{k:Int}(hL:∀g∈L,∀v,g.1.lo v<g.1.hi v)(k1:1<=k)(k2:k<p.len u)(nb:∀g∈inP L p,¬brk u (p.lo u+k) g) :
  inP L (p.fst u k)=(inP L p).filter (λ g=>decide (g.1.lo u<p.lo u+k))/\inP L (p.oth u k)=(inP L p).filter (λ g=>decide (p.lo u+k<=g.1.lo u)):=by
 rw[Dm]at k2;have k2':k<p.len u:=by rw[Dm];exact k2
 unfold inP;rw[List.filter_filter,List.filter_filter]
 constructor
 .refine List.filter_congr λ g hg=>?_;rw[Bool.eq_iff_iff,Bool.and_eq_true,decide_eq_true_iff,decide_eq_true_iff,decide_eq_true_iff];have lt:=hL g hg u
  constructor
  .intro z;have zz:=ins_iff.mp z;have zu:=zz u;obtain⟨_,r2,_,_⟩:=I9 (p:=p) (u:=u) (v:=u) k1 k2';rw[r2,if_pos rfl]at zu;refine⟨by lia,ins_iff.mpr λ v=>?_⟩;have zv:=zz v;obtain⟨q1,q2,_,_⟩:=I9 (p:=p) (u:=u) (v:=v) k1 k2';rw[q1,q2]at zv;by_cases e:u=v
   .subst e;rw[if_pos rfl]at zv;lia
   .rw[if_neg e]at zv;exact zv
  .rintro⟨a,b⟩;have nbg:=nb g (List.mem_filter.mpr ⟨hg,decide_eq_true b⟩);have bb:=ins_iff.mp b;refine ins_iff.mpr λ v=>?_;have bv:=bb v;obtain⟨q1,q2,_,_⟩:=I9 (p:=p) (u:=u) (v:=v) k1 k2';rw[q1,q2];by_cases e:u=v
   .subst e;rw[if_pos rfl];exact⟨bv.1,Classical.byContradiction λ z=>nbg ⟨a,by lia⟩⟩
   .rw[if_neg e];exact bv
 .refine List.filter_congr λ g hg=>?_;rw[Bool.eq_iff_iff,Bool.and_eq_true,decide_eq_true_iff,decide_eq_true_iff,decide_eq_true_iff];have lt:=hL g hg u
  constructor
  .intro z;have zz:=ins_iff.mp z;have zu:=zz u;obtain⟨_,_,r3,_⟩:=I9 (p:=p) (u:=u) (v:=u) k1 k2';rw[r3,if_pos rfl]at zu;refine⟨zu.1,ins_iff.mpr λ v=>?_⟩;have zv:=zz v;obtain⟨_,_,q3,q4⟩:=I9 (p:=p) (u:=u) (v:=v) k1 k2';rw[q3,q4]at zv;by_cases e:u=v
   .subst e;rw[if_pos rfl]at zv;lia
   .rw[if_neg e]at zv;exact zv
  .rintro⟨a,b⟩;have bb:=ins_iff.mp b;refine ins_iff.mpr λ v=>?_;have bv:=bb v;obtain⟨_,_,q3,q4⟩:=I9 (p:=p) (u:=u) (v:=v) k1 k2';rw[q3,q4];by_cases e:u=v
   .subst e;rw[if_pos rfl];exact⟨a,bv.2⟩
   .rw[if_neg e];exact bv
def PnO(H:Hp)(ts:List (Addr×Rk)):Prop:=∀t∈ts,H t.1=some (.tup t.2.vs)
theorem PnO.same{H H':Hp}{ts:List (Addr×Rk)}(h:PnO H ts)(s:Same H H'):PnO H' ts:=λ t ht=>s _ _ (h t ht)
inductive Oo(vs:LUz)(H:Hp)(Q:VK)(E:XK):Prop
 |mk (a:Int) (b:Addr) (r:Rk) (u:Bool) (h0:vs=[.int a,.ref b,.int (sd u)]) (h1:H b=some (.tup r.vs)) (h2:Q (.bl (Dx u a r)) H):Oo vs H Q E
def Ml:Sp:=λ vs H Q E=>Oo vs H Q E
theorem Ih:Ak ["line","pane","side"] ["line","pane","side"] (Ai CD):=fsc
theorem GD{f:Addr}{fd:FuncData}(F:Fun K "line_breaks" "line_breaks" CD f fd):A5 P w K mg base CX0 1 f fd ["line","pane","side"] Ml:=by
 have S:=Ih;refine F.ok S (λ vs H Q E h=>?_) (λ cdv A outer s H vs Q E hr h=>?_)
 .obtain⟨a,b,r,u,rfl,_⟩:=h;rfl
 .obtain⟨a,b,r,u,rfl,hb,q⟩:=h;refine⟨_,(Ah (Ap (DG DH DH (An Al (pv 1) (pv 2) (λ_ _=>rfl)) (pv 0) (An Al (pv 1) (Ar AC (pv 2) Ag) (λ_ _=>rfl))))),?_⟩;unfold Dx at q;refine⟨_,rfl,_,rfl,b,_,_,_,rfl,rfl,SqT.of hb,LB,_,rfl,_,_,rfl,rfl,_,rfl,Bw (λ h1=>?_) (λ h1=>?_)⟩
  .rw[h1,Bool.true_and]at q;exact⟨_,rfl,_,rfl,_,_,rfl,rfl,b,_,_,_,rfl,rfl,SqT.of hb,QG,_,_,rfl,rfl,q⟩
  .rw[h1]at q;exact q
inductive LV(vs:LUz)(H:Hp)(Q:VK)(E:XK):Prop
 |mk (a:Int) (l:Addr) (ts:List (Addr×Rk)) (u:Bool) (h0:vs=[.int a,.ref l,.int (sd u)]) (h1:H l=some (.lst (Ao ts))) (h2:PnO H ts) (h3:ts.length<=150) (h4:∀H',Same H H'->Q (.bl (!(rcs ts).any (Dx u a))) H'):LV vs H Q E
def Nq:Sp:=λ vs H Q E=>LV vs H Q E
theorem Ht:Ak ["line","panes","side"] ["line","panes","side"] (Ai Ce):=fsc
theorem FN{f:Addr}{fd:FuncData}(F:Fun K "goes_through" "goes_through" Ce f fd)(T:Txt mg tk)(D_line_breaks:Ay P w K mg base 1 "line_breaks" ["line","pane","side"] Ml):A5 P w K mg base CX0 2 f fd ["line","panes","side"] Nq:=by
 have S:=Ht;refine F.ok S (λ vs H Q E h=>?_) (λ cdv A outer s H vs Q E hr h=>?_)
 .obtain⟨a,l,ts,u,rfl,_⟩:=h;rfl
 .obtain⟨a,l,ts,u,rfl,hl,hat,few,q⟩:=h;refine⟨_,(Ah (Ap (PN (A0 QC rfl T.z_any rfl (Aa (DW rfl (AJ (pv 1)) (λ_ _ _ _ _=>(Aj (i:=0) (show List.Nodup (["pane","line","side"]:LSz) from by decide +kernel) rfl (Or.inl rfl))) (λ_ _ _ _ _=>(Au D_line_breaks hr (Aa (pv 1) (Aa (pv 0) (Aa (pv 2) Ac))))) (N:=["pane","line","side"]) (fr:=[none,some 0,some 2])) Ac))))),?_⟩;refine⟨_,rfl,l,rfl,⟨_,SqL.of hl⟩,λ acc hacc=>B7 (K:=K) (a:=l) (ys:=Ao ts) (λ i xs σ H'=>(∃y,σ=[y,some (.int a),some (.int (sd u))])/\Same H H'/\xs=((rcs ts).take i).map λ p=>V.bl (Dx u a p)) ⟨⟨none,rfl⟩,Same.new hacc,rfl⟩ (λ i xs σ H' _ _ hp=>SqL.of (hp.2.1 _ _ hl)) ?_ ?_⟩
  .rintro i x xs σ H' hx hi hl' hacc' ⟨⟨y,rfl⟩,s4,rfl⟩;obtain⟨t,ht,rfl⟩:=Bg hx;have hta:=s4 _ _ (hat t (List.mem_of_getElem? ht));have er:(rcs ts)[i]?=some t.2:=by rw[List.getElem?_map,ht];rfl
   refine⟨_,rfl,_,rfl,_,rfl,a,t.1,t.2,u,rfl,hta,?_⟩;refine cNx.mk (Nat.le_of_lt (Am (by rw[KI];lia))) hi hl' hacc' ⟨⟨_,rfl⟩,λ c o e=>?_,?_⟩
   .rw[Ae (Ad e hacc)];exact s4 c o e
   .rw[List.take_succ,er,List.map_append];rfl
  .rintro xs σ H' hl' hacc' ⟨_,s4,rfl⟩;have e:(Ao ts).length=(rcs ts).length:=by rw[KI,List.length_map]
   rw[e,List.take_length]at hacc';have e2:List.map V.bl ((rcs ts).map (Dx u a))=(rcs ts).map λ p=>V.bl (Dx u a p):=by rw[List.map_map (l:=rcs ts)];rfl
   refine⟨acc,(rcs ts).map (Dx u a),rfl,SqL.of (by rw[hacc',e2]),rfl,?_⟩;have:=q H' s4;have e3:((rcs ts).map (Dx u a)).any id=(rcs ts).any (Dx u a):=by rw[List.any_map];rfl
   rw[<-e3]at this;exact⟨_,rfl,this⟩
inductive Oi(vs:LUz)(H:Hp)(Q:VK)(E:XK):Prop
 |mk (b l:Addr) (p:Rk) (ts:List (Addr×Rk)) (u:Bool) (h0:vs=[.ref b,.ref l,.int (sd u)]) (h1:H b=some (.tup p.vs)) (h2:H l=some (.lst (Ao ts))) (h3:PnO H ts) (h4:ts.length<=150) (h5:p.ok) (h6:(∀u,0<=p.lo u/\p.hi u<=12)) (h7:∀c H',Same H H'->H' c=some (.lst ((lns (rcs ts) p u).map V.int))->Q (.ref c) H'):Oi vs H Q E
def Pz:Sp:=λ vs H Q E=>Oi vs H Q E
theorem FT:Ak ["block","panes","side"] ["block","panes","side"] (Ai BN):=fsc
theorem Fl{f:Addr}{fd:FuncData}(F:Fun K "lines_through" "lines_through" BN f fd)(T:Txt mg tk)(D_goes_through:Ay P w K mg base 2 "goes_through" ["line","panes","side"] Nq):A5 P w K mg base CX0 3 f fd ["block","panes","side"] Pz:=by
 have S:=FT;refine F.ok S (λ vs H Q E h=>?_) (λ cdv A outer s H vs Q E hr h=>?_)
 .obtain⟨b,l,p,ts,u,rfl,_⟩:=h;rfl
 .obtain⟨b,l,p,ts,u,rfl,hb,hl,hat,few,pk,pb,q⟩:=h;refine⟨_,(Ah (Ap (Ck rfl (B6 rfl T.z_range (Aa (Ar AC (An Al (pv 0) (pv 2) (λ_ _=>rfl)) Ag) (Aa (An Al (pv 0) (Ar AC (pv 2) Ag) (λ_ _=>rfl)) Ac))) (λ_ _ _ _ _=>(Aj (i:=0) (show List.Nodup (["line","panes","side"]:LSz) from by decide +kernel) rfl (Or.inl rfl))) (λ_ _ _ _ _=>(Bc (Au D_goes_through hr (Aa (pv 0) (Aa (pv 1) (Aa (pv 2) Ac)))))) (λ_ _ _ _ _=>(pv 0)) (N:=["line","panes","side"]) (fr:=[none,some 1,some 2])))),?_⟩;obtain⟨b0,b1⟩:=pb u;have hlt:=Ev pk u;refine⟨_,rfl,_,rfl,b,_,_,_,rfl,rfl,SqT.of hb,LB,_,_,rfl,rfl,_,rfl,_,rfl,_,_,rfl,rfl,b,_,_,_,rfl,rfl,SqT.of hb,QG,p.lo u+1,p.hi u,rfl,⟨by lia,by lia,by lia,by lia⟩,λ acc hacc=>C5 (lo:=p.lo u+1) (n:=(p.hi u-(p.lo u+1)).toNat) (λ i xs σ H'=>(∃y,σ=[y,some (.ref l),some (.int (sd u))])/\Same H H'/\xs=(Ln (rcs ts) u (p.lo u) i).map V.int) ⟨⟨none,rfl⟩,Same.new hacc,rfl⟩ ?_ ?_⟩
  .rintro i xs σ H' hi' hxl hacc' ⟨⟨y,rfl⟩,s1,rfl⟩;refine⟨_,rfl,_,rfl,_,rfl,p.lo u+1+i,l,ts,u,rfl,s1 _ _ hl,hat.same s1,few,λ H2 s2=>⟨_,rfl,?_⟩⟩;cases hb':(rcs ts).any (Dx u (p.lo u+1+i)) with
   |true =>
    refine fSk.mk hi' hxl (s2 _ _ hacc') ⟨⟨_,rfl⟩,s1.trans s2,?_⟩;rw[Ln,hb',if_pos rfl,List.append_nil]
   |false =>
    refine⟨_,rfl,fNx.mk (Nat.le_of_lt (Am (by lia))) hi' hxl (s2 _ _ hacc') ⟨⟨_,rfl⟩,λ c o e=>?_,?_⟩⟩
    .rw[Ae (Ad e hacc)];exact(s1.trans s2) c o e
    .rw[Ln,hb',if_neg Bool.false_ne_true,List.map_append];rfl
  .rintro xs σ H' hxl hacc' ⟨_,s1,rfl⟩;exact q acc H' s1 hacc'
abbrev pns(ts:List PT):List (Addr×Rk):=ts.map λ t=>(t.2.1,t.2.2.1)
theorem N5(ts:List PT):rcs (pns ts)=(cons ts).map (·.1):=by
 show List.map _ (List.map _ ts)=List.map _ (List.map _ ts);rw[List.map_map,List.map_map];rfl
def trn:Tr->Tr
 |.whole m=>.whole m
 |.cut u k x y=>.cut (!u) k (trn x) (trn y)
theorem EM:∀{t:Tr}{w h:Int},Fit t w h->Fit (trn t) h w
 |.whole _,w,h,_=>by rw[trn,Fit];trivial
 |.cut u k x y,w,h,f=>by
  rw[Fit]at f;rw[trn,Fit];cases u with
  |true =>
   obtain⟨a,b,c,d⟩:=f;exact⟨a,b,EM c,EM d⟩
  |false =>
   obtain⟨a,b,c,d⟩:=f;exact⟨a,b,EM c,EM d⟩
theorem Hc:∀(t:Tr)(p:Rk),(A4 (trn t) (GB.Rc.sw p)).map (·.1)=((A4 t p).map (·.1)).map GB.Rc.sw
 |.whole _,p=>by rw[trn,A4,A4];rfl
 |.cut u k x y,p=>by
  rw[trn,A4,A4,List.map_append,List.map_append,List.map_append,<-Hc x,<-Hc y];cases u<;>rfl
def loQ(q:Rc)(u:Bool):Int:=if u then q.t else q.l
def hiQ(q:Rc)(u:Bool):Int:=if u then q.b else q.r
def On(d o:LD):Prop:=d.1≠o.1/\(o.2.1=d.2.2.1\/o.2.1=d.2.2.2)/\o.2.2.1<d.2.1/\d.2.1<o.2.2.2
def Na(ps:List Rc)(q:Rc):Prop:=∀r c,q.has r c->(own ps r c).has r c/\(∀r' c',(own ps r c).has r' c'->q.has r' c'/\own ps r' c'=own ps r c)
theorem N1{p:Rc}{r c r' c':Int}(h:p.has r c)(h':p.has r' c'):p.has r c':=⟨h.1,h.2.1,h'.2.2.1,h'.2.2.2⟩
theorem Q8{ps:List Rc}{q:Rc}(ow:Na ps q){r c r' c':Int}(h1:q.has r c)(h2:q.has r' c)(h3:q.has r c')(h4:q.has r' c')(e:own ps r c=own ps r' c)(n:own ps r c'≠own ps r' c'):own ps r c'≠own ps r c/\own ps r' c'≠own ps r' c:=by
 have a:=(ow r c h1).1;have b:(own ps r c).has r' c:=by rw[e];exact(ow r' c h2).1
 constructor
 .intro z;have d:(own ps r c).has r c':=by rw[<-z];exact(ow r c' h3).1
  exact n (z.trans ((ow r c h1).2 r' c' (N1 b d)).2.symm)
 .intro z;have d:(own ps r c).has r' c':=by rw[e,<-z];exact(ow r' c' h4).1
  exact n (((ow r c h1).2 r c' (N1 a d)).2.trans (e.trans z.symm))
theorem NX{ps:List Rc}{q:Rc}(ow:Na ps q){r c r' c':Int}(h1:q.has r c)(h2:q.has r c')(h3:q.has r' c)(h4:q.has r' c')(e:own ps r c=own ps r c')(n:own ps r' c≠own ps r' c'):own ps r' c≠own ps r c/\own ps r' c'≠own ps r c':=by
 have a:=(ow r c h1).1;have b:(own ps r c).has r c':=by rw[e];exact(ow r c' h2).1
 constructor
 .intro z;have d:(own ps r c).has r' c:=by rw[<-z];exact(ow r' c h3).1
  exact n (z.trans ((ow r c h1).2 r' c' (N1 d b)).2.symm)
 .intro z;have d:(own ps r c).has r' c':=by rw[e,<-z];exact(ow r' c' h4).1
  exact n (((ow r c h1).2 r' c (N1 d a)).2.trans (e.trans z.symm))
theorem Fq{ps:List Rc}{q:Rc}{r c:Int}(h1:q.t<r)(h2:r<q.b)(h3:q.l<=c)(h4:c<q.r):lvB ps q r c=true↔own ps (r-1) c≠own ps r c:=by
 rw[ME h1 h2 h3 h4];simp
theorem EU{ps:List Rc}{q:Rc}{r c:Int}(h1:q.t<=r)(h2:r<q.b)(h3:q.l<c)(h4:c<q.r):upB ps q r c=true↔own ps r (c-1)≠own ps r c:=by
 rw[Ma h1 h2 h3 h4];simp
theorem JV{ps:List Rc}{q:Rc}{r c:Int}(h1:q.t<r)(h2:r<q.b)(h3:q.l<=c)(h4:c<q.r):lvB ps q r c=false↔own ps (r-1) c=own ps r c:=by
 rw[ME h1 h2 h3 h4];simp
theorem Jt{ps:List Rc}{q:Rc}{r c:Int}(h1:q.t<=r)(h2:r<q.b)(h3:q.l<c)(h4:c<q.r):upB ps q r c=false↔own ps r (c-1)=own ps r c:=by
 rw[Ma h1 h2 h3 h4];simp
theorem P5(f g:Int->Bool)(lo:Int)(h0:∀x,x<lo->f x=false):∀(n:Nat)(x:Int),f x=true->x<lo+n->∃s,s<=x/\(f (s-1)=false\/g s=true)/\(∀y,s<=y->y<=x->f y=true)/\∀y,s<y->y<=x->g y=false
 |0,x,h,b=>by rw[h0 x (by lia)]at h;cases h
 |n+1,x,h,b=>by
  by_cases z:f (x-1)=false\/g x=true
  .exact⟨x,Int.le_refl _,z,λ y a b=>by rw[show y=x by lia];exact h,λ y a b=>by lia⟩
  .have z1:f (x-1)=true:=by
    cases e:f (x-1) with
    |false=>exact absurd (.inl e) z
    |true=>rfl
   have z2:g x=false:=by
    cases e:g x with
    |true=>exact absurd (.inr e) z
    |false=>rfl
   obtain⟨s,s1,s2,s3,s4⟩:=P5 f g lo h0 n (x-1) z1 (by lia);refine⟨s,by lia,s2,λ y a b=>?_,λ y a b=>?_⟩
   .by_cases e:y=x
    .rw[e];exact h
    .exact s3 y a (by lia)
   .by_cases e:y=x
    .rw[e];exact z2
    .exact s4 y a (by lia)
theorem P6(f g:Int->Bool)(hi:Int)(h1:∀x,hi<=x->f x=false):∀(n:Nat)(x:Int),f x=true->hi<=x+n->∃e,x<e/\(f e=false\/g e=true)/\(∀y,x<=y->y<e->f y=true)/\∀y,x<y->y<e->g y=false
 |0,x,h,b=>by rw[h1 x (by lia)]at h;cases h
 |n+1,x,h,b=>by
  by_cases z:f (x+1)=false\/g (x+1)=true
  .exact⟨x+1,by lia,z,λ y a b=>by rw[show y=x by lia];exact h,λ y a b=>by lia⟩
  .have z1:f (x+1)=true:=by
    cases e:f (x+1) with
    |false=>exact absurd (.inl e) z
    |true=>rfl
   have z2:g (x+1)=false:=by
    cases e:g (x+1) with
    |true=>exact absurd (.inr e) z
    |false=>rfl
   obtain⟨s,s1,s2,s3,s4⟩:=P6 f g hi h1 n (x+1) z1 (by lia);refine⟨s,by lia,s2,λ y a b=>?_,λ y a b=>?_⟩
   .by_cases e:y=x
    .rw[e];exact h
    .exact s3 y (by lia) b
   .by_cases e:y=x+1
    .rw[e];exact z2
    .exact s4 y (by lia) b
theorem P7{f g:Int->Bool}{lo hi:Int}(h0:∀x,x<lo->f x=false)(h1:∀x,hi<=x->f x=false){x:Int}(h:f x=true):∃s e,BZ f g s e/\s<=x/\x<e:=by
 obtain⟨s,s1,s2,s3,s4⟩:=P5 f g lo h0 (x+1-lo).toNat x h (by lia);obtain⟨e,e1,e2,e3,e4⟩:=P6 f g hi h1 (hi-x).toNat x h (by lia);refine⟨s,e,⟨⟨by lia,λ y a b=>?_,λ y a b=>?_,s2⟩,e2⟩,s1,e1⟩
 .by_cases z:y<=x
  .exact s3 y a z
  .exact e3 y (by lia) b
 .by_cases z:y<=x
  .exact s4 y a z
  .exact e4 y (by lia) b
theorem Nv{f g:Int->Bool}{lo hi:Int}(h0:∀x,x<lo->f x=false)(h1:∀x,hi<=x->f x=false){x:Int}(a:f (x-1)=true)(b:f x=true)(c:g x=false):∃s e,BZ f g s e/\s<x/\x<e:=by
 obtain⟨s,e,i,s1,e1⟩:=P7 (g:=g) h0 h1 a;refine⟨s,e,i,by lia,?_⟩;by_cases z:e=x
 .rcases i.en with y|y
  .rw[z,b]at y;cases y
  .rw[z,c]at y;cases y
 .lia
theorem SA{ps:List Rc}{q:Rc}{x y:Int}(a:upB ps q (y-1) x=true)(b:upB ps q y x=true)(c:psB ps q y x=false):∃s e,AQ ps q (true,x,s,e)/\s<y/\y<e :=
 Nv (lo:=q.t) (hi:=q.b) (λ z hz=>by
  cases h:upB ps q z x with
  |false=>rfl
  |true=>have:=C8 h;lia) (λ z hz=>by
  cases h:upB ps q z x with
  |false=>rfl
  |true=>have:=C8 h;lia) a b c
theorem Te{ps:List Rc}{q:Rc}{x y:Int}(h:psB ps q y x=true):∃s e,AQ ps q (false,y,s,e)/\s<x/\x<e:=by
 unfold psB at h;simp only[Bool.and_eq_true]at h;exact Nv (lo:=q.l) (hi:=q.r) (λ z hz=>by
  cases h:lvB ps q y z with
  |false=>rfl
  |true=>have:=BU h;lia) (λ z hz=>by
  cases h:lvB ps q y z with
  |false=>rfl
  |true=>have:=BU h;lia) h.1 h.2 rfl
theorem Bv{ps:List Rc}{q:Rc}{d:LD}(i:AQ ps q d):loQ q (!d.1)<d.2.1/\d.2.1<hiQ q (!d.1)/\loQ q d.1<=d.2.2.1/\d.2.2.1<d.2.2.2/\d.2.2.2<=hiQ q d.1:=by
 obtain⟨u,n,s,e⟩:=d;cases u with
 |false =>
  have i:BZ (λ c=>lvB ps q n c) (λ_=>false) s e:=i;have lt:=i.lt;have a:=BU (i.on s (Int.le_refl _) lt);have b:=BU (i.on (e-1) (by lia) (by lia));exact⟨a.1,a.2.1,a.2.2.1,lt,by show e<=q.r;lia⟩
 |true =>
  have i:BZ (λ r=>upB ps q r n) (λ r=>psB ps q r n) s e:=i;have lt:=i.lt;have a:=C8 (i.on s (Int.le_refl _) lt);have b:=C8 (i.on (e-1) (by lia) (by lia));exact⟨a.2.2.1,a.2.2.2,a.1,lt,by show e<=q.b;lia⟩
theorem Lh{ps:List Rc}{q:Rc}{d o:LD}(i:AQ ps q d)(j:AQ ps q o)(n:d.1≠o.1)(h1:o.2.2.1<d.2.1)(h2:d.2.1<o.2.2.2)(h3:d.2.2.1<o.2.1)(h4:o.2.1<d.2.2.2):False:=by
 have key:∀{x y s e s' e':Int},AQ ps q (false,y,s,e)->AQ ps q (true,x,s',e')->s<x->x<e->s'<y->y<e'->False:=by
  intro x y s e s' e' i j a b c d;have i:BZ (λ c=>lvB ps q y c) (λ_=>false) s e:=i;have j:BZ (λ r=>upB ps q r x) (λ r=>psB ps q r x) s' e':=j;have z:=j.no y c d;have z:(lvB ps q y (x-1)&&lvB ps q y x)=false:=z;have z1:lvB ps q y (x-1)=true:=i.on (x-1) (by lia) (by lia);have z2:lvB ps q y x=true:=i.on x (by lia) b;rw[z1,z2]at z;cases z
 obtain⟨u,m,s,e⟩:=d;obtain⟨u',m',s',e'⟩:=o;cases u<;>cases u'
 .exact n rfl
 .exact key i j h3 h4 h1 h2
 .exact key j i h1 h2 h3 h4
 .exact n rfl
theorem DK{ps:List Rc}{q:Rc}(ow:Na ps q){d:LD}(i:AQ ps q d){v:Int}(hv:v=d.2.2.1\/v=d.2.2.2)(h1:loQ q d.1<v)(h2:v<hiQ q d.1):∃o,AQ ps q o/\On d o/\o.2.1=v:=by
 have L:=Bv i;obtain⟨u,n,s,e⟩:=d;cases u with
 |false =>
  have i:BZ (λ c=>lvB ps q n c) (λ_=>false) s e:=i;have L1:q.t<n:=L.1;have L2:n<q.b:=L.2.1;have L3:q.l<=s:=L.2.2.1;have L4:s<e:=L.2.2.2.1;have L5:e<=q.r:=L.2.2.2.2;have h1:q.l<v:=h1;have h2:v<q.r:=h2;have fin:upB ps q (n-1) v=true->upB ps q n v=true->psB ps q n v=false->∃o,AQ ps q o/\On (false,n,s,e) o/\o.2.1=v:=λ a b c=>by
   obtain⟨s',e',j,p1,p2⟩:=SA a b c;exact⟨_,j,⟨(by intro z;cases z),hv,p1,p2⟩,rfl⟩
  have H:∀r c,q.t<=r->r<q.b->q.l<=c->c<q.r->q.has r c:=λ r c a b d f=>⟨a,b,d,f⟩;rcases hv with rfl|rfl
  ·-- its begin
   have o1:=(Fq L1 L2 (by lia) (by lia)).mp (i.on v (Int.le_refl _) L4);have o2:lvB ps q n (v-1)=false:=by
    rcases i.st with z|z
    .exact z
    .cases z
   have e2:=(JV L1 L2 (by lia) (by lia)).mp o2;obtain⟨z1,z2⟩:=Q8 ow (H (n-1) (v-1) (by lia) (by lia) (by lia) (by lia)) (H n (v-1) (by lia) (by lia) (by lia) (by lia)) (H (n-1) v (by lia) (by lia) (by lia) (by lia)) (H n v (by lia) (by lia) (by lia) (by lia)) e2 o1;refine fin ((EU (by lia) (by lia) h1 h2).mpr (Ne.symm z1)) ((EU (by lia) (by lia) h1 h2).mpr (Ne.symm z2)) ?_;unfold psB;rw[o2];rfl
  .have o1:=(Fq L1 L2 (by lia) (by lia)).mp (i.on (v-1) (by lia) (by lia));have o2:lvB ps q n v=false:=by
    rcases i.en with z|z
    .exact z
    .cases z
   have e2:=(JV L1 L2 (by lia) (by lia)).mp o2;obtain⟨z1,z2⟩:=Q8 ow (H (n-1) v (by lia) (by lia) (by lia) (by lia)) (H n v (by lia) (by lia) (by lia) (by lia)) (H (n-1) (v-1) (by lia) (by lia) (by lia) (by lia)) (H n (v-1) (by lia) (by lia) (by lia) (by lia)) e2 o1;refine fin ((EU (by lia) (by lia) h1 h2).mpr z1) ((EU (by lia) (by lia) h1 h2).mpr z2) ?_;unfold psB;rw[o2,Bool.and_false]
 |true =>
  have i:BZ (λ r=>upB ps q r n) (λ r=>psB ps q r n) s e:=i;have L1:q.l<n:=L.1;have L2:n<q.r:=L.2.1;have L3:q.t<=s:=L.2.2.1;have L4:s<e:=L.2.2.2.1;have L5:e<=q.b:=L.2.2.2.2;have h1:q.t<v:=h1;have h2:v<q.b:=h2;have fin:psB ps q v n=true->∃o,AQ ps q o/\On (true,n,s,e) o/\o.2.1=v:=λ a=>by
   obtain⟨s',e',j,p1,p2⟩:=Te a;exact⟨_,j,⟨(by intro z;cases z),hv,p1,p2⟩,rfl⟩
  have H:∀r c,q.t<=r->r<q.b->q.l<=c->c<q.r->q.has r c:=λ r c a b d f=>⟨a,b,d,f⟩;rcases hv with rfl|rfl
  .have o1:=(EU (by lia) (by lia) L1 L2).mp (i.on v (Int.le_refl _) L4);rcases i.st with z|z
   .have e2:=(Jt (by lia) (by lia) L1 L2).mp z;obtain⟨z1,z2⟩:=NX ow (H (v-1) (n-1) (by lia) (by lia) (by lia) (by lia)) (H (v-1) n (by lia) (by lia) (by lia) (by lia)) (H v (n-1) (by lia) (by lia) (by lia) (by lia)) (H v n (by lia) (by lia) (by lia) (by lia)) e2 o1;refine fin ?_;unfold psB;rw[(Fq h1 h2 (by lia) (by lia)).mpr (Ne.symm z1),(Fq h1 h2 (by lia) (by lia)).mpr (Ne.symm z2)];rfl
   .exact fin z
  .have o1:=(EU (by lia) (by lia) L1 L2).mp (i.on (v-1) (by lia) (by lia));rcases i.en with z|z
   .have e2:=(Jt (by lia) (by lia) L1 L2).mp z;obtain⟨z1,z2⟩:=NX ow (H v (n-1) (by lia) (by lia) (by lia) (by lia)) (H v n (by lia) (by lia) (by lia) (by lia)) (H (v-1) (n-1) (by lia) (by lia) (by lia) (by lia)) (H (v-1) n (by lia) (by lia) (by lia) (by lia)) e2 o1;refine fin ?_;unfold psB;rw[(Fq h1 h2 (by lia) (by lia)).mpr z1,(Fq h1 h2 (by lia) (by lia)).mpr z2];rfl
   .exact fin z
def Whl(ps:List Rc)(q:Rc):Prop:=∃a b c d,AQ ps q a/\AQ ps q b/\AQ ps q c/\AQ ps q d/\On a b/\On b c/\On c d/\On d a
theorem U9{a b c:Bool}(h:a≠b)(g:b≠c):a=c:=by cases a<;>cases b<;>cases c<;>first|rfl|exact absurd rfl h|exact absurd rfl g
theorem Mf{ps:List Rc}{q:Rc}(ow:Na ps q):∀(n:Nat)(a b c d:LD),AQ ps q a->AQ ps q b->AQ ps q c->AQ ps q d->On a b->On b c->On c d->a.2.2.1<d.2.1->d.2.1<a.2.2.2->(a.2.1-c.2.1).natAbs+(b.2.1-d.2.1).natAbs<=n->Whl ps q
 |0,a,b,c,d,ia,ib,ic,id',ab,bc,cd,h1,h2,m=>by
  obtain⟨_,b2,b3,b4⟩:=ab;obtain⟨_,c2,c3,c4⟩:=bc;rcases c2 with z|z<;>lia
 |n+1,a,b,c,d,ia,ib,ic,id',ab,bc,cd,h1,h2,m=>by
  have ab':=ab;have bc':=bc;have cd':=cd;obtain⟨n1,b2,b3,b4⟩:=ab;obtain⟨n2,c2,c3,c4⟩:=bc;obtain⟨n3,d2,d3,d4⟩:=cd;have eac:=U9 n1 n2;have nda:d.1≠a.1:=λ z=>n3 (eac.symm.trans z.symm);have La:=Bv ia;have Lc:=Bv ic;have ed:(!a.1)=d.1:=by
   cases h:a.1<;>cases h':d.1<;>first|rfl|exact absurd (h'.trans h.symm) nda
  have ec:(!c.1)=d.1:=by rw[<-eac];exact ed
  rw[ed]at La;rw[ec]at Lc;have Ld:=Bv id';by_cases lt:a.2.1<c.2.1
  .have e1:c.2.1=b.2.2.2:=by
    rcases c2 with z|z
    .lia
    .exact z
   have ge:a.2.1<=d.2.2.1:=by
    apply Classical.byContradiction;intro z;exact Lh ia id' (Ne.symm nda) (by lia) (by lia) h1 h2
   by_cases eq:a.2.1=d.2.2.1
   .exact⟨a,b,c,d,ia,ib,ic,id',ab',bc',cd',nda,.inl eq,h1,h2⟩
   .obtain⟨e,ie,de,ev⟩:=DK ow id' (v:=d.2.2.1) (.inl rfl) (by lia) (by lia);exact Mf ow n b c d e ib ic id' ie bc' cd' de (by lia) (by lia) (by lia)
  .have e1:c.2.1=b.2.2.1:=by
    rcases c2 with z|z
    .exact z
    .lia
   have ge:d.2.2.2<=a.2.1:=by
    apply Classical.byContradiction;intro z;exact Lh ia id' (Ne.symm nda) (by lia) (by lia) h1 h2
   by_cases eq:a.2.1=d.2.2.2
   .exact⟨a,b,c,d,ia,ib,ic,id',ab',bc',cd',nda,.inr eq,h1,h2⟩
   .obtain⟨e,ie,de,ev⟩:=DK ow id' (v:=d.2.2.2) (.inr rfl) (by lia) (by lia);exact Mf ow n b c d e ib ic id' ie bc' cd' de (by lia) (by lia) (by lia)
structure S2(ps:List Rc)(q:Rc):Prop where
 lv:∀y,q.t<y->y<q.b->∃c,q.l<=c/\c<q.r/\lvB ps q y c=false
 up:∀x,q.l<x->x<q.r->∃r,q.t<=r/\r<q.b/\upB ps q r x=false
theorem Lu{ps:List Rc}{q:Rc}(ow:Na ps q)(no:S2 ps q):∀(n:Nat)(x e:Int),AQ ps q (true,x,q.t,e)->(q.b-e).toNat<=n->Whl ps q
 |0,x,e,i,m=>by
  have L:=Bv i;have L1:q.l<x:=L.1;have L2:x<q.r:=L.2.1;have L5:e<=q.b:=L.2.2.2.2;obtain⟨r,r1,r2,r3⟩:=no.up x L1 L2;have i:BZ (λ r=>upB ps q r x) (λ r=>psB ps q r x) q.t e:=i;have z:upB ps q r x=true:=i.on r r1 (by lia);rw[z]at r3;cases r3
 |n+1,x,e,i,m=>by
  have L:=Bv i;have L1:q.l<x:=L.1;have L2:x<q.r:=L.2.1;have L4:q.t<e:=L.2.2.2.1;have L5:e<=q.b:=L.2.2.2.2;by_cases eb:e=q.b
  .obtain⟨r,r1,r2,r3⟩:=no.up x L1 L2;have i:BZ (λ r=>upB ps q r x) (λ r=>psB ps q r x) q.t e:=i;have z:upB ps q r x=true:=i.on r r1 (by lia);rw[z]at r3;cases r3
  .obtain⟨b,ib,ab,bl⟩:=DK ow i (v:=e) (.inr rfl) (show q.t<e from L4) (show e<q.b by lia);obtain⟨n1,_,b3,b4⟩:=id ab;obtain⟨ub,yb,sb,fb⟩:=b;have ub0:ub=false:=by
    cases ub with
    |false=>rfl
    |true=>exact absurd rfl n1
   subst ub0;obtain rfl:yb=e:=bl;have b3:sb<x:=b3;have b4:x<fb:=b4;have Lb:=Bv ib;have Lb3:q.l<=sb:=Lb.2.2.1;have Lb5:fb<=q.r:=Lb.2.2.2.2;obtain⟨c0,c1,c2,c3⟩:=no.lv yb L4 (by lia);have ib':BZ (λ c=>lvB ps q yb c) (λ_=>false) sb fb:=ib;obtain⟨v,hv,v1,v2⟩:∃v,(v=sb\/v=fb)/\q.l<v/\v<q.r:=by
    by_cases z1:q.l<sb
    .exact⟨sb,.inl rfl,z1,by lia⟩
    .by_cases z2:fb<q.r
     .exact⟨fb,.inr rfl,by lia,z2⟩
     .have z:lvB ps q yb c0=true:=ib'.on c0 (by lia) (by lia);rw[z]at c3;cases c3
   obtain⟨c,ic,bc,cl⟩:=DK ow ib (v:=v) hv v1 v2;obtain⟨n2,_,g3,g4⟩:=id bc;obtain⟨uc,xc,sc,fc⟩:=c;have uc0:uc=true:=by
    cases uc with
    |true=>rfl
    |false=>exact absurd rfl n2
   subst uc0;have g3:sc<yb:=g3;have g4:yb<fc:=g4;have Lc:=Bv ic;have Lc3:q.t<=sc:=Lc.2.2.1;by_cases et:sc=q.t
   .subst et;exact Lu ow no n xc fc ic (by lia)
   .obtain⟨d,id',cd,dl⟩:=DK ow ic (v:=sc) (.inl rfl) (show q.t<sc by lia) (show sc<q.b by lia);refine Mf ow _ (true,x,q.t,yb) (false,yb,sb,fb) (true,xc,sc,fc) d i ib ic id' ab bc cd ?_ ?_ (Nat.le_refl _)
    .show q.t<d.2.1;lia
    .show d.2.1<yb;lia
theorem Pg{ps:List Rc}{q:Rc}(ow:Na ps q)(no:S2 ps q)(hb:q.t<q.b)(hr:q.l<q.r)(two:∃r c,q.has r c/\own ps r c≠own ps q.t q.l):Whl ps q:=by
 have h0:q.has q.t q.l:=⟨Int.le_refl _,hb,Int.le_refl _,hr⟩;by_cases ex:∃x,q.l<x/\x<q.r/\upB ps q q.t x=true
 .obtain⟨x,x1,x2,ux⟩:=ex;obtain⟨s,e,i,s1,e1⟩:=P7 (f:=λ r=>upB ps q r x) (g:=λ r=>psB ps q r x) (lo:=q.t) (hi:=q.b) (λ z hz=>by
   cases h:upB ps q z x with
   |false=>rfl
   |true=>have:=C8 h;lia) (λ z hz=>by
   cases h:upB ps q z x with
   |false=>rfl
   |true=>have:=C8 h;lia) ux
  have L:=Bv (d:=(true,x,s,e)) i;have L3:q.t<=s:=L.2.2.1;have es:s=q.t:=by lia
  subst es;exact Lu ow no _ x e i (Nat.le_refl _)
 .exfalso;have all:∀(n:Nat),q.l+n<q.r->own ps q.t (q.l+n)=own ps q.t q.l:=by
   intro n
   induction n with
   |zero=>intro _;rw[Int.natCast_zero,Int.add_zero]
   |succ n ih =>
    intro h;have h':q.l+((n:Int)+1)<q.r:=by lia
    cases z:upB ps q q.t (q.l+(n+1)) with
    |true=>exact absurd ⟨_,by lia,h',z⟩ ex
    |false =>
     have:=(Jt (Int.le_refl _) hb (by lia) h').mp z;rw[show q.l+((n:Int)+1)-1=q.l+n by lia]at this;have e:(q.l+((n+1:Nat):Int))=q.l+((n:Int)+1):=by lia
     rw[e,<-this];exact ih (by lia)
  have all:∀c,q.l<=c->c<q.r->own ps q.t c=own ps q.t q.l:=λ c a b=>by
   have:=all (c-q.l).toNat (by lia);rw[show q.l+((c-q.l).toNat:Int)=c by lia]at this;exact this
  obtain⟨p0,pin⟩:=ow q.t q.l h0;have hasc:∀c,q.l<=c->c<q.r->(own ps q.t q.l).has q.t c:=λ c a b=>by
   have:=(ow q.t c ⟨Int.le_refl _,hb,a,b⟩).1;rw[all c a b]at this;exact this
  generalize hP:own ps q.t q.l=P at *;have Pb:P.b<=q.b:=by
   have:=(pin (P.b-1) q.l ⟨by have:=p0.2.1;have:=p0.1;lia,by lia,p0.2.2.1,p0.2.2.2⟩).1.2.1;lia
  have down:∀r c,q.t<=r->r<P.b->q.l<=c->c<q.r->P.has r c:=λ r c a b d e=>⟨by have:=p0.1;lia,b,(hasc c d e).2.2.1,(hasc c d e).2.2.2⟩;by_cases eb:P.b=q.b
  .obtain⟨r,c,hrc,ne⟩:=two;exact ne (pin r c (down r c hrc.1 (by rw[eb];exact hrc.2.1) hrc.2.2.1 hrc.2.2.2)).2
  .have p1:=p0.2.1;obtain⟨c,c1,c2,c3⟩:=no.lv P.b (by lia) (by lia);have e:=(JV (by lia) (by lia) c1 c2).mp c3;have o1:=(pin (P.b-1) c (down (P.b-1) c (by lia) (by lia) c1 c2)).2;have o2:=(ow P.b c ⟨by lia,by lia,c1,c2⟩).1;rw[<-e,o1]at o2;have:=o2.2.1;lia
theorem Pe{ps:List Rc}{q:Rc}(w:Whl ps q):2<q.r-q.l/\2<q.b-q.t:=by
 obtain⟨a,b,c,d,ia,ib,ic,id',⟨n1,a2,a3,a4⟩,⟨n2,b2,b3,b4⟩,⟨n3,c2,c3,c4⟩,n4,d2,d3,d4⟩:=w;have La:=Bv ia;have Lb:=Bv ib;have Lc:=Bv ic;have Ld:=Bv id';obtain⟨ua,xa,sa,ea⟩:=a;obtain⟨ub,xb,sb,eb⟩:=b;obtain⟨uc,xc,sc,ec⟩:=c;obtain⟨ud,xd,sd,ed⟩:=d;simp only at *;cases ua<;>cases ub<;>cases uc<;>cases ud<;>first|exact absurd rfl n1|exact absurd rfl n2|exact absurd rfl n3|exact absurd rfl n4|skip
 all_goals
  simp only[loQ,hiQ,Bool.not_true,Bool.not_false,if_true,if_false,Bool.false_eq_true]at La Lb Lc Ld
  constructor<;>lia
def Cut(w h:Int)(ps:List Rc):Prop:=∃t,Fit t w h/\ps.Perm ((A4 t ⟨0,0,h,w⟩).map (·.1))
theorem Cut.perm{w h:Int}{ps qs:List Rc}(c:Cut w h ps)(e:qs.Perm ps):Cut w h qs:=let ⟨t,f,pm⟩:=c;⟨t,f,e.trans pm⟩
theorem Cut.turn{w h:Int}{ps:List Rc}(c:Cut w h ps):Cut h w (ps.map Rc.sw):=by
 obtain⟨t,f,pm⟩:=c;refine⟨trn t,EM f,?_⟩;have:=Hc t ⟨0,0,h,w⟩;have e:GB.Rc.sw ⟨0,0,h,w⟩=⟨0,0,w,h⟩:=rfl;rw[e]at this;rw[this];exact pm.map _
theorem GR{q:Rk}{u:Bool}{k:Int}(k1:1<=k)(k2:k<q.len u):∀(t:Tr)(p:Rk),BD p t->q∈(A4 t p).map (·.1)->∃t' M,BD p t'/\((A4 t p).map (·.1)).Perm (q::M)/\((A4 t' p).map (·.1)).Perm (q.fst u k::q.oth u k::M)
 |.whole m,p,f,h=>by
  have h:=List.mem_singleton.mp h;have h:q=p:=h;subst h;refine⟨.cut u k (.whole none) (.whole none),[],fitR_cut.mpr ⟨⟨k1,k2⟩,by unfold BD;rw[Fit];trivial,by unfold BD;rw[Fit];trivial⟩,List.Perm.refl _,?_⟩;rw[A4,A4,A4];exact List.Perm.refl _
 |.cut v j x y,p,f,h=>by
  obtain⟨kk,fx,fy⟩:=fitR_cut.mp f;rw[A4,List.map_append]at h |-;rcases List.mem_append.mp h with h|h
  .obtain⟨x',M,f1,p1,p2⟩:=GR k1 k2 x _ fx h;refine⟨.cut v j x' y,M++(A4 y (p.oth v j)).map (·.1),fitR_cut.mpr ⟨kk,f1,fy⟩,p1.append_right _,?_⟩;rw[A4,List.map_append];exact p2.append_right _
  .obtain⟨y',M,f1,p1,p2⟩:=GR k1 k2 y _ fy h;refine⟨.cut v j x y',(A4 x (p.fst v j)).map (·.1)++M,fitR_cut.mpr ⟨kk,fx,f1⟩,(p1.append_left _).trans List.perm_middle,?_⟩;rw[A4,List.map_append];exact(p2.append_left _).trans (List.perm_middle.trans (List.Perm.cons _ List.perm_middle))
theorem NW{w h:Int}{ts:List (Addr×Rc)}{n:Nat}{u:Addr×Rc}{t1 t2:Addr}{v:Bool}{k:Int}(C:Cut w h (rcs ts))(hu:ts[n]?=some u)(k1:1<=k)(k2:k<Rk.len u.2 v):Cut w h (rcs (ts.take n++(t1,Rk.fst u.2 v k)::(t2,Rk.oth u.2 v k)::ts.drop (n+1))):=by
 obtain⟨hn,eu⟩:=List.getElem?_eq_some_iff.mp hu;have e0:ts=ts.take n++u::ts.drop (n+1):=by rw[<-eu,<-List.drop_eq_getElem_cons hn,List.take_append_drop]
 generalize ts.take n=As at e0;generalize ts.drop (n+1)=Bs at e0;subst e0;obtain⟨t,f,pm⟩:=C;have e1:rcs (As++u::Bs)=rcs As++u.2::rcs Bs:=by simp
 have e2:rcs (As++(t1,Rk.fst u.2 v k)::(t2,Rk.oth u.2 v k)::Bs)=rcs As++Rk.fst u.2 v k::Rk.oth u.2 v k::rcs Bs:=by simp
 rw[e1]at pm;rw[e2];obtain⟨t',M,f1,p1,p2⟩:=GR k1 k2 t ⟨0,0,h,w⟩ (ML f) (pm.mem_iff.mp (by simp));refine⟨t',?_,?_⟩
 .have f1:Fit t' (w-0) (h-0):=f1;rwa [Int.sub_zero,Int.sub_zero]at f1
 .have q1:(rcs As++rcs Bs).Perm M:=(List.perm_middle.symm.trans (pm.trans p1)).cons_inv;exact(List.perm_middle.trans (List.Perm.cons _ List.perm_middle)).trans (((q1.cons _).cons _).trans p2.symm)
theorem Sa(w h:Int):Cut w h [⟨0,0,h,w⟩]:=⟨.whole none,by rw[Fit];trivial,List.Perm.refl _⟩
def TD(qs:List Rk):Prop:=∀(v:Bool)(a:Int),(∀z∈qs,¬(z.lo v<a/\a<z.hi v))->(∀z∈qs,z.lo v<a)\/∀z∈qs,a<=z.lo v
theorem FZ{qs:List Rk}(hs:TD qs){a b:Rk}(ha:a∈qs)(hb:b∈qs)(ne:a≠b):∀(t:Tr)(p:Rk),p.ok->BD p t->(∀z∈qs,z∈(A4 t p).map (·.1))->False
 |.whole m,p,ok,f,h=>ne ((List.mem_singleton.mp (h a ha)).trans (List.mem_singleton.mp (h b hb)).symm)
 |.cut v k x y,p,ok,f,h=>by
  obtain⟨⟨k1,k2⟩,fx,fy⟩:=fitR_cut.mp f;obtain⟨o1,o2⟩:=KG (u:=v) ok k1 k2;obtain⟨i1,i2,nb⟩:=E4 ok k1 k2 fx fy;have h:∀z∈qs,∃g∈A4 x (p.fst v k)++A4 y (p.oth v k),g.1=z:=λ z hz=>by
   have:=h z hz;rw[A4]at this;exact List.mem_map.mp this
  rcases hs v (p.lo v+k) (λ z hz=>by obtain⟨g,hg,rfl⟩:=h z hz;exact nb g hg) with c|c
  .refine FZ hs ha hb ne x _ o1 fx λ z hz=>?_;obtain⟨g,hg,rfl⟩:=h z hz;exact List.mem_map.mpr ⟨g,by rw[<-i1];exact List.mem_filter.mpr ⟨hg,decide_eq_true (c _ hz)⟩,rfl⟩
  .refine FZ hs ha hb ne y _ o2 fy λ z hz=>?_;obtain⟨g,hg,rfl⟩:=h z hz;exact List.mem_map.mpr ⟨g,by rw[<-i2];exact List.mem_filter.mpr ⟨hg,decide_eq_true (c _ hz)⟩,rfl⟩
theorem OV{P:Rk->Prop}{a b c d:Rk}:(∀z∈[a,b,c,d],P z)↔P a/\P b/\P c/\P d:=by simp
theorem Uw{u:Rk}{high low near far:Int}(a1:u.t<high)(a2:high<low)(a3:low<u.b)(b1:u.l<near)(b2:near<far)(b3:far<u.r):TD (Cp u high low near far):=λ v a h=>by
 unfold Cp at h |-;rw[OV]at h;rw[OV,OV];obtain⟨h1,h2,h3,h4⟩:=h;cases v
 .have h1:¬(u.t<a/\a<low):=h1;have h3:¬(high<a/\a<u.b):=h3;show(u.t<a/\low<a/\high<a/\u.t<a)\/(a<=u.t/\a<=low/\a<=high/\a<=u.t);lia
 .have h2:¬(u.l<a/\a<far):=h2;have h4:¬(near<a/\a<u.r):=h4;show(u.l<a/\u.l<a/\far<a/\near<a)\/(a<=u.l/\a<=u.l/\a<=far/\a<=near);lia
theorem Uv{u:Rk}{high low near far:Int}(a1:u.t<high)(a2:high<low)(a3:low<u.b)(b1:u.l<near)(b2:near<far)(b3:far<u.r):TD (Co u high low near far):=λ v a h=>by
 unfold Co at h |-;rw[OV]at h;rw[OV,OV];obtain⟨h1,h2,h3,h4⟩:=h;cases v
 .have h2:¬(u.t<a/\a<low):=h2;have h4:¬(high<a/\a<u.b):=h4;show(u.t<a/\u.t<a/\low<a/\high<a)\/(a<=u.t/\a<=u.t/\a<=low/\a<=high);lia
 .have h1:¬(u.l<a/\a<far):=h1;have h3:¬(near<a/\a<u.r):=h3;show(u.l<a/\far<a/\near<a/\u.l<a)\/(a<=u.l/\a<=far/\a<=near/\a<=u.l);lia
theorem Pf{w h:Int}{A B qs:List Rk}{u:Rk}{high low near far:Int}(w1:1<=w)(h1:1<=h)(a1:u.t<high)(a2:high<low)(a3:low<u.b)(b1:u.l<near)(b2:near<far)(b3:far<u.r)
  (hq:qs=Cp u high low near far\/qs=Co u high low near far):¬Cut w h (A++(qs++[⟨high,near,low,far⟩])++B):=λ⟨t,f,pm⟩=>by
 have key:∀z∈qs,z∈(A4 t ⟨0,0,h,w⟩).map (·.1):=λ z hz=>pm.mem_iff.mp (by simp[hz]);have ok:Rk.ok ⟨0,0,h,w⟩:=⟨by show(0:Int)<h;lia,by show(0:Int)<w;lia⟩;rcases hq with rfl|rfl
 .exact FZ (Uw a1 a2 a3 b1 b2 b3) (a:=⟨u.t,u.l,low,near⟩) (b:=⟨low,u.l,u.b,far⟩) (by simp[Cp]) (by simp[Cp]) (λ e=>by have:=congrArg GB.Rc.t e;simp only[]at this;lia) t _ ok (ML f) key
 .exact FZ (Uv a1 a2 a3 b1 b2 b3) (a:=⟨u.t,u.l,high,far⟩) (b:=⟨u.t,far,low,u.r⟩) (by simp[Co]) (by simp[Co]) (λ e=>by have:=congrArg GB.Rc.l e;simp only[]at this;lia) t _ ok (ML f) key
theorem okA_iff{ps:List Rc}{p:Rk}:okA ps p=true↔∀r∈ps,Ins r p\/(r.r<=p.l\/p.r<=r.l\/r.b<=p.t\/p.b<=r.t):=by
 unfold okA;rw[List.all_eq_true];refine forall₂_congr λ r _=>?_;unfold BY GZ apR Ins;simp only[Bool.or_eq_true,Bool.and_eq_true,decide_eq_true_eq];lia
def DB(w h:Int)(ps:List Rc)(p:Rk):Prop:=p.In w h/\okA ps p=true
theorem DB.blk{w h:Int}{ps:List Rc}{p:Rk}(d:DB w h ps p):blk w h ps p=true:=by
 obtain⟨⟨a,b,c,d',e,f⟩,o⟩:=d;rw[T4 c f ⟨a,b⟩ ⟨d',e⟩];exact o
theorem DB.ok{w h:Int}{ps:List Rc}{p:Rk}(d:DB w h ps p):p.ok:=⟨d.1.2.1,d.1.2.2.2.2.1⟩
theorem DB.bd{w h:Int}{ps:List Rc}{p:Rk}(d:DB w h ps p)(w2:w<=12)(h2:h<=12):∀u,0<=p.lo u/\p.hi u<=12:=λ u=>by
 obtain⟨⟨a,b,c,d',e,f⟩,o⟩:=d;cases u
 .show 0<=p.t/\p.b<=12;lia
 .show 0<=p.l/\p.r<=12;lia
theorem DB.parts{w h:Int}{ps:List Rc}{p:Rk}(d:DB w h ps p)(hp:∀r∈ps,r.In w h){u:Bool}{k:Int}(k1:1<=k)(k2:k<p.len u)(nb:∀r∈ps,Ins r p->¬(Rk.lo r u<p.lo u+k/\p.lo u+k<Rk.hi r u)):DB w h ps (p.fst u k)/\DB w h ps (p.oth u k):=by
 obtain⟨⟨a,b,c,d',e,f⟩,o⟩:=d;have o:=okA_iff.mp o;cases u
 .have k2:k<p.b-p.t:=k2;have nb:∀r∈ps,Ins r p->¬(r.t<p.t+k/\p.t+k<r.b):=nb;refine⟨⟨⟨a,by show p.t<p.t+k;lia,by show p.t+k<=h;lia,d',e,f⟩,okA_iff.mpr λ r hr=>?_⟩,⟨⟨by show 0<=p.t+k;lia,by show p.t+k<p.b;lia,c,d',e,f⟩,okA_iff.mpr λ r hr=>?_⟩⟩
  .have i:=hp r hr;have n:=nb r hr;have q:=o r hr;unfold Ins at q n |-;unfold GB.Rc.In at i;show(p.t<=r.t/\p.l<=r.l/\r.b<=p.t+k/\r.r<=p.r)\/(r.r<=p.l\/p.r<=r.l\/r.b<=p.t\/p.t+k<=r.t);lia
  .have i:=hp r hr;have n:=nb r hr;have q:=o r hr;unfold Ins at q n |-;unfold GB.Rc.In at i;show(p.t+k<=r.t/\p.l<=r.l/\r.b<=p.b/\r.r<=p.r)\/(r.r<=p.l\/p.r<=r.l\/r.b<=p.t+k\/p.b<=r.t);lia
 .have k2:k<p.r-p.l:=k2;have nb:∀r∈ps,Ins r p->¬(r.l<p.l+k/\p.l+k<r.r):=nb;refine⟨⟨⟨a,b,c,d',by show p.l<p.l+k;lia,by show p.l+k<=w;lia⟩,okA_iff.mpr λ r hr=>?_⟩,⟨⟨a,b,c,by show 0<=p.l+k;lia,by show p.l+k<p.r;lia,f⟩,okA_iff.mpr λ r hr=>?_⟩⟩
  .have i:=hp r hr;have n:=nb r hr;have q:=o r hr;unfold Ins at q n |-;unfold GB.Rc.In at i;show(p.t<=r.t/\p.l<=r.l/\r.b<=p.b/\r.r<=p.l+k)\/(r.r<=p.l\/p.l+k<=r.l\/r.b<=p.t\/p.b<=r.t);lia
  .have i:=hp r hr;have n:=nb r hr;have q:=o r hr;unfold Ins at q n |-;unfold GB.Rc.In at i;show(p.t<=r.t/\p.l+k<=r.l/\r.b<=p.b/\r.r<=p.r)\/(r.r<=p.l+k\/p.r<=r.l\/r.b<=p.t\/p.b<=r.t);lia
theorem DB.cov{w h:Int}{ps:List Rc}{p:Rk}(T:GB.Tiles w h ps)(d:DB w h ps p){r c:Int}(hh:p.has r c):∃q∈ps,q.has r c/\Ins q p:=by
 obtain⟨⟨a,b,c',d',e,f⟩,o⟩:=d;obtain⟨h1,h2,h3,h4⟩:=hh;obtain⟨q,hq,hz⟩:=T.cov r c (by lia) (by lia) (by lia) (by lia);refine⟨q,hq,hz,?_⟩;rcases okA_iff.mp o q hq with z|z
 .exact z
 .obtain⟨z1,z2,z3,z4⟩:=hz;lia
theorem DB.owns{w h:Int}{ps:List Rc}{p:Rk}(T:GB.Tiles w h ps)(d:DB w h ps p):Na ps p:=λ r c hh=>by
 obtain⟨q,hq,hz,i⟩:=d.cov T hh;rw[Dp T.dis hq hz];refine⟨hz,λ r' c' z=>⟨?_,Dp T.dis hq z⟩⟩;obtain⟨z1,z2,z3,z4⟩:=z;unfold Ins at i;exact⟨by lia,by lia,by lia,by lia⟩
abbrev mks(ps:List Rc):List (Rk×Option Int):=ps.map λ r=>(r,none)
theorem mem_in{ps:List Rc}{p:Rk}{g:Rk×Option Int}:g∈inP (mks ps) p↔(g.1∈ps/\g.2=none)/\Ins g.1 p:=by
 unfold inP;rw[List.mem_filter,decide_eq_true_iff,List.mem_map]
 constructor
 .rintro⟨⟨r,hr,rfl⟩,i⟩;exact⟨⟨hr,rfl⟩,i⟩
 .rintro⟨⟨a,b⟩,i⟩;obtain⟨r,m⟩:=g;cases b;exact⟨⟨r,a,rfl⟩,i⟩
theorem DB.one{w h:Int}{ps:List Rc}{p:Rk}(T:GB.Tiles w h ps)(d:DB w h ps p){g:Rk×Option Int}(e:inP (mks ps) p=[g]):g=(p,none):=by
 have hp:=d.ok;have mem:∀{q:Rk},q∈ps->Ins q p->q=g.1:=λ{q} hq i=>by
  have:=(mem_in (g:=(q,none))).mpr ⟨⟨hq,rfl⟩,i⟩;rw[e]at this;rw[<-List.mem_singleton.mp this]
 have hg:=mem_in.mp (e ▸ List.mem_singleton.mpr rfl:g∈inP (mks ps) p);obtain⟨q,hq,hz,i⟩:=d.cov T (r:=p.t) (c:=p.l) ⟨Int.le_refl _,hp.1,Int.le_refl _,hp.2⟩;obtain⟨q',hq',hz',i'⟩:=d.cov T (r:=p.b-1) (c:=p.r-1) ⟨by have:=hp.1;lia,by lia,by have:=hp.2;lia,by lia⟩;rw[mem hq i]at hz;rw[mem hq' i']at hz';obtain⟨gr,gm⟩:=g;have e2:gm=none:=hg.1.2;have i:Ins gr p:=hg.2;rw[e2];obtain⟨t,l,b,r⟩:=gr;obtain⟨pt,pl,pb,pr⟩:=p;unfold Ins at i;unfold GB.Rc.has at hz hz';simp only[]at hz hz' i;have e1:pt=t:=by lia
 have e2:pl=l:=by lia
 have e3:pb=b:=by lia
 have e4:pr=r:=by lia
 rw[e1,e2,e3,e4]
theorem SG{w h:Int}{ps:List Rc}(T:GB.Tiles w h ps):ps.Nodup:=by
 refine(List.Pairwise.and_mem.mp T.dis).imp λ{a b} h e=>?_;obtain⟨_,a2,_,_,a5,_⟩:=T.ins a h.1;subst e;exact h.2.2 a.t a.l ⟨Int.le_refl _,a2,Int.le_refl _,a5⟩ ⟨Int.le_refl _,a2,Int.le_refl _,a5⟩
structure Rm(w h:Int)(ps:List Rc)(p:Rk):Prop where
 db:DB w h ps p
 no:EB ((inP (mks ps) p).map (·.1)) p=[]
 ne:(inP (mks ps) p).length≠1
theorem Rm.brk{w h:Int}{ps:List Rc}{p:Rk}(m:Rm w h ps p){u:Bool}{a:Int}(h1:p.lo u<a)(h2:a<p.hi u):∃r∈ps,Ins r p/\Rk.lo r u<a/\a<Rk.hi r u:=by
 refine Classical.byContradiction λ z=>?_;have:=(GN (rs:=(inP (mks ps) p).map (·.1)) (c:=(u,a)) m.db.ok).mpr ⟨h1,h2,λ r hr y=>by
  obtain⟨g,hg,rfl⟩:=List.mem_map.mp hr;have:=mem_in.mp hg;exact z ⟨g.1,this.1.1,this.2,y⟩⟩
 rw[m.no]at this;cases this
theorem Rm.whl{w h:Int}{ps:List Rc}{p:Rk}(T:GB.Tiles w h ps)(m:Rm w h ps p):Whl ps p:=by
 have ok:=m.db.ok;refine Pg (m.db.owns T) ⟨λ y y1 y2=>?_,λ x x1 x2=>?_⟩ ok.1 ok.2 ?_
 .obtain⟨r,hr,i,b1,b2⟩:=m.brk (u:=false) (a:=y) y1 y2;have b1:r.t<y:=b1;have b2:y<r.b:=b2;obtain⟨i1,i2,i3,i4⟩:=i;obtain⟨_,_,_,_,r5,_⟩:=T.ins r hr;refine⟨r.l,i2,by lia,(JV y1 y2 i2 (by lia)).mpr ?_⟩;rw[Dp T.dis hr (r:=y-1) (c:=r.l) ⟨by lia,by lia,Int.le_refl _,r5⟩,Dp T.dis hr (r:=y) (c:=r.l) ⟨by lia,b2,Int.le_refl _,r5⟩]
 .obtain⟨r,hr,i,b1,b2⟩:=m.brk (u:=true) (a:=x) x1 x2;have b1:r.l<x:=b1;have b2:x<r.r:=b2;obtain⟨i1,i2,i3,i4⟩:=i;obtain⟨_,r5,_,_,_,_⟩:=T.ins r hr;refine⟨r.t,i1,by lia,(Jt i1 (by lia) x1 x2).mpr ?_⟩;rw[Dp T.dis hr (r:=r.t) (c:=x-1) ⟨Int.le_refl _,r5,by lia,by lia⟩,Dp T.dis hr (r:=r.t) (c:=x) ⟨Int.le_refl _,r5,by lia,b2⟩]
 .refine Classical.byContradiction λ z=>m.ne ?_;obtain⟨q,hq,hz,iq⟩:=m.db.cov T (r:=p.t) (c:=p.l) ⟨Int.le_refl _,ok.1,Int.le_refl _,ok.2⟩;have oq:=Dp T.dis hq hz;have all:∀g∈inP (mks ps) p,g=(q,none):=λ g hg=>by
   obtain⟨⟨g1,g2⟩,gi⟩:=mem_in.mp hg;obtain⟨_,a2,_,_,a5,_⟩:=T.ins g.1 g1;obtain⟨i1,i2,i3,i4⟩:=gi;have e:=Dp T.dis g1 (r:=g.1.t) (c:=g.1.l) ⟨Int.le_refl _,a2,Int.le_refl _,a5⟩;have:own ps g.1.t g.1.l=own ps p.t p.l:=Classical.byContradiction λ y=>z ⟨g.1.t,g.1.l,⟨i1,by lia,i2,by lia⟩,y⟩;rw[e,oq]at this;obtain⟨gr,gm⟩:=g;cases g2;exact Prod.ext this rfl
  have nd:(inP (mks ps) p).Nodup:=List.Nodup.sublist List.filter_sublist ((SG T).map _ λ a b ne e=>ne (congrArg Prod.fst e));have mem:(q,none)∈inP (mks ps) p:=mem_in.mpr ⟨⟨hq,rfl⟩,iq⟩;generalize inP (mks ps) p=L at all nd mem
  match L,all,nd,mem with
  |[_],_,_,_=>rfl
  |a::b::r,all,nd,_ =>
   have e1:=all a (by simp);have e2:=all b (by simp);rw[e1,e2]at nd;exact absurd (List.mem_cons_self) (List.nodup_cons.mp nd).1
def JQ:Tr->Prop
 |.whole m=>m=none
 |.cut _ _ x y=>JQ x/\JQ y
def thG(p:Rk):List (Bool×Int)->En
 |c::_=>.c c.1 (c.2-p.lo c.1)
 |[]=>.w (some 0)
def enG(L:List (Rk×Option Int))(p:Rk):En:=if L.length=1 then .w none else thG p (EB (L.map (·.1)) p)
theorem Sw{α:Type}{f g:α->Bool}:∀{l:List α},(∀x∈l,g x=!f x)->(l.filter f++l.filter g).Perm l
 |[],_=>List.Perm.refl _
 |x::r,h=>by
  have ih:=Sw (l:=r) λ y hy=>h y (List.mem_cons_of_mem _ hy);have hx:=h x List.mem_cons_self;rw[List.filter_cons,List.filter_cons,hx];cases f x
  .exact List.perm_middle.trans (ih.cons _)
  .exact ih.cons _
theorem OM{w h:Int}{ps:List Rc}(T:GB.Tiles w h ps)(w2:w<=12)(h2:h<=12):∀(n:Nat)(p:Rk),(p.len true+p.len false).toNat=n->DB w h ps p->∃F,Pd (λ p=>enG (inP (mks ps) p) p) (DB w h ps) F p/\BD p F/\(JQ F->(A4 F p).Perm (inP (mks ps) p))/\((∃t,BD p t/\((inP (mks ps) p).map (·.1)).Perm ((A4 t p).map (·.1)))->JQ F):=by
 intro n
 induction n using Nat.strongRecOn with
 |ind n ih =>
  intro p hn db;have ok:=db.ok;by_cases h1:(inP (mks ps) p).length=1
  .obtain⟨g,hg⟩:=List.length_eq_one_iff.mp h1;have e:=db.one T hg;refine⟨.whole none,⟨db,by show enG _ _=_;unfold enG;rw[if_pos h1]⟩,(by unfold BD;rw[Fit];trivial),λ_=>by rw[hg,e,A4],λ_=>rfl⟩
  .cases hc:EB ((inP (mks ps) p).map (·.1)) p with
   |nil =>
    refine⟨.whole (some 0),⟨db,by show enG _ _=_;unfold enG;rw[if_neg h1,hc];rfl⟩,(by unfold BD;rw[Fit];trivial),(λ z=>nomatch z),?_⟩;rintro⟨t,ft,pm⟩;have l:=pm.length_eq;rw[List.length_map,List.length_map,DO]at l;cases t with
    |whole m=>exact absurd l h1
    |cut u0 k0 x0 y0 =>
     obtain⟨⟨k1,k2⟩,fx,fy⟩:=fitR_cut.mp ft;obtain⟨_,_,nb⟩:=E4 ok k1 k2 fx fy;rw[Dm]at k2;have m:=(GN (rs:=(inP (mks ps) p).map (·.1)) (c:=(u0,p.lo u0+k0)) ok).mpr ⟨by show p.lo u0<p.lo u0+k0;lia,by show p.lo u0+k0<p.hi u0;lia,λ r hr z=>by
      have:=pm.mem_iff.mp hr;rw[A4]at this;obtain⟨g,hg,rfl⟩:=List.mem_map.mp this;exact nb g hg z⟩
     rw[hc]at m;cases m
   |cons c rest =>
    obtain⟨u,a⟩:=c;obtain⟨a1,a2,nb⟩:=(GN ok).mp (hc ▸ List.mem_cons_self:(u,a)∈EB ((inP (mks ps) p).map (·.1)) p);have a1:p.lo u<a:=a1;have a2:a<p.hi u:=a2;obtain⟨k,rfl⟩:∃k,a=p.lo u+k:=⟨a-p.lo u,by lia⟩;have k1:1<=k:=by lia
    have k2:k<p.len u:=by rw[Dm];lia
    have nb':∀g∈inP (mks ps) p,¬brk u (p.lo u+k) g:=λ g hg z=>nb g.1 (List.mem_map.mpr ⟨g,hg,rfl⟩) z;have hL:∀g∈mks ps,∀v,g.1.lo v<g.1.hi v:=λ g hg v=>by
     obtain⟨r,hr,rfl⟩:=List.mem_map.mp hg;obtain⟨_,a2,_,_,a5,_⟩:=T.ins r hr;cases v
     .exact a2
     .exact a5
    obtain⟨l1,l2,lt1,lt2⟩:=Uc (u:=u) (a:=k) (db.bd w2 h2) k1 k2;obtain⟨i1,i2⟩:=Ql hL k1 k2 nb';obtain⟨d1,d2⟩:=db.parts T.ins k1 k2 λ r hr i z=>nb' (r,none) (mem_in.mpr ⟨⟨hr,rfl⟩,i⟩) z;have pos1:0<=(p.fst u k).len true+(p.fst u k).len false:=by
     have:=Ev d1.ok true;have:=Ev d1.ok false;rw[Dm,Dm];lia
    have pos2:0<=(p.oth u k).len true+(p.oth u k).len false:=by
     have:=Ev d2.ok true;have:=Ev d2.ok false;rw[Dm,Dm];lia
    obtain⟨X,gx,fx,px,tx⟩:=ih _ (by lia) (p.fst u k) rfl d1;obtain⟨Y,gy,fy,py,ty⟩:=ih _ (by lia) (p.oth u k) rfl d2;refine⟨.cut u k X Y,⟨db,?_,gx,gy⟩,fitR_cut.mpr ⟨⟨k1,k2⟩,fx,fy⟩,λ z=>?_,λ⟨t,ft,pm⟩=>?_⟩
    .show enG (inP (mks ps) p) p=_;unfold enG;rw[if_neg h1,hc];show En.c u (p.lo u+k-p.lo u)=_;rw[show p.lo u+k-p.lo u=k by lia]
    .rw[A4];refine((px z.1).append (py z.2)).trans ?_;rw[i1,i2];exact Sw λ g _=>by rw[Bool.eq_iff_iff,Bool.not_eq_true',decide_eq_true_iff,decide_eq_false_iff_not];lia
    .obtain⟨M,q1,q2⟩:∃M:List (Rk×Option Int),M.map (·.1)=(inP (mks ps) p).map (·.1)/\M.Perm (A4 t p):=by
      obtain⟨zs,p1,e1⟩:=PK (f:=λ g:Rk×Option Int=>g.1) pm (A4 t p) rfl;exact⟨zs,e1.symm,p1⟩
     obtain⟨th,fa,fb,r1,r2⟩:=O6 ok ft q2 k1 k2 (λ g hg z=>nb g.1 (by rw[<-q1];exact List.mem_map.mpr ⟨g,hg,rfl⟩) z);have tr:∀f:Rk->Bool,(M.filter λ g=>f g.1).map (·.1)=((inP (mks ps) p).filter λ g=>f g.1).map (·.1):=λ f=>by
      have e1:(M.filter λ g=>f g.1).map (·.1)=(M.map (·.1)).filter f:=by rw[List.filter_map];rfl
      have e2:((inP (mks ps) p).filter λ g=>f g.1).map (·.1)=((inP (mks ps) p).map (·.1)).filter f:=by rw[List.filter_map];rfl
      rw[e1,e2,q1]
     refine⟨tx ⟨_,fa,?_⟩,ty ⟨_,fb,?_⟩⟩
     .rw[i1,<-tr λ r=>decide (r.lo u<p.lo u+k)];exact r1.map _
     .rw[i2,<-tr λ r=>decide (p.lo u+k<=r.lo u)];exact r2.map _
structure TC(w h:Int)(ps:List Rc):Prop extends GB.Tiles w h ps where
 cut:Cut w h ps
theorem UR{w h:Int}{ts:List (Addr×Rc)}{n:Nat}{u:Addr×Rc}{t1 t2:Addr}{m:Int}(T:TC w h (rcs ts))(hu:ts[n]?=some u)(b:u.2.t<u.2.b)(r2:u.2.l<m)(r3:m<u.2.r):TC w h (rcs (ts.take n++(t1,⟨u.2.t,u.2.l,u.2.b,m⟩)::(t2,⟨u.2.t,m,u.2.b,u.2.r⟩)::ts.drop (n+1))) :=
 ⟨Ni T.toTiles hu (Rj b r2 r3),by
  have:=NW (t1:=t1) (t2:=t2) (v:=true) (k:=m-u.2.l) T.cut hu (by lia) (by show m-u.2.l<u.2.r-u.2.l;lia);have e1:Rk.fst u.2 true (m-u.2.l)=⟨u.2.t,u.2.l,u.2.b,m⟩:=by show(⟨_,_,_,u.2.l+(m-u.2.l)⟩:GB.Rc)=_;rw[show u.2.l+(m-u.2.l)=m by lia]
  have e2:Rk.oth u.2 true (m-u.2.l)=⟨u.2.t,m,u.2.b,u.2.r⟩:=by show(⟨_,u.2.l+(m-u.2.l),_,_⟩:GB.Rc)=_;rw[show u.2.l+(m-u.2.l)=m by lia]
  rwa [e1,e2]at this⟩
theorem US{w h:Int}{ts:List (Addr×Rc)}{n:Nat}{u:Addr×Rc}{t1 t2:Addr}{m:Int}(T:TC w h (rcs ts))(hu:ts[n]?=some u)(b:u.2.l<u.2.r)(r2:u.2.t<m)(r3:m<u.2.b):TC w h (rcs (ts.take n++(t1,⟨u.2.t,u.2.l,m,u.2.r⟩)::(t2,⟨m,u.2.l,u.2.b,u.2.r⟩)::ts.drop (n+1))) :=
 ⟨Ni T.toTiles hu (Rl b r2 r3),by
  have:=NW (t1:=t1) (t2:=t2) (v:=false) (k:=m-u.2.t) T.cut hu (by lia) (by show m-u.2.t<u.2.b-u.2.t;lia);have e1:Rk.fst u.2 false (m-u.2.t)=⟨u.2.t,u.2.l,m,u.2.r⟩:=by show(⟨_,_,u.2.t+(m-u.2.t),_⟩:GB.Rc)=_;rw[show u.2.t+(m-u.2.t)=m by lia]
  have e2:Rk.oth u.2 false (m-u.2.t)=⟨m,u.2.l,u.2.b,u.2.r⟩:=by show(⟨u.2.t+(m-u.2.t),_,_,_⟩:GB.Rc)=_;rw[show u.2.t+(m-u.2.t)=m by lia]
  rwa [e1,e2]at this⟩
inductive LU(K:Frag)(vs:LUz)(H:Hp)(Q:VK)(E:XK):Prop
 |mk (a:Addr) (ns:List Int) (k w h m:Int) (h0:vs=[.ref a,.int k,.int w,.int h,.int m]) (h1:SqL K H a (ns.map V.int)) (h2:0<=k) (h3:k<=10) (h4:(1<=w/\w<=12)) (h5:(1<=h/\h<=12)) (h6:0<=m) (h7:m<=50) (h8:∀(l:Addr)(ts:List (Addr×Rc))(H':Hp),Same H H'->H' l=some (.lst (Ao ts))->At H' ts->TC w h (rcs ts)->ts.length<=m.toNat+1->Q (.ref l) H'):LU K vs H Q E
def No(K:Frag) :Sp:=λ vs H Q E=>LU K vs H Q E
abbrev Ky:LSz:=["_law_script","_law_k","_law_width","_law_height","_law_many","_law_panes","_law_k_more","_law_purse_here","_law_at","_law_top","_law_left","_law_bottom","_law_right_here","_law_line"]
theorem Kq:Ak Ky ["_law_script","_law_k","_law_width","_law_height","_law_many"] (Ai AW):=fsc
theorem HN{f:Addr}{fd:FuncData}(F:Fun K "_law_cut_up" "_law_cut_up" AW f fd)(T:Txt mg tk)(D__law_purse:Ay P w K mg base 1 "_law_purse" ["_law_script","_law_k"] (Gv K))(D__law_take:Ay P w K mg base 1 "_law_take" ["_law_purse_here","_law_many"] FX):A5 P w K mg base CX0 2 f fd ["_law_script","_law_k","_law_width","_law_height","_law_many"] (No K):=by
 have S:=Kq;refine F.ok S (λ vs H Q E h=>?_) (λ cdv A outer s H vs Q E hr h=>?_)
 .obtain⟨a,ns,k,w,h,m,rfl,_⟩:=h;rfl
 .obtain⟨a,ns,k,ww,hh,m,rfl,hS,k0,k1,gw,gh,m0,m1,q⟩:=h;obtain⟨tu,hup,fin_u⟩:∃rd,PSs (B8 CX0 P w K mg base Ky "_law_cut_up" (Ai AW) f cdv A outer s H E).nox (Qm (nth (NP (nth (AE AW) 1)) 3)) rd /\
    ∀(D:CN)(lp p:Addr)(ts:List (Addr×Rc))(u:Addr×Rc)(at' z:Int)(x6 x13:Option V)(H3:Hp),H3 p=some (.lst [.int z])->H3 lp=some (.lst (Ao ts))->At H3 ts->TC ww hh (rcs ts)->ts.length<=51->0<=at'->at'<(Ao ts).length->ts[at'.toNat]?=some u->u.2.r-u.2.l>1 ->
     (∀(lp':Addr)(ts':List (Addr×Rc))(ln:Int)(H5:Hp),SameX p H3 H5->H5 lp'=some (.lst (Ao ts'))->At H5 ts'->TC ww hh (rcs ts')->ts'.length<=ts.length+1->D.nx [some (.ref a),some (.int k),some (.int ww),some (.int hh),some (.int m),some (.ref lp'),x6,some (.ref p),some (.int at'),some (.int u.2.t),some (.int u.2.l),some (.int u.2.b),some (.int u.2.r),some (.int ln)] H5) ->
     rd D [some (.ref a),some (.int k),some (.int ww),some (.int hh),some (.int m),some (.ref lp),x6,some (.ref p),some (.int at'),some (.int u.2.t),some (.int u.2.l),some (.int u.2.b),some (.int u.2.r),x13] H3:=by
   refine⟨_,(Af (Aq (i:=13) S.nd rfl (Or.inl rfl) (Ar AC (Ar AC (pv 10) Ag) (Au D__law_take hr (Aa (pv 7) (Aa (Ar AM (Ar AM (pv 12) (pv 10)) Ag) Ac)))))
   (Ah (Aq (i:=5) S.nd rfl (Or.inl rfl) (Ar CM (Ar CM (BK Cv (pv 5) C0 (Cz (pv 8))) (AO (Aa (Az (Aa (pv 9) (Aa (pv 10) (Aa (pv 11) (Aa (pv 13) Ac))))) (Aa (Az (Aa (pv 9) (Aa (pv 13) (Aa (pv 11) (Aa (pv 12) Ac))))) Ac)))) (BK Cv (pv 5) (Cz (Ar AC (pv 8) Ag)) C0))))),?_⟩
   intro D lp p ts u at' z x6 x13 H3 ep hl hat til few at0' at1' hu' hc nx;obtain⟨b1,b2,b3,b4,b5,b6⟩:=til.ins u.2 (List.mem_map.mpr ⟨u,List.mem_of_getElem? hu',rfl⟩);have fl:ts.length=(Ao ts).length:=(List.length_map _).symm;refine⟨_,rfl,_,_,rfl,rfl,_,rfl,_,rfl,_,rfl,_,_,rfl,rfl,_,_,rfl,rfl,p,z,u.2.r-u.2.l-1,rfl,ep,by lia,by lia,λ ln z' r0 r1=>?_⟩;have sx1:SameX p H3 (upd H3 p (.lst [.int z'])):=SameX.upd;have hl4:=sx1 _ _ (CL ep hl) hl;have hat4:=hat.sx ep sx1;generalize upd H3 p (.lst [.int z'])=H4 at sx1 hl4 hat4 |-;have r2:u.2.l<u.2.l+1+ln:=by lia
   have r3:u.2.l+1+ln<u.2.r:=by lia
   refine Cy (i:=u.2.l+1) (j:=ln) ?_;generalize u.2.l+1+ln=mid at r2 r3 |-;refine⟨_,rfl,_,rfl,_,rfl,lp,_,rfl,SqL.of hl4,λ c1 n1=>?_⟩;rw[Kg at0' at1'];have sa:=Same.new (o:=.lst ((Ao ts).take at'.toNat)) n1;have ea:(upd H4 c1 (.lst ((Ao ts).take at'.toNat))) c1=_:=Ab;generalize upd H4 c1 (.lst ((Ao ts).take at'.toNat))=H5 at sa ea |-;refine⟨_,rfl,_,rfl,_,rfl,_,rfl,Av 4,λ t1 m1=>?_⟩;have sb:=Same.new (o:=.tup (A8 u.2.t u.2.l u.2.b mid)) m1;have eb:(upd H5 t1 (.tup (A8 u.2.t u.2.l u.2.b mid))) t1=_:=Ab;generalize upd H5 t1 (.tup (A8 u.2.t u.2.l u.2.b mid))=H6 at sb eb |-;refine⟨_,rfl,_,rfl,_,rfl,_,rfl,Av 4,λ t2 m2=>?_⟩;have sc:=Same.new (o:=.tup (A8 u.2.t mid u.2.b u.2.r)) m2;have ec:(upd H6 t2 (.tup (A8 u.2.t mid u.2.b u.2.r))) t2=_:=Ab;generalize upd H6 t2 (.tup (A8 u.2.t mid u.2.b u.2.r))=H7 at sc ec |-;refine⟨Av 2,λ l2 m3=>?_⟩;have sd:=Same.new (o:=.lst [.ref t1,.ref t2]) m3;have ed:(upd H7 l2 (.lst [.ref t1,.ref t2])) l2=_:=Ab;generalize upd H7 l2 (.lst [.ref t1,.ref t2])=H8 at sd ed |-;refine⟨c1,l2,_,_,rfl,rfl,(sb.trans (sc.trans sd)) _ _ ea,ed,Nat.le_of_lt (Am (by rw[List.length_take];show _+2<=_;lia)),λ c2 m4=>?_⟩;have se:=Same.new (o:=.lst ((Ao ts).take at'.toNat++[.ref t1,.ref t2])) m4;have ee:(upd H8 c2 (.lst ((Ao ts).take at'.toNat++[.ref t1,.ref t2]))) c2=_:=Ab;generalize upd H8 c2 (.lst ((Ao ts).take at'.toNat++[.ref t1,.ref t2]))=H9 at se ee |-;have s49:=sa.trans (sb.trans (sc.trans (sd.trans se)));refine⟨_,rfl,_,rfl,_,_,rfl,rfl,_,rfl,lp,_,rfl,SqL.of (s49 _ _ hl4),λ c3 m5=>?_⟩;rw[MP at0' at1'];have sf:=Same.new (o:=.lst ((Ao ts).drop (at'.toNat+1))) m5;have ef:(upd H9 c3 (.lst ((Ao ts).drop (at'.toNat+1)))) c3=_:=Ab;generalize upd H9 c3 (.lst ((Ao ts).drop (at'.toNat+1)))=HA at sf ef |-;refine⟨c2,c3,_,_,rfl,rfl,sf _ _ ee,ef,Nat.le_of_lt (Am (by rw[List.length_append,List.length_take,List.length_drop];show _+2+_<=_;lia)),λ c4 m6=>?_⟩;have sg:=Same.new (o:=.lst ((Ao ts).take at'.toNat++[.ref t1,.ref t2]++(Ao ts).drop (at'.toNat+1))) m6;have s4B:=s49.trans (sf.trans sg);have sbB:=sc.trans (sd.trans (se.trans (sf.trans sg)));have scB:=sd.trans (se.trans (sf.trans sg));refine nx c4 (ts.take at'.toNat++(t1,⟨u.2.t,u.2.l,u.2.b,mid⟩)::(t2,⟨u.2.t,mid,u.2.b,u.2.r⟩)::ts.drop (at'.toNat+1)) mid _ (sx1.trans (SameX.of s4B)) (by rw[Ab,L8 ts at'.toNat t1 t2 ⟨u.2.t,u.2.l,u.2.b,mid⟩ ⟨u.2.t,mid,u.2.b,u.2.r⟩]) (QH hat4 s4B (sbB _ _ eb) (scB _ _ ec)) (UR til hu' b2 r2 r3) ?_;rw[List.length_append,List.length_cons,List.length_cons,List.length_take,List.length_drop];lia
  obtain⟨tv,hlv,fin_v⟩:∃rd,PSs (B8 CX0 P w K mg base Ky "_law_cut_up" (Ai AW) f cdv A outer s H E).nox (Qm (nth (Tq (nth (NP (nth (AE AW) 1)) 3)) 0)) rd /\
    ∀(D:CN)(lp p:Addr)(ts:List (Addr×Rc))(u:Addr×Rc)(at' z:Int)(x6 x13:Option V)(H3:Hp),H3 p=some (.lst [.int z])->H3 lp=some (.lst (Ao ts))->At H3 ts->TC ww hh (rcs ts)->ts.length<=51->0<=at'->at'<(Ao ts).length->ts[at'.toNat]?=some u->u.2.b-u.2.t>1 ->
     (∀(lp':Addr)(ts':List (Addr×Rc))(ln:Int)(H5:Hp),SameX p H3 H5->H5 lp'=some (.lst (Ao ts'))->At H5 ts'->TC ww hh (rcs ts')->ts'.length<=ts.length+1->D.nx [some (.ref a),some (.int k),some (.int ww),some (.int hh),some (.int m),some (.ref lp'),x6,some (.ref p),some (.int at'),some (.int u.2.t),some (.int u.2.l),some (.int u.2.b),some (.int u.2.r),some (.int ln)] H5) ->
     rd D [some (.ref a),some (.int k),some (.int ww),some (.int hh),some (.int m),some (.ref lp),x6,some (.ref p),some (.int at'),some (.int u.2.t),some (.int u.2.l),some (.int u.2.b),some (.int u.2.r),x13] H3:=by
   refine⟨_,(Af (Aq (i:=13) S.nd rfl (Or.inl rfl) (Ar AC (Ar AC (pv 9) Ag) (Au D__law_take hr (Aa (pv 7) (Aa (Ar AM (Ar AM (pv 11) (pv 9)) Ag) Ac)))))
   (Ah (Aq (i:=5) S.nd rfl (Or.inl rfl) (Ar CM (Ar CM (BK Cv (pv 5) C0 (Cz (pv 8))) (AO (Aa (Az (Aa (pv 9) (Aa (pv 10) (Aa (pv 13) (Aa (pv 12) Ac))))) (Aa (Az (Aa (pv 13) (Aa (pv 10) (Aa (pv 11) (Aa (pv 12) Ac))))) Ac)))) (BK Cv (pv 5) (Cz (Ar AC (pv 8) Ag)) C0))))),?_⟩
   intro D lp p ts u at' z x6 x13 H3 ep hl hat til few at0' at1' hu' hc nx;obtain⟨b1,b2,b3,b4,b5,b6⟩:=til.ins u.2 (List.mem_map.mpr ⟨u,List.mem_of_getElem? hu',rfl⟩);have fl:ts.length=(Ao ts).length:=(List.length_map _).symm;refine⟨_,rfl,_,_,rfl,rfl,_,rfl,_,rfl,_,rfl,_,_,rfl,rfl,_,_,rfl,rfl,p,z,u.2.b-u.2.t-1,rfl,ep,by lia,by lia,λ ln z' r0 r1=>?_⟩;have sx1:SameX p H3 (upd H3 p (.lst [.int z'])):=SameX.upd;have hl4:=sx1 _ _ (CL ep hl) hl;have hat4:=hat.sx ep sx1;generalize upd H3 p (.lst [.int z'])=H4 at sx1 hl4 hat4 |-;have r2:u.2.t<u.2.t+1+ln:=by lia
   have r3:u.2.t+1+ln<u.2.b:=by lia
   refine Cy (i:=u.2.t+1) (j:=ln) ?_;generalize u.2.t+1+ln=mid at r2 r3 |-;refine⟨_,rfl,_,rfl,_,rfl,lp,_,rfl,SqL.of hl4,λ c1 n1=>?_⟩;rw[Kg at0' at1'];have sa:=Same.new (o:=.lst ((Ao ts).take at'.toNat)) n1;have ea:(upd H4 c1 (.lst ((Ao ts).take at'.toNat))) c1=_:=Ab;generalize upd H4 c1 (.lst ((Ao ts).take at'.toNat))=H5 at sa ea |-;refine⟨_,rfl,_,rfl,_,rfl,_,rfl,Av 4,λ t1 m1=>?_⟩;have sb:=Same.new (o:=.tup (A8 u.2.t u.2.l mid u.2.r)) m1;have eb:(upd H5 t1 (.tup (A8 u.2.t u.2.l mid u.2.r))) t1=_:=Ab;generalize upd H5 t1 (.tup (A8 u.2.t u.2.l mid u.2.r))=H6 at sb eb |-;refine⟨_,rfl,_,rfl,_,rfl,_,rfl,Av 4,λ t2 m2=>?_⟩;have sc:=Same.new (o:=.tup (A8 mid u.2.l u.2.b u.2.r)) m2;have ec:(upd H6 t2 (.tup (A8 mid u.2.l u.2.b u.2.r))) t2=_:=Ab;generalize upd H6 t2 (.tup (A8 mid u.2.l u.2.b u.2.r))=H7 at sc ec |-;refine⟨Av 2,λ l2 m3=>?_⟩;have sd:=Same.new (o:=.lst [.ref t1,.ref t2]) m3;have ed:(upd H7 l2 (.lst [.ref t1,.ref t2])) l2=_:=Ab;generalize upd H7 l2 (.lst [.ref t1,.ref t2])=H8 at sd ed |-;refine⟨c1,l2,_,_,rfl,rfl,(sb.trans (sc.trans sd)) _ _ ea,ed,Nat.le_of_lt (Am (by rw[List.length_take];show _+2<=_;lia)),λ c2 m4=>?_⟩;have se:=Same.new (o:=.lst ((Ao ts).take at'.toNat++[.ref t1,.ref t2])) m4;have ee:(upd H8 c2 (.lst ((Ao ts).take at'.toNat++[.ref t1,.ref t2]))) c2=_:=Ab;generalize upd H8 c2 (.lst ((Ao ts).take at'.toNat++[.ref t1,.ref t2]))=H9 at se ee |-;have s49:=sa.trans (sb.trans (sc.trans (sd.trans se)));refine⟨_,rfl,_,rfl,_,_,rfl,rfl,_,rfl,lp,_,rfl,SqL.of (s49 _ _ hl4),λ c3 m5=>?_⟩;rw[MP at0' at1'];have sf:=Same.new (o:=.lst ((Ao ts).drop (at'.toNat+1))) m5;have ef:(upd H9 c3 (.lst ((Ao ts).drop (at'.toNat+1)))) c3=_:=Ab;generalize upd H9 c3 (.lst ((Ao ts).drop (at'.toNat+1)))=HA at sf ef |-;refine⟨c2,c3,_,_,rfl,rfl,sf _ _ ee,ef,Nat.le_of_lt (Am (by rw[List.length_append,List.length_take,List.length_drop];show _+2+_<=_;lia)),λ c4 m6=>?_⟩;have sg:=Same.new (o:=.lst ((Ao ts).take at'.toNat++[.ref t1,.ref t2]++(Ao ts).drop (at'.toNat+1))) m6;have s4B:=s49.trans (sf.trans sg);have sbB:=sc.trans (sd.trans (se.trans (sf.trans sg)));have scB:=sd.trans (se.trans (sf.trans sg));refine nx c4 (ts.take at'.toNat++(t1,⟨u.2.t,u.2.l,mid,u.2.r⟩)::(t2,⟨mid,u.2.l,u.2.b,u.2.r⟩)::ts.drop (at'.toNat+1)) mid _ (sx1.trans (SameX.of s4B)) (by rw[Ab,L8 ts at'.toNat t1 t2 ⟨u.2.t,u.2.l,mid,u.2.r⟩ ⟨mid,u.2.l,u.2.b,u.2.r⟩]) (QH hat4 s4B (sbB _ _ eb) (scB _ _ ec)) (US til hu' b5 r2 r3) ?_;rw[List.length_append,List.length_cons,List.length_cons,List.length_take,List.length_drop];lia
  refine⟨_,(Af (Aq (i:=5) S.nd rfl (Or.inl rfl) (AO (Aa (Az (Aa Ag (Aa Ag (Aa (pv 3) (Aa (pv 2) Ac))))) Ac)))
   (Af (AX PassesOwn.never rfl (DV rfl T.z_range (Aa (pv 4) Ac)) (Aj (i:=6) S.nd rfl (Or.inl rfl)) (Af (Aq (i:=7) S.nd rfl (Or.inl rfl) (Au D__law_purse hr (Aa (pv 0) (Aa (Ar AC (pv 1) (pv 6)) Ac))))
   (Af (Aq (i:=8) S.nd rfl (Or.inl rfl) (Au D__law_take hr (Aa (pv 7) (Aa (A0 AA rfl T.z_len rfl (Aa (pv 5) Ac)) Ac))))
   (Af (G2 (An Bd (pv 5) (pv 8) (λ_ _=>rfl)) (BS rfl (Ax (Aj (i:=9) S.nd rfl (Or.inl rfl)) (Ax (Aj (i:=10) S.nd rfl (Or.inl rfl)) (Ax (Aj (i:=11) S.nd rfl (Or.inl rfl)) (Ax (Aj (i:=12) S.nd rfl (Or.inl rfl)) Bj))))))
   (Ah (AL (PW.pt (Mv (A9 F8 (Ar AM (pv 12) (pv 10)) Ag (A3 _)) (N3 (PW.pt (ID (A9 DH (Ar AM (pv 11) (pv 9)) Ag (A3 _)) (Fg (A9 Cl (Au D__law_take hr (Aa (pv 7) (Aa Ag Ac))) Ag (A3 _)))))))) hup (Ah (AL (A9 F8 (Ar AM (pv 11) (pv 9)) Ag (A3 _)) hlv A6))))))))
   (Ah (Ap (pv 5))))),?_⟩
  refine⟨_,rfl,_,rfl,Av 4,λ t0 ht0=>⟨Av 1,λ l0 hl0=>?_⟩⟩;have sA:=Same.new (o:=.tup (A8 0 0 hh ww)) ht0;have eA:(upd H t0 (.tup (A8 0 0 hh ww))) t0=some (.tup (A8 0 0 hh ww)):=Ab;generalize upd H t0 (.tup (A8 0 0 hh ww))=H1 at sA eA hl0 |-;have sB:=Same.new (o:=.lst [.ref t0]) hl0;have eB:(upd H1 l0 (.lst [.ref t0])) l0=some (.lst [.ref t0]):=Ab;generalize upd H1 l0 (.lst [.ref t0])=H2 at sB eB |-;refine⟨_,rfl,m,rfl,by lia,by lia,BH (lo:=0) (n:=m.toNat) (λ i σ H'=>∃(lp:Addr)(ts:List (Addr×Rc))(x6 x7 x8 x9 x10 x11 x12 x13:Option V),σ=[some (.ref a),some (.int k),some (.int ww),some (.int hh),some (.int m),some (.ref lp),x6,x7,x8,x9,x10,x11,x12,x13]/\Same H H'/\H' lp=some (.lst (Ao ts))/\At H' ts/\TC ww hh (rcs ts)/\ts.length<=i+1)
   ⟨l0,[(t0,⟨0,0,hh,ww⟩)],_,_,_,_,_,_,_,_,rfl,sA.trans sB,eB,λ t ht=>by rw[List.mem_singleton.mp ht];exact sB _ _ eA,⟨⟨λ p hp=>by rw[List.mem_singleton.mp hp];exact⟨by simp only[];lia,by simp only[];lia,by simp only[];lia,by simp only[];lia,by simp only[];lia,by simp only[];lia⟩,List.pairwise_singleton _ _,λ r c b1 b2 b3 b4=>⟨_,List.mem_singleton.mpr rfl,b1,b2,b3,b4⟩⟩,Sa _ _⟩,Nat.le_refl _⟩ ?_ ?_⟩
  .rintro i σ H' hi ⟨lp,ts,x6,x7,x8,x9,x10,x11,x12,x13,rfl,s1,hl,hat,til,few⟩;have ne0:0<ts.length:=by
    obtain⟨p,hp,_⟩:=til.cov 0 0 (by lia) (by lia) (by lia) (by lia);obtain⟨u,hu,_⟩:=List.mem_map.mp hp;exact List.length_pos_of_mem hu
   refine⟨_,rfl,_,rfl,_,rfl,_,_,rfl,rfl,a,ns,k+(0+(i:Int)),rfl,s1.seq hS,by lia,by lia,λ p z hp=>?_⟩;have sp:=Same.new (o:=.lst [.int z]) hp;have ep:(upd H' p (.lst [.int z])) p=some (.lst [.int z]):=Ab;generalize upd H' p (.lst [.int z])=H2' at sp ep |-;refine⟨_,rfl,_,rfl,lp,_,rfl,.inl (SqL.of (sp _ _ hl)),p,z,_,rfl,ep,by rw[List.length_map];lia,by rw[List.length_map];lia,λ at' z' at0' at1'=>?_⟩;have sx1:SameX p H2' (upd H2' p (.lst [.int z'])):=SameX.upd;have ep3:(upd H2' p (.lst [.int z'])) p=some (.lst [.int z']):=Ab;have hl3:=sx1 _ _ (CL ep (sp _ _ hl)) (sp _ _ hl);have hat3:=(hat.same sp).sx ep sx1;have s13:Same H' (upd H2' p (.lst [.int z'])):=SameX.drop sp hp sx1;generalize upd H2' p (.lst [.int z'])=H3 at sx1 ep3 hl3 hat3 s13 |-;have at2':at'.toNat<ts.length:=by rw[List.length_map]at at1';lia
   obtain⟨u,hu'⟩:∃u,ts[at'.toNat]?=some u:=⟨_,List.getElem?_eq_getElem at2'⟩;have hua:=hat3 u (List.mem_of_getElem? hu');have gu:atI (Ao ts) at'=some (.ref u.1):=by
    have e:=Ee (xs:=Ao ts) (j:=at'.toNat) (v:=.ref u.1) (by rw[List.getElem?_map,hu'];rfl);rwa [Int.toNat_of_nonneg at0']at e
   obtain⟨b1,b2,b3,b4,b5,b6⟩:=til.ins u.2 (List.mem_map.mpr ⟨u,List.mem_of_getElem? hu',rfl⟩);refine⟨_,rfl,_,rfl,lp,_,_,_,rfl,rfl,SqL.of hl3,gu,u.1,_,rfl,SqT.of hua,rfl,_,_,rfl,_,_,rfl,_,_,rfl,_,_,rfl,rfl,?_⟩;have few51:ts.length<=51:=by lia
   refine⟨_,rfl,_,rfl,_,_,rfl,rfl,_,_,rfl,rfl,_,rfl,Bw (λ c1=>?_) (λ c1=>?_)⟩
   .have c1:=of_decide_eq_true c1;refine⟨_,rfl,_,rfl,_,_,rfl,rfl,_,_,rfl,rfl,_,rfl,Bw (λ c2=>?_) (λ c2=>?_)⟩
    .exact fin_u _ lp p ts u at' z' _ _ H3 ep3 hl3 hat3 til few51 at0' at1' hu' c1 λ lp' ts' ln H5 sx d1 d2 d3 d4=>⟨lp',ts',_,_,_,_,_,_,_,_,rfl,s1.trans (SameX.drop s13 hp sx),d1,d2,d3,by lia⟩
    .refine⟨_,rfl,p,z',2,rfl,ep3,by decide,by decide,λ r z2 r0 r1=>?_⟩;have sx2:SameX p H3 (upd H3 p (.lst [.int z2])):=SameX.upd;have hl4:=sx2 _ _ (CL ep3 hl3) hl3;have hat4:=hat3.sx ep3 sx2;have ep4:(upd H3 p (.lst [.int z2])) p=some (.lst [.int z2]):=Ab;generalize upd H3 p (.lst [.int z2])=H4 at sx2 hl4 hat4 ep4 |-;refine⟨rfl,_,rfl,Bw (λ c3=>?_) (λ c3=>?_)⟩
     .exact fin_u _ lp p ts u at' z2 _ _ H4 ep4 hl4 hat4 til few51 at0' at1' hu' c1 λ lp' ts' ln H5 sx d1 d2 d3 d4=>⟨lp',ts',_,_,_,_,_,_,_,_,rfl,s1.trans (SameX.drop s13 hp (sx2.trans sx)),d1,d2,d3,by lia⟩
     .refine⟨_,rfl,_,rfl,_,_,rfl,rfl,_,_,rfl,rfl,_,rfl,Bw (λ c4=>?_) (λ c4=>?_)⟩
      .exact fin_v _ lp p ts u at' z2 _ _ H4 ep4 hl4 hat4 til few51 at0' at1' hu' (of_decide_eq_true c4) λ lp' ts' ln H5 sx d1 d2 d3 d4=>⟨lp',ts',_,_,_,_,_,_,_,_,rfl,s1.trans (SameX.drop s13 hp (sx2.trans sx)),d1,d2,d3,by lia⟩
      .exact⟨lp,ts,_,_,_,_,_,_,_,_,rfl,s1.trans (SameX.drop s13 hp sx2),hl4,hat4,til,by lia⟩
   .refine⟨_,rfl,_,rfl,_,_,rfl,rfl,_,_,rfl,rfl,_,rfl,Bw (λ c4=>?_) (λ c4=>?_)⟩
    .exact fin_v _ lp p ts u at' z' _ _ H3 ep3 hl3 hat3 til few51 at0' at1' hu' (of_decide_eq_true c4) λ lp' ts' ln H5 sx d1 d2 d3 d4=>⟨lp',ts',_,_,_,_,_,_,_,_,rfl,s1.trans (SameX.drop s13 hp sx),d1,d2,d3,by lia⟩
    .exact⟨lp,ts,_,_,_,_,_,_,_,_,rfl,s1.trans s13,hl3,hat3,til,by lia⟩
  .rintro σ H' ⟨lp,ts,x6,x7,x8,x9,x10,x11,x12,x13,rfl,s1,hl,hat,til,few⟩;exact⟨_,rfl,q lp ts H' s1 hl hat til (by lia)⟩
inductive Jf(vs:LUz)(H:Hp)(Q:VK)(E:XK):Prop
 |mk (l p:Addr) (v:V) (k z w h:Int) (ts:List (Addr×Rc)) (h0:vs=[v,.int k,.ref l,.ref p]) (h1:H p=some (.lst [.int z])) (h2:H l=some (.lst (Ao ts))) (h3:At H ts) (h4:Tiles w h (rcs ts)) (h5:ts.length<=41) (h6:(1<=w/\w<=12)) (h7:(1<=h/\h<=12)) (h8:∀(l':Addr)(ts':List (Addr×Rc))(H':Hp),SameX p H H'->(∃z',H' p=some (.lst [.int z']))->H' l'=some (.lst (Ao ts'))->At H' ts'->Tiles w h (rcs ts')->ts'.length<=52->(ts'=ts\/(ts.length<ts'.length/\¬Cut w h (rcs ts')))->Q (.ref l') H'):Jf vs H Q E
def K3:Sp:=λ vs H Q E=>Jf vs H Q E
abbrev Kx:LSz:=["_law_script","_law_k","_law_panes","_law_purse_here","_law_spots","_law_at","_law_top","_law_left","_law_bottom","_law_right_here","_law_high","_law_low","_law_near","_law_far","_law_five"]
theorem LG:Ak Kx ["_law_script","_law_k","_law_panes","_law_purse_here"] (Ai Ba):=fsc
theorem JI{f:Addr}{fd:FuncData}(F:Fun K "_law_wheel" "_law_wheel" Ba f fd)(T:Txt mg tk)(D__law_take:Ay P w K mg base 1 "_law_take" ["_law_purse_here","_law_many"] FX):A5 P w K mg base CX0 2 f fd ["_law_script","_law_k","_law_panes","_law_purse_here"] K3:=by
 have S:=LG;refine F.ok S (λ vs H Q E h=>?_) (λ cdv A outer s H vs Q E hr h=>?_)
 .obtain⟨l,p,v,k,z,w,h,ts,rfl,_⟩:=h;rfl
 .obtain⟨l,p,v,kk,z,ww,hh,ts,rfl,hp,hl,hat,til,few,gw,gh,k⟩:=h;have rl:(Ao ts).length=ts.length:=List.length_map _;obtain⟨tw,hw,fin⟩:∃rd,PSs (B8 CX0 P w K mg base Kx "_law_wheel" (Ai Ba) f cdv A outer s H E).nox ((AE Ba).drop 10) rd /\
    ∀(D:CN)(lf:Addr)(qs:List (Addr×Rc))(at' high low near far:Int)(x4 x6 x7 x8 x9:Option V)(H3:Hp),H3 l=some (.lst (Ao ts))->At H3 ts->H3 lf=some (.lst (Ao qs))->At H3 qs->qs.length=4->0<=at'->at'<(Ao ts).length ->
     (∀(l':Addr)(ts':List (Addr×Rc))(H5:Hp),Same H3 H5->H5 l'=some (.lst (Ao ts'))->At H5 ts'->rcs ts'=rcs (ts.take at'.toNat)++(rcs qs++[⟨high,near,low,far⟩])++rcs (ts.drop (at'.toNat+1))->ts'.length<=ts.length+5->D.rt (.ref l') H5) ->
     rd D [some v,some (.int kk),some (.ref l),some (.ref p),x4,some (.int at'),x6,x7,x8,x9,some (.int high),some (.int low),some (.int near),some (.int far),some (.ref lf)] H3:=by
   refine⟨_,(Ah (Ap (Ar CM (Ar CM (Ar CM (BK Cv (pv 2) C0 (Cz (pv 5))) (pv 14)) (AO (Aa (Az (Aa (pv 10) (Aa (pv 12) (Aa (pv 11) (Aa (pv 13) Ac))))) Ac))) (BK Cv (pv 2) (Cz (Ar AC (pv 5) Ag)) C0)))),?_⟩;intro D lf qs at' high low near far x4 x6 x7 x8 x9 H3 e1 a1 e2 a2 n4 at0' at1' rt;refine⟨_,rfl,_,rfl,_,rfl,l,_,rfl,SqL.of e1,λ c1 m1=>?_⟩;rw[Kg at0' at1'];have sa:=Same.new (o:=.lst ((Ao ts).take at'.toNat)) m1;have ea:(upd H3 c1 (.lst ((Ao ts).take at'.toNat))) c1=_:=Ab;generalize upd H3 c1 (.lst ((Ao ts).take at'.toNat))=H4 at sa ea |-;have nq:(Ao qs).length=4:=by rw[List.length_map];exact n4
   refine⟨_,rfl,c1,lf,_,_,rfl,rfl,ea,sa _ _ e2,Nat.le_of_lt (Am (by rw[List.length_take,nq];lia)),λ c2 m2=>?_⟩;have sb:=Same.new (o:=.lst ((Ao ts).take at'.toNat++Ao qs)) m2;have eb:(upd H4 c2 (.lst ((Ao ts).take at'.toNat++Ao qs))) c2=_:=Ab;generalize upd H4 c2 (.lst ((Ao ts).take at'.toNat++Ao qs))=H5 at sb eb |-;refine⟨_,rfl,_,rfl,_,rfl,_,rfl,Av 4,λ t5 m3=>⟨Av 1,λ l5 m4=>?_⟩⟩;have sc:=Same.new (o:=.tup (A8 high near low far)) m3;have ec:(upd H5 t5 (.tup (A8 high near low far))) t5=_:=Ab;generalize upd H5 t5 (.tup (A8 high near low far))=H6 at sc ec m4 |-;have sd:=Same.new (o:=.lst [.ref t5]) m4;have ed:(upd H6 l5 (.lst [.ref t5])) l5=_:=Ab;generalize upd H6 l5 (.lst [.ref t5])=H7 at sd ed |-;refine⟨c2,l5,_,_,rfl,rfl,(sc.trans sd) _ _ eb,ed,Nat.le_of_lt (Am (by rw[List.length_append,List.length_take,nq];show _+1<=_;lia)),λ c3 m5=>?_⟩;have se:=Same.new (o:=.lst ((Ao ts).take at'.toNat++Ao qs++[.ref t5])) m5;have ee:(upd H7 c3 (.lst ((Ao ts).take at'.toNat++Ao qs++[.ref t5]))) c3=_:=Ab;generalize upd H7 c3 (.lst ((Ao ts).take at'.toNat++Ao qs++[.ref t5]))=H8 at se ee |-;have s38:=sa.trans (sb.trans (sc.trans (sd.trans se)));refine⟨_,rfl,_,rfl,_,_,rfl,rfl,_,rfl,l,_,rfl,SqL.of (s38 _ _ e1),λ c4 m6=>?_⟩;rw[MP at0' at1'];have sf:=Same.new (o:=.lst ((Ao ts).drop (at'.toNat+1))) m6;have ef:(upd H8 c4 (.lst ((Ao ts).drop (at'.toNat+1)))) c4=_:=Ab;generalize upd H8 c4 (.lst ((Ao ts).drop (at'.toNat+1)))=H9 at sf ef |-;refine⟨c3,c4,_,_,rfl,rfl,sf _ _ ee,ef,Nat.le_of_lt (Am (by rw[List.length_append,List.length_append,List.length_take,List.length_drop,nq];show _+4+1+_<=_;lia)),λ c5 m7=>?_⟩;have sg:=Same.new (o:=.lst ((Ao ts).take at'.toNat++Ao qs++[.ref t5]++(Ao ts).drop (at'.toNat+1))) m7;have s3A:=s38.trans (sf.trans sg);refine rt c5 (ts.take at'.toNat++(qs++[(t5,⟨high,near,low,far⟩)])++ts.drop (at'.toNat+1)) _ s3A (by rw[Ab];simp[Ao,List.map_take,List.map_drop]) (λ x hx=>?_) (by simp[rcs]) (by rw[List.length_append,List.length_append,List.length_append,List.length_take,List.length_drop,n4];show _+(4+1)+_<=_;lia);rcases List.mem_append.mp hx with hx|hx
   .rcases List.mem_append.mp hx with hx|hx
    .exact(a1.same s3A) x (List.mem_of_mem_take hx)
    .rcases List.mem_append.mp hx with hx|hx
     .exact(a2.same s3A) x hx
     .rw[List.mem_singleton.mp hx];exact(sd.trans (se.trans (sf.trans sg))) _ _ ec
   .exact(a1.same s3A) x (List.mem_of_mem_drop hx)
  obtain⟨tw8,hw8,fin8⟩:∃rd,PSs (B8 CX0 P w K mg base Kx "_law_wheel" (Ai Ba) f cdv A outer s H E).nox ((AE Ba).drop 8) rd /\
    ∀(D:CN)(u:Rc)(at' high low near far z3p:Int)(x4 x14:Option V)(H3:Hp),H3 p=some (.lst [.int z3p])->H3 l=some (.lst (Ao ts))->At H3 ts->0<=at'->at'<(Ao ts).length ->
     (∀(l':Addr)(ts':List (Addr×Rc))(H5:Hp)(qs:List Rc),SameX p H3 H5->(∃z',H5 p=some (.lst [.int z']))->H5 l'=some (.lst (Ao ts'))->At H5 ts'->(qs=Cp u high low near far\/qs=Co u high low near far)->rcs ts'=rcs (ts.take at'.toNat)++(qs++[⟨high,near,low,far⟩])++rcs (ts.drop (at'.toNat+1))->ts'.length<=ts.length+5->D.rt (.ref l') H5) ->
     rd D [some v,some (.int kk),some (.ref l),some (.ref p),x4,some (.int at'),some (.int u.t),some (.int u.l),some (.int u.b),some (.int u.r),some (.int high),some (.int low),some (.int near),some (.int far),x14] H3:=by
   refine⟨_,(Af (Aq (i:=14) S.nd rfl (Or.inl rfl) (AO (Aa (Az (Aa (pv 6) (Aa (pv 7) (Aa (pv 11) (Aa (pv 12) Ac))))) (Aa (Az (Aa (pv 11) (Aa (pv 7) (Aa (pv 8) (Aa (pv 13) Ac))))) (Aa (Az (Aa (pv 10) (Aa (pv 13) (Aa (pv 8) (Aa (pv 9) Ac))))) (Aa (Az (Aa (pv 6) (Aa (pv 12) (Aa (pv 10) (Aa (pv 9) Ac))))) Ac))))))
   (Af (AL (A9 Cl (Au D__law_take hr (Aa (pv 3) (Aa Ag Ac))) Ag (A3 _)) (Ah (Aq (i:=14) S.nd rfl (Or.inl rfl) (AO (Aa (Az (Aa (pv 6) (Aa (pv 7) (Aa (pv 10) (Aa (pv 13) Ac))))) (Aa (Az (Aa (pv 6) (Aa (pv 13) (Aa (pv 11) (Aa (pv 9) Ac))))) (Aa (Az (Aa (pv 11) (Aa (pv 12) (Aa (pv 8) (Aa (pv 9) Ac))))) (Aa (Az (Aa (pv 10) (Aa (pv 7) (Aa (pv 8) (Aa (pv 12) Ac))))) Ac))))))) A6)
   hw)),?_⟩
   intro D u at' high low near far z3p x4 x14 H3 e3p e1 a1 at0' at1' rt;have nlp:l≠p:=CL e3p e1;refine⟨_,rfl,_,rfl,_,rfl,_,rfl,Av 4,λ ta0 ma0=>?_⟩;have sa0:=Same.new (o:=.tup (A8 u.t u.l low near)) ma0;have ea0:(upd H3 ta0 (.tup (A8 u.t u.l low near))) ta0=_:=Ab;generalize upd H3 ta0 (.tup (A8 u.t u.l low near))=Ha0 at sa0 ea0 |-;refine⟨_,rfl,_,rfl,_,rfl,_,rfl,Av 4,λ ta1 ma1=>?_⟩;have sa1:=Same.new (o:=.tup (A8 low u.l u.b far)) ma1;have ea1:(upd Ha0 ta1 (.tup (A8 low u.l u.b far))) ta1=_:=Ab;generalize upd Ha0 ta1 (.tup (A8 low u.l u.b far))=Ha1 at sa1 ea1 |-;refine⟨_,rfl,_,rfl,_,rfl,_,rfl,Av 4,λ ta2 ma2=>?_⟩;have sa2:=Same.new (o:=.tup (A8 high far u.b u.r)) ma2;have ea2:(upd Ha1 ta2 (.tup (A8 high far u.b u.r))) ta2=_:=Ab;generalize upd Ha1 ta2 (.tup (A8 high far u.b u.r))=Ha2 at sa2 ea2 |-;refine⟨_,rfl,_,rfl,_,rfl,_,rfl,Av 4,λ ta3 ma3=>?_⟩;have sa3:=Same.new (o:=.tup (A8 u.t near high u.r)) ma3;have ea3:(upd Ha2 ta3 (.tup (A8 u.t near high u.r))) ta3=_:=Ab;generalize upd Ha2 ta3 (.tup (A8 u.t near high u.r))=Ha3 at sa3 ea3 |-;refine⟨Av 4,λ la mla=>?_⟩;have sla:=Same.new (o:=.lst [.ref ta0,.ref ta1,.ref ta2,.ref ta3]) mla;have ela:(upd Ha3 la (.lst [.ref ta0,.ref ta1,.ref ta2,.ref ta3])) la=_:=Ab;generalize upd Ha3 la (.lst [.ref ta0,.ref ta1,.ref ta2,.ref ta3])=HLa at sla ela |-;have aqa:At HLa [(ta0,⟨u.t,u.l,low,near⟩),(ta1,⟨low,u.l,u.b,far⟩),(ta2,⟨high,far,u.b,u.r⟩),(ta3,⟨u.t,near,high,u.r⟩)]:=λ x hx=>by
    simp only[List.mem_cons,List.not_mem_nil,or_false]at hx;rcases hx with rfl|rfl|rfl|rfl
    .exact(sa1.trans (sa2.trans (sa3.trans (sla)))) _ _ ea0
    .exact(sa2.trans (sa3.trans (sla))) _ _ ea1
    .exact(sa3.trans (sla)) _ _ ea2
    .exact(sla) _ _ ea3
   have sxa:=(SameX.refl (p:=p) (H:=H3)).trans (SameX.of (sa0.trans (sa1.trans (sa2.trans (sa3.trans (sla))))));have ep7:HLa p=some (.lst [.int z3p]):=(sa0.trans (sa1.trans (sa2.trans (sa3.trans sla)))) _ _ e3p;have nla:la≠p:=λ z=>by rw[z]at ela;rw[ep7]at ela;cases ela
   refine⟨_,rfl,p,z3p,2,rfl,ep7,by decide,by decide,λ r8 z8 k8 k9=>?_⟩;have s8:=sxa.trans (SameX.upd (p:=p) (o:=.lst [.int z8]) (H:=HLa));have el8:(upd HLa p (.lst [.int z8])) la=_:=(Ae nla).trans ela;have aq8:=aqa.sx ep7 (SameX.upd (p:=p) (o:=.lst [.int z8]) (H:=HLa));have ep8:(upd HLa p (.lst [.int z8])) p=some (.lst [.int z8]):=Ab;generalize upd HLa p (.lst [.int z8])=H8 at s8 el8 aq8 ep8 |-;refine⟨rfl,_,rfl,Bw (λ c=>?_) (λ c=>?_)⟩
   .skip
    refine⟨_,rfl,_,rfl,_,rfl,_,rfl,Av 4,λ tb0 mb0=>?_⟩;have sb0:=Same.new (o:=.tup (A8 u.t u.l high far)) mb0;have eb0:(upd H8 tb0 (.tup (A8 u.t u.l high far))) tb0=_:=Ab;generalize upd H8 tb0 (.tup (A8 u.t u.l high far))=Hb0 at sb0 eb0 |-;refine⟨_,rfl,_,rfl,_,rfl,_,rfl,Av 4,λ tb1 mb1=>?_⟩;have sb1:=Same.new (o:=.tup (A8 u.t far low u.r)) mb1;have eb1:(upd Hb0 tb1 (.tup (A8 u.t far low u.r))) tb1=_:=Ab;generalize upd Hb0 tb1 (.tup (A8 u.t far low u.r))=Hb1 at sb1 eb1 |-;refine⟨_,rfl,_,rfl,_,rfl,_,rfl,Av 4,λ tb2 mb2=>?_⟩;have sb2:=Same.new (o:=.tup (A8 low near u.b u.r)) mb2;have eb2:(upd Hb1 tb2 (.tup (A8 low near u.b u.r))) tb2=_:=Ab;generalize upd Hb1 tb2 (.tup (A8 low near u.b u.r))=Hb2 at sb2 eb2 |-;refine⟨_,rfl,_,rfl,_,rfl,_,rfl,Av 4,λ tb3 mb3=>?_⟩;have sb3:=Same.new (o:=.tup (A8 high u.l u.b near)) mb3;have eb3:(upd Hb2 tb3 (.tup (A8 high u.l u.b near))) tb3=_:=Ab;generalize upd Hb2 tb3 (.tup (A8 high u.l u.b near))=Hb3 at sb3 eb3 |-;refine⟨Av 4,λ lb mlb=>?_⟩;have slb:=Same.new (o:=.lst [.ref tb0,.ref tb1,.ref tb2,.ref tb3]) mlb;have elb:(upd Hb3 lb (.lst [.ref tb0,.ref tb1,.ref tb2,.ref tb3])) lb=_:=Ab;generalize upd Hb3 lb (.lst [.ref tb0,.ref tb1,.ref tb2,.ref tb3])=HLb at slb elb |-;have aqb:At HLb [(tb0,⟨u.t,u.l,high,far⟩),(tb1,⟨u.t,far,low,u.r⟩),(tb2,⟨low,near,u.b,u.r⟩),(tb3,⟨high,u.l,u.b,near⟩)]:=λ x hx=>by
     simp only[List.mem_cons,List.not_mem_nil,or_false]at hx;rcases hx with rfl|rfl|rfl|rfl
     .exact(sb1.trans (sb2.trans (sb3.trans (slb)))) _ _ eb0
     .exact(sb2.trans (sb3.trans (slb))) _ _ eb1
     .exact(sb3.trans (slb)) _ _ eb2
     .exact(slb) _ _ eb3
    have sxb:=s8.trans (SameX.of (sb0.trans (sb1.trans (sb2.trans (sb3.trans (slb))))));refine fin D lb [(tb0,⟨u.t,u.l,high,far⟩),(tb1,⟨u.t,far,low,u.r⟩),(tb2,⟨low,near,u.b,u.r⟩),(tb3,⟨high,u.l,u.b,near⟩)] at' high low near far x4 _ _ _ _ HLb (sxb _ _ nlp e1) (a1.sx e3p sxb) elb aqb rfl at0' at1' λ l' ts' H5 s5 e5' a5 hr n5=>rt l' ts' H5 _ (sxb.trans (SameX.of s5)) ⟨z8,s5 _ _ ((sb0.trans (sb1.trans (sb2.trans (sb3.trans slb)))) _ _ ep8)⟩ e5' a5 (.inr rfl) hr n5
   .refine fin D la [(ta0,⟨u.t,u.l,low,near⟩),(ta1,⟨low,u.l,u.b,far⟩),(ta2,⟨high,far,u.b,u.r⟩),(ta3,⟨u.t,near,high,u.r⟩)] at' high low near far x4 _ _ _ _ H8 (s8 _ _ nlp e1) (a1.sx e3p s8) el8 aq8 rfl at0' at1' λ l' ts' H5 s5 e5' a5 hr n5=>rt l' ts' H5 _ (s8.trans (SameX.of s5)) ⟨z8,s5 _ _ ep8⟩ e5' a5 (.inl rfl) hr n5
  refine⟨_,(Af (F7 rfl (Aj (i:=4) S.nd rfl (Or.inl rfl)) (DV rfl T.z_range (Aa (A0 AA rfl T.z_len rfl (Aa (pv 2) Ac)) Ac)) (λ_ _ _ _ _=>(Aj (i:=0) (show List.Nodup (["_law_at","_law_panes"]:LSz) from by decide +kernel) rfl (Or.inl rfl))) (λ_ _ _ _ _=>(A9 F8 (A0 (OS rfl) rfl T.z_min rfl (Aa (Ar AM (An (EL (K:=K)) (An (CW (K:=K)) (pv 1) (pv 0) (λ_ _=>rfl)) Ag (λ_ _=>rfl)) (An (EL (K:=K)) (An (CW (K:=K)) (pv 1) (pv 0) (λ_ _=>rfl)) Ag (λ_ _=>rfl))) (Aa (Ar AM (An (EL (K:=K)) (An (CW (K:=K)) (pv 1) (pv 0) (λ_ _=>rfl)) Ag (λ_ _=>rfl)) (An (EL (K:=K)) (An (CW (K:=K)) (pv 1) (pv 0) (λ_ _=>rfl)) Ag (λ_ _=>rfl))) Ac))) Ag (A3 _))) (λ_ _ _ _ _=>(pv 0)) (N:=["_law_at","_law_panes"]) (fr:=[none,some 2]))
   (Af (AL (A9 Cl (A0 AA rfl T.z_len rfl (Aa (pv 4) Ac)) Ag (A3 _)) (Ah (Ap (pv 2))) A6)
   (Af (Aq (i:=5) S.nd rfl (Or.inl rfl) (An Bd (pv 4) (Au D__law_take hr (Aa (pv 3) (Aa (A0 AA rfl T.z_len rfl (Aa (pv 4) Ac)) Ac))) (λ_ _=>rfl)))
   (Af (G2 (An Bd (pv 2) (pv 5) (λ_ _=>rfl)) (BS rfl (Ax (Aj (i:=6) S.nd rfl (Or.inl rfl)) (Ax (Aj (i:=7) S.nd rfl (Or.inl rfl)) (Ax (Aj (i:=8) S.nd rfl (Or.inl rfl)) (Ax (Aj (i:=9) S.nd rfl (Or.inl rfl)) Bj))))))
   (Af (Aq (i:=10) S.nd rfl (Or.inl rfl) (Ar AC (Ar AC (pv 6) Ag) (Au D__law_take hr (Aa (pv 3) (Aa (Ar AM (Ar AM (pv 8) (pv 6)) Ag) Ac)))))
   (Af (Aq (i:=11) S.nd rfl (Or.inl rfl) (Ar AC (Ar AC (pv 10) Ag) (Au D__law_take hr (Aa (pv 3) (Aa (Ar AM (Ar AM (pv 8) (pv 10)) Ag) Ac)))))
   (Af (Aq (i:=12) S.nd rfl (Or.inl rfl) (Ar AC (Ar AC (pv 7) Ag) (Au D__law_take hr (Aa (pv 3) (Aa (Ar AM (Ar AM (pv 9) (pv 7)) Ag) Ac)))))
   (Af (Aq (i:=13) S.nd rfl (Or.inl rfl) (Ar AC (Ar AC (pv 12) Ag) (Au D__law_take hr (Aa (pv 3) (Aa (Ar AM (Ar AM (pv 9) (pv 12)) Ag) Ac)))))
   hw8)))))))),?_⟩
  refine⟨_,rfl,l,_,rfl,.inl (SqL.of hl),((Ao ts).length:Int),rfl,by lia,by lia,λ acc hacc=>C5 (lo:=0) (n:=((Ao ts).length:Int).toNat) (λ i xs σ H'=>(∃y,σ=[y,some (.ref l)])/\Same H H'/\∃ss:List Int,xs=ss.map V.int/\∀x∈ss,∃(j:Nat)(u:Addr×Rc),x=j/\ts[j]?=some u/\2<u.2.b-u.2.t/\2<u.2.r-u.2.l) ⟨⟨none,rfl⟩,Same.new hacc,[],rfl,λ x h=>absurd h List.not_mem_nil⟩ ?_ ?_⟩
  .rintro i xs σ H1 hi hxl hacc' ⟨⟨y,rfl⟩,s1,ss,rfl,hss⟩;rw[Int.zero_add];have hi':i<ts.length:=by lia
   have hu':ts[i]?=some ts[i]:=List.getElem?_eq_getElem hi';generalize ts[i]=u at hu';have hum:=List.mem_of_getElem? hu';have gu:atI (Ao ts) (i:Int)=some (.ref u.1):=Ee (by rw[List.getElem?_map,hu'];rfl);have hua:=s1 _ _ (hat u hum);have hl1:=s1 _ _ hl;refine⟨_,rfl,_,rfl,l,_,_,_,rfl,rfl,SqL.of hl1,gu,u.1,_,_,_,rfl,rfl,SqT.of hua,at2,_,rfl,_,rfl,l,_,_,_,rfl,rfl,SqL.of hl1,gu,u.1,_,_,_,rfl,rfl,SqT.of hua,at0,_,_,rfl,rfl,?_⟩;refine⟨_,rfl,_,rfl,l,_,_,_,rfl,rfl,SqL.of hl1,gu,u.1,_,_,_,rfl,rfl,SqT.of hua,at3,_,rfl,_,rfl,l,_,_,_,rfl,rfl,SqL.of hl1,gu,u.1,_,_,_,rfl,rfl,SqT.of hua,at1,_,_,rfl,rfl,?_⟩;refine⟨_,_,rfl,_,_,rfl,rfl,_,rfl,?_⟩;cases hc:decide (2<if u.2.r-u.2.l<u.2.b-u.2.t then u.2.r-u.2.l else u.2.b-u.2.t) with
   |true =>
    have hc':=of_decide_eq_true hc;have h2:2<u.2.b-u.2.t/\2<u.2.r-u.2.l:=by split at hc'<;>lia
    refine⟨_,rfl,fNx.mk (Nat.le_of_lt (Am (by lia))) hi hxl hacc' ⟨⟨_,rfl⟩,λ c o e=>?_,ss++[(i:Int)],by rw[List.map_append];rfl,λ x hx=>?_⟩⟩
    .rw[Ae (Ad e hacc)];exact s1 c o e
    .rcases List.mem_append.mp hx with hx|hx
     .exact hss x hx
     .exact⟨i,u,List.mem_singleton.mp hx,hu',h2⟩
   |false=>exact fSk.mk hi hxl hacc' ⟨⟨_,rfl⟩,s1,ss,rfl,hss⟩
  .rintro xs σ H1 hxl hacc' ⟨_,s1,ss,rfl,hss⟩;have hl1:=s1 _ _ hl;have ep:=s1 _ _ hp;have na:acc≠p:=Ne.symm (Ad hp hacc);refine⟨_,rfl,acc,_,rfl,.inl (SqL.of hacc'),rfl,_,rfl,Bw (λ c0=>?_) (λ c0=>?_)⟩
   .exact⟨_,rfl,k l ts H1 (SameX.of s1) ⟨z,ep⟩ hl1 (hat.same s1) til (by lia) (.inl rfl)⟩
   have pos:0<ss.length:=by
    cases ss with
    |nil=>exact absurd rfl (of_decide_eq_false c0)
    |cons a r=>simp
   have sl:(ss.map V.int).length=ss.length:=List.length_map _;have few':ss.length<=41:=by rw[sl]at hxl;lia
   refine⟨_,rfl,_,rfl,_,rfl,acc,_,rfl,.inl (SqL.of hacc'),p,z,_,rfl,ep,by rw[sl];lia,by rw[sl];lia,λ ix z2 i0 i1=>?_⟩;rw[sl]at i1;have s2:=(SameX.of s1).trans (SameX.upd (p:=p) (o:=.lst [.int z2]) (H:=H1));have e2:(upd H1 p (.lst [.int z2])) p=some (.lst [.int z2]):=Ab;have ea2:(upd H1 p (.lst [.int z2])) acc=some (.lst (ss.map V.int)):=by rw[Ae na];exact hacc'
   generalize upd H1 p (.lst [.int z2])=H2 at s2 e2 ea2 |-;have i2:ix.toNat<ss.length:=by lia
   obtain⟨j,u,hj,hu',hb,hw'⟩:=hss ss[ix.toNat] (List.getElem_mem i2);have gi:atI (ss.map V.int) ix=some (.int (j:Int)):=by
    have e:=Ee (xs:=ss.map V.int) (j:=ix.toNat) (v:=.int ss[ix.toNat]) (by rw[List.getElem?_map,List.getElem?_eq_getElem i2];rfl);rw[Int.toNat_of_nonneg i0,hj]at e;exact e
   have hjl:j<ts.length:=(List.getElem?_eq_some_iff.mp hu').1;have hum:=List.mem_of_getElem? hu';have gu:atI (Ao ts) (j:Int)=some (.ref u.1):=Ee (by rw[List.getElem?_map,hu'];rfl);obtain⟨b1,b2,b3,b4,b5,b6⟩:=til.ins u.2 (List.mem_map.mpr ⟨u,hum,rfl⟩);have lk:∀{Hk:Hp},SameX p H Hk->Hk l=some (.lst (Ao ts)):=λ sx=>sx _ _ (CL hp hl) hl;have ak:∀{Hk:Hp},SameX p H Hk->At Hk ts:=λ sx=>hat.sx hp sx;refine⟨acc,_,_,_,rfl,rfl,SqL.of ea2,gi,?_⟩;refine⟨_,rfl,_,rfl,l,_,_,_,rfl,rfl,SqL.of (lk s2),gu,u.1,_,rfl,SqT.of (ak s2 u hum),rfl,_,_,rfl,_,_,rfl,_,_,rfl,_,_,rfl,rfl,?_⟩;refine⟨_,rfl,_,_,rfl,rfl,_,rfl,_,rfl,_,rfl,_,_,rfl,rfl,_,_,rfl,rfl,p,z2,u.2.b-u.2.t-2,rfl,e2,by lia,by lia,λ r3 z3 k0 k1=>Cy (i:=u.2.t+1) (j:=r3) ?_⟩;have s3:=s2.trans (SameX.upd (o:=.lst [.int z3]) (H:=H2));have e3:(upd H2 p (.lst [.int z3])) p=some (.lst [.int z3]):=Ab;generalize upd H2 p (.lst [.int z3])=H3 at s3 e3 |-;have hg:u.2.t<u.2.t+1+r3/\u.2.t+1+r3<u.2.b-1:=by lia
   generalize u.2.t+1+r3=high at hg |-;refine⟨_,rfl,_,_,rfl,rfl,_,rfl,_,rfl,_,rfl,_,_,rfl,rfl,_,_,rfl,rfl,p,z3,u.2.b-high-1,rfl,e3,by lia,by lia,λ r4 z4 k2 k3=>Cy (i:=high+1) (j:=r4) ?_⟩;have s4:=s3.trans (SameX.upd (o:=.lst [.int z4]) (H:=H3));have e4:(upd H3 p (.lst [.int z4])) p=some (.lst [.int z4]):=Ab;generalize upd H3 p (.lst [.int z4])=H4 at s4 e4 |-;have lo:high<high+1+r4/\high+1+r4<u.2.b:=by lia
   generalize high+1+r4=low at lo |-;refine⟨_,rfl,_,_,rfl,rfl,_,rfl,_,rfl,_,rfl,_,_,rfl,rfl,_,_,rfl,rfl,p,z4,u.2.r-u.2.l-2,rfl,e4,by lia,by lia,λ r5 z5 k4 k5=>Cy (i:=u.2.l+1) (j:=r5) ?_⟩;have s5:=s4.trans (SameX.upd (o:=.lst [.int z5]) (H:=H4));have e5:(upd H4 p (.lst [.int z5])) p=some (.lst [.int z5]):=Ab;generalize upd H4 p (.lst [.int z5])=H5 at s5 e5 |-;have ne:u.2.l<u.2.l+1+r5/\u.2.l+1+r5<u.2.r-1:=by lia
   generalize u.2.l+1+r5=near at ne |-;refine⟨_,rfl,_,_,rfl,rfl,_,rfl,_,rfl,_,rfl,_,_,rfl,rfl,_,_,rfl,rfl,p,z5,u.2.r-near-1,rfl,e5,by lia,by lia,λ r6 z6 k6 k7=>Cy (i:=near+1) (j:=r6) ?_⟩;have s6:=s5.trans (SameX.upd (o:=.lst [.int z6]) (H:=H5));have e6:(upd H5 p (.lst [.int z6])) p=some (.lst [.int z6]):=Ab;generalize upd H5 p (.lst [.int z6])=H6 at s6 e6 |-;have fa:near<near+1+r6/\near+1+r6<u.2.r:=by lia
   generalize near+1+r6=far at fa |-;have til':Tiles ww hh (rcs (ts.take j)++u.2::rcs (ts.drop (j+1))):=by
    have:=Jv hu';have e:rcs ts=rcs (ts.take j)++u.2::rcs (ts.drop (j+1)):=by
     conv=>lhs;rw[this]
     simp[rcs]
    rw[<-e];exact til
   refine fin8 _ u.2 j high low near far z6 _ _ H6 e6 (lk s6) (ak s6) (by lia) (by lia) λ l' ts' H7 qs s7 hp7 e7 a7 hq hr n7=>?_;refine k l' ts' H7 (s6.trans s7) hp7 e7 a7 ?_ (by lia) (.inr ⟨?_,?_⟩)
   .rw[hr,Int.toNat_natCast];exact RR til' hg.1 lo.1 lo.2 ne.1 fa.1 fa.2 hq
   .have lq:qs.length=4:=by rcases hq with rfl|rfl<;>rfl
    have:=congrArg List.length hr;rw[List.length_map,List.length_append,List.length_append,List.length_append,List.length_map,List.length_map,List.length_take,List.length_drop,lq,List.length_singleton]at this;lia
   .rw[hr,Int.toNat_natCast];exact Pf gw.1 gh.1 hg.1 lo.1 lo.2 ne.1 fa.1 fa.2 hq
def EnR(R:Rk->Prop)(H:Hp)(a:Addr):En->Prop
 |.w (some _)=>∃b p,H a=some (.tup [.str "room",.ref b])/\H b=some (.tup p.vs)/\R p
 |.w none=>H a=some (.tup [.str "whole",.non])
 |.c u k=>H a=some (.tup [.str (wd u),.int k])
theorem EnR.tups{R:Rk->Prop}{H H':Hp}{a:Addr}(s:∀a xs,H a=some (.tup xs)->H' a=some (.tup xs)):∀{e:En},EnR R H a e->EnR R H' a e
 |.w (some _),⟨b,p,x,y,z⟩=>⟨b,p,s _ _ x,s _ _ y,z⟩
 |.w none,h=>s _ _ h
 |.c _ _,h=>s _ _ h
theorem EnR.kp{R:Rk->Prop}{H H':Hp}{a:Addr}{e:En}(h:EnR R H a e)(s:Kp H H'):EnR R H' a e:=h.tups λ_ _ x=>s _ _ x (by intro xs z;cases z)
theorem EnR.imp{R R':Rk->Prop}{H:Hp}{a:Addr}:∀{e:En},(∀n p,e=.w (some n)->R p->R' p)->EnR R H a e->EnR R' H a e
 |.w (some n),i,⟨b,p,x,y,z⟩=>⟨b,p,x,y,i n p rfl z⟩
 |.w none,_,h=>h
 |.c _ _,_,h=>h
theorem EnR.wd{R:Rk->Prop}{H:Hp}{a:Addr}:∀{m:Option Int},EnR R H a (.w m)->∃(wo:Str)(wx:V),H a=some (.tup [.str wo,wx])/\inV (.str wo) [V.str "upright",V.str "level"]=false
 |some _,⟨b,p,x,_,_⟩=>⟨_,_,x,by decide +kernel⟩
 |none,h=>⟨_,_,h,by decide +kernel⟩
def EnsR(R:Rk->Prop)(H:Hp):LUz->List En->Prop
 |[],[]=>True
 |v::r,e::q=>(∃a,v=.ref a/\EnR R H a e)/\EnsR R H r q
 |_,_=>False
theorem EnsR.tups{R:Rk->Prop}{H H':Hp}(s:∀a xs,H a=some (.tup xs)->H' a=some (.tup xs)):∀{vs:LUz}{es:List En},EnsR R H vs es->EnsR R H' vs es
 |[],[],_=>trivial
 |v::r,e::q,h=>⟨let ⟨a,b,c⟩:=h.1;⟨a,b,c.tups s⟩,EnsR.tups s h.2⟩
 |[],_::_,h=>h
 |_::_,[],h=>h
theorem EnsR.kp{R:Rk->Prop}{H H':Hp}(s:Kp H H'){vs:LUz}{es:List En}(h:EnsR R H vs es):EnsR R H' vs es:=h.tups λ_ _ x=>s _ _ x (by intro xs z;cases z)
theorem EnsR.snoc{R:Rk->Prop}{H:Hp}{a:Addr}{e:En}(ha:EnR R H a e):∀{vs:LUz}{es:List En},EnsR R H vs es->EnsR R H (vs++[.ref a]) (es++[e])
 |[],[],_=>⟨⟨a,rfl,ha⟩,trivial⟩
 |v::r,e'::q,h=>⟨h.1,EnsR.snoc ha h.2⟩
 |[],_::_,h=>h.elim
 |_::_,[],h=>h.elim
theorem EnsR.len{R:Rk->Prop}{H:Hp}:∀{vs:LUz}{es:List En},EnsR R H vs es->vs.length=es.length
 |[],[],_=>rfl
 |v::r,e'::q,h=>by rw[List.length_cons,List.length_cons,EnsR.len h.2]
 |[],_::_,h=>h.elim
 |_::_,[],h=>h.elim
theorem EnsR.get{R:Rk->Prop}{H:Hp}:∀{vs:LUz}{es:List En}{i:Nat}{v:V},EnsR R H vs es->vs[i]?=some v->∃e a,es[i]?=some e/\v=.ref a/\EnR R H a e
 |v::r,e::q,0,_,h,hv=>by
  cases hv;obtain⟨a,b,c⟩:=h.1;exact⟨e,a,rfl,b,c⟩
 |v::r,e::q,i+1,_,h,hv=>EnsR.get (i:=i) h.2 hv
 |[],[],_,_,_,hv=>by cases hv
 |[],_::_,_,_,h,_=>h.elim
 |_::_,[],_,_,h,_=>h.elim
def rmE:En->Bool
 |.w (some _)=>true
 |_=>false
theorem EnsR.ens{R:Rk->Prop}{H:Hp}:∀{vs:LUz}{es:List En},EnsR R H vs es->(∀e∈es,rmE e=false)->EnsAt H vs es
 |[],[],_,_=>trivial
 |v::r,e::q,h,n=>by
  refine⟨?_,EnsR.ens h.2 λ x hx=>n x (List.mem_cons_of_mem _ hx)⟩;obtain⟨a,b,c⟩:=h.1;have ne:=n e List.mem_cons_self;refine⟨a,b,?_⟩
  match e,ne,c with
  |.w none,_,c=>exact c
  |.c _ _,_,c=>exact c
 |[],_::_,h,_=>h.elim
 |_::_,[],h,_=>h.elim
theorem noRm_iff:∀{t:Tr},JQ t↔∀e∈AD t,rmE e=false
 |.whole none=>⟨λ_ e he=>by rw[List.mem_singleton.mp he];rfl,λ_=>rfl⟩
 |.whole (some n)=>⟨λ h=>(nomatch h),λ h=>nomatch h _ (List.mem_singleton.mpr rfl)⟩
 |.cut u k x y=>by
  rw[JQ,AD,noRm_iff (t:=x),noRm_iff (t:=y)]
  constructor
  .rintro⟨a,b⟩ e he;rcases List.mem_cons.mp he with rfl|he
   .rfl
   .rcases List.mem_append.mp he with he|he
    .exact a e he
    .exact b e he
  .intro h;exact⟨λ e he=>h e (List.mem_cons_of_mem _ (List.mem_append_left _ he)),λ e he=>h e (List.mem_cons_of_mem _ (List.mem_append_right _ he))⟩
inductive HI(vs:LUz)(H:Hp)(Q:VK)(E:XK):Prop
 |mk (b l:Addr) (p:Rk) (ts:List PT) (h0:vs=[.ref b,.ref l]) (h1:H b=some (.tup p.vs)) (h2:H l=some (.lst (pcs ts))) (h3:PcO H ts) (h4:ts.length<=150) (h5:p.ok) (h6:(∀u,0<=p.lo u/\p.hi u<=12)) (h7:(∀u∈ts,u.2.2.2=none)) (h8:∀e H',Same H H'->EnR (λ q=>q=p) H' e (enG (cons ts) p)->Q (.ref e) H'):HI vs H Q E
def Iz:Sp:=λ vs H Q E=>HI vs H Q E
theorem LK:Ak ["block","some","panes","uprights","levels"] ["block","some"] (Ai DD):=fsc
theorem Km{x:V}{r:LUz}:atI (x::r) 0=some x:=Ee (xs:=x::r) (j:=0) (v:=x) rfl
theorem JM{f:Addr}{fd:FuncData}(F:Fun K "entry_for" "entry_for" DD f fd)(T:Txt mg tk)(D_lines_through:Ay P w K mg base 3 "lines_through" ["block","panes","side"] Pz):A5 P w K mg base CX0 4 f fd ["block","some"] Iz:=by
 have S:=LK;refine F.ok S (λ vs H Q E h=>?_) (λ cdv A outer s H vs Q E hr h=>?_)
 .obtain⟨b,l,p,ts,rfl,_⟩:=h;rfl
 .obtain⟨b,l,p,ts,rfl,hb,hl,pc,few,pk,pb,nn,q⟩:=h;refine⟨_,(Af (AL (A9 Cl (A0 AA rfl T.z_len rfl (Aa (pv 1) Ac)) Ag (A3 _)) (Ah (Ap (Az (Aa (A7 (v:=.str "whole") rfl T.g_WHOLE ⟨_,rfl⟩) (Aa (An Al (An Bd (pv 1) Ag (λ_ _=>rfl)) Ag (λ_ _=>rfl)) Ac))))) A6)
   (Af (Dn rfl (Aj (i:=2) S.nd rfl (Or.inl rfl)) (AJ (pv 1)) (λ_ _ _ _ _=>(JF (K:=K) (n:=2) rfl (Ax (Aj (i:=0) (show List.Nodup (["pane","mark"]:LSz) from by decide +kernel) rfl (Or.inl rfl)) (Ax (Aj (i:=1) (show List.Nodup (["pane","mark"]:LSz) from by decide +kernel) rfl (Or.inl rfl)) Bj)))) (λ_ _ _ _ _=>(pv 0)) (N:=["pane","mark"]) (fr:=[none,none]))
   (Af (Aq (i:=3) S.nd rfl (Or.inl rfl) (Au D_lines_through hr (Aa (pv 0) (Aa (pv 2) (Aa (A7 (v:=.int 1) rfl T.g_LEFT ⟨_,rfl⟩) Ac)))))
   (Af (AL (CS (pv 3) (λ_=>rfl)) (Ah (Ap (Az (Aa (A7 (v:=.str "upright") rfl T.g_UPRIGHT_cuts ⟨_,rfl⟩) (Aa (Ar AM (An Bd (pv 3) Ag (λ_ _=>rfl)) (An Al (pv 0) (A7 (v:=.int 1) rfl T.g_LEFT ⟨_,rfl⟩) (λ_ _=>rfl))) Ac))))) A6)
   (Af (Aq (i:=4) S.nd rfl (Or.inl rfl) (Au D_lines_through hr (Aa (pv 0) (Aa (pv 2) (Aa (A7 (v:=.int 0) rfl T.g_TOP ⟨_,rfl⟩) Ac)))))
   (Af (AL (CS (pv 4) (λ_=>rfl)) (Ah (Ap (Az (Aa (A7 (v:=.str "level") rfl T.g_LEVEL_cuts ⟨_,rfl⟩) (Aa (Ar AM (An Bd (pv 4) Ag (λ_ _=>rfl)) (An Al (pv 0) (A7 (v:=.int 0) rfl T.g_TOP ⟨_,rfl⟩) (λ_ _=>rfl))) Ac))))) A6)
   (Ah (Ap (Az (Aa (A7 (v:=.str "room") rfl T.g_ROOM ⟨_,rfl⟩) (Aa (pv 0) Ac))))))))))),?_⟩
  refine⟨_,rfl,l,_,rfl,.inl (SqL.of hl),rfl,_,rfl,Bw (λ c=>?_) (λ c=>?_)⟩
  .have c:=V.int.inj (of_decide_eq_true c);have c:ts.length=1:=by rw[List.length_map]at c;lia
   obtain⟨x,rfl⟩:=List.length_eq_one_iff.mp c;have hx:=pc x (List.mem_singleton.mpr rfl);have hx1:=hx.1;rw[nn x (List.mem_singleton.mpr rfl)]at hx1;exact⟨_,rfl,l,_,_,_,rfl,rfl,SqL.of hl,rfl,x.1,_,_,_,rfl,rfl,SqT.of hx1,QI,Av 2,λ e he=>q e _ (Same.new he) (by show EnR _ _ e (if _ then _ else _);rw[if_pos (show(cons [x]).length=1 from rfl)];exact Ab)⟩
  .have c1:(cons ts).length≠1:=λ z=>of_decide_eq_false c (by rw[List.length_map]at z |-;rw[z];rfl);have eG:enG (cons ts) p=thG p (EB ((cons ts).map (·.1)) p):=if_neg c1;rw[eG]at q;refine⟨_,rfl,l,rfl,⟨_,SqL.of hl⟩,λ acc hacc=>B7 (K:=K) (a:=l) (ys:=pcs ts) (λ i zs σ H'=>(∃y z,σ=[y,z])/\Same H H'/\zs=Ao ((pns ts).take i)) ⟨⟨none,none,rfl⟩,Same.new hacc,rfl⟩ (λ i zs σ H' _ _ hp=>SqL.of (hp.2.1 _ _ hl)) ?_ ?_⟩
   .rintro i x zs σ H' hx hi hl' hacc' ⟨⟨y,z,rfl⟩,hs,rfl⟩;obtain⟨u,hu,rfl⟩:=NA hx;obtain⟨g1,g2⟩:=(pc.same hs) u (List.mem_of_getElem? hu);refine⟨u.1,_,rfl,SqT.of g1,rfl,_,_,rfl,_,_,rfl,rfl,_,rfl,?_⟩;refine cNx.mk (Nat.le_of_lt (Am (by rw[List.length_map];lia))) hi hl' hacc' ⟨⟨_,_,rfl⟩,λ c o e=>?_,?_⟩
    .rw[Ae (Ad e hacc)];exact hs c o e
    .unfold Ao;rw[List.take_succ,List.getElem?_map,hu,List.map_append];rfl
   rintro zs σ H1 hzl ac1 ⟨_,s1,rfl⟩;have e1:(pcs ts).length=(pns ts).length:=by rw[List.length_map,List.length_map]
   rw[e1,List.take_length]at ac1;have pn1:PnO H1 (pns ts):=λ z hz=>by
    obtain⟨u,hu,rfl⟩:=List.mem_map.mp hz;exact s1 _ _ (pc u hu).2
   have few':(pns ts).length<=150:=by rw[List.length_map];exact few
   refine⟨_,rfl,_,rfl,b,acc,p,pns ts,true,rfl,s1 _ _ hb,ac1,pn1,few',pk,pb,λ c2 H2 s2 hc2=>?_⟩;rw[N5]at hc2;have s12:=s1.trans s2;cases q1:lns ((cons ts).map (·.1)) p true with
   |cons x r =>
    rw[q1]at hc2;have eT:EB ((cons ts).map (·.1)) p=(true,x)::(r.map (λ a=>(true,a))++(lns ((cons ts).map (·.1)) p false).map (λ a=>(false,a))):=by unfold EB;rw[q1];rfl
    rw[eT]at q;refine⟨_,rfl,_,.inl ⟨_,SqL.of hc2,rfl⟩,BE rfl ?_⟩;exact⟨_,rfl,c2,_,_,_,rfl,rfl,SqL.of hc2,Km,_,rfl,b,_,_,_,rfl,rfl,SqT.of (s12 _ _ hb),LB (u:=true),_,_,rfl,rfl,Av 2,λ e he=>q e _ (s12.trans (Same.new he)) Ab⟩
   |nil =>
    rw[q1]at hc2;refine⟨_,rfl,_,.inl ⟨_,SqL.of hc2,rfl⟩,Bq rfl ?_⟩;refine⟨_,rfl,_,rfl,b,acc,p,pns ts,false,rfl,s12 _ _ hb,s2 _ _ ac1,pn1.same s2,few',pk,pb,λ c3 H3 s3 hc3=>?_⟩;rw[N5]at hc3;have s13:=s12.trans s3;cases q2:lns ((cons ts).map (·.1)) p false with
    |cons x r =>
     rw[q2]at hc3;have eT:EB ((cons ts).map (·.1)) p=(false,x)::r.map (λ a=>(false,a)):=by unfold EB;rw[q1,q2];rfl
     rw[eT]at q;refine⟨_,rfl,_,.inl ⟨_,SqL.of hc3,rfl⟩,BE rfl ?_⟩;exact⟨_,rfl,c3,_,_,_,rfl,rfl,SqL.of hc3,Km,_,rfl,b,_,_,_,rfl,rfl,SqT.of (s13 _ _ hb),LB (u:=false),_,_,rfl,rfl,Av 2,λ e he=>q e _ (s13.trans (Same.new he)) Ab⟩
    |nil =>
     rw[q2]at hc3;have eT:EB ((cons ts).map (·.1)) p=[]:=by unfold EB;rw[q1,q2];rfl
     rw[eT]at q;refine⟨_,rfl,_,.inl ⟨_,SqL.of hc3,rfl⟩,Bq rfl ?_⟩;exact⟨_,rfl,Av 2,λ e he=>q e _ (s13.trans (Same.new he)) ⟨b,p,Ab,(s13.trans (Same.new he)) _ _ hb,rfl⟩⟩
def spE(R:Rk->Prop)(en:Rk->En)(D:Rk->Prop):Sp:=λ vs H Q _=>∃(a:Addr)(p:Rk),vs=[.ref a]/\H a=some (.tup p.vs)/\D p/\∀e H',Same H H'->EnR R H' e (en p)->Q (.ref e) H'
inductive QT(P:Program)(w:World)(K:Frag)(mg:MGz)(base:Heap)(vs:LUz)(H:Hp)(Q:VK)(E:XK):Prop
 |mk (a f:Addr) (p:Rk) (t:Tr) (en:Rk->En) (D R:Rk->Prop) (h0:vs=[.ref a,.ref f]) (h1:H a=some (.tup p.vs)) (h2:FvOk P w K mg base 6 H f (spE R en D)) (h3:Pd en D t p) (h4:t.nd<=400) (h5:∀l xs H',Same H H'->H l=none->H' l=some (.lst xs)->EnsR R H' xs (AD t)->Q (.ref l) H'):QT P w K mg base vs H Q E
def Sn(P:Program)(w:World)(K:Frag)(mg:MGz)(base:Heap) :Sp:=λ vs H Q E=>QT P w K mg base vs H Q E
theorem Ks:Ak ["sheet","entry_at","entries","waiting","piece","entry"] ["sheet","entry_at"] (Ai Df):=fsc
abbrev UP(R:Rk->Prop)(en:Rk->En)(D:Rk->Prop)(H:Hp)(a f:Addr)(t:Tr)(le lw:Addr)(m:Nat)(σ:St)(H':Hp):Prop:=∃(xs:LUz)(es:List En)(ws:List (Addr×Rk×Tr))(x4 x5:Option V),σ=[some (.ref a),some (.ref f),some (.ref le),some (.ref lw),x4,x5]/\Same H H'/\H' le=some (.lst xs)/\EnsR R H' xs es/\H' lw=some (.lst (AI ws))/\PsAt H' ws/\(∀p∈ws,Pd en D p.2.2 p.2.1)/\es++Cu (trs ws)=AD t/\m=cnt (trs ws)
theorem Qk(e:En):inV ((enV e).headD .non) [V.str "upright",V.str "level"]=match e with
  |.w _=>false
  |.c _ _=>true:=by
 cases e with
 |w m =>
  show(eqV (V.str "upright") (V.str "whole")||(eqV (V.str "level") (V.str "whole")||false))=false;decide +kernel
 |c u k =>
  cases u
  .show(eqV (V.str "upright") (V.str "level")||(eqV (V.str "level") (V.str "level")||false))=true;decide +kernel
  .show(eqV (V.str "upright") (V.str "upright")||(eqV (V.str "level") (V.str "upright")||false))=true;decide +kernel
theorem HQ{f:Addr}{fd:FuncData}(F:Fun K "entries_by" "entries_by" Df f fd)(T:Txt mg tk)(D_first_piece:Ay P w K mg base 1 "first_piece" ["piece","word","at"] Mi)(D_other_piece:Ay P w K mg base 1 "other_piece" ["piece","word","at"] Mh):A5 P w K mg base CX0 7 f fd ["sheet","entry_at"] (Sn P w K mg base):=by
 have S:=Ks;refine F.ok S (λ vs H Q E h=>?_) (λ cdv A outer s H vs Q E hr h=>?_)
 .obtain⟨a,f,p,t,en,D,R,rfl,_⟩:=h;rfl
 .obtain⟨a,fv,p,t,en,D,R,rfl,ha,hfv,gr,hn,q⟩:=h;refine⟨_,(Af (Aq (i:=2) S.nd rfl (Or.inl rfl) (AO Ac))
   (Af (Aq (i:=3) S.nd rfl (Or.inl rfl) (AO (Aa (pv 0) Ac)))
   (Af (KO PassesOwn.never (CS (pv 3) (λ_=>rfl)) (Af (Aq (i:=4) S.nd rfl (Or.inl rfl) (Fj PySem.F.plainAttrs_list PySem.F.slot_list_pop PySem.F.type_list_pop Fo (pv 3)))
   (Af (Aq (i:=5) S.nd rfl (Or.inl rfl) (Uk (k:=6) hr (pv 1) (Aa (pv 4) Ac)))
   (Af (AH (BW PySem.F.plainAttrs_list PySem.F.slot_list_append PySem.F.type_list_append AG (pv 2) (Aa (pv 5) Ac)))
   (Ah (AL (A9 IF (An Al (pv 5) Ag (λ_ _=>rfl)) (Az (Aa (A7 (v:=.str "upright") rfl T.g_UPRIGHT_cuts ⟨_,rfl⟩) (Aa (A7 (v:=.str "level") rfl T.g_LEVEL_cuts ⟨_,rfl⟩) Ac))) rfl) (Af (AH (BW PySem.F.plainAttrs_list PySem.F.slot_list_append PySem.F.type_list_append AG (pv 3) (Aa (Au D_other_piece hr (Aa (pv 4) (Aa (An Al (pv 5) Ag (λ_ _=>rfl)) (Aa (An Al (pv 5) Ag (λ_ _=>rfl)) Ac)))) Ac)))
   (Ah (AH (BW PySem.F.plainAttrs_list PySem.F.slot_list_append PySem.F.type_list_append AG (pv 3) (Aa (Au D_first_piece hr (Aa (pv 4) (Aa (An Al (pv 5) Ag (λ_ _=>rfl)) (Aa (An Al (pv 5) Ag (λ_ _=>rfl)) Ac)))) Ac))))) A6))))))
   (Ah (Ap (pv 2)))))),?_⟩
  refine⟨Av 0,λ le hle=>⟨_,rfl,Av 1,λ lw hlw=>?_⟩⟩;have nel:le≠lw:=Ad Ab hlw;have s0:Same H (upd (upd H le (.lst [])) lw (.lst [.ref a])):=(Same.new hle).trans (Same.new hlw);have hlw0:H lw=none:=none_of (Same.new hle) hlw;refine⟨UP R en D H a fv t le lw,
   ⟨_,[],[],[(a,p,t)],none,none,rfl,s0,by rw[Ae nel];exact Ab,trivial,Ab,λ r hr=>?_,λ r hr=>?_,?_,rfl⟩,?_⟩
  .rw[List.mem_singleton.mp hr];exact s0 _ _ ha
  .rw[List.mem_singleton.mp hr];exact gr
  .show[]++Cu [(V.ref a,t)]=AD t;rw[Ea];rfl
  rintro m σ H' ⟨xs,es,ws,x4,x5,rfl,s1,hl,hen,hw,hps,hgr,heq,rfl⟩;have tot:es.length+cnt (trs ws)=t.nd:=by rw[<-Cr,<-heq,List.length_append,CY]
  rcases Cc ws with rfl|⟨ws0,r,rfl⟩
  .refine⟨_,rfl,_,.inl ⟨_,SqL.of hw,rfl⟩,Bq rfl ⟨_,rfl,q le xs H' s1 hle hl ?_⟩⟩;rw[<-heq];show EnsR R H' xs (es++[]);rw[List.append_nil];exact hen
  .refine⟨_,rfl,_,.inl ⟨_,SqL.of hw,rfl⟩,BE (by simp) ⟨λ σ' H''=>∃m',m'<cnt (trs (ws0++[r]))/\UP R en D H a fv t le lw m' σ' H'',λ σ' H'' z=>z,?_⟩⟩;obtain⟨pa,pk,pt⟩:=r;have hp0:=hps (pa,pk,pt) (by simp);have hg0:=hgr (pa,pk,pt) (by simp);refine⟨_,rfl,.inl ⟨rfl,_,SqL.of hw⟩,lw,_,_,rfl,rfl,hw,Fs,?_⟩;rw[Fv];have k2:Kp H' (upd H' lw (.lst (AI ws0))):=Kp.put hw;have s2:Same H (upd H' lw (.lst (AI ws0))):=λ b o e=>by rw[Ae (Ad e hlw0)];exact s1 b o e
   have l2:(upd H' lw (.lst (AI ws0))) le=some (.lst xs):=by rw[Ae nel];exact hl
   have w2:(upd H' lw (.lst (AI ws0))) lw=some (.lst (AI ws0)):=Ab;generalize upd H' lw (.lst (AI ws0))=H2 at k2 s2 l2 w2 |-;have hp2:=k2 _ _ hp0 (by intro xs z;cases z);have ps2:PsAt H2 ws0:=λ r hr=>k2 _ _ (hps r (List.mem_append_left _ hr)) (by intro xs z;cases z);have gr2:∀r∈ws0,Pd en D r.2.2 r.2.1:=λ r hr=>hgr r (List.mem_append_left _ hr);have hen2:=hen.kp k2;rw[Bo,AS]at heq;rw[Bo,B3]at tot;have hxl:=hen.len;have np:=M8 pt;have hDp:D pk:=by cases pt<;>exact hg0.1
   refine⟨_,rfl,fv,spE R en D,rfl,hfv.same s2,_,rfl,Same.refl H2,pa,pk,rfl,hp2,hDp,λ ea H3 s3 e3=>?_⟩;have l3:=s3 _ _ l2;refine⟨_,rfl,.inl ⟨rfl,_,SqL.of l3⟩,_,rfl,le,xs,.ref ea,rfl,rfl,l3,Am (by lia),?_⟩;have k4:Kp H3 (upd H3 le (.lst (xs++[.ref ea]))):=Kp.put l3;have s4:Same H (upd H3 le (.lst (xs++[.ref ea]))):=λ b o e=>by rw[Ae (Ad e hle)];exact s3 b o (s2 b o e)
   have l4:(upd H3 le (.lst (xs++[.ref ea]))) le=some (.lst (xs++[.ref ea])):=Ab;have w4:(upd H3 le (.lst (xs++[.ref ea]))) lw=some (.lst (AI ws0)):=by rw[Ae (Ne.symm nel)];exact s3 _ _ w2
   have en4:EnsR R (upd H3 le (.lst (xs++[.ref ea]))) (xs++[.ref ea]) (es++[en pk]):=((hen2.kp (C3 s3)).kp k4).snoc (e3.kp k4);have kk:=(C3 s3).trans k4;have e4:=e3.kp k4;generalize upd H3 le (.lst (xs++[.ref ea]))=H4 at k4 s4 l4 w4 en4 kk e4 |-;have hp4:=kk _ _ hp2 (by intro xs z;cases z);have ps4:PsAt H4 ws0:=ps2.kp kk;cases pt with
   |whole m =>
    have een:en pk=.w m:=hg0.2;rw[een]at e4 en4;obtain⟨wv,wx,e4,nq⟩:=e4.wd;refine⟨_,rfl,ea,_,_,_,rfl,rfl,SqT.of e4,Jc,Av 2,λ tt ntt=>?_⟩;obtain⟨H5,g,s5,e5⟩:=nw (.tup [.str "upright",.str "level"]) ntt;rw[g];refine⟨tt,_,rfl,.inr (SqT.of e5),rfl,rfl,_,rfl,Bq (by rw[if_neg Bool.false_ne_true];exact nq) ?_⟩;refine⟨cnt (trs ws0),by rw[Bo,B3];exact Nat.lt_succ_self _,_,_,ws0,_,_,rfl,s4.trans s5,s5 _ _ l4,en4.kp (C3 s5),s5 _ _ w4,ps4.kp (C3 s5),gr2,?_,rfl⟩;rw[<-heq,List.append_assoc];rfl
   |cut u k y1 y2 =>
    obtain⟨_,een,g1,g2⟩:=hg0;have een:en pk=.c u k:=een;rw[een]at e4 en4;have e4:H4 ea=some (.tup (enV (.c u k))):=e4;refine⟨_,rfl,ea,_,_,_,rfl,rfl,SqT.of e4,Jc,Av 2,λ tt ntt=>?_⟩;obtain⟨H5,g,s5,e5⟩:=nw (.tup [.str "upright",.str "level"]) ntt;rw[g];refine⟨tt,_,rfl,.inr (SqT.of e5),rfl,rfl,_,rfl,BE (by rw[if_neg Bool.false_ne_true];exact Qk (.c u k)) ?_⟩;have e55:=s5 _ _ e4;have w5:=s5 _ _ w4;have hp5:=s5 _ _ hp4;refine⟨_,rfl,.inl ⟨rfl,_,SqL.of w5⟩,_,rfl,_,rfl,ea,_,_,_,rfl,rfl,SqT.of e55,Jc,_,rfl,ea,_,_,_,rfl,rfl,SqT.of e55,QI,pa,pk,u,k,rfl,hp5,λ t6 n6=>?_⟩;obtain⟨H6,g,s6,e6⟩:=nw (.tup (pk.oth u k).vs) n6;rw[g];have w6:=s6 _ _ w5;have cl:=Ec (trs ws0);rw[List.length_map]at cl;have ndp:(Tr.cut u k y1 y2).nd=y1.nd+y2.nd+1:=rfl;refine⟨lw,_,_,rfl,rfl,w6,Am (by rw[List.length_map];lia),?_⟩;have k7:Kp H6 (upd H6 lw (.lst (AI ws0++[.ref t6]))):=Kp.put w6;have s7:Same H (upd H6 lw (.lst (AI ws0++[.ref t6]))):=λ b o e=>by rw[Ae (Ad e hlw0)];exact s6 _ _ (s5 _ _ (s4 b o e))
    have l7:(upd H6 lw (.lst (AI ws0++[.ref t6]))) le=some (.lst (xs++[.ref ea])):=by rw[Ae nel];exact s6 _ _ (s5 _ _ l4)
    have w7:(upd H6 lw (.lst (AI ws0++[.ref t6]))) lw=some (.lst (AI ws0++[.ref t6])):=Ab;have kk7:=((C3 s5).trans (C3 s6)).trans k7;have e7:=k7 _ _ e6 (by intro xs z;cases z);generalize upd H6 lw (.lst (AI ws0++[.ref t6]))=H7 at k7 s7 l7 w7 kk7 e7 |-;have ea7:=kk7 _ _ e4 (by intro xs z;cases z);have hp7:=kk7 _ _ hp4 (by intro xs z;cases z);refine⟨_,rfl,.inl ⟨rfl,_,SqL.of w7⟩,_,rfl,_,rfl,ea,_,_,_,rfl,rfl,SqT.of ea7,Jc,_,rfl,ea,_,_,_,rfl,rfl,SqT.of ea7,QI,pa,pk,u,k,rfl,hp7,λ t8 n8=>?_⟩;obtain⟨H8,g,s8,e8⟩:=nw (.tup (pk.fst u k).vs) n8;rw[g];have w8:=s8 _ _ w7;refine⟨lw,_,_,rfl,rfl,w8,Am (by rw[List.length_append,List.length_map,List.length_singleton];lia),?_⟩;have k9:Kp H8 (upd H8 lw (.lst (AI ws0++[.ref t6]++[.ref t8]))):=Kp.put w8;have kk9:=(C3 s8).trans k9;have kall:=kk7.trans kk9;refine⟨cnt (trs (ws0++[(t6,pk.oth u k,y2)]++[(t8,pk.fst u k,y1)])),?_,xs++[.ref ea],es++[.c u k],ws0++[(t6,pk.oth u k,y2)]++[(t8,pk.fst u k,y1)],_,_,rfl,λ b o e=>?_,?_,en4.kp kall,?_,λ r hr=>?_,λ r hr=>?_,?_,rfl⟩
    .rw[Bo,Bo,B3,B3,Bo,B3];show cnt (trs ws0)+y2.nd+y1.nd<cnt (trs ws0)+(y1.nd+y2.nd+1);lia
    .rw[Ae (Ad e hlw0)];exact s8 b o (s7 b o e)
    .rw[Ae nel];exact s8 _ _ l7
    .rw[Ab,DU,DU]
    .rcases List.mem_append.mp hr with hr|hr
     .rcases List.mem_append.mp hr with hr|hr
      .exact kall _ _ (ps4 r hr) (by intro xs z;cases z)
      .rw[List.mem_singleton.mp hr];exact kk9 _ _ e7 (by intro xs z;cases z)
     .rw[List.mem_singleton.mp hr];exact k9 _ _ e8 (by intro xs z;cases z)
    .rcases List.mem_append.mp hr with hr|hr
     .rcases List.mem_append.mp hr with hr|hr
      .exact gr2 r hr
      .rw[List.mem_singleton.mp hr];exact g2
     .rw[List.mem_singleton.mp hr];exact g1
    .rw[Bo,Bo,AS,AS,<-heq];show es++[.c u k]++(AD y1++(AD y2++Cu (trs ws0)))=es++(.c u k::(AD y1++AD y2)++Cu (trs ws0));simp[List.append_assoc]
def NG:Expr:=match (AE Bf).getD 0 (.Pass ⟨0,0,0,0⟩) with
 |.Return (some (.Call _ [_,k] _ _)) _=>k
 |_=>.Constant .none 0 ⟨0,0,0,0⟩
def Sr:Arguments:=match NG with|.Lambda p _ _ _=>p|_=>Be Bf
def Ss:Expr:=match NG with|.Lambda _ b _ _=>b|e=>e
def lamS3:Scope:=match NG with|.Lambda _ _ s _=>s|_=>Ai Bf
def NF:Pos:=match NG with|.Lambda _ _ _ q=>q|_=>⟨0,0,0,0⟩
def Lp:Str:="cut_up.<locals>.<lambda>"
theorem T9:Jd "block" ["some"] lamS3:=⟨rfl,rfl,rfl,rfl,λ_ _=>rfl,λ_=>rfl,λ y hy=>(by decide +kernel:∀p∈lamS3.names,p.2=.cell->p.1=("block":Str)) _ (PySem.mem_of_lookup hy) rfl,λ y hy=>(by decide +kernel:∀p∈lamS3.names,p.2=.free->p.1∈(["some"]:LSz)) _ (PySem.mem_of_lookup hy) rfl,by decide +kernel⟩
abbrev NY(L:Nat):List (Str×Addr):=[("some",L+1)]
theorem QN:Ak ["sheet","some"] ["sheet","some"] (Ai Bf):=fsc
theorem RK{L:List (Rk×Option Int)}{p:Rk}(h:∀g∈L,Ins g.1 p):inP L p=L:=List.filter_eq_self.mpr λ g hg=>decide_eq_true (h g hg)
theorem Lw{α:Type}(p:α->Bool){L:List α}{i:Nat}{x:α}(h:L[i]?=some x):(L.take (i+1)).filter p=(L.take i).filter p++if p x=true then [x] else []:=by
 rw[List.take_succ,h,List.filter_append];show _=_;cases hx:p x with
 |true=>simp[hx]
 |false=>simp[hx]
theorem FL{ts:List PT}{i:Nat}{t:PT}(q:PT->Bool)(h:ts[i]?=some t):pcs ((ts.take (i+1)).filter q)=pcs ((ts.take i).filter q)++if q t=true then [.ref t.1] else []:=by
 rw[Lw q h];show List.map _ _=_;rw[List.map_append];split<;>rfl
theorem Tv{w h:Int}{ps:List Rc}{p:Rk}{n:Int}(db:DB w h ps p)(e:enG (inP (mks ps) p) p=.w (some n)):Rm w h ps p:=by
 unfold enG at e;by_cases h1:(inP (mks ps) p).length=1
 .rw[if_pos h1]at e;cases e
 .rw[if_neg h1]at e;cases hc:EB ((inP (mks ps) p).map (·.1)) p with
  |nil=>exact⟨db,hc,h1⟩
  |cons c r=>rw[hc]at e;cases e
theorem Up{ps:List Rc}{ts:List PT}(e:cons ts=mks ps){x:PT}(hx:x∈ts):x.2.2.2=none:=by
 have:x.2.2∈cons ts:=List.mem_map.mpr ⟨x,hx,rfl⟩;rw[e]at this;obtain⟨r,_,z⟩:=List.mem_map.mp this;rw[<-z]
theorem Lr{r p:Rk}:GZ r.t r.l r.b r.r p.t p.l p.b p.r=decide (Ins r p):=by
 rw[Bool.eq_iff_iff,decide_eq_true_iff];unfold GZ Ins;simp only[Bool.and_eq_true,decide_eq_true_eq];lia
inductive HJ(tb3:Addr)(vs:LUz)(H:Hp)(Q:VK)(E:XK):Prop
 |mk (a l:Addr) (p:Rk) (ts:List PT) (w h:Int) (ps:List Rc) (h0:vs=[.ref a,.ref l]) (h1:H a=some (.tup p.vs)) (h2:H l=some (.lst (pcs ts))) (h3:PcO H ts) (h4:ts.length<=150) (h5:cons ts=mks ps) (h6:GB.Tiles w h ps) (h7:w<=12) (h8:h<=12) (h9:DB w h ps p) (h10:TabOk NF Lp tb3 H) (h11:∀le xs F H',SameX tb3 H H'->TabOk NF Lp tb3 H'->H' le=some (.lst xs)->EnsR (Rm w h ps) H' xs (AD F)->F.nd<=400->BD p F->(JQ F->(A4 F p).Perm (inP (mks ps) p))->((∃t,BD p t/\((inP (mks ps) p).map (·.1)).Perm ((A4 t p).map (·.1)))->JQ F)->Q (.ref le) H'):HJ tb3 vs H Q E
def EY(tb3:Addr) :Sp:=λ vs H Q E=>HJ tb3 vs H Q E
theorem O9{f:Addr}{fd:FuncData}{c tb3:Addr}(F:FunC K "cut_up" "cut_up" Bf f fd c)(hC:F0 K c tb3=true)(hB:Si K mg)(D_inside:Ay P w K mg base 1 "inside" ["one","other"] CP)(D_entry_for:Ay P w K mg base 4 "entry_for" ["block","some"] Iz)(D_entries_by:Ay P w K mg base 7 "entries_by" ["sheet","entry_at"] (Sn P w K mg base)) :
  A5 P w K mg base CX0 8 f fd ["sheet","some"] (EY tb3):=by
 have S:=QN;refine F.ok S (λ vs H Q E h=>?_) (λ A outer s H vs Q E hr h=>?_)
 .obtain⟨a,l,p,ts,wi,hi,ps,rfl,_⟩:=h;rfl
 .obtain⟨a,l,p,ts,wi,hi,ps,rfl,ha,hl,pc,few,ecs,T0,w2,h2,db,tb,q⟩:=h;have hlam:=PQ (X:=(B8 CX0 P w K mg base ["sheet","some"] "cut_up" (Ai Bf) f (.ref c) A outer s H E).nox) (params:=Sr) (body:=Ss) (scope:=lamS3) (pos:=NF) (qual:=Lp) (clos:=NY s.heap.objs.size) rfl (codeTB_of hC) hB rfl rfl rfl;have hcl:∀p∈NY s.heap.objs.size,(B8 CX0 P w K mg base ["sheet","some"] "cut_up" (Ai Bf) f (.ref c) A outer s H E).nox.env.cells.lookup p.1=some p.2/\(B8 CX0 P w K mg base ["sheet","some"] "cut_up" (Ai Bf) f (.ref c) A outer s H E).nox.env.kindOf p.1=some .cell:=λ p hp=>by
   rw[List.mem_singleton.mp hp];exact⟨rfl,rfl⟩
  refine⟨_,(Ah (Ap (SV (clos:=NY s.heap.objs.size) D_entries_by hr (Aa (pv 0) (Aa hlam Ac)) hcl (λ_=>rfl) rfl))),?_⟩;obtain⟨G,gr,gfit,gp,gt⟩:=OM T0 w2 h2 _ p rfl db;have pk:=db.ok;have pb:=db.bd w2 h2;have Gnd:G.nd<=400:=by
   have w1:1<=p.r-p.l:=by have:=pk.2;lia
   have h1:1<=p.b-p.t:=by have:=pk.1;lia
   have z1:=Hg w1 h1 gfit;have b1:=pb true;have b2:=pb false;have z2:(p.r-p.l)*(p.b-p.t)<=12*12:=Int.mul_le_mul (by have:0<=p.l:=b1.1;have:p.r<=12:=b1.2;lia) (by have:0<=p.t:=b2.1;have:p.b<=12:=b2.2;lia) (by lia) (by lia);have z3:=Qb G;lia
  have tbl:=tb.tbl;refine⟨_,rfl,TabOk.lamC tb λ c' fl ctv H1 s1 tab1 hf hc hnew=>?_⟩;have ne1:∀{x:Addr}{u:HO},H x=some u->(∀ps,u≠.tbl ps)->x≠tb3:=λ{x u} e n z=>by obtain⟨ps,e'⟩:=tbl;rw[z,e']at e;cases e;exact n _ rfl
  intro Lc CA;have tup1:∀{x:Addr}{xs:LUz},H x=some (.tup xs)->H1 x=some (.tup xs):=λ e=>s1 _ _ (ne1 e (by intro ps z;cases z)) e;have hl1:H1 l=some (.lst (pcs ts)):=s1 _ _ (ne1 hl (by intro ps z;cases z)) hl;have up:∀{x:Addr}{u:HO},H1 x=some u->(tkd H1 Lc) x=some u:=λ e=>by rw[AR (Ey CA.new e)];exact e
  have fv:=RO (P:=P) (w:=w) (K:=K) (mg:=mg) (base:=base) (k:=5) (H:=tkd H1 Lc) (f:=fl) (c':=c') (params:=Sr) (body:=Ss) (scope:=lamS3) (qual:=Lp) (pn:="block") (ctv:=ctv) (fs:=["some"]) (clos:=NY s.heap.objs.size) (cv:=[.ref l]) (L:=Lc)
   (sp:=spE (Rm wi hi ps) (λ p=>enG (inP (mks ps) p) p) (DB wi hi ps))
   (up hf) (up hc) T9 rfl (λ y=>?_) (λ x y cc h1 h2=>?_) (λ a o e=>Gp e) CA.has (λ p hp i v hi hv=>?_) (λ_ _=>.of_eq rfl) (λ vs H' Q' E' hsp=>by obtain⟨a',p',rfl,_⟩:=hsp;exact⟨_,rfl⟩)
   (λ A' outer' s' H' E' v Q' sm' hr' hsp=>?_)
  .refine⟨a,fl,p,G,_,_,_,rfl,up (tup1 ha),fv,gr,Gnd,λ le xs H2 s2 nl hle hens=>?_⟩;obtain⟨sU,hk⟩:=P3 CA.new s2;exact⟨hk,q le xs G _ (s1.trans sU.x) (tab1.same sU) (Jr hk hle (by intro o z;cases z)) (hens.tups (λ a xs e=>Jr hk e (by intro o z;cases z))) Gnd gfit gp gt⟩
  .constructor
   .rintro⟨cc,h⟩;have:=PySem.mem_of_lookup h;cases List.mem_singleton.mp this;simp
   .intro hy;rw[List.mem_singleton.mp hy];exact⟨_,rfl⟩
  .have m1:=List.mem_singleton.mp (PySem.mem_of_lookup h1);have m2:=List.mem_singleton.mp (PySem.mem_of_lookup h2);exact(congrArg Prod.fst m1).trans (congrArg Prod.fst m2).symm
  .have hp':=List.mem_singleton.mp hp;subst hp'
   match i,hi with
   |0,_ =>
    cases hv;exact CA.val _ hp 1 _ rfl rfl
  .obtain⟨a',p',ev,ha',db',q'⟩:=hsp;cases ev;refine⟨_,(Au D_entry_for hr' (Aa (pv 0) (Aa (Ck rfl (AJ (pv 1)) (λ_ _ _ _ _=>(Aj (i:=0) (show List.Nodup (["piece","block"]:LSz) from by decide +kernel) rfl (Or.inl rfl))) (λ_ _ _ _ _=>(Bc (Au D_inside hr' (Aa (An (EL (K:=K)) (pv 0) Ag (λ_ _=>rfl)) (Aa (pv 1) Ac))))) (λ_ _ _ _ _=>(pv 0)) (N:=["piece","block"]) (fr:=[none,some 0])) Ac))),?_⟩;have hL':∀a o,Lc.lookup a=some o->H' a=some (By a o):=λ a o e=>sm' _ _ (Gp e);have kp:∀{x:Addr}{u:HO},H1 x=some u->(∀o,u≠By x o)->(utk H' Lc) x=some u:=λ e n=>Jr hL' (sm' _ _ (up e)) n;have hau:=Jr hL' ha' (by intro o z;cases z);have hlu:=kp hl1 (by intro o z;cases z);have pcu:PcO (utk H' Lc) ts:=λ x hx=>⟨kp (tup1 (pc x hx).1) (by intro o z;cases z),kp (tup1 (pc x hx).2) (by intro o z;cases z)⟩;have sm2:∀{H2:Hp},Same (utk H' Lc) H2->Same H' (tkd H2 Lc):=λ{H2} s3 x o e=>by
    cases q:Lc.lookup x with
    |some o'=>rw[hL' x o' q]at e;cases e;exact Gp q
    |none=>rw[AR q];exact s3 _ _ (by rw[Bi q];exact e)
   refine⟨_,rfl,_,rfl,l,rfl,⟨_,SqL.of hlu⟩,λ acc hacc=>Cs (K:=K) (a:=l) (ys:=pcs ts) (λ i zs σ H2=>(∃y,σ=[y,some (.ref a')])/\Same (utk H' Lc) H2/\zs=pcs ((ts.take i).filter λ t=>decide (Ins t.2.2.1 p'))) ⟨⟨none,rfl⟩,Same.new hacc,rfl⟩ (λ i zs σ H2 _ _ hp=>SqL.of (hp.2.1 _ _ hlu)) ?_ ?_⟩
   .rintro i x zs σ H2 hx hi hl' hacc' ⟨⟨y,rfl⟩,hs,rfl⟩;obtain⟨z,hz,rfl⟩:=NA hx;obtain⟨g1,g2⟩:=(pcu.same hs) z (List.mem_of_getElem? hz);have ft:=FL (λ t:PT=>decide (Ins t.2.2.1 p')) hz;refine⟨_,rfl,z.1,_,_,_,rfl,rfl,SqT.of g1,Jc,_,rfl,z.2.1,a',_,_,_,_,_,_,_,_,rfl,g2,hs _ _ hau,_,rfl,?_⟩;rw[Lr];cases h3:decide (Ins z.2.2.1 p') with
    |true =>
     refine⟨_,rfl,fNx.mk (Nat.le_of_lt (Am (by rw[List.length_map];lia))) hi hl' hacc' ⟨⟨_,rfl⟩,λ c o e=>by rw[Ae (Ad e hacc)];exact hs c o e,?_⟩⟩;rw[ft,h3,if_pos rfl]
    |false=>exact fSk.mk hi hl' hacc' ⟨⟨_,rfl⟩,hs,by rw[ft,h3,if_neg Bool.false_ne_true,List.append_nil]⟩
   rintro zs σ H2 hzl ac2 ⟨_,s2,rfl⟩;rw[List.length_map,List.take_length]at ac2;have ec:cons (ts.filter λ t=>decide (Ins t.2.2.1 p'))=inP (cons ts) p':=by
    unfold inP;show List.map _ _=List.filter _ (List.map _ ts);rw[List.filter_map];rfl
   have fl:(ts.filter λ t=>decide (Ins t.2.2.1 p')).length<=ts.length:=List.length_filter_le _ _;refine⟨a',acc,p',ts.filter λ t=>decide (Ins t.2.2.1 p'),rfl,s2 _ _ hau,ac2,λ x hx=>(pcu.same s2) x (List.mem_filter.mp hx).1,by lia,db'.ok,db'.bd w2 h2,λ x hx=>Up ecs (List.mem_filter.mp hx).1,λ e H3 s3 e3 hno=>?_⟩;rw[ec,ecs]at e3;refine q' e _ (sm2 (s2.trans s3)) (EnR.imp (R:=λ z=>z=p') (λ n p2 en e2=>by rw[e2];exact Tv db' en) (e3.tups λ x xs ex=>?_));cases qo:Lc.lookup x with
   |some o=>rw[hno x o qo]at ex;cases ex
   |none=>rw[AR qo];exact ex
def onB(x y:LD):Bool:=(x.1 != y.1)&&((decide (y.2.1=x.2.2.1)||decide (y.2.1=x.2.2.2))&&(decide (y.2.2.1<x.2.1)&&decide (x.2.1<y.2.2.2)))
theorem onB_iff{x y:LD}:onB x y=true↔On x y:=by
 unfold onB On;simp only[Bool.and_eq_true,Bool.or_eq_true,decide_eq_true_eq,bne_iff_ne]
def Dz:List LD->Bool
 |[x0,x1,x2,x3]=>onB x3 x0&&(onB x0 x1&&(onB x1 x2&&(onB x2 x3&&true)))
 |_=>false
theorem QY:∀{xs:List LD},xs.length≠4->Dz xs=false
 |[],_=>rfl
 |[_],_=>rfl
 |[_,_],_=>rfl
 |[_,_,_],_=>rfl
 |[_,_,_,_],h=>absurd rfl h
 |_::_::_::_::_::_,_=>rfl
theorem QB(u v:Bool):decide (V.str (cond u "upright" "level")=V.str (cond v "upright" "level"))=(u==v):=by cases u<;>cases v<;>decide +kernel
theorem in2(k b e:Int):inV (.int k) [.int b,.int e]=(decide (k=b)||decide (k=e)):=by
 show((b==k)||((e==k)||false))=_;have f:∀i j:Int,(i==j)=decide (j=i):=λ i j=>by rw[Bool.eq_iff_iff];simp only[beq_iff_eq,decide_eq_true_eq];exact⟨Eq.symm,Eq.symm⟩
 rw[f,f,Bool.or_false]
theorem atM{x0 x1 x2 x3:V}:atI [x0,x1,x2,x3] (-1)=some x3:=rfl
inductive QQ(vs:LUz)(H:Hp)(Q:VK)(E:XK):Prop
 |mk (a b:Addr) (x y:LD) (h0:vs=[.ref a,.ref b]) (h1:H a=some (.tup ((Tm x).map kV))) (h2:H b=some (.tup ((Tm y).map kV))) (h3:∀H',Same H H'->Q (.bl (onB x y)) H'):QQ vs H Q E
def Px:Sp:=λ vs H Q E=>QQ vs H Q E
inductive LP(vs:LUz)(H:Hp)(Q:VK)(E:XK):Prop
 |mk (l:Addr) (us:List (Addr×LD)) (h0:vs=[.ref l]) (h1:H l=some (.lst (AZ us))) (h2:AtL H us) (h3:∀H',Same H H'->Q (.bl (Dz (us.map (·.2)))) H'):LP vs H Q E
def Nl:Sp:=λ vs H Q E=>LP vs H Q E
theorem OY:Ak ["lead","other"] ["lead","other"] (Ai Fa):=fsc
theorem M2{f:Addr}{fd:FuncData}(F:Fun K "lies_on" "lies_on" Fa f fd):A5 P w K mg base CX0 1 f fd ["lead","other"] Px:=by
 have S:=OY;refine F.ok S (λ vs H Q E h=>?_) (λ cdv A outer s H vs Q E hr h=>?_)
 .obtain⟨a,b,x,y,rfl,_⟩:=h;rfl
 .obtain⟨a,b,x,y,rfl,ha,hb,q⟩:=h;have ha:H a=some (.tup [.str (cond x.1 "upright" "level"),.int x.2.1,.int x.2.2.1,.int x.2.2.2]):=ha;have hb:H b=some (.tup [.str (cond y.1 "upright" "level"),.int y.2.1,.int y.2.2.1,.int y.2.2.2]):=hb;refine⟨_,(Af (AL (A9 Cl (An Al (pv 0) Ag (λ_ _=>rfl)) (An Al (pv 1) Ag (λ_ _=>rfl)) (A3 _)) (Ah (Ap G6)) A6)
   (Ah (Ap (Do (Bk IF (An Al (pv 1) Ag (λ_ _=>rfl)) (Az (Aa (An Al (pv 0) Ag (λ_ _=>rfl)) (Aa (An Al (pv 0) Ag (λ_ _=>rfl)) Ac))) rfl) (Cj (DG DH DH (An Al (pv 1) Ag (λ_ _=>rfl)) (An Al (pv 0) Ag (λ_ _=>rfl)) (An Al (pv 1) Ag (λ_ _=>rfl)))))))),?_⟩
  refine⟨_,rfl,a,_,_,_,rfl,rfl,SqT.of ha,at0,_,rfl,b,_,_,_,rfl,rfl,SqT.of hb,at0,rfl,_,rfl,Bw (λ h=>?_) (λ h=>?_)⟩
  .rw[QB]at h;have e:onB x y=false:=by unfold onB;rw[show(x.1 != y.1)=false by rw[bne,h];rfl];rfl
   show Q (.bl false) H;rw[<-e];exact q H (Same.refl H)
  .rw[QB]at h;have h0:(x.1 != y.1)=true:=by rw[bne,h];rfl
   refine⟨_,rfl,b,_,_,_,rfl,rfl,SqT.of hb,at1,_,rfl,a,_,_,_,rfl,rfl,SqT.of ha,at2,_,rfl,a,_,_,_,rfl,rfl,SqT.of ha,at3,Av 2,λ t ht=>?_⟩;have s1:Same H (upd H t (.tup [.int x.2.2.1,.int x.2.2.2])):=Same.new ht;have key:=q _ s1;unfold onB at key;refine⟨t,_,rfl,.inr (SqT.of Ab),rfl,rfl,_,rfl,Bw (λ h1=>?_) (λ h1=>?_)⟩
   .rw[if_neg Bool.false_ne_true,in2]at h1;refine⟨_,rfl,b,_,_,_,rfl,rfl,SqT.of (s1 _ _ hb),at2,_,rfl,a,_,_,_,rfl,rfl,SqT.of (s1 _ _ ha),at1,_,_,rfl,rfl,_,rfl,Bw (λ h2=>?_) (λ h2=>?_)⟩
    .refine⟨_,rfl,b,_,_,_,rfl,rfl,SqT.of (s1 _ _ hb),at3,_,_,rfl,rfl,?_⟩;rw[h0,h1,h2]at key;exact key
    .show Q (.bl false) _;rw[h0,h1,h2]at key;exact key
   .rw[if_neg Bool.false_ne_true,in2]at h1;show Q (.bl false) _;rw[h0,h1]at key;exact key
theorem T7:Ak ["some"] ["some"] (Ai Mo):=fsc
theorem R9{f:Addr}{fd:FuncData}(F:Fun K "turn" "turn" Mo f fd)(T:Txt mg tk)(D_lies_on:Ay P w K mg base 1 "lies_on" ["lead","other"] Px):A5 P w K mg base CX0 2 f fd ["some"] Nl:=by
 have S:=T7;refine F.ok S (λ vs H Q E h=>?_) (λ cdv A outer s H vs Q E hr h=>?_)
 .obtain⟨l,us,rfl,_⟩:=h;rfl
 .obtain⟨l,us,rfl,hl,ha,q⟩:=h;refine⟨_,(Af (AL (A9 PU (A0 AA rfl T.z_len rfl (Aa (pv 0) Ac)) Ag (A3 _)) (Ah (Ap G6)) A6)
   (Ah (Ap (A0 Hn rfl T.z_all rfl (Aa (DW rfl (DV rfl T.z_range (Aa Ag Ac)) (λ_ _ _ _ _=>(Aj (i:=0) (show List.Nodup (["place","some"]:LSz) from by decide +kernel) rfl (Or.inl rfl))) (λ_ _ _ _ _=>(Au D_lies_on hr (Aa (An (CW (K:=K)) (pv 1) (Ar AM (pv 0) Ag) (λ_ _=>rfl)) (Aa (An (CW (K:=K)) (pv 1) (pv 0) (λ_ _=>rfl)) Ac)))) (N:=["place","some"]) (fr:=[none,some 0])) Ac))))),?_⟩
  refine⟨_,rfl,l,_,rfl,.inl (SqL.of hl),rfl,_,rfl,Bw (λ h=>?_) (λ h=>?_)⟩
  .have e:Dz (us.map (·.2))=false:=QY λ z=>U7 h (by rw[List.length_map];rw[List.length_map]at z;exact z);show Q (.bl false) H;rw[<-e];exact q H (Same.refl H)
  .have h4:=Sy h;rw[List.length_map]at h4;obtain⟨u0,u1,u2,u3,rfl⟩:=Vm h4;have a0:=ha u0 (by simp);have a1:=ha u1 (by simp);have a2:=ha u2 (by simp);have a3:=ha u3 (by simp);refine⟨4,rfl,by decide,by decide,λ acc hacc=>MQ (lo:=0) (n:=(4:Int).toNat)
    (λ i zs σ H'=>(∃y,σ=[y,some (.ref l)])/\Same H H'/\zs=([onB u3.2 u0.2,onB u0.2 u1.2,onB u1.2 u2.2,onB u2.2 u3.2].take i).map V.bl) ⟨⟨none,rfl⟩,Same.new hacc,rfl⟩ ?_ ?_⟩
   .rintro i zs σ H' hi hl' hacc' ⟨⟨y,rfl⟩,hs,rfl⟩;have hi4:i<4:=hi;have key:∀{H2:Hp},Same H' H2->Same H (upd H2 acc (.lst (([onB u3.2 u0.2,onB u0.2 u1.2,onB u1.2 u2.2,onB u2.2 u3.2].take (i+1)).map V.bl))):=λ s2 b o e=>by
     rw[Ae (Ad e hacc)];exact s2 b o (hs b o e)
    obtain rfl|rfl|rfl|rfl:i=0\/i=1\/i=2\/i=3:=by lia
    .exact⟨_,rfl,_,rfl,_,_,rfl,rfl,l,_,_,_,rfl,rfl,SqL.of (hs _ _ hl),atM,_,rfl,_,rfl,l,_,_,_,rfl,rfl,SqL.of (hs _ _ hl),at0,u3.1,u0.1,u3.2,u0.2,rfl,hs _ _ a3,hs _ _ a0,λ H2 s2=>cNx.mk (by decide) hi hl' (s2 _ _ hacc') ⟨⟨_,rfl⟩,key s2,rfl⟩⟩
    .exact⟨_,rfl,_,rfl,_,_,rfl,rfl,l,_,_,_,rfl,rfl,SqL.of (hs _ _ hl),at0,_,rfl,_,rfl,l,_,_,_,rfl,rfl,SqL.of (hs _ _ hl),at1,u0.1,u1.1,u0.2,u1.2,rfl,hs _ _ a0,hs _ _ a1,λ H2 s2=>cNx.mk (by decide) hi hl' (s2 _ _ hacc') ⟨⟨_,rfl⟩,key s2,rfl⟩⟩
    .exact⟨_,rfl,_,rfl,_,_,rfl,rfl,l,_,_,_,rfl,rfl,SqL.of (hs _ _ hl),at1,_,rfl,_,rfl,l,_,_,_,rfl,rfl,SqL.of (hs _ _ hl),at2,u1.1,u2.1,u1.2,u2.2,rfl,hs _ _ a1,hs _ _ a2,λ H2 s2=>cNx.mk (by decide) hi hl' (s2 _ _ hacc') ⟨⟨_,rfl⟩,key s2,rfl⟩⟩
    .exact⟨_,rfl,_,rfl,_,_,rfl,rfl,l,_,_,_,rfl,rfl,SqL.of (hs _ _ hl),at2,_,rfl,_,rfl,l,_,_,_,rfl,rfl,SqL.of (hs _ _ hl),at3,u2.1,u3.1,u2.2,u3.2,rfl,hs _ _ a2,hs _ _ a3,λ H2 s2=>cNx.mk (by decide) hi hl' (s2 _ _ hacc') ⟨⟨_,rfl⟩,key s2,rfl⟩⟩
   .rintro zs σ H' hl' hacc' ⟨_,hs,rfl⟩;exact⟨acc,[onB u3.2 u0.2,onB u0.2 u1.2,onB u1.2 u2.2,onB u2.2 u3.2],rfl,SqL.of hacc',rfl,q H' hs⟩
inductive Od(C:Addr)(vs:LUz)(H:Hp)(Q:VK)(E:XK):Prop
 |mk (a dx ls ld b:Addr) (w h:Int) (ts:List (Addr×Rc)) (kvs:LKz) (q:Rc) (h0:vs=[.ref a,.ref b]) (h1:PanelAt C H a w h ts dx ls ld kvs) (h2:H b=some (.tup (A8 q.t q.l q.b q.r))) (h3:blk w h (rcs ts) q=true) (h4:∀l H',Same H H'->H' l=some (.lst (Ao (ts.filter λ t=>BY t.2 q)))->Q (.ref l) H'):Od C vs H Q E
def Pu(C:Addr) :Sp:=λ vs H Q E=>Od C vs H Q E
theorem MU:Ak ["panel","block"] ["panel","block"] (Ai Eo):=fsc
theorem KU{f:Addr}{fd:FuncData}(F:Fun K "panes_in" "panes_in" Eo f fd)(D_check_block:Ay P w K mg base 4 "check_block" ["panel","block"] (Mj C))(D_inside:Ay P w K mg base 1 "inside" ["one","other"] CP)(M_Panel_panes:Ip P w K mg base 1 C "panes" ["self"] (D9 C)):A5 P w K mg base CX0 5 f fd ["panel","block"] (Pu C):=by
 have S:=MU;refine F.ok S (λ vs H Q E h=>?_) (λ cdv A outer s H vs Q E hr h=>?_)
 .obtain⟨a,dx,ls,ld,b,ww,hh,ts,kvs,q,rfl,_⟩:=h;rfl
 .obtain⟨a,dx,ls,ld,b,ww,hh,ts,kvs,q,rfl,pn,hb,hk,k⟩:=h;refine⟨_,(Af (AH (Au D_check_block hr (Aa (pv 0) (Aa (pv 1) Ac))))
   (Ah (Ap (Ck rfl (AJ (G4 M_Panel_panes hr (pv 0))) (λ_ _ _ _ _=>(Aj (i:=0) (show List.Nodup (["pane","block"]:LSz) from by decide +kernel) rfl (Or.inl rfl))) (λ_ _ _ _ _=>(Bc (Au D_inside hr (Aa (pv 0) (Aa (pv 1) Ac))))) (λ_ _ _ _ _=>(pv 0)) (N:=["pane","block"]) (fr:=[none,some 1]))))),?_⟩
  refine⟨_,rfl,_,rfl,a,dx,ls,ld,b,ww,hh,ts,kvs,q,rfl,pn,hb,hk,λ H1 s1=>?_⟩;have pn1:=pn.same s1;refine⟨_,rfl,a,dx,_,rfl,pn1.ob,EK,a,dx,ls,ld,ww,hh,ts,kvs,rfl,pn1,λ l hl=>?_⟩;have s3:=s1.trans (Same.new (o:=.lst (Ao ts)) hl);have el:(upd H1 l (.lst (Ao ts))) l=some (.lst (Ao ts)):=Ab;generalize upd H1 l (.lst (Ao ts))=H3 at s3 el |-;have hb3:=s3 _ _ hb;refine⟨l,rfl,⟨_,SqL.of el⟩,λ acc hacc=>Cs (K:=K) (a:=l) (ys:=Ao ts) (λ i xs σ H'=>(∃y,σ=[y,some (.ref b)])/\Same H3 H'/\xs=Ao ((ts.take i).filter λ t=>BY t.2 q)) ⟨⟨none,rfl⟩,Same.new hacc,rfl⟩ (λ i xs σ H' _ _ hp=>SqL.of (hp.2.1 _ _ el)) ?_ ?_⟩
  .rintro i x xs σ H' hx hi hl' hacc' ⟨⟨y,rfl⟩,s4,rfl⟩;obtain⟨u,hu',rfl⟩:=Bg hx;have hua:=(s3.trans s4) _ _ (pn.ats u (List.mem_of_getElem? hu'));have hb4:=s4 _ _ hb3;have ef:=MM (λ t:Addr×Rc=>BY t.2 q) hu';refine⟨_,rfl,_,rfl,u.1,b,_,_,_,_,_,_,_,_,rfl,hua,hb4,_,rfl,?_⟩;cases h3:BY u.2 q with
   |true =>
    have h3':GZ u.2.t u.2.l u.2.b u.2.r q.t q.l q.b q.r=true:=h3;rw[h3'];refine⟨_,rfl,fNx.mk (Nat.le_of_lt (Am (by rw[List.length_map];have:=pn.few;lia))) hi hl' hacc' ⟨⟨_,rfl⟩,λ c o e=>?_,?_⟩⟩
    .rw[Ae (Ad e hacc)];exact s4 c o e
    .rw[ef,h3,if_pos rfl,IA]
   |false =>
    have h3':GZ u.2.t u.2.l u.2.b u.2.r q.t q.l q.b q.r=false:=h3;rw[h3'];exact fSk.mk hi hl' hacc' ⟨⟨_,rfl⟩,s4,by rw[ef,h3,if_neg Bool.false_ne_true,List.append_nil]⟩
  .rintro xs σ H' hl' hacc' ⟨_,s4,rfl⟩;have e:(Ao ts).length=ts.length:=List.length_map _;rw[e,List.take_length]at hacc';exact k acc H' (s3.trans s4) hacc'
inductive Oe(vs:LUz)(H:Hp)(Q:VK)(E:XK):Prop
 |mk (a:Int) (l:Addr) (ts:List (Addr×Rk)) (u:Bool) (h0:vs=[.int a,.ref l,.int (sd u)]) (h1:H l=some (.lst (Ao ts))) (h2:PnO H ts) (h3:ts.length<=150) (h4:(∃t∈ts,Dx u a t.2=true)) (h5:∀t H',Same H H'->Q (.ref t) H'):Oe vs H Q E
def Pw:Sp:=λ vs H Q E=>Oe vs H Q E
theorem Ie:Ak ["line","panes","side"] ["line","panes","side"] (Ai CB):=fsc
theorem KJ{α:Type}{ts:List (Addr×α)}{i:Nat}{t:Addr×α}(q:Addr×α->Bool)(h:ts[i]?=some t):Ao ((ts.take (i+1)).filter q)=Ao ((ts.take i).filter q)++if q t=true then [V.ref t.1] else []:=by
 rw[List.take_succ,h,List.filter_append];show List.map _ (_++List.filter q [t])=_;rw[List.filter_cons,List.filter_nil];cases q t<;>simp
theorem GA{f:Addr}{fd:FuncData}(F:Fun K "pane_broken" "pane_broken" CB f fd)(D_line_breaks:Ay P w K mg base 1 "line_breaks" ["line","pane","side"] Ml):A5 P w K mg base CX0 2 f fd ["line","panes","side"] Pw:=by
 have S:=Ie;refine F.ok S (λ vs H Q E h=>?_) (λ cdv A outer s H vs Q E hr h=>?_)
 .obtain⟨a,l,ts,u,rfl,_⟩:=h;rfl
 .obtain⟨a,l,ts,u,rfl,hl,hat,few,⟨t0,ht0,hb0⟩,q⟩:=h;refine⟨_,(Ah (Ap (An Bd (Ck rfl (AJ (pv 1)) (λ_ _ _ _ _=>(Aj (i:=0) (show List.Nodup (["pane","line","side"]:LSz) from by decide +kernel) rfl (Or.inl rfl))) (λ_ _ _ _ _=>(Bc (Au D_line_breaks hr (Aa (pv 1) (Aa (pv 0) (Aa (pv 2) Ac)))))) (λ_ _ _ _ _=>(pv 0)) (N:=["pane","line","side"]) (fr:=[none,some 0,some 2])) Ag (λ_ _=>rfl)))),?_⟩;refine⟨_,rfl,l,rfl,⟨_,SqL.of hl⟩,λ acc hacc=>Cs (K:=K) (a:=l) (ys:=Ao ts) (λ i xs σ H'=>(∃y,σ=[y,some (.int a),some (.int (sd u))])/\Same H H'/\xs=Ao ((ts.take i).filter λ t=>Dx u a t.2)) ⟨⟨none,rfl⟩,Same.new hacc,rfl⟩ (λ i xs σ H' _ _ hp=>SqL.of (hp.2.1 _ _ hl)) ?_ ?_⟩
  .rintro i x xs σ H' hx hi hl' hacc' ⟨⟨y,rfl⟩,s4,rfl⟩;obtain⟨t,ht,rfl⟩:=Bg hx;have hta:=s4 _ _ (hat t (List.mem_of_getElem? ht));have ef:=KJ (λ t:Addr×Rk=>Dx u a t.2) ht;refine⟨_,rfl,_,rfl,_,rfl,a,t.1,t.2,u,rfl,hta,_,rfl,?_⟩;cases h3:Dx u a t.2 with
   |true =>
    refine⟨_,rfl,fNx.mk (Nat.le_of_lt (Am (by rw[List.length_map];lia))) hi hl' hacc' ⟨⟨_,rfl⟩,λ c o e=>?_,?_⟩⟩
    .rw[Ae (Ad e hacc)];exact s4 c o e
    .rw[ef,h3,if_pos rfl]
   |false=>exact fSk.mk hi hl' hacc' ⟨⟨_,rfl⟩,s4,by rw[ef,h3,if_neg Bool.false_ne_true,List.append_nil]⟩
  .rintro xs σ H' hl' hacc' ⟨_,s4,rfl⟩;have e:(Ao ts).length=ts.length:=List.length_map _;rw[e,List.take_length]at hacc';have mem:t0∈ts.filter λ t=>Dx u a t.2:=List.mem_filter.mpr ⟨ht0,hb0⟩;cases hf:ts.filter λ t=>Dx u a t.2 with
   |nil=>rw[hf]at mem;cases mem
   |cons x r =>
    rw[hf]at hacc';exact⟨acc,_,_,_,rfl,rfl,SqL.of hacc',Km,q x.1 H' s4⟩
inductive LZ(C:Addr)(vs:LUz)(H:Hp)(Q:VK)(E:XK):Prop
 |mk (a dx ls ld b:Addr) (w h:Int) (ts:List (Addr×Rc)) (kvs:LKz) (q:Rc) (h0:vs=[.ref a,.ref b]) (h1:PanelAt C H a w h ts dx ls ld kvs) (h2:H b=some (.tup (A8 q.t q.l q.b q.r))) (h3:Rm w h (rcs ts) q) (h4:∀l H',Same H H'->Q (.ref l) H'):LZ C vs H Q E
def Nu(C:Addr) :Sp:=λ vs H Q E=>LZ C vs H Q E
theorem LM:Ak ["panel","room","panes","found","word","side","line"] ["panel","room"] (Ai DE):=fsc
theorem JO{f:Addr}{fd:FuncData}(F:Fun K "breaks_of" "breaks_of" DE f fd)(T:Txt mg tk)(D_panes_in:Ay P w K mg base 5 "panes_in" ["panel","block"] (Pu C))(D_pane_broken:Ay P w K mg base 2 "pane_broken" ["line","panes","side"] Pw):A5 P w K mg base CX0 6 f fd ["panel","room"] (Nu C):=by
 have S:=LM;refine F.ok S (λ vs H Q E h=>?_) (λ cdv A outer s H vs Q E hr h=>?_)
 .obtain⟨a,dx,ls,ld,b,ww,hh,ts,kvs,q,rfl,_⟩:=h;rfl
 .obtain⟨a,dx,ls,ld,b,ww,hh,ts,kvs,q,rfl,pn,hb,rm,k⟩:=h;have gw:=pn.sw;have gh:=pn.sh;have bd:=rm.db.bd gw.2 gh.2;have few:=pn.few;refine⟨_,(Af (Aq (i:=2) S.nd rfl (Or.inl rfl) (Au D_panes_in hr (Aa (pv 0) (Aa (pv 1) Ac))))
   (Af (Aq (i:=3) S.nd rfl (Or.inl rfl) (AO Ac))
   (Af (AX PassesOwn.never rfl (Mw (Az (Aa (Az (Aa (A7 (v:=.str "upright") rfl T.g_UPRIGHT_cuts ⟨_,rfl⟩) (Aa (A7 (v:=.int 1) rfl T.g_LEFT ⟨_,rfl⟩) Ac))) (Aa (Az (Aa (A7 (v:=.str "level") rfl T.g_LEVEL_cuts ⟨_,rfl⟩) (Aa (A7 (v:=.int 0) rfl T.g_TOP ⟨_,rfl⟩) Ac))) Ac)))) (BS rfl (Ax (Aj (i:=4) S.nd rfl (Or.inl rfl)) (Ax (Aj (i:=5) S.nd rfl (Or.inl rfl)) Bj))) (Ah (AX PassesOwn.never rfl (B6 rfl T.z_range (Aa (Ar AC (An Al (pv 1) (pv 5) (λ_ _=>rfl)) Ag) (Aa (An Al (pv 1) (Ar AC (pv 5) Ag) (λ_ _=>rfl)) Ac))) (Aj (i:=6) S.nd rfl (Or.inl rfl)) (Ah (AH (BW PySem.F.plainAttrs_list PySem.F.slot_list_append PySem.F.type_list_append AG (pv 3) (Aa (Az (Aa (pv 4) (Aa (pv 6) (Aa (Au D_pane_broken hr (Aa (pv 6) (Aa (pv 2) (Aa (pv 5) Ac)))) Ac)))) Ac)))))))
   (Ah (Ap (pv 3)))))),?_⟩
  refine⟨_,rfl,_,rfl,a,dx,ls,ld,b,ww,hh,ts,kvs,q,rfl,pn,hb,rm.db.blk,λ lp H1 s1 e1=>?_⟩;refine⟨Av 0,λ lf hlf=>?_⟩;have hlf0:H lf=none:=none_of s1 hlf;have s2:=s1.trans (Same.new (o:=.lst []) hlf);have e2:(upd H1 lf (.lst [])) lf=some (.lst []):=Ab;have n2:lp≠lf:=Ad e1 hlf;have p2:(upd H1 lf (.lst [])) lp=some (.lst (Ao (ts.filter λ t=>BY t.2 q))):=by rw[Ae n2];exact e1
  generalize upd H1 lf (.lst [])=H2 at s2 e2 p2 |-;refine⟨Av 2,λ t1 h1=>?_⟩;have s3:=Same.new (o:=.tup [.str "upright",.int 1]) h1;have e3:(upd H2 t1 (.tup [.str "upright",.int 1])) t1=_:=Ab;generalize upd H2 t1 (.tup [.str "upright",.int 1])=H3 at s3 e3 |-;refine⟨Av 2,λ t2 h2=>?_⟩;have s4:=Same.new (o:=.tup [.str "level",.int 0]) h2;have e4:(upd H3 t2 (.tup [.str "level",.int 0])) t2=_:=Ab;generalize upd H3 t2 (.tup [.str "level",.int 0])=H4 at s4 e4 |-;refine⟨Av 2,λ t3 h3=>?_⟩;have s5:=Same.new (o:=.tup [.ref t1,.ref t2]) h3;have e5:(upd H4 t3 (.tup [.ref t1,.ref t2])) t3=_:=Ab;have s35:=s4.trans s5;have s25:=s3.trans s35;have kp:Kp H1 H1:=C3 (Same.refl H1);have e3':=s35 _ _ e3;have e4':=s5 _ _ e4;have p5:=s25 _ _ p2;have f5:=s25 _ _ e2;have sB:=s2.trans s25;generalize upd H4 t3 (.tup [.ref t1,.ref t2])=H5 at s5 e5 s35 s25 e3' e4' p5 f5 sB |-;have pnO:∀{Hk:Hp},Same H Hk->PnO Hk (ts.filter λ t=>BY t.2 q):=λ sx t ht=>sx _ _ (pn.ats t (List.mem_filter.mp ht).1);refine⟨t3,rfl,⟨_,SqT.of e5⟩,NO (K:=K) (a:=t3) (xs:=[.ref t1,.ref t2]) (λ i σ H'=>∃(xs:LUz)(x4 x5 x6:Option V),σ=[some (.ref a),some (.ref b),some (.ref lp),some (.ref lf),x4,x5,x6]/\Same H H'/\H' lf=some (.lst xs)/\H' lp=some (.lst (Ao (ts.filter λ t=>BY t.2 q)))/\H' t1=some (.tup [.str "upright",.int 1])/\H' t2=some (.tup [.str "level",.int 0])/\H' t3=some (.tup [.ref t1,.ref t2])/\xs.length<=20*i)
   ⟨[],_,_,_,rfl,sB,f5,p5,e3',e4',e5,Nat.le_refl _⟩ (λ i σ H' _ hp=>by obtain⟨_,_,_,_,_,_,_,_,_,_,h,_⟩:=hp;exact SqT.of h) ?_ ?_⟩
  .rintro i x σ H' hx ⟨xs,x4,x5,x6,rfl,s6,f6,p6,a6,b6,c6,n6⟩;have hi2:i<2:=(List.getElem?_eq_some_iff.mp hx).1;obtain⟨u,t,rfl,ht⟩:∃(u:Bool)(t:Addr),x=.ref t/\H' t=some (.tup [.str (wd u),.int (sd u)]):=by
    have:=List.mem_of_getElem? hx;simp only[List.mem_cons,List.not_mem_nil,or_false]at this;rcases this with rfl|rfl
    .exact⟨true,_,rfl,a6⟩
    .exact⟨false,_,rfl,b6⟩
   refine⟨t,_,rfl,SqT.of ht,rfl,_,_,rfl,_,_,rfl,rfl,?_⟩;have bu:=bd u;have lh:Rk.lo q u<Rk.hi q u:=Ev rm.db.ok u;have hb6:=s6 _ _ hb;refine⟨_,rfl,_,rfl,b,_,_,_,rfl,rfl,SqT.of hb6,LB,_,_,rfl,rfl,_,rfl,_,rfl,_,_,rfl,rfl,b,_,_,_,rfl,rfl,SqT.of hb6,QG,Rk.lo q u+1,Rk.hi q u,rfl,⟨by lia,by lia,by lia,by lia⟩,BH (lo:=Rk.lo q u+1) (n:=(Rk.hi q u-(Rk.lo q u+1)).toNat) (λ j σ H'=>∃(xs:LUz)(x6:Option V),σ=[some (.ref a),some (.ref b),some (.ref lp),some (.ref lf),some (.str (wd u)),some (.int (sd u)),x6]/\Same H H'/\H' lf=some (.lst xs)/\H' lp=some (.lst (Ao (ts.filter λ t=>BY t.2 q)))/\H' t1=some (.tup [.str "upright",.int 1])/\H' t2=some (.tup [.str "level",.int 0])/\H' t3=some (.tup [.ref t1,.ref t2])/\xs.length<=20*i+j)
    ⟨xs,_,rfl,s6,f6,p6,a6,b6,c6,by lia⟩ ?_ ?_⟩
   .rintro j σ H7 hj ⟨ys,y6,rfl,s7,f7,p7,a7,b7,c7,n7⟩;obtain⟨r,hr,ir,b1,b2⟩:=rm.brk (u:=u) (a:=Rk.lo q u+1+j) (by lia) (by lia);obtain⟨t0,ht0,rfl⟩:=List.mem_map.mp hr;refine⟨_,rfl,.inl ⟨rfl,_,SqL.of f7⟩,_,rfl,_,rfl,_,rfl,_,rfl,_,rfl,Rk.lo q u+1+j,lp,ts.filter λ t=>BY t.2 q,u,rfl,p7,pnO s7,Nat.le_trans (List.length_filter_le _ _) (by lia),⟨t0,List.mem_filter.mpr ⟨ht0,by show GZ _ _ _ _ _ _ _ _=true;rw[Lr];exact decide_eq_true ir⟩,brkR_iff.mpr ⟨b1,b2⟩⟩,λ tv H8 s8=>?_⟩;refine⟨Av 3,λ t9 h9=>?_⟩;have s9:=s8.trans (Same.new (o:=.tup [.str (wd u),.int (Rk.lo q u+1+j),.ref tv]) h9);generalize upd H8 t9 (.tup [.str (wd u),.int (Rk.lo q u+1+j),.ref tv])=H9 at s9 |-;have f9:=s9 _ _ f7;refine⟨lf,_,_,rfl,rfl,f9,Am (by lia),ys++[.ref t9],_,rfl,λ c o e=>?_,Ab,?_,?_,?_,?_,by rw[List.length_append,List.length_singleton];lia⟩
    .rw[Ae (Ad e hlf0)];exact(s7.trans s9) c o e
    .rw[Ae n2];exact s9 _ _ p7
    .rw[Ae (AU (s9 _ _ a7) f9 (by intro z;cases z))];exact s9 _ _ a7
    .rw[Ae (AU (s9 _ _ b7) f9 (by intro z;cases z))];exact s9 _ _ b7
    .rw[Ae (AU (s9 _ _ c7) f9 (by intro z;cases z))];exact s9 _ _ c7
   .rintro σ H7 ⟨ys,y6,rfl,s7,f7,p7,a7,b7,c7,n7⟩;exact⟨ys,_,_,_,rfl,s7,f7,p7,a7,b7,c7,by lia⟩
  .rintro σ H' ⟨xs,x4,x5,x6,rfl,s6,f6,p6,a6,b6,c6,n6⟩;exact⟨_,rfl,k lf H' s6⟩
def Cm(r:List LD)(d:LD):Bool:=match r.getLast? with
 |some z=>onB z d
 |none=>false
def Cq(S:List LD)(r:List LD):List (List LD):=(S.filter (Cm r)).map λ d=>r++[d]
def ext(S:List LD)(rs:List (List LD)):List (List LD):=rs.flatMap (Cq S)
def Kd(S:List LD):Nat->List (List LD)
 |0=>S.map λ d=>[d]
 |n+1=>ext S (Kd S n)
theorem GU{r:List LD}{z d:LD}:Cm (r++[z]) d=onB z d:=by
 unfold Cm;rw[List.getLast?_append];rfl
theorem mem_ext{S:List LD}{rs:List (List LD)}{x:List LD}:x∈ext S rs↔∃r∈rs,∃d∈S,Cm r d=true/\r++[d]=x:=by
 unfold ext Cq;rw[List.mem_flatMap]
 constructor
 .rintro⟨r,hr,h⟩;obtain⟨d,hd,e⟩:=List.mem_map.mp h;obtain⟨d1,d2⟩:=List.mem_filter.mp hd;exact⟨r,hr,d,d1,d2,e⟩
 .rintro⟨r,hr,d,d1,d2,e⟩;exact⟨r,hr,List.mem_map.mpr ⟨d,List.mem_filter.mpr ⟨d1,d2⟩,e⟩⟩
theorem Kc{S:List LD}:∀{rs:List (List LD)},(∀r∈rs,(S.filter (Cm r)).length<=2)->(ext S rs).length<=2*rs.length
 |[],_=>Nat.le_refl _
 |r::q,h=>by
  have ih:=Kc (rs:=q) λ x hx=>h x (List.mem_cons_of_mem _ hx);have h0:=h r List.mem_cons_self;show(Cq S r++ext S q).length<=_;rw[List.length_append,List.length_cons];have:(Cq S r).length=(S.filter (Cm r)).length:=List.length_map _;lia
theorem Ly{S:List LD}(h:∀d∈S,(S.filter (onB d)).length<=2):∀(n:Nat),(∀r∈Kd S n,r.length=n+1/\(S.filter (Cm r)).length<=2)/\(Kd S n).length<=2^n*S.length
 |0=>by
  refine⟨λ r hr=>?_,by rw[Kd,List.length_map];lia⟩;obtain⟨d,hd,rfl⟩:=List.mem_map.mp hr;exact⟨rfl,h d hd⟩
 |n+1=>by
  obtain⟨a,b⟩:=Ly h n;refine⟨λ r hr=>?_,?_⟩
  .obtain⟨r0,hr0,d,hd,_,rfl⟩:=mem_ext.mp hr;refine⟨by rw[List.length_append,(a r0 hr0).1];rfl,?_⟩;have:Cm (r0++[d])=onB d:=funext λ x=>GU;rw[this];exact h d hd
  .have:=Kc (S:=S) (rs:=Kd S n) λ r hr=>(a r hr).2;rw[Kd,Nat.pow_succ];have e:2^n*2*S.length=2*(2^n*S.length):=by rw[Nat.mul_comm (2^n) 2,Nat.mul_assoc]
   lia
theorem SD{l:List LD}{f:LD->Int}{a b:Int}(nd:l.Nodup)(h:∀x∈l,f x=a\/f x=b)(inj:∀x∈l,∀y∈l,f x=f y->x=y):l.length<=2:=by
 match l,nd,h,inj with
 |[],_,_,_=>exact Nat.zero_le _
 |[_],_,_,_=>exact Nat.le_succ 1
 |[_,_],_,_,_=>exact Nat.le_refl _
 |x::y::z::r,nd,h,inj =>
  have n1:=List.nodup_cons.mp nd;have n2:=List.nodup_cons.mp n1.2;have xy:x≠y:=λ e=>n1.1 (e ▸ List.mem_cons_self);have xz:x≠z:=λ e=>n1.1 (e ▸ List.mem_cons_of_mem _ List.mem_cons_self);have yz:y≠z:=λ e=>n2.1 (e ▸ List.mem_cons_self);have mx:x∈x::y::z::r:=by simp
  have my:y∈x::y::z::r:=by simp
  have mz:z∈x::y::z::r:=by simp
  have ix:=inj x mx y my;have iy:=inj x mx z mz;have iz:=inj y my z mz;rcases h x mx with e1|e1<;>rcases h y my with e2|e2<;>rcases h z mz with e3|e3
  .exact absurd (ix (e1.trans e2.symm)) xy
  .exact absurd (ix (e1.trans e2.symm)) xy
  .exact absurd (iy (e1.trans e3.symm)) xz
  .exact absurd (iz (e2.trans e3.symm)) yz
  .exact absurd (iz (e2.trans e3.symm)) yz
  .exact absurd (iy (e1.trans e3.symm)) xz
  .exact absurd (ix (e1.trans e2.symm)) xy
  .exact absurd (ix (e1.trans e2.symm)) xy
theorem KB{f g:Int->Bool}{s e s' e' n:Int}(i:BZ f g s e)(j:BZ f g s' e')(a:s<n)(b:n<e)(a':s'<n)(b':n<e'):s=s'/\e=e':=by
 have st:∀{s e s' e':Int},BZ f g s e->BZ f g s' e'->n<e->s'<n->¬s<s':=λ{s e s' e'} i j b a' z=>by
  rcases j.st with y|y
  .rw[i.on (s'-1) (by lia) (by lia)]at y;cases y
  .rw[i.no s' z (by lia)]at y;cases y
 have en:∀{s e s' e':Int},BZ f g s e->BZ f g s' e'->s'<n->n<e->¬e<e':=λ{s e s' e'} i j a' b z=>by
  rcases i.en with y|y
  .rw[j.on e (by lia) z]at y;cases y
  .rw[j.no e (by lia) z]at y;cases y
 have:=st i j b a';have:=st j i b' a;have:=en i j a' b;have:=en j i a b';lia
theorem Tc{ps:List Rc}{q:Rc}(h1:q.l<=q.r)(h2:q.t<=q.b)(d:LD):((BX ps q++Dy ps q).filter (onB d)).length<=2:=by
 refine SD (f:=λ x=>x.2.1) (a:=d.2.2.1) (b:=d.2.2.2) (List.Nodup.sublist List.filter_sublist (Lo h1 h2)) (λ x hx=>?_) (λ x hx y hy e=>?_)
 .exact(onB_iff.mp (List.mem_filter.mp hx).2).2.1
 .obtain⟨x1,x2⟩:=List.mem_filter.mp hx;obtain⟨y1,y2⟩:=List.mem_filter.mp hy;have ix:=(Fr h1 h2 x).mp x1;have iy:=(Fr h1 h2 y).mp y1;obtain⟨nx,_,ax,bx⟩:=onB_iff.mp x2;obtain⟨ny,_,ay,b_y⟩:=onB_iff.mp y2;obtain⟨u,m,s,t⟩:=x;obtain⟨u',m',s',t'⟩:=y;have e:m=m':=e;subst e;cases u<;>cases u'
  .obtain⟨r1,r2⟩:=KB ix iy ax bx ay b_y;rw[r1,r2]
  .cases hd:d.1
   .exact absurd hd nx
   .exact absurd hd ny
  .cases hd:d.1
   .exact absurd hd ny
   .exact absurd hd nx
  .obtain⟨r1,r2⟩:=KB ix iy ax bx ay b_y;rw[r1,r2]
abbrev RT2:=Addr×List (Addr×LD)
abbrev ldr(r:RT2):List LD:=r.2.map (·.2)
def RowsAt(H:Hp)(rs:List RT2):Prop:=∀r∈rs,H r.1=some (.lst (AZ r.2))/\AtL H r.2
theorem RowsAt.same{H H':Hp}{rs:List RT2}(h:RowsAt H rs)(s:Same H H'):RowsAt H' rs:=λ r hr=>⟨s _ _ (h r hr).1,(h r hr).2.same s⟩
theorem I0{n:Nat}(h:n<=3000):n<sizeLine:=Nat.lt_of_le_of_lt h (by decide)
inductive HG(vs:LUz)(H:Hp)(Q:VK)(E:XK):Prop
 |mk (l m:Addr) (rs:List RT2) (us:List (Addr×LD)) (h0:vs=[.ref l,.ref m]) (h1:H l=some (.lst (Ao rs))) (h2:RowsAt H rs) (h3:(∀r∈rs,r.2≠[]/\r.2.length<=10)) (h4:rs.length<=1200) (h5:H m=some (.lst (AZ us))) (h6:AtL H us) (h7:(∀r∈rs,((us.map (·.2)).filter (Cm (ldr r))).length<=2)) (h8:∀l' nrs H',Same H H'->H' l'=some (.lst (Ao nrs))->RowsAt H' nrs->nrs.map ldr=ext (us.map (·.2)) (rs.map ldr)->Q (.ref l') H'):HG vs H Q E
def Iy:Sp:=λ vs H Q E=>HG vs H Q E
theorem Ko:Ak ["rows","some","found","row","lead"] ["rows","some"] (Ai Dc):=fsc
theorem Q0{S:List LD}{rs:List (List LD)}{r:List LD}:ext S (rs++[r])=ext S rs++Cq S r:=by
 unfold ext;rw[List.flatMap_append,List.flatMap_cons,List.flatMap_nil,List.append_nil]
theorem FD{S:List LD}{r:List LD}{d:LD}:Cq (S++[d]) r=Cq S r++if Cm r d=true then [r++[d]] else []:=by
 unfold Cq;rw[List.filter_append,List.map_append,List.filter_cons,List.filter_nil];cases Cm r d<;>rfl
theorem Lx{S:List LD}{r:List LD}{j:Nat}(h:(S.filter (Cm r)).length<=2):(Cq (S.take j) r).length<=2:=by
 unfold Cq;rw[List.length_map];exact Nat.le_trans ((List.take_sublist j S).filter _).length_le h
theorem HM{f:Addr}{fd:FuncData}(F:Fun K "one_longer" "one_longer" Dc f fd)(D_lies_on:Ay P w K mg base 1 "lies_on" ["lead","other"] Px):A5 P w K mg base CX0 2 f fd ["rows","some"] Iy:=by
 have S:=Ko;refine F.ok S (λ vs H Q E h=>?_) (λ cdv A outer s H vs Q E hr h=>?_)
 .obtain⟨l,m,rs,us,rfl,_⟩:=h;rfl
 .obtain⟨l,m,rs,us,rfl,hl,hrs,ne,few,hm,ha,two,k⟩:=h;have two':∀i,(ext (us.map (·.2)) ((rs.map ldr).take i)).length<=2*i:=λ i=>by
   have:=Kc (S:=us.map (·.2)) (rs:=(rs.map ldr).take i) λ r hr=>by
    obtain⟨x,hx,rfl⟩:=List.mem_map.mp (List.mem_of_mem_take hr);exact two x hx
   rw[List.length_take]at this;lia
  refine⟨_,(Af (Aq (i:=2) S.nd rfl (Or.inl rfl) (AO Ac))
   (Af (AX PassesOwn.never rfl (AJ (pv 0)) (Aj (i:=3) S.nd rfl (Or.inl rfl)) (Ah (AX PassesOwn.never rfl (AJ (pv 1)) (Aj (i:=4) S.nd rfl (Or.inl rfl)) (Ah (AL (Bc (Au D_lies_on hr (Aa (An Bd (pv 3) (N7 Ju Ag) (λ_ _=>rfl)) (Aa (pv 4) Ac)))) (Ah (AH (BW PySem.F.plainAttrs_list PySem.F.slot_list_append PySem.F.type_list_append AG (pv 2) (Aa (Ar CM (pv 3) (AO (Aa (pv 4) Ac))) Ac)))) A6)))))
   (Ah (Ap (pv 2))))),?_⟩
  refine⟨Av 0,λ lf hlf=>?_⟩;have s1:=Same.new (o:=.lst []) hlf;have e1:(upd H lf (.lst [])) lf=some (.lst []):=Ab;generalize upd H lf (.lst [])=H1 at s1 e1 |-;refine⟨_,rfl,l,rfl,⟨_,SqL.of (s1 _ _ hl)⟩,BB (K:=K) (a:=l) (xs:=Ao rs) (λ i σ H'=>∃(ns:List RT2)(x3 x4:Option V),σ=[some (.ref l),some (.ref m),some (.ref lf),x3,x4]/\Same H H'/\H' lf=some (.lst (Ao ns))/\RowsAt H' ns/\(∀r∈ns,r.1≠lf)/\ns.map ldr=ext (us.map (·.2)) ((rs.map ldr).take i))
   ⟨[],_,_,rfl,s1,e1,λ r hr=>(nomatch hr),λ r hr=>(nomatch hr),rfl⟩ (λ i σ H' _ hp=>by obtain⟨_,_,_,_,h,_⟩:=hp;exact SqL.of (h _ _ hl)) ?_ ?_⟩
  .rintro i x σ H' hx ⟨ns,x3,x4,rfl,s2,f2,r2,g2,m2⟩;obtain⟨r,hr',rfl⟩:=Bg hx;have hrm:=List.mem_of_getElem? hr';have hi:i<rs.length:=(List.getElem?_eq_some_iff.mp hr').1;have nl:ns.length<=2*i:=by have:=two' i;rw[<-m2,List.length_map]at this;exact this
   obtain⟨nr,lr⟩:=ne r hrm;obtain⟨r0,z,er⟩:∃r0 z,r.2=r0++[z]:=by
    rcases List.eq_nil_or_concat r.2 with e|⟨r0,z,e⟩
    .exact absurd e nr
    .exact⟨r0,z,by rw[e,List.concat_eq_append]⟩
   have tk:(rs.map ldr).take (i+1)=(rs.map ldr).take i++[ldr r]:=by rw[List.take_succ,List.getElem?_map,hr'];rfl
   refine⟨_,rfl,m,rfl,⟨_,SqL.of (s2 _ _ hm)⟩,BB (K:=K) (a:=m) (xs:=AZ us) (λ j σ H'=>∃(ns:List RT2)(x4:Option V),σ=[some (.ref l),some (.ref m),some (.ref lf),some (.ref r.1),x4]/\Same H H'/\H' lf=some (.lst (Ao ns))/\RowsAt H' ns/\(∀r∈ns,r.1≠lf)/\ns.map ldr=ext (us.map (·.2)) ((rs.map ldr).take i)++Cq ((us.map (·.2)).take j) (ldr r))
    ⟨ns,_,rfl,s2,f2,r2,g2,by rw[m2];exact(List.append_nil _).symm⟩ (λ i σ H' _ hp=>by obtain⟨_,_,_,h,_⟩:=hp;exact SqL.of (h _ _ hm)) ?_ ?_⟩
   .rintro j x σ H3 hx ⟨ns3,y4,rfl,s3,f3,r3,g3,m3⟩;obtain⟨u,hu',rfl⟩:=Ff hx;have hum:=List.mem_of_getElem? hu';have tku:(us.map (·.2)).take (j+1)=(us.map (·.2)).take j++[u.2]:=by rw[List.take_succ,List.getElem?_map,hu'];rfl
    have n3:ns3.length<=2*i+2:=by
     have:=congrArg List.length m3;have e:=Lx (j:=j) (two r hrm);have e2:=two' i;rw[List.length_map,List.length_append]at this;lia
    have hr3:=s3 _ _ (hrs r hrm).1;have hz3:=s3 _ _ ((hrs r hrm).2 z (by rw[er];simp));have hu3:=s3 _ _ (ha u hum);have lz:atI (AZ r.2) (-1)=some (.ref z.1):=by rw[er];show atI (List.map _ _) _=_;rw[List.map_append];exact LC _ _
    have lb:Cm (ldr r) u.2=onB z.2 u.2:=by show Cm (List.map _ r.2) _=_;rw[er,List.map_append];exact GU
    refine⟨_,rfl,_,rfl,r.1,_,_,_,rfl,rfl,SqL.of hr3,lz,_,rfl,z.1,u.1,z.2,u.2,rfl,hz3,hu3,λ H4 s4=>⟨_,rfl,?_⟩⟩;have s34:=s3.trans s4;have f4:=s4 _ _ f3;cases hb:onB z.2 u.2 with
    |false =>
     refine Bq rfl ⟨ns3,_,rfl,s34,f4,r3.same s4,g3,?_⟩;rw[tku,FD,lb,hb,if_neg Bool.false_ne_true,List.append_nil];exact m3
    |true =>
     refine BE rfl ?_;refine⟨_,rfl,.inl ⟨rfl,_,SqL.of f4⟩,_,rfl,_,rfl,Av 1,λ l5 h5=>?_⟩;have s5:=Same.new (o:=.lst [.ref u.1]) h5;have e5:(upd H4 l5 (.lst [.ref u.1])) l5=_:=Ab;generalize upd H4 l5 (.lst [.ref u.1])=H5 at s5 e5 |-;refine⟨r.1,l5,_,_,rfl,rfl,s5 _ _ (s4 _ _ hr3),e5,Nat.le_of_lt (Am (by rw[List.length_map];show _+1<=_;lia)),λ l6 h6=>?_⟩;have s6:=Same.new (o:=.lst (AZ r.2++[.ref u.1])) h6;have e6:(upd H5 l6 (.lst (AZ r.2++[.ref u.1]))) l6=_:=Ab;have f6:=s6 _ _ (s5 _ _ f4);have n6:l6≠lf:=Ne.symm (Ad (s5 _ _ f4) h6);generalize upd H5 l6 (.lst (AZ r.2++[.ref u.1]))=H6 at s6 e6 f6 |-;have s36:=s4.trans (s5.trans s6);refine⟨lf,_,_,rfl,rfl,f6,I0 (by rw[List.length_map];lia),ns3++[(l6,r.2++[u])],_,rfl,λ c o e=>?_,by rw[Ab];simp,λ x hx=>?_,λ x hx=>?_,?_⟩
     .rw[Ae (Ad e hlf)];exact(s3.trans s36) c o e
     .have up:∀{vs:List (Addr×LD)},AtL H6 vs->AtL (upd H6 lf (.lst (Ao ns3++[.ref l6]))) vs:=λ a v hv=>by rw[Ae (AU (a v hv) f6 (by intro z;cases z))];exact a v hv
      rcases List.mem_append.mp hx with hx|hx
      .obtain⟨x1,x2⟩:=(r3.same s36) x hx;exact⟨by rw[Ae (g3 x hx)];exact x1,up x2⟩
      .rw[List.mem_singleton.mp hx];refine⟨by rw[Ae n6,e6];simp,up λ v hv=>?_⟩;rcases List.mem_append.mp hv with hv|hv
       .exact(s3.trans s36) _ _ ((hrs r hrm).2 v hv)
       .rw[List.mem_singleton.mp hv];exact s36 _ _ hu3
     .rcases List.mem_append.mp hx with hx|hx
      .exact g3 x hx
      .rw[List.mem_singleton.mp hx];exact n6
     .rw[List.map_append,m3,tku,FD,lb,hb,if_pos rfl,List.append_assoc];simp[ldr]
   .rintro σ H3 ⟨ns3,y4,rfl,s3,f3,r3,g3,m3⟩;refine⟨ns3,_,_,rfl,s3,f3,r3,g3,?_⟩;have e:(AZ us).length=(us.map (·.2)).length:=by rw[List.length_map,List.length_map]
    rw[e,List.take_length]at m3;rw[tk,Q0];exact m3
  .rintro σ H' ⟨ns,x3,x4,rfl,s2,f2,r2,g2,m2⟩;refine⟨_,rfl,k lf ns H' s2 f2 r2 ?_⟩;have e:(Ao rs).length=(rs.map ldr).length:=by rw[List.length_map,List.length_map]
   rw[e,List.take_length]at m2;exact m2
inductive LX(vs:LUz)(H:Hp)(Q:VK)(E:XK):Prop
 |mk (m:Addr) (us:List (Addr×LD)) (ps:List Rc) (q:Rc) (h0:vs=[.ref m]) (h1:H m=some (.lst (AZ us))) (h2:AtL H us) (h3:us.length<=288) (h4:us.map (·.2)=BX ps q++Dy ps q) (h5:q.l<=q.r) (h6:q.t<=q.b) (h7:Whl ps q) (h8:∀l H',Same H H'->Q (.ref l) H'):LX vs H Q E
def Nr:Sp:=λ vs H Q E=>LX vs H Q E
theorem F2:Ak ["some","rows","more"] ["some"] (Ai BF):=fsc
theorem QX{ps:List Rc}{q:Rc}(h1:q.l<=q.r)(h2:q.t<=q.b)(w:Whl ps q):∃r∈Kd (BX ps q++Dy ps q) 3,Dz r=true:=by
 obtain⟨a,b,c,d,ia,ib,ic,id',ab,bc,cd,da⟩:=w;have m:=λ x=>(Fr (ps:=ps) h1 h2 x).mpr;generalize BX ps q++Dy ps q=S at m;refine⟨[a,b,c,d],?_,?_⟩
 .refine mem_ext.mpr ⟨[a,b,c],mem_ext.mpr ⟨[a,b],mem_ext.mpr ⟨[a],List.mem_map.mpr ⟨a,m a ia,rfl⟩,b,m b ib,onB_iff.mpr ab,rfl⟩,c,m c ic,onB_iff.mpr bc,rfl⟩,d,m d id',onB_iff.mpr cd,rfl⟩
 .show(onB d a&&(onB a b&&(onB b c&&(onB c d&&true))))=true;rw[onB_iff.mpr da,onB_iff.mpr ab,onB_iff.mpr bc,onB_iff.mpr cd];rfl
theorem EI{f:Addr}{fd:FuncData}(F:Fun K "four_that_turn" "four_that_turn" BF f fd)(T:Txt mg tk)(D_one_longer:Ay P w K mg base 2 "one_longer" ["rows","some"] Iy)(D_turn:Ay P w K mg base 2 "turn" ["some"] Nl):A5 P w K mg base CX0 3 f fd ["some"] Nr:=by
 have S:=F2;refine F.ok S (λ vs H Q E h=>?_) (λ cdv A outer s H vs Q E hr h=>?_)
 .obtain⟨m,us,ps,q,rfl,_⟩:=h;rfl
 .obtain⟨m,us,ps,q,rfl,hm,ha,few,eu,h1,h2,wh,k⟩:=h;have row:=Ly (S:=us.map (·.2)) λ d _=>by rw[eu];exact Tc h1 h2 d
  obtain⟨r9,hr9,ht9⟩:=QX h1 h2 wh;rw[<-eu]at hr9;refine⟨_,(Af (Dn rfl (Aj (i:=1) S.nd rfl (Or.inl rfl)) (AJ (pv 0)) (λ_ _ _ _ _=>(Aj (i:=0) (show List.Nodup (["lead"]:LSz) from by decide +kernel) rfl (Or.inl rfl))) (λ_ _ _ _ _=>(AO (Aa (pv 0) Ac))) (N:=["lead"]) (fr:=[none]))
   (Af (AX PassesOwn.never rfl (DV rfl T.z_range (Aa Ag Ac)) (Aj (i:=2) S.nd rfl (Or.inl rfl)) (Ah (Aq (i:=1) S.nd rfl (Or.inl rfl) (Au D_one_longer hr (Aa (pv 1) (Aa (pv 0) Ac))))))
   (Ah (Ap (An Bd (Ck rfl (AJ (pv 1)) (λ_ _ _ _ _=>(Aj (i:=0) (show List.Nodup (["row"]:LSz) from by decide +kernel) rfl (Or.inl rfl))) (λ_ _ _ _ _=>(Bc (Au D_turn hr (Aa (pv 0) Ac)))) (λ_ _ _ _ _=>(pv 0)) (N:=["row"]) (fr:=[none])) Ag (λ_ _=>rfl)))))),?_⟩
  refine⟨_,rfl,m,rfl,⟨_,SqL.of hm⟩,λ acc hacc=>B7 (K:=K) (a:=m) (ys:=AZ us) (λ i zs σ H'=>(∃y,σ=[y])/\Same H H'/\H' acc=some (.lst zs)/\∃rs:List RT2,zs=Ao rs/\RowsAt H' rs/\(∀r∈rs,r.1≠acc)/\rs.map ldr=((us.map (·.2)).take i).map λ d=>[d]) ⟨⟨none,rfl⟩,Same.new hacc,Ab,[],rfl,λ r hr=>(nomatch hr),λ r hr=>(nomatch hr),rfl⟩ (λ i zs σ H' _ _ hp=>SqL.of (hp.2.1 _ _ hm)) ?_ ?_⟩
  .rintro i x zs σ H' hx hi hl' hacc' ⟨⟨y,rfl⟩,hs,_,rs,rfl,hrs,na,em⟩;obtain⟨u,hu',rfl⟩:=Ff hx;refine⟨_,rfl,Av 1,λ t ht=>?_⟩;have nat:acc≠t:=Ad hacc' ht;have s1:=Same.new (o:=.lst [.ref u.1]) ht;have e1:(upd H' t (.lst [.ref u.1])) t=_:=Ab;have ac1:=s1 _ _ hacc';generalize upd H' t (.lst [.ref u.1])=H1 at s1 e1 ac1 |-;have ul:us.length=(AZ us).length:=(List.length_map _).symm;refine cNx.mk (Nat.le_of_lt (Am (by lia))) hi hl' ac1 ⟨⟨_,rfl⟩,λ c o e=>?_,Ab,rs++[(t,[u])],by simp,λ x hx=>?_,λ x hx=>?_,?_⟩
   .rw[Ae (Ad e hacc)];exact(hs.trans s1) c o e
   .have up:∀{vs:List (Addr×LD)}{o:LUz},AtL H1 vs->AtL (upd H1 acc (.lst o)) vs:=λ a v hv=>by rw[Ae (AU (a v hv) ac1 (by intro z;cases z))];exact a v hv
    rcases List.mem_append.mp hx with hx|hx
    .obtain⟨x1,x2⟩:=(hrs.same s1) x hx;exact⟨by rw[Ae (na x hx)];exact x1,up x2⟩
    .rw[List.mem_singleton.mp hx];refine⟨by rw[Ae (Ne.symm nat)];exact e1,up λ v hv=>?_⟩;rw[List.mem_singleton.mp hv];exact(hs.trans s1) _ _ (ha u (List.mem_of_getElem? hu'))
   .rcases List.mem_append.mp hx with hx|hx
    .exact na x hx
    .rw[List.mem_singleton.mp hx];exact Ne.symm nat
   .have:(us.map (·.2))[i]?=some u.2:=by rw[List.getElem?_map,hu'];rfl
    rw[List.map_append,em,List.take_succ,this,List.map_append];rfl
  .rintro zs σ H' hl' hacc' ⟨_,s1,_,rs,rfl,hrs,na,em⟩;have e:(AZ us).length=(us.map (·.2)).length:=by rw[List.length_map,List.length_map]
   rw[e,List.take_length]at em;refine⟨3,rfl,by decide,by decide,BH (lo:=0) (n:=(3:Int).toNat) (λ i σ H'=>∃(l:Addr)(rs:List RT2)(x2:Option V),σ=[some (.ref m),some (.ref l),x2]/\Same H H'/\H' l=some (.lst (Ao rs))/\RowsAt H' rs/\rs.map ldr=Kd (us.map (·.2)) i)
    ⟨acc,rs,_,rfl,s1,hacc',hrs,em⟩ ?_ ?_⟩
   .rintro i σ H2 hi ⟨l,rs2,x2,rfl,s2,e2,r2,m2⟩;have hi3:i<3:=hi;have rl:∀r∈rs2,r.2.length=i+1/\((us.map (·.2)).filter (Cm (ldr r))).length<=2:=λ r hr=>by
     obtain⟨a,b⟩:=(row i).1 (ldr r) (by rw[<-m2];exact List.mem_map.mpr ⟨r,hr,rfl⟩);exact⟨by rw[List.length_map]at a;exact a,b⟩
    have n2:rs2.length<=2^i*us.length:=by
     have:=(row i).2;rw[<-m2,List.length_map,List.length_map]at this;exact this
    have p2:2^i<=4:=by
     obtain rfl|rfl|rfl:i=0\/i=1\/i=2:=by lia
     all_goals decide
    have p3:2^i*us.length<=4*288:=Nat.mul_le_mul p2 few;refine⟨_,rfl,_,rfl,l,m,rs2,us,rfl,e2,r2,λ r hr=>⟨λ z=>?_,by have:=(rl r hr).1;lia⟩,by lia,s2 _ _ hm,ha.same s2,λ r hr=>(rl r hr).2,λ l' nrs H3 s3 e3 r3 m3=>⟨l',nrs,_,rfl,s2.trans s3,e3,r3,by rw[m3,m2];rfl⟩⟩;have:=(rl r hr).1;rw[z]at this;cases this
   .rintro σ H2 ⟨l,rs2,x2,rfl,s2,e2,r2,m2⟩;have m2:rs2.map ldr=Kd (us.map (·.2)) 3:=m2;have n2:rs2.length<=2^3*us.length:=by
     have:=(row 3).2;rw[<-m2,List.length_map,List.length_map]at this;exact this
    obtain⟨r0,hr0,er0⟩:=List.mem_map.mp (m2 ▸ hr9:r9∈rs2.map ldr);refine⟨_,rfl,l,rfl,⟨_,SqL.of e2⟩,λ acc3 hacc3=>Cs (K:=K) (a:=l) (ys:=Ao rs2) (λ i xs σ H'=>(∃y,σ=[y])/\Same H2 H'/\xs=Ao ((rs2.take i).filter λ r=>Dz (ldr r))) ⟨⟨none,rfl⟩,Same.new hacc3,rfl⟩ (λ i xs σ H' _ _ hp=>SqL.of (hp.2.1 _ _ e2)) ?_ ?_⟩
    .rintro i x xs σ H3 hx hi hl3 hacc' ⟨⟨y,rfl⟩,s3,rfl⟩;obtain⟨t,ht,rfl⟩:=Bg hx;obtain⟨g1,g2⟩:=(r2.same s3) t (List.mem_of_getElem? ht);have ef:=KJ (λ r:RT2=>Dz (ldr r)) ht;refine⟨_,rfl,t.1,t.2,rfl,g1,g2,λ H4 s4=>⟨_,rfl,?_⟩⟩;have ac4:=s4 _ _ hacc';have rl:(Ao rs2).length=rs2.length:=List.length_map _;cases h3:Dz (t.2.map (·.2)) with
     |true =>
      refine⟨_,rfl,fNx.mk (Nat.le_of_lt (I0 (by lia))) hi hl3 ac4 ⟨⟨_,rfl⟩,λ c o e=>?_,?_⟩⟩
      .rw[Ae (Ad e hacc3)];exact(s3.trans s4) c o e
      .rw[ef];show _=_++(if Dz (t.2.map (·.2))=true then _ else _);rw[h3,if_pos rfl]
     |false=>exact fSk.mk hi hl3 ac4 ⟨⟨_,rfl⟩,s3.trans s4,by rw[ef];show _=_++(if Dz (t.2.map (·.2))=true then _ else _);rw[h3,if_neg Bool.false_ne_true,List.append_nil]⟩
    .rintro xs σ H3 hl3 hacc' ⟨_,s3,rfl⟩;have e:(Ao rs2).length=rs2.length:=List.length_map _;rw[e,List.take_length]at hacc';have mem:r0∈rs2.filter λ r=>Dz (ldr r):=List.mem_filter.mpr ⟨hr0,by show Dz (ldr r0)=true;rw[er0];exact ht9⟩;cases hf:rs2.filter λ r=>Dz (ldr r) with
     |nil=>rw[hf]at mem;cases mem
     |cons x r =>
      rw[hf]at hacc';exact⟨acc3,_,_,_,rfl,rfl,SqL.of hacc',Km,k x.1 H3 (s2.trans s3)⟩
def XG(H:Hp)(x C:Addr)(d:Option Addr)(fs:LFz):Prop:=((d=none/\fs=[])\/∃dx,d=some dx/\dx≠x/\H dx=some (Da dx fs))/\∃T,H x=some (FW C d x T)
def RfN(H:Hp)(E:XK)(C:Addr)(P:LFz->Hp->Prop):Prop:=∀x d fs H',QP H x->SameN H H'->XG H' x C d fs->P fs H'->E (.ref x) d H'
def XEN(H:Hp)(R:Addr->LFz->Hp->Prop):XK:=λ v d H'=>∃x C fs,v=.ref x/\QP H x/\SameN H H'/\XG H' x C d fs/\R C fs H'
theorem XEN.rf{H:Hp}{R:Addr->LFz->Hp->Prop}{C:Addr}{P:LFz->Hp->Prop}(h:∀fs H',P fs H'->R C fs H'):RfN H (XEN H R) C P:=λ x _ fs H' hx s r p=>⟨x,C,fs,rfl,hx,s,r,h fs H' p⟩
def Vx(P:LFz->Hp->Prop):Prop:=∀fs H' x C d T2,P fs H'->XG H' x C d fs->H' T2=none->P fs (thrown H' x C d T2)
theorem S9{H H1:Hp}{x C C':Addr}{d:Option Addr}{T T2:Addr}{fs:LFz}(hx:QP H1 x)(s:SameN H1 H)(r:XG H x C d fs)(fl:ER H x C' d T)(hT:H T2=none) :
  C=C'/\XG (thrown H x C' d T2) x C d fs/\SameN H1 (thrown H x C' d T2):=by
 obtain⟨alt,T',e⟩:=r;have q:C=C':=by
  have:=fl.1;rw[e]at this;exact(Q1 (Option.some.inj this)).1
 subst q;refine⟨rfl,⟨alt.imp id λ⟨dx,ed,nd,hd⟩=>⟨dx,ed,nd,by rw[AN nd (Ad hd hT)];exact hd⟩,T2,D8⟩,λ a o ho no=>?_⟩;rw[AN (λ z=>by subst z;obtain⟨ps,rfl⟩:=hx o ho;exact no ps rfl) (Ad (s a o ho no) hT)];exact s a o ho no
theorem Sb{C x T:Addr}{d:Option Addr}{q:Str}:FW C d x T≠Ct x q:=λ h=>by
 have h:(HO.ext λ h=>∃vs sl,h.get? x=some ⟨.ref C,d,.fields vs,sl⟩/\vs[1]?=some (.ref T))=HO.ext λ h=>∃o vs t,h.get? x=some o/\o.data=.fields vs/\vs[1]?=some (.str q t):=h;injection h with h;have e:=congrFun h ((Du x).push ⟨.ref C,d,.fields #[.none,.ref T],#[]⟩);have g:((Du x).push ⟨.ref C,d,.fields #[.none,.ref T],#[]⟩).get? x=some ⟨.ref C,d,.fields #[.none,.ref T],#[]⟩:=Heap.get?_push_at (Dt x).symm rfl;obtain⟨o,vs,t,e1,e2,e3⟩:=e.mp ⟨_,_,g,rfl⟩;rw[g]at e1;cases e1;cases e2;cases e3
theorem TabOk.thrown{pos:Pos}{qual:Str}{T x C T2:Addr}{d:Option Addr}{H:Hp}{fs:LFz}(h:TabOk pos qual T H)(r:XG H x C d fs)(hT:H T2=none):TabOk pos qual T (L2.thrown H x C d T2):=by
 obtain⟨ps,e,t,c⟩:=h;obtain⟨_,T',ex⟩:=r;refine⟨ps,by rw[AN (λ z=>by rw[z,ex]at e;cases e) (Ad e hT)];exact e,t,?_⟩;rcases c with c|⟨c',c1,c2⟩
 .exact .inl c
 .exact .inr ⟨c',c1,by rw[AN (λ z=>by rw[z,ex]at c2;exact Sb (Option.some.inj c2)) (Ad c2 hT)];exact c2⟩
structure Tb(tb tb3:Addr)(H:Hp):Prop where
 a:TabOk RF OH tb H
 b:TabOk NF Lp tb3 H
theorem Tb.same{tb tb3:Addr}{H H':Hp}(h:Tb tb tb3 H)(s:Same H H'):Tb tb tb3 H':=⟨h.a.same s,h.b.same s⟩
theorem UQ{H:Hp}{x d:Addr}{o1 o2:HO}{E1:HO}(hx:H x=some E1)(hd:H d=none):(upd (upd H d o1) x o2) x=some o2/\(upd (upd H d o1) x o2) d=some o1/\∀a o,a≠x->H a=some o->(upd (upd H d o1) x o2) a=some o :=
 ⟨Ab,by rw[Ae (Ne.symm (Ad hx hd)),Ab],λ a o ne e=>by rw[Ae ne,Ae (Ad e hd)];exact e⟩
theorem Sj{H H1:Hp}{x d:Addr}{o1 o2:HO}(hd:H d=none)(ne:d≠x)(h1:H1 x=some o1)(hs:∀a o,a≠x->H a=some o->H1 a=some o):(upd H1 d o2) x=some o1/\(upd H1 d o2) d=some o2/\∀a o,a≠x->H a=some o->(upd H1 d o2) a=some o :=
 ⟨by rw[Ae (Ne.symm ne)];exact h1,Ab,λ a o na e=>by rw[Ae (Ad e hd)];exact hs a o na e⟩
theorem RfN.raise{H H1 H2:Hp}{E:XK}{C y dx T:Addr}{P:LFz->Hp->Prop}{fs:LFz}(r:RfN H E C P)(sN:SameN H H1)(hy:H1 y=none)(s:Same H1 H2)(e:H2 y=some (Ef C dx y))(ed:H2 dx=some (Da dx fs))(nd:dx≠y)(hT:H2 T=none)(p:∀H',Same H1 H'->P fs H'):E (.ref y) (some dx) (thrown H2 y C (some dx) T):=by
 have s3:Same H1 (thrown H2 y C (some dx) T):=λ a o ho=>by rw[AN (Ad ho hy) (Ad (s a o ho) hT)];exact s a o ho
 exact r y (some dx) fs _ (Uo sN hy) (sN.trans s3.n) ⟨.inr ⟨dx,rfl,nd,by rw[AN nd (Ad ed hT)];exact ed⟩,T,D8⟩ (p _ s3)
theorem Ku:Ak ["self","room","breaks","leads"] ["self","room","breaks","leads"] (Ai Dj):=fsc
theorem HS{f C:Addr}{fd:FuncData}(F:Fun K "__init__" "Stuck.__init__" Dj f fd)(R:XCls K C)(n1:NoAttr K C "room")(n2:NoAttr K C "breaks")(n3:NoAttr K C "leads"):A5 P w K mg base CX0 1 f fd ["self","room","breaks","leads"] (SN C ["room","breaks","leads"]):=by
 have S:=Ku;refine F.ok S (λ vs H Q E h=>?_) (λ cdv A outer s H vs Q E hr h=>?_)
 .obtain⟨x,ws,rfl,hl,_⟩:=h;rw[List.length_cons,hl];rfl
 .obtain⟨x,ws,rfl,hl,hx,q⟩:=h;obtain⟨v0,v1,v2,rfl⟩:=Us hl;refine⟨_,(Af (JD (pv 0) (pv 1) rfl)
   (Af (JD (pv 0) (pv 2) rfl)
   (Ah (JD (pv 0) (pv 3) rfl)))),?_⟩
  refine⟨_,rfl,_,rfl,x,C,rfl,R,n1,.inl ⟨hx,λ d hd=>?_⟩⟩;obtain⟨e1,e2,e3⟩:=UQ (o1:=Da d [("room",v0)]) (o2:=Ef C d x) hx hd;generalize upd (upd H d (Da d [("room",v0)])) x (Ef C d x)=H1 at e1 e2 e3 |-;have nd:d≠x:=Ne.symm (Ad hx hd);have p1:AT "breaks" v1 [(("room":Str),v0)]=[(("room":Str),v0),(("breaks":Str),v1)]:=by
   rw[AT,if_neg (by decide +kernel)];rfl
  have p2:AT "leads" v2 [(("room":Str),v0),(("breaks":Str),v1)]=[(("room":Str),v0),(("breaks":Str),v1),(("leads":Str),v2)]:=by
   rw[AT,if_neg (by decide +kernel),AT,if_neg (by decide +kernel)];rfl
  refine⟨_,rfl,_,rfl,x,C,rfl,R,n2,.inr ⟨d,_,e1,e2,by show 1<1000;decide,?_⟩⟩;rw[p1];obtain⟨f1,f2,f3⟩:=Sj (o2:=Da d [(("room":Str),v0),(("breaks":Str),v1)]) hd nd e1 e3;generalize upd H1 d (Da d [(("room":Str),v0),(("breaks":Str),v1)])=H2 at f1 f2 f3 |-;refine⟨_,rfl,_,rfl,x,C,rfl,R,n3,.inr ⟨d,_,f1,f2,by show 2<1000;decide,?_⟩⟩;rw[p2];obtain⟨g1,g2,g3⟩:=Sj (o2:=Da d [(("room":Str),v0),(("breaks":Str),v1),(("leads":Str),v2)]) hd nd f1 f3;exact q d _ hd g1 g2 g3
def PSt(tb tb3:Addr):LFz->Hp->Prop:=λ fs H'=>Tb tb tb3 H'/\∃(b:Addr)(p:Rk)(y z:V),fs=[(("room":Str),.ref b),(("breaks":Str),y),(("leads":Str),z)]/\H' b=some (.tup p.vs)/\2<p.r-p.l/\2<p.b-p.t
theorem Rg{tb tb3:Addr}:Vx (PSt tb tb3):=λ fs H' x C d T2 ⟨t,b,p,y,z,e,hb,d1,d2⟩ r hT=>⟨⟨TabOk.thrown t.a r hT,TabOk.thrown t.b r hT⟩,b,p,y,z,e,by
 obtain⟨_,T',ex⟩:=r;rw[AN (λ q=>by rw[q,ex]at hb;cases hb) (Ad hb hT)];exact hb,d1,d2⟩
inductive HE(tb tb3 cW cU cL C cX:Addr)(vs:LUz)(H:Hp)(Q:VK)(E:XK):Prop
 |mk (a dx ls ld:Addr) (w h:Int) (ts:List (Addr×Rc)) (kvs:LKz) (h0:vs=[.ref a]) (h1:PanelAt C H a w h ts dx ls ld kvs) (h2:Tb tb tb3 H) (h3:(Cut w h (rcs ts)->∀v t H',SameN H H'->Tb tb tb3 H'->Obj cW cU cL H' t v->Fit t w h->(A4 t ⟨0,0,h,w⟩).Perm (mks (rcs ts))->t.nd<=400->Q v H')) (h4:(¬Cut w h (rcs ts)->RfN H E cX (PSt tb tb3))):HE tb tb3 cW cU cL C cX vs H Q E
def EV(tb tb3 cW cU cL C cX:Addr) :Sp:=λ vs H Q E=>HE tb tb3 cW cU cL C cX vs H Q E
theorem OX:Ak ["panel","entries","word","number"] ["panel"] (Ai EZ):=fsc
theorem PanelAt.n{C:Addr}{H H':Hp}{a:Addr}{w h:Int}{ts:List (Addr×Rc)}{dx ls ld:Addr}{kvs:LKz}(pn:PanelAt C H a w h ts dx ls ld kvs)(s:SameN H H'):PanelAt C H' a w h ts dx ls ld kvs :=
 ⟨s _ _ pn.ob (by intro ps z;cases z),s _ _ pn.lst (by intro ps z;cases z),s _ _ pn.dic (by intro ps z;cases z),λ t ht=>s _ _ (pn.ats t ht) (by intro ps z;cases z),pn.til,pn.few,pn.srt,pn.look,pn.sw,pn.sh⟩
theorem P1{w h:Int}{ps:List Rc}(T:GB.Tiles w h ps)(w1:1<=w)(h1:1<=h):DB w h ps ⟨0,0,h,w⟩:=by
 refine⟨⟨Int.le_refl _,by show(0:Int)<h;lia,Int.le_refl _,Int.le_refl _,by show(0:Int)<w;lia,Int.le_refl _⟩,okA_iff.mpr λ r hr=>.inl ?_⟩;obtain⟨a,b,c,d,e,f⟩:=T.ins r hr;exact⟨a,d,c,f⟩
theorem Tp{w h:Int}{ps:List Rc}(T:GB.Tiles w h ps):inP (mks ps) ⟨0,0,h,w⟩=mks ps:=RK λ g hg=>by
 obtain⟨r,hr,rfl⟩:=List.mem_map.mp hg;obtain⟨a,b,c,d,e,f⟩:=T.ins r hr;exact⟨a,d,c,f⟩
theorem NE(ps:List Rc):(mks ps).map (·.1)=ps:=by
 show List.map _ (List.map _ ps)=_;rw[List.map_map];exact List.map_id _
theorem M1{f cX tb tb3:Addr}{fd:FuncData}(F:Fun K "tree_of" "tree_of" EZ f fd)(T:Txt mg tk)(PC:LN K C)(hne:tb≠tb3)(X_Stuck:QJ P w K mg base 1 "Stuck" cX ["self","room","breaks","leads"] ["room","breaks","leads"])
  (M_Panel_panes:Ip P w K mg base 1 C "panes" ["self"] (D9 C)) (D_cut_up:Ay P w K mg base 8 "cut_up" ["sheet","some"] (EY tb3)) (D_breaks_of:Ay P w K mg base 6 "breaks_of" ["panel","room"] (Nu C)) (D_leads:Ay P w K mg base 5 "leads" ["panel","block"] (K4 C)) (D_four_that_turn:Ay P w K mg base 3 "four_that_turn" ["some"] Nr) (D_tree_from:Ay P w K mg base 4 "tree_from" ["entries"] (Jy K cW cU cL)) :
  A5 P w K mg base (CX1 P w) 9 f fd ["panel"] (EV tb tb3 cW cU cL C cX):=by
 have S:=OX;refine F.okx S (λ vs H Q E h=>?_) (λ cdv A outer s H vs Q E hr h=>?_)
 .obtain⟨a,dx,ls,ld,ww,hh,ts,kvs,rfl,_⟩:=h;rfl
 .obtain⟨a,dx,ls,ld,ww,hh,ts,kvs,rfl,pn,tab,q,hR⟩:=h;have gw:=pn.sw;have gh:=pn.sh;have few:=pn.few;refine⟨_,(Af (Aq (i:=1) S.nd rfl (Or.inl rfl) (Au D_cut_up hr (Aa (Az (Aa Ag (Aa Ag (Aa (B5 (pv 0) rfl) (Aa (B5 (pv 0) rfl) Ac))))) (Aa (DW rfl (AJ (G4 M_Panel_panes hr (pv 0))) (λ_ _ _ _ _=>(Aj (i:=0) (show List.Nodup (["pane"]:LSz) from by decide +kernel) rfl (Or.inl rfl))) (λ_ _ _ _ _=>(Az (Aa (pv 0) (Aa Fi Ac)))) (N:=["pane"]) (fr:=[none])) Ac))))
   (Af (AX SX rfl (AJ (pv 1)) (BS rfl (Ax (Aj (i:=2) S.nd rfl (Or.inl rfl)) (Ax (Aj (i:=3) S.nd rfl (Or.inl rfl)) Bj))) (Ah (AL (A9 Cl (pv 2) (A7 (v:=.str "room") rfl T.g_ROOM ⟨_,rfl⟩) (A3 _)) (Ah (PH QV X_Stuck hr (Aa (pv 3) (Aa (Au D_breaks_of hr (Aa (pv 0) (Aa (pv 3) Ac))) (Aa (Au D_four_that_turn hr (Aa (Au D_leads hr (Aa (pv 0) (Aa (pv 3) Ac))) Ac)) Ac))))) A6)))
   (Ah (Ap (Au D_tree_from hr (Aa (pv 1) Ac)))))),?_⟩
  refine⟨_,rfl,a,C,dx,_,_,rfl,pn.ob,PC.cl,PC.n_height,Kb _ _ _ _,_,rfl,a,C,dx,_,_,rfl,pn.ob,PC.cl,PC.n_width,JZ _ _ _ _,Av 4,λ ta hta=>?_⟩;obtain⟨H0,e,s0,e0⟩:=nw (.tup [.int 0,.int 0,.int hh,.int ww]) hta;rw[e];clear e;have pn0:=pn.same s0;refine⟨_,rfl,a,dx,_,rfl,pn0.ob,EK,a,dx,ls,ld,ww,hh,ts,kvs,rfl,pn0,λ l hl=>?_⟩;obtain⟨H1,e,s1,e1⟩:=nw (.lst (Ao ts)) hl;rw[e];clear e;have at1':=(pn0.same s1).ats;refine⟨l,rfl,⟨_,SqL.of e1⟩,λ acc hacc=>B7 (K:=K) (a:=l) (ys:=Ao ts) (λ i zs σ H'=>(∃y,σ=[y])/\Same H1 H'/\∃us:List PT,zs=pcs us/\PcO H' us/\cons us=(mks (rcs ts)).take i) ⟨⟨none,rfl⟩,Same.new hacc,[],rfl,λ x hx=>(nomatch hx),rfl⟩ (λ i zs σ H' _ _ hp=>SqL.of (hp.2.1 _ _ e1)) ?_ ?_⟩
  .rintro i x zs σ H' hx hi hl' hacc' ⟨⟨y,rfl⟩,hs,us,rfl,hus,em⟩;obtain⟨u,hu',rfl⟩:=Bg hx;refine⟨_,rfl,Av 2,λ t ht=>?_⟩;have nat:acc≠t:=Ad hacc' ht;obtain⟨H2,e,s2,e2⟩:=nw (.tup [.ref u.1,.non]) ht;rw[e];clear e;have ac2:=s2 _ _ hacc';have rl:(Ao ts).length=ts.length:=List.length_map _;have up:∀{b:Addr}{vs:LUz}{o:LUz},H2 b=some (.tup vs)->(upd H2 acc (.lst o)) b=some (.tup vs):=λ h=>by rw[Ae (AU h ac2 (by intro z;cases z))];exact h
   refine cNx.mk (Nat.le_of_lt (Am (by lia))) hi hl' ac2 ⟨⟨_,rfl⟩,λ c o e=>?_,us++[(t,u.1,u.2,none)],by rw[G7],λ x hx=>?_,?_⟩
   .rw[Ae (Ad e hacc)];exact(hs.trans s2) c o e
   .rcases List.mem_append.mp hx with hx|hx
    .exact⟨up ((hus.same s2) x hx).1,up ((hus.same s2) x hx).2⟩
    .rw[List.mem_singleton.mp hx];exact⟨up e2,up ((hs.trans s2) _ _ (at1' u (List.mem_of_getElem? hu')))⟩
   .have:(mks (rcs ts))[i]?=some (u.2,none):=by rw[List.getElem?_map,List.getElem?_map,hu'];rfl
    rw[Fz,em,List.take_succ,this];rfl
  rintro zs σ H2 hzl ac2 ⟨_,s2,us,rfl,hus,em⟩;have rl:(Ao ts).length=(mks (rcs ts)).length:=by rw[List.length_map,List.length_map,List.length_map]
  rw[rl,List.take_length]at em;have ul:us.length=ts.length:=by
   have:=congrArg List.length em;rw[List.length_map,List.length_map,List.length_map]at this;exact this
  have s02:=s0.trans (s1.trans s2);have db:=P1 pn.til gw.1 gh.1;refine⟨ta,acc,⟨0,0,hh,ww⟩,us,ww,hh,rcs ts,rfl,(s1.trans s2) _ _ e0,ac2,hus,by lia,em,pn.til,gw.2,gh.2,db,(tab.same s02).b,λ le xs G H3 sx tab3 hle hens nd fit gp gt=>?_⟩;have ia:=Tp pn.til;rw[ia]at gp gt;rw[NE]at gt;have sN:SameN H H3:=s02.n.trans (sx.toN (tab.same s02).b.tbl);have tb':Tb tb tb3 H3:=⟨(tab.same s02).a.tb sx hne (tab.same s02).b.tbl,tab3⟩;have cut:Cut ww hh (rcs ts)->JQ G:=λ⟨t,ft,pm⟩=>gt ⟨t,ML ft,pm⟩;have pn3:=pn.n sN;refine⟨_,rfl,le,rfl,⟨_,SqL.of hle⟩,BB (K:=K) (a:=le) (xs:=xs) (λ i σ H'=>(∃x2 x3,σ=[some (.ref a),some (.ref le),x2,x3])/\H'=H3/\∀e∈(AD G).take i,rmE e=false) ⟨⟨_,_,rfl⟩,rfl,λ e he=>(nomatch he)⟩ (λ i σ H' _ hp=>by rw[hp.2.1];exact SqL.of hle) ?_ ?_⟩
  .rintro i x σ H' hx ⟨⟨x2,x3,rfl⟩,rfl,nr⟩;obtain⟨e,ea,he,rfl,hen⟩:=hens.get hx;have tk:(AD G).take (i+1)=(AD G).take i++[e]:=by rw[List.take_succ,he];rfl
   have more:rmE e=false->∀e'∈(AD G).take (i+1),rmE e'=false:=λ h e' he'=>by
    rw[tk]at he';rcases List.mem_append.mp he' with he'|he'
    .exact nr e' he'
    .rw[List.mem_singleton.mp he'];exact h
   match e,hen,he,more with
   |.w none,hen,_,more=>exact⟨ea,_,rfl,SqT.of hen,rfl,_,_,rfl,_,_,rfl,rfl,_,rfl,rfl,_,rfl,Bq (by decide +kernel) ⟨⟨_,_,rfl⟩,rfl,more rfl⟩⟩
   |.c true k,hen,_,more=>exact⟨ea,_,rfl,SqT.of hen,rfl,_,_,rfl,_,_,rfl,rfl,_,rfl,rfl,_,rfl,Bq (by decide +kernel) ⟨⟨_,_,rfl⟩,rfl,more rfl⟩⟩
   |.c false k,hen,_,more=>exact⟨ea,_,rfl,SqT.of hen,rfl,_,_,rfl,_,_,rfl,rfl,_,rfl,rfl,_,rfl,Bq (by decide +kernel) ⟨⟨_,_,rfl⟩,rfl,more rfl⟩⟩
   |.w (some n),⟨b,p,h1,hb,rm⟩,he,_ =>
    refine⟨ea,_,rfl,SqT.of h1,rfl,_,_,rfl,_,_,rfl,rfl,_,rfl,rfl,_,rfl,BE (by decide +kernel) ?_⟩;have nc:¬Cut ww hh (rcs ts):=λ c=>nomatch noRm_iff.mp (cut c) _ (List.mem_of_getElem? he);obtain⟨d1,d2⟩:=Pe (rm.whl pn.til);have ok:=rm.db.ok;obtain⟨n1,n2⟩:=IK (ps:=rcs ts) rm.db.1 gw.2 gh.2;refine⟨_,rfl,_,rfl,_,rfl,a,dx,ls,ld,b,ww,hh,ts,kvs,p,rfl,pn3,hb,rm,λ l4 H4 s4=>?_⟩;refine⟨_,rfl,_,rfl,a,dx,ls,ld,b,ww,hh,ts,kvs,p,rfl,pn3.same s4,s4 _ _ hb,rm.db.1,rm.db.blk,λ l5 us5 H5 s5 _ e5 a5 m5=>?_⟩;refine⟨l5,us5,rcs ts,p,rfl,e5,a5,by have:=congrArg List.length m5;rw[List.length_map,List.length_append]at this;lia,m5,by have:=ok.2;lia,by have:=ok.1;lia,rm.whl pn.til,λ l6 H6 s6=>⟨rfl,λ y dx' T' H7 hy s7 ey ed nd' hT nT=>?_⟩⟩;have s36:=s4.trans (s5.trans s6);exact(hR nc).raise (sN.trans s36.n) hy s7 ey ed nd' hT λ H8 s8=>⟨tb'.same (s36.trans s8),b,p,_,_,rfl,(s36.trans s8) _ _ hb,d1,d2⟩
  .rintro σ H' ⟨⟨x2,x3,rfl⟩,rfl,nr⟩;rw[hens.len,List.take_length]at nr;have no:=noRm_iff.mpr nr;have fit':Fit G ww hh:=by
    have f1:Fit G (ww-0) (hh-0):=fit;rwa [Int.sub_zero,Int.sub_zero]at f1
   have cu:Cut ww hh (rcs ts):=⟨G,fit',by have:=((gp no).map (·.1)).symm;rwa [NE]at this⟩;exact⟨_,rfl,le,xs,G,rfl,SqL.of hle,hens.ens nr,nd,λ v H4 s4 ob=>q cu v G H4 (sN.trans s4.n) (tb'.same s4) ob fit' (gp no) nd⟩
theorem PL{X:Cx}{K:Frag}{e:Expr}{f:Str}{pos:Pos}{ta:TE}(he:PE X e ta)(hb:attributeBase e f X.env (eval e X.env)=eval e X.env)(hK:X.K=K:=by rfl):PE X (.Attribute e f pos) (Sk K ta f):=by subst hK;exact R3 he hb
structure RX(mg:MGz)(K:Frag)(cX:Addr):Prop where
 g_Stuck:mg "Stuck"=some (.ref cX)
 x_Stuck:S8 K cX
 m:mroIn K cX (.ref cX)=some true
 cl:XCls K cX
 n_room:NoAttr K cX "room"
inductive Jn(tb tb3 cW cU cL C:Addr)(vs:LUz)(H:Hp)(Q:VK)(E:XK):Prop
 |mk (a dx ls ld:Addr) (w h:Int) (ts:List (Addr×Rc)) (kvs:LKz) (h0:vs=[.ref a]) (h1:PanelAt C H a w h ts dx ls ld kvs) (h2:Tb tb tb3 H) (h3:(Cut w h (rcs ts)->∀r v t H',SameN H H'->Tb tb tb3 H'->H' r=some (.tup [v,.non])->Obj cW cU cL H' t v->Fit t w h->(A4 t ⟨0,0,h,w⟩).Perm (mks (rcs ts))->t.nd<=400->Q (.ref r) H')) (h4:(¬Cut w h (rcs ts)->∀r b (p:Rk) H',SameN H H'->Tb tb tb3 H'->H' r=some (.tup [.non,.ref b])->H' b=some (.tup p.vs)->2<p.r-p.l->2<p.b-p.t->Q (.ref r) H')):Jn tb tb3 cW cU cL C vs H Q E
def Gx(tb tb3 cW cU cL C:Addr) :Sp:=λ vs H Q E=>Jn tb tb3 cW cU cL C vs H Q E
theorem LJ:Ak ["_law_panel","_law_tree","_law_room","e"] ["_law_panel"] (Ai Di):=fsc
theorem RD{f:Str}{v:V}{r:LFz}:((f,v)::r).lookup f=some v:=by rw[List.lookup_cons,beq_self_eq_true]
theorem JL{f cX tb tb3:Addr}{fd:FuncData}(F:Fun K "_law_asked" "_law_asked" Di f fd)(R:RX mg K cX)(D_tree_of:Nf P w K mg base 9 "tree_of" ["panel"] (EV tb tb3 cW cU cL C cX)):A5 P w K mg base CX0 10 f fd ["_law_panel"] (Gx tb tb3 cW cU cL C):=by
 have S:=LJ;refine F.ok S (λ vs H Q E h=>?_) (λ cdv A outer s H vs Q E hr h=>?_)
 .obtain⟨a,dx,ls,ld,ww,hh,ts,kvs,rfl,_⟩:=h;rfl
 .obtain⟨a,dx,ls,ld,ww,hh,ts,kvs,rfl,pn,tab,q1,q2⟩:=h;refine⟨_,(Af (Aq (i:=1) S.nd rfl (Or.inl rfl) Fi)
   (Af (Aq (i:=2) S.nd rfl (Or.inl rfl) Fi)
   (Af (Rx (Rw (i:=1) S.nd rfl (Or.inl rfl) (λ_=>Ui D_tree_of hr (Aa (pv 0) Ac))) (O4 (im:=3) S.nd rfl rfl rfl R.g_Stuck R.x_Stuck (λ_=>(Ah (Aq (i:=2) S.nd rfl (Or.inl rfl) (PL (K:=K) (pv 3) rfl)))) R1) rfl rfl (by intro z;cases z))
   (Ah (Ap (Az (Aa (pv 1) (Aa (pv 2) Ac)))))))),?_⟩
  refine⟨XEN H λ C fs H'=>C=cX/\¬Cut ww hh (rcs ts)/\PSt tb tb3 fs H',⟨_,rfl,a,dx,ls,ld,ww,hh,ts,kvs,rfl,pn,tab,λ cu v t H1 sN tb1 ob fit pm nd=>?_,λ nc=>XEN.rf λ fs H' z=>⟨rfl,nc,z⟩⟩,?_⟩
  .refine⟨_,rfl,_,rfl,Av 2,λ r nr=>?_⟩;have s2:=Same.new (o:=.tup [v,.non]) nr;exact q1 cu r v t _ (sN.trans s2.n) (tb1.same s2) Ab (ob.same s2) fit pm nd
  .rintro x C' d T T2 H' ⟨x',C2,fs,ev,hx,s1,r,rfl,nc,ps⟩ fl hT2 nT2;obtain rfl:x=x':=Value.ref.inj ev;have ps2:=Rg fs H' x C2 d T2 ps r hT2;obtain⟨rfl,r2,s2⟩:=S9 hx s1 r fl hT2;obtain⟨t2,b,p,y,z,rfl,hb,d1,d2⟩:=ps2;obtain⟨alt,T3,hxT⟩:=r2;rcases alt with ⟨_,e⟩|⟨dx',rfl,nd,hd⟩
   .cases e
   .refine⟨true,R.m,λ_=>?_,λ z=>(nomatch z)⟩;generalize thrown H' x C2 (some dx') T2=H5 at t2 hb hxT hd s2 |-;refine⟨_,rfl,x,C2,dx',_,_,rfl,.inr ⟨T3,hxT⟩,hd,R.cl,R.n_room,RD,?_⟩;refine⟨_,rfl,_,rfl,Av 2,λ r nr=>?_⟩;have s6:=Same.new (o:=.tup [.non,.ref b]) nr;exact q2 nc r b p _ (s2.trans s6.n) (t2.same s6) Ab (s6 _ _ hb) d1 d2
inductive Jg(tb tb3 C:Addr)(vs:LUz)(H:Hp)(Q:VK)(E:XK):Prop
 |mk (a dx ls ld:Addr) (w h:Int) (ts:List (Addr×Rc)) (kvs:LKz) (wh:Bool) (h0:vs=[.ref a,.bl wh]) (h1:PanelAt C H a w h ts dx ls ld kvs) (h2:Tb tb tb3 H) (h3:(wh=true->¬Cut w h (rcs ts))) (h4:(wh=false->Cut w h (rcs ts))) (h5:∀H',SameN H H'->Tb tb tb3 H'->Q (.bl true) H'):Jg tb tb3 C vs H Q E
def Gu(tb tb3 C:Addr) :Sp:=λ vs H Q E=>Jg tb tb3 C vs H Q E
theorem LH:Ak ["_law_panel","_law_wheel_here","_law_tree","_law_room"] ["_law_panel","_law_wheel_here"] (Ai Dg):=fsc
theorem JJ{f tb tb3:Addr}{fd:FuncData}(F:Fun K "_law_right" "_law_right" Dg f fd)(T:Txt mg tk)(PC:LN K C)(hne:tb≠tb3)(D__law_asked:Ay P w K mg base 10 "_law_asked" ["_law_panel"] (Gx tb tb3 cW cU cL C))(D_pieces:Ay P w K mg base 5 "pieces" ["tree","width","height"] (EW tb cW cU cL))(M_Panel_panes:Ip P w K mg base 1 C "panes" ["self"] (D9 C)):A5 P w K mg base CX0 11 f fd ["_law_panel","_law_wheel_here"] (Gu tb tb3 C):=by
 have S:=LH;refine F.ok S (λ vs H Q E h=>?_) (λ cdv A outer s H vs Q E hr h=>?_)
 .obtain⟨a,dx,ls,ld,ww,hh,ts,kvs,wh,rfl,_⟩:=h;rfl
 .obtain⟨a,dx,ls,ld,ww,hh,ts,kvs,wh,rfl,pn,tab,w1,w2,q⟩:=h;have gw:=pn.sw;have gh:=pn.sh;have few:=pn.few;refine⟨_,(Af (G2 (Au D__law_asked hr (Aa (pv 0) Ac)) (BS rfl (Ax (Aj (i:=2) S.nd rfl (Or.inl rfl)) (Ax (Aj (i:=3) S.nd rfl (Or.inl rfl)) Bj))))
   (Af (AL (CS (pv 1) (λ_=>rfl)) (Af (AL (PW.pt (ID (A9 NC (pv 2) Fi (A3 _)) (Fg (BR (Bc (A0 Ed rfl T.z_isinstance rfl (Aa (pv 3) (Aa (FY (v:=.ty "tuple") rfl T.z_tuple rfl rfl) Ac)))))))) (Ah (Ap G6)) A6)
   (Ah (Ap (Do (Bk F8 (Ar AM (An Al (pv 3) Ag (λ_ _=>rfl)) (An Al (pv 3) Ag (λ_ _=>rfl))) Ag (A3 _)) (Cj (Bk F8 (Ar AM (An Al (pv 3) Ag (λ_ _=>rfl)) (An Al (pv 3) Ag (λ_ _=>rfl))) Ag (A3 _))))))) A6)
   (Af (AL (A9 NC (pv 3) Fi (A3 _)) (Ah (Ap G6)) A6)
   (Ah (Ap (Bk (SZ hr) (Au D_pieces hr (Aa (pv 2) (Aa (B5 (pv 0) rfl) (Aa (B5 (pv 0) rfl) Ac)))) (DW rfl (AJ (G4 M_Panel_panes hr (pv 0))) (λ_ _ _ _ _=>(Aj (i:=0) (show List.Nodup (["_law_pane"]:LSz) from by decide +kernel) rfl (Or.inl rfl))) (λ_ _ _ _ _=>(Az (Aa (pv 0) (Aa Fi Ac)))) (N:=["_law_pane"]) (fr:=[none])) (A3 _))))))),?_⟩
  refine⟨_,rfl,a,dx,ls,ld,ww,hh,ts,kvs,rfl,pn,tab,λ cu r v t H1 sN tb1 hr1 ob fit pm nd=>?_,λ nc r b p H1 sN tb1 hr1 hb d1 d2=>?_⟩
  .have ew:wh=false:=by
    cases wh with
    |false=>rfl
    |true=>exact absurd cu (w1 rfl)
   subst ew;have pn1:=pn.n sN;have sz:t.sz=ts.length:=by rw[<-DO t ⟨0,0,hh,ww⟩,pm.length_eq,List.length_map,List.length_map]
   refine⟨r,_,rfl,SqT.of hr1,rfl,_,_,rfl,_,_,rfl,rfl,?_⟩;refine⟨_,rfl,_,rfl,Bq rfl ?_⟩;refine⟨_,rfl,rfl,_,rfl,Bq (by decide +kernel) ?_⟩;refine⟨_,rfl,_,rfl,a,C,dx,_,_,rfl,pn1.ob,PC.cl,PC.n_width,JZ _ _ _ _,_,rfl,a,C,dx,_,_,rfl,pn1.ob,PC.cl,PC.n_height,Kb _ _ _ _,v,t,ww,hh,rfl,ob,nd,by lia,tb1.a,gw.1,gw.2,gh.1,gh.2,fit,λ l1 ts1 H2 sx tab2 nl e2 c2 du=>?_⟩;have sN2:=sx.toN tb1.a.tbl;have pn2:=pn1.n sN2;have tb2:Tb tb tb3 H2:=⟨tab2,tb1.b.tb sx (Ne.symm hne) tb1.a.tbl⟩;refine⟨_,rfl,a,dx,_,rfl,pn2.ob,EK,a,dx,ls,ld,ww,hh,ts,kvs,rfl,pn2,λ l hl=>?_⟩;obtain⟨H3,e,s3,e3⟩:=nw (.lst (Ao ts)) hl;rw[e];clear e;have at3:=(pn2.same s3).ats;refine⟨l,rfl,⟨_,SqL.of e3⟩,λ acc hacc=>B7 (K:=K) (a:=l) (ys:=Ao ts) (λ i zs σ H'=>(∃y,σ=[y])/\Same H3 H'/\∃us:List PT,zs=pcs us/\PcO H' us/\cons us=(mks (rcs ts)).take i) ⟨⟨none,rfl⟩,Same.new hacc,[],rfl,λ x hx=>(nomatch hx),rfl⟩ (λ i zs σ H' _ _ hp=>SqL.of (hp.2.1 _ _ e3)) ?_ ?_⟩
   .rintro i x zs σ H' hx hi hl' hacc' ⟨⟨y,rfl⟩,hs,us,rfl,hus,em⟩;obtain⟨u,hu',rfl⟩:=Bg hx;refine⟨_,rfl,Av 2,λ t ht=>?_⟩;obtain⟨H4,e,s4,e4⟩:=nw (.tup [.ref u.1,.non]) ht;rw[e];clear e;have ac4:=s4 _ _ hacc';have rl:(Ao ts).length=ts.length:=List.length_map _;have up:∀{b:Addr}{vs:LUz}{o:LUz},H4 b=some (.tup vs)->(upd H4 acc (.lst o)) b=some (.tup vs):=λ h=>by rw[Ae (AU h ac4 (by intro z;cases z))];exact h
    refine cNx.mk (Nat.le_of_lt (Am (by lia))) hi hl' ac4 ⟨⟨_,rfl⟩,λ c o e=>?_,us++[(t,u.1,u.2,none)],by rw[G7],λ x hx=>?_,?_⟩
    .rw[Ae (Ad e hacc)];exact(hs.trans s4) c o e
    .rcases List.mem_append.mp hx with hx|hx
     .exact⟨up ((hus.same s4) x hx).1,up ((hus.same s4) x hx).2⟩
     .rw[List.mem_singleton.mp hx];exact⟨up e4,up ((hs.trans s4) _ _ (at3 u (List.mem_of_getElem? hu')))⟩
    .have:(mks (rcs ts))[i]?=some (u.2,none):=by rw[List.getElem?_map,List.getElem?_map,hu'];rfl
     rw[Fz,em,List.take_succ,this];rfl
   rintro zs σ H4 hzl ac4 ⟨_,s4,us,rfl,hus,em⟩;have rl:(Ao ts).length=(mks (rcs ts)).length:=by rw[List.length_map,List.length_map,List.length_map]
   rw[rl,List.take_length]at em;have s24:=s3.trans s4;have D1:DIs K H4 (.lst (gsD (cons ts1))) (.ref l1):=gsL (s24 _ _ e2) (c2.same s24);have D2:DIs K H4 (.lst (gsD (cons us))) (.ref acc):=gsL ac4 hus;refine⟨_,_,D1,D2,⟨_,rfl⟩,⟨_,rfl⟩,by have:=NJ (cons ts1);rw[dep];lia,?_⟩;rw[if_neg Bool.false_ne_true];have du2:Due t ww hh (mks (rcs ts)):=⟨pm.symm,by
    have:=pn.srt;rw[List.map_map];exact this⟩
   have e5:cons ts1=cons us:=by rw[em];exact Q3 gw.1 gw.2 gh.1 gh.2 fit du du2
   rw[e5]at D1 |-;rw[EN _ D1];exact q H4 ((sN.trans sN2).trans s24.n) (tb2.same s24)
  .have ew:wh=true:=by
    cases wh with
    |true=>rfl
    |false=>exact absurd (w2 rfl) nc
   subst ew;refine⟨r,_,rfl,SqT.of hr1,rfl,_,_,rfl,_,_,rfl,rfl,?_⟩;refine⟨_,rfl,_,rfl,BE rfl ?_⟩;refine⟨_,rfl,rfl,_,rfl,Bq (by decide +kernel) ?_⟩;refine⟨_,rfl,_,"tuple","tuple",rfl,Pj hb,.inr (.inr (.inl rfl)),_,rfl,Bq (by rw[Qj];rfl) ?_⟩;refine⟨_,rfl,b,_,_,_,rfl,rfl,SqT.of hb,at2,_,rfl,b,_,_,_,rfl,rfl,SqT.of hb,at0,_,_,rfl,rfl,_,_,rfl,rfl,_,rfl,BE (decide_eq_true d2) ?_⟩;refine⟨_,rfl,b,_,_,_,rfl,rfl,SqT.of hb,at3,_,rfl,b,_,_,_,rfl,rfl,SqT.of hb,at1,_,_,rfl,rfl,_,_,rfl,rfl,?_⟩;have key:=q H1 sN tb1;rw[<-decide_eq_true d1]at key;exact key
theorem OC{w h:Int}{ls ld:Addr}:(E3 w h ls ld).lookup ("turned":Str)=none:=Ka _ _ _ _ (by decide +kernel) (by decide +kernel) (by decide +kernel) (by decide +kernel)
theorem Tz{xs:LUz}{i:Int}(h0:0<=i)(h1:i<xs.length):HX xs (some i) none=xs.drop i.toNat:=by
 unfold HX HT.sIx;simp only[];rw[if_neg (by lia),Nat.min_eq_left (by lia)];exact List.take_of_length_le (by rw[List.length_drop];exact Nat.le_refl _)
theorem Tb.x{tb tb3 p:Addr}{H H':Hp}{z:V}(h:Tb tb tb3 H)(hp:H p=some (.lst [z])){o:LUz}(e:H'=upd H p (.lst o)):Tb tb tb3 H':=by subst e;exact⟨TabOk.upd h.a hp,TabOk.upd h.b hp⟩
theorem TabOk.sx{pos:Pos}{qual:Str}{T p:Addr}{H H':Hp}{xs:LUz}(h:TabOk pos qual T H)(hp:H p=some (.lst xs))(s:SameX p H H'):TabOk pos qual T H':=by
 obtain⟨ps,e,t,c⟩:=h;refine⟨ps,s _ _ (λ z=>by rw[z,hp]at e;cases e) e,t,?_⟩;rcases c with c|⟨c',c1,c2⟩
 .exact .inl c
 .exact .inr ⟨c',c1,s _ _ (λ z=>by rw[z,hp]at c2;cases c2) c2⟩
theorem Tb.sx{tb tb3 p:Addr}{H H':Hp}{xs:LUz}(h:Tb tb tb3 H)(hp:H p=some (.lst xs))(s:SameX p H H'):Tb tb tb3 H':=⟨TabOk.sx h.a hp s,TabOk.sx h.b hp s⟩
abbrev S3:LSz:=["_law_script","_law_purse_here","_law_width","_law_height","_law_panes","_law_wheel_here","_law_at","_law_panel"]
theorem UD:Ak S3 ["_law_script"] (Ai F6):=fsc
inductive Oj(tb tb3:Addr)(K:Frag)(vs:LUz)(H:Hp)(Q:VK)(E:XK):Prop
 |mk (a:Addr) (ns:List Int) (h0:vs=[.ref a]) (h1:SqL K H a (ns.map V.int)) (h2:ns.length<=63) (h3:H tb=some (.tbl #[])) (h4:H tb3=some (.tbl #[])) (h5:∀H',Q (.bl true) H'):Oj tb tb3 K vs H Q E
def sp_law(tb tb3:Addr)(K:Frag) :Sp:=λ vs H Q E=>Oj tb tb3 K vs H Q E
theorem Td{f tb tb3:Addr}{fd:FuncData}(F:Fun K "law" "law" F6 f fd)(T:Txt mg tk)(D__law_purse:Ay P w K mg base 1 "_law_purse" ["_law_script","_law_k"] (Gv K))(D__law_take:Ay P w K mg base 1 "_law_take" ["_law_purse_here","_law_many"] FX)
  (D__law_cut_up:Ay P w K mg base 2 "_law_cut_up" ["_law_script","_law_k","_law_width","_law_height","_law_many"] (No K)) (D__law_wheel:Ay P w K mg base 2 "_law_wheel" ["_law_script","_law_k","_law_panes","_law_purse_here"] K3)
  (K_Panel:LO P w K mg base 4 "Panel" C ["self","width","height","panes"] (Gy K C)) (M_Panel_turned:Ip P w K mg base 6 C "turned" ["self"] (Ix C)) (D__law_right:Ay P w K mg base 11 "_law_right" ["_law_panel","_law_wheel_here"] (Gu tb tb3 C)) :
  A5 P w K mg base CX0 12 f fd ["_law_script"] (sp_law tb tb3 K):=by
 have S:=UD;refine F.ok S (λ vs H Q E h=>?_) (λ cdv A outer s H vs Q E hr h=>?_)
 .obtain⟨a,ns,rfl,_⟩:=h;rfl
 .obtain⟨a,ns,rfl,hS,hlen,htb,htb3,k⟩:=h;obtain⟨t6,h6,fin⟩:∃rd,PSs (B8 CX0 P w K mg base S3 "law" (Ai F6) f cdv A outer s H E).nox ((AE F6).drop 6) rd /\
    ∀(D:CN)(lp lw p:Addr)(z ww hh:Int)(ts us:List (Addr×Rc))(x6 x7:Option V)(H3:Hp),D.rt=Q->H3 p=some (.lst [.int z])->H3 lp=some (.lst (Ao ts))->H3 lw=some (.lst (Ao us))->At H3 us->GB.Tiles ww hh (rcs us)->us.length<=52->(1<=ww/\ww<=12)->(1<=hh/\hh<=12)->Tb tb tb3 H3->(ts.length<us.length->¬Cut ww hh (rcs us))->(¬ts.length<us.length->Cut ww hh (rcs us)) ->
     rd D [some (.ref a),some (.ref p),some (.int ww),some (.int hh),some (.ref lp),some (.ref lw),x6,x7] H3:=by
   refine⟨_,(Af (Aq (i:=6) S.nd rfl (Or.inl rfl) (Au D__law_take hr (Aa (pv 1) (Aa (A0 AA rfl T.z_len rfl (Aa (pv 5) Ac)) Ac))))
   (Af (Aq (i:=7) S.nd rfl (Or.inl rfl) (KR K_Panel hr (Aa (pv 2) (Aa (pv 3) (Aa (Ar CM (BK Cv (pv 5) (Cz (pv 6)) C0) (BK Cv (pv 5) C0 (Cz (pv 6)))) Ac)))))
   (Ah (Ap (Do (Au D__law_right hr (Aa (pv 7) (Aa (Bk F8 (A0 AA rfl T.z_len rfl (Aa (pv 5) Ac)) (A0 AA rfl T.z_len rfl (Aa (pv 4) Ac)) (A3 _)) Ac))) (Cj (Au D__law_right hr (Aa (G4 M_Panel_turned hr (pv 7)) (Aa (Bk F8 (A0 AA rfl T.z_len rfl (Aa (pv 5) Ac)) (A0 AA rfl T.z_len rfl (Aa (pv 4) Ac)) (A3 _)) Ac))))))))),?_⟩
   intro D lp lw p z ww hh ts us x6 x7 H3 hD ep el ew hat til few gw gh tab c1 c2;have rl:(Ao us).length=us.length:=List.length_map _;have tl:(Ao ts).length=ts.length:=List.length_map _;have ne0:0<us.length:=by
    obtain⟨p,hp,_⟩:=til.cov 0 0 (by lia) (by lia) (by lia) (by lia);obtain⟨u,hu,_⟩:=List.mem_map.mp hp;exact List.length_pos_of_mem hu
   refine⟨_,rfl,_,rfl,lw,_,rfl,.inl (SqL.of ew),p,z,_,rfl,ep,by lia,by lia,λ i z4 i0 i1=>?_⟩;have sx:=SameX.upd (p:=p) (o:=.lst [.int z4]) (H:=H3);have tab4:Tb tb tb3 (upd H3 p (.lst [.int z4])):=tab.x ep rfl;generalize upd H3 p (.lst [.int z4])=H4 at sx tab4 |-;have l4:=sx _ _ (CL ep el) el;have w4:=sx _ _ (CL ep ew) ew;have a4:=hat.sx ep sx;refine⟨_,rfl,_,rfl,_,rfl,_,rfl,_,rfl,lw,_,rfl,SqL.of w4,λ d1 n1=>?_⟩;rw[Tz i0 i1];obtain⟨H5,e,s5,e5⟩:=nw (.lst ((Ao us).drop i.toNat)) n1;rw[e];clear e;refine⟨_,rfl,_,rfl,_,rfl,lw,_,rfl,SqL.of (s5 _ _ w4),λ d2 n2=>?_⟩;rw[Kg i0 i1];obtain⟨H6,e,s6,e6⟩:=nw (.lst ((Ao us).take i.toNat)) n2;rw[e];clear e;refine⟨d1,d2,_,_,rfl,rfl,s6 _ _ e5,e6,Nat.le_of_lt (Am (by rw[List.length_drop,List.length_take];lia)),λ d3 n3=>?_⟩;obtain⟨H7,e,s7,e7⟩:=nw (.lst ((Ao us).drop i.toNat++(Ao us).take i.toNat)) n3;rw[e];clear e;have er:(Ao us).drop i.toNat++(Ao us).take i.toNat=Ao (us.drop i.toNat++us.take i.toNat):=by simp[Ao,List.map_take,List.map_drop]
   rw[er]at e7;have pm0:(us.drop i.toNat++us.take i.toNat).Perm us:=by
    have:=List.perm_append_comm (l₁:=us.drop i.toNat) (l₂:=us.take i.toNat);rwa [List.take_append_drop]at this
   generalize us.drop i.toNat++us.take i.toNat=vs at e7 pm0;have s47:=s5.trans (s6.trans s7);have pmr:(rcs vs).Perm (rcs us):=pm0.map _;intro x dx nx ndx ne;have sn:Same H7 (upd (upd H7 dx (.own x)) x (.ins C dx [])):=λ b o e=>by rw[Ae (Ad e nx),Ae (Ad e ndx)];exact e
   refine⟨x,dx,d3,ww,hh,vs,rfl,Ab,SqL.of (sn _ _ e7),λ t ht=>(s47.trans sn) _ _ (a4 t (pm0.mem_iff.mp ht)),til.perm pmr,by rw[pm0.length_eq];exact few,gw,gh,λ ts1 ls ld kvs H8 sx8 pm pn=>⟨rfl,?_⟩⟩;have s78:Same H7 H8:=λ b o e=>sx8 b o (Ad e nx) (sn _ _ e);have s48:=s47.trans s78;have tab8:=tab4.same s48;have l8:=s48 _ _ l4;have w8:=s48 _ _ w4;have pm1:(rcs ts1).Perm (rcs us):=(pm.map _).trans pmr;rw[hD];have gt:∀{b:Bool},(decide ((us.length:Int)>(ts.length:Int)))=b->(b=true->¬Cut ww hh (rcs ts1))/\(b=false->Cut ww hh (rcs ts1)):=λ{b} e=>by
    constructor
    .intro hb c;rw[hb]at e;exact c1 (by have:=of_decide_eq_true e;lia) (c.perm pm1.symm)
    .intro hb;rw[hb]at e;exact(c2 (by have:=of_decide_eq_false e;lia)).perm pm1
   refine⟨_,rfl,_,rfl,lw,_,rfl,.inl (SqL.of w8),_,rfl,lp,_,rfl,.inl (SqL.of l8),_,_,rfl,rfl,?_⟩;rw[rl,tl];refine⟨x,dx,ls,ld,ww,hh,ts1,kvs,_,rfl,pn,tab8,(gt rfl).1,(gt rfl).2,λ H9 sN tab9=>⟨_,rfl,BE rfl ?_⟩⟩;have pn9:=pn.n sN;refine⟨_,rfl,x,dx,_,rfl,pn9.ob,OC,x,dx,ls,ld,ww,hh,ts1,kvs,rfl,pn9,λ b dy ls' ld' ts2 kvs2 HA sA pn2 pm2=>?_⟩;have l9:=sA _ _ (sN _ _ l8 (by intro ps z;cases z));have w9:=sA _ _ (sN _ _ w8 (by intro ps z;cases z));refine⟨_,rfl,lw,_,rfl,.inl (SqL.of w9),_,rfl,lp,_,rfl,.inl (SqL.of l9),_,_,rfl,rfl,?_⟩;rw[rl,tl];have turn1:Cut ww hh (rcs ts1)->Cut hh ww (rcs ts2):=λ c=>c.turn.perm pm2;have turn2:Cut hh ww (rcs ts2)->Cut ww hh (rcs ts1):=λ c=>by
    have:=(c.perm pm2.symm).turn;rw[List.map_map]at this;have e:(GB.Rc.sw∘GB.Rc.sw)=id:=funext λ p=>Rc.sw_sw p;rwa [e,List.map_id]at this
   exact⟨b,dy,ls',ld',hh,ww,ts2,kvs2,_,rfl,pn2,tab9.same sA,λ e c=>(gt rfl).1 e (turn2 c),λ e=>turn1 ((gt rfl).2 e),λ HB _ _=>by rw[hD];exact k HB⟩
  have tab0:Tb tb tb3 H:=⟨TabOk.new htb,TabOk.new htb3⟩;refine⟨_,(Af (Aq (i:=1) S.nd rfl (Or.inl rfl) (Au D__law_purse hr (Aa (pv 0) (Aa Ag Ac))))
   (Af (Aq (i:=2) S.nd rfl (Or.inl rfl) (Ar AC Ag (Au D__law_take hr (Aa (pv 1) (Aa Ag Ac)))))
   (Af (Aq (i:=3) S.nd rfl (Or.inl rfl) (Ar AC Ag (Au D__law_take hr (Aa (pv 1) (Aa Ag Ac)))))
   (Af (Aq (i:=4) S.nd rfl (Or.inl rfl) (Au D__law_cut_up hr (Aa (pv 0) (Aa Ag (Aa (pv 2) (Aa (pv 3) (Aa (Au D__law_take hr (Aa (pv 1) (Aa Ag Ac))) Ac)))))))
   (Af (Aq (i:=5) S.nd rfl (Or.inl rfl) (pv 4))
   (Af (AL (A9 Cl (Au D__law_take hr (Aa (pv 1) (Aa Ag Ac))) Ag (A3 _)) (Ah (Aq (i:=5) S.nd rfl (Or.inl rfl) (Au D__law_wheel hr (Aa (pv 0) (Aa Ag (Aa (pv 4) (Aa (pv 1) Ac))))))) A6)
   h6)))))),?_⟩
  refine⟨_,rfl,a,ns,0,rfl,hS,by lia,by lia,λ p z hp=>?_⟩;obtain⟨H1,e,s1,e1⟩:=nw (.lst [.int z]) hp;rw[e];clear e;have tab1:=tab0.same s1;refine⟨_,rfl,p,z,12,rfl,e1,by decide,by decide,λ r1 z1 a1 b1=>Cy (i:=1) (j:=r1) ?_⟩;have s2:=SameX.drop s1 hp (SameX.upd (o:=.lst [.int z1]) (H:=H1));have e2:(upd H1 p (.lst [.int z1])) p=some (.lst [.int z1]):=Ab;have tab2:Tb tb tb3 (upd H1 p (.lst [.int z1])):=tab1.x e1 rfl;generalize upd H1 p (.lst [.int z1])=H2 at s2 e2 tab2 |-;refine⟨_,rfl,p,z1,12,rfl,e2,by decide,by decide,λ r2 z2 a2 b2=>Cy (i:=1) (j:=r2) ?_⟩;have s3:=SameX.drop s2 hp (SameX.upd (o:=.lst [.int z2]) (H:=H2));have e3:(upd H2 p (.lst [.int z2])) p=some (.lst [.int z2]):=Ab;have tab3:Tb tb tb3 (upd H2 p (.lst [.int z2])):=tab2.x e2 rfl;generalize upd H2 p (.lst [.int z2])=H3 at s3 e3 tab3 |-;have gw:1<=1+r1/\1+r1<=12:=by lia
  have gh:1<=1+r2/\1+r2<=12:=by lia
  generalize 1+r1=ww at gw |-;generalize 1+r2=hh at gh |-;refine⟨_,rfl,_,rfl,_,rfl,_,rfl,p,z2,41,rfl,e3,by decide,by decide,λ m z3 m0 m1=>?_⟩;have s4:=SameX.drop s3 hp (SameX.upd (o:=.lst [.int z3]) (H:=H3));have e4:(upd H3 p (.lst [.int z3])) p=some (.lst [.int z3]):=Ab;have tab4:Tb tb tb3 (upd H3 p (.lst [.int z3])):=tab3.x e3 rfl;generalize upd H3 p (.lst [.int z3])=H4 at s4 e4 tab4 |-;refine⟨a,ns,2,ww,hh,m,rfl,s4.seq hS,by decide,by decide,gw,gh,m0,by lia,λ lp ts H5 s5 el hat tc few=>?_⟩;have e5:=s5 _ _ e4;have tab5:=tab4.same s5;refine⟨_,rfl,?_⟩;refine⟨_,rfl,p,z3,2,rfl,e5,by decide,by decide,λ r z6 _ _=>?_⟩;have sx:=SameX.upd (p:=p) (o:=.lst [.int z6]) (H:=H5);have e6:(upd H5 p (.lst [.int z6])) p=some (.lst [.int z6]):=Ab;have tab6:Tb tb tb3 (upd H5 p (.lst [.int z6])):=tab5.x e5 rfl;generalize upd H5 p (.lst [.int z6])=H6 at sx e6 tab6 |-;have l6:=sx _ _ (CL e5 el) el;have a6:=hat.sx e5 sx;refine⟨rfl,_,rfl,Bw (λ c=>?_) (λ c=>?_)⟩
  .refine⟨_,rfl,_,rfl,_,rfl,lp,p,.ref a,2,z6,ww,hh,ts,rfl,e6,l6,a6,tc.toTiles,by lia,gw,gh,λ lw us H7 sx7 ⟨z7,e7⟩ w7 a7 til7 few7 alt=>?_⟩;have l7:=sx7 _ _ (CL e6 l6) l6;have tab7:=tab6.sx e6 sx7;refine fin _ lp lw p z7 ww hh ts us _ _ H7 rfl e7 l7 w7 a7 til7 few7 gw gh tab7 (λ lt=>?_) (λ lt=>?_)
   .rcases alt with rfl|⟨_,nc⟩
    .exact absurd lt (Nat.lt_irrefl _)
    .exact nc
   .rcases alt with rfl|⟨lt',_⟩
    .exact tc.cut
    .exact absurd lt' lt
  .exact fin _ lp lp p z6 ww hh ts ts _ _ H6 rfl e6 l6 l6 a6 tc.toTiles (by lia) gw gh tab6 (λ z=>absurd z (Nat.lt_irrefl _)) (λ_=>tc.cut)
def icB(K:Frag)(C:Addr):Bool:=plainGet K C Str.empty&&(hasDictIn K C&&(plainOver K C&&((findIn K (.ref C) "__setattr__"==some (some (.builtin "object.__setattr__")))&&((findIn K (.ref C) "__class__"==some (some (.builtin "object.__class__"))) &&
 ((specialIn K (.builtin "object.__class__") "__get__"==some (some (.builtin "getset_descriptor.__get__")))&&((takesIn K (.builtin "object.__class__")==some true)&&((mroIn K C (.type "object")==some true)&&(makesIn K C&&keepIn K (.ref C)))))))))
theorem MJ{C:Addr}(h:icB K C=true):Nc K C/\makesIn K C=true/\keepIn K (.ref C)=true:=by
 unfold icB at h;simp only[Bool.and_eq_true,beq_iff_eq]at h;obtain⟨a,b,c,d,e,f,g,i,j,l⟩:=h;exact⟨⟨⟨a,b,c,d⟩,e,f,g,i⟩,j,l⟩
def Th(K:Frag)(cT cW cU cL:Addr):Bool:=([(cW,"mark"),(cU,"at"),(cU,"first"),(cU,"other"),(cL,"at"),(cL,"first"),(cL,"other")]:List (Addr×Str)).all (λ p=>findIn K (.ref p.1) p.2==some none) &&
 ([(cW,cW,true),(cW,cU,false),(cW,cL,false),(cU,cW,false),(cL,cW,false),(cU,cU,true),(cU,cL,false),(cL,cU,false),(cL,cL,true),(cW,cT,true),(cU,cT,true),(cL,cT,true)]:List (Addr×Addr×Bool)).all (λ p=>kitOne K (.ref p.1) (.ref p.2.1)==some p.2.2)
theorem Ub(h:Th K cT cW cU cL=true)(iW:Nc K cW)(iU:Nc K cU)(iL:Nc K cL)(gT:mg "Tree"=some (.ref cT))(gW:mg "Whole"=some (.ref cW))(gU:mg "Upright"=some (.ref cU))(gL:mg "Level"=some (.ref cL)):RT mg K cT cW cU cL:=by
 unfold Th at h;rw[Bool.and_eq_true,List.all_eq_true,List.all_eq_true]at h;obtain⟨h1,h2⟩:=h;have f1:∀p∈([(cW,"mark"),(cU,"at"),(cU,"first"),(cU,"other"),(cL,"at"),(cL,"first"),(cL,"other")]:List (Addr×Str)),findIn K (.ref p.1) p.2=some none:=λ p hp=>beq_iff_eq.mp (h1 p hp);have f2:∀p∈([(cW,cW,true),(cW,cU,false),(cW,cL,false),(cU,cW,false),(cL,cW,false),(cU,cU,true),(cU,cL,false),(cL,cU,false),(cL,cL,true),(cW,cT,true),(cU,cT,true),(cL,cT,true)]:List (Addr×Addr×Bool)),kitOne K (.ref p.1) (.ref p.2.1)=some p.2.2:=λ p hp=>beq_iff_eq.mp (h2 p hp);simp only[List.forall_mem_cons,List.not_mem_nil,false_implies,implies_true,and_true]at f1 f2;obtain⟨a1,a2,a3,a4,a5,a6,a7⟩:=f1;obtain⟨k1,k2,k3,k4,k5,k6,k7,k8,k9,k10,k11,k12⟩:=f2;refine⟨gT,gW,gU,gL,iW,?_,a1,?_,?_,?_,k1,?_,?_,?_,k10,?_⟩
 .intro u;cases u;exact iL;exact iU
 .intro u;cases u;exact a5;exact a2
 .intro u;cases u;exact a6;exact a3
 .intro u;cases u;exact a7;exact a4
 .intro u;cases u;exact k3;exact k2
 .intro u;cases u;exact k5;exact k4
 .intro u v;cases u<;>cases v;exact k9;exact k8;exact k7;exact k6
 .intro u;cases u;exact k12;exact k11
end
theorem MG{α β:Type}{us:List α}{p:β}{ps:List β}(h:us.length=(p::ps).length):∃u vs,us=u::vs/\vs.length=ps.length:=by
 cases us with
 |nil=>cases h
 |cons u vs=>exact⟨u,vs,rfl,Nat.succ.inj h⟩
theorem MF{α β:Type}{us:List α}(h:us.length=([]:List β).length):us=[]:=List.length_eq_zero_iff.mp h
abbrev FB(K:Frag)(x qual:Str)(st:Stmt)(f:Addr):Prop:=∃fd,Fun K x qual st f fd
abbrev FI(K:Frag)(x:Str)(st:Stmt)(f:Addr):Prop:=nsIn K mainGlobals x=some (some (.ref f))/\FB K x x st f
abbrev MI(K:Frag)(C:Addr)(x qual:Str)(st:Stmt)(f:Addr):Prop:=findIn K (.ref C) x=some (some (.ref f))/\isFn K (.ref f)=true/\FB K x qual st f
structure HC(P:Program)(w:World)(K:Frag)(mg:MGz)(base:Heap):Prop where
 ex:∃h:Heap,K.In h/\h.Ns mainGlobals mg
abbrev BOk(x qual:Str)(st:Stmt)(ps:LSz):Prop:=∀(kV doc pm:Value)(an:Option Addr)(cdv ct:Value)(us:LWz),us.length=ps.length->bindArgs (fnOf x qual (Be st) (AE st) (Ai st) .none kV doc pm an cdv ct) ⟨us,[]⟩=pure (ps.zip us)
section
variable{P:Program}{w:World}{K:Frag}{mg:MGz}{base:Heap}{x qual:Str}{st:Stmt}{f C:Addr}{n:Nat}{ps:LSz}{sp:Sp}{v:Value}
theorem HC.g(c:HC P w K mg base)(a:nsIn K mainGlobals x=some (some v)):mg x=some v:=let ⟨_,X,G⟩:=c.ex;mg_of X G a
theorem HC.d(c:HC P w K mg base)(i:FI K x st f)(ok:∀fd,Fun K x x st f fd->A5 P w K mg base CX0 n f fd ps sp)(hb:BOk x x st ps:=by intro _ _ _ _ _ _ us hl;(repeat (obtain⟨_,_,e,h⟩:=MG hl;clear hl;subst e;have hl:=h;clear h));cases MF hl;rfl):Ay P w K mg base n x ps sp:=let ⟨a,_,F⟩:=i;⟨_,_,ok _ F,c.g a,F.kp,F.binds hb⟩
theorem HC.dx(c:HC P w K mg base)(i:FI K x st f)(ok:∀fd,Fun K x x st f fd->A5 P w K mg base (CX1 P w) n f fd ps sp)(hb:BOk x x st ps:=by intro _ _ _ _ _ _ us hl;(repeat (obtain⟨_,_,e,h⟩:=MG hl;clear hl;subst e;have hl:=h;clear h));cases MF hl;rfl):Nf P w K mg base n x ps sp:=let ⟨a,_,F⟩:=i;⟨_,_,ok _ F,c.g a,F.kp,F.binds hb⟩
theorem HC.m(_:HC P w K mg base)(l:Cls K C)(i:MI K C x qual st f)(ok:∀fd,Fun K x qual st f fd->A5 P w K mg base CX0 n f fd ps sp)(hb:BOk x qual st ps:=by intro _ _ _ _ _ _ us hl;(repeat (obtain⟨_,_,e,h⟩:=MG hl;clear hl;subst e;have hl:=h;clear h));cases MF hl;rfl):Ip P w K mg base n C x ps sp:=let ⟨a,b,_,F⟩:=i;⟨l,_,_,⟨a,b,F.kp⟩,ok _ F,F.binds hb⟩
theorem HC.k{cn:Str}(c:HC P w K mg base)(m:makesIn K C=true)(k:keepIn K (.ref C)=true)(ac:nsIn K mainGlobals cn=some (some (.ref C)))(i:MI K C "__init__" qual st f)(ok:∀fd,Fun K "__init__" qual st f fd->A5 P w K mg base CX0 n f fd ps sp)(hb:BOk "__init__" qual st ps:=by intro _ _ _ _ _ _ us hl;(repeat (obtain⟨_,_,e,h⟩:=MG hl;clear hl;subst e;have hl:=h;clear h));cases MF hl;rfl):LO P w K mg base n cn C ps sp:=let ⟨a,b,_,F⟩:=i;⟨_,_,⟨m,a,b,k⟩,ok _ F,c.g ac,F.binds hb⟩
theorem HC.xm{cn:Str}{ns:LSz}(c:HC P w K mg base)(l:Ng K C=true)(e:DP K C f=true)(k:keepIn K (.ref C)=true)(ac:nsIn K mainGlobals cn=some (some (.ref C)))(i:MI K C "__init__" qual st f)(ok:∀fd,Fun K "__init__" qual st f fd->XCls K C->A5 P w K mg base CX0 n f fd ps (SN C ns))(fw:ns.length<=1000:=by decide)(hb:BOk "__init__" qual st ps:=by intro _ _ _ _ _ _ us hl;(repeat (obtain⟨_,_,e,h⟩:=MG hl;clear hl;subst e;have hl:=h;clear h));cases MF hl;rfl):QJ P w K mg base n cn C ps ns:=let ⟨a,b,_,F⟩:=i;⟨fw,_,_,⟨XCls.of l,e,k,b⟩,ok _ F (XCls.of l),c.g ac,F.binds hb⟩
end
theorem all_mk{l:OpenLaw}{w:World}{K:Frag}{h:Heap}{mg:MGz}{fa:Addr}(X:K.In h)(G:h.Ns mainGlobals mg)(hfa:mg "law"=some (.ref fa))
  {C:Addr} (aC:nsIn K mainGlobals "Panel"=some (some (.ref C)))
  (pg_C:plainGet K C Str.empty=true)
  (hd_C:hasDictIn K C=true)
  (po_C:plainOver K C=true)
  (sa_C:findIn K (.ref C) "__setattr__"=some (some (.builtin "object.__setattr__")))
  (mk_C:makesIn K C=true)
  (kc_C:keepIn K (.ref C)=true)
  (n_C_width:findIn K (.ref C) "width"=some none)
  (n_C_height:findIn K (.ref C) "height"=some none)
  (n_C_sorted_panes:findIn K (.ref C) "sorted_panes"=some none)
  (n_C_by_square:findIn K (.ref C) "by_square"=some none)
  {cT:Addr} (aT:nsIn K mainGlobals "Tree"=some (some (.ref cT)))
  {cW:Addr} (aC_cW:nsIn K mainGlobals "Whole"=some (some (.ref cW))) (ic_cW:icB K cW=true)
  {f_cW:Addr} {od_cW an_cW:Option Addr} {sl_cW:AOz} {oc_cW kV_cW dc_cW pm_cW cd_cW ct_cW:Value} {T_cW:Addr} {to_cW:Value} {td_cW:Option Addr} {ts_cW:AOz} {ti_cW:Array Value} {tn_cW:Nat} (a_cWcW:findIn K (.ref cW) "__init__"=some (some (.ref f_cW))) (i_cW:isFn K (.ref f_cW)=true) (l_cW:K.lookup f_cW=some ⟨oc_cW,od_cW,.func (fnOf "__init__" "Whole.__init__" (Be Bt) (AE Bt) (Ai Bt) (.ref T_cW) kV_cW dc_cW pm_cW an_cW cd_cW ct_cW),sl_cW⟩) (cc_cW:codeIn K cd_cW "Whole.__init__"=true) (k_cW:keepIn K (.ref f_cW)=true) (lT_cW:K.lookup T_cW=some ⟨to_cW,td_cW,.seq ti_cW tn_cW,ts_cW⟩) (eT_cW:ti_cW=#[.none])
  {cU:Addr} (aC_cU:nsIn K mainGlobals "Upright"=some (some (.ref cU))) (ic_cU:icB K cU=true)
  {f_cU:Addr} (h_cUcU:MI K cU "__init__" "Upright.__init__" Cf f_cU)
  {cL:Addr} (aC_cL:nsIn K mainGlobals "Level"=some (some (.ref cL))) (ic_cL:icB K cL=true)
  {f_cL:Addr} (h_cLcL:MI K cL "__init__" "Level.__init__" Dl f_cL)
  (kit:Th K cT cW cU cL=true)
  {cG:Addr} (aG:nsIn K mainGlobals "GlassError"=some (some (.ref cG))) (eG:PySem.W.excIn K cG vErr "ValueError.__new__"=true)
  {cX:Addr} (aC_cX:nsIn K mainGlobals "Stuck"=some (some (.ref cX))) (kC_cX:keepIn K (.ref cX)=true) (nC_cX:findIn K (.ref cX) "room"=some none) (nC2_cX:findIn K (.ref cX) "breaks"=some none) (nC3_cX:findIn K (.ref cX) "leads"=some none)
  {f_cX:Addr} (h_cXcX:MI K cX "__init__" "Stuck.__init__" Dj f_cX)
  (ei_cX:DP K cX f_cX=true) (xc_cX:Ng K cX=true) (xm_cX:mroIn K cX (.ref cG)=some true)
  (mU:mroIn K cX (.ref cX)=some true)
  {f0:Addr} (h0:FI K "is_whole" Ep f0)
  {f1:Addr} (h1:FI K "is_side" Fc f1)
  {f2:Addr} (h2:FI K "is_rectangle" Cd f2)
  {f3:Addr} (h3:FI K "inside" Gz f3)
  {f4:Addr} (h4:FI K "squares_of" Db f4)
  {f5:Addr} (h5:FI K "check_sides" CH f5)
  {f6:Addr} (h6:FI K "check_panes" CI f6)
  {f7:Addr} (h7:FI K "panes_by_square" BA f7)
  {f8:Addr} (h8:FI K "check_covered" BO f8)
  {f9:Addr} (h9C:MI K C "__init__" "Panel.__init__" Dk f9)
  {f10:Addr} (h10C:MI K C "panes" "Panel.panes" CK f10)
  {f11:Addr} (h11C:MI K C "pane_at" "Panel.pane_at" BP f11)
  {f12:Addr} (h12C:MI K C "turned" "Panel.turned" Cg f12)
  {f13:Addr} (h13:FI K "apart" J1 f13)
  {f14:Addr} (h14:FI K "is_block" Er f14)
  {f15:Addr} (h15:FI K "check_block" CJ f15)
  {f16:Addr} (h16:FI K "panes_in" Eo f16)
  {f17:Addr} (h17:FI K "line_breaks" CD f17)
  {f18:Addr} (h18:FI K "goes_through" Ce f18)
  {f19:Addr} (h19:FI K "lines_through" BN f19)
  {f20:Addr} (h20:FI K "kind_of" Fb f20)
  {f21:Addr} (h21:FI K "entry_of" Es f21)
  {f22:Addr} (h22:FI K "entries_of" De f22)
  {f23:Addr} (h23:FI K "cut_from" Et f23)
  {f24:Addr} (h24:FI K "tree_from" DC f24)
  {f25:Addr} (h25:FI K "first_piece" CG f25)
  {f26:Addr} (h26:FI K "other_piece" CC f26)
  {f27:Addr} (h27:FI K "entries_by" Df f27)
  {f28:Addr} (h28:FI K "check_cut" BI f28)
  {f29:Addr} (h29:FI K "cut_out" Fd f29)
  {f30:Addr} {od30 an30:Option Addr} {sl30:AOz} {oc30 kV30 dc30 pm30 cd30 ct30:Value} (a30:nsIn K mainGlobals "pieces"=some (some (.ref f30))) (l30:K.lookup f30=some ⟨oc30,od30,.func (fnOf "pieces" "pieces" (Be Bp) (AE Bp) (Ai Bp) .none kV30 dc30 pm30 an30 cd30 ct30),sl30⟩) (cc30:codeIn K cd30 "pieces"=true) (k30:keepIn K (.ref f30)=true) {c30 tb:Addr} (ec30:cd30=.ref c30) (hC30:F0 K c30 tb=true)
  {f31:Addr} (h31:FI K "runs" Mp f31)
  {f32:Addr} (h32:FI K "columns_parted" BG f32)
  {f33:Addr} (h33:FI K "rows_parted" C9 f33)
  {f34:Addr} (h34:FI K "level_leads" CF f34)
  {f35:Addr} (h35:FI K "upright_leads" BM f35)
  {f36:Addr} (h36:FI K "leads" J0 f36)
  {f37:Addr} (h37:FI K "lies_on" Fa f37)
  {f38:Addr} (h38:FI K "turn" Mo f38)
  {f39:Addr} (h39:FI K "entry_for" DD f39)
  {f40:Addr} {od40 an40:Option Addr} {sl40:AOz} {oc40 kV40 dc40 pm40 cd40 ct40:Value} (a40:nsIn K mainGlobals "cut_up"=some (some (.ref f40))) (l40:K.lookup f40=some ⟨oc40,od40,.func (fnOf "cut_up" "cut_up" (Be Bf) (AE Bf) (Ai Bf) .none kV40 dc40 pm40 an40 cd40 ct40),sl40⟩) (cc40:codeIn K cd40 "cut_up"=true) (k40:keepIn K (.ref f40)=true) {c40 tb3:Addr} (ec40:cd40=.ref c40) (hC40:F0 K c40 tb3=true)
  {f41:Addr} (h41:FI K "pane_broken" CB f41)
  {f42:Addr} (h42:FI K "breaks_of" DE f42)
  {f43:Addr} (h43:FI K "one_longer" Dc f43)
  {f44:Addr} (h44:FI K "four_that_turn" BF f44)
  {f45:Addr} (h45:FI K "tree_of" EZ f45)
  {f46:Addr} (h46:FI K "_law_purse" Dh f46)
  {f47:Addr} (h47:FI K "_law_take" DF f47)
  {f48:Addr} (h48:FI K "_law_wheel" Ba f48)
  {f49:Addr} (h49:FI K "_law_cut_up" AW f49)
  {f50:Addr} (h50:FI K "_law_asked" Di f50)
  {f51:Addr} (h51:FI K "_law_right" Dg f51)
  {f52:Addr} (h52:FI K "law" F6 f52)
  {bm:Addr} {bsl:AOz} (abm:nsIn K mainGlobals "__builtins__"=some (some (.ref bm))) (lbm:K.lookup bm=some ⟨.type "module",some builtinsNs,.plain,bsl⟩) (nbm1:bm≠builtinsNs) (nbm2:bm≠mainGlobals)
  (hne:tb≠tb3)
  (z0:nsIn K mainGlobals "isinstance"=some none)
  (z1:nsIn K mainGlobals "int"=some none)
  (z2:nsIn K mainGlobals "bool"=some none)
  (z3:nsIn K mainGlobals "tuple"=some none)
  (z4:nsIn K mainGlobals "list"=some none)
  (z5:nsIn K mainGlobals "len"=some none)
  (z6:nsIn K mainGlobals "range"=some none)
  (z7:nsIn K mainGlobals "all"=some none)
  (z8:nsIn K mainGlobals "any"=some none)
  (z9:nsIn K mainGlobals "sorted"=some none)
  (z10:nsIn K mainGlobals "str"=some none)
  (z11:nsIn K mainGlobals "reversed"=some none)
  (z12:nsIn K mainGlobals "min"=some none)
  (z13:nsIn K mainGlobals "max"=some none)
  (z14:nsIn K mainGlobals "enumerate"=some none)
  (z15:nsIn K mainGlobals "ValueError"=some none)
  {tk0:Tok} (g0:nsIn K mainGlobals "LONGEST_SIDE"=some (some (.int 12 tk0)))
  {tk1:Tok} (g1:nsIn K mainGlobals "MOST_PANES"=some (some (.int 52 tk1)))
  {tk2:Tok} (g2:nsIn K mainGlobals "WHOLE"=some (some (.str "whole" tk2)))
  {tk3:Tok} (g3:nsIn K mainGlobals "UPRIGHT_cuts"=some (some (.str "upright" tk3)))
  {tk4:Tok} (g4:nsIn K mainGlobals "LEVEL_cuts"=some (some (.str "level" tk4)))
  {tk5:Tok} (g5:nsIn K mainGlobals "TOP"=some (some (.int 0 tk5)))
  {tk6:Tok} (g6:nsIn K mainGlobals "LEFT"=some (some (.int 1 tk6)))
  {tk7:Tok} (g7:nsIn K mainGlobals "ROOM"=some (some (.str "room" tk7)))
  {tk8:Tok} (g8:nsIn K mainGlobals "LEVEL_leads"=some (some (.str "level" tk8)))
  {tk9:Tok} (g9:nsIn K mainGlobals "UPRIGHT_leads"=some (some (.str "upright" tk9)))
  : ∃fd:FuncData,(∀(s:Shared)(v:Value),BindsTo s fd ⟨[v],[]⟩ [("_law_script",v)])/\∀base:Heap,K.In base->base.Ns mainGlobals mg->A5 l.prog w K mg base CX0 12 fa fd ["_law_script"] (sp_law tb tb3 K):=by
 have e:=hfa.symm.trans (mg_of X G h52.1);cases e;have T:Txt mg (tk0,tk1,tk2,tk3,tk4,tk5,tk6,tk7,tk8,tk9):=⟨mg_none_of X G z0,mg_none_of X G z1,mg_none_of X G z2,mg_none_of X G z3,mg_none_of X G z4,mg_none_of X G z5,mg_none_of X G z6,mg_none_of X G z7,mg_none_of X G z8,mg_none_of X G z9,mg_none_of X G z10,mg_none_of X G z11,mg_none_of X G z12,mg_none_of X G z13,mg_none_of X G z14,mg_none_of X G z15,mg_of X G g0,mg_of X G g1,mg_of X G g2,mg_of X G g3,mg_of X G g4,mg_of X G g5,mg_of X G g6,mg_of X G g7,mg_of X G g8,mg_of X G g9⟩;have PC:LN K C:=⟨⟨pg_C,hd_C,po_C,sa_C⟩,n_C_width,n_C_height,n_C_sorted_panes,n_C_by_square⟩;obtain⟨I_cW,mk_cW,kc_cW⟩:=MJ ic_cW;obtain⟨I_cU,mk_cU,kc_cU⟩:=MJ ic_cU;obtain⟨I_cL,mk_cL,kc_cL⟩:=MJ ic_cL;have R0:RT mg K cT cW cU cL:=Ub kit I_cW I_cU I_cL (mg_of X G aT) (mg_of X G aC_cW) (mg_of X G aC_cU) (mg_of X G aC_cL);have hB0:Si K mg:=⟨bm,bsl,mg_of X G abm,nbm1,nbm2,lbm⟩;have RX0:RX mg K cX:=⟨mg_of X G aC_cX,.inl ⟨_,ei_cX⟩,mU,XCls.of xc_cX,nC_cX⟩;have F_cW:FunD K "__init__" "Whole.__init__" Bt f_cW _:=⟨⟨_,_,_,_,_,_,_,_,_,_,_,tn_cW,rfl,l_cW,cc_cW,lT_cW,by rw[eT_cW]⟩,k_cW⟩;have b_cW:=F_cW.binds (ps:=["self","mark"]) (ds:=[]) λ_ _ _ _ _ _ _ us hl=>by obtain⟨u0,u1,rfl⟩:=Ut ((List.append_nil us) ▸ hl);exact⟨_,rfl,rfl⟩
 have F30:=NM (st:=Bp) l30 cc30 k30 ec30;have b30:=F30.fn.binds (ps:=["tree","width","height"]) λ_ _ _ _ _ _ us hl=>by (repeat (obtain⟨_,_,e,h⟩:=MG hl;clear hl;subst e;have hl:=h;clear h));cases MF hl;rfl
 have F40:=NM (st:=Bf) l40 cc40 k40 ec40;have b40:=F40.fn.binds (ps:=["sheet","some"]) λ_ _ _ _ _ _ us hl=>by (repeat (obtain⟨_,_,e,h⟩:=MG hl;clear hl;subst e;have hl:=h;clear h));cases MF hl;rfl
 obtain⟨ha52,fd,F52⟩:=h52;obtain⟨oc,od,kV,doc,pm,an,cdv,ct,osl,rfl,lk,hcd⟩:=id F52.ex;refine⟨fnOf "law" "law" (Be F6) (AE F6) (Ai F6) .none kV doc pm an cdv ct,λ s v=>.of_eq rfl,λ base _ _=>?_⟩;have c:HC l.prog w K mg base:=⟨h,X,G⟩;have K_Whole:LO l.prog w K mg base 1 "Whole" cW ["self","mark"] (P0 cW):=⟨_,_,⟨mk_cW,a_cWcW,i_cW,kc_cW⟩,HR F_cW R0,mg_of X G aC_cW,b_cW⟩;have K_Upright:=c.k mk_cU kc_cU aC_cU h_cUcU λ_ F=>FO F R0;have K_Level:=c.k mk_cL kc_cL aC_cL h_cLcL λ_ F=>HV F R0;have X_Stuck:=c.xm xc_cX ei_cX kC_cX aC_cX h_cXcX λ_ F x=>HS F x nC_cX nC2_cX nC3_cX;have D_is_whole:=c.d h0 λ_ F=>KY F T;have D_is_side:=c.d h1 λ_ F=>M4 F T D_is_whole;have D_is_rectangle:=c.d h2 λ_ F=>FM F T D_is_whole;have D_inside:=c.d h3 λ_ F=>O8 F;have D_squares_of:=c.d h4 λ_ F=>HL F T;have D_check_sides:=c.d h5 λ_ F=>GH F D_is_side;have D_check_panes:=c.d h6 λ_ F=>GI F T D_is_rectangle D_inside;have D_panes_by_square:=c.d h7 λ_ F=>Ez F T D_squares_of;have D_check_covered:=c.d h8 λ_ F=>Fm F D_squares_of;have K_Panel:=c.k mk_C kc_C aC h9C λ_ F=>HU F T PC D_check_sides D_check_panes D_panes_by_square D_check_covered;have M_Panel_panes:=c.m ⟨pg_C,hd_C,po_C,sa_C⟩ h10C λ_ F=>GK F T PC;have M_Panel_pane_at:=c.m ⟨pg_C,hd_C,po_C,sa_C⟩ h11C λ_ F=>Fn F PC;have M_Panel_turned:=c.m ⟨pg_C,hd_C,po_C,sa_C⟩ h12C λ_ F=>FP F PC K_Panel;have D_apart:=c.d h13 λ_ F=>PY F;have D_is_block:=c.d h14 λ_ F=>KZ F T PC D_is_rectangle D_inside D_apart M_Panel_panes;have D_check_block:=c.d h15 λ_ F=>GJ F D_is_block;have D_panes_in:=c.d h16 λ_ F=>KU F D_check_block D_inside M_Panel_panes;have D_line_breaks:=c.d h17 λ_ F=>GD F;have D_goes_through:=c.d h18 λ_ F=>FN F T D_line_breaks;have D_lines_through:=c.d h19 λ_ F=>Fl F T D_goes_through;have D_kind_of:=c.d (sp:=EX cW cU cL) h20 λ_ F=>M3 F T R0;have D_entry_of:=c.d (sp:=Gw cW cU cL) h21 λ_ F=>Le F T R0 D_kind_of;have D_entries_of:=c.d (sp:=El cW cU cL) h22 λ_ F=>HP F T R0 D_entry_of;have D_cut_from:=c.d (sp:=Em cW cU cL) h23 λ_ F=>Lf F T K_Upright K_Level;have D_tree_from:=c.d (sp:=Jy K cW cU cL) h24 λ_ F=>JH F T R0 K_Whole D_cut_from;have D_first_piece:=c.d h25 λ_ F=>GG F T;have D_other_piece:=c.d h26 λ_ F=>GC F T;have D_entries_by:=c.d h27 λ_ F=>HQ F T D_first_piece D_other_piece;have D_check_cut:=c.d h28 λ_ F=>JN F T D_is_whole;have D_cut_out:=c.d (sp:=Mg cW cU cL) h29 λ_ F=>M5 F T D_entries_of D_check_cut D_first_piece D_other_piece;have D_pieces:Ay l.prog w K mg base 5 "pieces" ["tree","width","height"] (EW tb cW cU cL):=⟨_,_,O7 F30 T hC30 hB0 D_check_sides D_cut_out,mg_of X G a30,k30,b30⟩;have D_runs:=c.d h31 λ_ F=>RA F;have D_columns_parted:=c.d h32 λ_ F=>EJ F T M_Panel_pane_at;have D_rows_parted:=c.d h33 λ_ F=>G9 F T M_Panel_pane_at;have D_level_leads:=c.d h34 λ_ F=>GF F T D_runs D_columns_parted;have D_upright_leads:=c.d h35 λ_ F=>Fk F T D_runs D_rows_parted;have D_leads:=c.d h36 λ_ F=>PV F D_check_block D_level_leads D_upright_leads;have D_lies_on:=c.d h37 λ_ F=>M2 F;have D_turn:=c.d h38 λ_ F=>R9 F T D_lies_on;have D_entry_for:=c.d h39 λ_ F=>JM F T D_lines_through;have D_cut_up:Ay l.prog w K mg base 8 "cut_up" ["sheet","some"] (EY tb3):=⟨_,_,O9 F40 hC40 hB0 D_inside D_entry_for D_entries_by,mg_of X G a40,k40,b40⟩;have D_pane_broken:=c.d h41 λ_ F=>GA F D_line_breaks;have D_breaks_of:=c.d h42 λ_ F=>JO F T D_panes_in D_pane_broken;have D_one_longer:=c.d h43 λ_ F=>HM F D_lies_on;have D_four_that_turn:=c.d h44 λ_ F=>EI F T D_one_longer D_turn;have D_tree_of:=c.dx (sp:=EV tb tb3 cW cU cL C cX) h45 λ_ F=>M1 F T PC hne X_Stuck M_Panel_panes D_cut_up D_breaks_of D_leads D_four_that_turn D_tree_from;have D__law_purse:=c.d h46 λ_ F=>JK F T;have D__law_take:=c.d h47 λ_ F=>KW F;have D__law_wheel:=c.d h48 λ_ F=>JI F T D__law_take;have D__law_cut_up:=c.d h49 λ_ F=>HN F T D__law_purse D__law_take;have D__law_asked:=c.d (sp:=Gx tb tb3 cW cU cL C) h50 λ_ F=>JL F RX0 D_tree_of;have D__law_right:=c.d (sp:=Gu tb tb3 C) h51 λ_ F=>JJ F T PC hne D__law_asked D_pieces M_Panel_panes;exact Td F52 T D__law_purse D__law_take D__law_cut_up D__law_wheel K_Panel M_Panel_turned D__law_right
theorem walk(tb:Addr)(tb3:Addr){l:OpenLaw}{q:Program}{loose:LSz}{XP:(MGz)->Heap->Prop}{YP:World->Heap->Prop}{d:DefRec}{K:Params->Frag}{Ts:List Addr}(hm_tb:tb∈Ts)(hm_tb3:tb3∈Ts)(hn:l.most=some 63)(hdf:d.params.defaults=[])
  (hY:∀(w:World)(h:Heap),YP w h->(K w.params).In h) (hT:∀(w:World)(h:Heap),YP w h->∀T∈Ts,h.get? T=some (tabObj #[])/\(K w.params).lookup T=none/\∃c,CodeHd h c T)
  (F:∀(w:World)(mg:MGz)(fa:Addr)(h:Heap),(K w.params).In h->h.Ns mainGlobals mg->mg d.name=some (.ref fa) ->
   ∃fd:FuncData,(∀(s:Shared)(u:Value),BindsTo s fd ⟨[u],[]⟩ [("_law_script",u)])/\∀base:Heap,(K w.params).In base->base.Ns mainGlobals mg->A5 l.prog w (K w.params) mg base CX0 12 fa fd ["_law_script"] (sp_law tb tb3 (K w.params))) :
  WalkO q loose XP YP l.row.toRowW d [] (λ f vs=>PySem.call f vs) :=
 L2.walk_ofT (n:=63) (k:=12) (x:="_law_script") (CX:=λ_=>CX0) (sp:=λ w=>sp_law tb tb3 (K w.params)) hn (by decide) hdf ⟨rfl,by decide,by decide⟩ hY hT F (λ_ _ a ns hl hO hS=>⟨a,ns,rfl,hS,hl,hO.2 tb hm_tb,hO.2 tb3 hm_tb3,λ_=>rfl⟩) λ_ _ _ _ _ z=>z
end K24
open PySem PySem.W PyProof.Rows
set_option maxRecDepth 100000 in
set_option maxHeartbeats 0 in
theorem PySem.Challenge.cw_glazebench_k24_whole_cut_panels_have_tre_holds : PySem.Challenge.rw_glazebench_k24_whole_cut_panels_have_tre.Holds := by
 refine KH.prep fun said => ?_
 have fx : ∀ s, KH.Xp PySem.Challenge.pw_glazebench_k24_whole_cut_panels_have_tre s = true → XL (KH.qv PySem.Challenge.pw_glazebench_k24_whole_cut_panels_have_tre) [] (s.heap.nsMap mainGlobals) s.heap := fun s e => xl_of s (Bool.and_eq_true_iff.mp e).1
 have fr : ∀ s, KH.Xp PySem.Challenge.pw_glazebench_k24_whole_cut_panels_have_tre s = true → RecFacts (RowW.records (OpenRow.toRowW PySem.Challenge.rw_glazebench_k24_whole_cut_panels_have_tre.row)) s.heap := fun s e => recFacts_of (Bool.and_eq_true_iff.mp e).2
 refine holds_open (XP := XL (KH.qv PySem.Challenge.pw_glazebench_k24_whole_cut_panels_have_tre) []) KH.left (L2.hookT (kHook KH.KK KH.kas KH.kas_is) KH.Ts).of (L2.hookT (kHook KH.KK KH.kas KH.kas_is) KH.Ts).keeps fx XL.keeps (by rfl) (by rfl) (by rfl) fr (by rfl) said (by decide +kernel) ?hb ?hw ?hc
 case hb => exact ⟨rfl,rfl, rfl,rfl, rfl, by decide +kernel⟩
 case hw => w_witness2
 case hc =>
  k_fill
  refine K24.walk (l := PySem.Challenge.rw_glazebench_k24_whole_cut_panels_have_tre) (Ts := KH.Ts) 508 568 (by simp [KH.Ts]) (by simp [KH.Ts]) rfl rfl (fun w h Y => PySem.W.kIn_of Y.1) ?HT ?F
  case HT =>
   intro w h Y T hT
   refine ⟨Y.2 T hT, ?_⟩
   have hT : T ∈ [508, 568] := hT
   simp only [List.mem_cons, List.not_mem_nil, or_false] at hT
   rcases hT with rfl | rfl
   ·exact ⟨by kernel_rfl, 512, L2.codeTB_of (c := 512) (T := 508) (by kernel_rfl) h (PySem.W.kIn_of Y.1)⟩
   ·exact ⟨by kernel_rfl, 572, L2.codeTB_of (c := 572) (T := 568) (by kernel_rfl) h (PySem.W.kIn_of Y.1)⟩
  case F =>
   intro w mg fa h KX G hmg
   refine' K24.all_mk (tb := 508) (tb3 := 568) KX G hmg ?my_aC ?my_pg_C ?my_hd_C ?my_po_C ?my_sa_C ?my_mk_C ?my_kc_C ?my_n_C_width ?my_n_C_height ?my_n_C_sorted_panes ?my_n_C_by_square ?my_aT ?my_aC_cW ?my_ic_cW ?my_a_cWcW ?my_i_cW ?my_l_cW ?my_cc_cW ?my_k_cW ?my_lT_cW ?my_eT_cW ?my_aC_cU ?my_ic_cU ?my_h_cUcU ?my_aC_cL ?my_ic_cL ?my_h_cLcL ?my_kit ?my_aG ?my_eG ?my_aC_cX ?my_kC_cX ?my_nC_cX ?my_nC2_cX ?my_nC3_cX ?my_h_cXcX ?my_ei_cX ?my_xc_cX ?my_xm_cX ?my_mU ?my_h0 ?my_h1 ?my_h2 ?my_h3 ?my_h4 ?my_h5 ?my_h6 ?my_h7 ?my_h8 ?my_h9C ?my_h10C ?my_h11C ?my_h12C ?my_h13 ?my_h14 ?my_h15 ?my_h16 ?my_h17 ?my_h18 ?my_h19 ?my_h20 ?my_h21 ?my_h22 ?my_h23 ?my_h24 ?my_h25 ?my_h26 ?my_h27 ?my_h28 ?my_h29 ?my_a30 ?my_l30 ?my_cc30 ?my_k30 ?my_ec30 ?my_hC30 ?my_h31 ?my_h32 ?my_h33 ?my_h34 ?my_h35 ?my_h36 ?my_h37 ?my_h38 ?my_h39 ?my_a40 ?my_l40 ?my_cc40 ?my_k40 ?my_ec40 ?my_hC40 ?my_h41 ?my_h42 ?my_h43 ?my_h44 ?my_h45 ?my_h46 ?my_h47 ?my_h48 ?my_h49 ?my_h50 ?my_h51 ?my_h52 ?my_abm ?my_lbm ?my_nbm1 ?my_nbm2 ?my_hne ?my_z0 ?my_z1 ?my_z2 ?my_z3 ?my_z4 ?my_z5 ?my_z6 ?my_z7 ?my_z8 ?my_z9 ?my_z10 ?my_z11 ?my_z12 ?my_z13 ?my_z14 ?my_z15 ?my_g0 ?my_g1 ?my_g2 ?my_g3 ?my_g4 ?my_g5 ?my_g6 ?my_g7 ?my_g8 ?my_g9
   (case my_aC => k_is); (case my_pg_C => k_is); (case my_hd_C => k_is); (case my_po_C => k_is); (case my_sa_C => k_is); (case my_mk_C => k_is); (case my_kc_C => k_is); (case my_n_C_width => k_is)
   (case my_n_C_height => k_is); (case my_n_C_sorted_panes => k_is); (case my_n_C_by_square => k_is); (case my_aT => k_is); (case my_aC_cW => k_is); (case my_a_cWcW => k_is); (case my_i_cW => k_is); (case my_l_cW => k_is)
   (case my_cc_cW => k_is); (case my_k_cW => k_is); (case my_lT_cW => k_is); (case my_aC_cU => k_is); (case my_aC_cL => k_is); (case my_aG => k_is); (case my_aC_cX => k_is); (case my_kC_cX => k_is)
   (case my_nC_cX => k_is); (case my_nC2_cX => k_is); (case my_nC3_cX => k_is); (case my_xm_cX => k_is); (case my_mU => k_is); (case my_a30 => k_is); (case my_l30 => k_is); (case my_cc30 => k_is)
   (case my_k30 => k_is); (case my_a40 => k_is); (case my_l40 => k_is); (case my_cc40 => k_is); (case my_k40 => k_is); (case my_abm => k_is); (case my_lbm => k_is); (case my_z0 => k_is)
   (case my_z1 => k_is); (case my_z2 => k_is); (case my_z3 => k_is); (case my_z4 => k_is); (case my_z5 => k_is); (case my_z6 => k_is); (case my_z7 => k_is); (case my_z8 => k_is)
   (case my_z9 => k_is); (case my_z10 => k_is); (case my_z11 => k_is); (case my_z12 => k_is); (case my_z13 => k_is); (case my_z14 => k_is); (case my_z15 => k_is); (case my_g0 => k_is)
   (case my_g1 => k_is); (case my_g2 => k_is); (case my_g3 => k_is); (case my_g4 => k_is); (case my_g5 => k_is); (case my_g6 => k_is); (case my_g7 => k_is); (case my_g8 => k_is)
   (case my_g9 => k_is); (case my_eT_cW => rfl); (case my_ec30 => rfl); (case my_ec40 => rfl); (case my_ic_cW => kernel_rfl); (case my_ic_cU => kernel_rfl); (case my_ic_cL => kernel_rfl); (case my_kit => kernel_rfl)
   (case my_eG => kernel_rfl); (case my_ei_cX => kernel_rfl); (case my_xc_cX => kernel_rfl); (case my_hC30 => kernel_rfl); (case my_hC40 => kernel_rfl); (case my_nbm1 => decide); (case my_nbm2 => decide); (case my_hne => decide)
   case my_h_cUcU | my_h_cLcL | my_h_cXcX | my_h9C | my_h10C | my_h11C | my_h12C => exact ⟨by k_is, by k_is, _, ⟨⟨_,_,_,_,_,_,_,_,_,rfl, by k_is, by k_is⟩, by k_is⟩⟩
   case my_h0 | my_h1 | my_h2 | my_h3 | my_h4 | my_h5 | my_h6 | my_h7 | my_h8 | my_h13 | my_h14 | my_h15 | my_h16 | my_h17 | my_h18 | my_h19 | my_h20 | my_h21 | my_h22 | my_h23 | my_h24 | my_h25 | my_h26 | my_h27 | my_h28 | my_h29 | my_h31 | my_h32 | my_h33 | my_h34 | my_h35 | my_h36 | my_h37 | my_h38 | my_h39 | my_h41 | my_h42 | my_h43 | my_h44 | my_h45 | my_h46 | my_h47 | my_h48 | my_h49 | my_h50 | my_h51 | my_h52 => exact ⟨by k_is, _, ⟨⟨_,_,_,_,_,_,_,_,_,rfl, by k_is, by k_is⟩, by k_is⟩⟩
