import PyProof.Rows.All
import Wide.All
import OpenK.AllK
import Wide.FinOn
import Lean
import PyProof.EqAt
import PyProof.EqKinds
import PyProof.TupleCall
import PyProof.Rows.SortRuns
import PyProof.NeKinds
import PyProof.ExcAttrAll.ValueError
import PyProof.StationsW
import PyProof.PassesOwn
import PyProof.RulesAs
import PyProof.NsDelKeeps
import PyProof.CompMap
import PyProof.DictItems
import KE.KPairComp
import KE.KMinKey
import KE.KDictList
import KE.KDictOf
import KE.KEqDict
import PyProof.DictIter
import PyProof.DictWalks
import PyProof.Rows.DictUnroll
import KE.KRevIter
import KE.KLam
import KE.KSortKey
import KE.KSortTup
import PyProof.Rows.StrJoin2
import PyProof.Rows.StrNews
import PyProof.StrLawsTight
import PyProof.StrWalks
import PyProof.StrBlockH
import KE.KIntText
import KE.LcSums
import KE.KNest
import PyProof.ZipIter
import KE.KItemsList
import PySem.Challenge.RW_glazebench_k35_whole_moves_and_forms
set_option Elab.async false
set_option linter.all false
set_option maxRecDepth 100000
abbrev VPz:=PySem.Value→PySem.Shared→Prop
abbrev PNz:=List (PySem.Addr × PySem.Obj)
abbrev MGz:=PySem.Str→Option PySem.Value
abbrev AOz:=Array (Option PySem.Value)
abbrev LSz:=List PySem.Str
abbrev LWz:=List PySem.Value
namespace L2
open PySem.W
open PySem PySem.Spec PyProof.Rows
abbrev Key:=Sum Int Str
def IM:Key->Value->Bool
 |.inl k,v=>Value.isInt k v
 |.inr x,v=>Value.isStrOf x v
def TK(w:World):Key->Int
 |.inl k=>hashInt k
 |.inr x=>hashStr w x
theorem AW:∀{k:Key}{v:Value},IM k v=true->(∃i t,k=Sum.inl i/\v=Value.int i t)\/(∃x t,k=Sum.inr x/\v=Value.str x t)
 |.inl i,v,h=>by
  obtain⟨t,e⟩:=Value.isInt_shape (k:=i) (v:=v) h;exact .inl ⟨i,t,rfl,e⟩
 |.inr x,v,h=>by
  obtain⟨t,e⟩:=Value.isStrOf_shape (x:=x) (v:=v) h;exact .inr ⟨x,t,rfl,e⟩
theorem NX(i:Int)(t:Tok):IM (.inl i) (.int i t)=true:=by simp[IM,Value.isInt]
theorem NW(x:Str)(t:Tok):IM (.inr x) (.str x t)=true:=by simp[IM,Value.isStrOf]
theorem Sb(a b:Int):decide ((Sum.inl a:Key)=Sum.inl b)=(a==b):=by
 by_cases e:a=b
 .subst e;simp
 .have h:¬(Sum.inl a:Key)=Sum.inl b:=λ q=>e (Sum.inl.inj q);rw[decide_eq_false h];exact(beq_eq_false_iff_ne.mpr e).symm
theorem RY(a b:Str):decide ((Sum.inr a:Key)=Sum.inr b)=decide (a=b):=by
 by_cases e:a=b
 .subst e;simp
 .have h:¬(Sum.inr a:Key)=Sum.inr b:=λ q=>e (Sum.inr.inj q);rw[decide_eq_false h,decide_eq_false e]
theorem Sa(a:Int)(b:Str):decide ((Sum.inl a:Key)=Sum.inr b)=false:=decide_eq_false (λ q=>nomatch q)
theorem RZ(a:Str)(b:Int):decide ((Sum.inr a:Key)=Sum.inl b)=false:=decide_eq_false (λ q=>nomatch q)
def AY(prog:Program)(w:World):PySem.KeyKind prog w Key where
 is:=IM
 hash:=TK w
 inj:=λ v a b ha hb=>by
  rcases AW ha with ⟨i,t,rfl,rfl⟩|⟨x,t,rfl,rfl⟩
  .rcases AW hb with ⟨j,u,rfl,e⟩|⟨y,u,rfl,e⟩
   .injection e with e1 _;rw[e1]
   .exact nomatch e
  .rcases AW hb with ⟨j,u,rfl,e⟩|⟨y,u,rfl,e⟩
   .exact nomatch e
   .injection e with e1 _;rw[e1]
 byValue:=λ k v h=>by
  rcases AW h with ⟨i,t,rfl,rfl⟩|⟨x,t,rfl,rfl⟩<;>rfl
 pyHash:=λ hv h=>by
  rcases AW hv with ⟨i,t,rfl,rfl⟩|⟨x,t,rfl,rfl⟩
  .exact wpAny_pyHash_int h
  .exact wpAny_pyHash_str h
 eqBool:=λ hu hv h=>by
  rcases AW hu with ⟨i,t,rfl,rfl⟩|⟨x,t,rfl,rfl⟩
  .rcases AW hv with ⟨j,u,rfl,rfl⟩|⟨y,u,rfl,rfl⟩
   .rw[Sb]at h;exact wpAny_eqBool_int h
   .rw[Sa]at h;exact SeqAt.EqAt.int_str i t y u _ _ _ _ h
  .rcases AW hv with ⟨j,u,rfl,rfl⟩|⟨y,u,rfl,rfl⟩
   .rw[RZ]at h;exact SeqAt.EqAt.str_int x t j u _ _ _ _ h
   .rw[RY]at h;exact wpAny_eqBool_str h
 «strs»:=λ k x t v h=>by
  rcases AW h with ⟨i,u,rfl,e⟩|⟨y,u,rfl,e⟩
  .exact nomatch e
  .injection e with e1 _;subst e1;cases v<;>rfl
theorem KU(prog:Program)(w:World)(i:Int)(t:Tok):(AY prog w).is (.inl i) (.int i t)=true:=NX i t
theorem KS(prog:Program)(w:World)(x:Str)(t:Tok):(AY prog w).is (.inr x) (.str x t)=true:=NW x t
inductive V where
 |non|bl (b:Bool)|int (i:Int)|str (x:Str)|byt (b:Array UInt8)|flt (b:UInt64)|ref (a:Addr)|ty (n:String)
 deriving DecidableEq
abbrev LKz:=List (List Key×V)
abbrev LFz:=List (Str×V)
abbrev LUz:=List V
def RelV:V->Value->Prop
 |.non,u=>u=Value.none
 |.bl b,u=>u=Value.bool b
 |.int i,u=>∃t,u=Value.int i t
 |.str x,u=>∃t,u=Value.str x t
 |.byt b,u=>∃t,u=Value.bytes b t
 |.flt b,u=>∃t,u=Value.float b t
 |.ref a,u=>u=Value.ref a
 |.ty n,u=>u=Value.type n
abbrev Vals:LUz->LWz->Prop:=Paired RelV
theorem Vals.length{xs:LUz}{us:LWz}(r:Vals xs us):xs.length=us.length:=Paired.length r
theorem Vals.get:∀{xs:LUz}{us:LWz}{i:Nat}{x:V},Vals xs us->xs[i]?=some x->∃u,us[i]?=some u/\RelV x u
 |_,_,_,_,.nil,e=>by simp at e
 |_,_,0,_,.cons r _,e=>by simp at e;subst e;exact⟨_,rfl,r⟩
 |_,_,i+1,x,.cons _ t,e=>by
  obtain⟨u,h1,h2⟩:=Vals.get (i:=i) (x:=x) t (by simpa using e);exact⟨u,by simpa using h1,h2⟩
theorem Vals.append:∀{xs ys:LUz}{us ws:LWz},Vals xs us->Vals ys ws->Vals (xs++ys) (us++ws)
 |_,_,_,_,.nil,s=>s
 |_,_,_,_,.cons r t,s=>.cons r (Vals.append t s)
theorem Vals.take:∀{xs:LUz}{us:LWz}(n:Nat),Vals xs us->Vals (xs.take n) (us.take n)
 |_,_,0,_=>.nil
 |_,_,_+1,.nil=>.nil
 |_,_,n+1,.cons r t=>.cons r (Vals.take n t)
theorem Vals.drop:∀{xs:LUz}{us:LWz}(n:Nat),Vals xs us->Vals (xs.drop n) (us.drop n)
 |_,_,0,r=>r
 |_,_,_+1,.nil=>.nil
 |_,_,n+1,.cons _ t=>Vals.drop n t
def RelO:Option V->Option Value->Prop
 |some v,some u=>RelV v u
 |none,none=>True
 |_,_=>False
def KV{κ:Type}:List (κ×V)->List (κ×Value)->Prop:=Paired λ(p:κ×V)(q:κ×Value)=>p.1=q.1/\RelV p.2 q.2
def kV:Key->V
 |.inl i=>.int i
 |.inr x=>.str x
inductive HO where
 |lst (xs:LUz)
 |tup (xs:LUz)
 |dK (kvs:List (Key×V))|dT (kvs:LKz)
 |set (S:Int->Bool) (n:Nat)
 |ins (C dx:Addr) (fs:LFz)
 |own (x:Addr)
 |xd (fs:LFz)
 |met (f x:Addr)
 |rng (lo hi:Int)
 |frz (o:Obj) (u:HO)
 |tbl (ps:Array Value)
 |ext (φ:Heap->Prop)
abbrev Hp:=Addr->Option HO
def upd(H:Hp)(a:Addr)(o:HO):Hp:=λ b=>if b=a then some o else H b
theorem upd_same{H:Hp}{a:Addr}{o:HO}:upd H a o a=some o:=by unfold upd;rw[if_pos rfl]
theorem Ah{H:Hp}{a b:Addr}{o:HO}(h:b≠a):upd H a o b=H b:=by unfold upd;rw[if_neg h]
theorem F1{H:Hp}{a b:Addr}{o u:HO}(h:H a=some o)(h':H b=some u)(d:o≠u):a≠b:=by
 intro e;subst e;rw[h]at h';exact d (Option.some.inj h')
theorem Ag{H:Hp}{a b:Addr}{o:HO}(h:H a=some o)(h':H b=none):a≠b:=by
 intro e;subst e;rw[h]at h';cases h'
section
variable(P:Program)(w:World)
def ObjOk(H:Hp)(h:Heap)(a:Addr):HO->Prop
 |.lst xs=>xs.length<=sizeLine/\∃(its:LWz)(n:Nat),Vals xs its/\h.get? a=some { cls:=.type "list",data:=.seq its.toArray n }
 |.tup xs=>xs.length<=sizeLine/\∃its:LWz,Vals xs its/\IsTup h a its.toArray
 |.dK kvs=>kvs.length<=sizeLine/\(a==sysModules)=false/\∃vs,KV kvs vs/\h.DictOf (AY P w) a vs
 |.dT kvs=>kvs.length<=sizeLine/\(a==sysModules)=false/\∃xs:List (List Key×Addr×Value),
   Paired (λ(p:List Key×V)(q:List Key×Addr×Value)=>p.1=q.1/\H q.2.1=some (.tup (p.1.map kV))/\RelV p.2 q.2.2) kvs xs /\
   ∃o es ep,h.get? a=some o/\o.ExactDict/\o.data=.dict es ep/\es.toList=xs.map (entryOfKey (tupleKind (AY P w)))/\(xs.map (·.1)).Nodup
 |.set S n=>h.SetOf (intKind P w) a S n
 |.ins C dx fs=>H dx=some (.own a)/\fs.length<=1000/\dx≠a/\h.get? a=some (instObj C dx) /\
   ∃mA,h.Ns1 dx mA/\(∀f,RelO (fs.lookup f) (mA f))/\PySem.Within mA (fs.map (·.1))
 |.own _=>∃o,h.get? a=some o
 |.xd fs=>∃mA,h.Ns1 a mA/\∀f,RelO (fs.lookup f) (mA f)
 |.rng lo hi=>∃t u v,h.get? a=some { cls:=.type "range",data:=.fields #[.int lo t,.int hi u,.int 1 v] }
 |.frz o u=>h.get? a=some o/\ObjOk H h a u
 |.tbl ps=>h.get? a=some { cls:=.none,data:=.fields ps }
 |.met f x=>h.get? a=some (methodObj (.ref f) (.ref x))
 |.ext φ=>φ h/\(∃o,h.get? a=some o)/\∀h1 h2:Heap,φ h1->(∀o,h1.get? a=some o->h2.get? a=some o)->φ h2
def HOk(H:Hp)(h:Heap):Prop:=∀a o,H a=some o->ObjOk P w H h a o
end
section
variable{P:Program}{w:World}{H H':Hp}{h h':Heap}{a:Addr}{o:HO}
theorem ObjOk.lt(x:ObjOk P w H h a o):a<h.objs.size:=by
 cases o with
 |lst xs=>obtain⟨_,_,_,_,e⟩:=x;exact Heap.lt_size e
 |tup xs=>obtain⟨_,_,_,p⟩:=x;exact p.lt
 |dK kvs=>obtain⟨_,_,_,_,o,_,_,e,_⟩:=x;exact Heap.lt_size e
 |dT kvs=>obtain⟨_,_,_,_,o,_,_,e,_⟩:=x;exact Heap.lt_size e
 |set S n=>obtain⟨o,_,_,_,e,_⟩:=x;exact Heap.lt_size e
 |ins C dx fs=>obtain⟨_,_,_,e,_⟩:=x;exact Heap.lt_size e
 |own y=>obtain⟨_,e⟩:=x;exact Heap.lt_size e
 |xd fs=>obtain⟨_,⟨_,_,_,e,_⟩,_⟩:=x;exact Heap.lt_size e
 |rng lo hi=>obtain⟨_,_,_,e⟩:=x;exact Heap.lt_size e
 |frz ob u=>obtain⟨e,_⟩:=x;exact Heap.lt_size e
 |tbl ps=>exact Heap.lt_size (show h.get? a=some _ from x)
 |met f y=>exact Heap.lt_size (show h.get? a=some _ from x)
 |ext φ=>obtain⟨_,⟨_,e⟩,_⟩:=x;exact Heap.lt_size e
theorem Paired.mapP{α β:Type}{F G:α->β->Prop}:∀{l₁:List α}{l₂:List β},Paired F l₁ l₂->(∀a b,F a b->G a b)->Paired G l₁ l₂
 |_,_,.nil,_=>.nil
 |_,_,.cons r t,f=>.cons (f _ _ r) (Paired.mapP t f)
theorem ObjOk.stay(x:ObjOk P w H h a o)(k:∀b u,(b=a\/H b=some (.own a))->h.get? b=some u->h'.get? b=some u)
  (ho:∀b,H b=some (.own a)->H' b=some (.own a)) (ht:∀b xs,H b=some (.tup xs)->H' b=some (.tup xs)):ObjOk P w H' h' a o:=by
 induction o with
 |lst xs=>obtain⟨z,its,n,r,e⟩:=x;exact⟨z,its,n,r,k _ _ (.inl rfl) e⟩
 |tup xs=>obtain⟨z,its,r,ob,e,c⟩:=x;exact⟨z,its,r,ob,k _ _ (.inl rfl) e,c⟩
 |dK kvs=>obtain⟨z,y,vs,r,ob,es,ep,e,c⟩:=x;exact⟨z,y,vs,r,ob,es,ep,k _ _ (.inl rfl) e,c⟩
 |dT kvs =>
  obtain⟨z,y,xs,r,ob,es,ep,e,c⟩:=x;exact⟨z,y,xs,Paired.mapP r λ p q z=>⟨z.1,ht _ _ z.2.1,z.2.2⟩,ob,es,ep,k _ _ (.inl rfl) e,c⟩
 |set S n=>obtain⟨ob,es,ep,t,e,c⟩:=x;exact⟨ob,es,ep,t,k _ _ (.inl rfl) e,c⟩
 |ins C dx fs =>
  obtain⟨d,z,ne,e,mA,⟨od,es,ep,e2,c⟩,r⟩:=x;exact⟨ho _ d,z,ne,k _ _ (.inl rfl) e,mA,⟨od,es,ep,k _ _ (.inr d) e2,c⟩,r⟩
 |own y=>obtain⟨ob,e⟩:=x;exact⟨ob,k _ _ (.inl rfl) e⟩
 |xd fs=>obtain⟨mA,⟨od,es,ep,e,c⟩,r⟩:=x;exact⟨mA,⟨od,es,ep,k _ _ (.inl rfl) e,c⟩,r⟩
 |rng lo hi=>obtain⟨t,u,v,e⟩:=x;exact⟨t,u,v,k _ _ (.inl rfl) e⟩
 |frz ob u ih=>obtain⟨e,q⟩:=x;exact⟨k _ _ (.inl rfl) e,ih q⟩
 |tbl ps =>
  have e:h.get? a=some { cls:=.none,data:=.fields ps }:=x;show h'.get? a=some { cls:=.none,data:=.fields ps };exact k a _ (.inl rfl) e
 |met f y =>
  have e:h.get? a=some (methodObj (.ref f) (.ref y)):=x;show h'.get? a=some (methodObj (.ref f) (.ref y));exact k a _ (.inl rfl) e
 |ext φ=>obtain⟨p,⟨o,e⟩,st⟩:=x;exact⟨st _ _ p λ o q=>k _ _ (.inl rfl) q,⟨o,k _ _ (.inl rfl) e⟩,st⟩
theorem HOk.lt(x:HOk P w H h)(e:H a=some o):a<h.objs.size:=(x a o e).lt
theorem HOk.fresh(x:HOk P w H h)(e:h.objs.size<=a):H a=none:=by
 cases q:H a with
 |none=>rfl
 |some u=>exact absurd (Nat.lt_of_lt_of_le (x.lt q) e) (Nat.lt_irrefl _)
theorem HOk.kept(x:HOk P w H h)(k:∀b u,h.get? b=some u->h'.get? b=some u):HOk P w H h':=λ a o e =>
 (x a o e).stay (λ b u _ q=>k b u q) (λ_ q=>q) λ_ _ q=>q
theorem HOk.laid(x:HOk P w H h)(k:∀b u,h.get? b=some u->h'.get? b=some u)(hp:h.objs.size<=a)(new:ObjOk P w (upd H a o) h' a o):HOk P w (upd H a o) h':=λ b u e=>by
 have hn:=x.fresh hp;by_cases hb:b=a
 .subst hb;rw[upd_same]at e;cases e;exact new
 .rw[Ah hb]at e;exact(x b u e).stay (λ c v _ q=>k c v q) (λ c q=>by rw[Ah (Ag q hn)];exact q) λ c xs q=>by rw[Ah (Ag q hn)];exact q
end
def Rd(H:Hp)(a:Addr)(u:HO):Prop:=H a=some u\/∃o,H a=some (.frz o u)
theorem Rd.ok{P:Program}{w:World}{H:Hp}{h:Heap}{a:Addr}{u:HO}(r:Rd H a u)(x:HOk P w H h):ObjOk P w H h a u:=by
 rcases r with r|⟨o,r⟩
 .exact x a u r
 .obtain⟨_,q⟩:=x a _ r;exact q
def Mut:Option HO->Prop
 |some (.lst _)=>True
 |some (.dK _)=>True
 |some (.dT _)=>True
 |some (.set _ _)=>True
 |some (.ins _ _ _)=>True
 |some (.ext _)=>True
 |_=>False
section
variable{P:Program}{w:World}{H:Hp}{h h':Heap}{x e:Addr}{o':HO}
theorem HOk.write(ok:HOk P w H h)(mu:Mut (H x))(he:e=x\/H e=some (.own x))(k:∀b u,b≠e->h.get? b=some u->h'.get? b=some u)(heo:∃u,h'.get? e=some u)
  (new:ObjOk P w (upd H x o') h' x o'):HOk P w (upd H x o') h':=λ b u q=>by
 have nown:∀c y,H c=some (.own y)->c≠x:=λ c y r z=>by subst z;rw[r]at mu;exact mu
 have ntup:∀c xs,H c=some (.tup xs)->c≠x:=λ c xs r z=>by subst z;rw[r]at mu;exact mu
 by_cases hb:b=x
 .subst hb;rw[upd_same]at q;cases q;exact new
 .rw[Ah hb]at q;by_cases hbe:b=e
  .have q':H b=some (.own x):=by
    rcases he with z|z
    .exact absurd (hbe.trans z) hb
    .rw[hbe];exact z
   rw[q]at q';cases q';obtain⟨v,hv⟩:=heo;exact⟨v,by rw[hbe];exact hv⟩
  .refine(ok b u q).stay (λ c v hc r=>k c v ?_ r) (λ c r=>by rw[Ah (nown c b r)];exact r) λ c xs r=>by rw[Ah (ntup c xs r)];exact r
   rcases hc with rfl|hc
   .exact hbe
   .rintro rfl;rcases he with z|z
    .exact nown c b hc z
    .rw[hc]at z;cases z;exact hb rfl
end
structure Un(fs ex:List Addr)(H H':Hp)(h h':Heap):Prop where
 keep:∀b o,h.get? b=some o->H b=none->b∉fs->b∉ex->h'.get? b=some o
 slot:∀b o,h.get? b=some o->H b=none->b∈fs->b∉ex->∃sl,h'.get? b=some { o with slots:=sl }
 free:∀b o,h.get? b=some o->H b=none->b∉ex->H' b=none
 there:∀b o,h.get? b=some o->b∉ex->∃o',h'.get? b=some o'
 tups:∀b xs,H b=some (.tup xs)->H' b=some (.tup xs)
 frzs:∀b o u,H b=some (.frz o u)->H' b=some (.frz o u)
 tbls:∀b ps,H b=some (.tbl ps)->∃more,H' b=some (.tbl (ps++more))
section
variable{fs fs' ex ex':List Addr}{H H1 H2:Hp}{h h1 h2 h':Heap}{a x e:Addr}{o:HO}
theorem Un.any(u:Un fs ex H H1 h h1){b:Addr}{ob:Obj}(q:h.get? b=some ob)(n:H b=none)(hx:b∉ex):∃sl,h1.get? b=some { ob with slots:=sl }:=by
 by_cases hb:b∈fs
 .exact u.slot b ob q n hb hx
 .exact⟨ob.slots,u.keep b ob q n hb hx⟩
theorem Un.kept(k:∀b u,h.get? b=some u->h'.get? b=some u):Un fs ex H H h h' :=
 ⟨λ b ob q _ _ _=>k b ob q,λ b ob q _ _ _=>⟨ob.slots,k b ob q⟩,λ_ _ _ n _=>n,λ b ob q _=>⟨ob,k b ob q⟩,λ_ _ q=>q,λ_ _ _ q=>q,λ_ ps q=>⟨#[],by rw[q];simp⟩⟩
theorem Un.refl:Un fs ex H H h h:=Un.kept λ_ _ q=>q
theorem Un.laid(k:∀b u,h.get? b=some u->h'.get? b=some u)(hp:h.objs.size<=a)(hn:H a=none):Un fs ex H (upd H a o) h h' where
 keep:=λ b u q _ _ _=>k b u q
 slot:=λ b u q _ _ _=>⟨u.slots,k b u q⟩
 free:=λ b u q n _=>by rw[Ah (Nat.ne_of_lt (Nat.lt_of_lt_of_le (Heap.lt_size q) hp))];exact n
 there:=λ b u q _=>⟨u,k b u q⟩
 tups:=λ b xs q=>by rw[Ah (Ag q hn)];exact q
 frzs:=λ b u xs q=>by rw[Ah (Ag q hn)];exact q
 tbls:=λ b ps q=>⟨#[],by rw[Ah (Ag q hn),q];simp⟩
theorem Un.write(mu:Mut (H x))(he:e=x\/H e=some (.own x))(k:∀b u,b≠e->h.get? b=some u->h'.get? b=some u)(heo:∃u,h'.get? e=some u):Un fs ex H (upd H x o) h h':=by
 have hx:∀b,H b=none->b≠x:=λ b n z=>by subst z;rw[n]at mu;exact mu
 have hb:∀b,H b=none->b≠e:=λ b n z=>by
  subst z;rcases he with r|r
  .exact hx b n r
  .rw[n]at r;cases r
 have hm:∀b u,H b=some u->¬Mut (some u)->b≠x:=λ b u q nm z=>by subst z;rw[q]at mu;exact nm mu
 refine⟨λ b u q n _ _=>k b u (hb b n) q,λ b u q n _ _=>⟨u.slots,k b u (hb b n) q⟩,λ b u q n _=>by rw[Ah (hx b n)];exact n,λ b u q _=>?_,
  λ b xs q=>by rw[Ah (hm b _ q λ z=>z)];exact q,λ b u xs q=>by rw[Ah (hm b _ q λ z=>z)];exact q,λ b ps q=>⟨#[],by rw[Ah (hm b _ q λ z=>z),q];simp⟩⟩
 by_cases hbe:b=e
 .subst hbe;exact heo
 .exact⟨u,k b u hbe q⟩
end
def trk(h:Heap)(H:Hp):List Addr:=(List.range h.objs.size).filter λ a=>(H a).isSome
def JY(h:Heap)(H:Hp):Heap:=hideAll h (trk h H)
theorem Ob(h:Heap)(H:Hp):(JY h H).objs.size=h.objs.size:=hideAll_size _ _
theorem Pe{h:Heap}{H:Hp}{b:Addr}{o:Obj}(e:h.get? b=some o)(n:H b=none):(JY h H).get? b=some o :=
 hideAll_get _ e λ hm=>by
  have q:(H b).isSome=true:=(List.mem_filter.mp hm).2;rw[n]at q;simp at q
theorem Q8{h:Heap}{H:Hp}{b:Addr}{o:Obj}(e:(JY h H).get? b=some o):h.get? b=some o/\H b=none:=by
 have e':h.get? b=some o:=of_hideAll (trk h H) e;refine⟨e',?_⟩;cases q:H b with
 |none=>rfl
 |some x =>
  have hm:b∈trk h H:=List.mem_filter.mpr ⟨List.mem_range.mpr (Heap.lt_size e'),by simp[q]⟩;have z:(JY h H).get? b=none:=hideAll_none (trk h H) hm;rw[z]at e;cases e
structure Mod(K:Frag)(mg:MGz)(base:Heap):Prop where
 kin:K.In base
 glob:base.Ns mainGlobals mg
 blt:∃mb,base.Ns builtinsNs mb/\∀x:Str,x≠"__name__"->mb x=bootBuiltins x
 nolimit:base.NoLimit
structure Cx where
 prog:Program
 w:World
 K:Frag
 mg:MGz
 base:Heap
 A:Around
 N:LSz
 s₀:Shared
 H₀:Hp
 env:Env
 outer:List Env
 stack:List Env
 ex:List Addr
 fn:Str->Bool
 calm:Bool
 pn:PNz
 xe:VPz
def frs(l:List Env):List Addr:=l.filterMap (·.frame)
abbrev Cx.fs(X:Cx):List Addr:=frs X.outer
def Vis(sc:Scope)(x:Str):Prop:=sc.names.lookup x=some .local\/sc.names.lookup x=some .cell\/sc.names.lookup x=some .free
def Loc(sc:Scope)(x:Str):Prop:=sc.names.lookup x=some .local\/sc.names.lookup x=some .cell
def TX(env:Env)(h:Heap)(m:MGz)(x:Str)(u:Value):Prop :=
 (env.kindOf x=some .local/\m x=some u)\/((env.kindOf x=some .cell\/env.kindOf x=some .free)/\∃c,env.cells.lookup x=some c/\h.IsCell c (some u))
structure Cx.Ok(X:Cx):Prop where
 mod:Mod X.K X.mg X.base
 kind:X.env.scope.kind=.function
 glob:X.env.globals=mainGlobals
 blt:X.env.builtins=builtinsNs
 above:X.s₀.heap.objs.size<=X.env.locals
 inj:∀x y c,X.env.cells.lookup x=some c->X.env.cells.lookup y=some c->x=y
 has:∀x,(X.env.kindOf x=some .cell\/X.env.kindOf x=some .free)->∃c,X.env.cells.lookup x=some c
 cab:∀x c,X.fn x=true->X.env.cells.lookup x=some c->X.s₀.heap.objs.size<=c
 hd:X.calm=true->X.A.handled=none
 frames:X.A.frames=some X.stack
 stk:X.stack=X.outer\/(X.stack=X.env::X.outer/\X.env.frame=some X.env.locals)
 exf:∀b∈X.ex,b≠X.env.locals/\∀x c,X.env.cells.lookup x=some c->c≠b
 bs:∀b o,X.base.get? b=some o->X.s₀.heap.get? b=some o/\X.H₀ b=none
 bsz:X.base.objs.size<=X.s₀.heap.objs.size
 noex:∀b o,X.base.get? b=some o->b∉X.ex
 exfs:∀b∈X.ex,b∉X.fs
 funs:X.s₀.heap.FunFrames X.base X.outer
 frf:∀b∈X.fs,X.H₀ b=none
structure Inv(X:Cx)(pins:PNz)(σ:List (Option V))(H:Hp)(s:Shared):Prop where
 ok:X.Ok
 os:s.os=X.s₀.os
 bare:AllBare s.gens
 base:Un X.fs X.ex X.H₀ H X.s₀.heap s.heap
 loc:∃m,s.heap.Ns X.env.locals m/\∀(i:Nat)(x:Str)(v:V),X.N[i]?=some x->σ[i]?=some (some v)->Vis X.env.scope x->∃u,RelV v u/\TX X.env s.heap m x u
 cell:∀x c,X.env.cells.lookup x=some c->∃v,s.heap.IsCell c v
 free:H X.env.locals=none
 freeC:∀x c,X.env.cells.lookup x=some c->H c=none
 pin:∀p∈X.pn++pins,s.heap.get? p.1=some p.2/\H p.1=none/\p.1≠X.env.locals/\p.1∉X.fs/\∀v,p.2.data≠.cell v
 hok:HOk X.prog X.w H s.heap
 len:σ.length=X.N.length
section
variable{X:Cx}{pins:PNz}{σ:List (Option V)}{H H':Hp}{s:Shared}{h':Heap}
theorem Cx.Ok.nofr(ok:X.Ok){b:Addr}{o:Obj}(e:X.base.get? b=some o):b∉X.fs:=λ hb=>by
 have:=(ok.funs.mem hb).1;rw[e]at this;cases this
theorem Inv.bs(I:Inv X pins σ H s):∀b o,X.base.get? b=some o->s.heap.get? b=some o/\H b=none:=λ b o e =>
 ⟨I.base.keep b o (I.ok.bs b o e).1 (I.ok.bs b o e).2 (I.ok.nofr e) (I.ok.noex b o e),I.base.free b o (I.ok.bs b o e).1 (I.ok.bs b o e).2 (I.ok.noex b o e)⟩
theorem Inv.bk(I:Inv X pins σ H s):∀b o,X.base.get? b=some o->s.heap.get? b=some o:=λ b o e=>(I.bs b o e).1
theorem Inv.mod(I:Inv X pins σ H s):Mod X.K X.mg X.base:=I.ok.mod
theorem Inv.kIn(I:Inv X pins σ H s):X.K.In s.heap:=I.ok.mod.kin.keeps I.bk
theorem Inv.lt(I:Inv X pins σ H s):X.env.locals<s.heap.objs.size:=let ⟨_,hn,_⟩:=I.loc;hn.lt
theorem Inv.sz(I:Inv X pins σ H s):X.s₀.heap.objs.size<=s.heap.objs.size:=Nat.le_trans I.ok.above (Nat.le_of_lt I.lt)
theorem Inv.nofs(I:Inv X pins σ H s){a:Addr}(h:s.heap.objs.size<=a):a∉X.fs:=λ hb=>by
 obtain⟨_,o,ho,_⟩:=I.ok.funs.mem hb;exact absurd (Nat.lt_of_lt_of_le (Heap.lt_size ho) (Nat.le_trans I.sz h)) (Nat.lt_irrefl _)
theorem Inv.cne(I:Inv X pins σ H s):∀x c,X.env.cells.lookup x=some c->c≠X.env.locals:=λ x c e z=>by
 obtain⟨v,o,ho,hd⟩:=I.cell x c e;obtain⟨m,⟨o',es,ep,ho',hd',_⟩,_⟩:=I.loc;rw[z,ho']at ho;cases ho;rw[hd']at hd;cases hd
theorem Inv.funs(I:Inv X pins σ H s):s.heap.FunFrames X.base X.outer:=by
 have all:∀(l:List Env),(∀b∈frs l,b∈X.fs)->X.s₀.heap.FunFrames X.base l->s.heap.FunFrames X.base l:=by
  intro l
  induction l with
  |nil=>intro _ _;trivial
  |cons env r ih =>
   intro hs hl;obtain⟨hk,⟨L,o,hf,hn,ho,hd⟩,hr⟩:=hl;have hL:L∈X.fs:=hs L (by unfold frs;rw[List.filterMap_cons,hf];exact List.mem_cons_self);obtain⟨sl,e⟩:=I.base.slot L o ho (I.ok.frf L hL) hL λ z=>I.ok.exfs L z hL;exact⟨hk,⟨L,_,hf,hn,e,hd⟩,ih (λ b hb=>hs b (by unfold frs;rw[List.filterMap_cons,hf];exact List.mem_cons_of_mem _ hb)) hr⟩
 exact all X.outer (λ_ hb=>hb) I.ok.funs
theorem Inv.stack(I:Inv X pins σ H s):s.heap.FunFrames X.base X.stack:=by
 rcases I.ok.stk with e|⟨e,hf⟩
 .rw[e];exact I.funs
 .rw[e];obtain⟨m,hn,_⟩:=I.loc;refine .cons (by rw[I.ok.kind];decide) hf hn ?_ I.funs;exact Heap.get?_none_of_le (Nat.le_trans I.ok.bsz I.ok.above)
theorem Inv.stkSub(I:Inv X pins σ H s):∀b∈frs X.stack,b∈X.env.locals::X.fs:=λ b hb=>by
 rcases I.ok.stk with e|⟨e,hf⟩
 .rw[e]at hb;exact List.mem_cons_of_mem _ hb
 .rw[e]at hb;unfold frs at hb;rw[List.filterMap_cons,hf]at hb;exact hb
theorem Inv.stkFree(I:Inv X pins σ H s):∀b∈frs X.stack,H b=none:=λ b hb=>by
 rcases List.mem_cons.mp (I.stkSub b hb) with e|hb
 .rw[e];exact I.free
 .obtain⟨_,o,ho,_⟩:=I.ok.funs.mem hb;exact I.base.free b o ho (I.ok.frf b hb) λ z=>I.ok.exfs b z hb
theorem Inv.step{g':Array GenState}{t':Nat}{d':Drawn}{ch:List Addr}(I:Inv X pins σ H s)
  (hch:∀b∈ch,(b∈X.ex\/X.s₀.heap.objs.size<=b)/\b≠X.env.locals/\(∀x c,X.env.cells.lookup x=some c->c≠b)/\∀p∈X.pn++pins,p.1≠b)
  (keep:∀b o,b≠X.env.locals->b∉X.fs->b∉ch->s.heap.get? b=some o->H b=none->h'.get? b=some o)
  (slot:∀b o,b≠X.env.locals->b∈X.fs->b∉ch->s.heap.get? b=some o->H b=none->∃sl,h'.get? b=some { o with slots:=sl }) (free:∀b o,b∉ch->s.heap.get? b=some o->H b=none->H' b=none)
  (there:∀b o,b∉ch->s.heap.get? b=some o->∃o',h'.get? b=some o')
  (tups:∀b xs,H b=some (.tup xs)->H' b=some (.tup xs)) (frzs:∀b o u,H b=some (.frz o u)->H' b=some (.frz o u)) (tbls:∀b ps,H b=some (.tbl ps)->∃more,H' b=some (.tbl (ps++more)))
  (ns:∀m,s.heap.Ns X.env.locals m->h'.Ns X.env.locals m) (hok:HOk X.prog X.w H' h') (hg:AllBare g') :
  Inv X pins σ H' { s with heap:=h',gens:=g',drawn:=d',toks:=t' }:=by
 have neL:∀b o,X.s₀.heap.get? b=some o->b≠X.env.locals:=λ b o e=>Nat.ne_of_lt (Nat.lt_of_lt_of_le (Heap.lt_size e) I.ok.above);have neC:∀b o,X.s₀.heap.get? b=some o->b∉X.ex->b∉ch:=λ b o e hx hb=>by
  rcases(hch b hb).1 with z|z
  .exact hx z
  .exact absurd (Nat.lt_of_lt_of_le (Heap.lt_size e) z) (Nat.lt_irrefl _)
 have cellK:∀x c,X.env.cells.lookup x=some c->∀v,s.heap.IsCell c v->h'.IsCell c v:=λ x c e v ⟨o,ho,hd⟩=>by
  have nch:c∉ch:=λ z=>(hch c z).2.2.1 x c e rfl;by_cases hc:c∈X.fs
  .obtain⟨sl,q⟩:=slot c o (I.cne x c e) hc nch ho (I.freeC x c e);exact⟨_,q,hd⟩
  .exact⟨o,keep c o (I.cne x c e) hc nch ho (I.freeC x c e),hd⟩
 refine⟨I.ok,I.os,hg,⟨λ b o e n hb hx=>?_,λ b o e n hb hx=>?_,λ b o e n hx=>?_,λ b o e hx=>?_,λ b xs e=>tups b xs (I.base.tups b xs e),λ b o xs e=>frzs b o xs (I.base.frzs b o xs e),λ b ps e=>?_⟩,?_,λ x c e=>?_,?_,λ x c e=>?_,λ p hp=>?_,hok,I.len⟩
 .exact keep b o (neL b o e) hb (neC b o e hx) (I.base.keep b o e n hb hx) (I.base.free b o e n hx)
 .obtain⟨sl,e1⟩:=I.base.slot b o e n hb hx;obtain⟨sl',e2⟩:=slot b _ (neL b o e) hb (neC b o e hx) e1 (I.base.free b o e n hx);exact⟨sl',e2⟩
 .obtain⟨o',e1⟩:=I.base.there b o e hx;exact free b o' (neC b o e hx) e1 (I.base.free b o e n hx)
 .obtain⟨o',e1⟩:=I.base.there b o e hx;exact there b o' (neC b o e hx) e1
 .obtain⟨m1,e1⟩:=I.base.tbls b ps e;obtain⟨m2,e2⟩:=tbls b _ e1;exact⟨m1++m2,by rw[e2,Array.append_assoc]⟩
 .obtain⟨m,hn,hl⟩:=I.loc;refine⟨m,ns m hn,λ i x v e1 e2 e3=>?_⟩;obtain⟨u,r,l⟩:=hl i x v e1 e2 e3;refine⟨u,r,?_⟩;rcases l with l|⟨k,c,e,z⟩
  .exact .inl l
  .exact .inr ⟨k,c,e,cellK x c e _ z⟩
 .obtain⟨v,z⟩:=I.cell x c e;exact⟨v,cellK x c e v z⟩
 .obtain⟨m,⟨o,_,_,ho,_⟩,_⟩:=I.loc;exact free _ o (λ z=>(hch _ z).2.1 rfl) ho I.free
 .obtain⟨v,o,ho,hd⟩:=I.cell x c e;exact free c o (λ z=>(hch c z).2.2.1 x c e rfl) ho (I.freeC x c e)
 .obtain⟨e,n,ne,nf,d⟩:=I.pin p hp;have nch:p.1∉ch:=λ z=>(hch p.1 z).2.2.2 p hp rfl;exact⟨keep p.1 p.2 ne nf nch e n,free p.1 p.2 nch e n,ne,nf,d⟩
theorem Inv.un{t':Nat}(I:Inv X pins σ H s)(u:Un X.fs [] H H' s.heap h')(hok:HOk X.prog X.w H' h'):Inv X pins σ H' { s with heap:=h',toks:=t' }:=by
 obtain⟨m,⟨o,es,ep,ho,r⟩,_⟩:=id I.loc;obtain⟨sl,hL⟩:=u.any ho I.free (by simp);exact I.step (g':=s.gens) (d':=s.drawn) (ch:=[]) (λ_ z=>nomatch z) (λ b o _ hb _ e n=>u.keep b o e n hb (by simp)) (λ b o _ hb _ e n=>u.slot b o e n hb (by simp)) (λ b o _ e n=>u.free b o e n (by simp)) (λ b o _ e=>u.there b o e (by simp)) u.tups u.frzs u.tbls (λ m' hm=>by
  obtain⟨o',es',ep',ho',r'⟩:=hm;rw[ho]at ho';cases ho';exact⟨_,es',ep',hL,r'⟩) hok I.bare
theorem Inv.call{g':Array GenState}{t':Nat}{d':Drawn}{ch:List Addr}(I:Inv X pins σ H s)(u:Un (frs X.stack) ch H H' s.heap h')(hok:HOk X.prog X.w H' h')(hg:AllBare g')
  (hch:∀b∈ch,(b∈X.ex\/X.s₀.heap.objs.size<=b)/\b≠X.env.locals/\(∀x c,X.env.cells.lookup x=some c->c≠b)/\∀p∈X.pn++pins,p.1≠b) :
  Inv X pins σ H' { s with heap:=h',gens:=g',drawn:=d',toks:=t' }:=by
 obtain⟨m,⟨o,es,ep,ho,r⟩,_⟩:=id I.loc;obtain⟨sl,hL⟩:=u.any ho I.free λ z=>(hch _ z).2.1 rfl;exact I.step (ch:=ch) hch (λ b o hL hb hc e n=>u.keep b o e n (λ z=>(List.mem_cons.mp (I.stkSub b z)).elim hL hb) hc) (λ b o _ _ hc e n=>u.any e n hc) (λ b o hc e n=>u.free b o e n hc) (λ b o hc e=>u.there b o e hc) u.tups u.frzs u.tbls (λ m' hm=>by
  obtain⟨o',es',ep',ho',r'⟩:=hm;rw[ho]at ho';cases ho';exact⟨_,es',ep',hL,r'⟩) hok hg
theorem Inv.turned{t':Nat}{it:Addr}(I:Inv X pins σ H s)(k:∀b o,b≠it->s.heap.get? b=some o->h'.get? b=some o)(hn:H it=none)(hL:it≠X.env.locals)
  (h1:it∈X.ex\/X.s₀.heap.objs.size<=it) (h2:∀x c,X.env.cells.lookup x=some c->c≠it) (h3:∀p∈X.pn++pins,p.1≠it):Inv X pins σ H { s with heap:=h',toks:=t' }:=by
 have nit:∀b u,H b=some u->b≠it:=λ b u e z=>by rw[z,hn]at e;cases e
 refine I.step (g':=s.gens) (d':=s.drawn) (ch:=[it]) (λ b hb=>?_) (λ b o _ _ hc e _=>k b o (λ z=>hc (by simp[z])) e) (λ b o _ _ hc e _=>⟨o.slots,k b o (λ z=>hc (by simp[z])) e⟩) (λ_ _ _ _ n=>n)
  (λ b o hc e=>⟨o,k b o (λ z=>hc (by simp[z])) e⟩) (λ_ _ e=>e) (λ_ _ _ e=>e) (λ b ps e=>⟨#[],by rw[e];simp⟩) (λ m hm=>?_) (λ b u e=>?_) I.bare
 .have e:b=it:=by simpa using hb
  subst e;exact⟨h1,hL,h2,h3⟩
 .obtain⟨o,es,ep,ho,r⟩:=hm;exact⟨o,es,ep,k _ o (Ne.symm hL) ho,r⟩
 .refine(I.hok b u e).stay (λ c v hc q=>k c v ?_ q) (λ_ q=>q) λ_ _ q=>q;rcases hc with z|z
  .rw[z];exact nit b u e
  .exact nit c _ z
theorem Inv.tok(I:Inv X pins σ H s)(t:Nat):Inv X pins σ H { s with toks:=t }:=I.un (h':=s.heap) (t':=t) Un.refl I.hok
theorem Inv.kept{t':Nat}(I:Inv X pins σ H s)(k:∀b u,s.heap.get? b=some u->h'.get? b=some u):Inv X pins σ H { s with heap:=h',toks:=t' }:=I.un (Un.kept k) (I.hok.kept k)
theorem Inv.laid{a:Addr}{o:HO}{t':Nat}(I:Inv X pins σ H s)(k:∀b u,s.heap.get? b=some u->h'.get? b=some u)(hp:s.heap.objs.size<=a)(new:ObjOk X.prog X.w (upd H a o) h' a o) :
  Inv X pins σ (upd H a o) { s with heap:=h',toks:=t' }:=I.un (Un.laid k hp (I.hok.fresh hp)) (I.hok.laid k hp new)
theorem Inv.write{x e:Addr}{o:HO}{t':Nat}(I:Inv X pins σ H s)(mu:Mut (H x))(he:e=x\/H e=some (.own x))(k:∀b u,b≠e->s.heap.get? b=some u->h'.get? b=some u)(heo:∃u,h'.get? e=some u)
  (new:ObjOk X.prog X.w (upd H x o) h' x o):Inv X pins σ (upd H x o) { s with heap:=h',toks:=t' }:=I.un (Un.write mu he k heo) (I.hok.write mu he k heo new)
theorem Inv.pins_of{pins':PNz}(I:Inv X pins σ H s)(h:∀p∈pins',s.heap.get? p.1=some p.2/\H p.1=none/\p.1≠X.env.locals/\p.1∉X.fs/\∀v,p.2.data≠.cell v):Inv X pins' σ H s :=
 ⟨I.ok,I.os,I.bare,I.base,I.loc,I.cell,I.free,I.freeC,λ p hp=>(List.mem_append.mp hp).elim (λ z=>I.pin p (List.mem_append_left _ z)) (h p),I.hok,I.len⟩
theorem KO{N:LSz}(hN:N.Nodup){i j:Nat}{x:Str}(a:N[i]?=some x)(b:N[j]?=some x):i=j:=by
 obtain⟨h1,e1⟩:=List.getElem?_eq_some_iff.mp a;obtain⟨h2,e2⟩:=List.getElem?_eq_some_iff.mp b;exact(List.getElem_inj hN).mp (e1.trans e2.symm)
theorem ND{M:Model}{A:Around}{E:VPz}{i:Nat}{x:Str}{v:V}{u:Value}{Q:Unit->Shared->Prop}(I:Inv X pins σ H s)(hN:X.N.Nodup)(hi:X.N[i]?=some x)(hx:Loc X.env.scope x)(r:RelV v u)
  (h:∀s',Inv X pins (σ.set i (some v)) H s'->(∃a,Heap.SameBut a s.heap s'.heap/\(a=X.env.locals\/X.env.cells.lookup x=some a))->Q () s') (hf:X.fn x=true\/X.env.scope.names.lookup x=some .local:=by first|exact .inl rfl|exact .inr rfl|assumption):wpAny M A (storeName X.env x u) Q E s:=by
 obtain⟨m,hn,hl⟩:=id I.loc;have hcls:(X.env.scope.kind==.class||(X.env.scope.kind==.module&&X.env.locals != X.env.globals))=false:=by rw[I.ok.kind];rfl
 have hiσ:i<σ.length:=by rw[I.len];exact(List.getElem?_eq_some_iff.mp hi).1
 have cne:=I.cne;have tracked:∀{a:Addr}{h':Heap},(∃o,s.heap.get? a=some o/\H a=none)->Heap.SameBut a s.heap h'->HOk X.prog X.w H h':=λ{a h'} ha hs b ob e=>by
  obtain⟨_,_,hfree⟩:=ha;refine(I.hok b ob e).stay (λ c w' hc q=>(hs.2 c ?_).trans q) (λ_ q=>q) λ_ _ q=>q;rintro rfl;rcases hc with rfl|hc
  .rw[hfree]at e;cases e
  .rw[hfree]at hc;cases hc
 rcases hx with hk|hk
 .refine wpAny_storeName_local hk hn (λ h' hn' hs=>?_) hcls;obtain⟨oL,_,_,hoL,_⟩:=id hn;refine h _ ⟨I.ok,I.os,I.bare,⟨λ b o e n hb hx=>?_,λ b o e n hb hx=>?_,I.base.free,λ b o e hx=>?_,I.base.tups,I.base.frzs,I.base.tbls⟩,⟨_,hn',λ j y v' e1 e2 e3=>?_⟩,λ y c e=>?_,I.free,I.freeC,λ p hp=>?_,tracked ⟨oL,hoL,I.free⟩ hs,by simpa using I.len⟩ ⟨_,hs,.inl rfl⟩
  .exact(hs.2 b (Nat.ne_of_lt (Nat.lt_of_lt_of_le (Heap.lt_size e) I.ok.above))).trans (I.base.keep b o e n hb hx)
  .obtain⟨sl,e1⟩:=I.base.slot b o e n hb hx;exact⟨sl,(hs.2 b (Nat.ne_of_lt (Nat.lt_of_lt_of_le (Heap.lt_size e) I.ok.above))).trans e1⟩
  .obtain⟨o',e1⟩:=I.base.there b o e hx;exact⟨o',(hs.2 b (Nat.ne_of_lt (Nat.lt_of_lt_of_le (Heap.lt_size e) I.ok.above))).trans e1⟩
  .by_cases hj:j=i
   .subst hj;rw[hi]at e1;cases e1;rw[List.getElem?_set_self hiσ]at e2;cases e2;exact⟨u,r,.inl ⟨hk,by simp⟩⟩
   .rw[List.getElem?_set_ne (Ne.symm hj)]at e2;obtain⟨u',r',q⟩:=hl j y v' e1 e2 e3;refine⟨u',r',?_⟩;rcases q with ⟨k,e⟩|⟨k,c,e,z⟩
    .refine .inl ⟨k,?_⟩;have:y≠x:=λ e=>hj (KO hN e1 (e ▸ hi));simp[this,e]
    .exact .inr ⟨k,c,e,z.sameBut hs (cne y c e)⟩
  .obtain⟨w',z⟩:=I.cell y c e;exact⟨w',z.sameBut hs (cne y c e)⟩
  .obtain⟨e,n,ne,nf,d⟩:=I.pin p hp;exact⟨(hs.2 p.1 ne).trans e,n,ne,nf,d⟩
 .have hfn:X.fn x=true:=by
   rcases hf with z|z
   .exact z
   .rw[z]at hk;cases hk
  obtain⟨c,hc⟩:=I.ok.has x (.inl hk);obtain⟨w',z⟩:=I.cell x c hc;refine wpAny_storeName_cell I.ok.kind hk hc z (λ h' hc' hs=>?_);obtain⟨oc,hoc,hocd⟩:=id z;refine h { s with heap:=h' } ⟨I.ok,I.os,I.bare,⟨λ b o e n hb hx=>?_,λ b o e n hb hx=>?_,I.base.free,λ b o e hx=>?_,I.base.tups,I.base.frzs,I.base.tbls⟩,⟨m,hn.sameBut hs (Ne.symm (cne x c hc)),λ j y v' e1 e2 e3=>?_⟩,λ y c' e=>?_,I.free,I.freeC,λ p hp=>?_,tracked ⟨oc,hoc,I.freeC x c hc⟩ hs,by simpa using I.len⟩ ⟨c,hs,.inr hc⟩
  .exact(hs.2 b (Nat.ne_of_lt (Nat.lt_of_lt_of_le (Heap.lt_size e) (I.ok.cab x c hfn hc)))).trans (I.base.keep b o e n hb hx)
  .obtain⟨sl,e1⟩:=I.base.slot b o e n hb hx;exact⟨sl,(hs.2 b (Nat.ne_of_lt (Nat.lt_of_lt_of_le (Heap.lt_size e) (I.ok.cab x c hfn hc)))).trans e1⟩
  .obtain⟨o',e1⟩:=I.base.there b o e hx;exact⟨o',(hs.2 b (Nat.ne_of_lt (Nat.lt_of_lt_of_le (Heap.lt_size e) (I.ok.cab x c hfn hc)))).trans e1⟩
  .by_cases hj:j=i
   .subst hj;rw[hi]at e1;cases e1;rw[List.getElem?_set_self hiσ]at e2;cases e2;exact⟨u,r,.inr ⟨.inl hk,c,hc,hc'⟩⟩
   .rw[List.getElem?_set_ne (Ne.symm hj)]at e2;obtain⟨u',r',q⟩:=hl j y v' e1 e2 e3;refine⟨u',r',?_⟩;rcases q with q|⟨k,c',e,z'⟩
    .exact .inl q
    .refine .inr ⟨k,c',e,z'.sameBut hs ?_⟩;rintro rfl;exact hj (KO hN e1 (I.ok.inj _ _ _ e hc ▸ hi))
  .by_cases hcc:c'=c
   .subst hcc;exact⟨_,hc'⟩
   .obtain⟨w2,z2⟩:=I.cell y c' e;exact⟨w2,z2.sameBut hs hcc⟩
  .obtain⟨e,n,ne,nf,d⟩:=I.pin p hp;refine⟨(hs.2 p.1 ?_).trans e,n,ne,nf,d⟩;intro q;rw[q,hoc]at e;have q':oc=p.2:=Option.some.inj e;exact d w' (by rw[<-q'];exact hocd)
theorem Ku{M:Model}{A:Around}{E:VPz}{i:Nat}{x:Str}{v:V}{u:Value}{Q:Unit->Shared->Prop}(I:Inv X pins σ H s)(hN:X.N.Nodup)(hi:X.N[i]?=some x)(hx:Loc X.env.scope x)(r:RelV v u)
  (h:∀s',Inv X pins (σ.set i (some v)) H s'->Q () s') (hf:X.fn x=true\/X.env.scope.names.lookup x=some .local:=by first|exact .inl rfl|exact .inr rfl|assumption):wpAny M A (storeName X.env x u) Q E s :=
 ND I hN hi hx r (λ s' I' _=>h s' I') hf
theorem Inv.call'{s':Shared}{ch:List Addr}(I:Inv X pins σ H s)(ho:s'.os=s.os)(u:Un (frs X.stack) ch H H' s.heap s'.heap)(hok:HOk X.prog X.w H' s'.heap)(hg:AllBare s'.gens)
  (hch:∀b∈ch,(b∈X.ex\/X.s₀.heap.objs.size<=b)/\b≠X.env.locals/\(∀x c,X.env.cells.lookup x=some c->c≠b)/\∀p∈X.pn++pins,p.1≠b):Inv X pins σ H' s':=by
 obtain⟨h',g',d',t',o'⟩:=s';have e:o'=s.os:=ho;subst e;exact I.call (g':=g') (t':=t') (d':=d') u hok hg hch
end
abbrev XK:=Value->Option Addr->Hp->Prop
abbrev St:=List (Option V)
abbrev VK:=V->Hp->Prop
abbrev TE:=St->Hp->VK->Prop
abbrev TT:=St->Hp->(Bool->Hp->Prop)->Prop
abbrev TA:=St->Hp->(LUz->Hp->Prop)->Prop
structure Km where
 nx:St->Hp->Prop
 rt:VK
 bk:St->Hp->Prop:=λ_ _=>False
 ct:St->Hp->Prop:=λ_ _=>False
abbrev TS:=Km->St->Hp->Prop
def EP(X:Cx)(pins:PNz)(σ:St)(Q:VK)(u:Value)(s':Shared):Prop:=∃v H',Inv X pins σ H' s'/\RelV v u/\Q v H'
def TP(X:Cx)(pins:PNz)(σ:St)(Q:Bool->Hp->Prop)(b:Bool)(s':Shared):Prop:=∃H',Inv X pins σ H' s'/\Q b H'
def AP(X:Cx)(pins:PNz)(σ:St)(Q:LUz->Hp->Prop)(us:LWz)(s':Shared):Prop:=∃vs H',Inv X pins σ H' s'/\Vals vs us/\Q vs H'
def SP(X:Cx)(pins:PNz)(D:Km)(f:Flow)(s':Shared):Prop :=
 match f with
 |.next=>∃σ' H',Inv X pins σ' H' s'/\D.nx σ' H'
 |.brk=>∃σ' H',Inv X pins σ' H' s'/\D.bk σ' H'
 |.cont=>∃σ' H',Inv X pins σ' H' s'/\D.ct σ' H'
 |.ret u=>∃v σ' H',Inv X pins σ' H' s'/\RelV v u/\D.rt v H'
def PE(X:Cx)(e:Expr)(t:TE):Prop :=
 ∀(pins:PNz)(s:Shared)(σ:St)(H:Hp)(Q:VK),Inv X pins σ H s->t σ H Q->wpAny (model X.prog X.w) X.A (eval e X.env) (EP X pins σ Q) X.xe s
def PT(X:Cx)(e:Expr)(t:TT):Prop :=
 ∀(pins:PNz)(s:Shared)(σ:St)(H:Hp)(Q:Bool->Hp->Prop),Inv X pins σ H s->t σ H Q->wpAny (model X.prog X.w) X.A (isTrue e X.env (eval e X.env)) (TP X pins σ Q) X.xe s
def PW(X:Cx)(e:Expr)(t:TT):Prop :=
 ∀(whole:Sem Value)(pins:PNz)(s:Shared)(σ:St)(H:Hp)(Q:Bool->Hp->Prop),Inv X pins σ H s->t σ H Q->wpAny (model X.prog X.w) X.A (isTrue e X.env whole) (TP X pins σ Q) X.xe s
theorem PW.pt{X:Cx}{e:Expr}{t:TT}(h:PW X e t):PT X e t:=h _
def PA(X:Cx)(es:List Expr)(t:TA):Prop :=
 ∀(pos:Pos)(pins:PNz)(s:Shared)(σ:St)(H:Hp)(Q:LUz->Hp->Prop),Inv X pins σ H s->t σ H Q->wpAny (model X.prog X.w) X.A (spliced (backTo pos (starEach es X.env))) (AP X pins σ Q) X.xe s
def PS(X:Cx)(st:Stmt)(t:TS):Prop :=
 ∀(pins:PNz)(s:Shared)(σ:St)(H:Hp)(D:Km),Inv X pins σ H s->t D σ H->wpAny (model X.prog X.w) X.A (exec st X.env) (SP X pins D) X.xe s
def PSs(X:Cx)(st:List Stmt)(t:TS):Prop :=
 ∀(pins:PNz)(s:Shared)(σ:St)(H:Hp)(D:Km),Inv X pins σ H s->t D σ H->wpAny (model X.prog X.w) X.A (execs st X.env) (SP X pins D) X.xe s
theorem thn{α:Type}{t:Sem α}{Q Q':α->Shared->Prop}{M:Model}{A:Around}{E:VPz}{s:Shared}(h:wpAny M A t Q E s)(hQ:∀a s,Q a s->Q' a s):wpAny M A t Q' E s:=wpAny_mono h hQ λ_ _ x=>x
section
variable{X:Cx}
inductive Tf(i:Nat)(σ:St)(H:Hp)(Q:VK):Prop
 |mk (v:V) (e:σ[i]?=some (some v)) (q:Q v H):Tf i σ H Q
def R9(i:Nat):TE:=λ σ H Q=>Tf i σ H Q
inductive IBl(x:V)(Q:Bool->Prop):Prop
 |mk (c:Bool) (e:x=.bl c) (q:Q c):IBl x Q
def tC(v:V):TE:=λ_ H Q=>Q v H
theorem RL{i:Nat}{x:Str}{pos:Pos}(hN:X.N[i]?=some x)(hv:Vis X.env.scope x)(hd:(x==("__debug__":Str))=false:=by decide)(hcd:(x==("__classdict__":Str))=false:=by decide):PE X (.Name x pos) (R9 i):=by
 intro pins s σ H Q I h;obtain⟨v,e,h⟩:=h;obtain⟨m,hn,hl⟩:=I.loc;obtain⟨u,r,l⟩:=hl i x v hN e hv;have fin:EP X pins σ Q u s:=⟨v,H,I,r,h⟩;rcases l with ⟨hk,hm⟩|⟨hk,c,hc,hcell⟩
 .exact wpAny_Name (wpAny_loadName_local I.ok.kind hk hn hm fin) hd
 .rcases hk with hk|hk
  .exact wpAny_Name (wpAny_loadName_cell I.ok.kind hk hc hcell fin) hd
  .exact wpAny_Name (wpAny_loadName_free I.ok.kind hk hc hcell fin hcd) hd
theorem Ae{i j pos}:PE X (.Constant (.int i) j pos) (tC (.int i)):=λ_ _ _ H _ I h=>wpAny_Constant_int ⟨.int i,H,I.tok _,⟨_,rfl⟩,h⟩
theorem Fy{b j pos}:PE X (.Constant (.bool b) j pos) (tC (.bl b)):=λ_ _ _ H _ I h=>Constant_bool ⟨.bl b,H,I,rfl,h⟩
theorem Br{j pos}:PE X (.Constant .none j pos) (tC .non):=λ_ _ _ H _ I h=>Constant_none ⟨.non,H,I,rfl,h⟩
theorem A6{x j pos}:PE X (.Constant (.str x) j pos) (tC (.str x)):=λ_ _ _ H _ I h=>Calls.Constant_str ⟨.str x,H,I.tok _,⟨_,rfl⟩,h⟩
def Gl(X:Cx)(x:Str):Prop:=X.env.kindOf x=some .globalImplicit
theorem CT{E:VPz}{pins:PNz}{s:Shared}{σ:St}{H:Hp}{x:Str}{u:Value}{pos:Pos}{Q:VPz}(I:Inv X pins σ H s)(hg:Gl X x)(hm:X.mg x=some u)(h:Q u s)
  (hd:(x==("__debug__":Str))=false:=by decide):wpAny (model X.prog X.w) X.A (eval (.Name x pos) X.env) Q E s :=
 Calls.Name_function_global I.ok.kind hg (Calls.loadGlobal_global (by rw[I.ok.glob];exact I.mod.glob.keeps I.bk) hm h) hd
theorem Dz{E:VPz}{pins:PNz}{s:Shared}{σ:St}{H:Hp}{x:Str}{u:Value}{pos:Pos}{Q:VPz}(I:Inv X pins σ H s)(hg:Gl X x)(hm:X.mg x=none)(hv:bootBuiltins x=some u)(h:Q u s)
  (hn:x≠"__name__":=by decide) (hd:(x==("__debug__":Str))=false:=by decide):wpAny (model X.prog X.w) X.A (eval (.Name x pos) X.env) Q E s:=by
 obtain⟨mb,h1,h2⟩:=I.mod.blt;exact Calls.Name_function_global I.ok.kind hg (Calls.loadGlobal_builtin (by rw[I.ok.glob];exact I.mod.glob.keeps I.bk) hm (by rw[I.ok.blt];exact h1.keeps I.bk) ((h2 x hn).trans hv) h) hd
theorem Az{x:Str}{v:V}{u:Value}{pos:Pos}(hg:Gl X x)(hm:X.mg x=some u)(r:RelV v u)(hd:(x==("__debug__":Str))=false:=by decide):PE X (.Name x pos) (tC v) :=
 λ_ _ _ H _ I h=>CT I hg hm ⟨v,H,I,r,h⟩ hd
theorem DG{x:Str}{v:V}{u:Value}{pos:Pos}(hg:Gl X x)(hm:X.mg x=none)(hv:bootBuiltins x=some u)(r:RelV v u)(hn:x≠"__name__":=by decide)(hd:(x==("__debug__":Str))=false:=by decide):PE X (.Name x pos) (tC v) :=
 λ_ _ _ H _ I h=>Dz I hg hm hv ⟨v,H,I,r,h⟩ hn hd
variable{a b:Expr}{ta tb:TE}{pos:Pos}
def tB(t:TE):TT:=λ σ H Q=>t σ H λ x H1=>IBl x λ c=>Q c H1
theorem Bb{e:Expr}{t:TE}(h:PE X e t)(he:∀whole,isTrue e X.env whole=(do let v <-whole;standAt e.pos;holding [v] (truthy v)):=by intro _;rfl):PT X e (tB t):=by
  intro pins s σ H Q I hw;refine isTrue_plain (thn (h pins s σ H _ I hw) λ v s1 hz_=>?_) (he _);obtain⟨x,H1,I1,r1,q1⟩:=hz_;obtain⟨d,rfl,q⟩:=q1;cases r1;exact wpAny_truthy_bool ⟨H1,I1,q⟩
variable{tA tB':TT}{rest:List Expr}
def T0(t u:TT):TT:=λ σ H Q=>t σ H λ c H1=>if c=true then u σ H1 Q else Q false H1
def tOr(t u:TT):TT:=λ σ H Q=>t σ H λ c H1=>if c=true then Q true H1 else u σ H1 Q
def Tu(t:TT):TT:=λ σ H Q=>t σ H λ c H1=>Q (!c) H1
theorem E1(ha:PT X a tA):PW X (.BoolOp .And [a] pos) tA:=by
 intro wh pins s σ H Q I h;refine isTrue_and (thn (ha pins s σ H Q I h) λ c s1 e=>?_);cases c with
 |true=>exact isTrue_and_nil e
 |false=>exact e
theorem EW(ha:PT X a tA):PW X (.BoolOp .Or [a] pos) tA:=by
 intro wh pins s σ H Q I h;refine isTrue_or (thn (ha pins s σ H Q I h) λ c s1 e=>?_);cases c with
 |false=>exact isTrue_or_nil e
 |true=>exact e
theorem G0(ha:PT X a tA)(hb:PW X (.BoolOp .And (b::rest) pos) tB'):PW X (.BoolOp .And (a::b::rest) pos) (T0 tA tB'):=by
 intro wh pins s σ H Q I h;refine isTrue_and (thn (ha pins s σ H _ I h) λ c s1 hz_=>?_);obtain⟨H1,I1,q1⟩:=hz_;cases c with
 |true=>exact hb wh pins s1 σ H1 Q I1 q1
 |false=>exact⟨H1,I1,q1⟩
theorem Fw(ha:PT X a tA)(hb:PW X (.BoolOp .Or (b::rest) pos) tB'):PW X (.BoolOp .Or (a::b::rest) pos) (tOr tA tB'):=by
 intro wh pins s σ H Q I h;refine isTrue_or (thn (ha pins s σ H _ I h) λ c s1 hz_=>?_);obtain⟨H1,I1,q1⟩:=hz_;cases c with
 |true=>exact⟨H1,I1,q1⟩
 |false=>exact hb wh pins s1 σ H1 Q I1 q1
theorem BC(ha:PT X a tA):PT X (.UnaryOp .Not a pos) (Tu tA):=by
 intro pins s σ H Q I h;exact isTrue_not (ha pins s σ H (λ c H1=>Q (!c) H1) I h)
def Sx(ta tb:TE):TE:=λ σ H Q=>ta σ H λ x H1=>IBl x λ c=>if c=true then tb σ H1 Q else Q (.bl false) H1
def Sn(ta:TE):TE:=λ σ H Q=>ta σ H λ x H1=>IBl x λ c=>Q (.bl (!c)) H1
theorem Ee{op}{t:TE}(h:PE X a t):PE X (.BoolOp op [a] pos) t:=λ pins s σ H Q I hw=>BoolOp_one (h pins s σ H Q I hw)
theorem Du(ha:PE X a ta)(hb:PE X (.BoolOp .And (b::rest) pos) tb):PE X (.BoolOp .And (a::b::rest) pos) (Sx ta tb):=by
 intro pins s σ H Q I h;refine BoolOp_and (thn (ha pins s σ H _ I h) λ v s1 hz_=>?_);obtain⟨x,H1,I1,r1,q1⟩:=hz_;obtain⟨c,rfl,q1⟩:=q1;cases r1;refine wpAny_truthy_bool ?_;cases c with
 |true=>exact hb pins s1 σ H1 Q I1 q1
 |false=>exact⟨.bl false,H1,I1,rfl,q1⟩
theorem LQ(ha:PE X a ta):PE X (.UnaryOp .Not a pos) (Sn ta):=by
 intro pins s σ H Q I h;refine UnaryOp_ (thn (ha pins s σ H _ I h) λ v s1 hz_=>?_);obtain⟨x,H1,I1,r1,q1⟩:=hz_;obtain⟨c,rfl,q1⟩:=q1;cases r1;exact not_of (wpAny_truthy_bool ⟨.bl (!c),H1,I1,rfl,q1⟩)
def tIf(t:TT)(ta tb:TE):TE:=λ σ H Q=>t σ H λ c H1=>if c=true then ta σ H1 Q else tb σ H1 Q
theorem Dt{c:Expr}(hc:PT X c tA)(ha:PE X a ta)(hb:PE X b tb):PE X (.IfExp c a b pos) (tIf tA ta tb):=by
 intro pins s σ H Q I h;refine wpAny_IfExp (thn (hc pins s σ H _ I h) λ d s1 hz_=>?_);obtain⟨H1,I1,q1⟩:=hz_;cases d with
 |true=>exact ha pins s1 σ H1 Q I1 q1
 |false=>exact hb pins s1 σ H1 Q I1 q1
end
def SqL(K:Frag)(H:Hp)(a:Addr)(xs:LUz):Prop :=
 Rd H a (.lst xs) \/
  ∃(o:Obj)(its:Array Value)(n:Nat),K.lookup a=some o/\o.cls=.type "list"/\o.dict=none/\o.data=.seq its n/\its.size<=sizeLine/\Vals xs its.toList
def SqT(K:Frag)(H:Hp)(a:Addr)(xs:LUz):Prop :=
 Rd H a (.tup xs) \/
  ∃(o:Obj)(its:Array Value)(n:Nat),K.lookup a=some o/\o.cls=.type "tuple"/\o.data=.seq its n/\its.size<=sizeLine/\Vals xs its.toList
def TV:Value->Option V
 |.none=>some .non
 |.bool b=>some (.bl b)
 |.int i _=>some (.int i)
 |.str x _=>some (.str x)
 |.bytes b _=>some (.byt b)
 |.float b _=>some (.flt b)
 |.ref a=>some (.ref a)
 |.type n=>some (.ty n)
 |_=>none
theorem RelV.abs{x:V}{u:Value}(r:RelV x u):TV u=some x:=by
 cases x with
 |non=>cases r;rfl
 |bl _=>cases r;rfl
 |int _=>obtain⟨t,rfl⟩:=r;rfl
 |str _=>obtain⟨t,rfl⟩:=r;rfl
 |byt _=>obtain⟨t,rfl⟩:=r;rfl
 |flt _=>obtain⟨t,rfl⟩:=r;rfl
 |ref _=>cases r;rfl
 |ty _=>cases r;rfl
theorem RelV.inj{x y:V}{u:Value}(r:RelV x u)(q:RelV y u):x=y:=Option.some.inj (r.abs.symm.trans q.abs)
theorem Vals.inj:∀{xs ys:LUz}{us:LWz},Vals xs us->Vals ys us->xs=ys
 |_,_,_,.nil,.nil=>rfl
 |_,_,_,.cons r t,.cons r' t'=>by rw[r.inj r',Vals.inj t t']
section
variable{X:Cx}{pins:PNz}{σ:St}{H:Hp}{s:Shared}{a:Addr}{xs ys:LUz}
theorem SqL.of{K:Frag}(h:H a=some (.lst xs)):SqL K H a xs:=.inl (.inl h)
theorem SqT.of{K:Frag}(h:H a=some (.tup xs)):SqT K H a xs:=.inl (.inl h)
theorem Inv.list(I:Inv X pins σ H s)(h:SqL X.K H a xs):∃its:LWz,Vals xs its/\PlainL s.heap a its.toArray/\xs.length<=sizeLine:=by
 rcases h with h|⟨o,its,n,hk,hc,hd,hs,hz,r⟩
 .obtain⟨z,its,n,r,e⟩:=h.ok I.hok;exact⟨its,r,⟨_,n,e,rfl,rfl,rfl⟩,z⟩
 .refine⟨its.toList,r,⟨o,n,I.kIn a o hk,hc,hd,by simpa using hs⟩,?_⟩;have e:=r.length;simp only[Array.length_toList]at e;lia
theorem Inv.tuple(I:Inv X pins σ H s)(h:SqT X.K H a xs):∃its:LWz,Vals xs its/\IsTup s.heap a its.toArray/\xs.length<=sizeLine:=by
 rcases h with h|⟨o,its,n,hk,hc,hs,hz,r⟩
 .obtain⟨z,its,r,p⟩:=h.ok I.hok;exact⟨its,r,p,z⟩
 .refine⟨its.toList,r,⟨o,I.kIn a o hk,hc,n,by simpa using hs⟩,?_⟩;have e:=r.length;simp only[Array.length_toList]at e;lia
theorem Inv.list_inj(I:Inv X pins σ H s)(h:SqL X.K H a xs)(h':SqL X.K H a ys):xs=ys:=by
 obtain⟨its,r,⟨o,n,e,_,_,d⟩,_⟩:=I.list h;obtain⟨its',r',⟨o',n',e',_,_,d'⟩,_⟩:=I.list h';rw[e]at e';cases e';rw[d]at d';injection d' with d1 _;have:its=its':=by simpa using congrArg Array.toList d1
 subst this;exact r.inj r'
theorem Inv.tuple_inj(I:Inv X pins σ H s)(h:SqT X.K H a xs)(h':SqT X.K H a ys):xs=ys:=by
 obtain⟨its,r,⟨o,e,_,n,d⟩,_⟩:=I.tuple h;obtain⟨its',r',⟨o',e',_,n',d'⟩,_⟩:=I.tuple h';rw[e]at e';cases e';rw[d]at d';injection d' with d1 _;have:its=its':=by simpa using congrArg Array.toList d1
 subst this;exact r.inj r'
end
abbrev Cx.wish(X:Cx)(E:VPz):Cx:={ X with xe:=E }
abbrev Cx.nox(X:Cx):Cx:=X.wish λ_ _=>False
theorem Cx.Ok.wish{X:Cx}(ok:X.Ok)(E:VPz):(X.wish E).Ok :=
 ⟨ok.mod,ok.kind,ok.glob,ok.blt,ok.above,ok.inj,ok.has,ok.cab,ok.hd,ok.frames,ok.stk,ok.exf,ok.bs,ok.bsz,ok.noex,ok.exfs,ok.funs,ok.frf⟩
theorem Cx.Ok.unwish{X:Cx}{E:VPz}(ok:(X.wish E).Ok):X.Ok :=
 ⟨ok.mod,ok.kind,ok.glob,ok.blt,ok.above,ok.inj,ok.has,ok.cab,ok.hd,ok.frames,ok.stk,ok.exf,ok.bs,ok.bsz,ok.noex,ok.exfs,ok.funs,ok.frf⟩
section
variable{X:Cx}{pins:PNz}{σ:St}{H:Hp}{s:Shared}{E:VPz}
theorem Inv.wish(I:Inv X pins σ H s)(E:VPz):Inv (X.wish E) pins σ H s:=⟨I.ok.wish E,I.os,I.bare,I.base,I.loc,I.cell,I.free,I.freeC,I.pin,I.hok,I.len⟩
theorem Inv.unwish(I:Inv (X.wish E) pins σ H s):Inv X pins σ H s:=⟨I.ok.unwish,I.os,I.bare,I.base,I.loc,I.cell,I.free,I.freeC,I.pin,I.hok,I.len⟩
theorem SP.unwish{D:Km}{f:Flow}{s':Shared}(h:SP (X.wish E) pins D f s'):SP X pins D f s':=by
 cases f with
 |next=>obtain⟨σ',H',I,q⟩:=h;exact⟨σ',H',I.unwish,q⟩
 |brk=>obtain⟨σ',H',I,q⟩:=h;exact⟨σ',H',I.unwish,q⟩
 |cont=>obtain⟨σ',H',I,q⟩:=h;exact⟨σ',H',I.unwish,q⟩
 |ret u=>obtain⟨v,σ',H',I,r,q⟩:=h;exact⟨v,σ',H',I.unwish,r,q⟩
theorem PSs.nox{st:List Stmt}{t:TS}(h:PSs X.nox st t):PSs X st t:=λ pins s σ H D I hw =>
 wpAny_mono (h pins s σ H D (I.wish _) hw) (λ_ _ q=>q.unwish) λ_ _ z=>False.elim z
end
section
variable{X:Cx}{st:Stmt}{rest:List Stmt}{t u:TS}{e:Expr}{te:TE}{pos:Pos}
def Sq:TS:=λ D σ H=>D.nx σ H
def Tp(t u:TS):TS:=λ D σ H=>t { D with nx:=u D } σ H
theorem Al:PSs X [] Sq:=λ_ _ σ H _ I h=>wpAny_execs_nil ⟨σ,H,I,h⟩
theorem Ac(h1:PS X st t)(h2:PSs X rest u):PSs X (st::rest) (Tp t u):=by
 intro pins s σ H D I h;refine wpAny_execs_cons (thn (h1 pins s σ H { D with nx:=u D } I h) λ f s1 q=>?_);cases f with
 |next =>
  obtain⟨σ',H',I',q⟩:=q;exact h2 pins s1 σ' H' D I' q
 |ret v=>exact q
 |brk=>exact q
 |cont=>exact q
theorem Ad(h1:PS X st t):PSs X [st] t:=by
 intro pins s σ H D I h;refine wpAny_execs_cons (thn (h1 pins s σ H D I h) λ f s1 q=>?_);cases f with
 |next=>exact wpAny_execs_nil q
 |ret v=>exact q
 |brk=>exact q
 |cont=>exact q
theorem Inv.quiet{pins:PNz}{σ:St}{H:Hp}{s:Shared}(I:Inv X pins σ H s):interactive X.env=false:=by simp[interactive,I.ok.kind]
def Ss(te:TE):TS:=λ D σ H=>te σ H λ_ H1=>D.nx σ H1
theorem AU(he:PE X e te)(hs:swapsWith e none pos.line X.env=pure false:=by rfl):PS X (.Expr e pos) (Ss te):=by
 intro pins s σ H D I h;exact wpAny_Expr_any (thn (he pins s σ H _ I h) λ v s1 ⟨x,H1,I1,r1,q1⟩=>⟨σ,H1,I1,q1⟩) I.quiet hs
def Tt(te:TE):TS:=λ D σ H=>te σ H D.rt
theorem Aj(he:PE X e te):PS X (.Return (some e) pos) (Tt te):=by
 intro pins s σ H D I h;exact wpAny_Return_some (thn (he pins s σ H _ I h) λ v s1 ⟨x,H1,I1,r1,q1⟩=>⟨x,σ,H1,I1,r1,q1⟩)
def Tw(c:TT)(t u:TS):TS:=λ D σ H=>c σ H λ b H1=>if b=true then t D σ H1 else u D σ H1
theorem A0{c:Expr}{a b:List Stmt}{tc:TT}(hc:PT X c tc)(ha:PSs X a t)(hb:PSs X b u):PS X (.If c a b pos) (Tw tc t u):=by
 intro pins s σ H D I h;refine wpAny_If (thn (hc pins s σ H _ I h) λ d s1 hz_=>?_);obtain⟨H1,I1,q1⟩:=hz_;cases d with
 |true=>exact ha pins s1 σ H1 D I1 q1
 |false=>exact hb pins s1 σ H1 D I1 q1
def RB:TS:=λ_ _ _=>False
theorem C7:PS X st RB:=λ_ _ _ _ _ _ h=>h.elim
end
abbrev TG:=V->St->Hp->(St->Hp->Prop)->Prop
abbrev TGs:=LUz->St->Hp->(St->Hp->Prop)->Prop
def PG(X:Cx)(target:Expr)(t:TG):Prop :=
 ∀(pins:PNz)(s:Shared)(σ:St)(H:Hp)(v:V)(u:Value)(Q:St->Hp->Prop),Inv X pins σ H s->RelV v u->t v σ H Q ->
  wpAny (model X.prog X.w) X.A (assign target X.env u) (λ_ s'=>∃σ' H',Inv X pins σ' H' s'/\Q σ' H') X.xe s
def PGs(X:Cx)(ts:List Expr)(t:TGs):Prop :=
 ∀(pins:PNz)(s:Shared)(σ:St)(H:Hp)(vs:LUz)(us:LWz)(Q:St->Hp->Prop),Inv X pins σ H s->Vals vs us->t vs σ H Q ->
  wpAny (model X.prog X.w) X.A (assignInOrder ((assignEach ts X.env).map (·.2)) us) (λ_ s'=>∃σ' H',Inv X pins σ' H' s'/\Q σ' H') X.xe s
section
variable{X:Cx}{pos:Pos}
def Rw(i:Nat):TG:=λ v σ H Q=>Q (σ.set i (some v)) H
theorem Aw{i:Nat}{x:Str}(hN:X.N.Nodup)(hi:X.N[i]?=some x)(hx:Loc X.env.scope x)(hf:X.fn x=true\/X.env.scope.names.lookup x=some .local:=by first|exact .inl rfl|exact .inr rfl|assumption):PG X (.Name x pos) (Rw i):=by
 intro pins s σ H v u Q I r h;exact wpAny_assign_Name (Ku I hN hi hx r (λ s' I'=>⟨_,H,I',h⟩) hf)
def TQ:TGs:=λ vs σ H Q=>vs=[]/\Q σ H
def SR(t:TG)(u:TGs):TGs:=λ vs σ H Q=>∃v r,vs=v::r/\t v σ H λ σ' H'=>u r σ' H' Q
theorem B1:PGs X [] TQ:=by
 intro pins s σ H vs us Q I r h;obtain⟨e,h⟩:=h;subst e;cases r;exact assignInOrder_nil ⟨σ,H,I,h⟩
theorem A1{e:Expr}{es:List Expr}{t:TG}{u:TGs}(h1:PG X e t)(h2:PGs X es u)
  (hs:(assignEach (e::es) X.env).map (·.2)=assign e X.env::(assignEach es X.env).map (·.2):=by rfl):PGs X (e::es) (SR t u):=by
 intro pins s σ H vs us Q I r h;obtain⟨v,vr,e1,h⟩:=h;subst e1;cases r with
 |cons r rr =>
  rw[hs];refine assignInOrder_cons (thn (h1 pins s σ H _ _ _ I r h) λ_ s1 hz_=>?_);obtain⟨σ1,H1,I1,q1⟩:=hz_;exact h2 pins s1 σ1 H1 _ _ Q I1 rr q1
inductive Ry(K:Frag)(n:Nat)(t:TGs)(v:V)(σ:St)(H:Hp)(Q:St->Hp->Prop):Prop
 |mk (a:Addr) (xs:LUz) (e:v=.ref a) (s:SqT K H a xs) (l:xs.length=n) (q:t xs σ H Q):Ry K n t v σ H Q
def SQ(K:Frag)(n:Nat)(t:TGs):TG:=λ v σ H Q=>Ry K n t v σ H Q
theorem CO{es:List Expr}{k:Nat}{t:TGs}{n:Nat}(hc:X.calm=true)(h:PGs X es t)
  (hn:(assignEach es X.env).length=n:=by rfl) (hst:(assignEach es X.env).findIdx? (·.1)=none:=by rfl):PG X (.Tuple es k pos) (SQ X.K n t):=by
 intro pins s σ H v u Q I r hw;obtain⟨a,xs,e1,hq,hl,hw⟩:=hw;subst e1;cases r;obtain⟨its,rv,ht,hz⟩:=I.tuple hq;refine assign_Tuple_tuple (I.ok.hd hc) ht (by simp[hn,<-hl,rv.length]) hst λ h' hx=>?_;have I1:Inv X pins σ H { s with heap:=h' }:=I.kept (t':=s.toks) λ b o e=>hx b o (Nat.ne_of_lt (Heap.lt_size e)) e;exact h pins _ σ H xs _ Q I1 (by simpa using rv) hw
def Qi(te:TE)(g:TG):TS:=λ D σ H=>te σ H λ x H1=>g x σ H1 D.nx
theorem G3{tg e:Expr}{te:TE}{g:TG}(he:PE X e te)(hg:PG X tg g)(hs:swapsWithSole [tg] e pos.line X.env=pure false:=by rfl)(hw:swappedStores [tg] e X.env=pure none:=by rfl)
  (h1:(assignEach [tg] X.env).map (·.2)=[assign tg X.env]:=by rfl):PS X (.Assign [tg] e pos) (Qi te g):=by
 intro pins s σ H D I h;refine wpAny_Assign_stores (thn (he pins s σ H _ I h) λ v s1 hz_=>?_) hs hw;obtain⟨x,H1,I1,r1,q1⟩:=hz_;rw[h1];exact thn (hg pins s1 σ H1 x v _ I1 r1 q1) λ_ s2 q=>q
theorem Ao{i:Nat}{x:Str}{e:Expr}{te:TE}{pos':Pos}(hN:X.N.Nodup)(hi:X.N[i]?=some x)(hx:Loc X.env.scope x)(he:PE X e te)(hs:swapsWith e (some (.Name x pos')) pos.line X.env=pure false:=by rfl)(hf:X.fn x=true\/X.env.scope.names.lookup x=some .local:=by first|exact .inl rfl|exact .inr rfl|assumption) :
  PS X (.Assign [.Name x pos'] e pos) (Qi te (Rw i)):=by
 intro pins s σ H D I h;refine wpAny_Assign_Name (thn (he pins s σ H _ I h) λ v s1 hz_=>?_) hs;obtain⟨y,H1,I1,r1,q1⟩:=hz_;exact Ku I1 hN hi hx r1 (λ s2 I2=>⟨_,H1,I2,q1⟩) hf
def R8(c:TT)(tb:TS):TS:=λ D σ H=>∃W:Nat->St->Hp->Prop,(∃m,W m σ H)/\∀m σ H,W m σ H ->
 c σ H λ b H1=>if b=true then ∃N:St->Hp->Prop,(∀σ' H',N σ' H'->∃m',m'<m/\W m' σ' H')/\tb { D with nx:=N,ct:=N,bk:=D.nx } σ H1 else D.nx σ H1
theorem K2{c:Expr}{body:List Stmt}{tc:TT}{tb:TS}(hp:PassesOwn (model X.prog X.w) X.A X.env X.xe)(hc:PT X c tc)(hb:PSs X body tb):PS X (.While c body [] pos) (R8 tc tb):=by
 intro pins s σ H D I h;obtain⟨W,⟨m0,w0⟩,turn⟩:=h;refine wpAny_While (codeAny_whileLoop (λ n s'=>∃σ' H',Inv X pins σ' H' s'/\W n σ' H') ?_ m0 ⟨σ,H,I,w0⟩);rintro n s1 ⟨σ1,H1,I1,w1⟩;refine wpAny_passesOwn hp (thn (hc pins s1 σ1 H1 _ I1 (turn n σ1 H1 w1)) λ b s2 hz_=>?_);obtain⟨H2,I2,q2⟩:=hz_;cases b with
 |true =>
  obtain⟨N,hN,q2⟩:=q2;rw[if_pos rfl];refine wpAny_passesOwn hp (thn (hb pins s2 σ1 H2 _ I2 q2) λ f s3 q3=>?_);cases f with
  |next =>
   obtain⟨σ3,H3,I3,n3⟩:=q3;obtain⟨m',hm,w3⟩:=hN σ3 H3 n3;exact⟨m',hm,σ3,H3,I3,w3⟩
  |cont =>
   obtain⟨σ3,H3,I3,n3⟩:=q3;obtain⟨m',hm,w3⟩:=hN σ3 H3 n3;exact⟨m',hm,σ3,H3,I3,w3⟩
  |brk=>exact q3
  |ret v=>exact q3
 |false =>
  rw[if_neg Bool.false_ne_true];exact wpAny_execs_nil ⟨σ1,H2,I2,q2⟩
end
structure It where
 go:Nat->Hp->Prop
 yld:Nat->Hp->V->Hp->Prop
 stop:Nat->Hp->Prop
def Fs(X:Cx)(pins:PNz)(H:Hp)(b:Addr):Prop :=
 H b=none/\b≠X.env.locals/\b∉X.fs/\(b∈X.ex\/X.s₀.heap.objs.size<=b)/\(∀x c,X.env.cells.lookup x=some c->c≠b)/\∀p∈X.pn++pins,p.1≠b
theorem Inv.fpOk{X:Cx}{pins:PNz}{σ:St}{H H':Hp}{s:Shared}{b:Addr}(I:Inv X pins σ H s)(hb:s.heap.objs.size<=b)(hn:H' b=none):Fs X pins H' b:=by
 refine⟨hn,Nat.ne_of_gt (Nat.lt_of_lt_of_le I.lt hb),I.nofs hb,.inr (Nat.le_trans I.sz hb),λ x c e z=>?_,λ p hp z=>?_⟩
 .obtain⟨v,q⟩:=I.cell x c e;exact absurd (Nat.lt_of_lt_of_le q.lt (by rw[z];exact hb)) (Nat.lt_irrefl _)
 .exact absurd (Nat.lt_of_lt_of_le (Heap.lt_size (I.pin p hp).1) (by rw[z];exact hb)) (Nat.lt_irrefl _)
structure PC(P:Program)(w:World)(K:Frag)(tg:Expr)(J:It)(fp:List Addr)(it:Addr)(tn:Nat->Heap->Prop):Prop where
 mem:it∈fp
 obj:∀i h,tn i h->∀b∈fp,∃o,h.get? b=some o/\∀v,o.data≠.cell v
 keep:∀i h h',tn i h->(∀b∈fp,∀o,h.get? b=some o->h'.get? b=some o)->tn i h'
 item:∀(X:Cx),X.prog=P->X.w=w->X.K=K->X.calm=true->∀(i:Nat)(pins:PNz)(s:Shared)(σ:St)(H:Hp)(E:VPz),Inv X pins σ H s->(∀b∈fp,Fs X pins H b)->tn i s.heap->J.go i H ->
  wpAny (model P w) X.A (pyNext (.ref it)) (λ r s1=>∃u,r=some u /\
   wpAny (model P w) X.A (letOwnedTupleGo tg (.ref it) u) (λ_ s2=>∃x H',Inv X pins σ H' s2/\RelV x u/\J.yld i H x H'/\tn (i+1) s2.heap/\∀b∈fp,H' b=none) E s1) E s
 done:∀(X:Cx),X.prog=P->X.w=w->X.K=K->X.calm=true->∀(i:Nat)(pins:PNz)(s:Shared)(σ:St)(H:Hp)(E:VPz),Inv X pins σ H s->(∀b∈fp,Fs X pins H b)->tn i s.heap->J.stop i H ->
  wpAny (model P w) X.A (pyNext (.ref it)) (λ r s1=>r=none/\Inv X pins σ H s1) E s
 self:∀(A:Around)(i:Nat)(s:Shared)(Q:VPz)(E:VPz),tn i s.heap->Q (.ref it) s->wpAny (model P w) A (pyIter (.ref it)) Q E s
abbrev TI:=St->Hp->(It->Hp->Prop)->Prop
def PIE(X:Cx)(pins:PNz)(σ:St)(tg:Expr)(R:It->Hp->Prop)(itv:Value)(s2:Shared):Prop :=
 ∃(it:Addr)(fp:List Addr)(tn:Nat->Heap->Prop)(J:It)(H':Hp),itv=.ref it/\Inv X pins σ H' s2/\PC X.prog X.w X.K tg J fp it tn/\tn 0 s2.heap/\(∀b∈fp,Fs X pins H' b)/\R J H'
def PI(X:Cx)(tg iter:Expr)(wi:TI):Prop :=
 ∀(pins:PNz)(s:Shared)(σ:St)(H:Hp)(R:It->Hp->Prop),Inv X pins σ H s->wi σ H R ->
  wpAny (model X.prog X.w) X.A (eval iter X.env) (λ v s1=>wpAny (model X.prog X.w) X.A (pyIter v) (PIE X pins σ tg R) X.xe s1) X.xe s
theorem Nf{M:Model}{A:Around}{E:VPz}{s:Shared}{tg:Expr}{it:Addr}{u:Value}{o:Obj}{n:String}{vs:Array Value}{Q:Unit->Shared->Prop}(ho:s.heap.get? it=some o)(hc:o.cls=.type n)(hd:o.data=.fields vs)
    (hn:["enumerate","zip","dict_itemiterator","dict_reverseitemiterator","odict_iterator","itertools.zip_longest","itertools.pairwise"].contains n=false) (hQ:Q () s):wpAny M A (letOwnedTupleGo tg (.ref it) u) Q E s:=by
  unfold letOwnedTupleGo;cases tg<;>first
    |exact wpAny_pure hQ
    | (cases u<;>first
        |exact wpAny_pure hQ
        | (refine wpAny_bind (wpAny_load ho ?_)
           rw[hc,hd];show wpAny M A (if (["enumerate","zip","dict_itemiterator","dict_reverseitemiterator","odict_iterator","itertools.zip_longest","itertools.pairwise"].contains n&&vs[0]?==some (rawInt _))=true then _ else _) Q E s;rw[if_neg (by intro h;rw[hn,Bool.false_and]at h;cases h)];exact wpAny_pure hQ))
def Itl(K:Frag)(a:Addr):It :=
 ⟨λ i H=>∃xs x,SqL K H a xs/\xs[i]?=some x,λ i H x H'=>H'=H/\∀xs,SqL K H a xs->xs[i]?=some x,λ i H=>∃xs,SqL K H a xs/\xs.length<=i⟩
def Itt(K:Frag)(a:Addr):It :=
 ⟨λ i H=>∃xs x,SqT K H a xs/\xs[i]?=some x,λ i H x H'=>H'=H/\∀xs,SqT K H a xs->xs[i]?=some x,λ i H=>∃xs,SqT K H a xs/\xs.length<=i⟩
def Itr(lo:Int)(n:Nat):It:=⟨λ i _=>i<n,λ i H x H'=>H'=H/\x=.int (lo+i),λ i _=>n<=i⟩
theorem NC{P:Program}{w:World}{K:Frag}{tg:Expr}(a it:Addr):PC P w K tg (Itl K a) [it] it (λ i h=>h.IsListIter it a i) where
 mem:=by simp
 obj:=λ i h st b hb=>by
  have e:b=it:=by simpa using hb
  subst e;obtain⟨o,e,c,d⟩:=st;exact⟨o,e,λ v z=>by rw[d]at z;cases z⟩
 keep:=λ i h h' st k=>st.at λ o e=>k it (by simp) o e
 item:=by
  intro X hP hw hK hc i pins s σ H E I hf st hg;subst hP hw hK;obtain⟨xs,x,hq,hx⟩:=hg;obtain⟨its,rv,p,hz⟩:=I.list hq;obtain⟨u,hu,ru⟩:=rv.get hx;obtain⟨f0,f1,f2,f3,f4,f5⟩:=hf it (by simp);refine wpAny_pyNext_list_item st p.isList (x:=u) (by simpa using hu) λ h' st' sb=>?_;have I1:Inv X pins σ H { s with heap:=h' }:=I.turned (t':=s.toks) (λ b o hb e=>(sb.2 b hb).trans e) f0 f1 f3 f4 f5;obtain⟨o,e,c,d⟩:=id st';exact⟨u,rfl,Nf (s:={ s with heap:=h' }) e c d (by decide) ⟨x,H,I1,ru,⟨rfl,λ ys hy=>by rw[I.list_inj hy hq];exact hx⟩,st',λ b hb=>(hf b hb).1⟩⟩
 done:=by
  intro X hP hw hK hc i pins s σ H E I hf st hg;subst hP hw hK;obtain⟨xs,hq,hx⟩:=hg;obtain⟨its,rv,p,hz⟩:=I.list hq;obtain⟨f0,f1,f2,f3,f4,f5⟩:=hf it (by simp);have hl:=rv.length;exact wpAny_pyNext_list_end (I.ok.hd hc) st p.isList (by simp;lia) λ h' eb=>⟨rfl,I.turned (t':=s.toks) (λ b o hb e=>eb b o hb e) f0 f1 f3 f4 f5⟩
 self:=λ_ _ _ _ _ st h=>wpAny_pyIter_listiter st h
theorem L8{P:Program}{w:World}{K:Frag}{tg:Expr}(a it:Addr):PC P w K tg (Itt K a) [it] it (λ i h=>h.IsTupleIter it a i) where
 mem:=by simp
 obj:=λ i h st b hb=>by
  have e:b=it:=by simpa using hb
  subst e;obtain⟨o,e,c,d⟩:=st;exact⟨o,e,λ v z=>by rw[d]at z;cases z⟩
 keep:=λ i h h' st k=>st.at λ o e=>k it (by simp) o e
 item:=by
  intro X hP hw hK hc i pins s σ H E I hf st hg;subst hP hw hK;obtain⟨xs,x,hq,hx⟩:=hg;obtain⟨its,rv,p,hz⟩:=I.tuple hq;obtain⟨u,hu,ru⟩:=rv.get hx;obtain⟨f0,f1,f2,f3,f4,f5⟩:=hf it (by simp);refine wpAny_pyNext_tuple_item st (show s.heap.IsTuple a its.toArray from p) (x:=u) (by simpa using hu) λ h' st' sb=>?_;have I1:Inv X pins σ H { s with heap:=h' }:=I.turned (t':=s.toks) (λ b o hb e=>(sb.2 b hb).trans e) f0 f1 f3 f4 f5;obtain⟨o,e,c,d⟩:=id st';exact⟨u,rfl,Nf (s:={ s with heap:=h' }) e c d (by decide) ⟨x,H,I1,ru,⟨rfl,λ ys hy=>by rw[I.tuple_inj hy hq];exact hx⟩,st',λ b hb=>(hf b hb).1⟩⟩
 done:=by
  intro X hP hw hK hc i pins s σ H E I hf st hg;subst hP hw hK;obtain⟨xs,hq,hx⟩:=hg;obtain⟨its,rv,p,hz⟩:=I.tuple hq;obtain⟨f0,f1,f2,f3,f4,f5⟩:=hf it (by simp);have hl:=rv.length;exact wpAny_pyNext_tuple_end (I.ok.hd hc) st (show s.heap.IsTuple a its.toArray from p) (by simp;lia) λ h' eb=>⟨rfl,I.turned (t':=s.toks) (λ b o hb e=>eb b o hb e) f0 f1 f3 f4 f5⟩
 self:=λ_ _ _ _ _ st h=>wpAny_pyIter_tupleiter st h
theorem L9{P:Program}{w:World}{K:Frag}{tg:Expr}(it:Addr)(lo:Int)(n:Nat):PC P w K tg (Itr lo n) [it] it (λ i h=>IsRangeIter h it (lo+(i:Nat)*1) ((n:Int)-(i:Nat)) 1) where
 mem:=by simp
 obj:=λ i h st b hb=>by
  have e:b=it:=by simpa using hb
  subst e;exact⟨_,st,λ v z=>by
   have z':Data.fields _=Data.cell v:=z;cases z'⟩
 keep:=λ i h h' st k=>k it (by simp) _ st
 item:=by
  intro X hP hw hK hc i pins s σ H E I hf st hg;subst hP hw hK;obtain⟨f0,f1,f2,f3,f4,f5⟩:=hf it (by simp);have W:=Walks.range (prog:=X.prog) (w:=X.w) (I.ok.hd hc) it lo 1 n;refine W.item i s _ _ hg st λ v h' tk hv st' kk=>?_;obtain⟨t,rfl⟩:=hv;have I1:Inv X pins σ H { s with heap:=h',toks:=tk }:=I.turned (λ b o hb e=>kk b o (by simpa using hb) e) f0 f1 f3 f4 f5;refine⟨_,rfl,Nf (s:={ s with heap:=h',toks:=tk }) (n:="range_iterator") st' rfl rfl (by decide) ⟨.int (lo+i),H,I1,⟨t,?_⟩,⟨rfl,rfl⟩,st',λ b hb=>(hf b hb).1⟩⟩;rw[Int.mul_one]
 done:=by
  intro X hP hw hK hc i pins s σ H E I hf st hg;subst hP hw hK;obtain⟨f0,f1,f2,f3,f4,f5⟩:=hf it (by simp);exact wpAny_pyNext_range_end (I.ok.hd hc) st (by have:n<=i:=hg;lia) λ h' eb=>⟨rfl,I.turned (t':=s.toks) (λ b o hb e=>eb b o hb e) f0 f1 f3 f4 f5⟩
 self:=λ_ _ _ _ _ st h=>wpAny_pyIter_rangeiter st h
section
variable{X:Cx}{tg:Expr}
inductive Sj(x:V)(S Q:Addr->Prop):Prop
 |mk (a:Addr) (e:x=.ref a) (s:S a) (q:Q a):Sj x S Q
def SN(K:Frag)(tl:TE):TI:=λ σ H R=>tl σ H λ x H1=>Sj x (λ a=>∃xs,SqL K H1 a xs) λ a=>R (Itl K a) H1
def TM(K:Frag)(tl:TE):TI:=λ σ H R=>tl σ H λ x H1=>Sj x (λ a=>∃xs,SqT K H1 a xs) λ a=>R (Itt K a) H1
theorem BD{l:Expr}{tl:TE}(hl:PE X l tl):PI X tg l (SN X.K tl):=by
 intro pins s σ H R I h;refine thn (hl pins s σ H _ I h) λ v s1 hz_=>?_;obtain⟨x,H1,I1,r1,q1⟩:=hz_;obtain⟨a,e,⟨xs,hq⟩,q⟩:=q1;subst e;cases r1;obtain⟨its,rv,p,hz⟩:=I1.list hq;refine wpAny_pyIter_list p.isList ?_;refine⟨s1.heap.objs.size,[s1.heap.objs.size],_,_,H1,rfl,I1.kept (t':=s1.toks) λ b o e=>Heap.get?_push_of_some _ e,NC a _,⟨_,Heap.get?_push_size _ rfl,rfl,rfl⟩,λ b hb=>?_,q⟩;have e:b=s1.heap.objs.size:=by simpa using hb
 subst e;exact I1.fpOk (Nat.le_refl _) (I1.hok.fresh (Nat.le_refl _))
theorem OH{l:Expr}{tl:TE}(hl:PE X l tl):PI X tg l (TM X.K tl):=by
 intro pins s σ H R I h;refine thn (hl pins s σ H _ I h) λ v s1 hz_=>?_;obtain⟨x,H1,I1,r1,q1⟩:=hz_;obtain⟨a,e,⟨xs,hq⟩,q⟩:=q1;subst e;cases r1;obtain⟨its,rv,p,hz⟩:=I1.tuple hq;refine wpAny_pyIter_tuple (show s1.heap.IsTuple a its.toArray from p) ?_;refine⟨s1.heap.objs.size,[s1.heap.objs.size],_,_,H1,rfl,I1.kept (t':=s1.toks) λ b o e=>Heap.get?_push_of_some _ e,L8 a _,⟨_,Heap.get?_push_size _ rfl,rfl,rfl⟩,λ b hb=>?_,q⟩;have e:b=s1.heap.objs.size:=by simpa using hb
 subst e;exact I1.fpOk (Nat.le_refl _) (I1.hok.fresh (Nat.le_refl _))
theorem OE{pins:PNz}{σ:St}{H:Hp}{s:Shared}{R:It->Hp->Prop}{E:VPz}{lo hi:Int}{t u v:Tok}{tk:Nat}(I:Inv X pins σ H s)(h1:-(2^62)<=lo)(h2:lo<2^62)(h3:-(2^62)<=hi)(h4:hi<2^62)
  (q:R (Itr lo (hi-lo).toNat) H):wpAny (model X.prog X.w) X.A (pyIter (.ref s.heap.objs.size)) (PIE X pins σ tg R) E { s with heap:=s.heap.push { cls:=.type "range",data:=.fields #[.int lo t,.int hi u,.int 1 v] },toks:=tk }:=by
 refine wpAny_pyIter_range (IsRange.new ..) (small_one h1 h2 h3 h4) ?_;have I1:Inv X pins σ H { s with heap:=s.heap.push { cls:=.type "range",data:=.fields #[.int lo t,.int hi u,.int 1 v] },toks:=tk }:=I.kept λ b o e=>Heap.get?_push_of_some _ e;refine⟨(s.heap.push { cls:=.type "range",data:=.fields #[.int lo t,.int hi u,.int 1 v] }).objs.size,[(s.heap.push { cls:=.type "range",data:=.fields #[.int lo t,.int hi u,.int 1 v] }).objs.size],_,_,H,rfl,
  I1.kept (t':=tk) λ b o e=>Heap.get?_push_of_some _ e,L9 _ lo (hi-lo).toNat,?_,λ b hb=>?_,q⟩
 .have e1:lo+((0:Nat):Int)*1=lo:=by simp
  have e2:(((hi-lo).toNat:Nat):Int)-((0:Nat):Int)=Builtin.Range.rangeSize lo hi 1:=by rw[rangeSize_one];split<;>lia
  show IsRangeIter _ _ (lo+((0:Nat):Int)*1) ((((hi-lo).toNat:Nat):Int)-((0:Nat):Int)) 1;rw[e1,e2];exact Heap.get?_push_size _ rfl
 .have e:b=(s.heap.push { cls:=.type "range",data:=.fields #[.int lo t,.int hi u,.int 1 v] }).objs.size:=by simpa using hb
  subst e;exact I1.fpOk (Nat.le_refl _) (I1.hok.fresh (Nat.le_refl _))
def SM(ta:TA):TI:=λ σ H R=>ta σ H λ vs H1=>∃i j:Int,vs=[.int i,.int j]/\(-(2^62)<=i/\i<2^62/\-(2^62)<=j/\j<2^62)/\R (Itr i (j-i).toNat) H1
theorem IB{a b:Expr}{ta:TA}{p pos:Pos}(hg:Gl X "range")(hm:X.mg "range"=none)(ha:PA X [a,b] ta)(hs:starEach [a,b] X.env=[(false,eval a X.env),(false,eval b X.env)]:=by rfl)(hs2:starEach [b] X.env=[(false,eval b X.env)]:=by rfl) :
  PI X tg (.Call (.Name "range" p) [a,b] [] pos) (SM ta):=by
 intro pins s σ H R I h;refine Call_ (Dz I hg hm boot_range (PyProof.Rows.callWith_type1 (thn (ha pos pins s σ H _ I h) λ us s1 hz_=>?_) (by rw[hs,hs2]) (by rw[hs2];rfl)));obtain⟨vs,H1,I1,r1,q1⟩:=hz_;obtain⟨i,j,e,⟨q1,q2,q3,q4⟩,q⟩:=q1;subst e;cases r1 with
 |cons r rr =>
  cases rr with
  |cons r' rr =>
   cases rr;obtain⟨t,rfl⟩:=r;obtain⟨t',rfl⟩:=r';exact call_range_2 (OE I1 q1 q2 q3 q4 q)
def Tx(wi:TI)(g:TG)(tb:TS):TS:=λ D σ H=>wi σ H λ J H1=>∃W:Nat->Nat->St->Hp->Prop,(∃m,W 0 m σ H1)/\∀i m σ H,W i m σ H ->
 (J.stop i H/\D.nx σ H)\/(J.go i H/\∃N:St->Hp->Prop,(∀σ' H',N σ' H'->∃m',m'<m/\W (i+1) m' σ' H')/\∀x H',J.yld i H x H'->g x σ H' λ σ2 H2=>tb { D with nx:=N,ct:=N,bk:=D.nx } σ2 H2)
def JD(fp:List Addr)(h:Heap):PNz:=fp.filterMap λ b=>(h.get? b).map λ o=>(b,o)
theorem AX{fp:List Addr}{h:Heap}{b:Addr}{o:Obj}(hb:b∈fp)(e:h.get? b=some o):(b,o)∈JD fp h:=List.mem_filterMap.mpr ⟨b,hb,by rw[e];rfl⟩
theorem NP{fp:List Addr}{h:Heap}{p:Addr×Obj}(hp:p∈JD fp h):p.1∈fp/\h.get? p.1=some p.2:=by
 obtain⟨b,hb,e⟩:=List.mem_filterMap.mp hp;cases q:h.get? b with
 |none=>rw[q]at e;cases e
 |some o =>
  rw[q]at e;have e':(b,o)=p:=Option.some.inj e;subst e';exact⟨hb,q⟩
theorem Inv.pinned{pins:PNz}{σ:St}{H:Hp}{s:Shared}{fp:List Addr}(I:Inv X pins σ H s)(hf:∀b∈fp,Fs X pins H b)(ho:∀b∈fp,∃o,s.heap.get? b=some o/\∀v,o.data≠.cell v):Inv X (pins++JD fp s.heap) σ H s :=
 I.pins_of λ p hp=>(List.mem_append.mp hp).elim (λ z=>I.pin p (List.mem_append_right _ z)) λ z=>by
  obtain⟨hb,e⟩:=NP z;obtain⟨f0,f1,f2,_⟩:=hf p.1 hb;obtain⟨o,e',d⟩:=ho p.1 hb;rw[e]at e';cases e';exact⟨e,f0,f1,f2,d⟩
theorem Inv.unpinned{pins pl:PNz}{σ:St}{H:Hp}{s:Shared}(I:Inv X (pins++pl) σ H s):Inv X pins σ H s:=I.pins_of λ p hp=>I.pin p (List.mem_append_right _ (List.mem_append_left _ hp))
theorem CN{iter:Expr}{body:List Stmt}{wi:TI}{g:TG}{tb:TS}{pos:Pos}(hp:PassesOwn (model X.prog X.w) X.A X.env X.xe)(hc:X.calm=true)(hi:PI X tg iter wi)(hg:PG X tg g)(hb:PSs X body tb)
  (hs:∀x,foldedSetIterable iter X.env x=pure x:=by intro _;rfl):PS X (.For tg iter body [] pos) (Tx wi g tb):=by
 intro pins s σ H D I h;refine wpAny_For (thn (hi pins s σ H _ I h) λ v s1 h1=>thn h1 λ itv s2 h2=>?_) hs;obtain⟨it,fp,tn,J,H2,e,I2,T,st2,f2,W,⟨m0,w0⟩,turn⟩:=h2;subst e;have stat:∀{H':Hp},(∀b∈fp,H' b=none)->∀b∈fp,Fs X pins H' b:=λ hn b hb=>⟨hn b hb,(f2 b hb).2⟩;refine codeAny_forLoop_any (λ n s'=>∃i σ' H',Inv X pins σ' H' s'/\tn i s'.heap/\(∀b∈fp,H' b=none)/\W i n σ' H') ?_ m0 ⟨0,σ,H2,I2,st2,λ b hb=>(f2 b hb).1,w0⟩;rintro n s3 ⟨i,σ3,H3,I3,st3,fr3,w3⟩;rcases turn i n σ3 H3 w3 with ⟨stop,qn⟩|⟨go,N,hN,step⟩
 .refine wpAny_passesOwn hp (thn (T.done X rfl rfl rfl hc i pins s3 σ3 H3 X.xe I3 (stat fr3) st3 stop) λ r s4 hz_=>?_);obtain⟨hr,I4⟩:=hz_;subst hr;exact wpAny_execs_nil ⟨σ3,H3,I4,qn⟩
 .refine wpAny_passesOwn hp (thn (T.item X rfl rfl rfl hc i pins s3 σ3 H3 X.xe I3 (stat fr3) st3 go) λ r s4 hz_=>?_);obtain⟨u,hr,h4⟩:=hz_;subst hr;refine wpAny_passesOwn hp (thn h4 λ_ s5 hz_=>?_);obtain⟨x,H5,I5,r5,y5,st5,fr5⟩:=hz_;have I5':=I5.pinned (stat fr5) (T.obj _ _ st5);refine wpAny_passesOwn hp (thn (hg _ s5 σ3 H5 x u _ I5' r5 (step x H5 y5)) λ_ s6 hz_=>?_);obtain⟨σ6,H6,I6,q6⟩:=hz_;refine wpAny_passesOwn hp (thn (hb _ s6 σ6 H6 _ I6 q6) λ f s7 q7=>?_);have again:∀{σ7:St}{H7:Hp},Inv X (pins++JD fp s5.heap) σ7 H7 s7->N σ7 H7->∃m,m<n/\∃i σ' H',Inv X pins σ' H' s7/\tn i s7.heap/\(∀b∈fp,H' b=none)/\W i m σ' H':=λ{σ7 H7} I7 n7=>by
   obtain⟨m',hm,w7⟩:=hN σ7 H7 n7;refine⟨m',hm,i+1,σ7,H7,I7.unpinned,T.keep _ _ _ st5 λ b hb o e=>(I7.pin (b,o) (List.mem_append_right _ (List.mem_append_right _ (AX hb e)))).1,λ b hb=>?_,w7⟩;obtain⟨o,e,d⟩:=T.obj _ _ st5 b hb;exact(I7.pin (b,o) (List.mem_append_right _ (List.mem_append_right _ (AX hb e)))).2.1
  cases f with
  |next=>obtain⟨σ7,H7,I7,n7⟩:=q7;exact again I7 n7
  |cont=>obtain⟨σ7,H7,I7,n7⟩:=q7;exact again I7 n7
  |brk=>obtain⟨σ7,H7,I7,q7⟩:=q7;exact⟨σ7,H7,I7.unpinned,q7⟩
  |ret v=>obtain⟨x7,σ7,H7,I7,r7,q7⟩:=q7;exact⟨x7,σ7,H7,I7.unpinned,r7,q7⟩
end
theorem ED{K:Frag}{a:Addr}{xs:LUz}{g:TG}{tb:TS}{D:Km}{σ:St}{H:Hp}(Pv:Nat->St->Hp->Prop)(h0:Pv 0 σ H)(hl:∀i σ H,i<=xs.length->Pv i σ H->SqL K H a xs)
  (hs:∀i x σ H,xs[i]?=some x->Pv i σ H->g x σ H λ σ2 H2=>tb { D with nx:=Pv (i+1),ct:=Pv (i+1),bk:=D.nx } σ2 H2) (hd:∀σ H,Pv xs.length σ H->D.nx σ H) :
  ∃W:Nat->Nat->St->Hp->Prop,(∃m,W 0 m σ H)/\∀i m σ H,W i m σ H ->
   ((Itl K a).stop i H/\D.nx σ H)\/((Itl K a).go i H/\∃N:St->Hp->Prop,(∀σ' H',N σ' H'->∃m',m'<m/\W (i+1) m' σ' H')/\∀x H',(Itl K a).yld i H x H'->g x σ H' λ σ2 H2=>tb { D with nx:=N,ct:=N,bk:=D.nx } σ2 H2):=by
 refine⟨λ i m σ H=>m=xs.length-i/\i<=xs.length/\Pv i σ H,⟨xs.length,by simp,Nat.zero_le _,h0⟩,?_⟩;rintro i m σ H ⟨rfl,hi,p⟩;have q:=hl i σ H hi p;by_cases hlt:i<xs.length
 .refine .inr ⟨⟨xs,xs[i],q,by simp[hlt]⟩,Pv (i+1),λ σ' H' p'=>⟨xs.length-(i+1),by lia,rfl,hlt,p'⟩,λ x H' y=>?_⟩;obtain⟨e,y⟩:=y;subst e;exact hs i x σ _ (y xs q) p
 .have e:i=xs.length:=by lia
  subst e;exact .inl ⟨⟨xs,q,Nat.le_refl _⟩,hd σ H p⟩
theorem Ni{K:Frag}{a:Addr}{xs:LUz}{g:TG}{tb:TS}{D:Km}{σ:St}{H:Hp}(Pv:Nat->St->Hp->Prop)(h0:Pv 0 σ H)(hl:∀i σ H,i<=xs.length->Pv i σ H->SqT K H a xs)
  (hs:∀i x σ H,xs[i]?=some x->Pv i σ H->g x σ H λ σ2 H2=>tb { D with nx:=Pv (i+1),ct:=Pv (i+1),bk:=D.nx } σ2 H2) (hd:∀σ H,Pv xs.length σ H->D.nx σ H) :
  ∃W:Nat->Nat->St->Hp->Prop,(∃m,W 0 m σ H)/\∀i m σ H,W i m σ H ->
   ((Itt K a).stop i H/\D.nx σ H)\/((Itt K a).go i H/\∃N:St->Hp->Prop,(∀σ' H',N σ' H'->∃m',m'<m/\W (i+1) m' σ' H')/\∀x H',(Itt K a).yld i H x H'->g x σ H' λ σ2 H2=>tb { D with nx:=N,ct:=N,bk:=D.nx } σ2 H2):=by
 refine⟨λ i m σ H=>m=xs.length-i/\i<=xs.length/\Pv i σ H,⟨xs.length,by simp,Nat.zero_le _,h0⟩,?_⟩;rintro i m σ H ⟨rfl,hi,p⟩;have q:=hl i σ H hi p;by_cases hlt:i<xs.length
 .refine .inr ⟨⟨xs,xs[i],q,by simp[hlt]⟩,Pv (i+1),λ σ' H' p'=>⟨xs.length-(i+1),by lia,rfl,hlt,p'⟩,λ x H' y=>?_⟩;obtain⟨e,y⟩:=y;subst e;exact hs i x σ _ (y xs q) p
 .have e:i=xs.length:=by lia
  subst e;exact .inl ⟨⟨xs,q,Nat.le_refl _⟩,hd σ H p⟩
theorem Oe{lo:Int}{n:Nat}{g:TG}{tb:TS}{D:Km}{σ:St}{H:Hp}(Pv:Nat->St->Hp->Prop)(h0:Pv 0 σ H)
  (hs:∀i σ H,i<n->Pv i σ H->g (.int (lo+i)) σ H λ σ2 H2=>tb { D with nx:=Pv (i+1),ct:=Pv (i+1),bk:=D.nx } σ2 H2) (hd:∀σ H,Pv n σ H->D.nx σ H) :
  ∃W:Nat->Nat->St->Hp->Prop,(∃m,W 0 m σ H)/\∀i m σ H,W i m σ H ->
   ((Itr lo n).stop i H/\D.nx σ H)\/((Itr lo n).go i H/\∃N:St->Hp->Prop,(∀σ' H',N σ' H'->∃m',m'<m/\W (i+1) m' σ' H')/\∀x H',(Itr lo n).yld i H x H'->g x σ H' λ σ2 H2=>tb { D with nx:=N,ct:=N,bk:=D.nx } σ2 H2):=by
 refine⟨λ i m σ H=>m=n-i/\i<=n/\Pv i σ H,⟨n,by simp,Nat.zero_le _,h0⟩,?_⟩;rintro i m σ H ⟨rfl,hi,p⟩;by_cases hlt:i<n
 .refine .inr ⟨hlt,Pv (i+1),λ σ' H' p'=>⟨n-(i+1),by lia,rfl,hlt,p'⟩,λ x H' y=>?_⟩;obtain⟨e,y⟩:=y;subst e y;exact hs i σ _ hlt p
 .have e:i=n:=by lia
  subst e;exact .inl ⟨Nat.le_refl _,hd σ H p⟩
abbrev R2:=V->V->Hp->VK->Prop
def OpR(X:Cx)(f:Value->Value->Sem Value)(r:R2):Prop :=
 ∀(pins:PNz)(s:Shared)(σ:St)(H:Hp)(x y:V)(v u:Value)(Q:VK),Inv X pins σ H s->RelV x v->RelV y u->r x y H Q ->
  wpAny (model X.prog X.w) X.A (f v u) (EP X pins σ Q) X.xe s
def UnR(X:Cx)(f:Value->Sem Value)(r:V->Hp->VK->Prop):Prop :=
 ∀(pins:PNz)(s:Shared)(σ:St)(H:Hp)(x:V)(v:Value)(Q:VK),Inv X pins σ H s->RelV x v->r x H Q ->
  wpAny (model X.prog X.w) X.A (f v) (EP X pins σ Q) X.xe s
def EL(X:Cx)(f:Value)(r:LUz->Hp->VK->Prop):Prop :=
 ∀(pins:PNz)(s:Shared)(σ:St)(H:Hp)(xs:LUz)(us:LWz)(Q:VK),Inv X pins σ H s->Vals xs us->r xs H Q ->
  wpAny (model X.prog X.w) X.A (call f us) (EP X pins σ Q) X.xe s
def TW(X:Cx)(r:V->Hp->(Bool->Hp->Prop)->Prop):Prop :=
 ∀(pins:PNz)(s:Shared)(σ:St)(H:Hp)(x:V)(v:Value)(Q:Bool->Hp->Prop),Inv X pins σ H s->RelV x v->r x H Q ->
  wpAny (model X.prog X.w) X.A (truthy v) (TP X pins σ Q) X.xe s
def tOp(r:R2)(ta tb:TE):TE:=λ σ H Q=>ta σ H λ x H1=>tb σ H1 λ y H2=>r x y H2 Q
def tUn(r:V->Hp->VK->Prop)(ta:TE):TE:=λ σ H Q=>ta σ H λ x H1=>r x H1 Q
inductive II1(C:Int->Int->Prop)(g:Int->Int->V)(x y:V)(H:Hp)(Q:VK):Prop
 |mk (i j:Int) (e1:x=.int i) (e2:y=.int j) (c:C i j) (q:Q (g i j) H):II1 C g x y H Q
inductive II0(g:Int->Int->V)(x y:V)(H:Hp)(Q:VK):Prop
 |mk (i j:Int) (e1:x=.int i) (e2:y=.int j) (q:Q (g i j) H):II0 g x y H Q
inductive IU(g:Int->V)(x:V)(H:Hp)(Q:VK):Prop
 |mk (i:Int) (e:x=.int i) (q:Q (g i) H):IU g x H Q
def rI(C:Int->Int->Prop)(g:Int->Int->V):R2:=λ x y H Q=>II1 C g x y H Q
def rI0(g:Int->Int->V):R2:=λ x y H Q=>II0 g x y H Q
def rU(g:Int->V):V->Hp->VK->Prop:=λ x H Q=>IU g x H Q
section
variable{X:Cx}{a b c:Expr}{ta tb tc:TE}{pos:Pos}
theorem Sf(ha:PE X a ta)(hb:PE X b tb){pins:PNz}{s:Shared}{σ:St}{H:Hp}{R:V->V->Hp->Prop}(I:Inv X pins σ H s)
  (h:ta σ H λ x H1=>tb σ H1 λ y H2=>R x y H2) {Q:VPz} {f:Value->Value->Sem Value}
  (hf:∀v u s2 x y H2,Inv X pins σ H2 s2->RelV x v->RelV y u->R x y H2->wpAny (model X.prog X.w) X.A (f v u) Q X.xe s2) :
  wpAny (model X.prog X.w) X.A (eval a X.env) (λ v s₁=>wpAny (model X.prog X.w) X.A (eval b X.env) (λ u s₂=>wpAny (model X.prog X.w) X.A (f v u) Q X.xe s₂) X.xe s₁) X.xe s:=by
 refine thn (ha pins s σ H _ I h) λ v s1 hz_=>?_;obtain⟨x,H1,I1,r1,q1⟩:=hz_;refine thn (hb pins s1 σ H1 _ I1 q1) λ u s2 hz_=>?_;obtain⟨y,H2,I2,r2,q2⟩:=hz_;exact hf v u s2 x y H2 I2 r1 r2 q2
theorem Ax{op:Operator}{r:R2}(ho:OpR X (binaryOp op) r)(ha:PE X a ta)(hb:PE X b tb):PE X (.BinOp a op b pos) (tOp r ta tb):=by
 intro pins s σ H Q I h;exact wpAny_BinOp (Sf ha hb I h λ v u s2 x y H2 I2 rx ry q=>ho pins s2 σ H2 x y v u Q I2 rx ry q)
theorem IC{op:UnaryOp}{r:V->Hp->VK->Prop}(ho:UnR X (unaryOp op) r)(ha:PE X a ta):PE X (.UnaryOp op a pos) (tUn r ta):=by
 intro pins s σ H Q I h;exact UnaryOp_ (thn (ha pins s σ H _ I h) λ v s1 ⟨x,H1,I1,r1,q1⟩=>ho pins s1 σ H1 x v Q I1 r1 q1)
theorem opI{f:Value->Value->Sem Value}{C:Int->Int->Prop}{g:Int->Int->Int}
  (rule:∀(i j:Int)(t u:Tok)(s:Shared)(Q:VPz)(E:VPz),C i j->Q (.int (g i j) s.toks) { s with toks:=s.toks+1 }->wpAny (model X.prog X.w) X.A (f (.int i t) (.int j u)) Q E s) :
  OpR X f (rI C λ i j=>.int (g i j)):=by
 intro pins s σ H x y v u Q I rx ry h;obtain⟨i,j,rfl,rfl,hc,q⟩:=h;obtain⟨t,rfl⟩:=rx;obtain⟨t',rfl⟩:=ry;exact rule i j t t' s _ _ hc ⟨.int (g i j),H,I.tok _,⟨_,rfl⟩,q⟩
theorem SA{f:Value->Value->Sem Value}{g:Int->Int->Int}
  (rule:∀(i j:Int)(t u:Tok)(s:Shared)(Q:VPz)(E:VPz),Q (.int (g i j) s.toks) { s with toks:=s.toks+1 }->wpAny (model X.prog X.w) X.A (f (.int i t) (.int j u)) Q E s) :
  OpR X f (rI0 λ i j=>.int (g i j)):=by
 intro pins s σ H x y v u Q I rx ry h;obtain⟨i,j,rfl,rfl,q⟩:=h;obtain⟨t,rfl⟩:=rx;obtain⟨t',rfl⟩:=ry;exact rule i j t t' s _ _ ⟨.int (g i j),H,I.tok _,⟨_,rfl⟩,q⟩
theorem Q6{f:Value->Value->Sem Value}{g:Int->Int->Bool}
  (rule:∀(i j:Int)(t u:Tok)(s:Shared)(Q:VPz)(E:VPz),Q (.bool (g i j)) s->wpAny (model X.prog X.w) X.A (f (.int i t) (.int j u)) Q E s) :
  OpR X f (rI0 λ i j=>.bl (g i j)):=by
 intro pins s σ H x y v u Q I rx ry h;obtain⟨i,j,rfl,rfl,q⟩:=h;obtain⟨t,rfl⟩:=rx;obtain⟨t',rfl⟩:=ry;exact rule i j t t' s _ _ ⟨.bl (g i j),H,I,rfl,q⟩
def TZ(i j:Int):Prop:=0<=j/\j<=1000000/\i.natAbs<2^64
theorem AR:OpR X (binaryOp .Add) (rI0 λ i j=>.int (i+j)):=SA λ_ _ _ _ _ _ _ q=>add_int q
theorem B4:OpR X (binaryOp .Sub) (rI0 λ i j=>.int (i-j)):=SA λ_ _ _ _ _ _ _ q=>sub_int q
theorem Cu:OpR X (binaryOp .Mod) (rI (λ_ j=>0<j) λ i j=>.int (i % j)):=opI λ i j _ _ _ _ _ hc q=>by
 have h1:(0:Int)<j:=hc;exact mod_int' (by lia) (by rw[Int.fmod_eq_emod_of_nonneg i (by lia)];exact q)
theorem RP:OpR X (binaryOp .Pow) (rI TZ λ i j=>.int (i^j.toNat)):=opI λ_ _ _ _ _ _ _ hc q=>pow_int_small hc.1 hc.2.1 hc.2.2 q
theorem unI{f:Value->Sem Value}{g:Int->Int}
  (rule:∀(i:Int)(t:Tok)(s:Shared)(Q:VPz)(E:VPz),Q (.int (g i) s.toks) { s with toks:=s.toks+1 }->wpAny (model X.prog X.w) X.A (f (.int i t)) Q E s) :
  UnR X f (rU λ i=>.int (g i)):=by
 intro pins s σ H x v Q I rx h;obtain⟨i,rfl,q⟩:=h;obtain⟨t,rfl⟩:=rx;exact rule i t s _ _ ⟨.int (g i),H,I.tok _,⟨_,rfl⟩,q⟩
theorem EN:UnR X (unaryOp .USub) (rU λ i=>.int (-i)):=unI λ_ _ _ _ _ q=>neg_int q
end
def Sy:V->V->Bool
 |.non,.non=>true|.non,.int _=>true|.int _,.non=>true|.non,.bl _=>true|.bl _,.non=>true|.non,.str _=>true|.str _,.non=>true
 |.int _,.int _=>true|.bl _,.bl _=>true|.str _,.str _=>true|.byt _,.byt _=>true
 |.int _,.str _=>true|.str _,.int _=>true|.bl _,.str _=>true|.str _,.bl _=>true
 |_,_=>false
def rEq:R2:=λ x y H Q=>Sy x y=true/\Q (.bl (decide (x=y))) H
def rNe:R2:=λ x y H Q=>Sy x y=true/\Q (.bl (!decide (x=y))) H
theorem Nn{i j:Int}:decide (V.int i=V.int j)=(i==j):=by
 rw[Bool.eq_iff_iff];simp
theorem Py{i j:Bool}:decide (V.bl i=V.bl j)=(i==j):=by
 rw[Bool.eq_iff_iff];simp
theorem JZ{i j:Str}:decide (V.str i=V.str j)=(i==j):=by
 rw[Bool.eq_iff_iff];simp
theorem No{i j:Array UInt8}:decide (V.byt i=V.byt j)=(i.toList==j.toList):=by
 rw[Bool.eq_iff_iff];cases i;cases j;simp
section
variable{X:Cx}{a b c:Expr}{ta tb tc:TE}{pos:Pos}
theorem A7{pins:PNz}{σ:St}{H:Hp}{s:Shared}{Q:VK}{k k':Bool}(I:Inv X pins σ H s)(q:Q (.bl k) H)(e:k=k'):EP X pins σ Q (.bool k') s:=by
 subst e;exact⟨.bl k,H,I,rfl,q⟩
theorem AN:OpR X (compareOp .Eq) rEq:=by
 intro pins s σ H x y v u Q I rx ry h;obtain⟨hs,q⟩:=h;cases x with
 |non =>
  cases rx;cases y with
  |non=>cases ry;exact PySem.EqNone.eq_none_none (A7 I q (by simp))
  |bl j=>cases ry;exact PySem.EqNone.eq_none_bool (A7 I q (by simp))
  |int j=>obtain⟨t',rfl⟩:=ry;exact PySem.EqNone.eq_none_int (A7 I q (by simp))
  |str j=>obtain⟨t',rfl⟩:=ry;exact PySem.EqNone.eq_none_str (A7 I q (by simp))
  |_=>exact absurd (show false=true from hs) Bool.false_ne_true
 |bl i =>
  cases rx;cases y with
  |non=>cases ry;exact PySem.EqNone.eq_bool_none (A7 I q (by simp))
  |bl j=>cases ry;exact eq_bool (A7 I q Py)
  |str j=>obtain⟨t',rfl⟩:=ry;exact PySem.EqMixed.eq_bool_str (A7 I q (by simp))
  |_=>exact absurd (show false=true from hs) Bool.false_ne_true
 |int i =>
  obtain⟨t,rfl⟩:=rx;cases y with
  |non=>cases ry;exact PySem.EqNone.eq_int_none (A7 I q (by simp))
  |int j=>obtain⟨t',rfl⟩:=ry;exact eq_int (A7 I q Nn)
  |str j=>obtain⟨t',rfl⟩:=ry;exact PySem.EqMixed.eq_int_str (A7 I q (by simp))
  |_=>exact absurd (show false=true from hs) Bool.false_ne_true
 |str i =>
  obtain⟨t,rfl⟩:=rx;cases y with
  |non=>cases ry;exact PySem.EqNone.eq_str_none (A7 I q (by simp))
  |bl j=>cases ry;exact PySem.EqMixed.eq_str_bool (A7 I q (by simp))
  |int j=>obtain⟨t',rfl⟩:=ry;exact PySem.EqMixed.eq_str_int (A7 I q (by simp))
  |str j=>obtain⟨t',rfl⟩:=ry;exact eq_str (A7 I q JZ)
  |_=>exact absurd (show false=true from hs) Bool.false_ne_true
 |byt i =>
  obtain⟨t,rfl⟩:=rx;cases y with
  |byt j=>obtain⟨t',rfl⟩:=ry;exact eq_bytes (A7 I q No)
  |_=>exact absurd (show false=true from hs) Bool.false_ne_true
 |_=>cases y<;>exact absurd (show false=true from hs) Bool.false_ne_true
theorem Fz:OpR X (compareOp .NotEq) rNe:=by
 intro pins s σ H x y v u Q I rx ry h;obtain⟨hs,q⟩:=h;cases x with
 |non =>
  cases rx;cases y with
  |non=>cases ry;exact PySem.EqNone.ne_none_none (A7 I q (by simp))
  |bl j=>cases ry;exact PySem.EqNone.ne_none_bool (A7 I q (by simp))
  |int j=>obtain⟨t',rfl⟩:=ry;exact PySem.EqNone.ne_none_int (A7 I q (by simp))
  |str j=>obtain⟨t',rfl⟩:=ry;exact PySem.EqNone.ne_none_str (A7 I q (by simp))
  |_=>exact absurd (show false=true from hs) Bool.false_ne_true
 |bl i =>
  cases rx;cases y with
  |non=>cases ry;exact PySem.EqNone.ne_bool_none (A7 I q (by simp))
  |bl j=>cases ry;exact ne_bool (A7 I q (congrArg not Py))
  |str j=>obtain⟨t',rfl⟩:=ry;exact PySem.EqMixed.ne_bool_str (A7 I q (by simp))
  |_=>exact absurd (show false=true from hs) Bool.false_ne_true
 |int i =>
  obtain⟨t,rfl⟩:=rx;cases y with
  |non=>cases ry;exact PySem.EqNone.ne_int_none (A7 I q (by simp))
  |int j=>obtain⟨t',rfl⟩:=ry;exact ne_int (A7 I q (congrArg not Nn))
  |str j=>obtain⟨t',rfl⟩:=ry;exact PySem.EqMixed.ne_int_str (A7 I q (by simp))
  |_=>exact absurd (show false=true from hs) Bool.false_ne_true
 |str i =>
  obtain⟨t,rfl⟩:=rx;cases y with
  |non=>cases ry;exact PySem.EqNone.ne_str_none (A7 I q (by simp))
  |bl j=>cases ry;exact PySem.EqMixed.ne_str_bool (A7 I q (by simp))
  |int j=>obtain⟨t',rfl⟩:=ry;exact PySem.EqMixed.ne_str_int (A7 I q (by simp))
  |str j=>obtain⟨t',rfl⟩:=ry;exact ne_str (A7 I q (congrArg not JZ))
  |_=>exact absurd (show false=true from hs) Bool.false_ne_true
 |byt i =>
  obtain⟨t,rfl⟩:=rx;cases y with
  |byt j=>obtain⟨t',rfl⟩:=ry;exact ne_bytes (A7 I q (congrArg not No))
  |_=>exact absurd (show false=true from hs) Bool.false_ne_true
 |_=>cases y<;>exact absurd (show false=true from hs) Bool.false_ne_true
theorem Cj:OpR X (compareOp .Lt) (rI0 λ i j=>.bl (decide (i<j))):=Q6 λ_ _ _ _ _ _ _ q=>lt_int q
theorem GA:OpR X (compareOp .LtE) (rI0 λ i j=>.bl (decide (i<=j))):=Q6 λ_ _ _ _ _ _ _ q=>le_int q
theorem IG:OpR X (compareOp .Gt) (rI0 λ i j=>.bl (decide (j<i))):=Q6 λ_ _ _ _ _ _ _ q=>gt_int q
theorem Rs:OpR X (compareOp .GtE) (rI0 λ i j=>.bl (decide (j<=i))):=Q6 λ_ _ _ _ _ _ _ q=>ge_int q
theorem GC:OpR X (compareOp .Is) (λ x y H Q=>y=.non/\Q (.bl (decide (x=.non))) H):=by
 intro pins s σ H x y v u Q I rx ry h;obtain⟨rfl,q⟩:=h;cases ry;refine is_none_gen (A7 I q ?_);cases x<;>first
  | (cases rx;rfl)
  | (obtain⟨t,rfl⟩:=rx;rfl)
theorem Q3:OpR X (compareOp .IsNot) (λ x y H Q=>y=.non/\Q (.bl (!decide (x=.non))) H):=by
 intro pins s σ H x y v u Q I rx ry h;obtain⟨rfl,q⟩:=h;cases ry;refine isnot_none_gen (A7 I q ?_);cases x<;>first
  | (cases rx;rfl)
  | (obtain⟨t,rfl⟩:=rx;rfl)
theorem As(b:Expr){op:CmpOp}(h:op≠.In:=by decide)(h2:op≠.NotIn:=by decide):behindInMarks op b=false:=by
 have e1:(op==CmpOp.In)=false:=by cases op<;>first|rfl|exact absurd rfl h
 have e2:(op==CmpOp.NotIn)=false:=by cases op<;>first|rfl|exact absurd rfl h2
 cases b<;>simp[behindInMarks,e1,e2]
theorem Ci{op:CmpOp}{r:R2}(ho:OpR X (compareOp op) r)(ha:PE X a ta)(hb:PE X b tb)(hm:behindInMarks op b=false):PE X (.Compare a [op] [b] pos) (tOp r ta tb):=by
 intro pins s σ H Q I h;exact wpAny_Compare1 (Sf ha hb I h λ v u s2 x y H2 I2 rx ry q=>ho pins s2 σ H2 x y v u Q I2 rx ry q) hm
def Rl(t:TE):TT:=λ σ H Q=>t σ H λ x H'=>IBl x λ k=>Q k H'
theorem Ak{op:CmpOp}{r:R2}(ho:OpR X (compareOp op) r)(ha:PE X a ta)(hb:PE X b tb)(hm:behindInMarks op b=false):PT X (.Compare a [op] [b] pos) (Rl (tOp r ta tb)):=by
 intro pins s σ H Q I h;refine wpAny_isTrue_Compare1 (thn (ha pins s σ H _ I h) λ v s1 ⟨x,H1,I1,r1,q1⟩=>thn (hb pins s1 σ H1 _ I1 q1) λ u s2 ⟨y,H2,I2,r2,q2⟩ =>
  thn (ho pins s2 σ H2 x y v u _ I2 r1 r2 q2) λ c s3 ⟨z,H3,I3,r3,k,e,q3⟩=>?_) hm
 subst e;cases r3;exact wpAny_truthy_bool ⟨H3,I3,q3⟩
def O2(r r':R2)(ta tb tc:TE):TE:=λ σ H Q=>ta σ H λ x H1=>tb σ H1 λ y H2=>r x y H2 λ z H3=>IBl z λ k =>
 (if k=true then tc σ H3 λ w' H4=>r' y w' H4 Q else Q (.bl false) H3)
theorem G8{op op':CmpOp}{r r':R2}(ho:OpR X (compareOp op) r)(ho':OpR X (compareOp op') r')(ha:PE X a ta)(hb:PE X b tb)(hc:PE X c tc)
  (hm:lastMarks [op,op'] [b,c]=false:=by with_unfolding_all rfl):PE X (.Compare a [op,op'] [b,c] pos) (O2 r r' ta tb tc):=by
 intro pins s σ H Q I h;refine Compare_chain (thn (ha pins s σ H _ I h) λ v s1 ⟨x,H1,I1,r1,q1⟩=>chain_link (thn (hb pins s1 σ H1 _ I1 q1) λ u s2 ⟨y,H2,I2,r2,q2⟩ =>
  thn (ho pins s2 σ H2 x y v u _ I2 r1 r2 q2) λ d s3 ⟨z,H3,I3,r3,k,e,q3⟩=>?_)) hm
 subst e;cases r3;refine wpAny_truthy_bool ?_;cases k with
 |false=>exact ite_ff ⟨.bl false,H3,I3,rfl,q3⟩
 |true=>exact ite_tt (chain_last (thn (hc pins s3 σ H3 _ I3 q3) λ w' s4 ⟨z',H4,I4,r4,q4⟩=>ho' pins s4 σ H4 y z' u w' Q I4 r2 r4 q4))
theorem K1{op op':CmpOp}{r r':R2}(ho:OpR X (compareOp op) r)(ho':OpR X (compareOp op') r')(ha:PE X a ta)(hb:PE X b tb)(hc:PE X c tc)
  (hm:lastMarks [op,op'] [b,c]=false:=by with_unfolding_all rfl):PT X (.Compare a [op,op'] [b,c] pos) (Rl (O2 r r' ta tb tc)):=by
 intro pins s σ H Q I h;refine isTrue_chain (thn (ha pins s σ H _ I h) λ v s1 ⟨x,H1,I1,r1,q1⟩=>test_link (thn (hb pins s1 σ H1 _ I1 q1) λ u s2 ⟨y,H2,I2,r2,q2⟩ =>
  thn (ho pins s2 σ H2 x y v u _ I2 r1 r2 q2) λ d s3 ⟨z,H3,I3,r3,k,e,q3⟩=>?_)) hm
 subst e;cases r3;refine wpAny_truthy_bool ?_;cases k with
 |false =>
  obtain⟨k',e',q'⟩:=q3;cases e';exact ite_ff ⟨H3,I3,q'⟩
 |true =>
  refine ite_tt (test_last (thn (hc pins s3 σ H3 _ I3 q3) λ w' s4 ⟨z',H4,I4,r4,q4⟩=>thn (ho' pins s4 σ H4 y z' u w' _ I4 r2 r4 q4) λ d' s5 ⟨z2,H5,I5,r5,k2,e2,q5⟩=>?_));subst e2;cases r5;exact wpAny_truthy_bool ⟨H5,I5,q5⟩
def SX(K:Frag)(x:V)(H:Hp)(k:Bool):Prop :=
 match x with
 |.non=>k=false
 |.bl b=>k=b
 |.int i=>k=(i != 0)
 |.str y=>y.length<=sizeLine/\k=((y.length:Int) != 0)
 |.byt y=>y.size<=sizeLine/\k=((y.size:Int) != 0)
 |.ref p=>(∃xs,SqL K H p xs/\k=!xs.isEmpty)\/(∃xs,SqT K H p xs/\k=!xs.isEmpty)\/∃kvs,H p=some (.dK kvs)/\k=!kvs.isEmpty
 |_=>False
theorem Mm{κ:Type}{kvs:List (κ×V)}{vs:List (κ×Value)}(r:KV kvs vs):(!vs.isEmpty)=!kvs.isEmpty:=by
 cases r<;>rfl
theorem GW{xs:LUz}{its:LWz}(r:Vals xs its):(!its.toArray.isEmpty)=!xs.isEmpty:=by
 cases r<;>simp
theorem JU:(sizeLine:Nat)<2^63:=by rw[sizeLine_eq];decide
theorem R6:TW X (λ x H Q=>∃k,SX X.K x H k/\Q k H):=by
 intro pins s σ H x v Q I rx h;obtain⟨k,e,q⟩:=h;have hl:=JU;have hs:sizeLine=16777216:=sizeLine_eq;cases x with
 |non =>
  cases rx;have e':k=false:=e;subst e';exact truthy_none ⟨H,I,q⟩
 |bl b =>
  cases rx;have e':k=b:=e;subst e';exact wpAny_truthy_bool ⟨H,I,q⟩
 |int i =>
  obtain⟨t,rfl⟩:=rx;have e':k=(i != 0):=e;subst e';exact PySem.P.truthy_int ⟨H,I,q⟩
 |str y =>
  obtain⟨t,rfl⟩:=rx;obtain⟨hy,e'⟩:y.length<=sizeLine/\k=((y.length:Int) != 0):=e;subst e';exact PySem.P.truthy_str (by lia) ⟨H,I.tok _,q⟩
 |byt y =>
  obtain⟨t,rfl⟩:=rx;obtain⟨hy,e'⟩:y.size<=sizeLine/\k=((y.size:Int) != 0):=e;subst e';exact truthy_bytes (by lia) ⟨H,I.tok _,q⟩
 |ref p =>
  cases rx;have e':(∃xs,SqL X.K H p xs/\k=!xs.isEmpty)\/(∃xs,SqT X.K H p xs/\k=!xs.isEmpty)\/∃kvs,H p=some (.dK kvs)/\k=!kvs.isEmpty:=e;rcases e' with ⟨xs,hx,e'⟩|⟨xs,hx,e'⟩|⟨kvs,hx,e'⟩
  .subst e';obtain⟨its,r,pl,hz⟩:=I.list hx;have hlen:=r.length;exact wpAny_truthy_list pl.isList (by simp only[List.size_toArray];lia) ⟨H,I.tok _,by rw[GW r];exact q⟩
  .subst e';obtain⟨its,r,pl,hz⟩:=I.tuple hx;have hlen:=r.length;exact truthy_tuple pl (by simp only[List.size_toArray];lia) ⟨H,I.tok _,by rw[GW r];exact q⟩
  .subst e';obtain⟨hz,hS,vs,r,m⟩:kvs.length<=sizeLine/\(p==sysModules)=false/\∃vs,KV kvs vs/\s.heap.DictOf (AY X.prog X.w) p vs:=I.hok p _ hx;have hlen:kvs.length=vs.length:=Paired.length r;exact wpAny_truthy_dict hS m (by lia) ⟨H,I.tok _,by rw[Mm r];exact q⟩
 |_=>exact(show False from e).elim
theorem E2(ha:PE X a ta)(he:∀whole,isTrue a X.env whole=(do let v <-whole;standAt a.pos;holding [v] (truthy v))) :
    PT X a (λ σ H Q=>ta σ H λ x H'=>∃k,SX X.K x H' k/\Q k H'):=by
  intro pins s σ H Q I h;exact isTrue_plain (thn (ha pins s σ H _ I h) λ v s1 ⟨x,H1,I1,r1,q1⟩=>R6 pins s1 σ H1 x v Q I1 r1 q1) (he _)
theorem Ft{x:V}{us:LWz}(r:Vals [x] us):∃u,us=[u]/\RelV x u:=by
 cases r with
 |cons r1 r2=>cases r2;exact⟨_,rfl,r1⟩
theorem MA{x y:V}{us:LWz}(r:Vals [x,y] us):∃u w',us=[u,w']/\RelV x u/\RelV y w':=by
 cases r with
 |cons r1 r2 =>
  cases r2 with
  |cons r3 r4=>cases r4;exact⟨_,_,rfl,r1,r3⟩
theorem P4:EL X (.builtin "abs") (λ xs H Q=>∃i,xs=[.int i]/\Q (.int (if i<0 then -i else i)) H):=by
 intro pins s σ H xs us Q I r h;obtain⟨i,rfl,q⟩:=h;obtain⟨u,rfl,t,rfl⟩:=Ft r;exact call_abs_int λ u tk=>⟨.int (if i<0 then -i else i),H,I.tok _,⟨_,rfl⟩,q⟩
theorem IY:EL X (.type "int") (λ xs H Q=>(∃i,xs=[.int i]/\Q (.int i) H)\/∃k,xs=[.bl k]/\Q (.int (if k then 1 else 0)) H):=by
 intro pins s σ H xs us Q I r h;rcases h with ⟨i,rfl,q⟩|⟨k,rfl,q⟩
 .obtain⟨u,rfl,t,rfl⟩:=Ft r;exact call_int_int ⟨.int i,H,I,⟨_,rfl⟩,q⟩
 .obtain⟨u,rfl,r1⟩:=Ft r;cases r1;exact call_int_bool ⟨.int (if k then 1 else 0),H,I.tok _,⟨_,rfl⟩,q⟩
end
structure ObjM(h:Heap)(x dx C:Addr)(mA:MGz):Prop where
 obj:h.get? x=some (instObj C dx)
 ns:h.Ns1 dx mA
 ne:dx≠x
theorem NS{h:Heap}{dx:Addr}{mA:MGz}(n:h.Ns1 dx mA):∃od,h.get? dx=some od/\∀name,lookIn name od=some (mA name):=by
 obtain⟨o,es,ep,ho,hd,hk,_,hm⟩:=n;refine⟨o,ho,λ name=>?_⟩;have e:=hm name;unfold nsFind findBy at e;rw[<-Array.find?_toList]at e;unfold lookIn;rw[hd];dsimp only;split
 .rename_i y q;rw[q]at e;exact congrArg some e
 .rename_i q;rw[q]at e;have a:es.toList.any (·.refKey)=false:=by
   rw[List.any_eq_false];intro y hy;obtain⟨z,t,hkey⟩:=hk y (Array.mem_toList_iff.mp hy);simp[DictEntry.refKey,hkey]
  have a':¬es.toList.any (·.refKey)=true:=by rw[a];exact Bool.false_ne_true
  rw[if_neg a'];exact congrArg some e
theorem ObjM.look{h:Heap}{x dx C:Addr}{mA:MGz}(I:ObjM h x dx C mA):∃od,InstAt h x (instObj C dx) C (some od)/\∀name,lookIn name od=some (mA name) :=
 let ⟨od,ho,hl⟩:=NS I.ns
 ⟨od,⟨I.obj,rfl,rfl,ho⟩,hl⟩
section
variable{prog:Program}{w:World}{A:Around}{E:VPz}{s:Shared}{K:Frag}{x dx C f:Addr}{mA:MGz}{name:Str}{v:Value}
theorem QM{expr:Bool}{Q:VPz}(X:K.In s.heap)(I:ObjM s.heap x dx C mA)(hg:plainGet K C name=true)(hh:hasDictIn K C=true)
  (ha:findIn K (.ref C) name=some none) (hv:mA name=some v) (hv':handedIn v=true) (h:Q v { s with toks:=s.toks+1 }) :
  wpAny (model prog w) A (getAttr (.ref x) name expr) Q E s:=by
 obtain⟨od,J,hl⟩:=I.look;exact get_value X J (plainGet_of hg).1 (findObj_own hh ha rfl (by rw[hl,hv])) hv' h
theorem Qp{ns:LSz}{Q:Unit->Shared->Prop}(X:K.In s.heap)(I:ObjM s.heap x dx C mA)
  (hs:findIn K (.ref C) "__setattr__"=some (some (.builtin "object.__setattr__"))) (hp:plainOver K C=true) (ht:takerIn K C name=some none) (hh:hasDictIn K C=true)
  (hw:PySem.Within mA ns) (hsz:ns.length<=sizeLine)
  (h:∀h',ObjM h' x dx C (λ y=>if y=name then some v else mA y)->Heap.SameBut dx s.heap h'->Q () { s with heap:=h',toks:=s.toks+2 }) :
  wpAny (model prog w) A (setAttr (.ref x) name v) Q E s:=by
 obtain⟨od,J,hl⟩:=I.look;refine set_plain X J hs (osa_open (s:={ s with toks:=s.toks+1 }) (r:=none) X J hp ht λ b=>?_);obtain⟨cd,hc,hd'⟩:=any_some hh;have hx:s.heap.get? x=some ⟨.ref C,some dx,.plain,#[]⟩:=I.obj;refine wpAny_bind (wpAny_pure (wpAny_bind (wpAny_bind (wpAny_loadPart hx (wpAny_bind (Looks.here (s:={ s with toks:=s.toks+1 }) (looks_clsIn X hc) ?_))))));rw[hd'];refine wpAny_pure (a:=some dx) (wpAny_bind (wpAny_pure (wpAny_bind ?_)));refine wpAny_nsSet1 (s:={ s with toks:=s.toks+1 }) I.ns λ h' hn2 hs2=>?_;obtain⟨oD,esD,epD,hoD,hdD,hcD⟩:=hn2.count (PySem.Within.cons name v hw);refine wpAny_bind (wpAny_lookBehind hoD (by rw[hdD];exact pastItsLine_dict (Nat.le_trans hcD (by rw[List.length_cons];lia))) ?_);exact wpAny_pure (h _ ⟨(hs2.2 _ (Ne.symm I.ne)).trans I.obj,hn2,I.ne⟩ hs2)
theorem OR{R:Result->Shared->Prop}{vs:LWz}{kw:List (Str×Value)}(X:K.In s.heap)(hm:makesIn K C=true)
  (hi:findIn K (.ref C) "__init__"=some (some (.ref f))) (hf:typeIn K (.ref f)=some (.type "function"))
  (h:codeAny (model prog w) (A.under (.builtin "type.__call__" ⟨.ref C::vs,kw⟩)) (.call (.ref f) ⟨.ref (s.heap.objs.size+1)::vs,kw⟩) (InitBack (s.heap.objs.size+1) R)
   { s with heap:=(s.heap.push emptyDict).push (instObj C s.heap.objs.size) }) :
  codeAny (model prog w) A (.call (.ref C) ⟨vs,kw⟩) R s:=by
 obtain⟨hh,g,d,t,os⟩:=s;exact make_core (makes_of X hm) (looks_findIn X hi) (λ self=>bind_fn X self hf) (.inl rfl) h
end
def C6(f:Str)(v:V):LFz->LFz
 |[]=>[(f,v)]
 | (g,x)::r=>if g=f then (g,v)::r else (g,x)::C6 f v r
theorem AV(f g:Str)(v:V):∀fs:LFz,(C6 f v fs).lookup g=if g=f then some v else fs.lookup g
 |[]=>by
  show List.lookup g [(f,v)]=_;by_cases h:g=f
  .have hb:(g==f)=true:=beq_iff_eq.mpr h;simp only[List.lookup,hb,if_pos h]
  .have hb:(g==f)=false:=beq_eq_false_iff_ne.mpr h;simp only[List.lookup,hb,if_neg h]
 | (k,x)::r=>by
  have ih:=AV f g v r;rw[show C6 f v ((k,x)::r)=(if k=f then (k,v)::r else (k,x)::C6 f v r) from rfl];by_cases hk:k=f
  .rw[if_pos hk];by_cases h:g=k
   .have hb:(g==k)=true:=beq_iff_eq.mpr h;simp only[List.lookup,hb,if_pos (h.trans hk)]
   .have hb:(g==k)=false:=beq_eq_false_iff_ne.mpr h;simp only[List.lookup,hb,if_neg (λ e:g=f=>h (e.trans hk.symm))]
  .rw[if_neg hk];by_cases h:g=k
   .have hb:(g==k)=true:=beq_iff_eq.mpr h;simp only[List.lookup,hb,if_neg (λ e:g=f=>hk (h.symm.trans e))]
   .have hb:(g==k)=false:=beq_eq_false_iff_ne.mpr h;simp only[List.lookup,hb];exact ih
theorem Fa(f:Str)(v:V):∀fs:LFz,f∈(C6 f v fs).map (·.1)/\∀g,g∈fs.map (·.1)->g∈(C6 f v fs).map (·.1)
 |[]=>⟨by simp[C6],λ g h=>by simp at h⟩
 | (k,x)::r=>by
  obtain⟨i1,i2⟩:=Fa f v r;rw[show C6 f v ((k,x)::r)=(if k=f then (k,v)::r else (k,x)::C6 f v r) from rfl];by_cases hk:k=f
  .rw[if_pos hk];subst hk;exact⟨by simp,λ g h=>by simpa using h⟩
  .rw[if_neg hk];refine⟨?_,λ g h=>?_⟩
   .rw[List.map_cons];exact List.mem_cons_of_mem _ i1
   .rw[List.map_cons]at h |-;rcases List.mem_cons.mp h with e|e
    .exact List.mem_cons.mpr (.inl e)
    .exact List.mem_cons_of_mem _ (i2 g e)
theorem F2(f:Str)(v:V):∀fs:LFz,(C6 f v fs).length<=fs.length+1
 |[]=>by simp[C6]
 | (k,x)::r=>by
  have ih:=F2 f v r;rw[show C6 f v ((k,x)::r)=(if k=f then (k,v)::r else (k,x)::C6 f v r) from rfl];by_cases hk:k=f
  .rw[if_pos hk,List.length_cons,List.length_cons];lia
  .rw[if_neg hk,List.length_cons,List.length_cons];lia
theorem RelO.some_of{v:V}{o:Option Value}(r:RelO (some v) o):∃u,o=some u/\RelV v u:=by
 cases o with
 |none=>exact(show False from r).elim
 |some u=>exact⟨u,rfl,r⟩
theorem Oc{v:V}{u:Value}(r:RelV v u):handedIn u=true:=by
 cases v with
 |non=>cases(show u=Value.none from r);rfl
 |bl b=>cases(show u=Value.bool b from r);rfl
 |int i=>obtain⟨t,e⟩:=(show ∃t,u=Value.int i t from r);cases e;rfl
 |str x=>obtain⟨t,e⟩:=(show ∃t,u=Value.str x t from r);cases e;rfl
 |byt b=>obtain⟨t,e⟩:=(show ∃t,u=Value.bytes b t from r);cases e;rfl
 |flt b=>obtain⟨t,e⟩:=(show ∃t,u=Value.float b t from r);cases e;rfl
 |ref a=>cases(show u=Value.ref a from r);rfl
 |ty n=>cases(show u=Value.type n from r);rfl
section
variable{P:Program}{w:World}{H H':Hp}{h h':Heap}{a C dx:Addr}{fs fs':LFz}
theorem JX(hok:HOk P w H h)(e:H a=some (.ins C dx fs)):∃mA,ObjM h a dx C mA/\(∀f,RelO (fs.lookup f) (mA f))/\PySem.Within mA (fs.map (·.1))/\fs.length<=1000/\H dx=some (.own a):=by
 obtain⟨d,z,ne,ob,mA,n,r,q⟩:=(show ObjOk P w H h a (.ins C dx fs) from hok a _ e);exact⟨mA,⟨ob,n,ne⟩,r,q,z,d⟩
end
structure Cls(K:Frag)(C:Addr):Prop where
 pg:plainGet K C Str.empty=true
 hd:hasDictIn K C=true
 po:plainOver K C=true
 sa:findIn K (.ref C) "__setattr__"=some (some (.builtin "object.__setattr__"))
theorem Cls.get{K:Frag}{C:Addr}(c:Cls K C)(f:Str):plainGet K C f=true:=c.pg
def NoAttr(K:Frag)(C:Addr)(f:Str):Prop:=findIn K (.ref C) f=some none
theorem NoAttr.taker{K:Frag}{C:Addr}{f:Str}(n:NoAttr K C f):takerIn K C f=some none:=by
 unfold takerIn;rw[show findIn K (.ref C) f=some none from n];rfl
section
variable{X:Cx}{pins:PNz}{σ:St}{H:Hp}{s:Shared}{a C dx:Addr}{fs:LFz}{f:Str}{v:V}{A:Around}{E:VPz}
theorem Mo{b:Bool}{Q:VPz}(I:Inv X pins σ H s)(e:H a=some (.ins C dx fs))(c:Cls X.K C)(n:NoAttr X.K C f)(l:fs.lookup f=some v)
  (h:∀u s',Inv X pins σ H s'->RelV v u->Q u s'):wpAny (model X.prog X.w) A (getAttr (.ref a) f b) Q E s:=by
 obtain⟨mA,O,r,_,_,_⟩:=JX I.hok e;obtain⟨u,hu,ru⟩:=RelO.some_of (v:=v) (o:=mA f) (by rw[<-l];exact r f);exact QM I.kIn O (c.get f) c.hd n hu (Oc ru) (h u _ (I.tok _) ru)
theorem LL{y:V}{u:Value}{Q:Unit->Shared->Prop}(I:Inv X pins σ H s)(e:H a=some (.ins C dx fs))(c:Cls X.K C)(n:NoAttr X.K C f)(hl:fs.length<1000)(ry:RelV y u)
  (h:∀s',Inv X pins σ (upd H a (.ins C dx (C6 f y fs))) s'->Q () s'):wpAny (model X.prog X.w) A (setAttr (.ref a) f u) Q E s:=by
 obtain⟨mA,O,r,wi,_,ho⟩:=JX I.hok e;have hz:(fs.map (·.1)).length<=sizeLine:=by rw[List.length_map,sizeLine_eq];lia
 refine Qp I.kIn O c.sa c.po n.taker c.hd wi hz λ h' O' sb=>h _ ?_;have hd:∃o,h'.get? dx=some o:=let ⟨o,_,_,e',_⟩:=O'.ns;⟨o,e'⟩;refine I.write (x:=a) (e:=dx) (by rw[e];exact True.intro) (.inr ho) (λ b q hb z=>(sb.2 b hb).trans z) hd ?_;refine⟨by rw[Ah O.ne];exact ho,?_,O.ne,O'.obj,_,O'.ns,λ g=>?_,λ g hg=>?_⟩
 .have:=F2 f y fs;lia
 .show RelO ((C6 f y fs).lookup g) (if g=f then some u else mA g);rw[AV];by_cases q:g=f
  .rw[if_pos q,if_pos q];exact ry
  .rw[if_neg q,if_neg q];exact r g
 .by_cases q:g=f
  .rw[q];exact(Fa f y fs).1
  .refine(Fa f y fs).2 g (wi g λ z=>hg ?_);show(if g=f then some u else mA g)=none;rw[if_neg q];exact z
theorem Inv.made(I:Inv X pins σ H s):Inv X pins σ (upd (upd H s.heap.objs.size (.own (s.heap.objs.size+1))) (s.heap.objs.size+1) (.ins C s.heap.objs.size []))
  { s with heap:=(s.heap.push emptyDict).push (instObj C s.heap.objs.size) }:=by
 have e1:(s.heap.push emptyDict).get? s.heap.objs.size=some emptyDict:=Heap.get?_push_size s.heap rfl;have e2:((s.heap.push emptyDict).push (instObj C s.heap.objs.size)).get? (s.heap.objs.size+1)=some (instObj C s.heap.objs.size):=by
  have:=Heap.get?_push_size (s.heap.push emptyDict) (o:=instObj C s.heap.objs.size) rfl;rwa [Heap.size_push]at this
 have e3:(s.heap.push emptyDict).Ns s.heap.objs.size (λ_=>none):=⟨emptyDict,#[],_,e1,rfl,(λ e he=>absurd he (by simp)),λ_=>rfl⟩;have I1:=I.laid (a:=s.heap.objs.size) (o:=.own (s.heap.objs.size+1)) (h':=s.heap.push emptyDict) (t':=s.toks) (λ b u q=>Heap.get?_push_of_some _ q) (Nat.le_refl _) ⟨_,e1⟩;refine I1.laid (a:=s.heap.objs.size+1) (o:=.ins C s.heap.objs.size []) (t':=s.toks) (λ b u q=>Heap.get?_push_of_some _ q) (Nat.le_of_eq (Heap.size_push _ _)) ?_;have ne:s.heap.objs.size≠s.heap.objs.size+1:=Nat.ne_of_lt (Nat.lt_succ_self _);refine⟨by rw[Ah ne,upd_same],Nat.zero_le _,ne,e2,λ_=>none,(Heap.Ns1.of_empty e3).at λ o q=>Heap.get?_push_of_some _ q,λ_=>True.intro,λ y hy=>absurd rfl hy⟩
theorem QW{prog:Program}{w:World}{env:Env}{e:Expr}{f:Str}{pos:Pos}{s:Shared}{Q:VPz}(hb:attributeBase e f env (eval e env)=eval e env)
  (h:wpAny (model prog w) A (eval e env) (λ o s₁=>wpAny (model prog w) A (getAttr o f true) Q E s₁) E s):wpAny (model prog w) A (eval (.Attribute e f pos) env) Q E s :=
 Attribute_any_ h (by rw[arm_eval_Attribute,hb])
end
inductive Ti(K:Frag)(f:Str)(x:V)(H:Hp)(Q:VK):Prop
 |mk (a C dx:Addr) (fs:LFz) (v:V) (e:x=.ref a) (h:H a=some (.ins C dx fs)) (c:Cls K C) (n:NoAttr K C f) (l:fs.lookup f=some v) (q:Q v H):Ti K f x H Q
def Ty(K:Frag)(ta:TE)(f:Str):TE:=λ σ H Q=>ta σ H λ x H1=>Ti K f x H1 Q
def T3(K:Frag)(ta tv:TE)(f:Str):TS:=λ D σ H=>tv σ H λ y H1=>ta σ H1 λ x H2=>∃a C dx fs,x=.ref a/\H2 a=some (.ins C dx fs)/\Cls K C/\NoAttr K C f/\fs.length<1000 /\
 D.nx σ (upd H2 a (.ins C dx (C6 f y fs)))
section
variable{X:Cx}{o e value:Expr}{f:Str}{pos pos' tpos:Pos}{ta tv:TE}
theorem Ar(he:PE X e ta)(hb:attributeBase e f X.env (eval e X.env)=eval e X.env):PE X (.Attribute e f pos) (Ty X.K ta f):=by
 intro pins s σ H Q I h;refine QW hb (thn (he pins s σ H _ I h) λ u s1 hz_=>?_);obtain⟨x,H1,I1,rx,a,C,dx,fs,v,ex,ea,c,n,l,q⟩:=hz_;subst ex;obtain rfl:u=Value.ref a:=rx;exact Mo I1 ea c n l λ u' s2 I2 ru=>⟨v,H1,I2,ru,q⟩
theorem Ed(ha:PE X o ta)(hv:PE X value tv)(hs:swapsWith value (some (.Attribute o f pos')) pos.line X.env=pure false):PS X (.Assign [.Attribute o f pos'] value pos) (T3 X.K ta tv f):=by
 intro pins s σ H D I h;refine plainObj_wpAny_Assign_Attribute (thn (hv pins s σ H _ I h) λ u s1 hz_=>?_) hs;obtain⟨y,H1,I1,ry,q⟩:=hz_;refine thn (ha pins s1 σ H1 _ I1 q) λ ov s2 hz_=>?_;obtain⟨x,H2,I2,rx,a,C,dx,fs,ex,ea,c,n,l,q2⟩:=hz_;subst ex;obtain rfl:ov=Value.ref a:=rx;exact LL I2 ea c n l ry λ s3 I3=>⟨σ,_,I3,q2⟩
end
section
variable{X:Cx}{pins:PNz}{σ:St}{H:Hp}{s:Shared}{A:Around}{E:VPz}{Q:VPz}{c:Value}{b:Bool}
inductive Fq(K:Frag)(H:Hp):V->Value->Prop where
 |non:Fq K H .non (.type "NoneType")
 |bl (x:Bool):Fq K H (.bl x) (.type "bool")
 |int (i:Int):Fq K H (.int i) (.type "int")
 |str (x:Str):Fq K H (.str x) (.type "str")
 |flt (x:UInt64):Fq K H (.flt x) (.type "float")
 |lst {a:Addr} {xs:LUz} (e:H a=some (.lst xs)):Fq K H (.ref a) (.type "list")
 |frz {a:Addr} {o:Obj} {xs:LUz} (e:H a=some (.frz o (.lst xs))):Fq K H (.ref a) (.type "list")
 |tup {a:Addr} {xs:LUz} (e:H a=some (.tup xs)):Fq K H (.ref a) (.type "tuple")
 |dK {a:Addr} {kvs:List (Key×V)} (e:H a=some (.dK kvs)):Fq K H (.ref a) (.type "dict")
 |dT {a:Addr} {kvs:LKz} (e:H a=some (.dT kvs)):Fq K H (.ref a) (.type "dict")
 |ins {a C dx:Addr} {fs:LFz} (e:H a=some (.ins C dx fs)) (cl:Cls K C) (ha:findIn K (.ref C) "__class__"=some (some (.builtin "object.__class__")))
   (hn:specialIn K (.builtin "object.__class__") "__get__"=some (some (.builtin "getset_descriptor.__get__"))) (htk:takesIn K (.builtin "object.__class__")=some true)
   (hm:mroIn K C (.type "object")=some true):Fq K H (.ref a) (.ref C)
theorem IQ{x:V}{u t:Value}(I:Inv X pins σ H s)(rx:RelV x u)(ty:Fq X.K H x t)(e:kitOne X.K t c=some b)(h:∀tk,Q (.bool b) { s with toks:=tk }) :
  wpAny (model X.prog X.w) A (call (.builtin "isinstance") [u,c]) Q E s:=by
 cases ty with
 |non=>cases(show u=Value.none from rx);exact kia_one kitx_none I.kIn True.intro e (λ z=>nomatch z) h
 |bl y=>cases(show u=Value.bool y from rx);exact kia_one kitx_bool I.kIn True.intro e (λ z=>nomatch z) h
 |int i=>obtain⟨t,q⟩:=(show ∃t,u=Value.int i t from rx);cases q;exact kia_one kitx_int I.kIn True.intro e (λ z=>nomatch z) h
 |str y=>obtain⟨t,q⟩:=(show ∃t,u=Value.str y t from rx);cases q;exact kia_one kitx_str I.kIn True.intro e (λ z=>nomatch z) h
 |flt y=>obtain⟨t,q⟩:=(show ∃t,u=Value.float y t from rx);cases q;exact kia_one kitx_float I.kIn True.intro e (λ z=>nomatch z) h
 |@lst a xs ea =>
  cases(show u=Value.ref a from rx);obtain⟨_,_,n,_,h1⟩:=(show ObjOk X.prog X.w H s.heap a (.lst xs) from I.hok a _ ea);exact kia_one kitx_list I.kIn ⟨_,h1,rfl⟩ e (λ z=>nomatch z) h
 |@frz a ob xs ea =>
  cases(show u=Value.ref a from rx);obtain⟨_,_,_,n,_,h1⟩:=(show ObjOk X.prog X.w H s.heap a (.frz ob (.lst xs)) from I.hok a _ ea);exact kia_one kitx_list I.kIn ⟨_,h1,rfl⟩ e (λ z=>nomatch z) h
 |@tup a xs ea =>
  cases(show u=Value.ref a from rx);obtain⟨_,_,_,p⟩:=(show ObjOk X.prog X.w H s.heap a (.tup xs) from I.hok a _ ea);obtain⟨o,h1,h2,_⟩:=p;exact kia_one kitx_tuple I.kIn ⟨o,h1,h2⟩ e (λ z=>nomatch z) h
 |@dK a kvs ea =>
  cases(show u=Value.ref a from rx);obtain⟨_,_,vs,_,p⟩:=(show ObjOk X.prog X.w H s.heap a (.dK kvs) from I.hok a _ ea);obtain⟨o,es,ep,h1,h2,_⟩:=p;exact kia_one kitx_dict I.kIn ⟨o,h1,h2.1⟩ e (λ z=>nomatch z) h
 |@dT a kvs ea =>
  cases(show u=Value.ref a from rx);obtain⟨_,_,xs,_,o,es,ep,h1,h2,_⟩:=(show ObjOk X.prog X.w H s.heap a (.dT kvs) from I.hok a _ ea);exact kia_one kitx_dict I.kIn ⟨o,h1,h2.1⟩ e (λ z=>nomatch z) h
 |@ins a C dx fs ea cl ha hn htk hm =>
  cases(show u=Value.ref a from rx);obtain⟨mA,O,_⟩:=JX I.hok ea;obtain⟨od,J,_⟩:=O.look;exact kia_one (kitx_own (cl.get _) cl.hd ha hn htk hm) I.kIn J e (λ z=>nomatch z) h
end
structure Room(k:Nat)(A:Around):Prop where
 hd:A.handled=none
 dp:A.depth+3*k+5<recursionLimit
 un:A.units+16*k+200<cLine
theorem Room.mono{j k:Nat}{A:Around}(r:Room k A)(h:j<=k):Room j A:=⟨r.hd,by have:=r.dp;lia,by have:=r.un;lia⟩
theorem Room.deeper{k:Nat}{A:Around}(r:Room (k+1) A)(env:Env):Room k (A.deeper env) :=
 ⟨r.hd,by have:=r.dp;show A.depth+1+3*k+5<_;lia,by have:=r.un;show A.units+3+16*k+200<_;lia⟩
theorem Room.in1{k:Nat}{A:Around}(r:Room (k+1) A):Room k A.in1 :=
 ⟨r.hd,by have:=r.dp;show A.depth+3*k+5<_;lia,by have:=r.un;show A.units+1+16*k+200<_;lia⟩
theorem Mi{A:Around}{C:Addr}{us:LWz}{kw:List (Str×Value)}:(A.under (.builtin "type.__call__" ⟨.ref C::us,kw⟩)).depth=A.depth+1:=by
 first|rfl|simp[Around.under,Code.weight,Code.isCreation,Code.isGuard,Code.isCaller,Code.frames,Code.isFrame,guardIds]
theorem Mh{A:Around}{C:Addr}{us:LWz}{kw:List (Str×Value)}:(A.under (.builtin "type.__call__" ⟨.ref C::us,kw⟩)).units=A.units+1:=by
 first|rfl|simp[Around.under,Code.cUnits,Code.frames,Code.isFrame]
theorem Room.make{k:Nat}{A:Around}(r:Room (k+1) A)(C:Addr)(us:LWz)(kw:List (Str×Value)):Room k (A.under (.builtin "type.__call__" ⟨.ref C::us,kw⟩)) :=
 ⟨r.hd,by have:=r.dp;rw[Mi];lia,by have:=r.un;rw[Mh];lia⟩
theorem Room.depth{k:Nat}{A:Around}(r:Room k A):A.depth<recursionLimit:=by have:=r.dp;lia
theorem Room.units{k:Nat}{A:Around}(r:Room k A):A.units+64<cLine:=by have:=r.un;lia
def So:TA:=λ_ H Q=>Q [] H
def Sw(ta:TE)(tr:TA):TA:=λ σ H Q=>ta σ H λ x H1=>tr σ H1 λ xs H2=>Q (x::xs) H2
section
variable{X:Cx}{e:Expr}{es:List Expr}{te:TE}{t:TA}{pos:Pos}
theorem Ab:PA X [] So:=λ_ _ _ _ H Q I h=>Calls.spliced_nil ⟨[],H,I,.nil,h⟩
theorem Aa(ha:PE X e te)(hr:PA X es t)(hs:starEach (e::es) X.env=(false,eval e X.env)::starEach es X.env:=by rfl):PA X (e::es) (Sw te t):=by
 intro pos pins s σ H Q I h;rw[hs];show wpAny _ _ (spliced ((false,eval e X.env)::backTo pos (starEach es X.env))) _ _ s;refine Calls.spliced_cons (thn (ha pins s σ H _ I h) λ u s1 hz_=>?_);obtain⟨x,H1,I1,r1,q1⟩:=hz_;exact thn (hr pos pins s1 σ H1 _ I1 q1) λ us s2 ⟨xs,H2,I2,r2,q2⟩=>⟨x::xs,H2,I2,.cons r1 r2,q2⟩
def To(t:TA):TE:=λ σ H Q=>t σ H λ xs H1=>xs.length<=sizeLine/\∀p,H1 p=none->Q (.ref p) (upd H1 p (.tup xs))
def Tv(t:TA):TE:=λ σ H Q=>t σ H λ xs H1=>xs.length<=sizeLine/\∀p,H1 p=none->Q (.ref p) (upd H1 p (.lst xs))
theorem Av{x1}(h:PA X es t):PE X (.Tuple es x1 pos) (To t):=by
 intro pins s σ H Q I hq;refine wpAny_Tuple_spliced (thn (h pos pins s σ H _ I hq) λ us s1 ⟨xs,H1,I1,r,z,q⟩=>⟨by rw[<-r.length];exact z,?_⟩);have hf:H1 s1.heap.objs.size=none:=I1.hok.fresh (Nat.le_refl _);refine⟨.ref s1.heap.objs.size,upd H1 s1.heap.objs.size (.tup xs),I1.laid (t':=s1.toks) (λ b u e=>Heap.get?_push_of_some _ e) (Nat.le_refl _) ?_,rfl,q _ hf⟩;exact⟨z,us,r,⟨_,Heap.get?_push_size _ rfl,rfl,_,rfl⟩⟩
theorem AQ(h:PA X es t):PE X (.List es pos) (Tv t):=by
 intro pins s σ H Q I hq;refine wpAny_List_spliced (thn (h pos pins s σ H _ I hq) λ us s1 ⟨xs,H1,I1,r,z,q⟩=>⟨by rw[<-r.length];exact z,?_⟩);have hf:H1 s1.heap.objs.size=none:=I1.hok.fresh (Nat.le_refl _);refine⟨.ref s1.heap.objs.size,upd H1 s1.heap.objs.size (.lst xs),I1.laid (t':=s1.toks) (λ b u e=>Heap.get?_push_of_some _ e) (Nat.le_refl _) ?_,rfl,q _ hf⟩;exact⟨z,us,0,r,Heap.get?_push_size _ rfl⟩
end
abbrev Sp:=LUz->Hp->VK->XK->Prop
abbrev CXT:=List Env->Hp->Shared->XK->Value->Shared->Prop
structure Env0(P:Program)(w:World)(K:Frag)(mg:MGz)(base:Heap)(A:Around)(outer:List Env)(s:Shared)(H:Hp):Prop where
 frames:A.frames=some outer
 mod:Mod K mg base
 bs:∀b o,base.get? b=some o->s.heap.get? b=some o/\H b=none
 bsz:base.objs.size<=s.heap.objs.size
 funs:s.heap.FunFrames base outer
 frf:∀b∈frs outer,H b=none
 hok:HOk P w H s.heap
 bare:AllBare s.gens
def CE(outer:List Env)(P:Program)(w:World)(H:Hp)(s:Shared)(Q:VK)(u:Value)(s':Shared):Prop :=
 ∃v H',s'.os=s.os/\AllBare s'.gens/\Un (frs outer) [] H H' s.heap s'.heap/\HOk P w H' s'.heap/\RelV v u/\Q v H'
def CR(CX:CXT)(outer:List Env)(P:Program)(w:World)(H:Hp)(s:Shared)(Q:VK)(E:XK)(r:Result)(s':Shared):Prop :=
 match r with
 |.ok (.ret u)=>CE outer P w H s Q u s'
 |.ok _=>False
 |.error e=>CX outer H s E e s'
structure A5(P:Program)(w:World)(K:Frag)(mg:MGz)(base:Heap)(CX:CXT)(k:Nat)(f:Addr)(fd:FuncData)(ps:LSz)(sp:Sp):Prop where
 len:∀vs H Q E,sp vs H Q E->vs.length=ps.length
 run:∀(A:Around)(outer:List Env)(s:Shared)(H:Hp)(args:Args)(us:LWz)(vs:LUz)(Q:VK)(E:XK),Room k A->Env0 P w K mg base A outer s H->BindsTo s fd args (ps.zip us)->Vals vs us->sp vs H Q E ->
  codeAny (model P w) A (.call (.ref f) args) (CR CX outer P w H s Q E) s
theorem Env0.make{P:Program}{w:World}{K:Frag}{mg:MGz}{base:Heap}{A:Around}{outer:List Env}{s:Shared}{H:Hp}(e:Env0 P w K mg base A outer s H)(C:Addr)(us:LWz)(kw:List (Str×Value)) :
  Env0 P w K mg base (A.under (.builtin "type.__call__" ⟨.ref C::us,kw⟩)) outer s H:=⟨by first|exact e.frames|(simpa [Around.under,Code.envs,Code.isFrame,pushEnvs] using e.frames),e.mod,e.bs,e.bsz,e.funs,e.frf,e.hok,e.bare⟩
theorem Env0.in1{P:Program}{w:World}{K:Frag}{mg:MGz}{base:Heap}{A:Around}{outer:List Env}{s:Shared}{H:Hp}(e:Env0 P w K mg base A outer s H) :
  Env0 P w K mg base A.in1 outer s H:=⟨e.frames,e.mod,e.bs,e.bsz,e.funs,e.frf,e.hok,e.bare⟩
section
variable{X:Cx}{pins:PNz}{σ:St}{H:Hp}{s s':Shared}
theorem Inv.env0(I:Inv X pins σ H s):Env0 X.prog X.w X.K X.mg X.base X.A X.stack s H :=
 ⟨I.ok.frames,I.ok.mod,I.bs,Nat.le_trans I.ok.bsz I.sz,I.stack,I.stkFree,I.hok,I.bare⟩
theorem Inv.after{Q:VK}{u:Value}(I:Inv X pins σ H s)(h:CE X.stack X.prog X.w H s Q u s'):EP X pins σ Q u s':=by
 obtain⟨v,H',os,bare,un,hok,r,q⟩:=h;obtain⟨hh,g,d,t,os'⟩:=s';obtain rfl:os'=s.os:=os;exact⟨v,H',I.call (h':=hh) (g':=g) (d':=d) (t':=t) (ch:=[]) un hok bare (λ b z=>absurd z (by simp)),r,q⟩
end
def MB(sp:Sp)(dvs:LUz)(E:XK)(t:TA):TE:=λ σ H Q=>t σ H λ vs H1=>sp (vs++dvs) H1 Q E
def Rm(C:Addr)(sp:Sp)(dvs:LUz)(E:XK)(t:TA):TE:=λ σ H Q=>t σ H λ vs H1=>∀x dx,H1 x=none->H1 dx=none->dx≠x ->
 sp (.ref x::(vs++dvs)) (upd (upd H1 dx (.own x)) x (.ins C dx [])) (λ v H2=>v=.non/\Q (.ref x) H2) E
def Binds(K:Frag)(fd:FuncData)(ps:LSz)(ds:LWz):Prop :=
 ∀(s:Shared)(us:LWz),K.In s.heap->(us++ds).length=ps.length->BindsTo s fd ⟨us,[]⟩ (ps.zip (us++ds))
theorem Binds.all{K:Frag}{fd:FuncData}{ps:LSz}(h:∀us:LWz,us.length=ps.length->bindArgs fd ⟨us,[]⟩=pure (ps.zip us)):Binds K fd ps []:=λ s us _ hl=>by
 rw[List.append_nil]at hl |-;exact .of_eq (h us hl)
def Em(CX:CXT)(X:Cx)(E:XK):Prop:=∀(pins:PNz)(σ:St)(H:Hp)(s:Shared)(e:Value)(s':Shared),Inv X pins σ H s->CX X.stack H s E e s'->X.xe e s'
section
variable{X:Cx}{CX:CXT}{k:Nat}{f C:Addr}{fd:FuncData}{ps:LSz}{sp:Sp}{dvs:LUz}{ds:LWz}{E:XK}{x m:Str}{p pos apos:Pos}{e o:Expr}{es:List Expr}{ta:TE}{t:TA}
theorem RG{pins:PNz}{σ:St}{H:Hp}{s:Shared}{Q:VK}{us:LWz}{vs:LUz}(F:A5 X.prog X.w X.K X.mg X.base CX k f fd ps sp)(hr:Room k X.A)(hb:Binds X.K fd ps ds)(hd:Vals dvs ds)(hx:Em CX X E)
  (I:Inv X pins σ H s) (r:Vals vs us) (h:sp (vs++dvs) H Q E):wpAny (model X.prog X.w) X.A (call (.ref f) us) (EP X pins σ Q) X.xe s:=by
 have r2:Vals (vs++dvs) (us++ds):=r.append hd;have hl:(us++ds).length=ps.length:=by rw[<-r2.length];exact F.len _ _ _ _ h
 refine wpAny_call (codeAny_mono (F.run X.A X.stack s H ⟨us,[]⟩ (us++ds) (vs++dvs) Q E hr I.env0 (hb s us I.kIn hl) r2 h) λ r s' hq=>?_);cases r with
 |error e=>exact hx pins σ H s e s' I hq
 |ok fl =>
  cases fl with
  |ret u=>exact I.after hq
  |next=>exact False.elim hq
  |brk=>exact False.elim hq
  |cont=>exact False.elim hq
theorem MU(F:A5 X.prog X.w X.K X.mg X.base CX k f fd ps sp)(hr:Room k X.A)(hg:Gl X x)(hm:X.mg x=some (.ref f))(hk:keepIn X.K (.ref f)=true)(hb:Binds X.K fd ps ds)(hd:Vals dvs ds)(hx:Em CX X E)
  (ha:PA X (e::es) t) (hdb:(x==("__debug__":Str))=false:=by decide) (he:starEach (e::es) X.env=(false,eval e X.env)::starEach es X.env:=by rfl) (hpl:(backTo pos (starEach es X.env)).any (·.1)=false:=by rfl) :
  PE X (.Call (.Name x p) (e::es) [] pos) (MB sp dvs E t):=by
 intro pins s σ H Q I h;refine wpAny_Call_Name_kw (CT I hg hm ?_ hdb);refine callWith_K (h₀:=X.base) I.ok.mod.kin hk (thn (ha pos pins s σ H _ I h) λ us s1 ⟨vs,H1,I1,r,q⟩=>⟨I1.kIn,?_⟩) he hpl;exact RG F hr hb hd hx I1 r q
structure Mk(K:Frag)(C f:Addr):Prop where
 makes:makesIn K C=true
 init:findIn K (.ref C) "__init__"=some (some (.ref f))
 fn:isFn K (.ref f)=true
 kp:keepIn K (.ref C)=true
theorem OC{pins:PNz}{σ:St}{H:Hp}{s:Shared}{Q:VK}{us:LWz}{vs:LUz}(M:Mk X.K C f)(F:A5 X.prog X.w X.K X.mg X.base CX k f fd ps sp)(hr:Room (k+1) X.A)(hb:Binds X.K fd ps ds)(hd:Vals dvs ds)
  (hx:Em CX X E) (I:Inv X pins σ H s) (r:Vals vs us)
  (h:∀x dx,H x=none->H dx=none->dx≠x->sp (.ref x::(vs++dvs)) (upd (upd H dx (.own x)) x (.ins C dx [])) (λ v H2=>v=.non/\Q (.ref x) H2) E) :
  wpAny (model X.prog X.w) X.A (call (.ref C) us) (EP X pins σ Q) X.xe s:=by
 have hq:=h (s.heap.objs.size+1) s.heap.objs.size (I.hok.fresh (Nat.le_succ _)) (I.hok.fresh (Nat.le_refl _)) (Nat.ne_of_lt (Nat.lt_succ_self _));have I2:=Inv.made (C:=C) I;have r2:Vals (V.ref (s.heap.objs.size+1)::(vs++dvs)) (Value.ref (s.heap.objs.size+1)::(us++ds)):=.cons rfl (r.append hd);have hl:(Value.ref (s.heap.objs.size+1)::us++ds).length=ps.length:=by
  have e:=r2.length;rw[F.len _ _ _ _ hq]at e;exact e.symm
 refine wpAny_call (OR (f:=f) I.kIn M.makes M.init (beq_iff_eq.mp M.fn) (codeAny_mono (F.run _ X.stack _ _ ⟨Value.ref (s.heap.objs.size+1)::us,[]⟩ (Value.ref (s.heap.objs.size+1)::(us++ds)) _ _ E (hr.make C us [])
  (I2.env0.make C us []) (hb _ (Value.ref (s.heap.objs.size+1)::us) I2.kIn hl) r2 hq) λ r s' hq'=>?_))
 cases r with
 |error e=>exact hx pins σ _ _ e s' I2 hq'
 |ok fl =>
  cases fl with
  |ret u =>
   obtain⟨v,H',I3,rv,ev,q3⟩:=I2.after hq';subst ev;exact⟨rv,⟨V.ref (s.heap.objs.size+1),H',I3,rfl,q3⟩⟩
  |next=>exact False.elim hq'
  |brk=>exact False.elim hq'
  |cont=>exact False.elim hq'
theorem Q0(M:Mk X.K C f)(F:A5 X.prog X.w X.K X.mg X.base CX k f fd ps sp)(hr:Room (k+1) X.A)(hg:Gl X x)(hm:X.mg x=some (.ref C))(hb:Binds X.K fd ps ds)(hd:Vals dvs ds)(hx:Em CX X E)
  (ha:PA X (e::es) t) (hdb:(x==("__debug__":Str))=false:=by decide) (he:starEach (e::es) X.env=(false,eval e X.env)::starEach es X.env:=by rfl) (hpl:(backTo pos (starEach es X.env)).any (·.1)=false:=by rfl) :
  PE X (.Call (.Name x p) (e::es) [] pos) (Rm C sp dvs E t):=by
 intro pins s σ H Q I h;refine wpAny_Call_Name_kw (CT I hg hm ?_ hdb);refine callWith_K (h₀:=X.base) I.ok.mod.kin M.kp (thn (ha pos pins s σ H _ I h) λ us s1 ⟨vs,H1,I1,r,q⟩=>⟨I1.kIn,?_⟩) he hpl;exact OC M F hr hb hd hx I1 r q
end
structure Am(N P:LSz)(sc:Scope):Prop where
 kind:sc.kind=.function
 co:sc.isCoroutine=false
 gen:sc.isGenerator=false
 nd:N.Nodup
 pre:N.take P.length=P
 par:∀x∈P,sc.names.lookup x=some .local\/sc.names.lookup x=some .cell
 nofree:∀y∈sc.names,y.2≠.free
theorem fsc{N P:List Str}{sc:Scope}(a:sc.kind=.function:=by rfl)(b:sc.isCoroutine=false:=by rfl)(c:sc.isGenerator=false:=by rfl)(d:N.Nodup:=by decide +kernel)(e:N.take P.length=P:=by rfl)(f:∀x∈P,sc.names.lookup x=some .local\/sc.names.lookup x=some .cell:=by decide +kernel)(g:∀y∈sc.names,y.2≠.free:=by decide +kernel):Am N P sc:=⟨a,b,c,d,e,f,g⟩
theorem IZ{kindOf:Str->Option NameKind}{x:Str}:∀{binds:List (Str×Value)}{m:MGz},(∀v,(x,v)∉binds)->bindL kindOf binds m x=m x
 |[],_,_=>rfl
 | (n,v)::r,m,h=>by
  unfold bindL;rw[IZ λ w hw=>h w (List.mem_cons_of_mem _ hw)];split
  .have:x≠n:=by rintro rfl;exact h v List.mem_cons_self
   simp[this]
  .rfl
theorem Jc{kindOf:Str->Option NameKind}{x:Str}:∀{binds:List (Str×Value)}{m:MGz},(∀v,(x,v)∉binds)->bindC kindOf binds m x=m x
 |[],_,_=>rfl
 | (n,v)::r,m,h=>by
  unfold bindC;rw[Jc λ w hw=>h w (List.mem_cons_of_mem _ hw)];split
  .rfl
  .have:x≠n:=by rintro rfl;exact h v List.mem_cons_self
   simp[this]
theorem Ja{kindOf:Str->Option NameKind}{x:Str}{v:Value}:∀{P:LSz}{vs:LWz}{i:Nat}{m:MGz},P.Nodup->P[i]?=some x->vs[i]?=some v->kindOf x=some .local ->
  bindL kindOf (P.zip vs) m x=some v
 |[],_,_,_,_,h,_,_=>by simp at h
 |_::_,[],_,_,_,_,h,_=>by simp at h
 |p::P,w::vs,0,m,nd,h1,h2,hk=>by
  simp at h1 h2;subst h1;subst h2;show bindL kindOf ((p,w)::P.zip vs) m p=_;unfold bindL;rw[IZ λ v hv=>(List.nodup_cons.mp nd).1 (List.of_mem_zip hv).1,if_pos hk];simp
 |p::P,w::vs,i+1,m,nd,h1,h2,hk=>by
  show bindL kindOf ((p,w)::P.zip vs) m x=_;unfold bindL;exact Ja (i:=i) (List.nodup_cons.mp nd).2 (by simpa using h1) (by simpa using h2) hk
theorem Jd{kindOf:Str->Option NameKind}{x:Str}{v:Value}:∀{P:LSz}{vs:LWz}{i:Nat}{m:MGz},P.Nodup->P[i]?=some x->vs[i]?=some v->kindOf x≠some .local ->
  bindC kindOf (P.zip vs) m x=some v
 |[],_,_,_,_,h,_,_=>by simp at h
 |_::_,[],_,_,_,_,h,_=>by simp at h
 |p::P,w::vs,0,m,nd,h1,h2,hk=>by
  simp at h1 h2;subst h1;subst h2;show bindC kindOf ((p,w)::P.zip vs) m p=_;unfold bindC;rw[Jc λ v hv=>(List.nodup_cons.mp nd).1 (List.of_mem_zip hv).1,if_neg hk];simp
 |p::P,w::vs,i+1,m,nd,h1,h2,hk=>by
  show bindC kindOf ((p,w)::P.zip vs) m x=_;unfold bindC;exact Jd (i:=i) (List.nodup_cons.mp nd).2 (by simpa using h1) (by simpa using h2) hk
def BL(N:LSz)(vs:LUz):St:=vs.map some++List.replicate (N.length-vs.length) none
def B5(CX:CXT)(P:Program)(w:World)(K:Frag)(mg:MGz)(base:Heap)(N:LSz)(qual:Str)(scope:Scope)(f:Addr)(cd:Value)(A:Around)(outer:List Env)(s:Shared)(H:Hp)(E:XK):Cx where
 prog:=P
 w:=w
 K:=K
 mg:=mg
 base:=base
 A:=A.deeper (envOfC qual scope s.heap.objs.size f cd)
 N:=N
 s₀:=s
 H₀:=H
 env:=envOfC qual scope s.heap.objs.size f cd
 outer:=outer
 stack:=envOfC qual scope s.heap.objs.size f cd::outer
 ex:=[]
 calm:=true
 fn:=λ_=>true
 pn:=[]
 xe:=λ e s'=>wpAny (model P w) (A.deeper (envOfC qual scope s.heap.objs.size f cd)) (leaving (envOfC qual scope s.heap.objs.size f cd) e) (λ_ s''=>CX outer H s E e s'') (λ e' s''=>CX outer H s E e' s'') s'
theorem Lg{sc:Scope}{n:Nat}{x:Str}(h:sc.names.lookup x=some .cell):∃c,(cellsFrom n sc.names []).lookup x=some c:=by
 have q:=cellsFrom_some sc.names n [] (.inl h);exact Option.isSome_iff_exists.mp q
theorem IR{CX:CXT}{P:Program}{w:World}{K:Frag}{mg:MGz}{base:Heap}{N ps:LSz}{qual:Str}{scope:Scope}{f:Addr}{cd:Value}{A:Around}{outer:List Env}{s s1:Shared}{H:Hp}{E:XK}{us:LWz}{vs:LUz}
  (S:Am N ps scope) (hd:A.handled=none) (e0:Env0 P w K mg base A outer s H) (hl:vs.length=ps.length) (r:Vals vs us)
  (x:InCallC s s.heap.objs.size (bindL (envOfC qual scope s.heap.objs.size f cd).kindOf (ps.zip us) λ_=>none) (cellsFrom (s.heap.objs.size+1) scope.names []) (bindC (envOfC qual scope s.heap.objs.size f cd).kindOf (ps.zip us) λ_=>none) s1) :
  Inv (B5 CX P w K mg base N qual scope f cd A outer s H E) [] (BL N vs) H s1:=by
 have hpl:ps.length<=N.length:=by have:=congrArg List.length S.pre;rw[List.length_take]at this;lia
 obtain⟨h1,tk,rfl,hk⟩:=x.done;have noA:∀b:Addr,b∉(B5 CX P w K mg base N qual scope f cd A outer s H E).ex:=λ b z=>absurd (show b∈([]:List Addr) from z) (by simp);refine⟨⟨e0.mod,S.kind,rfl,rfl,Nat.le_refl _,λ y z c h1 h2=>?_,λ y hy=>?_,λ y c _ h=>?_,λ_=>hd,Around.frames_deeper e0.frames,.inr ⟨rfl,rfl⟩,λ b z=>absurd z (noA b),e0.bs,e0.bsz,λ b _ _=>noA b,λ b z=>absurd z (noA b),e0.funs,e0.frf⟩,
  rfl,e0.bare,Un.kept hk,⟨_,x.toInCall.ns,λ i y v h1 h2 h3=>?_⟩,λ y c h=>⟨_,x.cell y c h⟩,e0.hok.fresh (Nat.le_refl _),λ y c h=>?_,λ p hp=>absurd (show p∈([]:PNz) from hp) (by simp),e0.hok.kept hk,?_⟩
 .exact name_of_addr x.apart (PySem.mem_of_lookup h1) (PySem.mem_of_lookup h2)
 .have hy:scope.names.lookup y=some .cell\/scope.names.lookup y=some .free:=hy;rcases hy with hy|hy
  .exact Lg hy
  .exact absurd rfl (S.nofree _ (PySem.mem_of_lookup hy))
 .exact Nat.le_of_lt (x.above y c (PySem.mem_of_lookup h))
 .have hi:i<vs.length:=by
   unfold BL at h2;by_cases hi:i<vs.length
   .exact hi
   .rw[List.getElem?_append_right (by simpa using hi)]at h2;rw[List.getElem?_replicate]at h2;split at h2<;>cases h2
  have ha:vs[i]?=some v:=by
   unfold BL at h2;rw[List.getElem?_append_left (by simpa using hi),List.getElem?_map]at h2;cases e:vs[i]? with
   |none=>rw[e]at h2;cases h2
   |some a=>rw[e]at h2;cases h2;rfl
  obtain⟨u,hu,rv⟩:=r.get ha;have hp:ps[i]?=some y:=by
   rw[<-S.pre,List.getElem?_take_of_lt (by lia)];exact h1
  have ndP:ps.Nodup:=by rw[<-S.pre];exact S.nd.sublist (List.take_sublist _ _)
  refine⟨u,rv,?_⟩;rcases S.par y (List.mem_of_getElem? hp) with k|k
  .exact .inl ⟨k,Ja ndP hp hu k⟩
  .obtain⟨c,e⟩:=Lg (n:=s.heap.objs.size+1) k;refine .inr ⟨.inl k,c,e,?_⟩;have q:=x.cell y c e;rw[Jd ndP hp hu (by show scope.names.lookup y≠_;rw[k];decide)]at q;exact q
 .exact e0.hok.fresh (Nat.le_of_lt (x.above y c (PySem.mem_of_lookup h)))
 .unfold BL;show _=N.length;rw[List.length_append,List.length_map,List.length_replicate];lia
theorem Nk{CX:CXT}{P:Program}{w:World}{K:Frag}{mg:MGz}{base:Heap}{k:Nat}{f:Addr}{name qual:Str}{params:Arguments}{body:List Stmt}{scope:Scope}{dV kV doc pm cdv ct oc:Value}{an od:Option Addr}
  {osl:AOz} {N ps:LSz} {sp:Sp} (lk:K.lookup f=some ⟨oc,od,.func (fnOf name qual params body scope dV kV doc pm an cdv ct),osl⟩) (hcd:codeIn K cdv qual=true) (S:Am N ps scope)
  (len:∀vs H Q E,sp vs H Q E->vs.length=ps.length)
  (hbody:∀(A:Around)(outer:List Env)(s:Shared)(H:Hp)(vs:LUz)(Q:VK)(E:XK),Room k (A.deeper (envOfC qual scope s.heap.objs.size f cdv))->sp vs H Q E ->
   ∃t,PSs (B5 CX P w K mg base N qual scope f cdv A outer s H E) body t/\t { nx:=λ_ H'=>Q .non H',rt:=Q } (BL N vs) H) :
  A5 P w K mg base CX (k+1) f (fnOf name qual params body scope dV kV doc pm an cdv ct) ps sp:=by
 refine⟨len,λ A outer s H args us vs Q E hr e0 hb r hsp=>?_⟩;have hl:=len _ _ _ _ hsp;have KX:K.In s.heap:=e0.mod.kin.keeps λ b o e=>(e0.bs b o e).1;have lim:s.heap.NoLimit:=e0.mod.nolimit.keeps λ b o e=>(e0.bs b o e).1;have hkind:∀y∈ps.zip us,scope.names.lookup y.1=some .local\/(scope.names.lookup y.1=some .cell/\((cellsFrom (s.heap.objs.size+1) scope.names []).lookup y.1).isSome=true):=λ⟨n,v⟩ hy=>by
  rcases S.par n (List.of_mem_zip hy).1 with q|q
  .exact .inl q
  .exact .inr ⟨q,cellsFrom_some _ _ _ (.inl q)⟩
 refine codeAny_call_function hr.depth (KX _ _ lk) rfl S.co S.gen rfl (codeRec_of KX hcd) (hb _ _ _ _ ?_);refine wpAny_newFunctionEnv_cells S.kind hkind λ env he s1 x=>?_;subst he;refine⟨lim.keeps x.toInCall.keep,codeAny_func ?_⟩;obtain⟨t,ht,hq⟩:=hbody A outer s H vs Q E (hr.deeper _) hsp;have I:Inv (B5 CX P w K mg base N qual scope f cdv A outer s H E) [] (BL N vs) H s1:=IR S hr.hd e0 hl r x;refine wpAny_mono (ht [] s1 (BL N vs) H _ I hq) (λ fl s' hs=>?_) λ e s' hs=>hs;have fin:∀{σ':St}{H':Hp}{v:V}{u:Value},Inv (B5 CX P w K mg base N qual scope f cdv A outer s H E) [] σ' H' s'->RelV v u->Q v H'->CE outer P w H s Q u s' :=
  λ{σ' H' v u} J rv q=>⟨v,H',J.os,J.bare,J.base,J.hok,rv,q⟩
 cases fl with
 |ret u =>
  obtain⟨v,σ',H',J,rv,q⟩:=hs;exact fin J rv q
 |next =>
  obtain⟨σ',H',J,q⟩:=hs;exact fin (v:=V.non) (u:=Value.none) J rfl q
 |brk =>
  obtain⟨_,_,_,q⟩:=hs;exact False.elim q
 |cont =>
  obtain⟨_,_,_,q⟩:=hs;exact False.elim q
section
variable{X:Cx}{x:Str}{p pos:Pos}{e:Expr}{es:List Expr}{t:TA}{id T:String}{r:LUz->Hp->VK->Prop}
def tCB(r:LUz->Hp->VK->Prop)(t:TA):TE:=λ σ H Q=>t σ H λ vs H1=>r vs H1 Q
theorem A3(hc:EL X (.builtin id) r)(hg:Gl X x)(hm:X.mg x=none)(hv:bootBuiltins x=some (.builtin id))(ha:PA X (e::es) t)(hn:x≠"__name__":=by decide)(hdb:(x==("__debug__":Str))=false:=by decide)
  (he:starEach (e::es) X.env=(false,eval e X.env)::starEach es X.env:=by rfl) (hpl:(backTo pos (starEach es X.env)).any (·.1)=false:=by rfl):PE X (.Call (.Name x p) (e::es) [] pos) (tCB r t):=by
 intro pins s σ H Q I h;refine wpAny_Call_Name_kw (Dz I hg hm hv ?_ hn hdb);exact PyProof.Rows.callWith_builtin1 (thn (ha pos pins s σ H _ I h) λ us s1 ⟨vs,H1,I1,r1,q1⟩=>hc pins s1 σ H1 vs us Q I1 r1 q1) he hpl
theorem IE(hc:EL X (.type T) r)(hg:Gl X x)(hm:X.mg x=none)(hv:bootBuiltins x=some (.type T))(ha:PA X (e::es) t)(hn:x≠"__name__":=by decide)(hdb:(x==("__debug__":Str))=false:=by decide)
  (he:starEach (e::es) X.env=(false,eval e X.env)::starEach es X.env:=by rfl) (hpl:(backTo pos (starEach es X.env)).any (·.1)=false:=by rfl):PE X (.Call (.Name x p) (e::es) [] pos) (tCB r t):=by
 intro pins s σ H Q I h;refine wpAny_Call_Name_kw (Dz I hg hm hv ?_ hn hdb);exact PyProof.Rows.callWith_type1 (thn (ha pos pins s σ H _ I h) λ us s1 ⟨vs,H1,I1,r1,q1⟩=>hc pins s1 σ H1 vs us Q I1 r1 q1) he hpl
end
end L2
namespace HT
open PySem.W
open PySem PyProof.Rows
def lexLt:List Int->List Int->Bool
 |[],[]=>false
 |[],_::_=>true
 |_::_,[]=>false
 |x::xs,y::ys=>if x=y then lexLt xs ys else decide (x<y)
theorem lexLt_cons(x y:Int)(xs ys:List Int):lexLt (x::xs) (y::ys)=if x=y then lexLt xs ys else decide (x<y):=rfl
theorem lexLt_nil_nil:lexLt [] []=false:=rfl
theorem GQ(y:Int)(ys:List Int):lexLt [] (y::ys)=true:=rfl
theorem GR(x:Int)(xs:List Int):lexLt (x::xs) []=false:=rfl
theorem Pp(A:Around)(s:Shared)(a:Int)(t:Tok)(c:Int)(u:Tok):∃e,SeqAt.EqAt A s (.int a t) (.int c u) e/\(e=true↔a=c) :=
 ⟨(a==c),SeqAt.EqAt.int_int a t c u,by simp⟩
theorem OD(A:Around)(s:Shared)(a:Int)(t:Tok)(c:Int)(u:Tok)(prog:Program)(w:World)(E:VPz)(Q:VPz)(h:Q (.bool (decide (a<c))) s) :
  wpAny (model prog w) A (richCompare .Lt (.int a t) (.int c u)) Q E s :=
 (PyProof.Rows.lt_int h:wpAny (model prog w) A (compareOp .Lt (.int a t) (.int c u)) Q E s)
section
open PySem.SeqAt
open PySem.AutoSeq1 (wpAny_loadPart')
open PySem.MeetsSeq PySem.MeetsSeq2 PySem.MeetsSeq3
theorem HQ(l b:Addr)(items items2:Array Value)(n n2:Nat)(dd dd2:Option Addr)(sl sl2:AOz)(ns ms:List Int)(hi:IntsAre items.toList ns)(hj:IntsAre items2.toList ms) :
  Meets (Builtin.«tuple.__lt__» ⟨[.ref l,.ref b],[]⟩)
   (λ_ R s=>s.heap.get? l=some { cls:=.type "tuple",dict:=dd,data:=.seq items n,slots:=sl }/\s.heap.get? b=some { cls:=.type "tuple",dict:=dd2,data:=.seq items2 n2,slots:=sl2 } /\
    R (.ok (.ret (.bool (lexLt ns ms)))) s) :=
 .of_wp λ prog w A R s h=>by
  obtain⟨hp,g,d,tk,os⟩:=s;obtain⟨hl,hb,h⟩:=h;have f2:=AutoSeq1.sub_tuple_tuple;have z1:items.size=ns.length:=by rw[<-hi.length];simp
  have z2:items2.size=ms.length:=by rw[<-hj.length];simp
  wp_walk using wpAny_loadPart' hl,wpAny_loadPart' hb,wpAny_forIn_list _ (λ rest b s'=>b.1=none/\s'=⟨hp,g,d,tk,os⟩/\∃(vs ws:LWz)(ns' ms':List Int),rest=vs.zip ws /\
   IntsAre vs ns'/\IntsAre ws ms'/\ns'.length+items2.size=ms'.length+items.size/\R (.ok (.ret (.bool (lexLt ns' ms')))) ⟨hp,g,d,tk,os⟩) _
  case turn =>
   rintro⟨y,x⟩ rest b s' ⟨hb',rfl,vs,ws,ns',ms',hz,hvi,hwi,hlen,hR⟩;cases hvi with
   |nil=>rw[List.zip_nil_left]at hz;cases hz
   |cons a t hvi' =>
    cases hwi with
    |nil=>rw[List.zip_nil_right]at hz;cases hz
    |cons c u hwi' =>
     rw[List.zip_cons_cons]at hz;injection hz with hyx hrest;injection hyx with hy hx;subst hy hx;rw[lexLt_cons]at hR;simp only[List.length_cons]at hlen;obtain⟨e,he,hiff⟩:=Pp A.in1 ⟨hp,g,d,tk,os⟩ a t c u;refine wpAny_bind (he prog w _ _ ?_);cases e with
     |true =>
      rw[if_pos (hiff.mp rfl)]at hR
      wp_walk
      exact⟨rfl,rfl,_,_,_,_,hrest,hvi',hwi',by lia,hR⟩
     |false =>
      rw[if_neg (λ q=>absurd (hiff.mpr q) Bool.false_ne_true)]at hR;have hri:=OD A.in1 ⟨hp,g,d,tk,os⟩ a t c u prog w
      wp_walk using hri
      exact⟨_,rfl,by simpa using hR⟩
  case fin =>
   rintro⟨b1,b2⟩ s' ⟨hb',rfl,vs,ws,ns',ms',hz,hvi,hwi,hlen,hR⟩;simp only at hb';subst hb';have hv:lexLt ns' ms'=decide (items.size<items2.size):=by
    cases hvi with
    |nil =>
     cases hwi with
     |nil =>
      simp only[List.length_nil]at hlen;rw[lexLt_nil_nil];exact(decide_eq_false (by lia)).symm
     |cons c u hw =>
      simp only[List.length_nil,List.length_cons]at hlen;rw[GQ];exact(decide_eq_true (by lia)).symm
    |cons a t hv =>
     cases hwi with
     |nil =>
      simp only[List.length_nil,List.length_cons]at hlen;rw[GR];exact(decide_eq_false (by lia)).symm
     |cons c u hw =>
      rw[List.zip_cons_cons]at hz;cases hz
   rw[hv]at hR
   wp_walk
   exact⟨_,rfl,by simpa [Builtin.Tuple.tupleCompareSizes] using hR⟩
  case h =>
   exact⟨rfl,rfl,items.toList,items2.toList,ns,ms,rfl,hi,hj,by lia,h⟩
end
section
variable{prog:Program}{w:World}{A:Around}{E:VPz}{s:Shared}
theorem lt_tupInts{l b:Addr}{items items2:Array Value}{ns ms:List Int}{Q:VPz}(hl:IsTup s.heap l items)(hb:IsTup s.heap b items2)(hi:IntsAre items.toList ns)(hj:IntsAre items2.toList ms)
  (hu:A.units<cLine) (h:Q (.bool (lexLt ns ms)) s):wpAny (model prog w) A (compareOp .Lt (.ref l) (.ref b)) Q E s:=by
 obtain⟨⟨cls,dd,data,sl⟩,ho,hc,n,hd⟩:=id hl;obtain⟨⟨cls2,dd2,data2,sl2⟩,ho2,hc2,n2,hd2⟩:=id hb;simp only at hc hd hc2 hd2;subst hc hd hc2 hd2;exact richCompare_meets_room (op:=.Lt) ⟨_,ho,rfl⟩ ⟨_,ho2,rfl⟩ PySem.F.slot_tuple_lt PySem.F.entry_tuple_lt (PySem.F.args_tuple_lt_2 _ _) (HQ l b items items2 n n2 dd dd2 sl sl2 ns ms hi hj)
  ⟨ho,ho2,show Value.bool (lexLt ns ms)≠Value.notImplemented/\Q (.bool (lexLt ns ms)) s from ⟨(λ x=>nomatch x),h⟩⟩ hu
theorem cat_tup{t b:Addr}{vs ws:LWz}{Q:VPz}(ht:IsTup s.heap t vs.toArray)(hb:IsTup s.heap b ws.toArray)(hv:vs≠[])
  (h1:ws=[]->Q (.ref t) s) (h2:ws≠[]->Q (.ref s.heap.objs.size) { s with heap:=s.heap.push { cls:=.type "tuple",data:=.seq (vs++ws).toArray } })
  (hsz:vs.length+ws.length<=sizeLine):wpAny (model prog w) A (binaryOp .Add (.ref t) (.ref b)) Q E s:=by
 obtain⟨⟨cls,dd,data,sl⟩,ho,hc,n,hd⟩:=id ht;obtain⟨⟨cls2,dd2,data2,sl2⟩,ho2,hc2,n2,hd2⟩:=id hb;simp only at hc hd hc2 hd2;subst hc hd hc2 hd2;have e:vs.toArray++ws.toArray=(vs++ws).toArray:=by simp
 by_cases hw:ws=[]
 .exact concat_meets ⟨_,ho,rfl⟩ ⟨_,ho2,rfl⟩ noFill_tuple_add seq_tuple_add PySem.F.slot_tuple_add PySem.F.entry_tuple_add (PySem.F.args_tuple_add_2 _ _)
   (tuple_addW1 t b vs.toArray ws.toArray n n2 dd dd2 sl sl2 (by simpa using hv) (by simp[hw])) ⟨ho,ho2,h1 hw⟩
 .refine concat_meets ⟨_,ho,rfl⟩ ⟨_,ho2,rfl⟩ noFill_tuple_add seq_tuple_add PySem.F.slot_tuple_add PySem.F.entry_tuple_add (PySem.F.args_tuple_add_2 _ _)
   (tuple_addW2 t b vs.toArray ws.toArray n n2 dd dd2 sl sl2 (by simpa using hv) (by simpa using hw) (by rw[List.size_toArray,List.size_toArray];exact hsz)) ⟨ho,ho2,?_⟩
  rw[e];exact h2 hw
def sIx(n d:Nat):Option Int->Nat
 |none=>d
 |some v=>if v<0 then (v+(n:Int)).toNat else min v.toNat n
theorem sIx_nat(n d k:Nat):sIx n d (some (k:Int))=min k n:=by
 show(if (k:Int)<0 then ((k:Int)+(n:Int)).toNat else min (k:Int).toNat n)=min k n;rw[if_neg (by lia),Int.toNat_natCast]
theorem RF(n d:Nat)(hd:d<=n)(o:Option Int):sIx n d o<=n:=by
 cases o with
 |none=>exact hd
 |some v =>
  show(if v<0 then (v+(n:Int)).toNat else min v.toNat n)<=n;by_cases hv:v<0
  .rw[if_pos hv];lia
  .rw[if_neg hv];exact Nat.min_le_right _ _
theorem Nq(v:Int)(n d:Nat):(if v<0 then max (v+(n:Int)) 0 else min v (n:Int))=((sIx n d (some v):Nat):Int):=by
 show(if v<0 then max (v+(n:Int)) 0 else min v (n:Int))=(((if v<0 then (v+(n:Int)).toNat else min v.toNat n):Nat):Int);by_cases hv:v<0
 .simp only[if_pos hv];lia
 .simp only[if_neg hv];lia
theorem M0(lo hi:Option Int)(n:Nat):Builtin.Slice.sliceAdjust lo hi 1 (n:Int)=(((sIx n 0 lo:Nat):Int),((sIx n n hi:Nat):Int)):=by
 have h1:¬((1:Int)<0):=by lia
 unfold Builtin.Slice.sliceAdjust;simp only[h1,if_false];refine Prod.ext ?_ ?_
 .cases lo with
  |none=>rfl
  |some v=>exact Nq v n 0
 .cases hi with
  |none=>rfl
  |some v=>exact Nq v n n
theorem LP(i j:Nat):Builtin.Slice.slicePlaces (i:Int) (j:Int) 1=j-i:=by
 unfold Builtin.Slice.slicePlaces;have h1:(1:Int)>0:=by lia
 simp only[h1,if_true,Int.ediv_one];split<;>lia
theorem Gu{v:Value}{o:Option Int}{Q:Option Int->Shared->Prop}(p:IsPart v o)(h:Q o s):wpAny (model prog w) A (Builtin.Slice.slicePartIndex v) Q E s:=by
 cases p with
 |none=>exact slicePart_none h
 |int i t=>exact slicePart_int h
theorem C1{sl:Addr}{vl vu:Value}{lo hi:Option Int}{n:Nat}{Q:Int×Int×Nat->Shared->Prop}(hs:s.heap.IsSliceOf sl vl vu .none)(pl:IsPart vl lo)(pu:IsPart vu hi)
  (h:Q (((sIx n 0 lo:Nat):Int),1,sIx n n hi-sIx n 0 lo) s):wpAny (model prog w) A (Builtin.Slice.sliceApplied (.ref sl) (pure (n:Int))) Q E s:=by
 obtain⟨os,hos,hcs,hds⟩:=id hs;unfold Builtin.Slice.sliceApplied Builtin.Slice.sliceFields;refine wpAny_bind (wpAny_bind (wpAny_field hos hds (x:=vl) rfl (wpAny_bind (wpAny_field hos hds (x:=vu) rfl (wpAny_bind (wpAny_field hos hds (x:=.none) rfl (wpAny_pure ?_)))))));refine wpAny_bind (slicePart_none ?_);show wpAny _ _ (if ((1:Int)==0)=true then _ else _) _ _ s;rw[if_neg (by decide)];refine wpAny_bind (Gu pl (wpAny_bind (Gu pu (wpAny_bind (wpAny_pure ?_)))));show wpAny _ _ (match Builtin.Slice.sliceAdjust lo hi 1 (n:Int) with|(lo,hi)=>pure (lo,(1:Int),Builtin.Slice.slicePlaces lo hi 1)) _ _ s;rw[M0 lo hi n];show wpAny _ _ (pure (((sIx n 0 lo:Nat):Int),(1:Int),Builtin.Slice.slicePlaces ((sIx n 0 lo:Nat):Int) ((sIx n n hi:Nat):Int) 1)) _ _ s;rw[LP];exact wpAny_pure h
theorem OG(xs:Array Value)(i k:Nat):((List.range k).filterMap λ(m:Nat)=>xs[((i:Int)+(m:Int)*1).toNat]?).toArray=((xs.toList.drop i).take k).toArray:=by
 have e:(λ(m:Nat)=>xs[((i:Int)+(m:Int)*1).toNat]?)=λ m=>xs[i+m]?:=by
  funext m
  have:((i:Int)+(m:Int)*1).toNat=i+m:=by lia
  rw[this]
 rw[e];have:=pick_run xs i k;rw[List.filterMap_map]at this;have e2:((λ x=>xs[x]?)∘λ x=>i+x)=λ m=>xs[i+m]?:=rfl;rw[e2]at this;rw[this]
theorem getItem_tuple_cut{t sl:Addr}{items:Array Value}{vl vu:Value}{lo hi:Option Int}{Q:VPz}(ht:IsTup s.heap t items)(hs:s.heap.IsSliceOf sl vl vu .none)(pl:IsPart vl lo)(pu:IsPart vu hi)
  (hw:¬(sIx items.size 0 lo=0/\sIx items.size items.size hi=items.size))
  (h:Q (.ref s.heap.objs.size) { s with heap:=s.heap.push { cls:=.type "tuple",data:=.seq ((items.toList.drop (sIx items.size 0 lo)).take (sIx items.size items.size hi-sIx items.size 0 lo)).toArray } })
  (hsz:items.size<=sizeLine):wpAny (model prog w) A (getItem (.ref t) (.ref sl)) Q E s:=by
 have htake:sizeOk (.seq ((items.toList.drop (sIx items.size 0 lo)).take (sIx items.size items.size hi-sIx items.size 0 lo)).toArray):=by
  show((items.toList.drop (sIx items.size 0 lo)).take (sIx items.size items.size hi-sIx items.size 0 lo)).toArray.size<=sizeLine;rw[List.size_toArray,List.length_take,List.length_drop,Array.length_toList];lia
 have hj:sIx items.size items.size hi<=items.size:=RF _ _ (Nat.le_refl _) hi;obtain⟨os,hos,hcs,hds⟩:=id hs;have hTs:s.TypeIs (.ref sl) "slice":=⟨os,hos,hcs⟩;unfold getItem
 try with_reducible refine wpAny_holding ?_
 first|refine wpAny_bind (wpAny_pure ?_)|skip
 refine wpAny_bind (wpAny_sequenceKey ht.typeIs (by decide) ?_);refine wpAny_bind (wpAny_callSpecial?_slot (name:=Str.ofString "__getitem__") ht.typeIs PyProof.Rows.slot_tuple_getitem
  (wpAny_call_entry PyProof.Rows.slot_tuple_getitem ht.typeIs entry_tuple_getitem ?_ (args_tuple_getitem _ _)))
 show wpAny _ _ (Builtin.Tuple.tupleItemsOf (.ref t) >>= _) _ _ s;refine wpAny_bind (tupleItemsOf_ ht ?_);refine wpAny_bind (wpAny_typeOf hTs ?_);rw[if_pos (by decide)];refine wpAny_bind (C1 hs pl pu ?_);have hno:¬((((sIx items.size 0 lo:Nat):Int)==0&&(1:Int)==1&&(sIx items.size items.size hi-sIx items.size 0 lo)==items.size)=true):=by
  intro q;rw[Bool.and_eq_true,Bool.and_eq_true]at q;have q1:((sIx items.size 0 lo:Nat):Int)=0:=eq_of_beq q.1.1;have q2:sIx items.size items.size hi-sIx items.size 0 lo=items.size:=eq_of_beq q.2;exact hw ⟨by lia,by lia⟩
 show wpAny _ _ (if (((sIx items.size 0 lo:Nat):Int)==0&&(1:Int)==1&&(sIx items.size items.size hi-sIx items.size 0 lo)==items.size)=true then _ else _) _ _ s;rw[if_neg hno,OG]
 first
  |exact wpAny_bind (m:=Builtin.Tuple.tupleExact _) (wpAny_newObj_type (wpAny_pure ⟨_,rfl,wpAny_pure h⟩) htake)
  |exact wpAny_bind (m:=Builtin.Tuple.tupleExact _) (wpAny_newObj_type (wpAny_bind (wpAny_pure (wpAny_pure ⟨_,rfl,wpAny_pure h⟩))) htake)
  |exact wpAny_bind (wpAny_bind (m:=Builtin.Tuple.tupleExact _) (wpAny_newObj_type (wpAny_pure (wpAny_pure ⟨_,rfl,wpAny_pure h⟩)) htake))
  |exact wpAny_bind (wpAny_bind (m:=Builtin.Tuple.tupleExact _) (wpAny_newObj_type (wpAny_pure ⟨_,rfl,wpAny_pure h⟩) htake))
end
end HT
namespace L2
open PySem.W
open PySem PySem.Spec PyProof.Rows
abbrev TO:=St->Hp->(Option Int->Hp->Prop)->Prop
def PO(X:Cx)(e:Option Expr)(t:TO):Prop :=
 ∀(pins:PNz)(s:Shared)(σ:St)(H:Hp)(Q:Option Int->Hp->Prop),Inv X pins σ H s->t σ H Q ->
  wpAny (model X.prog X.w) X.A (evalPart e X.env) (λ u s'=>∃o H',Inv X pins σ H' s'/\IsPart u o/\Q o H') X.xe s
def Qh:TO:=λ_ H Q=>Q none H
def Sm(t:TE):TO:=λ σ H Q=>t σ H λ x H1=>∃i,x=.int i/\Q (some i) H1
theorem Ha{ns:List Int}:∀{us:LWz},Vals (ns.map V.int) us->IntsAre us ns:=by
 induction ns with
 |nil=>intro us r;rw[List.map_nil]at r;cases r;exact .nil
 |cons n ns ih =>
  intro us r;rw[List.map_cons]at r;cases r with
  |cons r1 r2 =>
   obtain⟨t,e⟩:=r1;subst e;exact .cons n t (ih r2)
section
variable{X:Cx}{e:Expr}{te:TE}{lo hi:Option Expr}{tl th:TO}{pos p2:Pos}
theorem MO:PO X none Qh:=by
 intro pins s σ H Q I h;rw[evalPart_none];exact wpAny_pure ⟨none,H,I,.none,h⟩
theorem DE(h:PE X e te):PO X (some e) (Sm te):=by
 intro pins s σ H Q I hw;rw[evalPart_some];refine thn (h pins s σ H _ I hw) λ u s1 hz_=>?_;obtain⟨x,H1,I1,r1,q1⟩:=hz_;obtain⟨i,rfl,q⟩:=q1;obtain⟨t,rfl⟩:=r1;exact⟨some i,H1,I1,.int i t,q⟩
def SlR(X:Cx)(r:V->Option Int->Option Int->Hp->VK->Prop):Prop :=
 ∀(pins:PNz)(s:Shared)(σ:St)(H:Hp)(x:V)(v vl vu:Value)(lo hi:Option Int)(sl:Addr)(Q:VK),Inv X pins σ H s->RelV x v->s.heap.IsSliceOf sl vl vu .none->IsPart vl lo->IsPart vu hi->r x lo hi H Q ->
  ∃T id,typeLookup (.type T) "__getitem__"=pure (some (.builtin id))/\s.TypeIs v T/\wpAny (model X.prog X.w) X.A (getItem v (.ref sl)) (EP X pins σ Q) X.xe s
def tSl(r:V->Option Int->Option Int->Hp->VK->Prop)(te:TE)(tl th:TO):TE:=λ σ H Q=>te σ H λ x H1=>tl σ H1 λ l H2=>th σ H2 λ u H3=>r x l u H3 Q
theorem E4{r:V->Option Int->Option Int->Hp->VK->Prop}(hr:SlR X r)(he:PE X e te)(hl:PO X lo tl)(hu:PO X hi th):PE X (.Subscript e (.Slice lo hi none p2) pos) (tSl r te tl th):=by
 intro pins s σ H Q I h;refine Subscript_ (thn (he pins s σ H _ I h) λ v s1 hz_=>?_);obtain⟨x,H1,I1,r1,q1⟩:=hz_;refine wpAny_Slice (thn (hl pins s1 σ H1 _ I1 q1) λ vl s2 hz_=>?_);obtain⟨l,H2,I2,pl,q2⟩:=hz_;refine thn (hu pins s2 σ H2 _ I2 q2) λ vu s3 hz_=>?_;obtain⟨u,H3,I3,pu,q3⟩:=hz_;rw[evalPart_none];refine wpAny_pure ?_;have I4:Inv X pins σ H3 { s3 with heap:=s3.heap.push { cls:=.type "slice",data:=.fields #[vl,vu,.none] } }:=I3.kept (t':=s3.toks) λ b ob q=>Heap.get?_push_of_some _ q;obtain⟨T,id,hT,ht,hg⟩:=hr pins { s3 with heap:=s3.heap.push { cls:=.type "slice",data:=.fields #[vl,vu,.none] } } σ H3 x v vl vu l u s3.heap.objs.size Q I4 r1 (Heap.IsSliceOf.new ..) pl pu q3;show wpAny (model X.prog X.w) X.A (subscriptTail e (.Slice lo hi none p2) v (.ref s3.heap.objs.size)) (EP X pins σ Q) X.xe { s3 with heap:=s3.heap.push { cls:=.type "slice",data:=.fields #[vl,vu,.none] } };exact tail_any (ops:=[.ref s3.heap.objs.size,v]) ht hT hg (by with_unfolding_all rfl)
def Fk(xs:LUz)(lo hi:Option Int):LUz:=(xs.drop (HT.sIx xs.length 0 lo)).take (HT.sIx xs.length xs.length hi-HT.sIx xs.length 0 lo)
theorem F7(xs:LUz)(lo hi:Option Int):(Fk xs lo hi).length<=xs.length:=by
 unfold Fk;rw[List.length_take,List.length_drop];lia
def T8(K:Frag):V->Option Int->Option Int->Hp->VK->Prop:=λ x lo hi H Q=>∃a xs,x=.ref a/\SqT K H a xs /\
 ¬(HT.sIx xs.length 0 lo=0/\HT.sIx xs.length xs.length hi=xs.length)/\∀p,H p=none->Q (.ref p) (upd H p (.tup (Fk xs lo hi)))
theorem RE:SlR X (T8 X.K):=by
 intro pins s σ H x v vl vu lo hi sl Q I rx hs pl pu h;obtain⟨a,xs,rfl,hx,hw,q⟩:=h;cases rx;obtain⟨its,r,ht,hz⟩:=I.tuple hx;have hlen:its.toArray.size=xs.length:=by rw[List.size_toArray];exact r.length.symm
 refine⟨"tuple",_,PyProof.Rows.slot_tuple_getitem.lookup,ht.typeIs,?_⟩;refine HT.getItem_tuple_cut ht hs pl pu (by rw[hlen];exact hw) ?_ (by rw[hlen];exact hz);rw[hlen];refine⟨.ref s.heap.objs.size,_,I.laid (t':=s.toks) (o:=.tup (Fk xs lo hi)) (λ b ob q=>Heap.get?_push_of_some _ q) (Nat.le_refl _) ?_,rfl,q _ (I.hok.fresh (Nat.le_refl _))⟩;exact⟨Nat.le_trans (F7 xs lo hi) hz,_,(r.drop (HT.sIx xs.length 0 lo)).take (HT.sIx xs.length xs.length hi-HT.sIx xs.length 0 lo),IsTup.new _ _⟩
def S5(K:Frag):R2:=λ x y H Q=>∃a b xs ys,x=.ref a/\y=.ref b/\SqT K H a xs/\SqT K H b ys/\xs≠[]/\xs.length+ys.length<=sizeLine /\
 (ys=[]->Q (.ref a) H)/\(ys≠[]->∀p,H p=none->Q (.ref p) (upd H p (.tup (xs++ys))))
theorem Vals.nil_iff{xs:LUz}{us:LWz}(r:Vals xs us):us=[]↔xs=[]:=by
 cases r with
 |nil=>simp
 |cons _ _=>simp
theorem Q5:OpR X (binaryOp .Add) (S5 X.K):=by
 intro pins s σ H x y v u Q I rx ry h;obtain⟨a,b,xs,ys,rfl,rfl,ha,hb,hx,hz,q1,q2⟩:=h;cases rx;cases ry;obtain⟨its,r1,p1,_⟩:=I.tuple ha;obtain⟨its2,r2,p2,_⟩:=I.tuple hb;refine HT.cat_tup p1 p2 (λ z=>hx (r1.nil_iff.mp z)) (λ z=>⟨.ref a,H,I,rfl,q1 (r2.nil_iff.mp z)⟩) (λ z=>?_) (by rw[<-r1.length,<-r2.length];exact hz);refine⟨.ref s.heap.objs.size,_,I.laid (t':=s.toks) (o:=.tup (xs++ys)) (λ b ob q=>Heap.get?_push_of_some _ q) (Nat.le_refl _) ?_,rfl,q2 (λ w=>z (r2.nil_iff.mpr w)) _ (I.hok.fresh (Nat.le_refl _))⟩;exact⟨by rw[List.length_append];exact hz,_,r1.append r2,IsTup.new _ _⟩
end
def ixN(n:Nat)(i:Int):Option Nat:=if 0<=i then (if i<n then some i.toNat else none) else if -(n:Int)<=i then some (i+n).toNat else none
def atI{α:Type}(xs:List α)(i:Int):Option α:=(ixN xs.length i).bind λ j=>xs[j]?
theorem QI{n:Nat}{i:Int}{j:Nat}(h:ixN n i=some j):seqIndex? i n=some j/\j<n/\-(n:Int)<=i/\i<n:=by
 unfold ixN at h;by_cases h0:0<=i
 .rw[if_pos h0]at h;by_cases h1:i<n
  .rw[if_pos h1]at h;have e:i.toNat=j:=Option.some.inj h;exact⟨by rw[seqIndex_of h0 h1,e],by lia,by lia,h1⟩
  .rw[if_neg h1]at h;cases h
 .rw[if_neg h0]at h;by_cases h1:-(n:Int)<=i
  .rw[if_pos h1]at h;have e:(i+n).toNat=j:=Option.some.inj h;exact⟨by rw[seqIndex_neg (by lia) h1,e],by lia,h1,by lia⟩
  .rw[if_neg h1]at h;cases h
theorem Nu{α:Type}{xs:List α}{i:Int}{v:α}(h:atI xs i=some v):∃j,seqIndex? i xs.length=some j/\xs[j]?=some v/\j<xs.length/\-(xs.length:Int)<=i/\i<xs.length:=by
 unfold atI at h;cases e:ixN xs.length i with
 |none=>rw[e]at h;cases h
 |some j =>
  rw[e]at h;obtain⟨h1,h2,h3,h4⟩:=QI e;exact⟨j,h1,h,h2,h3,h4⟩
theorem EF{α:Type}{xs:List α}{j:Nat}{v:α}(h:xs[j]?=some v):atI xs (j:Int)=some v:=by
 have hj:j<xs.length:=(List.getElem?_eq_some_iff.mp h).1;have e:ixN xs.length (j:Int)=some j:=by
  unfold ixN;rw[if_pos (by lia),if_pos (by lia)];simp
 unfold atI;rw[e];exact h
theorem PB{α:Type}(xs:List α)(v:α):atI (xs++[v]) (-1)=some v:=by
 have hl:(xs++[v]).length=xs.length+1:=by simp
 have e:ixN (xs++[v]).length (-1)=some xs.length:=by
  unfold ixN;rw[hl,if_neg (by decide),if_pos (by lia)];congr 1;lia
 unfold atI;rw[e];show(xs++[v])[xs.length]?=some v;simp
def Rf(b:Expr):Prop:=∀o i,subscripted b false o i=operate [o,i] (getItem o i)
def IxR(X:Cx)(r:R2):Prop :=
 ∀(value slice:Expr)(pins:PNz)(s:Shared)(σ:St)(H:Hp)(x y:V)(v u:Value)(Q:VK),Inv X pins σ H s->RelV x v->RelV y u->r x y H Q ->
  subscripted slice false v u=operate [v,u] (getItem v u)->wpAny (model X.prog X.w) X.A (subscriptTail value slice v u) (EP X pins σ Q) X.xe s
def MtR(X:Cx)(id:String)(r:V->LUz->Hp->VK->Prop):Prop :=
 ∀(pins:PNz)(s:Shared)(σ:St)(H:Hp)(x:V)(xs:LUz)(v:Value)(us:LWz)(Q:VK),Inv X pins σ H s->RelV x v->Vals xs us->r x xs H Q ->
  wpAny (model X.prog X.w) X.A (call (.builtin id) (v::us)) (EP X pins σ Q) X.xe s
section
variable{X:Cx}{a b:Expr}{ta tb:TE}{pos:Pos}
theorem Aq{r:R2}(hr:IxR X r)(ha:PE X a ta)(hb:PE X b tb)(hs:Rf b):PE X (.Subscript a b pos) (tOp r ta tb):=by
 intro pins s σ H Q I h;exact Subscript_ (Sf ha hb I h λ v u s2 x y H2 I2 rx ry q=>hr a b pins s2 σ H2 x y v u Q I2 rx ry q (hs _ _))
inductive Th(K:Frag)(x y:V)(H:Hp)(Q:VK):Prop
 |mk (p:Addr) (xs:LUz) (i:Int) (v:V) (e1:x=.ref p) (e2:y=.int i) (s:SqL K H p xs) (a:atI xs i=some v) (q:Q v H):Th K x y H Q
inductive Tg(K:Frag)(x y:V)(H:Hp)(Q:VK):Prop
 |mk (p:Addr) (xs:LUz) (i:Int) (v:V) (e1:x=.ref p) (e2:y=.int i) (s:SqT K H p xs) (a:atI xs i=some v) (q:Q v H):Tg K x y H Q
def TD(K:Frag):R2:=λ x y H Q=>Th K x y H Q
def RJ(K:Frag):R2:=λ x y H Q=>Tg K x y H Q
theorem Bm:IxR X (TD X.K):=by
 intro value slice pins s σ H x y v u Q I rx ry h hs;obtain⟨p,xs,i,z,rfl,rfl,hq,he,q⟩:=h;cases rx;obtain⟨t,rfl⟩:=ry;obtain⟨its,r,pl,hz⟩:=I.list hq;obtain⟨j,h1,h2,h3,h4,h5⟩:=Nu he;obtain⟨w,ew,rw'⟩:=r.get h2;have hl:=r.length;have hn:=JU;have fin:EP X pins σ Q w s:=⟨z,H,I,rw',q⟩;by_cases h0:0<=i
 .have hj:i.toNat=j:=by
   rw[seqIndex_of h0 h5]at h1;exact Option.some.inj h1
  exact item_listR pl.isList h0 (by lia) (by rw[hj];simpa using ew) fin hs
 .have hj:(i+(its.toArray.size:Int)).toNat=j:=by
   rw[seqIndex_neg (by lia) h4]at h1;rw[List.size_toArray,<-hl];exact Option.some.inj h1
  exact subscriptTail_builtinR (x:=w) pl.isList.typeIs slot_list_getitem.lookup
   (wpAny_getItem_list_neg (Q:=λ r s'=>r=w/\EP X pins σ Q r s') pl.isList (by lia) (by rw[List.size_toArray]<;>lia) (by lia) (by rw[hj];simpa using ew) ⟨rfl,fin⟩) hs
theorem An:IxR X (RJ X.K):=by
 intro value slice pins s σ H x y v u Q I rx ry h hs;obtain⟨p,xs,i,z,rfl,rfl,hq,he,q⟩:=h;cases rx;obtain⟨t,rfl⟩:=ry;obtain⟨its,r,pl,hz⟩:=I.tuple hq;obtain⟨j,h1,h2,h3,h4,h5⟩:=Nu he;obtain⟨w,ew,rw'⟩:=r.get h2;have hl:=r.length;have hn:=JU;have fin:EP X pins σ Q w s:=⟨z,H,I,rw',q⟩;exact subscriptTail_builtinR (x:=w) pl.typeIs slot_tuple_getitem.lookup
  (getItem_tuple (j:=j) (Q:=λ r s'=>r=w/\EP X pins σ Q r s') pl (by lia) (by lia) (by rw[List.size_toArray,<-hl];exact h1) (by simpa using ew) ⟨rfl,fin⟩) hs
theorem J9(lo hi:Option Int)(n:Nat):(sliceBounds lo hi none n).1=((HT.sIx n 0 lo:Nat):Int)/\(sliceBounds lo hi none n).2.1=((HT.sIx n n hi:Nat):Int)/\(sliceBounds lo hi none n).2.2=1:=by
 refine⟨?_,?_,rfl⟩
 .cases lo with
  |none=>simp[sliceBounds,HT.sIx]
  |some i =>
   simp only[sliceBounds,HT.sIx,Option.getD_none,show(1:Int)>0 by decide,if_true];by_cases h:i<0
   .simp only[h,if_true]<;>lia
   .simp only[h,if_false]<;>lia
 .cases hi with
  |none=>simp[sliceBounds,HT.sIx]
  |some i =>
   simp only[sliceBounds,HT.sIx,Option.getD_none,show(1:Int)>0 by decide,if_true];by_cases h:i<0
   .simp only[h,if_true]<;>lia
   .simp only[h,if_false]<;>lia
theorem HS(its:LWz)(lo hi:Option Int):slicePick its.toArray lo hi none=((its.drop (HT.sIx its.length 0 lo)).take (HT.sIx its.length its.length hi-HT.sIx its.length 0 lo)).toArray:=by
 obtain⟨h1,h2,h3⟩:=J9 lo hi its.toArray.size;unfold slicePick;rw[h1,h2,h3];simp only[sliceRange_one,pick_run,List.size_toArray]<;>rfl
def T9(K:Frag):V->Option Int->Option Int->Hp->VK->Prop:=λ x lo hi H Q=>∃a xs,x=.ref a/\SqL K H a xs/\∀p,H p=none->Q (.ref p) (upd H p (.lst (Fk xs lo hi)))
theorem MJ:SlR X (T9 X.K):=by
 intro pins s σ H x v vl vu lo hi sl Q I rx hs pl pu h;obtain⟨a,xs,rfl,hx,q⟩:=h;cases rx;obtain⟨its,r,ht,hz⟩:=I.list hx;have hlen:=r.length;refine⟨"list",_,slot_list_getitem.lookup,ht.isList.typeIs,?_⟩;refine wpAny_getItem_list_slice ht.isList hs pl pu .none (by simp) ?_ (by rw[List.size_toArray]<;>lia);rw[HS,<-hlen];refine⟨.ref s.heap.objs.size,_,I.laid (t':=s.toks) (o:=.lst (Fk xs lo hi)) (λ b ob q=>Heap.get?_push_of_some _ q) (Nat.le_refl _) ?_,rfl,q _ (I.hok.fresh (Nat.le_refl _))⟩;exact⟨Nat.le_trans (F7 xs lo hi) hz,_,0,(r.drop (HT.sIx xs.length 0 lo)).take (HT.sIx xs.length xs.length hi-HT.sIx xs.length 0 lo),Heap.get?_push_size _ rfl⟩
def B9:V->Bool
 |.non=>true
 |.bl _=>true
 |.int _=>true
 |.str _=>true
 |_=>false
def eqV:V->V->Bool
 |.non,.non=>true
 |.bl a,.bl b=>a==b
 |.bl a,.int b=>(if a then 1 else 0)==b
 |.int a,.bl b=>a==(if b then 1 else 0)
 |.int a,.int b=>a==b
 |.str a,.str b=>a==b
 |_,_=>false
theorem Mr{A:Around}{s:Shared}{y x:V}{u v:Value}(ry:RelV y u)(rx:RelV x v)(fy:B9 y=true)(fx:B9 x=true):SeqAt.EqAt A s u v (eqV y x):=by
 cases y with
 |non =>
  cases ry;cases x with
  |non=>cases rx;exact SeqAt.EqAt.same _
  |bl b=>cases rx;exact SeqAt.EqAt.none_bool b
  |int b=>obtain⟨t,rfl⟩:=rx;exact SeqAt.EqAt.none_int b t
  |str b=>obtain⟨t,rfl⟩:=rx;exact SeqAt.EqAt.none_str b t
  |_=>exact absurd (show false=true from fx) Bool.false_ne_true
 |bl a =>
  cases ry;cases x with
  |non=>cases rx;exact SeqAt.EqAt.bool_none a
  |bl b=>cases rx;exact SeqAt.EqAt.bool_bool a b
  |int b=>obtain⟨t,rfl⟩:=rx;exact SeqAt.EqAt.bool_int a b t
  |str b=>obtain⟨t,rfl⟩:=rx;exact SeqAt.EqAt.bool_str a b t
  |_=>exact absurd (show false=true from fx) Bool.false_ne_true
 |int a =>
  obtain⟨t',rfl⟩:=ry;cases x with
  |non=>cases rx;exact SeqAt.EqAt.int_none a t'
  |bl b=>cases rx;exact SeqAt.EqAt.int_bool a t' b
  |int b=>obtain⟨t,rfl⟩:=rx;exact SeqAt.EqAt.int_int a t' b t
  |str b=>obtain⟨t,rfl⟩:=rx;exact SeqAt.EqAt.int_str a t' b t
  |_=>exact absurd (show false=true from fx) Bool.false_ne_true
 |str a =>
  obtain⟨t',rfl⟩:=ry;cases x with
  |non=>cases rx;exact SeqAt.EqAt.str_none a t'
  |bl b=>cases rx;exact SeqAt.EqAt.str_bool a t' b
  |int b=>obtain⟨t,rfl⟩:=rx;exact SeqAt.EqAt.str_int a t' b t
  |str b=>obtain⟨t,rfl⟩:=rx;exact SeqAt.EqAt.str_str a t' b t
  |_=>exact absurd (show false=true from fx) Bool.false_ne_true
 |_=>exact absurd (show false=true from fy) Bool.false_ne_true
def eqU(x:V)(u:Value):Bool:=match u with
 |.none=>eqV .non x
 |.bool b=>eqV (.bl b) x
 |.int i _=>eqV (.int i) x
 |.str z _=>eqV (.str z) x
 |_=>false
theorem Po{x y:V}{u:Value}(r:RelV y u)(f:B9 y=true):eqU x u=eqV y x:=by
 cases y with
 |non=>cases r;rfl
 |bl b=>cases r;rfl
 |int i=>obtain⟨t,rfl⟩:=r;rfl
 |str z=>obtain⟨t,rfl⟩:=r;rfl
 |_=>exact absurd (show false=true from f) Bool.false_ne_true
theorem EH{x:V}:∀{xs:LUz}{us:LWz},Vals xs us->xs.all B9=true->us.any (eqU x)=xs.any λ y=>eqV y x
 |_,_,.nil,_=>rfl
 |y::xs,u::us,.cons r t,f=>by
  rw[List.all_cons,Bool.and_eq_true]at f;rw[List.any_cons,List.any_cons,Po r f.1,EH t f.2]
theorem Dw{A:Around}{s:Shared}{x:V}{v:Value}(rx:RelV x v)(fx:B9 x=true):∀{xs:LUz}{us:LWz},Vals xs us->xs.all B9=true->∀u∈us,SeqAt.EqAt A s u v (eqU x u)
 |_,_,.nil,_=>λ u hu=>by cases hu
 |y::xs,u::us,.cons r t,f=>λ u' hu=>by
  rw[List.all_cons,Bool.and_eq_true]at f;rcases List.mem_cons.mp hu with rfl|hu
  .rw[Po r f.1];exact Mr r rx f.1 fx
  .exact Dw rx fx t f.2 u' hu
def inV(x:V)(xs:LUz):Bool:=xs.any λ y=>eqV y x
def rIn(K:Frag)(neg:Bool):R2:=λ x y H Q=>∃p xs,y=.ref p/\(SqL K H p xs\/SqT K H p xs)/\B9 x=true/\xs.all B9=true/\Q (.bl (if neg then !inV x xs else inV x xs)) H
theorem IF:OpR X (compareOp .In) (rIn X.K false):=by
 intro pins s σ H x y v u Q I rx ry h;obtain⟨p,xs,rfl,hq,fx,fs,q⟩:=h;cases ry;rcases hq with hq|hq
 .obtain⟨its,r,pl,hz⟩:=I.list hq;refine SeqAt.in_listAt (eqU x) pl.isList (λ w hw=>Dw rx fx r fs w (by simpa using hw)) ⟨.bl _,H,I,rfl,?_⟩;rw[show its.toArray.any (eqU x)=its.any (eqU x) by simp,EH r fs];exact q
 .obtain⟨its,r,pl,hz⟩:=I.tuple hq;refine SeqAt.in_tupleAt (eqU x) pl (λ w hw=>Dw rx fx r fs w (by simpa using hw)) ⟨.bl _,H,I,rfl,?_⟩;rw[show its.toArray.any (eqU x)=its.any (eqU x) by simp,EH r fs];exact q
theorem JE:OpR X (compareOp .NotIn) (rIn X.K true):=by
 intro pins s σ H x y v u Q I rx ry h;obtain⟨p,xs,rfl,hq,fx,fs,q⟩:=h;cases ry;rcases hq with hq|hq
 .obtain⟨its,r,pl,hz⟩:=I.list hq;refine SeqAt.notIn_listAt (eqU x) pl.isList (λ w hw=>Dw rx fx r fs w (by simpa using hw)) ⟨.bl _,H,I,rfl,?_⟩;rw[show its.toArray.any (eqU x)=its.any (eqU x) by simp,EH r fs];exact q
 .obtain⟨its,r,pl,hz⟩:=I.tuple hq;refine SeqAt.notIn_tupleAt (eqU x) pl (λ w hw=>Dw rx fx r fs w (by simpa using hw)) ⟨.bl _,H,I,rfl,?_⟩;rw[show its.toArray.any (eqU x)=its.any (eqU x) by simp,EH r fs];exact q
theorem Bi:EL X (.builtin "len") (λ xs H Q=>∃p ys,xs=[.ref p]/\(SqL X.K H p ys\/SqT X.K H p ys)/\Q (.int ys.length) H):=by
 intro pins s σ H xs us Q I r h;obtain⟨p,ys,rfl,hq,q⟩:=h;obtain⟨u,rfl,rx⟩:=Ft r;cases rx;have hn:=JU;rcases hq with hq|hq
 .obtain⟨its,r',pl,hz⟩:=I.list hq;have hlen:=r'.length;exact Calls.call_len_list pl.isList (by simp only[List.size_toArray]<;>lia) ⟨.int ys.length,H,I.tok _,⟨s.toks+1,by rw[List.size_toArray,hlen]⟩,q⟩
 .obtain⟨its,r',pl,hz⟩:=I.tuple hq;have hlen:=r'.length;exact len_tuple pl (by simp only[List.size_toArray]<;>lia) ⟨.int ys.length,H,I.tok _,⟨s.toks+1,by rw[List.size_toArray,hlen]⟩,q⟩
def tyV(K:Frag)(T:String)(x:V)(H:Hp):Prop:=match x with
 |.str _=>T="str"
 |.int _=>T="int"
 |.ref p=>(T="list"/\∃xs,SqL K H p xs)\/(T="tuple"/\∃o,K.lookup p=some o/\o.cls=.type "tuple"/\o.dict=none) \/
   (T="dict"/\((∃kvs,H p=some (.dK kvs))\/∃kvs,H p=some (.dT kvs)))\/(T="set"/\∃S n,H p=some (.set S n))
 |_=>False
theorem Oy{pins:PNz}{σ:St}{H:Hp}{s:Shared}{T:String}{x:V}{v:Value}(I:Inv X pins σ H s)(r:RelV x v)(ty:tyV X.K T x H) :
  s.TypeIs v T/\∀a,v=.ref a->∃ob,s.heap.get? a=some ob/\ob.dict=none:=by
 cases x with
 |str z =>
  obtain⟨t,rfl⟩:=r;cases(show T="str" from ty);exact⟨typeIs_str s z t,λ_ e=>nomatch e⟩
 |int i =>
  obtain⟨t,rfl⟩:=r;cases(show T="int" from ty);exact⟨typeIs_int s i t,λ_ e=>nomatch e⟩
 |ref p =>
  cases r;rcases ty with ⟨rfl,xs,hq⟩|⟨rfl,o,hk,hc,hd⟩|⟨rfl,hk⟩|⟨rfl,S,n,hk⟩
  .obtain⟨its,_,pl,_⟩:=I.list hq;refine⟨pl.isList.typeIs,λ a e=>?_⟩;cases e;obtain⟨o,n,e,c,hd,_⟩:=pl;exact⟨o,e,hd⟩
  .refine⟨⟨o,I.kIn p o hk,hc⟩,λ a e=>?_⟩;cases e;exact⟨o,I.kIn _ o hk,hd⟩
  .have z:∃o,s.heap.get? p=some o/\o.ExactDict:=by
    rcases hk with ⟨kvs,hk⟩|⟨kvs,hk⟩
    .obtain⟨_,_,_,_,o,_,_,e,ex,_⟩:=I.hok p _ hk;exact⟨o,e,ex⟩
    .obtain⟨_,_,_,_,o,_,_,e,ex,_⟩:=I.hok p _ hk;exact⟨o,e,ex⟩
   obtain⟨o,e,ex⟩:=z;refine⟨⟨o,e,ex.1⟩,λ a e2=>?_⟩;cases e2;exact⟨o,e,ex.2.1⟩
  .obtain⟨o,_,_,_,e,ex,_⟩:=I.hok p _ hk;refine⟨⟨o,e,ex.1⟩,λ a e2=>?_⟩;cases e2;exact⟨o,e,ex.2.1⟩
 |_=>exact False.elim ty
def Tz(K:Frag)(T:String)(r:V->LUz->Hp->VK->Prop)(to:TE):TE:=λ σ H Q=>to σ H λ x H1=>tyV K T x H1/\r x [] H1 Q
def tBM(K:Frag)(T:String)(r:V->LUz->Hp->VK->Prop)(to:TE)(t:TA):TE:=λ σ H Q=>to σ H λ x H1=>tyV K T x H1/\t σ H1 λ xs H2=>r x xs H2 Q
variable{o e:Expr}{es:List Expr}{to:TE}{t:TA}{name:Str}{apos cpos:Pos}{T id:String}{r:V->LUz->Hp->VK->Prop}
theorem Ef(pa:PlainAttrs T)(slot:Slot T name id)(hty:typeOf (.builtin id)=pure (.type "method_descriptor"))(hm:MtR X id r)(ho:PE X o to)
  (hbase:attributeBase o name X.env (eval o X.env)=eval o X.env:=by rfl) (hline:(apos.endLine==cpos.line)=true:=by rfl):PE X (.Call (.Attribute o name apos) [] [] cpos) (Tz X.K T r to):=by
 intro pins s σ H Q I h;refine wpAny_Call_method0_late hbase hline (thn (ho pins s σ H _ I h) λ v s1 hz_=>?_);obtain⟨x,H1,I1,r1,ty,q1⟩:=hz_;obtain⟨h1,h2⟩:=Oy I1 r1 ty;exact⟨T,id,pa,slot,hty,h1,h2,Calls.callWith_builtin rfl (PySem.evalArgs_none (hm pins s1 σ H1 x [] v [] Q I1 r1 .nil q1))⟩
theorem Ca(pa:PlainAttrs T)(slot:Slot T name id)(hty:typeOf (.builtin id)=pure (.type "method_descriptor"))(hm:MtR X id r)(ho:PE X o to)(ha:PA X (e::es) t)
  (hbase:attributeBase o name X.env (eval o X.env)=eval o X.env:=by rfl)
  (hfew:((backTo cpos (starEach (e::es) X.env)).all (λ x=>!x.1)&&(backToKw cpos (keywordEach [] X.env)).all (λ x=>x.1.isSome)
  &&decide ((e::es).length+([]:List Keyword).length+(if ([]:List Keyword).isEmpty then 0 else 1)<30))=true:=by rfl)
  (hline:(apos.endLine==cpos.line)=true:=by rfl) (hs:starEach (e::es) X.env=(false,eval e X.env)::starEach es X.env:=by rfl) (hplain:(backTo cpos (starEach es X.env)).any (·.1)=false:=by rfl) :
  PE X (.Call (.Attribute o name apos) (e::es) [] cpos) (tBM X.K T r to t):=by
 intro pins s σ H Q I h;refine wpAny_Call_method_late hbase hfew hline rfl (thn (ho pins s σ H _ I h) λ v s1 hz_=>?_);obtain⟨x,H1,I1,r1,ty,q1⟩:=hz_;obtain⟨h1,h2⟩:=Oy I1 r1 ty;refine⟨T,id,pa,slot,hty,h1,h2,?_⟩;have hA:=ha cpos pins s1 σ H1 _ I1 q1;rw[hs]at hA |-;refine Calls.callWith_builtin (by show(false||(backTo cpos (starEach es X.env)).any (·.1))=false;rw[hplain]<;>rfl) (Calls.evalArgs_plain ?_);exact thn hA λ us s2 ⟨vs,H2,I2,r2,q2⟩=>hm pins s2 σ H2 x vs v us Q I2 r1 r2 q2
/- xs.append(e),list.index on a module's tuple .. are MtR facts of 06m -/
end
def MtM(X:Cx)(id:String)(r:V->LUz->Hp->VK->Prop):Prop :=
 ∀(pins:PNz)(s:Shared)(σ:St)(H:Hp)(x:V)(xs:LUz)(v:Value)(us:LWz)(Q:VK),Inv X pins σ H s->RelV x v->Vals xs us->r x xs H Q ->
  wpAny (model X.prog X.w) X.A (call (.builtin id) (v::us)) (EP X pins σ Q) X.xe s
theorem Vals.one:∀{x:V}{us:LWz},Vals [x] us->∃u,us=[u]/\RelV x u
 |_,_,.cons r .nil=>⟨_,rfl,r⟩
theorem Vals.zero:∀{us:LWz},Vals [] us->us=[]
 |_,.nil=>rfl
theorem Vals.dropLast{xs:LUz}{us:LWz}(h:Vals xs us):Vals xs.dropLast us.dropLast:=by
 induction h with
 |nil=>exact .nil
 |cons r t ih =>
  cases t with
  |nil=>exact .nil
  |cons q t'=>exact .cons r ih
theorem Vals.reverse{xs:LUz}{us:LWz}(h:Vals xs us):Vals xs.reverse us.reverse:=by
 induction h with
 |nil=>exact .nil
 |cons r t ih=>rw[List.reverse_cons,List.reverse_cons];exact Vals.append ih (.cons r .nil)
theorem Mq{α:Type}(l:List α):l.eraseIdx (l.length-1)=l.dropLast:=by
 induction l with
 |nil=>rfl
 |cons a r ih =>
  cases r with
  |nil=>rfl
  |cons b r =>
   have e:(a::b::r).length-1=((b::r).length-1)+1:=by
    have h1:(a::b::r).length=r.length+2:=rfl;have h2:(b::r).length=r.length+1:=rfl;lia
   rw[e,List.eraseIdx_cons_succ,ih]
   all_goals rfl
section
variable{X:Cx}{pins:PNz}{σ:St}{H:Hp}{s:Shared}{l b:Addr}{xs ys zs:LUz}
theorem Inv.lset{its its':LWz}{n:Nat}{f:Array Value->Array Value}{t':Nat}(I:Inv X pins σ H s)(hH:H l=some (.lst xs))
  (e:s.heap.get? l=some { cls:=.type "list",data:=.seq its.toArray n }) (hf:f its.toArray=its'.toArray) (hv:Vals ys its') (hz:ys.length<=sizeLine) :
  Inv X pins σ (upd H l (.lst ys)) { s with heap:=s.heap.update l (Obj.mapSeq f),toks:=t' }:=by
 have q:=PySem.IsL.update e f;rw[hf]at q;refine I.write (x:=l) (e:=l) (by rw[hH];exact trivial) (.inl rfl) (λ b' u hb hu=>(Heap.get?_update_other s.heap (Obj.mapSeq f) (Ne.symm hb)).trans hu) ⟨_,q⟩ ?_;exact⟨hz,its',_,hv,q⟩
theorem Inv.lnew{its:LWz}{t':Nat}(I:Inv X pins σ H s)(hv:Vals ys its)(hz:ys.length<=sizeLine) :
  Inv X pins σ (upd H s.heap.objs.size (.lst ys)) { s with heap:=s.heap.push { cls:=.type "list",data:=.seq its.toArray },toks:=t' } :=
 I.laid (λ_ _ q=>Heap.get?_push_of_some _ q) (Nat.le_refl _) ⟨hz,its,0,hv,Heap.get?_push_size _ rfl⟩
theorem Inv.fresh(I:Inv X pins σ H s):H s.heap.objs.size=none:=I.hok.fresh (Nat.le_refl _)
theorem Inv.lstM(I:Inv X pins σ H s)(hH:H l=some (.lst xs)):xs.length<=sizeLine/\∃(its:LWz)(n:Nat),Vals xs its/\xs.length=its.length/\s.heap.get? l=some { cls:=.type "list",data:=.seq its.toArray n }:=by
 obtain⟨z,its,n,r,e⟩:=I.hok l _ hH;exact⟨z,its,n,r,r.length,e⟩
theorem OM{n:Nat}(h:n<=sizeLine):Builtin.List.listTooLong n=false:=by
 unfold Builtin.List.listTooLong;exact decide_eq_false (by lia)
end
section
variable{X:Cx}
def Qv:V->LUz->Hp->VK->Prop:=λ x vs H Q=>∃l xs y,x=.ref l/\vs=[y]/\H l=some (.lst xs)/\xs.length<sizeLine/\Q .non (upd H l (.lst (xs++[y])))
theorem AD:MtM X "list.append" Qv:=by
 intro pins s σ H x vs v us Q I rx rv h;obtain⟨l,xs,y,rfl,rfl,hH,hz,q⟩:=h;cases rx;obtain⟨u,rfl,ru⟩:=rv.one;obtain⟨z,its,n,r,hl,e⟩:=I.lstM hH;refine call_meets F.slot_list_append ⟨_,e,rfl⟩ F.entry_list_append (F.args_list_append_2 _ _) (PySem.list_append l its.toArray n u (by rw[List.size_toArray];lia)) ⟨e,?_⟩;refine⟨.non,_,I.lset (its':=its++[u]) hH e (by simp) (r.append (.cons ru .nil)) ?_,rfl,q⟩;rw[List.length_append,List.length_singleton];lia
def Qu:V->LUz->Hp->VK->Prop:=λ x vs H Q=>∃l b xs zs,x=.ref l/\vs=[.ref b]/\H l=some (.lst xs)/\H b=some (.lst zs)/\xs.length+zs.length<=sizeLine/\Q .non (upd H l (.lst (xs++zs)))
theorem NR:MtM X "list.extend" Qu:=by
 intro pins s σ H x vs v us Q I rx rv h;obtain⟨l,b,xs,zs,rfl,rfl,hH,hB,hz,q⟩:=h;cases rx;obtain⟨u,rfl,ru⟩:=rv.one;cases ru;obtain⟨z,its,n,r,hl,e⟩:=I.lstM hH;obtain⟨z2,its2,n2,r2,hl2,e2⟩:=I.lstM hB;have hsz:its.toArray.size+its2.toArray.size<=sizeLine:=by rw[List.size_toArray,List.size_toArray];lia
 have hlong:¬(!its.toArray.isEmpty&&Builtin.List.listTooLong (its.toArray.size+its2.toArray.size))=true:=by
  rw[OM hsz,Bool.and_false];exact Bool.false_ne_true
 refine call_meets F.slot_list_extend ⟨_,e,rfl⟩ F.entry_list_extend (F.args_list_extend_2 _ _)
  (AutoSeq1.list_extend_list_list_0 l its.toArray n b its2.toArray n2 hlong (by rw[List.size_toArray];lia) (by lia)) ⟨e,e2,?_⟩
 refine⟨.non,_,I.lset (its':=its++its2) hH e (by simp) (r.append r2) ?_,rfl,q⟩;rw[List.length_append];lia
def TC:V->LUz->Hp->VK->Prop:=λ x vs H Q=>∃l xs y,x=.ref l/\vs=[]/\H l=some (.lst xs)/\xs[xs.length-1]?=some y/\Q y (upd H l (.lst xs.dropLast))
theorem Eh:MtM X "list.pop" TC:=by
 intro pins s σ H x vs v us Q I rx rv h;obtain⟨l,xs,y,rfl,rfl,hH,hy,q⟩:=h;cases rx;have hus:=rv.zero;subst hus;obtain⟨z,its,n,r,hl,e⟩:=I.lstM hH;obtain⟨u,hu,ru⟩:=r.get hy;have hy':its.toArray[its.toArray.size-1]?=some u:=by
  show its.toArray[its.length-1]?=some u;rw[<-Array.getElem?_toList,<-hl];exact hu
 refine call_meets F.slot_list_pop ⟨_,e,rfl⟩ F.entry_list_pop (F.args_list_pop_1 _) (MeetsSeq.list_pop_last l its.toArray n u hy' (by rw[List.size_toArray];lia)) ⟨e,?_⟩;refine⟨y,_,I.lset (its':=its.dropLast) hH e ?_ r.dropLast ?_,ru,q⟩
 .show its.toArray.eraseIdxIfInBounds (its.toArray.size-1)=its.dropLast.toArray;rw[List.size_toArray,List.eraseIdxIfInBounds_toArray,Mq]
 .rw[List.length_dropLast];lia
inductive Tj(x y:V)(H:Hp)(Q:VK):Prop
 |mk (l b:Addr) (xs zs:LUz) (e1:x=.ref l) (e2:y=.ref b) (h1:H l=some (.lst xs)) (h2:H b=some (.lst zs)) (n:xs.length+zs.length<=sizeLine) (q:∀p,H p=none->Q (.ref p) (upd H p (.lst (xs++zs)))):Tj x y H Q
def S6:R2:=λ x y H Q=>Tj x y H Q
theorem CQ:OpR X (binaryOp .Add) S6:=by
 intro pins s σ H x y v u Q I rx ry h;obtain⟨l,b,xs,zs,rfl,rfl,hH,hB,hz,q⟩:=h;cases rx;cases ry;obtain⟨z,its,n,r,hl,e⟩:=I.lstM hH;obtain⟨z2,its2,n2,r2,hl2,e2⟩:=I.lstM hB;refine PySem.P.add_list e e2 ?_ (by rw[List.size_toArray,List.size_toArray];lia);have ea:its.toArray++its2.toArray=(its++its2).toArray:=by simp
 rw[ea];exact⟨.ref _,_,I.lnew (t':=s.toks) (r.append r2) (by rw[List.length_append];lia),rfl,q _ I.fresh⟩
end
end L2
namespace Att
open PySem.W
open PySem PySem.Calls PyProof.Rows
theorem FP{P:Params}{h:Heap}:∀(ns:List Int)(vs:LWz),WellAll P h vs (ns.map WData.int)->IntsAre vs ns:=by
 intro ns
 induction ns with
 |nil =>
  intro vs w;rw[List.map_nil]at w;cases w;exact .nil
 |cons n ns ih =>
  intro vs w;rw[List.map_cons]at w;cases w with
  |cons a b =>
   cases a;exact .cons _ _ (ih _ b)
theorem NE{l:OpenLaw}{n:Nat}(hn:l.most=some n){P:Params}{h:Heap}{args:List WData}{vals:LWz}
  (hpre:l.row.toRowW.claim.pre args=true) (hwl:WellAll P h vals args) :
  ∃a vs ns,vals=[Value.ref a]/\args=[WData.list (ns.map WData.int)]/\h.get? a=some { cls:=.type "list",data:=.seq vs.toArray }/\IntsAre vs ns/\ns.length<=n:=by
 have hsh:WShape.hasAll [] args [.list .int]=true:=(pre_splitW hpre).1;have hc:l.pre.holds [] { args:=args }=true:=(pre_splitW hpre).2;obtain⟨d,r,rfl,h1,h2⟩:=hasAllW_cons hsh;obtain rfl:=hasAllW_nil h2;obtain⟨xs,rfl,h3⟩:=hasW_list h1;obtain⟨ns,rfl⟩:=items_int h3;have hlen:ns.length<=n:=by
  unfold OpenLaw.pre at hc;have h4:(WTm.not (.lt (.lit (.int (n:Int))) (.len (.arg 0)))).holds [] { args:=[.list (ns.map .int)] }=true:=by
   have h4:=(holds_andW hc).1;rw[hn]at h4;exact h4
  have h5:=condW_of h4 (w_not (w_lt w_lit (w_len_list (w_arg rfl))));rw[List.length_map]at h5;refine Nat.le_of_not_lt λ q=>?_;have q':(n:Int)<((ns.length:Nat):Int):=by lia
  first
   | (rw[decide_eq_true q']at h5;exact absurd h5 (by decide))
   | (simp at h5;lia)
 cases hwl with
 |cons w1 w2 =>
  cases w2;cases w1 with
  |list ho hall=>exact⟨_,_,ns,rfl,rfl,ho,FP ns _ hall,hlen⟩
theorem NJ(l:OpenLaw)(args:List WData):l.row.toRowW.claim.post args (.bool true) args=true :=
 postW_of (r:=l.row.toRowW) (X:=(true==true))
  (show WShape.has [] (.bool true) .bool=true by first|rfl|decide|simp[WShape.has,WShape.arms,WShape.armsAll])
  (show(WTm.eq .res (.lit (.bool true))).value [] { args:=args,res:=some (.bool true),after:=args }=some (.bool (true==true)) from w_eq_bool (w_res rfl) w_lit) rfl
theorem attach_call{l:OpenLaw}{n:Nat}{q:Program}{loose:LSz}{XP:(MGz)->Heap->Prop}{YP:World->Heap->Prop}{d:DefRec}
  (hn:l.most=some n) (hdf:d.params.defaults=[])
  (call:∀(w:World)(s₀ s₁:Shared)(mg mb:MGz)(fa:Addr)(o:Obj)(pm cd doc:Value)(a:Addr)(vs:LWz)(ns:List Int),
   Ground q loose [] XP w s₀ mg mb s₁.heap->YP w s₁.heap ->
   s₁.heap.get? fa=some o->o.data=.func (docDef d.name d.params d.body d.scope pm cd doc)->s₁.heap.CodeRec cd d.name->mg d.name=some (.ref fa) ->
   s₁.heap.get? a=some { cls:=.type "list",data:=.seq vs.toArray }->IntsAre vs ns->ns.length<=n->s₁.gens=#[] ->
   codeAny (model l.prog w) callerA (.call (.ref fa) ⟨[.ref a],[]⟩) (λ r s'=>r=.ok (.ret (.bool true))/\OldK s₁.heap s'.heap/\s'.os=s₁.os/\AllBare s'.gens) s₁) :
  WalkO q loose XP YP l.row.toRowW d [] (λ f vs=>PySem.call f vs):=by
 intro w s₀ s₁ mg mb G Y fa o pm cd doc dV kV ho hd hcd hD hmg hg args vals as hpre hlay hrd hwl hlo;obtain rfl:dV=.none:=Dflts.none hD hdf;obtain rfl:kV=.none:=Dflts.noKw hD;obtain⟨a,vs,ns,rfl,rfl,hobj,hints,hlen⟩:=NE hn hpre hwl;refine enter_call (codeAny_mono (call w s₀ s₁ mg mb fa o pm cd doc a vs ns G Y ho (fd_plain hd) hcd hmg hobj hints hlen hg) λ r s' hq=>?_);obtain⟨rfl,h2,h3,h4⟩:=hq;exact⟨.inl ⟨.bool true,.bool true,[],rfl,λ_=>rfl,.bool true,NJ l _,λ_=>⟨List.Pairwise.nil,λ_ hm=>(nomatch hm)⟩⟩,h2,h3,h4⟩
end Att
namespace L2
open PySem.W
open PySem PySem.Spec PyProof.Rows
theorem Iw:∀{vs:LWz}{ns:List Int},IntsAre vs ns->Vals (ns.map V.int) vs
 |_,_,.nil=>.nil
 |_,_,.cons n t h=>.cons ⟨t,rfl⟩ (Iw h)
end L2
/- THE LAST THEOREM (shape;LID,My.* are yours):
  My.Adr: a structure of the addresses that your layer names (classes,functions);My.Txt K t: a structure (Prop) of the equations over K;
  My.txt_mk:{K} {implicit addresses ..} (e1:nsIn K mainGlobals "law"=some (some (.ref f))) (e2:K.lookup f=some ⟨oc,od,.func (fnOf "law" "law" params body scope dV kV doc pm an cdv ct),sl⟩) (e3:codeIn K cdv "law"=true) ..:∃t,My.Txt K t
set_option maxRecDepth 100000 in
set_option maxHeartbeats 0 in
theorem PySem.Challenge.cw_LID_holds:PySem.Challenge.rw_LID.Holds:=by
 w_on;o_law;k_head;(case hw=>w_witness2)
 k_fill
 refine L2.walk_of (l:=PySem.Challenge.rw_LID) (n:=63) (k:=40) (x:="script") (CX:=λ w=>..) (sp:=λ_=>My.sp_law) rfl (by decide) rfl ⟨rfl,by decide,by decide⟩ (λ w h Y=>kIn_of Y) ?F ?S ?C
 case F =>
  intro w mg fa h KX G hmg;have T:∃t,My.Txt (L2.KOf KX) t:=by
   dsimp only[L2.KOf]                          -- K must stand as «<heap const> w.params» for k_is;refine' My.txt_mk ?e1 ?e2 ?e3 ..
   (case e1=>k_is)                    -- in the order: a name -> its address -> its object -> its parts
   (case e2=>k_is)
   ..
  obtain⟨t,T⟩:=T;have e0:=hmg.symm.trans (mg_of KX G T.law);cases e0                                       -- fa is the law's own address;exact⟨_,λ s u=>.of_eq rfl,λ base kb nb=>My.law_fn T kb nb⟩     -- if «.of_eq rfl» comes too early: refine'⟨_,?b,λ base kb nb=>My.law_fn T kb nb⟩;exact λ s u=>.of_eq rfl
 case S=>exact λ w H a ns hl hO hS=>..
 case C=>exact ..
(the tactic k_is has no namespace: write k_is) -/
namespace L2
open PySem.W
open PySem PySem.Spec PyProof.Rows
def Bn(s:Stmt)(j:Nat):Stmt:=match s with
 |.ClassDef _ _ _ body _ _ _ _ _ _ _=>body.getD j (.Pass ⟨0,0,0,0⟩)
 |_=>.Pass ⟨0,0,0,0⟩
def Bh(s:Stmt):Arguments:=match s with
 |.FunctionDef _ a _ _ _ _ _ _ _ _=>a
 |_=>{ posonlyargs:=[],args:=[],vararg:=none,kwonlyargs:=[],kw_defaults:=[],kwarg:=none,defaults:=[] }
def A4(s:Stmt):List Stmt:=match s with
 |.FunctionDef _ _ b _ _ _ _ _ _ _=>b
 |_=>[]
def Af(s:Stmt):Scope:=match s with
 |.FunctionDef _ _ _ _ _ _ sc _ _ _=>sc
 |_=>{ kind:=.function,names:=[],isGenerator:=false,isCoroutine:=false }
abbrev CX0:CXT:=λ_ _ _ _ _ _=>False
abbrev E0:XK:=λ_ _ _=>False
theorem MW{X:Cx}:Em CX0 X E0:=λ_ _ _ _ _ _ _ h=>h.elim
structure Fun(K:Frag)(x qual:Str)(st:Stmt)(f:Addr)(fd:FuncData):Prop where
 ex:∃(oc:Value)(od:Option Addr)(kV doc pm:Value)(an:Option Addr)(cdv ct:Value)(osl:AOz),
  fd=fnOf x qual (Bh st) (A4 st) (Af st) .none kV doc pm an cdv ct/\K.lookup f=some ⟨oc,od,.func fd,osl⟩/\codeIn K cdv qual=true
 kp:keepIn K (.ref f)=true
section
variable{P:Program}{w:World}{K:Frag}{mg:MGz}{base:Heap}
theorem Fun.ok{x qual:Str}{st:Stmt}{f:Addr}{fd:FuncData}{N ps:LSz}{k:Nat}{sp:Sp}(F:Fun K x qual st f fd)(S:Am N ps (Af st))(len:∀vs H Q E,sp vs H Q E->vs.length=ps.length)
  (hbody:∀(cdv:Value)(A:Around)(outer:List Env)(s:Shared)(H:Hp)(vs:LUz)(Q:VK)(E:XK),Room k (A.deeper (envOfC qual (Af st) s.heap.objs.size f cdv))->sp vs H Q E ->
   ∃t,PSs (B5 CX0 P w K mg base N qual (Af st) f cdv A outer s H E).nox (A4 st) t/\t { nx:=λ_ H'=>Q .non H',rt:=Q } (BL N vs) H):A5 P w K mg base CX0 (k+1) f fd ps sp:=by
 obtain⟨oc,od,kV,doc,pm,an,cdv,ct,osl,rfl,lk,hcd⟩:=F.ex;refine Nk lk hcd S len λ A outer s H vs Q E hr hsp=>?_;obtain⟨t,h,q⟩:=hbody cdv A outer s H vs Q E hr hsp;exact⟨t,h.nox,q⟩
theorem Fun.binds{x qual:Str}{st:Stmt}{f:Addr}{fd:FuncData}{ps:LSz}(F:Fun K x qual st f fd)
  (h:∀(kV doc pm:Value)(an:Option Addr)(cdv ct:Value)(us:LWz),us.length=ps.length->bindArgs (fnOf x qual (Bh st) (A4 st) (Af st) .none kV doc pm an cdv ct) ⟨us,[]⟩=pure (ps.zip us)):Binds K fd ps []:=by
 obtain⟨oc,od,kV,doc,pm,an,cdv,ct,osl,rfl,lk,hcd⟩:=F.ex;exact .all (h kV doc pm an cdv ct)
end
theorem SO{A:Around}{k:Nat}(hr:Room k A):A.units+1<cLine:=Nat.lt_of_le_of_lt (Nat.add_le_add_left (by decide:1<=64) _) hr.units
theorem A2{n:Nat}(h:n<=1000):n<sizeLine:=Nat.lt_of_le_of_lt h (by decide)
section
variable{X:Cx}
theorem pv(i:Nat){x:Str}{pos:Pos}(hN:X.N[i]?=some x:=by rfl)(hv:Vis X.env.scope x:=by first|exact Or.inl rfl|exact Or.inr (Or.inl rfl)|exact Or.inr (Or.inr rfl))(hd:(x==("__debug__":Str))=false:=by decide)
  (hcd:(x==("__classdict__":Str))=false:=by decide):PE X (.Name x pos) (R9 i):=RL hN hv hd hcd
end
theorem La{A B:Prop}(h:B):if false=true then A else B:=by
 rw[if_neg Bool.false_ne_true];exact h
theorem Sc{A B:Prop}(h:A):if true=true then A else B:=by
 rw[if_pos rfl];exact h
def Same(H H':Hp):Prop:=∀b o,H b=some o->H' b=some o
theorem Same.refl(H:Hp):Same H H:=λ_ _ h=>h
theorem Same.trans{H H1 H2:Hp}(a:Same H H1)(b:Same H1 H2):Same H H2:=λ c o h=>b c o (a c o h)
theorem Same.seq{K:Frag}{H H':Hp}{a:Addr}{xs:LUz}(e:Same H H')(h:SqL K H a xs):SqL K H' a xs:=by
 rcases h with (h|⟨o,h⟩)|h
 .exact .inl (.inl (e _ _ h))
 .exact .inl (.inr ⟨o,e _ _ h⟩)
 .exact .inr h
end L2
set_option maxHeartbeats 4000000
namespace L2
open PySem.W
open PySem PyProof.Rows
def IJ{α β:Type}(oS:Program->LSz->LSz->(Shared->Bool)->Bool->Shared->α)(ms:LSz)(p q:Program)(lo:LSz)(Xt:Shared->Bool)(Yf:Shared->β)(h0:Heap)(s:Shared):Bool×α×β :=
 ((((staticsOk ms h0 s.heap&&namesBound p s.heap)&&gensDone s)&&laidKept h0 s.heap),oS q lo ms Xt true s,Yf s)
noncomputable abbrev D6(P:Params)(os:OsState):Shared:=Shared.mk (boot_heap P) (Array.mk []) boot_drawn boot_toks os
theorem NT{p q:Program}{lo:LSz}{Xt:Shared->Bool}{β:Type}{Yf:Shared->β}{Ya:World->β}{N m:Nat}{an:Option Value}
  (bo:∀w:World,Option.map (λ s=>(s.heap,s.gens,s.drawn,s.toks)) (fencedOpening treeTable p w N)=some (boot_heap w.params,Array.mk [],boot_drawn,boot_toks))
  (sz:∀w:World,((boot_heap w.params).isNs mainGlobals,(boot_heap w.params).objs.size,(boot_heap w.params).nsMap mainGlobals "__annotations__")=(true,m,an))
  (rn:∀(w:World)(os:OsState),Option.map (IJ openSeen (importedModules p.main.body) p q lo Xt Yf (boot_heap w.params)) (topRun treeTable p w m an N (D6 w.params os) (topStub p))=some (true,openGood q lo,Ya w)) :
  LeftO p q lo Xt Yf Ya N:=by
 intro w;obtain⟨s0,e0,e1⟩:=Option.map_eq_some_iff.mp (bo w);obtain⟨hp,gs,dr,tk,os⟩:=s0;simp only[Prod.mk.injEq]at e1;obtain⟨rfl,rfl,rfl,rfl⟩:=e1;have z:=sz w;simp only[Prod.mk.injEq]at z;obtain⟨z1,z2,z3⟩:=z;obtain⟨s1,r1,r2⟩:=Option.map_eq_some_iff.mp (rn w os);unfold IJ at r2;simp only[Prod.mk.injEq]at r2;obtain⟨l1,l2,l3⟩:=r2;have tf:topFrom treeTable p w N (D6 w.params os)=some s1:=by
  unfold topFrom;dsimp only;rw[z1,z2,z3];show Option.bind (topRun treeTable p w m an N (D6 w.params os) (topStub p)) _=_;rw[r1];show(match (((staticsOk (importedModules p.main.body) (boot_heap w.params) s1.heap&&namesBound p s1.heap)&&gensDone s1)&&laidKept (boot_heap w.params) s1.heap) with|true=>some s1|false=>none)=_;rw[l1]
 unfold openEnds;rw[e0];show Option.map _ (topFrom treeTable p w N (D6 w.params os))=_;rw[tf];exact congrArg some (Prod.ext l2 l3)
def O0:List Obj->Nat->BT->BT
 |[],_,t=>t
 |o::r,i,t=>O0 r (i+1) (t.ins i o)
def CD(ok:Thread->Bool)(stp:SharedT->Thread->Option (SharedT×Thread)):Nat->SharedT->Thread->Option SharedT
 |0,_,_=>none
 |n+1,s,t=>match through t with
  |true=>some s
  |false=>match ok t with
   |false=>none
   |true=>match stp s t with
    |some (s1,t1)=>CD ok stp n s1 t1
    |none=>none
theorem Ge{tb:String->Option Builtin}{p:Program}{w:World}{m:Nat}{an:Option Value}:∀{n:Nat}{s s1:SharedT}{t:Thread},CD (stepOk m an) (stepT (denote tb) p w) n s t=some s1->topRun tb p w m an n s.abs t=some s1.abs
 |0,_,_,_,h=>by cases h
 |n+1,s,s1,t,h=>by
  rw[CD]at h;rw[topRun];cases ht:through t with
  |true=>rw[ht]at h;cases h;rfl
  |false =>
   rw[ht]at h;cases hk:stepOk m an t with
   |false=>rw[hk]at h;cases h
   |true =>
    rw[hk]at h;cases hs:stepT (denote tb) p w s t with
    |none=>rw[hs]at h;cases h
    |some r =>
     obtain⟨s2,t2⟩:=r;rw[hs]at h;rw[stepT_spec hs];exact Ge h
noncomputable def SU(P:Params):BT:=O0 (boot_heap P).objs.toList 0 .nil
noncomputable def EG(P:Params)(os:OsState):SharedT:=SharedT.mk (SU P) 11 (boot_heap P).life (Array.mk []) boot_drawn boot_toks os
theorem P5(P:Params)(os:OsState):(EG P os).abs=D6 P os:=by kernel_rfl
theorem RI{p q:Program}{lo ms:LSz}{Xt:Shared->Bool}{α β:Type}{Yf:Shared->β}{N m:Nat}{an:Option Value}{w:World}{os:OsState}{r:Bool×α×β}{oS:Program->LSz->LSz->(Shared->Bool)->Bool->Shared->α}
  (h:Option.map (λ s=>IJ oS ms p q lo Xt Yf (boot_heap w.params) (SharedT.abs s)) (CD (stepOk m an) (stepT (denote treeTable) p w) N (EG w.params os) (topStub p))=some r) :
  Option.map (IJ oS ms p q lo Xt Yf (boot_heap w.params)) (topRun treeTable p w m an N (D6 w.params os) (topStub p))=some r:=by
 obtain⟨s,e,z⟩:=Option.map_eq_some_iff.mp h;have e:=Ge e;rw[P5]at e;rw[e];exact congrArg some z
theorem SJ{σ α β:Type}{r:Option σ}{f:σ->Bool}{g:σ->α}{k:σ->β}{a:α}{b:β}(h1:r.map f=some true)(h2:r.map g=some a)(h3:r.map k=some b):r.map (λ s=>(f s,g s,k s))=some (true,a,b):=by
 cases r with
 |none=>cases h1
 |some s =>
  have e1:=Option.some.inj h1;have e2:=Option.some.inj h2;have e3:=Option.some.inj h3;exact congrArg some (Prod.ext e1 (Prod.ext e2 e3))
def SI(ms:LSz)(p:Program)(h0:Heap)(s:Shared):Bool:=(((staticsOk ms h0 s.heap&&namesBound p s.heap)&&gensDone s)&&laidKept h0 s.heap)
def Td(N m:Nat)(an:Option Value){p p':Program}{sT:(Code->Sem Fin)->Program->World->SharedT->Thread->Option (SharedT×Thread)}{dn:(String->Option Builtin)->Code->Sem Fin}{tT:String->Option Builtin}{iM:List Stmt->LSz}{oS:∀(q:Program)(lo ms:LSz)(Xt:Shared->Bool)(g0:Bool)(s:Shared),_}(h1:@stepT=sT)(h0:@denote=dn)(h2:treeTable=tT)(h3:@importedModules=iM)(h4:@openSeen=oS)(h5:p=p'):Prop:=∀(w:World)(os:OsState),Option.map (λ s=>SI (iM p'.main.body) p' (boot_heap w.params) (SharedT.abs s)) (CD (stepOk m an) (sT (dn tT) p' w) N (EG w.params os) (topStub p'))=some true
def Tc(N m:Nat)(an:Option Value)(q:Program->Program)(lo:LSz)(Xt:Program->Shared->Bool){p p':Program}{sT:(Code->Sem Fin)->Program->World->SharedT->Thread->Option (SharedT×Thread)}{dn:(String->Option Builtin)->Code->Sem Fin}{tT:String->Option Builtin}{iM:List Stmt->LSz}{oS:∀(q:Program)(lo ms:LSz)(Xt:Shared->Bool)(g0:Bool)(s:Shared),_}(h1:@stepT=sT)(h0:@denote=dn)(h2:treeTable=tT)(h3:@importedModules=iM)(h4:@openSeen=oS)(h5:p=p'):Prop:=∀(w:World)(os:OsState),Option.map (λ s=>oS (q p') lo (iM p'.main.body) (Xt p') true (SharedT.abs s)) (CD (stepOk m an) (sT (dn tT) p' w) N (EG w.params os) (topStub p'))=some (openGood (q p') lo)
def Tb(N m:Nat)(an:Option Value){β:Type}(Yf:Shared->β)(Ya:World->β){p p':Program}{sT:(Code->Sem Fin)->Program->World->SharedT->Thread->Option (SharedT×Thread)}{dn:(String->Option Builtin)->Code->Sem Fin}{tT:String->Option Builtin}{iM:List Stmt->LSz}{oS:∀(q:Program)(lo ms:LSz)(Xt:Shared->Bool)(g0:Bool)(s:Shared),_}(h1:@stepT=sT)(h0:@denote=dn)(h2:treeTable=tT)(h3:@importedModules=iM)(h4:@openSeen=oS)(h5:p=p'):Prop:=∀(w:World)(os:OsState),Option.map (λ s=>Yf (SharedT.abs s)) (CD (stepOk m an) (sT (dn tT) p' w) N (EG w.params os) (topStub p'))=some (Ya w)
theorem Qs{q:Program->Program}{lo:LSz}{Xt:Program->Shared->Bool}{β:Type}{Yf:Shared->β}{Ya:World->β}{N m:Nat}{an:Option Value}{p p':Program}{sT:(Code->Sem Fin)->Program->World->SharedT->Thread->Option (SharedT×Thread)}{dn:(String->Option Builtin)->Code->Sem Fin}{tT:String->Option Builtin}{iM:List Stmt->LSz}{oS:∀(q:Program)(lo ms:LSz)(Xt:Shared->Bool)(g0:Bool)(s:Shared),_}{h1:@stepT=sT}{h0:@denote=dn}{h2:treeTable=tT}{h3:@importedModules=iM}{h4:@openSeen=oS}{h5:p=p'}
  (rA:Td N m an h1 h0 h2 h3 h4 h5) (rB:Tc N m an q lo Xt h1 h0 h2 h3 h4 h5) (rC:Tb N m an Yf Ya h1 h0 h2 h3 h4 h5) :
  ∀(w:World)(os:OsState),Option.map (IJ openSeen (importedModules p.main.body) p (q p) lo (Xt p) Yf (boot_heap w.params)) (topRun treeTable p w m an N (D6 w.params os) (topStub p))=some (true,openGood (q p) lo,Ya w):=by
 subst h1 h0 h2 h3 h4 h5;exact λ w os=>RI (SJ (rA w os) (rB w os) (rC w os))
open PySem.Spec
def hookT(K:Hook)(Ts:List Addr):Hook :=
 ⟨K.α×List (Option Obj),λ s=>(K.obs s,Ts.map λ T=>s.heap.get? T),λ w=>(K.val w,Ts.map λ_=>some (tabObj #[])),λ w h=>K.says w h/\∀T∈Ts,h.get? T=some (tabObj #[]),
  λ w s e=>⟨K.of w s (Prod.mk.inj e).1,λ T hT=>by
   have e2:=(Prod.mk.inj e).2;have:=List.map_eq_map_iff.mp e2 T hT;exact this⟩,λ w h h' x k=>⟨K.keeps w h h' x.1 k,λ T hT=>k _ _ (x.2 T hT)⟩⟩
end L2
namespace KH
open PySem.W
open PySem PyProof.Rows L2
noncomputable def top(i:Nat):Stmt:=PySem.Challenge.pw_glazebench_k35_whole_moves_and_forms.main.body.getD i (.Pass ⟨0,0,0,0⟩)
noncomputable def kE(P:Params)(x:Str)(t:Tok)(v:Value):DictEntry:=⟨PyData.keyHash P x,.str x t,v⟩
noncomputable abbrev fo(a b:Str)(e:Stmt)(d m:Value)(c:Addr):Obj:=⟨(.type "function"),none,(.func (fnOf a b (Bh e) (A4 e) (Af e) d .none .none m none (.ref c) .none)),#[]⟩
noncomputable abbrev cp(a b:Str)(t u v:Tok)(l n:Int)(r:Addr)(i:Int)(p:Addr)(q x y:Value)(j k:Int)(z:Tok):Obj:=⟨(.type "code"),none,(.fields #[(.str a t),(.str b u),(.str "/claim/cut.py" v),(.int l 0),(.int n 0),(.int (0) 0),(.int (0) 0),(.int (3) 0),(.ref r),(.bool true),(.int i 0),(.ref p),.none,q,x,y,(.int j 0),(.int k 0),(.str "/claim/cut.py" z)]),#[]⟩
noncomputable abbrev co(a b:Str)(t u v:Tok)(l n:Int)(r:Addr)(i:Int)(p q x y:Addr)(j k:Int)(z:Tok):Obj:=⟨(.type "code"),none,(.fields #[(.str a t),(.str b u),(.str "/claim/cut.py" v),(.int l 0),(.int n 0),(.int (0) 0),(.int (0) 0),(.int (3) 0),(.ref r),(.bool true),(.int i 0),(.ref p),.none,(.ref q),(.ref x),(.ref y),(.int j 0),(.int k 0),(.str "/claim/cut.py" z)]),#[]⟩
noncomputable def KK:Params->Frag:=λ P=>(nat_lit 2,⟨.none,none,(.dict #[] 0),#[]⟩)::(nat_lit 3,⟨(.type "dict"),none,(.dict #[kE P "__name__" 165 (.str "law_glazebench_k35_whole_moves_and_forms" 812),kE P "__doc__" 166 .none,kE P "__package__" 167 .none,kE P "__loader__" 168 (.builtin "__main__.__loader__#opaque"),kE P "__spec__" 169 .none,kE P "__annotations__" 170 (.ref 6),kE P "__builtins__" 171 (.ref 4),kE P "__file__" 173 (.str "/claim/cut.py" 172),kE P "__cached__" 174 .none,kE P "_wall" 193 (.ref 21),kE P "GlassError" 213 (.ref 31),kE P "NoSide" 238 (.ref 51),kE P "NoCut" 263 (.ref 70),kE P "NoMove" 288 (.ref 89),kE P "Unlike" 304 (.ref 101),kE P "LONGEST_SIDE" 308 (.int (12) 307),kE P "is_whole" 315 (.ref 110),kE P "is_side" 322 (.ref 117),kE P "inside" 331 (.ref 124),kE P "check_sides" 340 (.ref 131),kE P "WHOLE" 344 (.str "whole" 343),kE P "UPRIGHT" 346 (.str "upright" 345),kE P "LEVEL" 348 (.str "level" 347),kE P "Tree" 405 (.ref 174),kE P "Whole" 430 (.ref 196),kE P "Upright" 459 (.ref 215),kE P "Level" 488 (.ref 234),kE P "kind_of" 495 (.ref 243),kE P "entry_of" 503 (.ref 250),kE P "entries_of" 513 (.ref 257),kE P "cut_from" 523 (.ref 264),kE P "tree_from" 535 (.ref 271),kE P "entries_by" 547 (.ref 278),kE P "turned_word" 554 (.ref 285),kE P "check_cut" 564 (.ref 292),kE P "first_piece" 573 (.ref 299),kE P "other_piece" 582 (.ref 306),kE P "cut_out" 596 (.ref 313),kE P "pieces" 605 (.ref 320),kE P "TOP" 609 (.int (0) 608),kE P "LEFT" 611 (.int (1) 610),kE P "line_breaks" 620 (.ref 327),kE P "goes_through" 626 (.ref 332),kE P "lines_through" 632 (.ref 337),kE P "ROOM" 636 (.str "room" 635),kE P "entry_for" 642 (.ref 342),kE P "cut_up" 651 (.ref 349),kE P "form" 662 (.ref 356),kE P "alike" 672 (.ref 363),kE P "LEAN" 676 (.str "lean" 675),kE P "BACK" 678 (.str "back" 677),kE P "CROSS" 680 (.str "cross" 679),kE P "leaned" 689 (.ref 370),kE P "leaned_back" 698 (.ref 377),kE P "crossed" 711 (.ref 384),kE P "changed" 719 (.ref 391),kE P "is_step" 726 (.ref 398),kE P "way_along" 736 (.ref 405),kE P "with_part" 745 (.ref 412),kE P "moved" 758 (.ref 419),kE P "moves_up" 769 (.ref 426),kE P "ahead_of" 779 (.ref 433),kE P "behind_of" 789 (.ref 440),kE P "moves_to" 801 (.ref 447),kE P "led" 811 (.ref 454),kE P "_law_cell" 821 (.ref 461),kE P "_law_draw" 831 (.ref 468),kE P "_law_state" 839 (.ref 475),kE P "_law_pick" 848 (.ref 482),kE P "_law_tree" 861 (.ref 489),kE P "_law_made" 868 (.ref 496),kE P "_law_whole" 875 (.ref 503),kE P "_law_told" 885 (.ref 510),kE P "_law_pieces" 899 (.ref 517),kE P "_law_through" 905 (.ref 522),kE P "_law_parted" 911 (.ref 527),kE P "_law_recut" 928 (.ref 534),kE P "_law_spoiled" 936 (.ref 541),kE P "_law_moves" 949 (.ref 548),kE P "_law_refused" 960 (.ref 555),kE P "law" 981 (.ref 562)] 81),#[]⟩)::(nat_lit 20,co "_wall" "_wall" 187 188 189 1 1 15 181 16 17 18 19 191 1 192)::(nat_lit 21,fo "_wall" "_wall" (top 0) .none (.str "__main__" 164) 20)::(nat_lit 30,⟨(.type "dict"),none,(.dict #[kE P "__module__" 203 (.str "glazebench.errors" 194),kE P "__firstlineno__" 207 (.int (5) 206),kE P "__static_attributes__" 208 (.ref 29),kE P "__weakref__" 210 (.ref 32),kE P "__doc__" 211 .none] 3),#[]⟩)::(nat_lit 31,⟨(.type "type"),none,(.cls { name:="GlassError",bases:=[(.type "ValueError")],mro:=[(.ref 31),(.type "ValueError"),(.type "Exception"),(.type "BaseException"),(.type "object")],ns:=30,qualname:="GlassError",hasDict:=true,slotNames:=[],subclasses:=[(.ref 51),(.ref 70),(.ref 89),(.ref 101)],abstract:=false,collection:=none,hasDel:=false }),#[some (.ref 22),none,some (.str "GlassError" 196),some (.str "GlassError" 204),some (.builtin "ValueError.__new__"),some (.bool true)]⟩)::(nat_lit 32,⟨(.type "getset_descriptor"),none,(.fields #[(.str "__weakref__" 209),(.ref 31),(.builtin "ExceptionGroup.__weakref__"),.none]),#[]⟩)::(nat_lit 47,co "__init__" "NoSide.__init__" 226 227 228 9 2 42 181 43 44 45 46 231 9 232)::(nat_lit 48,fo "__init__" "NoSide.__init__" (Bn (top 3) 0) .none (.str "glazebench.errors" 194) 47)::(nat_lit 50,⟨(.type "dict"),none,(.dict #[kE P "__module__" 221 (.str "glazebench.errors" 194),kE P "__firstlineno__" 225 (.int (7) 224),kE P "__init__" 233 (.ref 48),kE P "__static_attributes__" 235 (.ref 49),kE P "__doc__" 236 .none] 2),#[]⟩)::(nat_lit 51,⟨(.type "type"),none,(.cls { name:="NoSide",bases:=[(.ref 31)],mro:=[(.ref 51),(.ref 31),(.type "ValueError"),(.type "Exception"),(.type "BaseException"),(.type "object")],ns:=50,qualname:="NoSide",hasDict:=true,slotNames:=[],subclasses:=[],abstract:=false,collection:=none,hasDel:=false }),#[some (.ref 35),none,some (.str "NoSide" 214),some (.str "NoSide" 222),some (.builtin "ValueError.__new__"),some (.bool true)]⟩)::(nat_lit 66,co "__init__" "NoCut.__init__" 251 252 253 13 2 61 181 62 63 64 65 256 13 257)::(nat_lit 67,fo "__init__" "NoCut.__init__" (Bn (top 4) 0) .none (.str "glazebench.errors" 194) 66)::(nat_lit 69,⟨(.type "dict"),none,(.dict #[kE P "__module__" 246 (.str "glazebench.errors" 194),kE P "__firstlineno__" 250 (.int (11) 249),kE P "__init__" 258 (.ref 67),kE P "__static_attributes__" 260 (.ref 68),kE P "__doc__" 261 .none] 2),#[]⟩)::(nat_lit 70,⟨(.type "type"),none,(.cls { name:="NoCut",bases:=[(.ref 31)],mro:=[(.ref 70),(.ref 31),(.type "ValueError"),(.type "Exception"),(.type "BaseException"),(.type "object")],ns:=69,qualname:="NoCut",hasDict:=true,slotNames:=[],subclasses:=[],abstract:=false,collection:=none,hasDel:=false }),#[some (.ref 54),none,some (.str "NoCut" 239),some (.str "NoCut" 247),some (.builtin "ValueError.__new__"),some (.bool true)]⟩)::(nat_lit 85,co "__init__" "NoMove.__init__" 276 277 278 17 2 80 181 81 82 83 84 281 17 282)::(nat_lit 86,fo "__init__" "NoMove.__init__" (Bn (top 5) 0) .none (.str "glazebench.errors" 194) 85)::(nat_lit 88,⟨(.type "dict"),none,(.dict #[kE P "__module__" 271 (.str "glazebench.errors" 194),kE P "__firstlineno__" 275 (.int (15) 274),kE P "__init__" 283 (.ref 86),kE P "__static_attributes__" 285 (.ref 87),kE P "__doc__" 286 .none] 2),#[]⟩)::(nat_lit 89,⟨(.type "type"),none,(.cls { name:="NoMove",bases:=[(.ref 31)],mro:=[(.ref 89),(.ref 31),(.type "ValueError"),(.type "Exception"),(.type "BaseException"),(.type "object")],ns:=88,qualname:="NoMove",hasDict:=true,slotNames:=[],subclasses:=[],abstract:=false,collection:=none,hasDel:=false }),#[some (.ref 73),none,some (.str "NoMove" 264),some (.str "NoMove" 272),some (.builtin "ValueError.__new__"),some (.bool true)]⟩)::(nat_lit 100,⟨(.type "dict"),none,(.dict #[kE P "__module__" 296 (.str "glazebench.errors" 194),kE P "__firstlineno__" 300 (.int (19) 299),kE P "__static_attributes__" 301 (.ref 99),kE P "__doc__" 302 .none] 2),#[]⟩)::(nat_lit 101,⟨(.type "type"),none,(.cls { name:="Unlike",bases:=[(.ref 31)],mro:=[(.ref 101),(.ref 31),(.type "ValueError"),(.type "Exception"),(.type "BaseException"),(.type "object")],ns:=100,qualname:="Unlike",hasDict:=true,slotNames:=[],subclasses:=[],abstract:=false,collection:=none,hasDel:=false }),#[some (.ref 92),none,some (.str "Unlike" 289),some (.str "Unlike" 297),some (.builtin "ValueError.__new__"),some (.bool true)]⟩)::(nat_lit 109,co "is_whole" "is_whole" 309 310 311 23 1 104 181 105 106 107 108 313 23 314)::(nat_lit 110,fo "is_whole" "is_whole" (top 9) .none (.str "glazebench.panels" 305) 109)::(nat_lit 116,co "is_side" "is_side" 316 317 318 25 1 111 181 112 113 114 115 320 25 321)::(nat_lit 117,fo "is_side" "is_side" (top 10) .none (.str "glazebench.panels" 305) 116)::(nat_lit 123,co "inside" "inside" 323 324 325 27 2 118 181 119 120 121 122 329 27 330)::(nat_lit 124,fo "inside" "inside" (top 11) .none (.str "glazebench.panels" 305) 123)::(nat_lit 130,co "check_sides" "check_sides" 332 333 334 30 2 125 181 126 127 128 129 338 30 339)::(nat_lit 131,fo "check_sides" "check_sides" (top 12) .none (.str "glazebench.panels" 305) 130)::(nat_lit 142,cp "leaves" "Tree.leaves" 361 362 363 40 1 139 181 140 .none .none (.ref 141) 364 40 365)::(nat_lit 143,fo "leaves" "Tree.leaves" (Bn (top 17) 0) .none (.str "glazebench.cuts" 341) 142)::(nat_lit 149,co "depth" "Tree.depth" 367 368 369 43 1 144 181 145 146 147 148 371 43 372)::(nat_lit 150,fo "depth" "Tree.depth" (Bn (top 17) 1) .none (.str "glazebench.cuts" 341) 149)::(nat_lit 156,co "turned" "Tree.turned" 374 375 376 46 1 151 181 152 153 154 155 378 46 379)::(nat_lit 157,fo "turned" "Tree.turned" (Bn (top 17) 2) .none (.str "glazebench.cuts" 341) 156)::(nat_lit 163,co "fits" "Tree.fits" 381 382 383 49 3 158 181 159 160 161 162 387 49 388)::(nat_lit 164,fo "fits" "Tree.fits" (Bn (top 17) 3) .none (.str "glazebench.cuts" 341) 163)::(nat_lit 170,co "same" "Tree.same" 390 391 392 52 2 165 181 166 167 168 169 395 52 396)::(nat_lit 171,fo "same" "Tree.same" (Bn (top 17) 4) .none (.str "glazebench.cuts" 341) 170)::(nat_lit 173,⟨(.type "dict"),none,(.dict #[kE P "__module__" 356 (.str "glazebench.cuts" 341),kE P "__firstlineno__" 360 (.int (38) 359),kE P "leaves" 366 (.ref 143),kE P "depth" 373 (.ref 150),kE P "turned" 380 (.ref 157),kE P "fits" 389 (.ref 164),kE P "same" 397 (.ref 171),kE P "__static_attributes__" 398 (.ref 172),kE P "__dict__" 400 (.ref 175),kE P "__weakref__" 402 (.ref 176),kE P "__doc__" 403 .none] 4),#[]⟩)::(nat_lit 174,⟨(.type "type"),none,(.cls { name:="Tree",bases:=[(.type "object")],mro:=[(.ref 174),(.type "object")],ns:=173,qualname:="Tree",hasDict:=true,slotNames:=[],subclasses:=[(.ref 196),(.ref 215),(.ref 234)],abstract:=false,collection:=none,hasDel:=false }),#[none,none,some (.str "Tree" 349),some (.str "Tree" 357),some (.builtin "object.__new__"),some (.bool true)]⟩)::(nat_lit 175,⟨(.type "getset_descriptor"),none,(.fields #[(.str "__dict__" 399),(.ref 174),(.builtin "function.__dict__"),(.builtin "function.__dict__#set")]),#[]⟩)::(nat_lit 176,⟨(.type "getset_descriptor"),none,(.fields #[(.str "__weakref__" 401),(.ref 174),(.builtin "ExceptionGroup.__weakref__"),.none]),#[]⟩)::(nat_lit 186,⟨(.type "tuple"),none,(.seq #[.none] 0),#[]⟩)::(nat_lit 192,co "__init__" "Whole.__init__" 418 419 420 56 2 187 181 188 189 190 191 423 56 424)::(nat_lit 193,fo "__init__" "Whole.__init__" (Bn (top 18) 0) (.ref 186) (.str "glazebench.cuts" 341) 192)::(nat_lit 195,⟨(.type "dict"),none,(.dict #[kE P "__module__" 413 (.str "glazebench.cuts" 341),kE P "__firstlineno__" 417 (.int (54) 416),kE P "__init__" 425 (.ref 193),kE P "__static_attributes__" 427 (.ref 194),kE P "__doc__" 428 .none] 2),#[]⟩)::(nat_lit 196,⟨(.type "type"),none,(.cls { name:="Whole",bases:=[(.ref 174)],mro:=[(.ref 196),(.ref 174),(.type "object")],ns:=195,qualname:="Whole",hasDict:=true,slotNames:=[],subclasses:=[],abstract:=false,collection:=none,hasDel:=false }),#[some (.ref 179),none,some (.str "Whole" 406),some (.str "Whole" 414),some (.builtin "object.__new__"),some (.bool true)]⟩)::(nat_lit 211,co "__init__" "Upright.__init__" 443 444 445 60 4 206 181 207 208 209 210 450 60 451)::(nat_lit 212,fo "__init__" "Upright.__init__" (Bn (top 19) 0) .none (.str "glazebench.cuts" 341) 211)::(nat_lit 214,⟨(.type "dict"),none,(.dict #[kE P "__module__" 438 (.str "glazebench.cuts" 341),kE P "__firstlineno__" 442 (.int (58) 441),kE P "__init__" 452 (.ref 212),kE P "__static_attributes__" 456 (.ref 213),kE P "__doc__" 457 .none] 2),#[]⟩)::(nat_lit 215,⟨(.type "type"),none,(.cls { name:="Upright",bases:=[(.ref 174)],mro:=[(.ref 215),(.ref 174),(.type "object")],ns:=214,qualname:="Upright",hasDict:=true,slotNames:=[],subclasses:=[],abstract:=false,collection:=none,hasDel:=false }),#[some (.ref 199),none,some (.str "Upright" 431),some (.str "Upright" 439),some (.builtin "object.__new__"),some (.bool true)]⟩)::(nat_lit 230,co "__init__" "Level.__init__" 472 473 474 66 4 225 181 226 227 228 229 479 66 480)::(nat_lit 231,fo "__init__" "Level.__init__" (Bn (top 20) 0) .none (.str "glazebench.cuts" 341) 230)::(nat_lit 233,⟨(.type "dict"),none,(.dict #[kE P "__module__" 467 (.str "glazebench.cuts" 341),kE P "__firstlineno__" 471 (.int (64) 470),kE P "__init__" 481 (.ref 231),kE P "__static_attributes__" 485 (.ref 232),kE P "__doc__" 486 .none] 2),#[]⟩)::(nat_lit 234,⟨(.type "type"),none,(.cls { name:="Level",bases:=[(.ref 174)],mro:=[(.ref 234),(.ref 174),(.type "object")],ns:=233,qualname:="Level",hasDict:=true,slotNames:=[],subclasses:=[],abstract:=false,collection:=none,hasDel:=false }),#[some (.ref 218),none,some (.str "Level" 460),some (.str "Level" 468),some (.builtin "object.__new__"),some (.bool true)]⟩)::(nat_lit 242,co "kind_of" "kind_of" 489 490 491 70 1 237 181 238 239 240 241 493 70 494)::(nat_lit 243,fo "kind_of" "kind_of" (top 21) .none (.str "glazebench.cuts" 341) 242)::(nat_lit 249,co "entry_of" "entry_of" 496 497 498 74 1 244 181 245 246 247 248 501 74 502)::(nat_lit 250,fo "entry_of" "entry_of" (top 22) .none (.str "glazebench.cuts" 341) 249)::(nat_lit 256,co "entries_of" "entries_of" 504 505 506 77 1 251 181 252 253 254 255 511 77 512)::(nat_lit 257,fo "entries_of" "entries_of" (top 23) .none (.str "glazebench.cuts" 341) 256)::(nat_lit 263,co "cut_from" "cut_from" 514 515 516 86 4 258 181 259 260 261 262 521 86 522)::(nat_lit 264,fo "cut_from" "cut_from" (top 24) .none (.str "glazebench.cuts" 341) 263)::(nat_lit 270,co "tree_from" "tree_from" 524 525 526 90 1 265 181 266 267 268 269 533 90 534)::(nat_lit 271,fo "tree_from" "tree_from" (top 25) .none (.str "glazebench.cuts" 341) 270)::(nat_lit 277,co "entries_by" "entries_by" 536 537 538 100 2 272 181 273 274 275 276 545 100 546)::(nat_lit 278,fo "entries_by" "entries_by" (top 26) .none (.str "glazebench.cuts" 341) 277)::(nat_lit 284,co "turned_word" "turned_word" 548 549 550 111 1 279 181 280 281 282 283 552 111 553)::(nat_lit 285,fo "turned_word" "turned_word" (top 27) .none (.str "glazebench.cuts" 341) 284)::(nat_lit 291,co "check_cut" "check_cut" 555 556 557 115 3 286 181 287 288 289 290 562 115 563)::(nat_lit 292,fo "check_cut" "check_cut" (top 28) .none (.str "glazebench.cuts" 341) 291)::(nat_lit 298,co "first_piece" "first_piece" 565 566 567 119 3 293 181 294 295 296 297 571 119 572)::(nat_lit 299,fo "first_piece" "first_piece" (top 29) .none (.str "glazebench.cuts" 341) 298)::(nat_lit 305,co "other_piece" "other_piece" 574 575 576 123 3 300 181 301 302 303 304 580 123 581)::(nat_lit 306,fo "other_piece" "other_piece" (top 30) .none (.str "glazebench.cuts" 341) 305)::(nat_lit 312,co "cut_out" "cut_out" 583 584 585 127 3 307 181 308 309 310 311 594 127 595)::(nat_lit 313,fo "cut_out" "cut_out" (top 31) .none (.str "glazebench.cuts" 341) 312)::(nat_lit 319,co "pieces" "pieces" 597 598 599 139 3 314 181 315 316 317 318 603 139 604)::(nat_lit 320,fo "pieces" "pieces" (top 32) .none (.str "glazebench.cuts" 341) 319)::(nat_lit 326,co "line_breaks" "line_breaks" 612 613 614 145 3 321 181 322 323 324 325 618 145 619)::(nat_lit 327,fo "line_breaks" "line_breaks" (top 36) .none (.str "glazebench.blocks" 606) 326)::(nat_lit 331,cp "goes_through" "goes_through" 621 622 623 147 3 328 181 329 .none .none (.ref 330) 624 147 625)::(nat_lit 332,fo "goes_through" "goes_through" (top 37) .none (.str "glazebench.blocks" 606) 331)::(nat_lit 336,cp "lines_through" "lines_through" 627 628 629 149 3 333 181 334 .none .none (.ref 335) 630 149 631)::(nat_lit 337,fo "lines_through" "lines_through" (top 38) .none (.str "glazebench.blocks" 606) 336)::(nat_lit 341,cp "entry_for" "entry_for" 637 638 639 153 2 338 181 339 .none .none (.ref 340) 640 153 641)::(nat_lit 342,fo "entry_for" "entry_for" (top 41) .none (.str "glazebench.rooms" 633) 341)::(nat_lit 348,co "cut_up" "cut_up" 643 644 645 164 2 343 181 344 345 346 347 649 164 650)::(nat_lit 349,fo "cut_up" "cut_up" (top 42) .none (.str "glazebench.rooms" 633) 348)::(nat_lit 355,co "form" "form" 654 655 656 167 3 350 181 351 352 353 354 660 167 661)::(nat_lit 356,fo "form" "form" (top 44) .none (.str "glazebench.forms" 652) 355)::(nat_lit 362,co "alike" "alike" 663 664 665 169 4 357 181 358 359 360 361 670 169 671)::(nat_lit 363,fo "alike" "alike" (top 45) .none (.str "glazebench.forms" 652) 362)::(nat_lit 369,co "leaned" "leaned" 681 682 683 175 1 364 181 365 366 367 368 687 175 688)::(nat_lit 370,fo "leaned" "leaned" (top 50) .none (.str "glazebench.moves" 673) 369)::(nat_lit 376,co "leaned_back" "leaned_back" 690 691 692 181 1 371 181 372 373 374 375 696 181 697)::(nat_lit 377,fo "leaned_back" "leaned_back" (top 51) .none (.str "glazebench.moves" 673) 376)::(nat_lit 383,co "crossed" "crossed" 699 700 701 187 1 378 181 379 380 381 382 709 187 710)::(nat_lit 384,fo "crossed" "crossed" (top 52) .none (.str "glazebench.moves" 673) 383)::(nat_lit 390,co "changed" "changed" 712 713 714 197 2 385 181 386 387 388 389 717 197 718)::(nat_lit 391,fo "changed" "changed" (top 53) .none (.str "glazebench.moves" 673) 390)::(nat_lit 397,co "is_step" "is_step" 720 721 722 207 1 392 181 393 394 395 396 724 207 725)::(nat_lit 398,fo "is_step" "is_step" (top 54) .none (.str "glazebench.moves" 673) 397)::(nat_lit 404,co "way_along" "way_along" 727 728 729 209 2 399 181 400 401 402 403 734 209 735)::(nat_lit 405,fo "way_along" "way_along" (top 55) .none (.str "glazebench.moves" 673) 404)::(nat_lit 411,co "with_part" "with_part" 737 738 739 220 3 406 181 407 408 409 410 743 220 744)::(nat_lit 412,fo "with_part" "with_part" (top 56) .none (.str "glazebench.moves" 673) 411)::(nat_lit 418,co "moved" "moved" 746 747 748 224 2 413 181 414 415 416 417 756 224 757)::(nat_lit 419,fo "moved" "moved" (top 57) .none (.str "glazebench.moves" 673) 418)::(nat_lit 425,co "moves_up" "moves_up" 759 760 761 233 4 420 181 421 422 423 424 767 233 768)::(nat_lit 426,fo "moves_up" "moves_up" (top 58) .none (.str "glazebench.moves" 673) 425)::(nat_lit 432,co "ahead_of" "ahead_of" 770 771 772 242 3 427 181 428 429 430 431 777 242 778)::(nat_lit 433,fo "ahead_of" "ahead_of" (top 59) .none (.str "glazebench.moves" 673) 432)::(nat_lit 439,co "behind_of" "behind_of" 780 781 782 251 3 434 181 435 436 437 438 787 251 788)::(nat_lit 440,fo "behind_of" "behind_of" (top 60) .none (.str "glazebench.moves" 673) 439)::(nat_lit 446,co "moves_to" "moves_to" 790 791 792 260 3 441 181 442 443 444 445 799 260 800)::(nat_lit 447,fo "moves_to" "moves_to" (top 61) .none (.str "glazebench.moves" 673) 446)::(nat_lit 453,co "led" "led" 802 803 804 268 4 448 181 449 450 451 452 809 268 810)::(nat_lit 454,fo "led" "led" (top 62) .none (.str "glazebench.moves" 673) 453)::(nat_lit 460,co "_law_cell" "_law_cell" 814 815 816 273 2 455 181 456 457 458 459 819 273 820)::(nat_lit 461,fo "_law_cell" "_law_cell" (top 64) .none (.str "law_glazebench_k35_whole_moves_and_forms" 812) 460)::(nat_lit 467,co "_law_draw" "_law_draw" 822 823 824 277 3 462 181 463 464 465 466 829 277 830)::(nat_lit 468,fo "_law_draw" "_law_draw" (top 65) .none (.str "law_glazebench_k35_whole_moves_and_forms" 812) 467)::(nat_lit 474,co "_law_state" "_law_state" 832 833 834 280 1 469 181 470 471 472 473 837 280 838)::(nat_lit 475,fo "_law_state" "_law_state" (top 66) .none (.str "law_glazebench_k35_whole_moves_and_forms" 812) 474)::(nat_lit 481,co "_law_pick" "_law_pick" 840 841 842 285 2 476 181 477 478 479 480 846 285 847)::(nat_lit 482,fo "_law_pick" "_law_pick" (top 67) .none (.str "law_glazebench_k35_whole_moves_and_forms" 812) 481)::(nat_lit 488,co "_law_tree" "_law_tree" 849 850 851 292 3 483 181 484 485 486 487 859 292 860)::(nat_lit 489,fo "_law_tree" "_law_tree" (top 68) .none (.str "law_glazebench_k35_whole_moves_and_forms" 812) 488)::(nat_lit 495,co "_law_made" "_law_made" 862 863 864 306 1 490 181 491 492 493 494 866 306 867)::(nat_lit 496,fo "_law_made" "_law_made" (top 69) .none (.str "law_glazebench_k35_whole_moves_and_forms" 812) 495)::(nat_lit 502,co "_law_whole" "_law_whole" 869 870 871 312 1 497 181 498 499 500 501 873 312 874)::(nat_lit 503,fo "_law_whole" "_law_whole" (top 70) .none (.str "law_glazebench_k35_whole_moves_and_forms" 812) 502)::(nat_lit 509,co "_law_told" "_law_told" 876 877 878 314 1 504 181 505 506 507 508 883 314 884)::(nat_lit 510,fo "_law_told" "_law_told" (top 71) .none (.str "law_glazebench_k35_whole_moves_and_forms" 812) 509)::(nat_lit 516,co "_law_pieces" "_law_pieces" 886 887 888 329 2 511 181 512 513 514 515 897 329 898)::(nat_lit 517,fo "_law_pieces" "_law_pieces" (top 72) .none (.str "law_glazebench_k35_whole_moves_and_forms" 812) 516)::(nat_lit 521,cp "_law_through" "_law_through" 900 901 902 339 2 518 181 519 .none .none (.ref 520) 903 339 904)::(nat_lit 522,fo "_law_through" "_law_through" (top 73) .none (.str "law_glazebench_k35_whole_moves_and_forms" 812) 521)::(nat_lit 526,cp "_law_parted" "_law_parted" 906 907 908 346 4 523 181 524 .none .none (.ref 525) 909 346 910)::(nat_lit 527,fo "_law_parted" "_law_parted" (top 74) .none (.str "law_glazebench_k35_whole_moves_and_forms" 812) 526)::(nat_lit 533,co "_law_recut" "_law_recut" 912 913 914 354 3 528 181 529 530 531 532 926 354 927)::(nat_lit 534,fo "_law_recut" "_law_recut" (top 75) .none (.str "law_glazebench_k35_whole_moves_and_forms" 812) 533)::(nat_lit 540,co "_law_spoiled" "_law_spoiled" 929 930 931 362 2 535 181 536 537 538 539 934 362 935)::(nat_lit 541,fo "_law_spoiled" "_law_spoiled" (top 76) .none (.str "law_glazebench_k35_whole_moves_and_forms" 812) 540)::(nat_lit 547,co "_law_moves" "_law_moves" 937 938 939 372 2 542 181 543 544 545 546 947 372 948)::(nat_lit 548,fo "_law_moves" "_law_moves" (top 77) .none (.str "law_glazebench_k35_whole_moves_and_forms" 812) 547)::(nat_lit 554,co "_law_refused" "_law_refused" 950 951 952 384 4 549 181 550 551 552 553 958 384 959)::(nat_lit 555,fo "_law_refused" "_law_refused" (top 78) .none (.str "law_glazebench_k35_whole_moves_and_forms" 812) 554)::(nat_lit 561,co "law" "law" 961 962 963 391 1 556 181 557 558 559 560 979 391 980)::(nat_lit 562,fo "law" "law" (top 79) .none (.str "law_glazebench_k35_whole_moves_and_forms" 812) 561)::(nat_lit 4,⟨(.type "module"),(some 0),.plain,#[]⟩)::[]
noncomputable def kas:List Addr:=nat_lit 2::nat_lit 3::nat_lit 20::nat_lit 21::nat_lit 30::nat_lit 31::nat_lit 32::nat_lit 47::nat_lit 48::nat_lit 50::nat_lit 51::nat_lit 66::nat_lit 67::nat_lit 69::nat_lit 70::nat_lit 85::nat_lit 86::nat_lit 88::nat_lit 89::nat_lit 100::nat_lit 101::nat_lit 109::nat_lit 110::nat_lit 116::nat_lit 117::nat_lit 123::nat_lit 124::nat_lit 130::nat_lit 131::nat_lit 142::nat_lit 143::nat_lit 149::nat_lit 150::nat_lit 156::nat_lit 157::nat_lit 163::nat_lit 164::nat_lit 170::nat_lit 171::nat_lit 173::nat_lit 174::nat_lit 175::nat_lit 176::nat_lit 186::nat_lit 192::nat_lit 193::nat_lit 195::nat_lit 196::nat_lit 211::nat_lit 212::nat_lit 214::nat_lit 215::nat_lit 230::nat_lit 231::nat_lit 233::nat_lit 234::nat_lit 242::nat_lit 243::nat_lit 249::nat_lit 250::nat_lit 256::nat_lit 257::nat_lit 263::nat_lit 264::nat_lit 270::nat_lit 271::nat_lit 277::nat_lit 278::nat_lit 284::nat_lit 285::nat_lit 291::nat_lit 292::nat_lit 298::nat_lit 299::nat_lit 305::nat_lit 306::nat_lit 312::nat_lit 313::nat_lit 319::nat_lit 320::nat_lit 326::nat_lit 327::nat_lit 331::nat_lit 332::nat_lit 336::nat_lit 337::nat_lit 341::nat_lit 342::nat_lit 348::nat_lit 349::nat_lit 355::nat_lit 356::nat_lit 362::nat_lit 363::nat_lit 369::nat_lit 370::nat_lit 376::nat_lit 377::nat_lit 383::nat_lit 384::nat_lit 390::nat_lit 391::nat_lit 397::nat_lit 398::nat_lit 404::nat_lit 405::nat_lit 411::nat_lit 412::nat_lit 418::nat_lit 419::nat_lit 425::nat_lit 426::nat_lit 432::nat_lit 433::nat_lit 439::nat_lit 440::nat_lit 446::nat_lit 447::nat_lit 453::nat_lit 454::nat_lit 460::nat_lit 461::nat_lit 467::nat_lit 468::nat_lit 474::nat_lit 475::nat_lit 481::nat_lit 482::nat_lit 488::nat_lit 489::nat_lit 495::nat_lit 496::nat_lit 502::nat_lit 503::nat_lit 509::nat_lit 510::nat_lit 516::nat_lit 517::nat_lit 521::nat_lit 522::nat_lit 526::nat_lit 527::nat_lit 533::nat_lit 534::nat_lit 540::nat_lit 541::nat_lit 547::nat_lit 548::nat_lit 554::nat_lit 555::nat_lit 561::nat_lit 562::nat_lit 4::[]
noncomputable def keeps:List Nat:=0::2::3::4::5::6::8::9::10::11::12::14::15::16::17::18::19::20::21::22::23::24::25::26::27::28::29::30::31::32::34::35::36::37::38::40::41::42::44::45::47::48::49::50::51::52::53::54::55::56::57::58::59::60::61::62::64::65::66::67::68::69::70::71::72::73::74::75::76::77::78::79::[]
noncomputable def lo:LSz:=["Whole"]
noncomputable def Ts:List Addr:=nat_lit 315::nat_lit 344::[]
theorem prep(h:PySem.Challenge.rw_glazebench_k35_whole_moves_and_forms.row.wellSaid=true->PySem.Challenge.rw_glazebench_k35_whole_moves_and_forms.row.Holds):PySem.Challenge.rw_glazebench_k35_whole_moves_and_forms.Holds:=by
 w_on
 o_law
 exact h (by assumption)
noncomputable def qv(p:Program):Program:=view p keeps
noncomputable def Xp(p:Program)(s:Shared):Bool:=xlAt (qv p) [] s&&recOk (RowW.records (OpenRow.toRowW PySem.Challenge.rw_glazebench_k35_whole_moves_and_forms.row)) s
theorem kas_is(P:Params):kas=(KK P).map (λ x=>x.1):=by kernel_rfl
theorem S9:opening PySem.Challenge.pw_glazebench_k35_whole_moves_and_forms=plainProg PySem.Challenge.pw_glazebench_k35_whole_moves_and_forms.main.scope.names:=by kernel_rfl
theorem Pm(s:Shared):fenceModules? PySem.Challenge.pw_glazebench_k35_whole_moves_and_forms s=some s:=by kernel_rfl
theorem QV(w:World):((boot_heap w.params).isNs mainGlobals,(boot_heap w.params).objs.size,(boot_heap w.params).nsMap mainGlobals "__annotations__")=(true,11,(some (.ref 6))):=by kernel_rfl
theorem T7:Td 8226 11 (some (.ref 6)) Fast.te10156331382660048174 Fast.te11892475500146522536 Fast.te14364793385576792824 Fast.te5923862056798008813 Fast.te4187177175401517315 Fast.te11616815432029813187:=λ w os=>by kernel_rfl
theorem T6:Tc 8226 11 (some (.ref 6)) qv lo Xp Fast.te10156331382660048174 Fast.te11892475500146522536 Fast.te14364793385576792824 Fast.te5923862056798008813 Fast.te4187177175401517315 Fast.te11616815432029813187:=λ w os=>by kernel_rfl
theorem T5:Tb 8226 11 (some (.ref 6)) (hookT (kHook KK kas kas_is) Ts).obs (hookT (kHook KK kas kas_is) Ts).val Fast.te10156331382660048174 Fast.te11892475500146522536 Fast.te14364793385576792824 Fast.te5923862056798008813 Fast.te4187177175401517315 Fast.te11616815432029813187:=λ w os=>by kernel_rfl
theorem ran:∀(w:World)(os:OsState),Option.map (IJ openSeen (importedModules PySem.Challenge.pw_glazebench_k35_whole_moves_and_forms.main.body) PySem.Challenge.pw_glazebench_k35_whole_moves_and_forms (qv PySem.Challenge.pw_glazebench_k35_whole_moves_and_forms) lo (Xp PySem.Challenge.pw_glazebench_k35_whole_moves_and_forms) (hookT (kHook KK kas kas_is) Ts).obs (boot_heap w.params)) (topRun treeTable PySem.Challenge.pw_glazebench_k35_whole_moves_and_forms w 11 (some (.ref 6)) 8226 (D6 w.params os) (topStub PySem.Challenge.pw_glazebench_k35_whole_moves_and_forms))=some (true,openGood (qv PySem.Challenge.pw_glazebench_k35_whole_moves_and_forms) lo,(hookT (kHook KK kas kas_is) Ts).val w):=Qs T7 T6 T5
theorem left:LeftO PySem.Challenge.pw_glazebench_k35_whole_moves_and_forms (qv PySem.Challenge.pw_glazebench_k35_whole_moves_and_forms) lo (Xp PySem.Challenge.pw_glazebench_k35_whole_moves_and_forms) (hookT (kHook KK kas kas_is) Ts).obs (hookT (kHook KK kas kas_is) Ts).val 8226:=NT (boot_open S9 (by decide) Pm) QV ran
end KH
namespace L2
open PySem.W
open PySem PySem.Spec PyProof.Rows
def Pa:Option NameKind->Bool
 |some .cell=>true
 |some .free=>true
 |_=>false
theorem Nc{o:Option NameKind}(h:Pa o=true):o=some .cell\/o=some .free:=by
 match o,h with
 |some .cell,_=>exact .inl rfl
 |some .free,_=>exact .inr rfl
theorem Ek(env:Env):∀(l:List (Str×NameKind))(acc:List (Str×Addr)),(∀y∈l,y.2=.free->∃c,env.cells.lookup y.1=some c) ->
  (∀x c,acc.lookup x=some c->env.cells.lookup x=some c) ->
  ∃cl,(forIn l acc (λ(x:Str×NameKind)(r:List (Str×Addr))=>if (x.2==.free)=true then (cellOf env x.1 >>= λ c=>pure (ForInStep.yield ((x.1,c)::r))) else pure (ForInStep.yield r)):Sem (List (Str×Addr)))=pure cl /\
   (∀x c,cl.lookup x=some c->env.cells.lookup x=some c)/\(∀x,((∃c,acc.lookup x=some c)\/(x,NameKind.free)∈l)->∃c,cl.lookup x=some c)
 |[],acc,_,ha=>⟨acc,by rfl,ha,λ x h=>h.elim id λ z=>nomatch z⟩
 | (n,k)::l,acc,hl,ha=>by
  have hl':∀y∈l,y.2=.free->∃c,env.cells.lookup y.1=some c:=λ y hy=>hl y (List.mem_cons_of_mem _ hy);by_cases hk:k=.free
  .subst hk;obtain⟨c,hc⟩:=hl (n,.free) List.mem_cons_self rfl;have hc':env.cells.lookup n=some c:=hc;have look:∀x,((n,c)::acc).lookup x=if x=n then some c else acc.lookup x:=λ x=>by
    rw[List.lookup_cons];by_cases e:x=n
    .subst e;simp
    .rw[if_neg e,show(x==n)=false by simpa using e]
   have ha':∀x d,((n,c)::acc).lookup x=some d->env.cells.lookup x=some d:=λ x d e=>by
    rw[look]at e;split at e
    .rename_i q;subst q;rw[hc'];exact e
    .exact ha x d e
   obtain⟨cl,e,h1,h2⟩:=Ek env l ((n,c)::acc) hl' ha';refine⟨cl,?_,h1,λ x h=>h2 x ?_⟩
   .rw[<-e,List.forIn_cons];have ec:cellOf env n=pure c:=by unfold cellOf;rw[hc']
    show((cellOf env n >>= λ c=>pure (ForInStep.yield ((n,c)::acc))) >>= _:Sem (List (Str×Addr)))=_;rw[ec];rfl
   .rcases h with ⟨d,q⟩|h
    .left
     rw[look];by_cases z:x=n
     .exact⟨c,by rw[if_pos z]⟩
     .exact⟨d,by rw[if_neg z];exact q⟩
    .rcases List.mem_cons.mp h with z|z
     .left
      rw[look];exact⟨c,by rw[if_pos (congrArg Prod.fst z)]⟩
     .exact .inr z
  .obtain⟨cl,e,h1,h2⟩:=Ek env l acc hl' ha;refine⟨cl,?_,h1,λ x h=>h2 x ?_⟩
   .rw[<-e,List.forIn_cons];have hb:(k==NameKind.free)=false:=by simpa using hk
    show((if (k==NameKind.free)=true then _ else pure (ForInStep.yield acc)) >>= _:Sem (List (Str×Addr)))=_;rw[hb];rfl
   .rcases h with h|h
    .exact .inl h
    .rcases List.mem_cons.mp h with z|z
     .exact absurd (congrArg Prod.snd z).symm hk
     .exact .inr z
theorem Mu{scope:Scope}{env:Env}(h:∀y∈scope.names,y.2=.free->∃c,env.cells.lookup y.1=some c) :
  ∃cl,closureFor scope env=pure cl/\(∀x c,cl.lookup x=some c->env.cells.lookup x=some c)/\(∀x,(x,NameKind.free)∈scope.names->∃c,cl.lookup x=some c):=by
 obtain⟨cl,e,h1,h2⟩:=Ek env scope.names [] h (λ x c e=>by simp at e);refine⟨cl,?_,h1,λ x hx=>h2 x (.inr hx)⟩;have e2:closureFor scope env=(forIn scope.names [] (λ(x:Str×NameKind)(r:List (Str×Addr))=>if (x.2==.free)=true then (cellOf env x.1 >>= λ c=>pure (ForInStep.yield ((x.1,c)::r))) else pure (ForInStep.yield r)) >>= λ r=>pure r:Sem (List (Str×Addr))):=by
  rfl
 rw[e2,e];rfl
abbrev AG(X:Cx)(scope:Scope)(cl:List (Str×Addr))(N:LSz)(C:Addr)(s:Shared)(H:Hp)(ex:List Addr):Cx :=
 { X with N:=N,s₀:=s,H₀:=H,env:=compEnvC scope cl C X.env,outer:=X.stack,ex:=ex,fn:=λ_=>false,pn:=[],xe:=λ_ _=>False }
def DL(osc:Scope)(oN:LSz)(sc:Scope)(N:LSz)(fr:List (Option Nat)):Bool :=
 decide (sc.kind=.function)&&sc.names.all (λ y=>decide (y.2≠.cell))&&sc.names.all (λ y=>decide (y.2≠.free)||Pa (osc.names.lookup y.1)) &&
 sc.names.all (λ y=>decide (y.2≠.local)||decide (sc.names.lookup y.1=some .local)) &&
 (N.zip fr).all (λ y=>match y.2 with
  |none=>true
  |some i=>decide (oN[i]?=some y.1)&&Pa (osc.names.lookup y.1)&&decide (sc.names.lookup y.1=some .free))&&decide (N.length=fr.length)
structure EK(osc:Scope)(oN:LSz)(sc:Scope)(N:LSz)(fr:List (Option Nat)):Prop where
 kind:sc.kind=.function
 nocell:∀y∈sc.names,y.2≠.cell
 free:∀y∈sc.names,y.2=.free->Pa (osc.names.lookup y.1)=true
 loc:∀y∈sc.names,y.2=.local->sc.names.lookup y.1=some .local
 slots:∀(j:Nat)(x:Str)(i:Nat),N[j]?=some x->fr[j]?=some (some i)->oN[i]?=some x/\Pa (osc.names.lookup x)=true/\sc.names.lookup x=some .free
 len:N.length=fr.length
theorem CY{osc:Scope}{oN:LSz}{sc:Scope}{N:LSz}{fr:List (Option Nat)}(h:DL osc oN sc N fr=true):EK osc oN sc N fr:=by
 unfold DL at h;simp only[Bool.and_eq_true,List.all_eq_true,decide_eq_true_eq,Bool.or_eq_true]at h;obtain⟨⟨⟨⟨⟨h1,h2⟩,h3⟩,h4⟩,h5⟩,h6⟩:=h;refine⟨h1,h2,λ y hy e=>(h3 y hy).resolve_left λ z=>z e,λ y hy e=>(h4 y hy).resolve_left λ z=>z e,λ j x i e1 e2=>?_,h6⟩;have hm:(x,some i)∈N.zip fr:=by
  have:(N.zip fr)[j]?=some (x,some i):=by rw[List.getElem?_zip_eq_some];exact⟨e1,e2⟩
  exact List.mem_of_getElem? this
 have:=h5 _ hm;simp only[Bool.and_eq_true,decide_eq_true_eq]at this;exact⟨this.1.1,this.1.2,this.2⟩
def stC(fr:List (Option Nat))(σ:St):St:=fr.map λ o=>o.bind λ i=>(σ[i]?).join
def O1(wi:TI)(g:TG)(te:TE)(fr:List (Option Nat)):TE:=λ σ H Q=>wi σ H λ J H1=>∀acc,H1 acc=none->∃W:Nat->Nat->St->Hp->Prop,(∃m,W 0 m (stC fr σ) (upd H1 acc (.lst [])))/\∀i m σ1 H2,W i m σ1 H2 ->
 (J.stop i H2/\Q (.ref acc) H2)\/(J.go i H2/\∀x H3,J.yld i H2 x H3->g x σ1 H3 λ σ4 H4=>te σ4 H4 λ v H5=>∃xs,H5 acc=some (.lst xs)/\xs.length<sizeLine/\∃m',m'<m/\W (i+1) m' σ4 (upd H5 acc (.lst (xs++[v]))))
section
variable{prog:Program}{w:World}{A:Around}{R:Result->Shared->Prop}{s:Shared}
theorem Kc{elt target iter:Expr}{scope:Scope}{pos:Pos}{it acc:Value}{env:Env}(I:Nat->Shared->Prop)
    (turn:∀n s,I n s->wpAny (model prog w) A (pyNext it) (λ r s₁=>match r with
      |none=>R (.ok .next) s₁
      |some v=>wpAny (model prog w) A (letOwnedTupleGo target it v) (λ_ s₁=>wpAny (model prog w) A (assign target env v) (λ_ s₂=>wpAny (model prog w) A (eval elt env) (λ x s₃ =>
          wpAny (model prog w) A (call (.builtin "list.append") [acc,x]) (λ_ s₄=>∃m,m<n/\I m s₄) (notedBy (model prog w) A env λ e s'=>R (.error e) s') s₃)
          (notedBy (model prog w) A env λ e s'=>R (.error e) s') s₂) (notedBy (model prog w) A env λ e s'=>R (.error e) s') s₁) (notedBy (model prog w) A env λ e s'=>R (.error e) s') s₁) (notedBy (model prog w) A env λ e s'=>R (.error e) s') s)
    (n:Nat) (h:I n s) :
    codeAny (model prog w) A (.compLoop (.ListComp elt [⟨target,iter,[],0⟩] scope pos) 0 it acc env) R s:=by
  refine codeAny_loop rfl I (λ n s hI=>?_) n h;show wpAny _ _ ((compTurn (.ListComp elt [⟨target,iter,[],0⟩] scope pos) 0 it acc env).onRaise (λ x=>do noteFrame x env;theTreesLotGoes x)) _ _ s;refine wpAny_noted ?_;rw[compTurn_list1];refine wpAny_bind (wpAny_standAt (wpAny_bind (wpAny_mono (turn n s hI) (λ r s₁ h₁=>?_) λ_ _ h'=>h')));cases r with
  |none=>exact wpAny_pure h₁
  |some v =>
    refine wpAny_bind (wpAny_mono h₁ (λ_ s₁ h₁=>?_) λ_ _ h'=>h');exact wpAny_bind (wpAny_mono h₁ (λ_ s₂ h₂=>wpAny_bind (wpAny_bind (wpAny_mono h₂ (λ x s₃ h₃=>wpAny_bind (wpAny_mono h₃
      (λ_ s₄ h₄=>wpAny_pure (wpAny_pure ⟨rfl,h₄⟩)) λ_ _ h'=>h')) λ_ _ h'=>h'))) λ_ _ h'=>h')
end
theorem Bs{α:Type}{M:Model}{A:Around}{t:Sem α}{Q:α->Shared->Prop}{E:VPz}{s:Shared}(h:wpAny M A t Q (λ_ _=>False) s):wpAny M A t Q E s :=
 wpAny_mono h (λ_ _ q=>q) λ_ _ z=>z.elim
theorem LN{scope:Scope}{env:Env}(hc:∀y∈scope.names,y.2≠.cell){x:Str}(h:(relabel scope env).names.lookup x=some .cell\/(relabel scope env).names.lookup x=some .free):(x,NameKind.free)∈scope.names:=by
 have key:∀(l:List (Str×NameKind)),(∀y∈l,y.2≠.cell)->((l.map λ(n,k)=>if (k==NameKind.free&&env.scope.kind==.function&&env.kindOf n==some .cell) then (n,NameKind.cell) else (n,k)).lookup x=some .cell \/
   (l.map λ(n,k)=>if (k==NameKind.free&&env.scope.kind==.function&&env.kindOf n==some .cell) then (n,NameKind.cell) else (n,k)).lookup x=some .free)->(x,NameKind.free)∈l:=by
  intro l
  induction l with
  |nil=>intro _ h;simp at h
  |cons y r ih =>
   obtain⟨n,k⟩:=y;intro hc h;have hr:∀y∈r,y.2≠.cell:=λ y hy=>hc y (List.mem_cons_of_mem _ hy);have hk:k≠.cell:=hc (n,k) List.mem_cons_self;rw[List.map_cons]at h;by_cases hxn:x=n
   .subst hxn;have hkf:k=.free:=by
     by_cases hb:(k==NameKind.free&&env.scope.kind==.function&&env.kindOf x==some .cell)=true
     .simp only[Bool.and_eq_true,beq_iff_eq]at hb;exact hb.1.1
     .simp only[hb,if_neg,Bool.false_eq_true,if_false]at h;simp only[List.lookup_cons,beq_self_eq_true]at h;rcases h with h|h
      .exact absurd (Option.some.inj h) hk
      .exact Option.some.inj h
    rw[hkf];exact List.mem_cons_self
   .have hb:(x==n)=false:=by simpa using hxn
    refine List.mem_cons_of_mem _ (ih hr ?_);by_cases hq:(k==NameKind.free&&env.scope.kind==.function&&env.kindOf n==some .cell)=true
    .simp only[hq,if_true,List.lookup_cons,hb]at h;exact h
    .simp only[hq,Bool.false_eq_true,if_false,List.lookup_cons,hb]at h;exact h
 exact key scope.names hc h
theorem Ez{env:Env}{x:Str}:∀{l:List (Str×NameKind)},l.lookup x=some .free ->
  ((l.map λ(n,k)=>if (k==NameKind.free&&env.scope.kind==.function&&env.kindOf n==some .cell) then (n,NameKind.cell) else (n,k)).lookup x=some .cell \/
   (l.map λ(n,k)=>if (k==NameKind.free&&env.scope.kind==.function&&env.kindOf n==some .cell) then (n,NameKind.cell) else (n,k)).lookup x=some .free)
 |[],h=>by simp at h
 | (n,k)::r,h=>by
  rw[List.map_cons];by_cases hxn:x=n
  .subst hxn;simp only[List.lookup_cons,beq_self_eq_true]at h;have hk:=Option.some.inj h;subst hk;by_cases hq:(NameKind.free==NameKind.free&&env.scope.kind==.function&&env.kindOf x==some .cell)=true
   .left
    show List.lookup x ((if (NameKind.free==NameKind.free&&env.scope.kind==.function&&env.kindOf x==some .cell)=true then (x,NameKind.cell) else (x,NameKind.free))::_)=_;rw[if_pos hq,List.lookup_cons,beq_self_eq_true]
   .right
    show List.lookup x ((if (NameKind.free==NameKind.free&&env.scope.kind==.function&&env.kindOf x==some .cell)=true then (x,NameKind.cell) else (x,NameKind.free))::_)=_;rw[if_neg hq,List.lookup_cons,beq_self_eq_true]
  .have hb:(x==n)=false:=by simpa using hxn
   simp only[List.lookup_cons,hb]at h;have ih:=Ez (env:=env) h;by_cases hq:(k==NameKind.free&&env.scope.kind==.function&&env.kindOf n==some .cell)=true
   .simp only[hq,if_true,List.lookup_cons,hb];exact ih
   .simp only[hq,Bool.false_eq_true,if_false,List.lookup_cons,hb];exact ih
theorem KW{x:Str}{k:NameKind}:∀{l:List (Str×NameKind)},l.lookup x=some k->(x,k)∈l
 |[],h=>by simp at h
 | (n,j)::r,h=>by
  by_cases e:x=n
  .subst e;simp only[List.lookup_cons,beq_self_eq_true]at h;rw[<-Option.some.inj h];exact List.mem_cons_self
  .have hb:(x==n)=false:=by simpa using e
   simp only[List.lookup_cons,hb]at h;exact List.mem_cons_of_mem _ (KW h)
section
variable{X:Cx}{elt tg iter:Expr}{scope:Scope}{pos:Pos}{wi:TI}{g:TG}{te:TE}{N:LSz}{fr:List (Option Nat)}
theorem Hl{pins:PNz}{σ:St}{H:Hp}{s s1:Shared}{cl:List (Str×Addr)}{ex:List Addr}{C:Addr}{m:MGz}(I:Inv X pins σ H s)(ck:EK X.env.scope X.N scope N fr)
    (c1:∀x c,cl.lookup x=some c->X.env.cells.lookup x=some c) (c2:∀x,(x,NameKind.free)∈scope.names->∃c,cl.lookup x=some c) (hex:∀b∈ex,Fs X pins H b/\b<s.heap.objs.size) (hC:s.heap.objs.size<=C)
    (hn:s1.heap.Ns C m) (k:∀b o,s.heap.get? b=some o->s1.heap.get? b=some o) (ho:s1.os=s.os) (hg:s1.gens=s.gens) :
    Inv (AG X scope cl N C s H ex) [] (stC fr σ) H s1:=by
  have lt_ne:∀{b:Addr}{o:Obj},s.heap.get? b=some o->b≠C:=λ e=>Nat.ne_of_lt (Nat.lt_of_lt_of_le (Heap.lt_size e) hC);have ok:(AG X scope cl N C s H ex).Ok :=
    { mod:=I.ok.mod
      kind:=ck.kind
      glob:=I.ok.glob
      blt:=I.ok.blt
      above:=hC
      inj:=λ x y c e1 e2=>I.ok.inj x y c (c1 x c e1) (c1 y c e2)
      has:=λ x h=>c2 x (LN ck.nocell h)
      cab:=λ x c z=>by cases z
      hd:=I.ok.hd
      frames:=I.ok.frames
      stk:=.inl rfl
      exf:=λ b hb=>⟨Nat.ne_of_lt (Nat.lt_of_lt_of_le (hex b hb).2 hC),λ x c e=>(hex b hb).1.2.2.2.2.1 x c (c1 x c e)⟩
      bs:=I.bs
      bsz:=Nat.le_trans I.ok.bsz I.sz
      noex:=λ b o e hb=>by
        rcases(hex b hb).1.2.2.2.1 with z|z
        · exact I.ok.noex b o e z
        · exact absurd (Nat.lt_of_lt_of_le (Heap.lt_size e) (Nat.le_trans I.ok.bsz z)) (Nat.lt_irrefl _)
      exfs:=λ b hb hz=>by
        rcases List.mem_cons.mp (I.stkSub b hz) with z|z
        · exact(hex b hb).1.2.1 z
        · exact(hex b hb).1.2.2.1 z
      funs:=I.stack
      frf:=I.stkFree }
  refine⟨ok,ho,by rw[hg];exact I.bare,Un.kept k,⟨m,hn,λ j x v e1 e2 e3=>?_⟩,λ x c e=>?_,I.hok.fresh hC,λ x c e=>I.freeC x c (c1 x c e),λ p hp=>by simp at hp,I.hok.kept k,?_⟩
  · have e1':N[j]?=some x:=e1
    unfold stC at e2;rw[List.getElem?_map]at e2;cases q:fr[j]? with
    |none=>rw[q]at e2;cases e2
    |some o =>
      rw[q]at e2;cases o with
      |none =>
        have:(none:Option V)=some v:=Option.some.inj e2;cases this
      |some i =>
        have e2':(σ[i]?).join=some v:=Option.some.inj e2;obtain⟨s1',s2',s3'⟩:=ck.slots j x i e1' q;have hσ:σ[i]?=some (some v):=by
          cases z:σ[i]? with
          |none=>rw[z]at e2';cases e2'
          |some y=>rw[z]at e2';exact congrArg some e2'
        have hcf:=Nc s2';obtain⟨m0,hn0,hl⟩:=I.loc;obtain⟨u,r,lk⟩:=hl i x v s1' hσ (Or.inr hcf);refine⟨u,r,Or.inr ⟨Ez s3',?_⟩⟩;obtain⟨c,hc⟩:=c2 x (KW s3');refine⟨c,hc,?_⟩;rcases lk with ⟨z,_⟩|⟨_,c',hc',hv⟩
        · rcases hcf with y|y
          · have z':X.env.scope.names.lookup x=some .local:=z
            rw[y]at z';cases z'
          · have z':X.env.scope.names.lookup x=some .local:=z
            rw[y]at z';cases z'
        · have:=c1 x c hc
          rw[hc']at this;cases this;exact hv.keeps k
  · obtain⟨v,z⟩:=I.cell x c (c1 x c e)
    exact⟨v,z.keeps k⟩
  · unfold stC
    rw[List.length_map];exact ck.len.symm
theorem IW{pins:PNz}{σ:St}{H:Hp}{s:Shared}{Q:VK}{cl:List (Str×Addr)}{R:Value->Addr->Result->Shared->Prop}(hc:X.calm=true)(I:Inv X pins σ H s)(hi:PI X tg iter wi)
  (hg:∀cl C s H ex,PG (AG X scope cl N C s H ex) tg g) (he:∀cl C s H ex,PE (AG X scope cl N C s H ex) elt te) (ck:EK X.env.scope X.N scope N fr)
  (c1:∀x c,cl.lookup x=some c->X.env.cells.lookup x=some c) (c2:∀x,(x,NameKind.free)∈scope.names->∃c,cl.lookup x=some c)
  (h:O1 wi g te fr σ H Q)
  (hR:∀acc C s' H' m,s'.heap.Ns C m->Fs X pins H' C->Inv X pins σ H' s'->Q (.ref acc) H'->R (.ref acc) C (.ok .next) s') :
  wpAny (model X.prog X.w) X.A (eval iter X.env) (λ x s₁=>wpAny (model X.prog X.w) X.A (pyIter x) (λ it s₂=>wpAny (model X.prog X.w) X.A (newList []) (λ acc s₃ =>
   wpAny (model X.prog X.w) X.A (newFunctionEnv scope X.env.globals cl [] X.env.qual none .none (some X.env)) (λ cenv s₄ =>
    codeAny (model X.prog X.w) X.A (.compStart (.ListComp elt [⟨tg,iter,[],0⟩] scope pos) 0 it acc { cenv with scope:=relabel scope X.env }) (R acc cenv.locals) s₄) X.xe s₃) X.xe s₂) X.xe s₁) X.xe s:=by
 refine thn (hi pins s σ H _ I h) λ v s1 h1=>thn h1 λ itv s2 h2=>?_;obtain⟨it,fp,tn,J,H2,e,I2,T,st2,f2,q2⟩:=h2;subst e;refine wpAny_newObj_type (wpAny_newFunctionEnv ck.nocell (by intro y hy;simp at hy) (λ h₁ hns₁ hsb₁=>?_) ck.kind);dsimp only at hns₁ hsb₁ |-;have I3:Inv X pins σ (upd H2 s2.heap.objs.size (.lst [])) { s2 with heap:=s2.heap.push { cls:=.type "list",dict:=none,data:=.seq ([]:LWz).toArray } }:=I2.lnew (t':=s2.toks) (its:=[]) .nil (Nat.zero_le _);have acc0:H2 s2.heap.objs.size=none:=I2.fresh;obtain⟨W,⟨m0,w0⟩,turn⟩:=q2 s2.heap.objs.size acc0;generalize hH3:s2.heap.push { cls:=.type "list",dict:=none,data:=.seq ([]:LWz).toArray }=h3 at hns₁ hsb₁ I3 |-;have hz3:h3.objs.size=s2.heap.objs.size+1:=by rw[<-hH3,Heap.size_push]
 have k23:∀b o,s2.heap.get? b=some o->h3.get? b=some o:=λ b o e=>by rw[<-hH3];exact Heap.get?_push_of_some _ e
 have k34:∀b o,h3.get? b=some o->h₁.get? b=some o:=λ b o e=>hsb₁.extBut b o (Nat.ne_of_lt (Heap.lt_size e)) (Heap.get?_push_of_some _ e);have fpo:∀b∈fp,∃o,s2.heap.get? b=some o/\∀v,o.data≠.cell v:=T.obj 0 _ st2;have hex:∀b∈fp,Fs X pins (upd H2 s2.heap.objs.size (.lst [])) b/\b<h3.objs.size:=λ b hb=>by
  obtain⟨o,eo,_⟩:=fpo b hb;have lt:=Heap.lt_size eo;obtain⟨f0,fr'⟩:=f2 b hb;exact⟨⟨by rw[Ah (Nat.ne_of_lt lt)];exact f0,fr'⟩,by rw[hz3];exact Nat.lt_succ_of_lt lt⟩
 have I4:Inv (AG X scope cl N h3.objs.size { s2 with heap:=h3 } (upd H2 s2.heap.objs.size (.lst [])) fp) [] (stC fr σ) (upd H2 s2.heap.objs.size (.lst [])) { s2 with heap:=h₁,toks:=s2.toks+([]:List (Str×Value)).length } :=
  Hl I3 ck c1 c2 hex (Nat.le_refl _) hns₁ k34 rfl rfl
 have stat:∀{H':Hp},(∀b∈fp,H' b=none)->∀b∈fp,Fs (AG X scope cl N h3.objs.size { s2 with heap:=h3 } (upd H2 s2.heap.objs.size (.lst [])) fp) [] H' b:=λ hn b hb =>
  ⟨hn b hb,(I4.ok.exf b hb).1,I4.ok.exfs b hb,.inl hb,(I4.ok.exf b hb).2,λ p hp=>by simp at hp⟩
 have stn:∀i h h',tn i h->(∀b o,h.get? b=some o->h'.get? b=some o)->tn i h':=λ i h h' st kk=>T.keep i h h' st λ b _ o e=>kk b o e;have loop:codeAny (model X.prog X.w) X.A (.compLoop (.ListComp elt [⟨tg,iter,[],0⟩] scope pos) 0 (.ref it) (.ref s2.heap.objs.size) (compEnvC scope cl h3.objs.size X.env)) (R (.ref s2.heap.objs.size) h3.objs.size)
   { s2 with heap:=h₁,toks:=s2.toks+([]:List (Str×Value)).length }:=by
  refine Kc (λ n s'=>∃i σ' H',Inv (AG X scope cl N h3.objs.size { s2 with heap:=h3 } (upd H2 s2.heap.objs.size (.lst [])) fp) [] σ' H' s'/\tn i s'.heap/\(∀b∈fp,H' b=none)/\W i n σ' H') ?_ m0
   ⟨0,_,_,I4,stn _ _ _ st2 λ b o e=>k34 b o (k23 b o e),λ b hb=>(hex b hb).1.1,w0⟩
  rintro n s3 ⟨i,σ3,H3,J3,st3,fr3,w3⟩;rcases turn i n σ3 H3 w3 with ⟨stop,qn⟩|⟨go,step⟩
  .refine Bs (thn (T.done (AG X scope cl N h3.objs.size { s2 with heap:=h3 } (upd H2 s2.heap.objs.size (.lst [])) fp) rfl rfl rfl hc i [] s3 σ3 H3 (λ_ _=>False) J3 (stat fr3) st3 stop) λ r s4 hz_=>?_);obtain⟨hr,J4⟩:=hz_;subst hr;obtain⟨mc,hmc,_⟩:=J4.loc;have I5:Inv X pins σ H3 s4:=I3.call' (ch:=fp) J4.os J4.base J4.hok J4.bare λ b hb=>⟨(hex b hb).1.2.2.2.1,(hex b hb).1.2.1,(hex b hb).1.2.2.2.2.1,(hex b hb).1.2.2.2.2.2⟩;exact hR _ _ s4 H3 mc hmc (I3.fpOk (Nat.le_refl _) J4.free) I5 qn
  .refine Bs (thn (T.item (AG X scope cl N h3.objs.size { s2 with heap:=h3 } (upd H2 s2.heap.objs.size (.lst [])) fp) rfl rfl rfl hc i [] s3 σ3 H3 (λ_ _=>False) J3 (stat fr3) st3 go) λ r s4 hz_=>?_);obtain⟨u,hr,h4⟩:=hz_;subst hr;refine Bs (thn h4 λ_ s5 hz_=>?_);obtain⟨x,H5,J5,r5,y5,st5,fr5⟩:=hz_;have J5':=J5.pinned (stat fr5) (T.obj _ _ st5);refine Bs (thn (hg _ _ _ _ _ _ s5 σ3 H5 x u _ J5' r5 (step x H5 y5)) λ_ s6 hz_=>?_);obtain⟨σ6,H6,J6,q6⟩:=hz_;refine Bs (thn (he _ _ _ _ _ _ s6 σ6 H6 _ J6 q6) λ y s7 hz_=>?_);obtain⟨v7,H7,J7,r7,xs,hx,hz,m',hm',w7⟩:=hz_;refine Bs (thn (AD _ s7 σ6 H7 (.ref s2.heap.objs.size) [v7] (.ref s2.heap.objs.size) [y] (λ v H8=>H8=upd H7 s2.heap.objs.size (.lst (xs++[v7]))) J7 rfl (.cons r7 .nil) ⟨_,xs,v7,rfl,rfl,hx,hz,rfl⟩) λ_ s8 hz_=>?_);obtain⟨_,H8,J8,_,e8⟩:=hz_;subst e8;refine⟨m',hm',i+1,σ6,_,J8.unpinned,T.keep _ _ _ st5 λ b hb o e=>(J8.pin (b,o) (List.mem_append_right _ (List.mem_append_right _ (AX hb e)))).1,λ b hb=>?_,w7⟩;obtain⟨o,e,d⟩:=T.obj _ _ st5 b hb;exact(J8.pin (b,o) (List.mem_append_right _ (List.mem_append_right _ (AX hb e)))).2.1
 exact codeAny_compStart_list loop (T.self _ 0 _ _ _ (stn _ _ _ st2 λ b o e=>k34 b o (k23 b o e)) loop)
theorem Gc(I:X.Ok)(ck:EK X.env.scope X.N scope N fr):∃cl,closureFor scope X.env=pure cl/\(∀x c,cl.lookup x=some c->X.env.cells.lookup x=some c)/\(∀x,(x,NameKind.free)∈scope.names->∃c,cl.lookup x=some c) :=
 Mu λ y hy e=>I.has y.1 (Nc (ck.free y hy e))
theorem MS(hc:X.calm=true)(hi:PI X tg iter wi)(hg:∀cl C s H ex,PG (AG X scope cl N C s H ex) tg g)(he:∀cl C s H ex,PE (AG X scope cl N C s H ex) elt te)
  (hk:DL X.env.scope X.N scope N fr=true:=by rfl) (hs:∀x,foldedSetIterable iter X.env x=pure x:=by intro _;rfl):PE X (.ListComp elt [⟨tg,iter,[],0⟩] scope pos) (O1 wi g te fr):=by
 intro pins s σ H Q I h;have ck:=CY hk;obtain⟨cl,e1,c1,c2⟩:=Gc I.ok ck;rw[eval_ListComp];refine wpAny_comprehension_free (use:=none) (Q:=EP X pins σ Q) rfl hs e1 ck.kind ck.loc (IW (R:=λ acc C=>compPost (model X.prog X.w) X.A X.xe none (EP X pins σ Q) acc C) hc I hi hg he ck c1 c2 h λ acc C s' H' m hn f I' q=>?_);obtain⟨f0,f1,f2,f3,f4,f5⟩:=f;exact⟨m,hn,λ h' hs'=>⟨.ref acc,H',I'.turned (t':=s'.toks) (λ b o hb e=>hs'.extBut b o hb e) f0 f1 f3 f4 f5,rfl,q⟩⟩
theorem LO{y:Str}{py spos:Pos}{gy:TG}(hc:X.calm=true)(hy:PG X (.Name y py) gy)(hi:PI X tg iter wi)(hg:∀cl C s H ex,PG (AG X scope cl N C s H ex) tg g)(he:∀cl C s H ex,PE (AG X scope cl N C s H ex) elt te)
    (hk:DL X.env.scope X.N scope N fr=true:=by rfl) (hsw:swapsWith (.ListComp elt [⟨tg,iter,[],0⟩] scope pos) (some (.Name y py)) spos.line X.env=pure true:=by rfl) (hs:∀x,foldedSetIterable iter X.env x=pure x:=by intro _;rfl) :
    PS X (.Assign [.Name y py] (.ListComp elt [⟨tg,iter,[],0⟩] scope pos) spos) (Qi (O1 wi g te fr) gy):=by
  intro pins s σ H D I h;have ck:=CY hk;obtain⟨cl,e1,c1,c2⟩:=Gc I.ok ck;rw[exec_Assign_Name_used _ _ _ _ hsw];refine wpAny_bind (wpAny_standAt (wpAny_bind ?_));show wpAny _ X.A (do let _ <-comprehension (.ListComp elt [⟨tg,iter,[],0⟩] scope pos) scope X.env _ (newList []) false (eval iter X.env) (some (assign (.Name y py) X.env))) _ _ s;refine wpAny_bind (wpAny_mono (wpAny_comprehension_free (use:=some (assign (.Name y py) X.env)) (Q:=λ_ s'=>SP X pins D .next s') rfl hs e1 ck.kind ck.loc
    (IW (R:=λ acc C=>compPost (model X.prog X.w) X.A X.xe (some (assign (.Name y py) X.env)) (λ_ s'=>SP X pins D .next s') acc C) hc I hi hg he ck c1 c2 h λ acc C s' H' m hn f I' q=>?_)) (λ_ s' hq=>wpAny_pure (wpAny_pure hq)) λ_ _ e=>e)
  show wpAny _ X.A (assign (.Name y py) X.env (.ref acc)) _ _ _;obtain⟨oC,es,ep,hoC,hdC,hrC⟩:=id hn;have IP:=I'.pinned (fp:=[C]) (λ b hb=>by rw[List.mem_singleton.mp hb];exact f) (λ b hb=>by rw[List.mem_singleton.mp hb];exact⟨oC,hoC,λ v z=>by rw[hdC]at z;cases z⟩);refine thn (hy _ s' σ H' (.ref acc) (.ref acc) _ IP rfl q) λ_ s'' ⟨σ6,H6,I6,q6⟩=>?_;have pC:=I6.pin (C,oC) (List.mem_append_right _ (List.mem_append_right _ (AX (List.mem_singleton.mpr rfl) hoC)));obtain⟨f0,f1,f2,f3,f4,f5⟩:=f;exact⟨m,⟨oC,es,ep,pC.1,hdC,hrC⟩,λ h' hs'=>⟨σ6,H6,I6.unpinned.turned (t':=s''.toks) (λ b o hb e=>hs'.extBut b o hb e) pC.2.1 f1 f3 f4 f5,q6⟩⟩
end
section
variable{X:Cx}
def R1(_ j:Int):Prop:=0<j/\j.natAbs.log2<9000
theorem E6:OpR X (binaryOp .FloorDiv) (rI R1 λ i j=>.int (i / j)):=opI λ i j _ _ _ _ _ hc q=>by
 have h1:(0:Int)<j:=hc.1;exact floordiv_int (by lia) (by rw[Int.fdiv_eq_ediv_of_nonneg i (by lia)];exact q) (.inl (PyProof.noPylong_of_log2 hc.2))
theorem FW:OpR X (binaryOp .Mult) (rI IntMulOk λ i j=>.int (i*j)):=opI λ_ _ _ _ _ _ _ hc q=>mul_int q hc
theorem GP{n k:Nat}(hk:0<k)(h:n<2^k):n.log2<k:=by
 rcases Nat.eq_zero_or_pos n with h0|hp
 .rw[h0];simpa using hk
 .exact(Nat.log2_lt (Nat.ne_of_gt hp)).mpr h
theorem Hc{z:Int}{k:Nat}(hk:0<k)(h:z.natAbs<2^k):Builtin.Int.intBits z<=k:=by
 unfold Builtin.Int.intBits;split
 .exact Nat.zero_le _
 .exact GP hk h
theorem OP{a b:Int}(h1:a.natAbs<2^128)(h2:b.natAbs<2^128):IntMulOk a b:=by
 have e1:=Hc (by decide) h1;have e2:=Hc (by decide) h2;unfold IntMulOk Builtin.Int.intTooBig;intro h;simp only[Bool.and_eq_true,decide_eq_true_eq]at h;have h3:=h.2;have hb:(256:Int)<=(bitsLine:Int):=by decide +kernel
 lia
def tyO:Option HO->Option String
 |some (.lst _)=>some "list"
 |some (.frz _ (.lst _))=>some "list"
 |some (.tup _)=>some "tuple"
 |some (.dK _)=>some "dict"
 |some (.dT _)=>some "dict"
 |_=>none
def tyS(H:Hp):V->Option String
 |.non=>some "NoneType"
 |.bl _=>some "bool"
 |.int _=>some "int"
 |.str _=>some "str"
 |.ref a=>tyO (H a)
 |_=>none
theorem R5{K:Frag}{H:Hp}{x:V}{T:String}(h:tyS H x=some T):Fq K H x (.type T)/\(T="NoneType"\/T="bool"\/T="int"\/T="str"\/T="list"\/T="tuple"\/T="dict"):=by
 unfold tyS at h;split at h
 .cases h;exact⟨.non,by simp⟩
 .cases h;exact⟨.bl _,by simp⟩
 .cases h;exact⟨.int _,by simp⟩
 .cases h;exact⟨.str _,by simp⟩
 .unfold tyO at h;split at h
  .rename_i e;cases h;exact⟨.lst e,by simp⟩
  .rename_i e;cases h;exact⟨.frz e,by simp⟩
  .rename_i e;cases h;exact⟨.tup e,by simp⟩
  .rename_i e;cases h;exact⟨.dK e,by simp⟩
  .rename_i e;cases h;exact⟨.dT e,by simp⟩
  .cases h
 .cases h
def isB(T c:String):Bool:=decide (T=c)||(decide (T="bool")&&decide (c="int"))
theorem QH{K:Frag}{T c:String}(h:T="NoneType"\/T="bool"\/T="int"\/T="str"\/T="list"\/T="tuple"\/T="dict")(hc:c="int"\/c="bool"\/c="tuple"\/c="list"\/c="str") :
  kitOne K (.type T) (.type c)=some (isB T c):=by
 rcases h with rfl|rfl|rfl|rfl|rfl|rfl|rfl<;>rcases hc with rfl|rfl|rfl|rfl|rfl<;>rfl
inductive Rz(xs:LUz)(H:Hp)(Q:VK):Prop
 |mk (x:V) (T c:String) (e:xs=[x,.ty c]) (t:tyS H x=some T) (h:c="int"\/c="bool"\/c="tuple"\/c="list"\/c="str") (q:Q (.bl (isB T c)) H):Rz xs H Q
theorem BO:EL X (.builtin "isinstance") (λ xs H Q=>Rz xs H Q):=by
 intro pins s σ H xs us Q I r h;obtain⟨x,T,c,rfl,hT,hc,q⟩:=h;obtain⟨u,w',rfl,rx,ry⟩:=MA r;cases(show w'=Value.type c from ry);obtain⟨ty,hl⟩:=R5 (K:=X.K) hT;exact IQ I rx ty (QH hl hc) λ tk=>⟨.bl (isB T c),H,I.tok tk,rfl,q⟩
theorem Oj{bs:List Bool}{its:LWz}(r:Vals (bs.map V.bl) its){i:Nat}{v:Value}(h:its.toArray[i]?=some v):v=.bool (bs.getD i false):=by
 have hl:=r.length;have hi:i<its.length:=by
  have:=(Array.getElem?_eq_some_iff.mp h).1
  simpa using this
 have hb:bs[i]?=some (bs.getD i false):=by
  have:i<bs.length:=by rw[List.length_map]at hl;lia
  rw[List.getD_eq_getElem?_getD,List.getElem?_eq_getElem this];rfl
 obtain⟨u,hu,ru⟩:=r.get (i:=i) (x:=.bl (bs.getD i false)) (by rw[List.getElem?_map,hb];rfl);have h':its[i]?=some v:=by simpa using h
 rw[h']at hu;cases hu;exact ru
theorem NG{α:Type}(bs:List Bool):(List.range bs.length).any (λ i=>bs.getD i false)=bs.any id:=by
 have e:(List.range bs.length).map (λ i=>bs.getD i false)=bs:=by
  apply List.ext_getElem?;intro i;rw[List.getElem?_map];by_cases h:i<bs.length
  .rw[List.getElem?_range h,List.getElem?_eq_getElem h,Option.map_some,List.getD_eq_getElem?_getD,List.getElem?_eq_getElem h];rfl
  .rw[List.getElem?_eq_none (by simpa using h),List.getElem?_eq_none (by lia)];rfl
 conv=>rhs;rw[<-e]
 rw[List.any_map];rfl
theorem Ks{prog:Program}{w:World}{A:Around}{bs:List Bool}{its:LWz}(r:Vals (bs.map V.bl) its):TruthOf prog w A (λ i v=>its.toArray[i]?=some v) (λ i=>bs.getD i false):=by
 intro i v s Q E hv hq;have e:=Oj r hv;subst e;exact wpAny_truthy_bool hq
theorem Li:EL X (.builtin "any") (λ xs H Q=>∃(p:Addr)(bs:List Bool),xs=[.ref p]/\SqL X.K H p (bs.map V.bl)/\X.calm=true/\Q (.bl (bs.any id)) H):=by
 intro pins s σ H xs us Q I r h;obtain⟨p,bs,rfl,hp,hc,q⟩:=h;obtain⟨u,rfl,ru⟩:=Ft r;cases ru;obtain⟨its,rv,pl,hz⟩:=I.list hp;have hl:=rv.length;rw[List.length_map]at hl;refine call_any_walk (wpAny_pyIter_list pl.isList ?_);have hlt:p<s.heap.objs.size:=by obtain⟨o,ho,_⟩:=pl.isList;exact Heap.lt_size ho
 refine⟨s.heap.objs.size,_,_,_,_,_,_,rfl,Walks.list (show X.A.in1.handled=none from I.ok.hd hc) s.heap.objs.size p (Nat.ne_of_lt hlt) its.toArray,⟨⟨_,Heap.get?_push_size _ rfl,rfl,rfl⟩,let ⟨o,ho,r⟩:=pl.isList;⟨o,Heap.get?_push_of_some _ ho,r⟩⟩,Ks rv,λ h' tk k=>?_⟩;refine⟨.bl (bs.any id),H,I.kept (t':=tk) λ b o e=>k b o (λ z=>?_) (Heap.get?_push_of_some _ e),?_,q⟩
 .have:b=s.heap.objs.size:=by simpa using z
  exact absurd (this ▸ Heap.lt_size e) (Nat.lt_irrefl _)
 .show Value.bool _=Value.bool _;rw[List.size_toArray,<-hl,NG (α:=Nat)]
end
structure Ap(P:Program)(w:World)(K:Frag)(mg:MGz)(base:Heap)(k:Nat)(x:Str)(ps:LSz)(sp:Sp):Prop where
 ex:∃(f:Addr)(fd:FuncData),A5 P w K mg base CX0 k f fd ps sp/\mg x=some (.ref f)/\keepIn K (.ref f)=true/\Binds K fd ps []
section
variable{X:Cx}{k j:Nat}{x:Str}{ps:LSz}{sp:Sp}{p pos:Pos}{e:Expr}{es:List Expr}{t:TA}
theorem Ai(D:Ap X.prog X.w X.K X.mg X.base k x ps sp)(hr:Room j X.A)(ha:PA X (e::es) t)(hj:k<=j:=by decide)(hg:Gl X x:=by rfl)(hdb:(x==("__debug__":Str))=false:=by decide)
  (he:starEach (e::es) X.env=(false,eval e X.env)::starEach es X.env:=by rfl) (hpl:(backTo pos (starEach es X.env)).any (·.1)=false:=by rfl):PE X (.Call (.Name x p) (e::es) [] pos) (MB sp [] E0 t):=by
 obtain⟨f,fd,F,hm,hk,hb⟩:=D.ex;exact MU F (hr.mono hj) hg hm hk hb .nil MW ha hdb he hpl
end
theorem Au{xs:LUz}(n:Nat)(h:xs.length=n:=by rfl)(h2:n<=1000:=by decide):xs.length<=sizeLine:=by rw[h];exact Nat.le_of_lt (A2 h2)
theorem A8{c:Bool}{A B:Prop}(h:c=false)(b:B):if c=true then A else B:=by rw[if_neg (by rw[h];exact Bool.false_ne_true)];exact b
theorem Bo{c:Bool}{A B:Prop}(h1:c=true->A)(h2:c=false->B):if c=true then A else B:=by
 cases c with
 |true=>exact Sc (h1 rfl)
 |false=>exact La (h2 rfl)
def SameX(p:Addr)(H H':Hp):Prop:=∀b o,b≠p->H b=some o->H' b=some o
theorem SameX.trans{p:Addr}{H H1 H2:Hp}(a:SameX p H H1)(b:SameX p H1 H2):SameX p H H2:=λ c o n h=>b c o n (a c o n h)
theorem SameX.upd{p:Addr}{H:Hp}{o:HO}:SameX p H (upd H p o):=λ b u n h=>by rw[Ah n];exact h
theorem Same.new{l:Addr}{H:Hp}{o:HO}(h:H l=none):Same H (L2.upd H l o):=λ b u e=>by rw[Ah (Ag e h)];exact e
theorem SameX.same{p:Addr}{H H0 H':Hp}(a:SameX p H H')(s:Same H0 H)(h:H0 p=none):Same H0 H':=λ b o e=>a b o (Ag e h) (s b o e)
theorem Same.x{p:Addr}{H H':Hp}(a:Same H H'):SameX p H H':=λ b o _ e=>a b o e
def cW(acc:Addr)(n:Nat)(Pv:Nat->LUz->St->Hp->Prop)(i m:Nat)(σ:St)(H:Hp):Prop:=i<=n/\m=n-i/\∃xs,xs.length=i/\H acc=some (.lst xs)/\Pv i xs σ H
def cNx(acc:Addr)(n:Nat)(Pv:Nat->LUz->St->Hp->Prop)(i:Nat)(σ:St)(v:V)(H:Hp):Prop:=∃xs,H acc=some (.lst xs)/\xs.length<sizeLine/\∃m',m'<n-i/\cW acc n Pv (i+1) m' σ (upd H acc (.lst (xs++[v])))
theorem cNx.mk{acc:Addr}{n:Nat}{Pv:Nat->LUz->St->Hp->Prop}{i:Nat}{σ:St}{v:V}{H:Hp}{xs:LUz}(hn:n<=sizeLine)(hi:i<n)(hl:xs.length=i)(ha:H acc=some (.lst xs))(hp:Pv (i+1) (xs++[v]) σ (upd H acc (.lst (xs++[v])))) :
  cNx acc n Pv i σ v H:=⟨xs,ha,by lia,n-(i+1),by lia,hi,rfl,xs++[v],by rw[List.length_append,hl];rfl,upd_same,hp⟩
theorem Fm{K:Frag}{a:Addr}{ys:LUz}{g:TG}{te:TE}{σ:St}{H1:Hp}{acc:Addr}{Qr:Hp->Prop}(Pv:Nat->LUz->St->Hp->Prop)(h0:Pv 0 [] σ (upd H1 acc (.lst [])))
  (hq:∀i xs σ H,i<=ys.length->H acc=some (.lst xs)->Pv i xs σ H->SqL K H a ys)
  (hs:∀i x xs σ H,ys[i]?=some x->i<ys.length->xs.length=i->H acc=some (.lst xs)->Pv i xs σ H->g x σ H λ σ2 H2=>te σ2 H2 λ v H3=>cNx acc ys.length Pv i σ2 v H3)
  (hd:∀xs σ H,xs.length=ys.length->H acc=some (.lst xs)->Pv ys.length xs σ H->Qr H) :
  ∃W:Nat->Nat->St->Hp->Prop,(∃m,W 0 m σ (upd H1 acc (.lst [])))/\∀i m σ1 H2,W i m σ1 H2 ->
   ((Itl K a).stop i H2/\Qr H2)\/((Itl K a).go i H2/\∀x H3,(Itl K a).yld i H2 x H3->g x σ1 H3 λ σ4 H4=>te σ4 H4 λ v H5=>∃xs,H5 acc=some (.lst xs)/\xs.length<sizeLine/\∃m',m'<m/\W (i+1) m' σ4 (upd H5 acc (.lst (xs++[v])))):=by
 refine⟨cW acc ys.length Pv,⟨ys.length,Nat.zero_le _,rfl,[],rfl,upd_same,h0⟩,?_⟩;rintro i m σ1 H2 ⟨hi,rfl,xs,hl,ha,hp⟩;have hsq:=hq i xs σ1 H2 hi ha hp;rcases Nat.lt_or_ge i ys.length with h|h
 .refine .inr ⟨⟨ys,ys[i],hsq,List.getElem?_eq_getElem h⟩,?_⟩;rintro x H3 ⟨rfl,hx⟩;exact hs i x xs σ1 H3 (hx ys hsq) h hl ha hp
 .have e:i=ys.length:=Nat.le_antisymm hi h;subst e;exact .inl ⟨⟨ys,hsq,Nat.le_refl _⟩,hd xs σ1 H2 hl ha hp⟩
section
variable{cmp:Nat->Nat->(Bool->Shared->Prop)->Shared->Prop}{key:Nat->Int}{N:Nat}{s:Shared}
def KP(key:Nat->Int)(p:Array Nat)(i:Nat):Int:=key (p.getD i 0)
def PermN(N:Nat)(p:Array Nat):Prop:=p.toList.Perm (List.range N)
theorem PermN.size{p:Array Nat}(h:PermN N p):p.size=N:=by
 have:=List.Perm.length_eq h;rw[List.length_range]at this
 simpa using this
theorem PermN.lt{p:Array Nat}(h:PermN N p){i:Nat}(hi:i<N):p.getD i 0<N:=by
 have hs:=h.size;have hi':i<p.size:=by lia
 have e:p.getD i 0=p[i]:=by simp[Array.getD,hi']
 rw[e];have hm:p[i]∈p.toList:=by simp
 exact List.mem_range.mp ((List.Perm.mem_iff h).mp hm)
theorem PermN.of{p q:Array Nat}(h:PermN N p)(hq:q.Perm p):PermN N q:=(Array.perm_iff_toList_perm.mp hq).trans h
def Ho(key:Nat->Int)(p:Array Nat)(k:Nat):Prop:=∀i j,i<=j->j<k->KP key p i<=KP key p j
def M7(key:Nat->Int)(p:Array Nat)(k:Nat):Prop:=∀i j,i<=j->j<k->KP key p j<=KP key p i
theorem D8{p q:Array Nat}{i j:Nat}(h:p[i]?=q[j]?):KP key p i=KP key q j:=by
 unfold KP;rw[Array.getD_eq_getD_getElem?,Array.getD_eq_getD_getElem?,h]
theorem HF{p:Array Nat}{i j:Nat}(hj:j<=p.size)(k:Nat):KP key (kas_rev p i j) k=if i<=k/\k<j then KP key p (i+j-1-k) else KP key p k:=by
 have e:=getElem?_mirror_all (i:=i) hj k;by_cases h:i<=k/\k<j
 .rw[if_pos h]at e |-;exact D8 e
 .rw[if_neg h]at e |-;exact D8 e
theorem Jf{p:Array Nat}{src d:Nat}(hs:src<p.size)(hd:d<=src)(k:Nat) :
  KP key (bubble p src d) k=if k=src-d then KP key p src else if src-d<k/\k<=src then KP key p (k-1) else KP key p k:=by
 have e:=getElem?_bubble hs d hd k;by_cases h1:k=src-d
 .rw[if_pos h1]at e |-;exact D8 e
 .rw[if_neg h1]at e |-;by_cases h2:src-d<k/\k<=src
  .rw[if_pos h2]at e |-;exact D8 e
  .rw[if_neg h2]at e |-;exact D8 e
theorem PermN.rev{p:Array Nat}(h:PermN N p)(i j:Nat):PermN N (kas_rev p i j):=h.of (mirror_perm _ _ _ _)
theorem PermN.bub{p:Array Nat}(h:PermN N p)(i j:Nat):PermN N (bubble p i j):=h.of (bubble_perm _ _ _)
theorem Qn{p:Array Nat}{n:Nat}(h:Ho key p n)(hn:1<=n)(hc:KP key p (n-1)<=KP key p n):Ho key p (n+1):=λ i j hij hj=>by
 by_cases e:j=n
 .subst e;by_cases e2:i=j
  .subst e2;exact Int.le_refl _
  .exact Int.le_trans (h i (j-1) (by lia) (by lia)) hc
 .exact h i j hij (by lia)
theorem FX{p:Array Nat}{n:Nat}(h:M7 key p n)(hn:1<=n)(hc:KP key p n<=KP key p (n-1)):M7 key p (n+1):=λ i j hij hj=>by
 by_cases e:j=n
 .subst e;by_cases e2:i=j
  .subst e2;exact Int.le_refl _
  .exact Int.le_trans hc (h i (j-1) (by lia) (by lia))
 .exact h i j hij (by lia)
variable(hcmp:∀i j (C:Bool->Shared->Prop),i<N->j<N->C (decide (key i<key j)) s->cmp i j C s)
include hcmp
theorem Mz{p:Array Nat}(hp:PermN N p){G:Nat->Shared->Prop}:∀(f n:Nat),1<=n->n+f<=N->Ho key p n->(∀m,n<=m->m<=n+f->Ho key p m->(m<n+f->KP key p m<KP key p (m-1))->G m s)->(kas_asc p f n).kasWp cmp G s
 |0,n,h1,hn,hs,hG=>hG n (Nat.le_refl _) (by lia) hs (λ h=>absurd h (by lia))
 |f+1,n,h1,hn,hs,hG=>by
  show cmp _ _ _ s;refine hcmp _ _ _ (hp.lt (by lia)) (hp.lt (by lia)) ?_;by_cases h:key (p.getD n 0)<key (p.getD (n-1) 0)
  .rw[decide_eq_true h];simp only[if_true];exact hG n (Nat.le_refl _) (by lia) hs λ_=>h
  .rw[decide_eq_false h];simp only[Bool.false_eq_true,if_false];exact Mz hp f (n+1) (by lia) (by lia) (Qn hs h1 (by unfold KP;lia)) λ m a b c d=>hG m (by lia) (by lia) c λ z=>d (by lia)
theorem Kt{p:Array Nat}(hp:PermN N p){n:Nat}(h1:1<=n)(hn:n<=N)(hs:M7 key p n){G:Nat×Array Nat->Shared->Prop}(hG:∀m q,1<=m->m<=N->PermN N q->Ho key q m->G (m,q) s):(kas_tail3 n N p).kasWp cmp G s:=by
 unfold kas_tail3;rw[KasT.kasWp_bind];have hz:=hp.size;refine Mz hcmp (hp.rev 0 n) (N-n) n h1 (by lia) (λ i j hij hj=>?_) λ m a b c _=>hG m _ (by lia) (by lia) (hp.rev 0 n) c;rw[HF (by lia),HF (by lia),if_pos (by lia),if_pos (by lia)];exact hs _ _ (by lia) (by lia)
theorem Ga{G:Array Nat×Nat×Nat->Shared->Prop}:∀(f:Nat)(p:Array Nat)(n q:Nat),PermN N p->1<=n->n+f<=N->q<n->M7 key p n->(∀i,n-1-q<=i->i<n->KP key p i=KP key p (n-1)) ->
  (∀p' m r,PermN N p'->1<=m->m<=N->r<m->M7 key p' m->(∀i,m-1-r<=i->i<m->KP key p' i=KP key p' (m-1))->G (p',m,r) s)->(kas_desc f p n q).kasWp cmp G s
 |0,p,n,q,hp,h1,hn,hq,hs,he,hG=>hG p n q hp h1 (by lia) hq hs he
 |f+1,p,n,q,hp,h1,hn,hq,hs,he,hG=>by
  have hz:=hp.size;show cmp _ _ _ s;refine hcmp _ _ _ (hp.lt (by lia)) (hp.lt (by lia)) ?_;by_cases h:key (p.getD n 0)<key (p.getD (n-1) 0)
  .rw[decide_eq_true h];simp only[if_true];have h':KP key p n<KP key p (n-1):=h;have key1:M7 key p (n+1):=FX hs h1 (by lia);by_cases hq0:q>0
   .rw[if_pos hq0];have same:∀k,KP key (kas_rev p (n-(q+1)) n) k=KP key p k:=λ k=>by
     rw[HF (by lia)];split
     .rw[he _ (by lia) (by lia),he k (by lia) (by lia)]
     .rfl
    refine Ga f _ (n+1) 0 (hp.rev _ _) (by lia) (by lia) (by lia) (λ i j hij hj=>?_) (λ i a b=>?_) hG
    .rw[same,same];exact key1 i j hij hj
    .rw[show i=n+1-1 by lia]
   .rw[if_neg hq0];exact Ga f _ (n+1) 0 hp (by lia) (by lia) (by lia) key1 (λ i a b=>by rw[show i=n+1-1 by lia]) hG
  .rw[decide_eq_false h];simp only[Bool.false_eq_true,if_false];show cmp _ _ _ s;refine hcmp _ _ _ (hp.lt (by lia)) (hp.lt (by lia)) ?_;by_cases h2:key (p.getD (n-1) 0)<key (p.getD n 0)
   .rw[decide_eq_true h2];simp only[if_true];exact hG p n q hp h1 (by lia) hq hs he
   .rw[decide_eq_false h2];simp only[Bool.false_eq_true,if_false];have e:KP key p n=KP key p (n-1):=by unfold KP;lia
    refine Ga f p (n+1) (q+1) hp (by lia) (by lia) (by lia) (FX hs h1 (by lia)) (λ i a b=>?_) hG;by_cases hi:i=n
    .subst hi;rfl
    .rw[he i (by lia) (by lia),<-e];rfl
theorem F6{p:Array Nat}(hp:PermN N p){n:Nat}(hn:n+1<=N)(hs:M7 key p (n+1)){G:Nat×Array Nat->Shared->Prop}(hG:∀m q,1<=m->m<=N->PermN N q->Ho key q m->G (m,q) s):(kas_descPart n N p).kasWp cmp G s:=by
 unfold kas_descPart;rw[KasT.kasWp_bind];refine Ga hcmp (N-(n+1)) p (n+1) 0 hp (by lia) (by lia) (by lia) hs (λ i a b=>by rw[show i=n+1-1 by lia]) λ p' m r hp' h1 hm hr hs' he=>?_;dsimp only;have hz:=hp'.size;split
 .have same:∀k,KP key (kas_rev p' (m-(r+1)) m) k=KP key p' k:=λ k=>by
   rw[HF (by lia)];split
   .rw[he _ (by lia) (by lia),he k (by lia) (by lia)]
   .rfl
  exact Kt hcmp (hp'.rev _ _) h1 hm (λ i j hij hj=>by rw[same,same];exact hs' i j hij hj) hG
 .exact Kt hcmp hp' h1 hm hs' hG
theorem P0{p:Array Nat}(hp:PermN N p)(h1:1<=N){G:Nat×Array Nat->Shared->Prop}(hG:∀m q,1<=m->m<=N->PermN N q->Ho key q m->G (m,q) s):(kas_count N p).kasWp cmp G s:=by
 unfold kas_count;rw[KasT.kasWp_bind];have hz:=hp.size;refine Mz hcmp hp (N-1) 1 (Nat.le_refl _) (by lia) (λ i j hij hj=>by rw[show i=j by lia];exact Int.le_refl _) λ m a b c d=>?_;split
 .exact hG m p a (by lia) hp c
 .rename_i hne;have hm:m<N:=by
   have:m≠N:=λ e=>hne (by rw[e];exact beq_self_eq_true _);lia
  have hd:=d (by lia);split
  .show cmp _ _ _ s;refine hcmp _ _ _ (hp.lt (by lia)) (hp.lt (by lia)) ?_;by_cases h:key (p.getD 0 0)<key (p.getD (m-1) 0)
   .rw[decide_eq_true h];simp only[if_true];exact hG m p a (by lia) hp c
   .rw[decide_eq_false h];simp only[Bool.false_eq_true,if_false];have h':KP key p (m-1)<=KP key p 0:=by unfold KP;lia
    have eqs:∀i,i<m->KP key p i=KP key p 0:=λ i hi=>Int.le_antisymm (Int.le_trans (c i (m-1) (by lia) (by lia)) h') (c 0 i (by lia) hi);have same:∀k,KP key (kas_rev p 0 m) k=KP key p k:=λ k=>by
     rw[HF (by lia)];split
     .rw[eqs _ (by lia),eqs k (by lia)]
     .rfl
    refine F6 hcmp (hp.rev 0 m) (by lia) (FX (λ i j hij hj=>?_) a ?_) hG
    .rw[same,same,eqs i (by lia),eqs j (by lia)];exact Int.le_refl _
    .rw[same,same];lia
  .have em:m=1:=by lia
   subst em;exact F6 hcmp hp (by lia) (FX (λ i j hij hj=>by rw[show i=j by lia];exact Int.le_refl _) (Nat.le_refl _) (by lia)) hG
theorem G6{p:Array Nat}(hp:PermN N p){k:Nat}(hk:k<N)(hs:Ho key p k){G:Nat->Shared->Prop}(hG:∀l,l<=k->(∀i,i<l->KP key p i<=KP key p k)->(∀i,l<=i->i<k->KP key p k<KP key p i)->G l s) :
  ∀(f l r:Nat),r-l<=f->l<=r->r<=k->(∀i,i<l->KP key p i<=KP key p k)->(∀i,r<=i->i<k->KP key p k<KP key p i)->(kas_place p k f l r).kasWp cmp G s
 |0,l,r,hf,hlr,hr,ha,hb=>hG l (by lia) ha λ i h1 h2=>hb i (by lia) h2
 |f+1,l,r,hf,hlr,hr,ha,hb=>by
  unfold kas_place;split
  .exact hG l (by lia) ha λ i h1 h2=>hb i (by lia) h2
  .show cmp _ _ _ s;refine hcmp _ _ _ (hp.lt hk) (hp.lt (by lia)) ?_;by_cases h:key (p.getD k 0)<key (p.getD ((l+r) / 2) 0)
   .rw[decide_eq_true h];simp only[if_true];refine G6 hp hk hs hG f l ((l+r) / 2) (by lia) (by lia) (by lia) ha λ i h1 h2=>?_;exact Int.lt_of_lt_of_le h (hs _ i h1 h2)
   .rw[decide_eq_false h];simp only[Bool.false_eq_true,if_false];refine G6 hp hk hs hG f ((l+r) / 2+1) r (by lia) (by lia) hr (λ i h1=>?_) hb;have h2:=hs i ((l+r) / 2) (by lia) (by lia);have h3:KP key p ((l+r) / 2)<=KP key p k:=by unfold KP;lia
    lia
theorem P6{G:Array Nat->Shared->Prop}(hG:∀q,PermN N q->Ho key q N->G q s):∀(f:Nat)(p:Array Nat)(k:Nat),PermN N p->k+f=N->Ho key p k->(kas_bin f p k).kasWp cmp G s
 |0,p,k,hp,hk,hs=>hG p hp (by rw[<-hk];exact hs)
 |f+1,p,k,hp,hk,hs=>by
  unfold kas_bin;rw[KasT.kasWp_bind];have hz:=hp.size;refine G6 hcmp hp (by lia) hs (λ l hl ha hb=>?_) k 0 k (by lia) (by lia) (Nat.le_refl _) (λ i h=>absurd h (by lia)) λ i h1 h2=>absurd h1 (by lia);refine P6 hG f _ (k+1) (hp.bub _ _) (by lia) λ i j hij hj=>?_;rw[Jf (by lia) (by lia),Jf (by lia) (by lia),show k-(k-l)=l by lia];by_cases i1:i=l
  .rw[if_pos i1];by_cases j1:j=l
   .rw[if_pos j1];exact Int.le_refl _
   .rw[if_neg j1,if_pos (by lia)];exact Int.le_of_lt (hb _ (by lia) (by lia))
  .rw[if_neg i1];by_cases i2:l<i/\i<=k
   .rw[if_pos i2,if_neg (by lia),if_pos (by lia)];exact hs _ _ (by lia) (by lia)
   .rw[if_neg i2];by_cases j1:j=l
    .rw[if_pos j1];exact ha i (by lia)
    .rw[if_neg j1];by_cases j2:l<j/\j<=k
     .rw[if_pos j2];exact hs _ _ (by lia) (by lia)
     .rw[if_neg j2];exact hs _ _ hij (by lia)
theorem F5(h1:1<=N){G:Array Nat->Shared->Prop}(hG:∀q:Array Nat,PermN N q->(q.toList.map key).Pairwise (·<=·)->G q s):(kas_sort N).kasWp cmp G s:=by
 have p0:PermN N (List.toArray (List.range N)):=by show List.Perm _ _;simp
 have hG':∀q,PermN N q->Ho key q N->G q s:=λ q hq hs=>hG q hq (by
  have hz:=hq.size;rw[List.pairwise_iff_getElem];intro i j hi hj hij;have hi':i<q.size:=by simpa using hi
  have hj':j<q.size:=by simpa using hj
  have:=hs i j (by lia) (by lia);unfold KP at this;rw[show q.getD i 0=q[i] by simp[Array.getD,hi'],show q.getD j 0=q[j] by simp[Array.getD,hj']]at this
  simpa using this)
 unfold kas_sort;rw[KasT.kasWp_bind];refine P0 hcmp p0 h1 λ m q hm1 hm2 hq hs=>?_;dsimp only;split
 .exact P6 hcmp hG' _ q _ hq (by lia) (by rw[show max m 1=m by lia];exact hs)
 .exact hG' q hq (by rw[show N=m by lia];exact hs)
end
section
variable{prog:Program}{w:World}{A:Around}{E:VPz}{s:Shared}
def B2(h:Heap)(a:Addr)(vs:LWz):Heap:=((h.update a (Obj.mapSeq λ_=>#[])).push (seqObj "tuple" vs.toArray 0)).push (seqObj "list" #[] 0)
theorem JS{h:Heap}{a b:Addr}{vs:LWz}{o:Obj}(hb:b≠a)(e:h.get? b=some o):(B2 h a vs).get? b=some o:=by
 unfold B2;exact Heap.get?_push_of_some _ (Heap.get?_push_of_some _ (by rw[Heap.get?_update_ne _ _ _ _ hb];exact e))
theorem G7(vs:LWz):(List.range vs.length).map (λ i=>vs.getD i Value.none)=vs:=by
 apply List.ext_getElem?;intro i;rw[List.getElem?_map];by_cases h:i<vs.length
 .rw[List.getElem?_range h,Option.map_some,List.getD_eq_getElem?_getD,List.getElem?_eq_getElem h];rfl
 .rw[List.getElem?_eq_none (by simpa using h),List.getElem?_eq_none (by lia)];rfl
theorem FO{a:Addr}{vs:LWz}{n:Nat}{P:PySem.Fin->Shared->Prop}{κ:SortKind}{key:Nat->Int}(ho:s.heap.get? a=some (seqObj "list" vs.toArray n))(h64:vs.length<64)
  (hK:∀(Q:SortKind->Shared->Prop)(E:VPz),2<=vs.length->Q κ { s with heap:=B2 s.heap a vs }->wpAny (model prog w) A (keyKind' vs.toArray) Q E { s with heap:=B2 s.heap a vs })
  (hL:∀i j (C:Bool->Shared->Prop),i<vs.length->j<vs.length->C (decide (key i<key j)) { s with heap:=B2 s.heap a vs } ->
   wpAny (model prog w) A (keyLt' κ (vs.getD i Value.none) (vs.getD j Value.none)) C (λ_ _=>False) { s with heap:=B2 s.heap a vs })
  (h:∀q:Array Nat,PermN vs.length q->(q.toList.map key).Pairwise (·<=·)->P (.done (.ret .none)) { s with heap:=sortedHeap s.heap a vs (List.toArray (q.toList.map λ i=>vs.getD i Value.none)) }) :
  wpAny (model prog w) A (Builtin.«list.sort» ⟨[.ref a],[]⟩) P E s:=by
 rw[list_sort_plain];have ha:a<s.heap.objs.size:=Heap.lt_size ho;refine wpAny_bind (listItems_at ho rfl ?_);refine wpAny_bind (listUpdate_at ho rfl ?_ (by rw[List.size_toArray,sizeLine_eq];lia) (Nat.zero_le _));obtain⟨e1,ho1⟩:∃e1,(s.heap.update a (Obj.mapSeq λ_=>#[])).get? a=some (seqObj "list" #[] e1):=⟨_,get?_update_seq ho (λ_=>#[])⟩;refine wpAny_bind (seqEpoch_at ho1 rfl ?_);refine wpAny_bind (wpAny_newTuple ?_ (by show vs.length<=_;rw[sizeLine_eq];lia));refine wpAny_bind (wpAny_newList ?_ (Nat.zero_le _));refine wpAny_holding ?_;have ho6:(B2 s.heap a vs).get? a=some (seqObj "list" #[] e1):=by
  unfold B2;rw[Heap.get?_push_ne _ _ _ (by rw[size_push',Heap.size_update];exact Nat.ne_of_lt (Nat.lt_succ_of_lt ha)),Heap.get?_push_ne _ _ _ (by rw[Heap.size_update];exact Nat.ne_of_lt ha)];exact ho1
 show wpAny (model prog w) A _ P E { s with heap:=B2 s.heap a vs };dsimp only;have hsz:vs.toArray.size=vs.length:=by simp
 by_cases h2:vs.toArray.size<2
 .rw[if_pos h2,if_pos h2];refine wpAny_bind (wpAny_pure ?_);rw[StateT.run_pure];refine wpAny_bind (wpAny_pure ?_);dsimp only;refine wpAny_bind (seqEpoch_at ho6 rfl ?_);refine wpAny_bind (listUpdate_at ho6 rfl ?_ (Nat.zero_le _) (by rw[Array.size_map];show(pairsOf vs).size<=_;rw[pairsOf_size,sizeLine_eq];lia));simp only[bne_self_eq_false,Bool.false_eq_true,if_false];have hh:=h (List.toArray (List.range vs.length)) (by show List.Perm _ _;simp) (by
   rw[hsz]at h2;rcases(by lia:vs.length=0\/vs.length=1) with e|e<;>rw[e]<;>simp[List.range_succ])
  have e3:List.map (λ i=>vs.getD i Value.none) (List.range vs.length).toArray.toList=vs:=G7 vs;rw[e3]at hh;have e2:(arrOf (SortSt.mk' general' (vs.toArray.zip vs.toArray) #[] 7 none)).map (·.2)=vs.toArray:=by
   show(vs.toArray.zip vs.toArray).map (·.2)=vs.toArray;apply Array.ext';simp[List.map_snd_zip]
  refine wpAny_pure ?_;rw[e2];exact hh
 .rw[if_neg h2,if_neg h2];have h2':2<=vs.length:=by lia
  refine wpAny_bind (hK _ _ h2' ?_);refine wpAny_bind (wpAny_mono (kat_run (ks:=vs) (vs:=vs) (Q:=λ st' s'=>s'={ s with heap:=B2 s.heap a vs }/\∃p:Array Nat,p.size=vs.length/\arrOf st'=p.map (kas_item (vs.toArray.zip vs.toArray))/\failedOf st'=none/\PermN vs.length p/\(p.toList.map key).Pairwise (·<=·))
   (G:=λ p s'=>s'={ s with heap:=B2 s.heap a vs }/\PermN vs.length p/\(p.toList.map key).Pairwise (·<=·)) rfl h2' h64 (λ p st' s' a1 a2 a3 a4=>⟨a4.1,p,a1,a2,a3,a4.2⟩)
   (F5 (λ i j C hi hj hC=>hL i j C hi hj hC) (by lia) λ q hq hp=>⟨rfl,hq,hp⟩)) ?_ λ_ _ e=>e)
  rintro⟨⟨⟩,st'⟩ s' ⟨rfl,p,hp,har,hf,pp,ps⟩;dsimp only;have hout:=kat_snds rfl har;have hsz2:(List.toArray (p.toList.map λ i=>vs.getD i Value.none)).size=vs.length:=by rw[List.size_toArray,List.length_map,Array.length_toList,hp]
  rw[hout];refine wpAny_bind (seqEpoch_at ho6 rfl ?_);refine wpAny_bind (listUpdate_at ho6 rfl ?_ (Nat.zero_le _) (Nat.le_trans (Nat.le_of_eq hsz2) (by rw[sizeLine_eq];lia)));rw[hf];simp only[bne_self_eq_false,Bool.false_eq_true,if_false];exact wpAny_pure (h p pp ps)
theorem F4{fin:Bool}{Q:Bool->Shared->Prop}(hf:fin=false):∀{vs ws:LWz}{ns ms:List Int}(i:Nat),IntsAre vs ns->IntsAre ws ms->ns.length=ms.length->Q (HT.lexLt ns ms) s->KatLex prog w A true fin Q (vs.zip ws) i s
 |_,_,_,_,i,.nil,.nil,_,hq=>by rw[HT.lexLt_nil_nil]at hq;rw[hf];exact hq
 |_,_,_,_,i,.cons n t hn,.cons m u hm,hl,hq=>by
  rw[List.zip_cons_cons];rw[HT.lexLt_cons]at hq;refine kat_cons (wpAny_eqBool_int (kat_go (λ e=>kat_yes ?_) λ e=>kat_no ?_))
  .have e':n=m:=by simpa using e
   rw[if_pos e']at hq;exact F4 hf (i+1) hn hm (by simpa using hl) hq
  .have e':¬n=m:=by simpa using e
   rw[if_neg e']at hq;by_cases hi:i=0
   .subst hi;exact oneLt_int hq
   .have hb:(true&&i==0)=false:=by simp[hi]
    rw[hb];exact kat_one _ _ (lt_int hq)
end
section
variable{X:Cx}
theorem DC:∀{ts:List Addr}{its:LWz},Vals (ts.map V.ref) its->its=ts.map Value.ref
 |[],_,.nil=>rfl
 |a::r,_,.cons h t=>by
  cases(show _=Value.ref a from h);rw[List.map_cons,DC t]
theorem Eb:∀(ts:List Addr),Vals (ts.map V.ref) (ts.map Value.ref)
 |[]=>.nil
 |a::r=>.cons rfl (Eb r)
theorem GU{h:Heap}{m:Nat}:∀{ts:List (Addr×List Int)},(∀t∈ts,t.2.length=m+1/\∃items,IsTup h t.1 items/\IntsAre items.toList t.2)->∃fs,KatTups h (ts.map λ t=>Value.ref t.1) fs/\fs.length=ts.length/\∀v∈fs,∃n tk,v=Value.int n tk
 |[],_=>⟨[],KatTups.nil,rfl,λ v hv=>nomatch hv⟩
 |t::r,hh=>by
  obtain⟨fs,h1,h2,h3⟩:=GU (ts:=r) λ u hu=>hh u (List.mem_cons_of_mem _ hu);obtain⟨hl,items,⟨o,ho,hc,n,hd⟩,hi⟩:=hh t List.mem_cons_self;obtain⟨x,tk,z,e⟩:∃(n:Int)(tk:Tok)(zs:LWz),items.toList=Value.int n tk::zs:=by
   generalize items.toList=vs at hi;generalize t.2=ns at hi hl;cases hi with
   |nil=>simp at hl
   |cons n tk hz=>exact⟨n,tk,_,rfl⟩
  have hf:items[0]?=some (Value.int x tk):=by
   rw[<-Array.getElem?_toList,e];rfl
  exact⟨_,KatTups.cons ho hc hd hf h1,by simp[h2],λ v hv=>by
   rcases List.mem_cons.mp hv with rfl|hv
   .exact⟨x,tk,rfl⟩
   .exact h3 v hv⟩
end
section
variable{κ:Type}[DecidableEq κ]
def Eo(kvs:List (κ×V))(k:κ):Option V:=(kvs.find? λ kv=>decide (kv.1=k)).map (·.2)
def Dr(kvs:List (κ×V))(k:κ)(v:V):List (κ×V) :=
 if (kvs.any λ kv=>decide (kv.1=k))=true then kvs.map (λ kv=>if kv.1=k then (kv.1,v) else kv) else kvs++[(k,v)]
theorem Cy{p:κ×V}{r:List (κ×V)}{k:κ}(e:p.1=k):Eo (p::r) k=some p.2:=by simp[Eo,List.find?_cons,e]
theorem Cz{p:κ×V}{r:List (κ×V)}{k:κ}(e:¬p.1=k):Eo (p::r) k=Eo r k:=by simp[Eo,List.find?_cons,e]
theorem Kr(k:κ):∀kvs:List (κ×V),(kvs.any λ kv=>decide (kv.1=k))=(Eo kvs k).isSome
 |[]=>rfl
 |p::r=>by
  rw[List.any_cons];by_cases e:p.1=k
  .simp only[Cy e,decide_eq_true e,Bool.true_or,Option.isSome_some]
  .rw[Cz e,decide_eq_false e,Bool.false_or];exact Kr k r
theorem Dy(kvs:List (κ×V))(k:κ)(v:V):(Dr kvs k v).length<=kvs.length+1:=by
 unfold Dr;split
 .rw[List.length_map];lia
 .rw[List.length_append,List.length_cons,List.length_nil];lia
theorem RelO.isSome_eq{o:Option V}{u:Option Value}(r:RelO o u):o.isSome=u.isSome:=by
 cases o with
 |none=>cases u with
  |none=>rfl
  |some _=>exact(show False from r).elim
 |some _=>cases u with
  |none=>exact(show False from r).elim
  |some _=>rfl
theorem KV.val{kvs:List (κ×V)}{vs:List (κ×Value)}(r:KV kvs vs)(k:κ):RelO (Eo kvs k) (valueAt vs k):=by
 unfold KV at r
 induction r with
 |nil=>exact True.intro
 |@cons p q ps qs h t ih =>
  obtain⟨h1,h2⟩:=h;by_cases e:p.1=k
  .have e':q.1=k:=h1.symm.trans e;have b:valueAt (q::qs) k=some q.2:=by simp[valueAt,List.find?_cons,e']
   rw[Cy e,b];exact h2
  .have e':¬q.1=k:=λ z=>e (h1.trans z);have b:valueAt (q::qs) k=valueAt qs k:=by simp[valueAt,List.find?_cons,e']
   rw[Cz e,b];exact ih
theorem KV.any{kvs:List (κ×V)}{vs:List (κ×Value)}(r:KV kvs vs)(k:κ):(kvs.any λ kv=>decide (kv.1=k))=vs.any λ kv=>decide (kv.1=k):=by
 unfold KV at r
 induction r with
 |nil=>rfl
 |cons h t ih=>rw[List.any_cons,List.any_cons,ih,h.1]
theorem KV.repl{kvs:List (κ×V)}{vs:List (κ×Value)}(r:KV kvs vs)(k:κ){y:V}{u:Value}(ry:RelV y u) :
  KV (kvs.map λ kv=>if kv.1=k then (kv.1,y) else kv) (vs.map λ kv=>if kv.1=k then (kv.1,u) else kv):=by
 unfold KV at r |-
 induction r with
 |nil=>exact .nil
 |@cons p q ps qs h t ih =>
  rw[List.map_cons,List.map_cons];refine .cons ?_ ih;obtain⟨h1,h2⟩:=h;by_cases e:p.1=k
  .rw[if_pos e,if_pos (h1.symm.trans e)];exact⟨h1,ry⟩
  .rw[if_neg e,if_neg (λ z=>e (h1.trans z))];exact⟨h1,h2⟩
theorem KV.put{kvs:List (κ×V)}{vs:List (κ×Value)}(r:KV kvs vs)(k:κ){y:V}{u:Value}(ry:RelV y u):KV (Dr kvs k y) (stored vs k u):=by
 unfold Dr stored;rw[r.any k];by_cases e:(vs.any λ kv=>decide (kv.1=k))=true
 .rw[if_pos e,if_pos e];exact r.repl k ry
 .rw[if_neg e,if_neg e];exact Paired.snoc r ⟨rfl,ry⟩
theorem KV.length{kvs:List (κ×V)}{vs:List (κ×Value)}(r:KV kvs vs):kvs.length=vs.length:=Paired.length r
end
theorem Nb{P:Program}{w:World}{k:Key}{u:Value}(r:RelV (kV k) u):(AY P w).is k u=true:=by
 cases k with
 |inl i=>obtain⟨t,e⟩:=(show ∃t,u=Value.int i t from r);subst e;exact KU P w i t
 |inr x=>obtain⟨t,e⟩:=(show ∃t,u=Value.str x t from r);subst e;exact KS P w x t
theorem IN{P:Program}{w:World}:∀{ks:List Key}{us:LWz},Vals (ks.map kV) us->ItemsAre (AY P w) ks us
 |[],_,r=>by rw[List.map_nil]at r;cases r;exact .nil
 |k::ks,_,r=>by
  rw[List.map_cons]at r;cases r with
  |cons h t=>exact .cons (Nb h) (IN t)
abbrev KT(H:Hp):LKz->List (List Key×Addr×Value)->Prop:=Paired λ p q=>p.1=q.1/\H q.2.1=some (.tup (p.1.map kV))/\RelV p.2 q.2.2
theorem KT.val{H:Hp}{kvs:LKz}{xs:List (List Key×Addr×Value)}(r:KT H kvs xs)(k:List Key):RelO (Eo kvs k) ((atKey xs k).map (·.2)):=by
 induction r with
 |nil=>exact True.intro
 |@cons p q ps qs h t ih =>
  obtain⟨h1,_,h2⟩:=h;by_cases e:p.1=k
  .have e':q.1=k:=h1.symm.trans e;have b:atKey (q::qs) k=some q.2:=by simp[atKey,List.find?_cons,e']
   rw[Cy e,b];exact h2
  .have e':¬q.1=k:=λ z=>e (h1.trans z);have b:atKey (q::qs) k=atKey qs k:=by simp[atKey,List.find?_cons,e']
   rw[Cz e,b];exact ih
theorem KT.repl{H:Hp}{kvs:LKz}{xs:List (List Key×Addr×Value)}(r:KT H kvs xs)(k:List Key){y:V}{u:Value}(ry:RelV y u) :
  KT H (kvs.map λ kv=>if kv.1=k then (kv.1,y) else kv) (xs.map (putAt k u)):=by
 induction r with
 |nil=>exact .nil
 |@cons p q ps qs h t ih =>
  rw[List.map_cons,List.map_cons];refine .cons ?_ ih;obtain⟨h1,h2,h3⟩:=h;unfold putAt;by_cases e:p.1=k
  .rw[if_pos e,if_pos (h1.symm.trans e)];exact⟨h1,h2,ry⟩
  .rw[if_neg e,if_neg (λ z=>e (h1.trans z))];exact⟨h1,h2,h3⟩
theorem KT.put{H:Hp}{kvs:LKz}{xs:List (List Key×Addr×Value)}(r:KT H kvs xs)(k:List Key){b:Addr}{y:V}{u:Value}(hb:H b=some (.tup (k.map kV)))(ry:RelV y u) :
  KT H (Dr kvs k y) (storedH xs k b u):=by
 have e:(kvs.any λ kv=>decide (kv.1=k))=(atKey xs k).isSome:=by
  rw[Kr,(r.val k).isSome_eq,Option.isSome_map]
 unfold Dr storedH;rw[e];by_cases q:(atKey xs k).isSome=true
 .rw[if_pos q,if_pos q];exact r.repl k ry
 .rw[if_neg q,if_neg q];exact Paired.snoc r ⟨rfl,hb,ry⟩
theorem KT.keeps{H H':Hp}{kvs:LKz}{xs:List (List Key×Addr×Value)}(r:KT H kvs xs)(ht:∀b ys,H b=some (.tup ys)->H' b=some (.tup ys)):KT H' kvs xs :=
 Paired.mapP r λ_ _ z=>⟨z.1,ht _ _ z.2.1,z.2.2⟩
section
variable{P:Program}{w:World}{H:Hp}{h:Heap}{a:Addr}
theorem Rp{u:HO}(ok:HOk P w H h)(e:Rd H a u):ObjOk P w H h a u:=e.ok ok
theorem Pu{kvs:List (Key×V)}(ok:HOk P w H h)(e:Rd H a (.dK kvs)):kvs.length<=sizeLine/\(a==sysModules)=false/\∃vs,KV kvs vs/\h.DictOf (AY P w) a vs :=
 show ObjOk P w H h a (.dK kvs) from Rp ok e
theorem Rx{kvs:List (Key×V)}(ok:HOk P w H h)(e:H a=some (.dK kvs)):kvs.length<=sizeLine/\(a==sysModules)=false/\∃vs,KV kvs vs/\h.DictOf (AY P w) a vs:=Pu ok (.inl e)
theorem Ml{ks:List Key}(ok:HOk P w H h)(e:H a=some (.tup (ks.map kV))):(tupleKind (AY P w)).is h ks a:=by
 obtain⟨_,its,r,o,h1,h2,n,h3⟩:=(show ObjOk P w H h a (.tup (ks.map kV)) from ok a _ e);exact⟨o,its.toArray,n,h1,h2,h3,by simpa using IN r⟩
theorem Ps{kvs:LKz}(ok:HOk P w H h)(e:Rd H a (.dT kvs)):kvs.length<=sizeLine/\(a==sysModules)=false /\
  ∃xs,KT H kvs xs/\h.DictOfH (tupleKind (AY P w)) a xs:=by
 obtain⟨z,y,xs,r,o,es,ep,h1,h2,h3,h4,h5⟩:=(show ObjOk P w H h a (.dT kvs) from Rp ok e);refine⟨z,y,xs,r,o,es,ep,h1,h2,h3,h4,λ x hx=>?_,h5⟩;have all:∀{l:LKz}{m:List (List Key×Addr×Value)},KT H l m->∀x∈m,(tupleKind (AY P w)).is h x.1 x.2.1:=by
  intro l m q
  induction q with
  |nil=>intro x hx;exact nomatch hx
  |@cons p q ps qs hq t ih =>
   intro x hx;rcases List.mem_cons.mp hx with e|hx
   .subst e;exact Ml ok (by rw[<-hq.1];exact hq.2.1)
   .exact ih x hx
 exact all r x hx
theorem SS{kvs:LKz}(ok:HOk P w H h)(e:H a=some (.dT kvs)):kvs.length<=sizeLine/\(a==sysModules)=false /\
  ∃xs,KT H kvs xs/\h.DictOfH (tupleKind (AY P w)) a xs:=Ps ok (.inl e)
end
def DGet(H:Hp)(a:Addr)(y:V)(r:Option V):Prop :=
 (∃kvs k,Rd H a (.dK kvs)/\y=kV k/\r=Eo kvs k)\/∃kvs k b,Rd H a (.dT kvs)/\y=.ref b/\H b=some (.tup (k.map kV))/\r=Eo kvs k
def DPut(H:Hp)(a:Addr)(y v:V)(H':Hp):Prop :=
 (∃kvs k,H a=some (.dK kvs)/\y=kV k/\kvs.length<sizeLine/\H'=upd H a (.dK (Dr kvs k v))) \/
 ∃kvs k b,H a=some (.dT kvs)/\y=.ref b/\H b=some (.tup (k.map kV))/\kvs.length<sizeLine/\H'=upd H a (.dT (Dr kvs k v))
theorem DGet.k{H:Hp}{a:Addr}{kvs:List (Key×V)}{k:Key}(e:H a=some (.dK kvs)):DGet H a (kV k) (Eo kvs k):=.inl ⟨kvs,k,.inl e,rfl,rfl⟩
theorem DPut.k{H:Hp}{a:Addr}{kvs:List (Key×V)}{k:Key}{v:V}(e:H a=some (.dK kvs))(hl:kvs.length<sizeLine):DPut H a (kV k) v (upd H a (.dK (Dr kvs k v))):=.inl ⟨kvs,k,e,rfl,hl,rfl⟩
section
variable{X:Cx}{pins:PNz}{σ:St}{H:Hp}{s:Shared}{a:Addr}{y v:V}{u r:Value}{o:Option V}{A:Around}{E:VPz}
theorem Inv.big(I:Inv X pins σ H s):sysModules<s.heap.objs.size:=by
 have h:mainGlobals<s.heap.objs.size:=(I.mod.glob.keeps I.bk).lt;exact Nat.lt_trans (by decide) h
theorem Oi{Q:VPz}(hu:A.units+1<cLine)(I:Inv X pins σ H s)(g:DGet H a y (some v))(ry:RelV y u)(h:∀w' s',Inv X pins σ H s'->RelV v w'->Q w' s') :
  wpAny (model X.prog X.w) A (getItem (.ref a) u) Q E s:=by
 rcases g with ⟨kvs,k,e,ey,l⟩|⟨kvs,k,b,e,ey,eb,l⟩
 .subst ey;obtain⟨z,hd,vs,rel,dd⟩:=Pu I.hok e;obtain⟨w',hw,rw'⟩:=RelO.some_of (v:=v) (o:=valueAt vs k) (by rw[l];exact rel.val k);exact wpAny_getItem_of (Nb ry) dd.mapOf hw (h w' _ (I.tok _) rw')
 .subst ey;cases(show u=Value.ref b from ry);obtain⟨z,hd,xs,rel,dd⟩:=Ps I.hok e;obtain⟨w',hw,rw'⟩:=RelO.some_of (v:=v) (o:=(atKey xs k).map (·.2)) (by rw[l];exact rel.val k);obtain⟨p,hp,hp2⟩:=Option.map_eq_some_iff.mp hw;refine wpAny_getItem_heap (tupleKind_room_in1 hu) (Ml I.hok eb) dd hp ?_;rw[hp2];exact h w' _ (I.tok _) rw'
theorem Kb{h':Heap}{t':Nat}{ob:HO}(I:Inv X pins σ H s)(mu:Mut (H a))(hs:Heap.SameBut a s.heap h')(he:∃q,h'.get? a=some q)(new:ObjOk X.prog X.w (upd H a ob) h' a ob) :
  Inv X pins σ (upd H a ob) { s with heap:=h',toks:=t' } :=
 I.write (x:=a) (e:=a) mu (.inl rfl) (λ b q hb z=>(hs.2 b hb).trans z) he new
theorem Pw{P:Program}{w:World}{H':Hp}{h':Heap}{kvs:List (Key×V)}{vs:List (Key×Value)}(z:kvs.length<=sizeLine)(hd:(a==sysModules)=false)(rel:KV kvs vs)(dd:h'.DictOf (AY P w) a vs) :
  ObjOk P w H' h' a (.dK kvs):=⟨z,hd,vs,rel,dd⟩
theorem Oh{H':Hp}{Q:Unit->Shared->Prop}(hu:A.units+1<cLine)(I:Inv X pins σ H s)(g:DPut H a y v H')(ry:RelV y u)(rv:RelV v r)(h:∀s',Inv X pins σ H' s'->Q () s') :
  wpAny (model X.prog X.w) A (setItem (.ref a) u r) Q E s:=by
 rcases g with ⟨kvs,k,e,ey,l,eH⟩|⟨kvs,k,b,e,ey,eb,l,eH⟩
 .subst ey eH;obtain⟨z,hd,vs,rel,dd⟩:=Rx I.hok e;have hz:vs.length<=sizeLine:=by rw[<-rel.length];exact z
  have hl:(Dr kvs k v).length<=sizeLine:=by have:=Dy kvs k v;lia
  refine wpAny_setItem_pairs (hsz:=hz) (Nb ry) dd λ h' dd' hs=>h _ ?_;have he:∃q,h'.get? a=some q:=let ⟨q,_,_,hq,_⟩:=dd';⟨q,hq⟩;exact Kb I (by rw[e];exact True.intro) hs he (Pw hl hd (rel.put k rv) dd')
 .subst ey eH;cases(show u=Value.ref b from ry);obtain⟨z,hd,xs,rel,dd⟩:=SS I.hok e;have hz:xs.length<=sizeLine:=by rw[<-Paired.length rel];exact z
  have hl:(Dr kvs k v).length<=sizeLine:=by have:=Dy kvs k v;lia
  refine wpAny_setItem_heap (hsz:=hz) (tupleKind_room_in1 hu) (Ml I.hok eb) dd λ h' dd' hs=>h _ ?_;obtain⟨q,es,ep,hq,h2,h3,h4,_,h5⟩:=dd';refine Kb I (by rw[e];exact True.intro) hs ⟨q,hq⟩ ⟨hl,hd,_,(rel.put k eb rv).keeps λ c ys ec=>?_,q,es,ep,hq,h2,h3,h4,h5⟩;rw[Ah (F1 ec e (λ z=>nomatch z))];exact ec
end
def Te(i:Expr):Prop:=∀ov iv,subscripted i false ov iv=operate [ov,iv] (getItem ov iv)
theorem Qj{prog:Program}{w:World}{A:Around}{E:VPz}{s:Shared}{env:Env}{value slice:Expr}{pos:Pos}{T id:String}{Q:VPz}
  (hl:typeLookup (.type T) "__getitem__"=pure (some (.builtin id))) (hs:Te slice)
  (h:wpAny (model prog w) A (eval value env) (λ o s₁=>wpAny (model prog w) A (eval slice env) (λ i s₂=>s₂.TypeIs o T/\wpAny (model prog w) A (getItem o i) Q E s₂) E s₁) E s) :
  wpAny (model prog w) A (eval (.Subscript value slice pos) env) Q E s:=by
 refine Subscript_ (wpAny_mono h (λ o s₁ h₁=>wpAny_mono h₁ (λ i s₂ h₂=>?_) λ_ _ x=>x) λ_ _ x=>x);obtain⟨hT,h₂⟩:=h₂;unfold subscriptTail;refine wpAny_bind ?_;rw[getitemInPython_of_ne hT.not_modules];refine wpAny_bind (wpAny_specialOf hT hl ?_);have fin:wpAny (model prog w) A (subscripted slice false o i) (λ r s₃=>wpAny (model prog w) A (letTemporaryGo value o r >>= λ_=>pure r) Q E s₃) E s₂:=by
  rw[hs o i];exact wpAny_operating (wpAny_mono h₂ (λ r s₃ h₃=>wpAny_bind (wpAny_letTemporaryGo (wpAny_pure h₃))) λ_ _ x=>x)
 first
  |exact wpAny_pure (wpAny_bind fin)
  |exact wpAny_bind (wpAny_pure (wpAny_bind fin))
  |exact wpAny_bind fin
theorem Ld{X:Cx}{pins:PNz}{σ:St}{H:Hp}{s:Shared}{a:Addr}{y:V}{o:Option V}(I:Inv X pins σ H s)(g:DGet H a y o):s.TypeIs (.ref a) "dict":=by
 rcases g with ⟨kvs,k,e,_,_⟩|⟨kvs,k,b,e,_,_,_⟩
 .obtain⟨_,_,vs,_,dd⟩:=Pu I.hok e;exact dd.typeIs
 .obtain⟨_,_,xs,_,dd⟩:=Ps I.hok e;exact dd.typeIs
def Sv(td ty:TE):TE:=λ σ H Q=>td σ H λ x H1=>ty σ H1 λ y H2=>∃a v,x=.ref a/\DGet H2 a y (some v)/\Q v H2
def S0(td ty tv:TE):TS:=λ D σ H=>tv σ H λ v H1=>td σ H1 λ x H2=>ty σ H2 λ y H3=>∃a H4,x=.ref a/\DPut H3 a y v H4/\D.nx σ H4
section
variable{X:Cx}{o i e value:Expr}{pos pos' tpos:Pos}{td ty tv:TE}
theorem FV(hu:X.A.units+1<cLine)(ho:PE X o td)(hi:PE X i ty)(hs:Te i):PE X (.Subscript o i pos) (Sv td ty):=by
 intro pins s σ H Q I h;refine Qj PySem.F.slot_dict_getitem.lookup hs (thn (ho pins s σ H _ I h) λ u s1 hz_=>?_);obtain⟨x,H1,I1,rx,q1⟩:=hz_;refine thn (hi pins s1 σ H1 _ I1 q1) λ iv s2 hz_=>?_;obtain⟨y,H2,I2,ry,a,v,ex,g,q2⟩:=hz_;subst ex;obtain rfl:u=Value.ref a:=rx;exact⟨Ld I2 g,Oi hu I2 g ry λ w' s3 I3 rw'=>⟨v,H2,I3,rw',q2⟩⟩
theorem MM(hu:X.A.units+1<cLine)(ho:PE X o td)(hi:PE X i ty)(hv:PE X value tv)(hs:swapsWith value (some (.Subscript o i pos')) pos.line X.env=pure false) :
  PS X (.Assign [.Subscript o i pos'] value pos) (S0 td ty tv):=by
 intro pins s σ H D I h;refine wpAny_Assign_Subscript (thn (hv pins s σ H _ I h) λ r s1 hz_=>?_) hs;obtain⟨v,H1,I1,rv,q1⟩:=hz_;refine thn (ho pins s1 σ H1 _ I1 q1) λ u s2 hz_=>?_;obtain⟨x,H2,I2,rx,q2⟩:=hz_;refine thn (hi pins s2 σ H2 _ I2 q2) λ iv s3 hz_=>?_;obtain⟨y,H3,I3,ry,a,H4,ex,g,q3⟩:=hz_;subst ex;obtain rfl:u=Value.ref a:=rx;exact Oh hu I3 g ry rv λ s4 I4=>⟨σ,H4,I4,q3⟩
end
theorem Px{P:Program}{w:World}{H:Hp}(h:Heap)(hb:sysModules<h.objs.size):ObjOk P w H (h.push { cls:=.type "dict",data:=.dict #[] }) h.objs.size (.dK []) :=
 ⟨Nat.zero_le _,beq_eq_false_iff_ne.mpr (Ne.symm (Nat.ne_of_lt hb)),[],.nil,Heap.DictOf.new h⟩
def LC:List (TE×TE)->St->Hp->(List (V×V)->Hp->Prop)->Prop
 |[],_,H,Q=>Q [] H
 | (tk,tv)::r,σ,H,Q=>tk σ H λ x H1=>tv σ H1 λ y H2=>LC r σ H2 λ ps H3=>Q ((x,y)::ps) H3
abbrev VV:List (V×V)->List (Value×Value)->Prop:=Paired λ p q=>RelV p.1 q.1/\RelV p.2 q.2
def PPs(X:Cx)(pos:Pos)(keys:List (Option Expr))(values:List Expr)(trs:List (TE×TE)):Prop :=
 ∀(pins:PNz)(s:Shared)(σ:St)(H:Hp)(Q:List (V×V)->Hp->Prop),Inv X pins σ H s->LC trs σ H Q ->
  wpAny (model X.prog X.w) X.A (evalPairs (pairTrees keys values X.env pos)) (λ vs s'=>∃ps H',Inv X pins σ H' s'/\VV ps vs/\Q ps H') X.xe s
theorem Qw{X:Cx}{pos:Pos}:PPs X pos [] [] []:=λ pins s σ H Q I h=>pairTrees_nil_walk ⟨[],H,I,.nil,h⟩
theorem G5{X:Cx}{pos:Pos}{k v:Expr}{ks:List (Option Expr)}{vs:List Expr}{tk tv:TE}{trs:List (TE×TE)}(hk:PE X k tk)(hv:PE X v tv)(hr:PPs X pos ks vs trs) :
  PPs X pos (some k::ks) (v::vs) ((tk,tv)::trs):=λ pins s σ H Q I h =>
 pairTrees_cons_walk (thn (hk pins s σ H _ I h) λ u s1 ⟨x,H1,I1,rx,q1⟩=>thn (hv pins s1 σ H1 _ I1 q1) λ w2 s2 ⟨y,H2,I2,ry,q2⟩ =>
  thn (hr pins s2 σ H2 _ I2 q2) λ ws s3 ⟨ps,H3,I3,rel,q3⟩=>⟨(x,y)::ps,H3,I3,.cons ⟨rx,ry⟩ rel,q3⟩)
def GO(kvs more:List (Key×V)):List (Key×V):=more.foldl (λ acc kv=>Dr acc kv.1 kv.2) kvs
theorem KV.merge:∀{more:List (Key×V)}{rs:List (Key×Value)}{kvs:List (Key×V)}{vs:List (Key×Value)},KV more rs->KV kvs vs->KV (GO kvs more) (merged vs rs):=by
 intro more rs kvs vs r;unfold KV at r
 induction r generalizing kvs vs with
 |nil=>intro q;exact q
 |@cons p q ps qs h t ih =>
  intro r0;have e:KV (Dr kvs p.1 p.2) (stored vs q.1 q.2):=by
   have:=r0.put p.1 h.2;rw[<-h.1];exact this
  exact ih e
theorem DP:∀(more kvs:List (Key×V)),(GO kvs more).length<=kvs.length+more.length
 |[],kvs=>by show kvs.length<=kvs.length+0;lia
 |p::r,kvs=>by
  have h1:=DP r (Dr kvs p.1 p.2);have h2:=Dy kvs p.1 p.2;show(GO (Dr kvs p.1 p.2) r).length<=_;rw[List.length_cons];lia
theorem Hn{P:Program}{w:World}:∀{kvs:List (Key×V)}{ws:List (Value×Value)},VV (kvs.map λ kv=>(kV kv.1,kv.2)) ws->∃rs,Carries (AY P w) ws rs/\KV kvs rs
 |[],_,r=>by rw[List.map_nil]at r;cases r;exact⟨[],True.intro,.nil⟩
 |p::kvs,_,r=>by
  rw[List.map_cons]at r;cases r with
  |@cons a b as bs h t =>
   obtain⟨rs,c,q⟩:=Hn (P:=P) (w:=w) t;obtain⟨b1,b2⟩:=b;exact⟨(p.1,b2)::rs,⟨Nb h.1,rfl,c⟩,.cons ⟨rfl,h.2⟩ q⟩
def Su(trs:List (TE×TE)):TE:=λ σ H Q=>∀p,H p=none->LC trs σ (upd H p (.dK [])) λ ps H2=>H2 p=some (.dK [])/\∃kvs:List (Key×V),ps=kvs.map (λ kv=>(kV kv.1,kv.2))/\kvs.length<=15/\Q (.ref p) (upd H2 p (.dK (GO [] kvs)))
theorem Q1{X:Cx}{pos:Pos}{keys:List (Option Expr)}{values:List Expr}{trs:List (TE×TE)}(h:PPs X pos keys values trs)(hall:keys.all (·.isSome)=true)(hl:keys.length=values.length)(h0:keys≠[])
  (h15:keys.length<=15):PE X (.Dict keys values pos) (Su trs):=by
 intro pins s σ H Q I q;have hn:=I.hok.fresh (Nat.le_refl s.heap.objs.size);have I1:=I.laid (a:=s.heap.objs.size) (o:=.dK []) (h':=s.heap.push { cls:=.type "dict",data:=.dict #[] }) (t':=s.toks) (λ_ _ q=>Heap.get?_push_of_some _ q) (Nat.le_refl _) (Px s.heap I.big);refine wpAny_Dict_walk (knd:=AY X.prog X.w) hall hl h0 h15 (thn (h pins _ σ _ _ I1 (q _ hn)) λ ws s2 hz_=>?_);obtain⟨ps,H2,I2,rel,e,kvs,ep,lk,q2⟩:=hz_;subst ep;obtain⟨rs,c,rk⟩:=Hn (P:=X.prog) (w:=X.w) rel;obtain⟨z,hd,vs0,r0,dd⟩:=Rx I2.hok e;cases r0;refine⟨rs,c,dd,λ h' dd' hs=>⟨.ref s.heap.objs.size,_,?_,rfl,q2⟩⟩;have hz:(GO [] kvs).length<=sizeLine:=by
  have h1:=DP kvs [];rw[List.length_nil]at h1;rw[sizeLine_eq];lia
 have he:∃q,h'.get? s.heap.objs.size=some q:=let ⟨q,_,_,hq,_⟩:=dd';⟨q,hq⟩;exact Kb I2 (by rw[e];exact True.intro) hs he (Pw hz hd (rk.merge .nil) dd')
open PySem.SeqAt
mutual
inductive D where
 |at (v:V)
 |tup (xs:Ds)
 |lst (xs:Ds)
inductive Ds where
 |nil
 |cons (d:D) (r:Ds)
end
mutual
def DIs(K:Frag)(H:Hp):D->V->Prop
 |.at u,v=>v=u/\B9 u=true
 |.tup ds,v=>∃a xs,v=.ref a/\SqT K H a xs/\DIss K H ds xs
 |.lst ds,v=>∃a xs,v=.ref a/\SqL K H a xs/\DIss K H ds xs
def DIss(K:Frag)(H:Hp):Ds->LUz->Prop
 |.nil,xs=>xs=[]
 |.cons d r,xs=>∃x ys,xs=x::ys/\DIs K H d x/\DIss K H r ys
end
mutual
def dep:D->Nat
 |.at _=>0
 |.tup ds=>Be ds+1
 |.lst ds=>Be ds+1
def Be:Ds->Nat
 |.nil=>0
 |.cons d r=>max (dep d) (Be r)
end
mutual
def deq:D->D->Bool
 |.at u,.at v=>eqV u v
 |.tup xs,.tup ys=>Bd xs ys
 |.lst xs,.lst ys=>Bd xs ys
 |_,_=>false
def Bd:Ds->Ds->Bool
 |.nil,.nil=>true
 |.cons d r,.cons e q=>deq d e&&Bd r q
 |_,_=>false
end
def Ds.len:Ds->Nat
 |.nil=>0
 |.cons _ r=>r.len+1
def Ds.get:Ds->Nat->D
 |.nil,_=>.at .non
 |.cons d _,0=>d
 |.cons _ r,i+1=>r.get i
theorem BA:∀(ds es:Ds),((List.range (min ds.len es.len)).all (λ j=>deq (ds.get j) (es.get j))&&ds.len==es.len)=Bd ds es
 |.nil,.nil=>rfl
 |.nil,.cons e q=>by simp[Ds.len,Bd]
 |.cons d r,.nil=>by simp[Ds.len,Bd]
 |.cons d r,.cons e q=>by
  have ih:=BA r q;rw[show Bd (.cons d r) (.cons e q)=(deq d e&&Bd r q) from by rw[Bd],<-ih];show((List.range (min (r.len+1) (q.len+1))).all _&&(r.len+1==q.len+1))=_;rw[show min (r.len+1) (q.len+1)=min r.len q.len+1 by lia,List.range_succ_eq_map,List.all_cons,List.all_map,Bool.and_assoc];congr 1;rw[show(r.len+1==q.len+1)=(r.len==q.len) by simp];rfl
mutual
theorem Cd:∀{K:Frag}{H:Hp}(d:D){v:V},DIs K H d v->deq d d=true
 |_,_,.at u,v,h=>by
  obtain⟨_,hf⟩:=(show v=u/\B9 u=true by simpa [DIs] using h);rw[deq];cases u<;>simp_all [B9,eqV]
 |_,_,.tup ds,v,h=>by
  rw[DIs]at h;obtain⟨a,xs,_,_,q⟩:=h;rw[deq];exact Fi ds q
 |_,_,.lst ds,v,h=>by
  rw[DIs]at h;obtain⟨a,xs,_,_,q⟩:=h;rw[deq];exact Fi ds q
theorem Fi:∀{K:Frag}{H:Hp}(ds:Ds){xs:LUz},DIss K H ds xs->Bd ds ds=true
 |_,_,.nil,_,_=>by rw[Bd]
 |_,_,.cons d r,xs,h=>by
  rw[DIss]at h;obtain⟨x,ys,_,h1,h2⟩:=h;rw[Bd,Cd d h1,Fi r h2];rfl
end
theorem DIss.len{K:Frag}{H:Hp}:∀{ds:Ds}{xs:LUz},DIss K H ds xs->ds.len=xs.length
 |.nil,xs,h=>by rw[DIss]at h;rw[h];rfl
 |.cons d r,xs,h=>by
  rw[DIss]at h;obtain⟨x,ys,rfl,_,h2⟩:=h;show r.len+1=ys.length+1;rw[DIss.len h2]
theorem DIss.get{K:Frag}{H:Hp}:∀{ds:Ds}{xs:LUz}{i:Nat}{x:V},DIss K H ds xs->xs[i]?=some x->DIs K H (ds.get i) x
 |.nil,xs,i,x,h,e=>by rw[DIss]at h;rw[h]at e;simp at e
 |.cons d r,xs,i,x,h,e=>by
  rw[DIss]at h;obtain⟨y,ys,rfl,h1,h2⟩:=h;cases i with
  |zero=>simp at e;subst e;exact h1
  |succ i =>
   show DIs K H (r.get i) x;exact DIss.get h2 (by simpa using e)
theorem Gb:∀(ds:Ds)(i:Nat),i<ds.len->dep (ds.get i)<=Be ds
 |.nil,i,h=>absurd h (by simp[Ds.len])
 |.cons d r,0,_=>by show dep d<=_;rw[Be];lia
 |.cons d r,i+1,h=>by
  have:=Gb r i (by simpa [Ds.len] using h);show dep (r.get i)<=_;rw[Be];lia
section
variable{X:Cx}{pins:PNz}{σ:St}{H:Hp}{s:Shared}
mutual
theorem DIs.inj(I:Inv X pins σ H s):∀{d e:D}{v:V},DIs X.K H d v->DIs X.K H e v->d=e
 |.at u,.at w',v,h,h'=>by
  rw[DIs]at h;rw[DIs]at h';rw[<-h.1,<-h'.1]
 |.at u,.tup ds,v,h,h'=>by
  rw[DIs]at h;rw[DIs]at h';obtain⟨a,xs,e,_⟩:=h';have:=h.2;rw[<-h.1,e]at this;cases this
 |.at u,.lst ds,v,h,h'=>by
  rw[DIs]at h;rw[DIs]at h';obtain⟨a,xs,e,_⟩:=h';have:=h.2;rw[<-h.1,e]at this;cases this
 |.tup ds,.at u,v,h',h=>by
  rw[DIs]at h;rw[DIs]at h';obtain⟨a,xs,e,_⟩:=h';have:=h.2;rw[<-h.1,e]at this;cases this
 |.lst ds,.at u,v,h',h=>by
  rw[DIs]at h;rw[DIs]at h';obtain⟨a,xs,e,_⟩:=h';have:=h.2;rw[<-h.1,e]at this;cases this
 |.tup ds,.tup es,v,h,h'=>by
  rw[DIs]at h;rw[DIs]at h';obtain⟨a,xs,rfl,h1,h2⟩:=h;obtain⟨b,ys,e,k1,k2⟩:=h';cases e;have e:=I.tuple_inj h1 k1;subst e;rw[DIss.inj I h2 k2]
 |.lst ds,.lst es,v,h,h'=>by
  rw[DIs]at h;rw[DIs]at h';obtain⟨a,xs,rfl,h1,h2⟩:=h;obtain⟨b,ys,e,k1,k2⟩:=h';cases e;have e:=I.list_inj h1 k1;subst e;rw[DIss.inj I h2 k2]
 |.tup ds,.lst es,v,h,h'=>by
  rw[DIs]at h;rw[DIs]at h';obtain⟨a,xs,rfl,h1,h2⟩:=h;obtain⟨b,ys,e,k1,k2⟩:=h';cases e;obtain⟨_,_,t1,_⟩:=I.tuple h1;obtain⟨_,_,t2,_⟩:=I.list k1;exact absurd rfl (ne_of_list_tuple t2.isList (show s.heap.IsTuple a _ from t1))
 |.lst ds,.tup es,v,h,h'=>by
  rw[DIs]at h;rw[DIs]at h';obtain⟨a,xs,rfl,h1,h2⟩:=h;obtain⟨b,ys,e,k1,k2⟩:=h';cases e;obtain⟨_,_,t1,_⟩:=I.tuple k1;obtain⟨_,_,t2,_⟩:=I.list h1;exact absurd rfl (ne_of_list_tuple t2.isList (show s.heap.IsTuple a _ from t1))
theorem DIss.inj(I:Inv X pins σ H s):∀{ds es:Ds}{xs:LUz},DIss X.K H ds xs->DIss X.K H es xs->ds=es
 |.nil,.nil,xs,h,h'=>rfl
 |.nil,.cons d r,xs,h,h'=>by
  rw[DIss]at h;rw[DIss]at h';obtain⟨x,ys,e,_⟩:=h';rw[h]at e;cases e
 |.cons d r,.nil,xs,h',h=>by
  rw[DIss]at h;rw[DIss]at h';obtain⟨x,ys,e,_⟩:=h';rw[h]at e;cases e
 |.cons d r,.cons e q,xs,h,h'=>by
  rw[DIss]at h;rw[DIss]at h';obtain⟨x,ys,rfl,h1,h2⟩:=h;obtain⟨y,zs,e',k1,k2⟩:=h';cases e';rw[DIs.inj I h1 k1,DIss.inj I h2 k2]
end
theorem Hg{A:Around}{u:V}{x:Value}{l:Addr}{items:Array Value}(r:RelV u x)(f:B9 u=true)(hl:s.heap.IsTuple l items)(hu:A.units<cLine):EqAt A s x (.ref l) false/\EqAt A s (.ref l) x false:=by
 cases u with
 |non=>cases r;exact⟨.none_tuple hl hu,.tuple_none hl hu⟩
 |bl b=>cases r;exact⟨.bool_tuple b hl hu,.tuple_bool b hl hu⟩
 |int b=>obtain⟨t,rfl⟩:=r;exact⟨.int_tuple b t hl hu,.tuple_int b t hl hu⟩
 |str b=>obtain⟨t,rfl⟩:=r;exact⟨.str_tuple b t hl hu,.tuple_str b t hl hu⟩
 |_=>exact absurd (show false=true from f) Bool.false_ne_true
theorem Hh{A:Around}{u:V}{x:Value}{l:Addr}{items:Array Value}(r:RelV u x)(f:B9 u=true)(hl:s.heap.IsList l items)(hu:A.units<cLine):EqAt A s x (.ref l) false/\EqAt A s (.ref l) x false:=by
 cases u with
 |non=>cases r;exact⟨.none_list hl hu,.list_none hl hu⟩
 |bl b=>cases r;exact⟨.bool_list b hl hu,.list_bool b hl hu⟩
 |int b=>obtain⟨t,rfl⟩:=r;exact⟨.int_list b t hl hu,.list_int b t hl hu⟩
 |str b=>obtain⟨t,rfl⟩:=r;exact⟨.str_list b t hl hu,.list_str b t hl hu⟩
 |_=>exact absurd (show false=true from f) Bool.false_ne_true
theorem Ms(I:Inv X pins σ H s):∀(n:Nat)(A:Around)(d e:D)(x y:V)(u v:Value),dep d<=n->DIs X.K H d x->DIs X.K H e y->RelV x u->RelV y v->A.units+n<cLine->EqAt A s u v (deq d e):=by
 intro n
 induction n with
 |zero =>
  intro A d e x y u v hn hd he rx ry hu;cases d with
  |tup ds=>rw[dep]at hn;lia
  |lst ds=>rw[dep]at hn;lia
  | «at» p =>
   rw[DIs]at hd;obtain⟨rfl,hf⟩:=hd;cases e with
   | «at» q =>
    rw[DIs]at he;obtain⟨rfl,hg⟩:=he;rw[deq];exact Mr rx ry hf hg
   |tup es =>
    rw[DIs]at he;obtain⟨b,ys,rfl,h1,_⟩:=he;obtain⟨_,_,t,_⟩:=I.tuple h1;cases ry;rw[deq]
    .exact(Hg rx hf (show s.heap.IsTuple b _ from t) hu).1
    all_goals (intros;simp_all)
   |lst es =>
    rw[DIs]at he;obtain⟨b,ys,rfl,h1,_⟩:=he;obtain⟨_,_,t,_⟩:=I.list h1;cases ry;rw[deq]
    .exact(Hh rx hf t.isList hu).1
    all_goals (intros;simp_all)
 |succ n ih =>
  intro A d e x y u v hn hd he rx ry hu;have hu1:A.in1.units+n<cLine:=by show A.units+1+n<cLine;lia
  cases d with
  | «at» p =>
   rw[DIs]at hd;obtain⟨rfl,hf⟩:=hd;cases e with
   | «at» q =>
    rw[DIs]at he;obtain⟨rfl,hg⟩:=he;rw[deq];exact Mr rx ry hf hg
   |tup es =>
    rw[DIs]at he;obtain⟨b,ys,rfl,h1,_⟩:=he;obtain⟨_,_,t,_⟩:=I.tuple h1;cases ry;rw[deq]
    .exact(Hg rx hf (show s.heap.IsTuple b _ from t) (by lia)).1
    all_goals (intros;simp_all)
   |lst es =>
    rw[DIs]at he;obtain⟨b,ys,rfl,h1,_⟩:=he;obtain⟨_,_,t,_⟩:=I.list h1;cases ry;rw[deq]
    .exact(Hh rx hf t.isList (by lia)).1
    all_goals (intros;simp_all)
  |tup ds =>
   have hd0:=hd;rw[dep]at hn;rw[DIs]at hd;obtain⟨a,xs,rfl,h1,h2⟩:=hd;obtain⟨i1,r1,t1,_⟩:=I.tuple h1;cases rx;cases e with
   | «at» q =>
    rw[DIs]at he;obtain⟨rfl,hg⟩:=he;rw[deq]
    .exact(Hg ry hg (show s.heap.IsTuple a _ from t1) (by lia)).2
    all_goals (intros;simp_all)
   |lst es =>
    rw[DIs]at he;obtain⟨b,ys,rfl,k1,_⟩:=he;obtain⟨_,_,t2,_⟩:=I.list k1;cases ry;rw[deq]
    .exact EqAt.tuple_list (show s.heap.IsTuple a _ from t1) t2.isList (by lia)
    all_goals (intros;simp_all)
   |tup es =>
    have he0:=he;rw[DIs]at he;obtain⟨b,ys,rfl,k1,k2⟩:=he;obtain⟨i2,r2,t2,_⟩:=I.tuple k1;cases ry;by_cases hab:a=b
    .subst hab;rw[DIs.inj I he0 hd0,Cd _ hd0];exact EqAt.same _
    .refine EqAt.of_refs hab ?_;have:=RcAt.tuples (A:=A) (e:=λ j=>deq (ds.get j) (es.get j)) (show s.heap.IsTuple a i1.toArray from t1) (show s.heap.IsTuple b i2.toArray from t2) (by lia) λ j g1 g2=>?_
     .have l1:=r1.length;have l2:=r2.length;have m1:=h2.len;have m2:=k2.len;rw[List.size_toArray,List.size_toArray,<-l1,<-l2,<-m1,<-m2,BA]at this;rw[deq];exact this
     .have l1:=r1.length;have l2:=r2.length;have m1:=h2.len;have g1':j<xs.length:=by simp at g1;lia
      have g2':j<ys.length:=by simp at g2;lia
      obtain⟨u1,e1,q1⟩:=r1.get (List.getElem?_eq_getElem g1');obtain⟨u2,e2,q2⟩:=r2.get (List.getElem?_eq_getElem g2');have d1:i1.toArray[j]=u1:=by
       have:i1[j]?=some i1.toArray[j]:=by simp
       rw[e1]at this;exact(Option.some.inj this).symm
      have d2:i2.toArray[j]=u2:=by
       have:i2[j]?=some i2.toArray[j]:=by simp
       rw[e2]at this;exact(Option.some.inj this).symm
      rw[d1,d2];exact ih _ _ _ _ _ _ _ (Nat.le_trans (Gb ds j (by lia)) (by lia)) (h2.get (List.getElem?_eq_getElem g1')) (k2.get (List.getElem?_eq_getElem g2')) q1 q2 hu1
  |lst ds =>
   have hd0:=hd;rw[dep]at hn;rw[DIs]at hd;obtain⟨a,xs,rfl,h1,h2⟩:=hd;obtain⟨i1,r1,t1,_⟩:=I.list h1;cases rx;cases e with
   | «at» q =>
    rw[DIs]at he;obtain⟨rfl,hg⟩:=he;rw[deq]
    .exact(Hh ry hg t1.isList (by lia)).2
    all_goals (intros;simp_all)
   |tup es =>
    rw[DIs]at he;obtain⟨b,ys,rfl,k1,_⟩:=he;obtain⟨_,_,t2,_⟩:=I.tuple k1;cases ry;rw[deq]
    .exact EqAt.list_tuple t1.isList (show s.heap.IsTuple b _ from t2) (by lia)
    all_goals (intros;simp_all)
   |lst es =>
    have he0:=he;rw[DIs]at he;obtain⟨b,ys,rfl,k1,k2⟩:=he;obtain⟨i2,r2,t2,_⟩:=I.list k1;cases ry;by_cases hab:a=b
    .subst hab;rw[DIs.inj I he0 hd0,Cd _ hd0];exact EqAt.same _
    .refine EqAt.of_refs hab ?_;have l1:=r1.length;have l2:=r2.length;have m1:=h2.len;have m2:=k2.len;rw[deq];rw[<-BA];by_cases hz:ds.len=es.len
     .have:=RcAt.lists (A:=A) (e:=λ j=>deq (ds.get j) (es.get j)) t1.isList t2.isList (by simp;lia) (by lia) λ j g1 g2=>?_
      .rw[List.size_toArray,<-l1,<-m1]at this;rw[hz,Nat.min_self,beq_self_eq_true,Bool.and_true,<-hz];exact this
      .have g1':j<xs.length:=by simp at g1;lia
       have g2':j<ys.length:=by simp at g2;lia
       obtain⟨u1,e1,q1⟩:=r1.get (List.getElem?_eq_getElem g1');obtain⟨u2,e2,q2⟩:=r2.get (List.getElem?_eq_getElem g2');have d1:i1.toArray[j]=u1:=by
        have:i1[j]?=some i1.toArray[j]:=by simp
        rw[e1]at this;exact(Option.some.inj this).symm
       have d2:i2.toArray[j]=u2:=by
        have:i2[j]?=some i2.toArray[j]:=by simp
        rw[e2]at this;exact(Option.some.inj this).symm
       rw[d1,d2];exact ih _ _ _ _ _ _ _ (Nat.le_trans (Gb ds j (by lia)) (by lia)) (h2.get (List.getElem?_eq_getElem g1')) (k2.get (List.getElem?_eq_getElem g2')) q1 q2 hu1
     .have e0:(ds.len==es.len)=false:=by simpa using hz
      rw[e0,Bool.and_false];exact RcAt.lists_lengths t1.isList t2.isList (by simp;lia) (by lia)
end
section
variable{X:Cx}
theorem FZ{pins:PNz}{σ:St}{H:Hp}{s:Shared}(I:Inv X pins σ H s){A:Around}{ds es:Ds}{xs ys:LUz}{i1 i2:LWz}(h2:DIss X.K H ds xs)(k2:DIss X.K H es ys)(r1:Vals xs i1)(r2:Vals ys i2)
  (hu:A.units+60<cLine) (hd:Be ds<=50):∀j (g1:j<i1.toArray.size) (g2:j<i2.toArray.size),EqAt A.in1 s i1.toArray[j] i2.toArray[j] (deq (ds.get j) (es.get j)):=λ j g1 g2=>by
 have l1:=r1.length;have l2:=r2.length;have m1:=h2.len;have g1':j<xs.length:=by simp at g1;lia
 have g2':j<ys.length:=by simp at g2;lia
 obtain⟨u1,e1,q1⟩:=r1.get (List.getElem?_eq_getElem g1');obtain⟨u2,e2,q2⟩:=r2.get (List.getElem?_eq_getElem g2');have d1:i1.toArray[j]=u1:=by
  have:i1[j]?=some i1.toArray[j]:=by simp
  rw[e1]at this;exact(Option.some.inj this).symm
 have d2:i2.toArray[j]=u2:=by
  have:i2[j]?=some i2.toArray[j]:=by simp
  rw[e2]at this;exact(Option.some.inj this).symm
 rw[d1,d2];exact Ms I 50 _ _ _ _ _ _ _ (Nat.le_trans (Gb ds j (by lia)) hd) (h2.get (List.getElem?_eq_getElem g1')) (k2.get (List.getElem?_eq_getElem g2')) q1 q2 (by show A.units+1+50<cLine;lia)
def S4(K:Frag)(neg:Bool):R2:=λ x y H Q=>∃d e,DIs K H d x/\DIs K H e y/\(∃a,x=.ref a)/\(∃b,y=.ref b)/\dep d<=50/\Q (.bl (if neg then !deq d e else deq d e)) H
theorem JF{k:Nat}(hr:Room k X.A):OpR X (compareOp .Eq) (S4 X.K false):=by
 intro pins s σ H x y v u Q I rx ry h;obtain⟨d,e,hd,he,⟨a,rfl⟩,⟨b,rfl⟩,hn,q⟩:=h;cases rx;cases ry;have hu:=hr.units;cases d with
 | «at» p=>rw[DIs]at hd;obtain⟨rfl,hf⟩:=hd;cases hf
 |tup ds =>
  rw[dep]at hn;rw[DIs]at hd;obtain⟨a',xs,e',h1,h2⟩:=hd;cases e';obtain⟨i1,r1,t1,_⟩:=I.tuple h1;cases e with
  | «at» p=>rw[DIs]at he;obtain⟨rfl,hf⟩:=he;cases hf
  |tup es =>
   rw[DIs]at he;obtain⟨b',ys,e',k1,k2⟩:=he;cases e';obtain⟨i2,r2,t2,_⟩:=I.tuple k1;refine RcAt.tuples (show s.heap.IsTuple a i1.toArray from t1) (show s.heap.IsTuple b i2.toArray from t2) (by lia) (FZ I h2 k2 r1 r2 (by lia) (by lia)) _ _ _ _ ⟨.bl _,H,I,?_,q⟩;show Value.bool _=Value.bool _;rw[List.size_toArray,List.size_toArray,<-r1.length,<-r2.length,<-h2.len,<-k2.len,BA];simp only[Bool.false_eq_true,if_false];rw[deq]
  |lst es =>
   rw[DIs]at he;obtain⟨b',ys,e',k1,k2⟩:=he;cases e';obtain⟨i2,r2,t2,_⟩:=I.list k1;refine RcAt.tuple_list (show s.heap.IsTuple a _ from t1) t2.isList (by lia) _ _ _ _ ⟨.bl _,H,I,?_,q⟩;show Value.bool _=Value.bool _;simp only[Bool.false_eq_true,if_false];rw[deq]<;>(intros;simp_all)
 |lst ds =>
  rw[dep]at hn;rw[DIs]at hd;obtain⟨a',xs,e',h1,h2⟩:=hd;cases e';obtain⟨i1,r1,t1,_⟩:=I.list h1;cases e with
  | «at» p=>rw[DIs]at he;obtain⟨rfl,hf⟩:=he;cases hf
  |tup es =>
   rw[DIs]at he;obtain⟨b',ys,e',k1,k2⟩:=he;cases e';obtain⟨i2,r2,t2,_⟩:=I.tuple k1;refine RcAt.list_tuple t1.isList (show s.heap.IsTuple b _ from t2) (by lia) _ _ _ _ ⟨.bl _,H,I,?_,q⟩;show Value.bool _=Value.bool _;simp only[Bool.false_eq_true,if_false];rw[deq]<;>(intros;simp_all)
  |lst es =>
   rw[DIs]at he;obtain⟨b',ys,e',k1,k2⟩:=he;cases e';obtain⟨i2,r2,t2,_⟩:=I.list k1;have l1:=r1.length;have l2:=r2.length;have m1:=h2.len;have m2:=k2.len;by_cases hz:ds.len=es.len
   .refine RcAt.lists t1.isList t2.isList (by simp;lia) (by lia) (FZ I h2 k2 r1 r2 (by lia) (by lia)) _ _ _ _ ⟨.bl _,H,I,?_,q⟩;show Value.bool _=Value.bool _;simp only[Bool.false_eq_true,if_false];rw[deq,<-BA,List.size_toArray,<-l1,<-m1,hz,Nat.min_self,beq_self_eq_true,Bool.and_true]
   .refine RcAt.lists_lengths t1.isList t2.isList (by simp;lia) (by lia) _ _ _ _ ⟨.bl _,H,I,?_,q⟩;show Value.bool _=Value.bool _;have e0:(ds.len==es.len)=false:=by simpa using hz
    simp only[Bool.false_eq_true,if_false];rw[deq,<-BA,e0,Bool.and_false]
theorem LR{k:Nat}(hr:Room k X.A):OpR X (compareOp .NotEq) (S4 X.K true):=by
 intro pins s σ H x y v u Q I rx ry h;obtain⟨d,e,hd,he,⟨a,rfl⟩,⟨b,rfl⟩,hn,q⟩:=h;cases rx;cases ry;have hu:=hr.units;cases d with
 | «at» p=>rw[DIs]at hd;obtain⟨rfl,hf⟩:=hd;cases hf
 |tup ds =>
  rw[dep]at hn;rw[DIs]at hd;obtain⟨a',xs,e',h1,h2⟩:=hd;cases e';obtain⟨i1,r1,t1,_⟩:=I.tuple h1;cases e with
  | «at» p=>rw[DIs]at he;obtain⟨rfl,hf⟩:=he;cases hf
  |tup es =>
   rw[DIs]at he;obtain⟨b',ys,e',k1,k2⟩:=he;cases e';obtain⟨i2,r2,t2,_⟩:=I.tuple k1;refine RcNeAt.tuples (show s.heap.IsTuple a i1.toArray from t1) (show s.heap.IsTuple b i2.toArray from t2) (by lia) (FZ I h2 k2 r1 r2 (by lia) (by lia)) _ _ _ _ ⟨.bl _,H,I,?_,q⟩;show Value.bool _=Value.bool _;rw[List.size_toArray,List.size_toArray,<-r1.length,<-r2.length,<-h2.len,<-k2.len,BA];simp only[if_true];rw[deq]
  |lst es =>
   rw[DIs]at he;obtain⟨b',ys,e',k1,k2⟩:=he;cases e';obtain⟨i2,r2,t2,_⟩:=I.list k1;refine RcNeAt.tuple_list (show s.heap.IsTuple a _ from t1) t2.isList (by lia) _ _ _ _ ⟨.bl _,H,I,?_,q⟩;show Value.bool _=Value.bool _;simp only[if_true];rw[deq]<;>first|rfl|(intros;simp_all)
 |lst ds =>
  rw[dep]at hn;rw[DIs]at hd;obtain⟨a',xs,e',h1,h2⟩:=hd;cases e';obtain⟨i1,r1,t1,_⟩:=I.list h1;cases e with
  | «at» p=>rw[DIs]at he;obtain⟨rfl,hf⟩:=he;cases hf
  |tup es =>
   rw[DIs]at he;obtain⟨b',ys,e',k1,k2⟩:=he;cases e';obtain⟨i2,r2,t2,_⟩:=I.tuple k1;refine RcNeAt.list_tuple t1.isList (show s.heap.IsTuple b _ from t2) (by lia) _ _ _ _ ⟨.bl _,H,I,?_,q⟩;show Value.bool _=Value.bool _;simp only[if_true];rw[deq]<;>first|rfl|(intros;simp_all)
  |lst es =>
   rw[DIs]at he;obtain⟨b',ys,e',k1,k2⟩:=he;cases e';obtain⟨i2,r2,t2,_⟩:=I.list k1;have l1:=r1.length;have l2:=r2.length;have m1:=h2.len;have m2:=k2.len;by_cases hz:ds.len=es.len
   .refine RcNeAt.lists t1.isList t2.isList (by simp;lia) (by lia) (FZ I h2 k2 r1 r2 (by lia) (by lia)) _ _ _ _ ⟨.bl _,H,I,?_,q⟩;show Value.bool _=Value.bool _;simp only[if_true];rw[deq,<-BA,List.size_toArray,<-l1,<-m1,hz,Nat.min_self,beq_self_eq_true,Bool.and_true]
   .refine RcNeAt.lists_lengths t1.isList t2.isList (by simp;lia) (by lia) _ _ _ _ ⟨.bl _,H,I,?_,q⟩;show Value.bool _=Value.bool _;have e0:(ds.len==es.len)=false:=by simpa using hz
    simp only[if_true];rw[deq,<-BA,e0,Bool.and_false];rfl
end
section
variable{X:Cx}{e st:Expr}{te ts:TE}{pos p2:Pos}
def Tq(K:Frag)(te ts:TE):TE:=λ σ H Q=>te σ H λ x H1=>ts σ H1 λ y H2=>∃a xs,x=.ref a/\y=.int (-1)/\SqL K H2 a xs/\∀p,H2 p=none->Q (.ref p) (upd H2 p (.lst xs.reverse))
theorem RM(he:PE X e te)(hs:PE X st ts):PE X (.Subscript e (.Slice none none (some st) p2) pos) (Tq X.K te ts):=by
 intro pins s σ H Q I h;refine Subscript_ (thn (he pins s σ H _ I h) λ v s1 hz_=>?_);obtain⟨x,H1,I1,r1,q1⟩:=hz_;refine wpAny_Slice ?_;rw[evalPart_none];refine wpAny_pure ?_;refine wpAny_pure ?_;rw[evalPart_some];refine thn (hs pins s1 σ H1 _ I1 q1) λ u s2 hz_=>?_;obtain⟨y,H2,I2,r2,q2⟩:=hz_;obtain⟨a,xs,rfl,rfl,hx,q⟩:=q2;obtain⟨t,rfl⟩:=r2;cases r1;have I4:Inv X pins σ H2 { s2 with heap:=s2.heap.push { cls:=.type "slice",data:=.fields #[.none,.none,.int (-1) t] } }:=I2.kept (t':=s2.toks) λ b ob q=>Heap.get?_push_of_some _ q;obtain⟨its,r,ht,hz⟩:=I4.list hx;have hlen:=r.length;refine tail_any (ops:=[.ref a,.ref s2.heap.objs.size]) (id:="list.__getitem__") ht.isList.typeIs slot_list_getitem.lookup ?_ (by with_unfolding_all rfl);refine wpAny_getItem_list_slice ht.isList (Heap.IsSliceOf.new ..) .none .none (.int (-1) t) (by simp) ?_ (by rw[List.size_toArray]<;>lia);rw[krv_pick];show EP X pins σ Q (.ref _) _;refine⟨.ref _,_,I4.laid (t':=s2.toks) (o:=.lst xs.reverse) (λ b ob q=>Heap.get?_push_of_some _ q) (Nat.le_refl _) ?_,rfl,q _ (I4.hok.fresh (Nat.le_refl _))⟩;exact⟨by rw[List.length_reverse];exact hz,_,0,r.reverse,Heap.get?_push_size _ rfl⟩
end
structure Kk(P:Program)(w:World)(K:Frag)(mg:MGz)(base:Heap)(k:Nat)(x:Str)(C:Addr)(ps:LSz)(sp:Sp):Prop where
 ex:∃(f:Addr)(fd:FuncData),Mk K C f/\A5 P w K mg base CX0 k f fd ps sp/\mg x=some (.ref C)/\Binds K fd ps []
section
variable{X:Cx}{k j:Nat}{x m:Str}{C:Addr}{ps:LSz}{sp:Sp}{p pos apos:Pos}{e o:Expr}{es:List Expr}{t:TA}{ta:TE}
theorem ID(D:Kk X.prog X.w X.K X.mg X.base k x C ps sp)(hr:Room j X.A)(ha:PA X (e::es) t)(hj:k+1<=j:=by decide)(hg:Gl X x:=by rfl)(hdb:(x==("__debug__":Str))=false:=by decide)
  (he:starEach (e::es) X.env=(false,eval e X.env)::starEach es X.env:=by rfl) (hpl:(backTo pos (starEach es X.env)).any (·.1)=false:=by rfl):PE X (.Call (.Name x p) (e::es) [] pos) (Rm C sp [] E0 t):=by
 obtain⟨f,fd,M,F,hm,hb⟩:=D.ex;exact Q0 M F (hr.mono hj) hg hm hb .nil MW ha hdb he hpl
end
section
variable{X:Cx}{K:Frag}{pos:Pos}
theorem FT{es:List Expr}{k:Nat}{t:TGs}{n:Nat}(hc:X.calm=true)(h:PGs X es t)(hK:X.K=K:=by rfl)
  (hn:(assignEach es X.env).length=n:=by rfl) (hst:(assignEach es X.env).findIdx? (·.1)=none:=by rfl):PG X (.Tuple es k pos) (SQ K n t):=by
 subst hK;exact CO hc h hn hst
end
end L2
namespace GB
open PySem.W
open PySem L2
structure Rc where
 t:Int
 l:Int
 b:Int
 r:Int
 deriving DecidableEq
def Rc.ls(p:Rc):List Int:=[p.t,p.l,p.b,p.r]
def Rc.has(p:Rc)(r c:Int):Prop:=p.t<=r/\r<p.b/\p.l<=c/\c<p.r
def Rc.In(w h:Int)(p:Rc):Prop:=0<=p.t/\p.t<p.b/\p.b<=h/\0<=p.l/\p.l<p.r/\p.r<=w
def Apart(p q:Rc):Prop:=∀r c,p.has r c->q.has r c->False
def key:List Int->Int
 |[a,b,c,d]=>((a*13+b)*13+c)*13+d
 |_=>0
theorem JW(p:Rc):key p.ls=((p.t*13+p.l)*13+p.b)*13+p.r:=rfl
theorem key_lt{p q:Rc}{w h w' h':Int}(hp:p.In w h)(hq:q.In w' h')(b1:w<=12)(b2:h<=12)(b3:w'<=12)(b4:h'<=12):HT.lexLt p.ls q.ls=decide (key p.ls<key q.ls):=by
 obtain⟨a1,a2,a3,a4,a5,a6⟩:=hp;obtain⟨c1,c2,c3,c4,c5,c6⟩:=hq;rw[JW,JW];show(if p.t=q.t then (if p.l=q.l then (if p.b=q.b then (if p.r=q.r then false else decide (p.r<q.r)) else decide (p.b<q.b)) else decide (p.l<q.l)) else decide (p.t<q.t))=_
 repeat' split
 all_goals (first|(apply Eq.symm;rw[decide_eq_false_iff_not];lia)|(rw[decide_eq_decide];lia))
theorem key_inj{p q:Rc}{w h w' h':Int}(hp:p.In w h)(hq:q.In w' h')(b1:w<=12)(b2:h<=12)(b3:w'<=12)(b4:h'<=12)(e:key p.ls=key q.ls):p=q:=by
 obtain⟨a1,a2,a3,a4,a5,a6⟩:=hp;obtain⟨c1,c2,c3,c4,c5,c6⟩:=hq;rw[JW,JW]at e;obtain⟨pt,pl,pb,pr⟩:=p;obtain⟨qt,ql,qb,qr⟩:=q;simp only at *;have e1:pt=qt:=by lia
 subst e1;have e2:pl=ql:=by lia
 subst e2;have e3:pb=qb:=by lia
 subst e3;have e4:pr=qr:=by lia
 subst e4;rfl
def Srt(ps:List Rc):Prop:=(ps.map λ p=>key p.ls).Pairwise (·<=·)
theorem sorted_same{ps qs:List Rc}{w h:Int}(hp:∀p∈ps,p.In w h)(b1:w<=12)(b2:h<=12)(e:ps.Perm qs)(s1:Srt ps)(s2:Srt qs):ps=qs:=by
 have hq:∀p∈qs,p.In w h:=λ p x=>hp p (e.mem_iff.mpr x);have hm:=ksm_same (List.Perm.map (λ p:Rc=>key p.ls) e) s1 s2;have len:=e.length_eq;apply List.ext_getElem len;intro i h1 h2;have:=congrArg (λ l=>l[i]?) hm;simp only[List.getElem?_map,List.getElem?_eq_getElem h1,List.getElem?_eq_getElem h2,Option.map_some,Option.some.injEq]at this;exact key_inj (hp _ (List.getElem_mem h1)) (hq _ (List.getElem_mem h2)) b1 b2 b1 b2 this
end GB
namespace L2
open PySem.W
open PySem PySem.Spec PyProof.Rows
section
variable{prog:Program}{w:World}{A:Around}{E:VPz}{h:Heap}{g:Array GenState}{d:Drawn}{t:Nat}{os:OsState}
 {nm qn:Str} {C N:Addr} {bs bm bmB:LWz} {hdct:Bool} {sn:LSz} {sub:LWz} {ab:Bool} {col:Option Bool} {dd:Option Addr} {k0 k1 k2 k3 k5:Option Value} {B newId initId:String}
end
open PySem.Builtin PySem.Builtin.ObjectAttr
def vErr:LWz:=[.type "ValueError",.type "Exception",.type "BaseException",.type "object"]
def Kl(C x:Addr):HO:=.ext λ h=>∃vs sl,h.get? x=some ⟨.ref C,none,.fields vs,sl⟩/\vs[1]?=some Value.none
def Tk(C dx x:Addr):HO:=.ext λ h=>∃vs sl,h.get? x=some ⟨.ref C,some dx,.fields vs,sl⟩/\vs[1]?=some Value.none
def Ir(C:Addr)(d:Option Addr)(x T:Addr):HO:=.ext λ h=>∃vs sl,h.get? x=some ⟨.ref C,d,.fields vs,sl⟩/\vs[1]?=some (.ref T)
def TY(dx:Addr)(fs:LFz):HO:=.ext λ h=>∃mA,h.Ns1 dx mA/\(∀f,RelO (fs.lookup f) (mA f))/\PySem.Within mA (fs.map (·.1))
section
variable{P:Program}{w:World}{H:Hp}{h:Heap}{x C dx:Addr}{fs:LFz}
theorem QQ{vs:Array Value}{sl:AOz}(e:h.get? x=some ⟨.ref C,none,.fields vs,sl⟩)(f:vs[1]?=some Value.none):ObjOk P w H h x (Kl C x) :=
 ⟨⟨vs,sl,e,f⟩,⟨_,e⟩,λ_ _ ⟨vs,sl,e,f⟩ k=>⟨vs,sl,k _ e,f⟩⟩
theorem QP{d:Option Addr}{T:Addr}{vs:Array Value}{sl:AOz}(e:h.get? x=some ⟨.ref C,d,.fields vs,sl⟩)(f:vs[1]?=some (.ref T)):ObjOk P w H h x (Ir C d x T) :=
 ⟨⟨vs,sl,e,f⟩,⟨_,e⟩,λ_ _ ⟨vs,sl,e,f⟩ k=>⟨vs,sl,k _ e,f⟩⟩
end
def Mp(K:Frag)(C:Addr)(fI:Addr):Bool:=match K.lookup C with
 |some ⟨.type "type",_,.cls cd,sl⟩=>(match cd.mro,sl.toList with
  |.ref C'::bm,[_,_,_,_,some (.builtin n),_]=>C'==C&&n=="ValueError.__new__"&&!cd.hasDel&&tailIn K vErr bm&&nsOkIn K cd.ns&&nsIn K cd.ns "__init__"==some (some (.ref fI))
  |_,_=>false)
 |_=>false
theorem ObjOk.there{P:Program}{w:World}{H:Hp}{h:Heap}{a:Addr}{o:HO}(x:ObjOk P w H h a o):∃u,h.get? a=some u:=by
 cases o with
 |lst xs=>obtain⟨_,_,_,_,e⟩:=x;exact⟨_,e⟩
 |tup xs=>obtain⟨_,_,_,p⟩:=x;obtain⟨_,e,_⟩:=p;exact⟨_,e⟩
 |dK kvs=>obtain⟨_,_,_,_,o,_,_,e,_⟩:=x;exact⟨_,e⟩
 |dT kvs=>obtain⟨_,_,_,_,o,_,_,e,_⟩:=x;exact⟨_,e⟩
 |set S n=>obtain⟨o,_,_,_,e,_⟩:=x;exact⟨_,e⟩
 |ins C dx fs=>obtain⟨_,_,_,e,_⟩:=x;exact⟨_,e⟩
 |own y=>obtain⟨_,e⟩:=x;exact⟨_,e⟩
 |xd fs=>obtain⟨_,⟨_,_,_,e,_⟩,_⟩:=x;exact⟨_,e⟩
 |rng lo hi=>obtain⟨_,_,_,e⟩:=x;exact⟨_,e⟩
 |frz ob u=>obtain⟨e,_⟩:=x;exact⟨_,e⟩
 |tbl ps=>exact⟨_,(show h.get? a=some _ from x)⟩
 |met f y=>exact⟨_,(show h.get? a=some _ from x)⟩
 |ext φ=>obtain⟨_,⟨_,e⟩,_⟩:=x;exact⟨_,e⟩
section
variable{X:Cx}{CX:CXT}{k j:Nat}{f C:Addr}{fd:FuncData}{ps names:LSz}{sp:Sp}{E:XK}{x m:Str}{p pos apos:Pos}{e o:Expr}{es:List Expr}{ta:TE}{t:TA}
structure XMk0(K:Frag)(mg:MGz)(x:Str)(C:Addr):Prop where
 ei:PySem.W.excIn K C vErr "ValueError.__new__"=true
 kp:keepIn K (.ref C)=true
 mm:mg x=some (.ref C)
theorem XMk0.call{K:Frag}{mg:MGz}{x:Str}{C:Addr}(M:XMk0 K mg x C){prog:Program}{w:World}{A:Around}{E:VPz}{s:Shared}{Q:VPz}(X:K.In s.heap)
  (hq:∀h' e,Heap.MadeExcOf s.heap h' e (.ref C) []->Q (.ref e) { s with heap:=h' }):wpAny (model prog w) A (PySem.call (.ref C) []) Q E s:=by
 obtain⟨hh,g,d,t,os⟩:=s;have q:=M.ei;unfold PySem.W.excIn at q;split at q
 .rename_i dd cd sl ho;split at q
  .rename_i C' bm k0 k1 k2 k3 n k5 hm hs;simp only[Bool.and_eq_true,beq_iff_eq,Bool.not_eq_true']at q;obtain⟨⟨⟨⟨⟨rfl,rfl⟩,hdel⟩,ht⟩,hok⟩,hni⟩:=q;obtain⟨nm,bs,mro,ns,qn,hd,sn,sub,ab,col,del⟩:=cd;dsimp only at hm hdel hok hni;subst hm hdel;have hsl:sl=#[k0,k1,k2,k3,some (.builtin "ValueError.__new__"),k5]:=by
    obtain⟨l⟩:=sl;simp only at hs;rw[hs]
   subst hsl;have G:hh.Ns ns (hh.nsMap ns):=.of_isNs (isNs_of_in X hok);exact wpAny_call_exc_subT PySem.F.excBase_ValueError (tail_of_in X ht) (X _ _ ho) G (nsMap_none_of_in X hok hni) hq
  .cases q
 .cases q
end
structure HE(fr tt:List Addr)(e T:Addr)(fl cls:Value)(d:Option Addr)(h h':Heap):Prop where
 nT:h.get? T=none
 keep:∀b o,b≠e->b∉fr->b∉tt->h.get? b=some o->h'.get? b=some o
 slot:∀b o,b∈fr->h.get? b=some o->∃sl,h'.get? b=some { o with slots:=sl }
 exc:∃vs sl,h'.get? e=some ⟨cls,d,.fields vs,sl⟩/\vs[1]?=some (.ref T)
 tb:∃o ts,h'.get? T=some o/\o.data=.fields ts/\ts[3]?=some fl
 old:∀t o ts,t∈tt->t≠e->h.get? t=some o->o.data=.fields ts->3<ts.size->∃o' ts',h'.get? t=some o'/\o'.data=.fields ts'/\ts'[3]?=some Value.none
section
variable{M:Model}{A:Around}{E:VPz}{s:Shared}{base:Heap}{env:Env}{outer:List Env}{L e:Addr}{cls:Value}{d:Option Addr}{vs:Array Value}{sl:AOz}{Q:Unit->Shared->Prop}
theorem GN{head:Value}{hadNext:Bool}(hfr:A.frames=some (env::outer))(hl:s.heap.FunFrames base (env::outer))(hf:env.frame=some L)(he:s.heap.get? e=some ⟨cls,d,.fields vs,sl⟩)(hsz:1<vs.size)
    (h:∀h' T,HE (frs (env::outer)) [] e T (rawInt L) cls d s.heap h'->Q () { s with heap:=h' }) :
    wpAny M A (do
      let a <-frameOf env
      let pl <-entryPlaceOf L hadNext
      let b <-EntryCells.newEntry head a .none (rawInt L) .none pl
      setField (.ref e) 1 b) Q E s:=by
  have hne:e∉frs (env::outer):=λ hm=>by
    obtain⟨_,o,ho,hnf⟩:=hl.mem hm;rw[he]at ho;cases ho;exact hnf vs rfl
  refine wpAny_bind (wpAny_frameOf_fun hfr hl hf λ h₁ hs=>wpAny_bind (wpAny_entryPlaceOf λ pl hpl=>?_));unfold EntryCells.newEntry newFields;refine wpAny_bind (wpAny_newObj_type ?_ (hpl.sizeOk5 _ _ _ _ _));have e1:h₁.get? e=some ⟨cls,d,.fields vs,sl⟩:=(hs.2.1 e hne).trans he;generalize hob:({ cls:=.type "traceback",dict:=none,data:=.fields ([head,.ref L,.none,rawInt L,.none]++(if pl.isEmpty then List.replicate 6 Value.none else pl)).toArray }:Obj)=ob;have hfb:ob.isFreed=false:=by rw[<-hob];rfl
  have e2:=Heap.get?_push_of_some (h:=h₁) ob e1;refine wpAny_setField e2 rfl hsz (h _ h₁.objs.size ?_);have nTe:h₁.objs.size≠e:=Nat.ne_of_gt (Heap.lt_size e1);have kp:∀b o,b≠e->h₁.get? b=some o->((h₁.push ob).update e (Obj.mapFields (·.setIfInBounds 1 (Value.ref h₁.objs.size)))).get? b=some o:=λ b o nb hb=>by
    rw[Heap.get?_update_other _ _ (Ne.symm nb)];exact Heap.get?_push_of_some _ hb
  refine⟨Heap.get?_none_of_le (Nat.le_of_eq hs.1.symm),λ b o nb nf _ hb=>kp b o nb ((hs.2.1 b nf).trans hb),λ b o bf hb=>?_,⟨vs.setIfInBounds 1 (.ref h₁.objs.size),sl,?_,by simp[hsz]⟩,⟨ob,([head,.ref L,.none,rawInt L,.none]++(if pl.isEmpty then List.replicate 6 Value.none else pl)).toArray,?_,by rw[<-hob],?_⟩,λ_ _ _ z=>nomatch z⟩
  · obtain⟨sl',z⟩:=hs.2.2 b o hb
    exact⟨sl',kp b _ (λ q=>hne (q ▸ bf)) z⟩
  · exact Heap.get?_update_self _ e2 rfl
  · rw[Heap.get?_update_other _ _ (Ne.symm nTe)];exact Heap.get?_push_size _ hfb
  · simp
theorem KN(hfr:A.frames=some (env::outer))(hl:s.heap.FunFrames base (env::outer))(hf:env.frame=some L)(he:s.heap.get? e=some ⟨cls,d,.fields vs,sl⟩)(h1:vs[1]?=some Value.none)
  (h:∀h' T,HE (frs (env::outer)) [] e T (rawInt L) cls d s.heap h'->Q () { s with heap:=h' }):wpAny M A (noteFrame (.ref e) env) Q E s:=by
 unfold noteFrame;simp only[hf];refine wpAny_bind (wpAny_field he rfl h1 ?_);rw[if_neg (by decide)];exact GN hfr hl hf he (Array.getElem?_eq_some_iff.mp h1).1 h
theorem NQ{T1:Addr}{oT:Obj}{ts:Array Value}(hfr:A.frames=some (env::outer))(hl:s.heap.FunFrames base (env::outer))(hf:env.frame=some L)(he:s.heap.get? e=some ⟨cls,d,.fields vs,sl⟩)(h1:vs[1]?=some (.ref T1))
  (hT:s.heap.get? T1=some oT) (hd:oT.data=.fields ts) (h3:ts[3]?=some Value.none) (ne:T1≠e)
  (h:∀h' T,HE (frs (env::outer)) [T1] e T (rawInt L) cls d s.heap h'->Q () { s with heap:=h' }):wpAny M A (noteFrame (.ref e) env) Q E s:=by
 unfold noteFrame;simp only[hf];refine wpAny_bind (wpAny_field he rfl h1 ?_);rw[if_pos (show(Value.ref T1 != Value.none)=true from by simp)];refine wpAny_bind (wpAny_field hT hd h3 ?_);rw[if_neg (show ¬((Value.none==rawInt L)=true) from by simp[rawInt])];have hs3:3<ts.size:=(Array.getElem?_eq_some_iff.mp h3).1;refine wpAny_bind (wpAny_setField hT hd hs3 ?_);have oth:∀b,b≠T1->(s.heap.update T1 (Obj.mapFields (·.setIfInBounds 3 Value.none))).get? b=s.heap.get? b:=λ b hb=>Heap.get?_update_other _ _ (Ne.symm hb);have nT1:T1∉frs (env::outer):=λ hm=>by
  obtain⟨_,o,ho,hnf⟩:=hl.mem hm;rw[hT]at ho;cases ho;exact hnf ts hd
 have self:(s.heap.update T1 (Obj.mapFields (·.setIfInBounds 3 Value.none))).get? T1=some (Obj.mapFields (·.setIfInBounds 3 Value.none) oT):=Heap.get?_update_self _ hT (Obj.isFreed_of_fields (Obj.data_mapFields hd _));refine GN (s:={ s with heap:=s.heap.update T1 (Obj.mapFields (·.setIfInBounds 3 Value.none)) }) hfr (hl.of_keeps λ b o hb hnf=>⟨o,(oth b λ q=>?_).trans hb,rfl⟩) hf ((oth e (Ne.symm ne)).trans he) (Array.getElem?_eq_some_iff.mp h1).1 λ h' T n=>h h' T ?_
 .rw[q,hT]at hb;cases hb;exact hnf ts hd
 .have nT':s.heap.get? T=none:=by
   by_cases q:T=T1
   .have:=n.nT;rw[q]at this;rw[self]at this;cases this
   .rw[<-oth T q];exact n.nT
  refine⟨nT',λ b o nb nf nt hb=>n.keep b o nb nf (by simp) ((oth b (by simpa using nt)).trans hb),λ b o bf hb=>n.slot b o bf ((oth b λ q=>nT1 (q ▸ bf)).trans hb),n.exc,n.tb,λ t o us ht hte hb hdo hsz=>?_⟩;obtain rfl:t=T1:=by simpa using ht
  rw[hT]at hb;cases hb;rw[hd]at hdo;cases hdo;exact⟨_,_,n.keep t _ hte nT1 (by simp) self,Obj.data_mapFields hd _,by simp[hs3]⟩
theorem He{T:Addr}{oT:Obj}{ts:Array Value}(he:s.heap.get? e=some ⟨cls,d,.fields vs,sl⟩)(h1:vs[1]?=some (.ref T))(hT:s.heap.get? T=some oT)(hd:oT.data=.fields ts)(hs3:3<ts.size)
  (h:∀h',(∀b,b≠T->h'.get? b=s.heap.get? b)->(∃o' ts',h'.get? T=some o'/\o'.data=.fields ts'/\ts'[3]?=some Value.none)->Q () { s with heap:=h' }):wpAny M A (setFlight (.ref e) none) Q E s:=by
 unfold setFlight;refine wpAny_bind (wpAny_field he rfl h1 ?_);rw[if_pos (show(Value.ref T != Value.none)=true from by simp)];refine wpAny_setField hT hd hs3 (h _ (λ b hb=>Heap.get?_update_other _ _ (Ne.symm hb)) ⟨_,_,Heap.get?_update_self _ hT (Obj.isFreed_of_fields (Obj.data_mapFields hd _)),Obj.data_mapFields hd _,by simp[hs3]⟩)
end
def TbO(T:Addr):HO:=.ext λ h=>∃o ts,h.get? T=some o/\o.data=.fields ts/\ts[3]?=some Value.none
theorem LB{P:Program}{w:World}{H:Hp}{h:Heap}{T:Addr}(t:∃o ts,h.get? T=some o/\o.data=.fields ts/\ts[3]?=some Value.none):ObjOk P w H h T (TbO T) :=
 ⟨t,let ⟨o,_,e,_⟩:=t;⟨o,e⟩,λ_ _ ⟨o,ts,e,r⟩ k=>⟨o,ts,k _ e,r⟩⟩
def PV(H:Hp)(x C:Addr)(d:Option Addr):Prop:=(d=none/\H x=some (Kl C x))\/∃dx,d=some dx/\H x=some (Tk C dx x)
def FJ(H:Hp)(x C:Addr)(d:Option Addr)(T:Addr):Prop:=H x=some (Ir C d x T)/\H T=some (TbO T)/\T≠x
def thrown(H:Hp)(x C:Addr)(d:Option Addr)(T:Addr):Hp:=upd (upd H T (TbO T)) x (Ir C d x T)
theorem De{H:Hp}{x C T:Addr}{d:Option Addr}:thrown H x C d T x=some (Ir C d x T):=upd_same
theorem Et{H:Hp}{x C T:Addr}{d:Option Addr}(n:T≠x):thrown H x C d T T=some (TbO T):=by unfold thrown;rw[Ah n,upd_same]
theorem AS{H:Hp}{x C T b:Addr}{d:Option Addr}(n:b≠x)(m:b≠T):thrown H x C d T b=H b:=by unfold thrown;rw[Ah n,Ah m]
section
variable{X:Cx}{pins:PNz}{σ:St}{H:Hp}{s:Shared}{x C T:Addr}{d:Option Addr}{h1 h2:Heap}{fl:Value}{tt:List Addr}
theorem Q9(I:Inv X pins σ H s){φ:Heap->Prop}(hx:H x=some (.ext φ))(htt:∀t∈tt,H t=some (TbO t)/\t≠x)(n:HE (frs X.stack) tt x T fl (.ref C) d s.heap h1)(k2:∀b,b≠T->h2.get? b=h1.get? b)
  (t2:∃o ts,h2.get? T=some o/\o.data=.fields ts/\ts[3]?=some Value.none):H T=none/\T≠x/\Un (frs X.stack) [] H (thrown H x C d T) s.heap h2/\HOk X.prog X.w (thrown H x C d T) h2:=by
 have hT:H T=none:=by
  cases q:H T with
  |none=>rfl
  |some u =>
   obtain⟨o,ho⟩:=(I.hok T u q).there;rw[n.nT]at ho;cases ho
 have nTx:T≠x:=λ z=>by rw[z,hx]at hT;cases hT
 have tn:∀b o,s.heap.get? b=some o->b≠T:=λ b o e z=>by rw[z,n.nT]at e;cases e
 have un:∀b,H b=none->b≠x:=λ b e z=>by rw[z,hx]at e;cases e
 have ut:∀b,H b=none->b∉tt:=λ b e z=>by rw[(htt b z).1]at e;cases e
 have hb:∀b u,H b=some u->b≠T:=λ b u e z=>by rw[z,hT]at e;cases e
 have old:∀t∈tt,∃o' ts',h2.get? t=some o'/\o'.data=.fields ts'/\ts'[3]?=some Value.none:=λ t ht=>by
  obtain⟨e,ne⟩:=htt t ht;obtain⟨⟨o,ts,e1,e2,e3⟩,_⟩:=(show ObjOk X.prog X.w H s.heap t (TbO t) from I.hok t _ e);obtain⟨o',ts',f1,f2,f3⟩:=n.old t o ts ht ne e1 e2 (Array.getElem?_eq_some_iff.mp e3).1;exact⟨o',ts',(k2 t (hb t _ e)).trans f1,f2,f3⟩
 have exc:∃vs sl,h2.get? x=some ⟨.ref C,d,.fields vs,sl⟩/\vs[1]?=some (.ref T):=by
  obtain⟨vs,sl,e1,e2⟩:=n.exc;exact⟨vs,sl,(k2 x (Ne.symm nTx)).trans e1,e2⟩
 have ne_ext:∀b u,H b=some u->(∀ψ,u≠.ext ψ)->b≠x:=λ b u e z q=>by rw[q,hx]at e;cases e;exact z _ rfl
 refine⟨hT,nTx,⟨λ b o q e nf _=>?_,λ b o q e bf _=>?_,λ b o q e _=>?_,λ b o q _=>?_,λ b xs e=>?_,λ b o u e=>?_,λ b ps e=>⟨#[],?_⟩⟩,λ b u e=>?_⟩
 .exact(k2 b (tn b o q)).trans (n.keep b o (un b e) nf (ut b e) q)
 .obtain⟨sl,z⟩:=n.slot b o bf q;exact⟨sl,(k2 b (tn b o q)).trans z⟩
 .rw[AS (un b e) (tn b o q)];exact e
 .by_cases z:b=x
  .obtain⟨vs,sl,e1,_⟩:=exc;exact⟨_,z ▸ e1⟩
  .by_cases zf:b∈frs X.stack
   .obtain⟨sl,z⟩:=n.slot b o zf q;exact⟨_,(k2 b (tn b o q)).trans z⟩
   .by_cases zt:b∈tt
    .obtain⟨o',_,e1,_⟩:=old b zt;exact⟨o',e1⟩
    .exact⟨o,(k2 b (tn b o q)).trans (n.keep b o z zf zt q)⟩
 .rw[AS (ne_ext b _ e λ ψ z=>by cases z) (hb b _ e)];exact e
 .rw[AS (ne_ext b _ e λ ψ z=>by cases z) (hb b _ e)];exact e
 .rw[AS (ne_ext b _ e λ ψ z=>by cases z) (hb b _ e),e];simp
 .by_cases z:b=x
  .subst z;rw[De]at e;cases e;obtain⟨vs,sl,e1,e2⟩:=exc;exact QP e1 e2
  .by_cases zT:b=T
   .subst zT;rw[Et nTx]at e;cases e;exact LB t2
   .rw[AS z zT]at e;by_cases zt:b∈tt
    .rw[(htt b zt).1]at e;cases e;exact LB (old b zt)
    .have own_ne:∀c,H c=some (.own b)->c≠x/\c≠T:=λ c hc=>⟨ne_ext c _ hc (λ ψ z=>by cases z),hb c _ hc⟩;refine(I.hok b u e).stay (λ c v hc q=>?_) (λ c q=>?_) λ c xs q=>?_
     .have hcH:∃y,H c=some y:=by
       rcases hc with rfl|hc
       .exact⟨u,e⟩
       .exact⟨_,hc⟩
      obtain⟨y,hy⟩:=hcH;refine(k2 c (hb c y hy)).trans (n.keep c v ?_ (λ zf=>by rw[I.stkFree c zf]at hy;cases hy) (λ zt'=>?_) q)
      .rcases hc with rfl|hc
       .exact z
       .exact(own_ne c hc).1
      .rcases hc with rfl|hc
       .exact zt zt'
       .rw[(htt c zt').1]at hc;cases hc
     .rw[AS (own_ne c q).1 (own_ne c q).2];exact q
     .rw[AS (ne_ext c _ q λ ψ z=>by cases z) (hb c _ q)];exact q
theorem F0{E:VPz}{Q:Unit->Shared->Prop}(I:Inv X pins σ H s)(hst:X.stack=X.env::X.outer)(hfr:X.env.frame=some X.env.locals)(hf:PV H x C d\/∃T,FJ H x C d T)
  (h:∀h' T,H T=none->T≠x->Inv X pins σ (thrown H x C d T) { s with heap:=h' }->Q () { s with heap:=h' }) :
  wpAny (model X.prog X.w) X.A (noteFrame (.ref x) X.env) (λ_ s₂=>wpAny (model X.prog X.w) X.A (setFlight (.ref x) none) Q E s₂) E s:=by
 have fr:X.A.frames=some (X.env::X.outer):=hst ▸ I.ok.frames;have ff:s.heap.FunFrames X.base (X.env::X.outer):=hst ▸ I.stack;have rest:∀{φ:Heap->Prop}{tt:List Addr}(hx:H x=some (.ext φ))(htt:∀t∈tt,H t=some (TbO t)/\t≠x)(h1:Heap)(T:Addr),HE (frs (X.env::X.outer)) tt x T (rawInt X.env.locals) (.ref C) d s.heap h1 ->
   wpAny (model X.prog X.w) X.A (setFlight (.ref x) none) Q E { s with heap:=h1 }:=λ{φ tt} hx htt h1 T n=>by
  obtain⟨vs,sl,e1,e2⟩:=n.exc;obtain⟨o,ts,f1,f2,f3⟩:=n.tb;refine He (s:={ s with heap:=h1 }) e1 e2 f1 f2 (Array.getElem?_eq_some_iff.mp f3).1 λ h2 k2 t2=>?_;obtain⟨hT,nT,un,ok⟩:=Q9 I hx htt (hst ▸ n) k2 t2;exact h h2 T hT nT (I.call (g':=s.gens) (d':=s.drawn) (t':=s.toks) (ch:=[]) un ok I.bare (λ b z=>absurd z (by simp)))
 rcases hf with (⟨rfl,hx⟩|⟨dx,rfl,hx⟩)|⟨T,hx,hT,ne⟩
 .obtain⟨⟨vs,sl,e1,e2⟩,_⟩:=(show ObjOk X.prog X.w H s.heap x (Kl C x) from I.hok x _ hx);exact KN fr ff hfr e1 e2 λ h1 T n=>rest (tt:=[]) hx (λ t z=>absurd z (by simp)) h1 T n
 .obtain⟨⟨vs,sl,e1,e2⟩,_⟩:=(show ObjOk X.prog X.w H s.heap x (Tk C dx x) from I.hok x _ hx);exact KN fr ff hfr e1 e2 λ h1 T n=>rest (tt:=[]) hx (λ t z=>absurd z (by simp)) h1 T n
 .obtain⟨⟨vs,sl,e1,e2⟩,_⟩:=(show ObjOk X.prog X.w H s.heap x (Ir C d x T) from I.hok x _ hx);obtain⟨⟨o,ts,f1,f2,f3⟩,_⟩:=(show ObjOk X.prog X.w H s.heap T (TbO T) from I.hok T _ hT);exact NQ fr ff hfr e1 e2 f1 f2 f3 ne λ h1 T' n=>rest (tt:=[T]) hx (λ t z=>by rw[List.mem_singleton.mp z];exact⟨hT,ne⟩) h1 T' n
theorem NU{E:VPz}{Q:Unit->Shared->Prop}(I:Inv X pins σ H s)(hst:X.stack=X.env::X.outer)(hfr:X.env.frame=some X.env.locals)(hf:PV H x C d\/∃T,FJ H x C d T)
  (h:∀h' T,H T=none->T≠x->Inv X pins σ (thrown H x C d T) { s with heap:=h' }->Q () { s with heap:=h' }):wpAny (model X.prog X.w) X.A (leaving X.env (.ref x)) Q E s:=by
 unfold leaving;exact wpAny_bind (F0 I hst hfr hf h)
end
def CX1(P:Program)(w:World):CXT:=λ outer H s E e s'=>∃x T C d H',e=Value.ref x/\s'.os=s.os/\AllBare s'.gens/\Un (frs outer) [] H H' s.heap s'.heap/\HOk P w H' s'.heap/\FJ H' x C d T/\E (.ref x) d H'
def SW(X:Cx)(E:XK):Prop:=∀(pins:PNz)(σ:St)(H:Hp)(s:Shared)(x C:Addr)(d:Option Addr),Inv X pins σ H s->(PV H x C d\/∃T,FJ H x C d T) ->
 (∀T,H T=none->T≠x->E (.ref x) d (thrown H x C d T))->X.xe (.ref x) s
section
variable{P:Program}{w:World}{K:Frag}{mg:MGz}{base:Heap}{N:LSz}{qual:Str}{scope:Scope}{f:Addr}{cd:Value}{A:Around}{outer:List Env}{s:Shared}{H:Hp}{E E₁:XK}
theorem Qd:SW (B5 (CX1 P w) P w K mg base N qual scope f cd A outer s H E) E:=by
 intro pins σ H1 s1 x C d I hf hE;exact NU I rfl rfl hf λ h' T hT nT I'=>⟨x,T,C,d,_,rfl,I'.os,I'.bare,I'.base,I'.hok,⟨De,Et nT,nT⟩,hE T hT nT⟩
end
theorem Fun.okx{P:Program}{w:World}{K:Frag}{mg:MGz}{base:Heap}{x qual:Str}{st:Stmt}{f:Addr}{fd:FuncData}{N ps:LSz}{k:Nat}{sp:Sp}(F:Fun K x qual st f fd)(S:Am N ps (Af st))(len:∀vs H Q E,sp vs H Q E->vs.length=ps.length)
  (hbody:∀(cdv:Value)(A:Around)(outer:List Env)(s:Shared)(H:Hp)(vs:LUz)(Q:VK)(E:XK),Room k (A.deeper (envOfC qual (Af st) s.heap.objs.size f cdv))->sp vs H Q E ->
   ∃t,PSs (B5 (CX1 P w) P w K mg base N qual (Af st) f cdv A outer s H E) (A4 st) t/\t { nx:=λ_ H'=>Q .non H',rt:=Q } (BL N vs) H):A5 P w K mg base (CX1 P w) (k+1) f fd ps sp:=by
 obtain⟨oc,od,kV,doc,pm,an,cdv,ct,osl,rfl,lk,hcd⟩:=F.ex;exact Nk lk hcd S len λ A outer s H vs Q E hr hsp=>hbody cdv A outer s H vs Q E hr hsp
structure HP(P:Program)(w:World)(K:Frag)(mg:MGz)(base:Heap)(k:Nat)(x:Str)(ps:LSz)(sp:Sp):Prop where
 ex:∃(f:Addr)(fd:FuncData),A5 P w K mg base (CX1 P w) k f fd ps sp/\mg x=some (.ref f)/\keepIn K (.ref f)=true/\Binds K fd ps []
section
variable{X:Cx}{k j:Nat}{x:Str}{C:Addr}{ps names:LSz}{sp:Sp}{p pos cpos:Pos}{e:Expr}{es:List Expr}{t:TA}{E E₁:XK}
theorem RN(D:HP X.prog X.w X.K X.mg X.base k x ps sp)(hr:Room j X.A)(hx:Em (CX1 X.prog X.w) X E₁)(ha:PA X (e::es) t)(hj:k<=j:=by decide)(hg:Gl X x:=by rfl)(hdb:(x==("__debug__":Str))=false:=by decide)
  (he:starEach (e::es) X.env=(false,eval e X.env)::starEach es X.env:=by rfl) (hpl:(backTo pos (starEach es X.env)).any (·.1)=false:=by rfl):PE X (.Call (.Name x p) (e::es) [] pos) (MB sp [] E₁ t):=by
 obtain⟨f,fd,F,hm,hk,hb⟩:=D.ex;exact MU F (hr.mono hj) hg hm hk hb .nil hx ha hdb he hpl
end
def CW:Nat->Heap
 |0=>{}
 |n+1=>(CW n).push { cls:=.type "dict",data:=.dict #[] }
theorem CV:∀n,(CW n).objs.size=n
 |0=>rfl
 |n+1=>by rw[CW,Heap.size_push,CV n]
theorem Pn{C C' x T T':Addr}{d d':Option Addr}(h:Ir C d x T=Ir C' d' x T'):C=C'/\d=d'/\T=T':=by
 have h:(HO.ext λ h=>∃vs sl,h.get? x=some ⟨.ref C,d,.fields vs,sl⟩/\vs[1]?=some (.ref T))=HO.ext λ h=>∃vs sl,h.get? x=some ⟨.ref C',d',.fields vs,sl⟩/\vs[1]?=some (.ref T'):=h;injection h with h;have e:=congrFun h ((CW x).push ⟨.ref C,d,.fields #[.none,.ref T],#[]⟩);have g:((CW x).push ⟨.ref C,d,.fields #[.none,.ref T],#[]⟩).get? x=some ⟨.ref C,d,.fields #[.none,.ref T],#[]⟩:=Heap.get?_push_at (CV x).symm rfl;have q:=e.mp ⟨_,_,g,rfl⟩;obtain⟨vs,sl,e1,e2⟩:=q;rw[g]at e1;cases e1;cases e2;exact⟨rfl,rfl,rfl⟩
section
variable{X:Cx}{pins:PNz}{σ:St}{H:Hp}{s:Shared}
abbrev Cx.suite(X:Cx)(x:Addr):Cx:={ X with A:=X.A.mark (some (.ref x)),calm:=false,xe:=λ_ _=>False }
theorem Inv.suite(I:Inv X pins σ H s)(x:Addr):Inv (X.suite x) pins σ H s :=
 ⟨⟨I.ok.mod,I.ok.kind,I.ok.glob,I.ok.blt,I.ok.above,I.ok.inj,I.ok.has,I.ok.cab,(λ z=>nomatch z),I.ok.frames,I.ok.stk,I.ok.exf,I.ok.bs,I.ok.bsz,I.ok.noex,I.ok.exfs,I.ok.funs,I.ok.frf⟩,I.os,I.bare,I.base,I.loc,I.cell,I.free,I.freeC,I.pin,I.hok,I.len⟩
theorem Inv.unsuite{ok:X.Ok}{x:Addr}(I:Inv (X.suite x) pins σ H s):Inv X pins σ H s :=
 ⟨ok,I.os,I.bare,I.base,I.loc,I.cell,I.free,I.freeC,I.pin,I.hok,I.len⟩
end
def PX(X:Cx)(e:Expr)(t:TE)(E:XK):Prop:=∀(pins:PNz)(s:Shared)(σ:St)(H:Hp)(Q:VK)(Ex:VPz),Inv X pins σ H s->t σ H Q ->
 (∀x T C d H' s',Inv X pins σ H' s'->FJ H' x C d T->E (.ref x) d H'->Ex (.ref x) s')->wpAny (model X.prog X.w) X.A (eval e X.env) (EP X pins σ Q) Ex s
section
variable{X:Cx}{k j:Nat}{x:Str}{C:Addr}{ps:LSz}{sp:Sp}{p pos:Pos}{e:Expr}{es:List Expr}{t:TA}{E:XK}
theorem S7(D:HP X.prog X.w X.K X.mg X.base k x ps sp)(hr:Room j X.A)(ha:PA X.nox (e::es) t)(hj:k<=j:=by decide)(hg:Gl X x:=by rfl)(hdb:(x==("__debug__":Str))=false:=by decide)
  (he:starEach (e::es) X.env=(false,eval e X.env)::starEach es X.env:=by rfl) (hpl:(backTo pos (starEach es X.env)).any (·.1)=false:=by rfl):PX X (.Call (.Name x p) (e::es) [] pos) (MB sp [] E t) E:=by
 obtain⟨f,fd,F,hm,hk,hb⟩:=D.ex;intro pins s σ H Q Ex I h hx;refine wpAny_Call_Name_kw (CT I hg hm ?_ hdb);refine callWith_K (h₀:=X.base) I.ok.mod.kin hk (wpAny_mono (ha pos pins s σ H _ (I.wish _) h) (λ us s1 ⟨vs,H1,I1',r,q⟩=>⟨I1'.unwish.kIn,?_⟩) λ_ _ z=>False.elim z) he hpl;have I1:Inv X pins σ H1 s1:=I1'.unwish;have q:sp (vs++[]) H1 Q E:=q;rw[List.append_nil]at q;have hl:us.length=ps.length:=by rw[<-r.length];exact F.len _ _ _ _ q
 have hb2:=hb s1 us I1.kIn (by rw[List.append_nil];exact hl);rw[List.append_nil]at hb2;refine wpAny_call (codeAny_mono (F.run X.A X.stack s1 H1 ⟨us,[]⟩ us vs Q E (hr.mono hj) I1.env0 hb2 r q) λ r s' hq=>?_);cases r with
 |error e =>
  obtain⟨x,T,C,d,H',rfl,os,bare,un,hok,fl,q'⟩:=hq;exact hx x T C d H' s' (I1.call' (ch:=[]) os un hok bare (λ b z=>absurd z (by simp))) fl q'
 |ok fl =>
  cases fl with
  |ret u=>exact I1.after hq
  |next=>exact False.elim hq
  |brk=>exact False.elim hq
  |cont=>exact False.elim hq
end
def LD(wi:TI)(g:TG)(tc:TT)(te:TE)(fr:List (Option Nat)):TE:=λ σ H Q=>wi σ H λ J H1=>∀acc,H1 acc=none->∃W:Nat->Nat->St->Hp->Prop,(∃m,W 0 m (stC fr σ) (upd H1 acc (.lst [])))/\∀i m σ1 H2,W i m σ1 H2 ->
 (J.stop i H2/\Q (.ref acc) H2)\/(J.go i H2/\∀x H3,J.yld i H2 x H3->g x σ1 H3 λ σ4 H4=>tc σ4 H4 λ b Hb=>match b with
  |true=>te σ4 Hb λ v H5=>∃xs,H5 acc=some (.lst xs)/\xs.length<sizeLine/\∃m',m'<m/\W (i+1) m' σ4 (upd H5 acc (.lst (xs++[v])))
  |false=>∃m',m'<m/\W (i+1) m' σ4 Hb)
section
variable{prog:Program}{w:World}{A:Around}{R:Result->Shared->Prop}{s:Shared}
theorem Ie{elt target iter cnd:Expr}{scope:Scope}{pos:Pos}{it acc:Value}{env:Env}(I:Nat->Shared->Prop)
    (turn:∀n s,I n s->wpAny (model prog w) A (pyNext it) (λ r s₁=>match r with
      |none=>R (.ok .next) s₁
      |some v=>wpAny (model prog w) A (letOwnedTupleGo target it v) (λ_ s₁=>wpAny (model prog w) A (assign target env v) (λ_ s₂ =>
          wpAny (model prog w) A (forIn [cnd] true λ c r=>if r=true then do let ok <-isTrue c env (eval c env);pure (ForInStep.yield ok) else pure (ForInStep.yield r)) (λ ok s₃ =>
            if ok=true then wpAny (model prog w) A (eval elt env) (λ x s₄=>wpAny (model prog w) A (call (.builtin "list.append") [acc,x]) (λ_ s₅=>∃m,m<n/\I m s₅) (notedBy (model prog w) A env λ e s'=>R (.error e) s') s₄)
              (notedBy (model prog w) A env λ e s'=>R (.error e) s') s₃
            else ∃m,m<n/\I m s₃) (notedBy (model prog w) A env λ e s'=>R (.error e) s') s₂)
          (notedBy (model prog w) A env λ e s'=>R (.error e) s') s₁) (notedBy (model prog w) A env λ e s'=>R (.error e) s') s₁) (notedBy (model prog w) A env λ e s'=>R (.error e) s') s)
    (n:Nat) (h:I n s) :
    codeAny (model prog w) A (.compLoop (.ListComp elt [⟨target,iter,[cnd],0⟩] scope pos) 0 it acc env) R s:=by
  refine codeAny_loop rfl I (λ n s hI=>?_) n h;show wpAny _ _ ((compTurn (.ListComp elt [⟨target,iter,[cnd],0⟩] scope pos) 0 it acc env).onRaise (λ x=>do noteFrame x env;theTreesLotGoes x)) _ _ s;refine wpAny_noted ?_;rw[compTurn_list];refine wpAny_bind (wpAny_standAt (wpAny_bind (wpAny_mono (turn n s hI) (λ r s₁ h₁=>?_) λ_ _ h'=>h')));cases r with
  |none=>exact wpAny_pure h₁
  |some v =>
    refine wpAny_bind (wpAny_mono h₁ (λ_ s₁ h₁=>?_) λ_ _ h'=>h');refine wpAny_bind (wpAny_mono h₁ (λ_ s₂ h₂=>wpAny_bind (wpAny_mono h₂ (λ ok s₃ h₃=>?_) λ_ _ h'=>h')) λ_ _ h'=>h');cases ok with
    |false=>exact wpAny_pure ⟨rfl,h₃⟩
    |true=>exact wpAny_bind (wpAny_bind (wpAny_mono h₃ (λ x s₄ h₄=>wpAny_bind (wpAny_mono h₄ (λ_ s₅ h₅=>wpAny_pure (wpAny_pure ⟨rfl,h₅⟩)) λ_ _ h'=>h')) λ_ _ h'=>h'))
end
section
variable{X:Cx}{elt tg iter:Expr}{scope:Scope}{pos:Pos}{wi:TI}{g:TG}{te:TE}{N:LSz}{fr:List (Option Nat)}
variable{cnd:Expr}{tc:TT}
theorem Hm{pins:PNz}{σ:St}{H:Hp}{s:Shared}{Q:VK}{cl:List (Str×Addr)}{R:Value->Addr->Result->Shared->Prop}(hc:X.calm=true)(I:Inv X pins σ H s)(hi:PI X tg iter wi)
  (hg:∀cl C s H ex,PG (AG X scope cl N C s H ex) tg g) (hcn:∀cl C s H ex,PT (AG X scope cl N C s H ex) cnd tc) (he:∀cl C s H ex,PE (AG X scope cl N C s H ex) elt te) (ck:EK X.env.scope X.N scope N fr)
  (c1:∀x c,cl.lookup x=some c->X.env.cells.lookup x=some c) (c2:∀x,(x,NameKind.free)∈scope.names->∃c,cl.lookup x=some c)
  (h:LD wi g tc te fr σ H Q)
  (hR:∀acc C s' H' m,s'.heap.Ns C m->Fs X pins H' C->Inv X pins σ H' s'->Q (.ref acc) H'->R (.ref acc) C (.ok .next) s') :
  wpAny (model X.prog X.w) X.A (eval iter X.env) (λ x s₁=>wpAny (model X.prog X.w) X.A (pyIter x) (λ it s₂=>wpAny (model X.prog X.w) X.A (newList []) (λ acc s₃ =>
   wpAny (model X.prog X.w) X.A (newFunctionEnv scope X.env.globals cl [] X.env.qual none .none (some X.env)) (λ cenv s₄ =>
    codeAny (model X.prog X.w) X.A (.compStart (.ListComp elt [⟨tg,iter,[cnd],0⟩] scope pos) 0 it acc { cenv with scope:=relabel scope X.env }) (R acc cenv.locals) s₄) X.xe s₃) X.xe s₂) X.xe s₁) X.xe s:=by
 refine thn (hi pins s σ H _ I h) λ v s1 h1=>thn h1 λ itv s2 h2=>?_;obtain⟨it,fp,tn,J,H2,e,I2,T,st2,f2,q2⟩:=h2;subst e;refine wpAny_newObj_type (wpAny_newFunctionEnv ck.nocell (by intro y hy;simp at hy) (λ h₁ hns₁ hsb₁=>?_) ck.kind);dsimp only at hns₁ hsb₁ |-;have I3:Inv X pins σ (upd H2 s2.heap.objs.size (.lst [])) { s2 with heap:=s2.heap.push { cls:=.type "list",dict:=none,data:=.seq ([]:LWz).toArray } }:=I2.lnew (t':=s2.toks) (its:=[]) .nil (Nat.zero_le _);have acc0:H2 s2.heap.objs.size=none:=I2.fresh;obtain⟨W,⟨m0,w0⟩,turn⟩:=q2 s2.heap.objs.size acc0;generalize hH3:s2.heap.push { cls:=.type "list",dict:=none,data:=.seq ([]:LWz).toArray }=h3 at hns₁ hsb₁ I3 |-;have hz3:h3.objs.size=s2.heap.objs.size+1:=by rw[<-hH3,Heap.size_push]
 have k23:∀b o,s2.heap.get? b=some o->h3.get? b=some o:=λ b o e=>by rw[<-hH3];exact Heap.get?_push_of_some _ e
 have k34:∀b o,h3.get? b=some o->h₁.get? b=some o:=λ b o e=>hsb₁.extBut b o (Nat.ne_of_lt (Heap.lt_size e)) (Heap.get?_push_of_some _ e);have fpo:∀b∈fp,∃o,s2.heap.get? b=some o/\∀v,o.data≠.cell v:=T.obj 0 _ st2;have hex:∀b∈fp,Fs X pins (upd H2 s2.heap.objs.size (.lst [])) b/\b<h3.objs.size:=λ b hb=>by
  obtain⟨o,eo,_⟩:=fpo b hb;have lt:=Heap.lt_size eo;obtain⟨f0,fr'⟩:=f2 b hb;exact⟨⟨by rw[Ah (Nat.ne_of_lt lt)];exact f0,fr'⟩,by rw[hz3];exact Nat.lt_succ_of_lt lt⟩
 have I4:Inv (AG X scope cl N h3.objs.size { s2 with heap:=h3 } (upd H2 s2.heap.objs.size (.lst [])) fp) [] (stC fr σ) (upd H2 s2.heap.objs.size (.lst [])) { s2 with heap:=h₁,toks:=s2.toks+([]:List (Str×Value)).length } :=
  Hl I3 ck c1 c2 hex (Nat.le_refl _) hns₁ k34 rfl rfl
 have stat:∀{H':Hp},(∀b∈fp,H' b=none)->∀b∈fp,Fs (AG X scope cl N h3.objs.size { s2 with heap:=h3 } (upd H2 s2.heap.objs.size (.lst [])) fp) [] H' b:=λ hn b hb =>
  ⟨hn b hb,(I4.ok.exf b hb).1,I4.ok.exfs b hb,.inl hb,(I4.ok.exf b hb).2,λ p hp=>by simp at hp⟩
 have stn:∀i h h',tn i h->(∀b o,h.get? b=some o->h'.get? b=some o)->tn i h':=λ i h h' st kk=>T.keep i h h' st λ b _ o e=>kk b o e;have loop:codeAny (model X.prog X.w) X.A (.compLoop (.ListComp elt [⟨tg,iter,[cnd],0⟩] scope pos) 0 (.ref it) (.ref s2.heap.objs.size) (compEnvC scope cl h3.objs.size X.env)) (R (.ref s2.heap.objs.size) h3.objs.size)
   { s2 with heap:=h₁,toks:=s2.toks+([]:List (Str×Value)).length }:=by
  refine Ie (λ n s'=>∃i σ' H',Inv (AG X scope cl N h3.objs.size { s2 with heap:=h3 } (upd H2 s2.heap.objs.size (.lst [])) fp) [] σ' H' s'/\tn i s'.heap/\(∀b∈fp,H' b=none)/\W i n σ' H') ?_ m0
   ⟨0,_,_,I4,stn _ _ _ st2 λ b o e=>k34 b o (k23 b o e),λ b hb=>(hex b hb).1.1,w0⟩
  rintro n s3 ⟨i,σ3,H3,J3,st3,fr3,w3⟩;rcases turn i n σ3 H3 w3 with ⟨stop,qn⟩|⟨go,step⟩
  .refine Bs (thn (T.done (AG X scope cl N h3.objs.size { s2 with heap:=h3 } (upd H2 s2.heap.objs.size (.lst [])) fp) rfl rfl rfl hc i [] s3 σ3 H3 (λ_ _=>False) J3 (stat fr3) st3 stop) λ r s4 hz_=>?_);obtain⟨hr,J4⟩:=hz_;subst hr;obtain⟨mc,hmc,_⟩:=J4.loc;have I5:Inv X pins σ H3 s4:=I3.call' (ch:=fp) J4.os J4.base J4.hok J4.bare λ b hb=>⟨(hex b hb).1.2.2.2.1,(hex b hb).1.2.1,(hex b hb).1.2.2.2.2.1,(hex b hb).1.2.2.2.2.2⟩;exact hR _ _ s4 H3 mc hmc (I3.fpOk (Nat.le_refl _) J4.free) I5 qn
  .refine Bs (thn (T.item (AG X scope cl N h3.objs.size { s2 with heap:=h3 } (upd H2 s2.heap.objs.size (.lst [])) fp) rfl rfl rfl hc i [] s3 σ3 H3 (λ_ _=>False) J3 (stat fr3) st3 go) λ r s4 hz_=>?_);obtain⟨u,hr,h4⟩:=hz_;subst hr;refine Bs (thn h4 λ_ s5 hz_=>?_);obtain⟨x,H5,J5,r5,y5,st5,fr5⟩:=hz_;have J5':=J5.pinned (stat fr5) (T.obj _ _ st5);refine Bs (thn (hg _ _ _ _ _ _ s5 σ3 H5 x u _ J5' r5 (step x H5 y5)) λ_ s6 hz_=>?_);obtain⟨σ6,H6,J6,q6⟩:=hz_;refine wpAny_tests_one (Bs (thn (hcn _ _ _ _ _ _ s6 σ6 H6 _ J6 q6) λ b sb hz_=>?_));obtain⟨Hb,Jb,qb⟩:=hz_;cases b with
   |false =>
    obtain⟨m',hm',w7⟩:=qb;refine ite_ff ⟨m',hm',i+1,σ6,_,Jb.unpinned,T.keep _ _ _ st5 λ b hb o e=>(Jb.pin (b,o) (List.mem_append_right _ (List.mem_append_right _ (AX hb e)))).1,λ b hb=>?_,w7⟩;obtain⟨o,e,d⟩:=T.obj _ _ st5 b hb;exact(Jb.pin (b,o) (List.mem_append_right _ (List.mem_append_right _ (AX hb e)))).2.1
   |true =>
    refine ite_tt ?_;refine Bs (thn (he _ _ _ _ _ _ sb σ6 Hb _ Jb qb) λ y s7 hz_=>?_);obtain⟨v7,H7,J7,r7,xs,hx,hz,m',hm',w7⟩:=hz_;refine Bs (thn (AD _ s7 σ6 H7 (.ref s2.heap.objs.size) [v7] (.ref s2.heap.objs.size) [y] (λ v H8=>H8=upd H7 s2.heap.objs.size (.lst (xs++[v7]))) J7 rfl (.cons r7 .nil) ⟨_,xs,v7,rfl,rfl,hx,hz,rfl⟩) λ_ s8 hz_=>?_);obtain⟨_,H8,J8,_,e8⟩:=hz_;subst e8;refine⟨m',hm',i+1,σ6,_,J8.unpinned,T.keep _ _ _ st5 λ b hb o e=>(J8.pin (b,o) (List.mem_append_right _ (List.mem_append_right _ (AX hb e)))).1,λ b hb=>?_,w7⟩;obtain⟨o,e,d⟩:=T.obj _ _ st5 b hb;exact(J8.pin (b,o) (List.mem_append_right _ (List.mem_append_right _ (AX hb e)))).2.1
 exact codeAny_compStart_list loop (T.self _ 0 _ _ _ (stn _ _ _ st2 λ b o e=>k34 b o (k23 b o e)) loop)
theorem K5(hc:X.calm=true)(hi:PI X tg iter wi)(hg:∀cl C s H ex,PG (AG X scope cl N C s H ex) tg g)(hcn:∀cl C s H ex,PT (AG X scope cl N C s H ex) cnd tc)(he:∀cl C s H ex,PE (AG X scope cl N C s H ex) elt te)
  (hk:DL X.env.scope X.N scope N fr=true:=by rfl) (hs:∀x,foldedSetIterable iter X.env x=pure x:=by intro _;rfl):PE X (.ListComp elt [⟨tg,iter,[cnd],0⟩] scope pos) (LD wi g tc te fr):=by
 intro pins s σ H Q I h;have ck:=CY hk;obtain⟨cl,e1,c1,c2⟩:=Gc I.ok ck;rw[eval_ListComp];refine wpAny_comprehension_free (use:=none) (Q:=EP X pins σ Q) rfl hs e1 ck.kind ck.loc (Hm (R:=λ acc C=>compPost (model X.prog X.w) X.A X.xe none (EP X pins σ Q) acc C) hc I hi hg hcn he ck c1 c2 h λ acc C s' H' m hn f I' q=>?_);obtain⟨f0,f1,f2,f3,f4,f5⟩:=f;exact⟨m,hn,λ h' hs'=>⟨.ref acc,H',I'.turned (t':=s'.toks) (λ b o hb e=>hs'.extBut b o hb e) f0 f1 f3 f4 f5,rfl,q⟩⟩
theorem Fx{y:Str}{py spos:Pos}{gy:TG}(hc:X.calm=true)(hy:PG X (.Name y py) gy)(hi:PI X tg iter wi)(hg:∀cl C s H ex,PG (AG X scope cl N C s H ex) tg g)(hcn:∀cl C s H ex,PT (AG X scope cl N C s H ex) cnd tc)(he:∀cl C s H ex,PE (AG X scope cl N C s H ex) elt te)
    (hk:DL X.env.scope X.N scope N fr=true:=by rfl) (hsw:swapsWith (.ListComp elt [⟨tg,iter,[cnd],0⟩] scope pos) (some (.Name y py)) spos.line X.env=pure true:=by rfl) (hs:∀x,foldedSetIterable iter X.env x=pure x:=by intro _;rfl) :
    PS X (.Assign [.Name y py] (.ListComp elt [⟨tg,iter,[cnd],0⟩] scope pos) spos) (Qi (LD wi g tc te fr) gy):=by
  intro pins s σ H D I h;have ck:=CY hk;obtain⟨cl,e1,c1,c2⟩:=Gc I.ok ck;rw[exec_Assign_Name_used _ _ _ _ hsw];refine wpAny_bind (wpAny_standAt (wpAny_bind ?_));show wpAny _ X.A (do let _ <-comprehension (.ListComp elt [⟨tg,iter,[cnd],0⟩] scope pos) scope X.env _ (newList []) false (eval iter X.env) (some (assign (.Name y py) X.env))) _ _ s;refine wpAny_bind (wpAny_mono (wpAny_comprehension_free (use:=some (assign (.Name y py) X.env)) (Q:=λ_ s'=>SP X pins D .next s') rfl hs e1 ck.kind ck.loc
    (Hm (R:=λ acc C=>compPost (model X.prog X.w) X.A X.xe (some (assign (.Name y py) X.env)) (λ_ s'=>SP X pins D .next s') acc C) hc I hi hg hcn he ck c1 c2 h λ acc C s' H' m hn f I' q=>?_)) (λ_ s' hq=>wpAny_pure (wpAny_pure hq)) λ_ _ e=>e)
  show wpAny _ X.A (assign (.Name y py) X.env (.ref acc)) _ _ _;obtain⟨oC,es,ep,hoC,hdC,hrC⟩:=id hn;have IP:=I'.pinned (fp:=[C]) (λ b hb=>by rw[List.mem_singleton.mp hb];exact f) (λ b hb=>by rw[List.mem_singleton.mp hb];exact⟨oC,hoC,λ v z=>by rw[hdC]at z;cases z⟩);refine thn (hy _ s' σ H' (.ref acc) (.ref acc) _ IP rfl q) λ_ s'' ⟨σ6,H6,I6,q6⟩=>?_;have pC:=I6.pin (C,oC) (List.mem_append_right _ (List.mem_append_right _ (AX (List.mem_singleton.mpr rfl) hoC)));obtain⟨f0,f1,f2,f3,f4,f5⟩:=f;exact⟨m,⟨oC,es,ep,pC.1,hdC,hrC⟩,λ h' hs'=>⟨σ6,H6,I6.unpinned.turned (t':=s''.toks) (λ b o hb e=>hs'.extBut b o hb e) pC.2.1 f1 f3 f4 f5,q6⟩⟩
end
section
variable{X:Cx}{a b c d:Expr}{ta tb tc td:TE}{pos:Pos}
theorem EC{K:Frag}(hK:X.K=K:=by rfl):IxR X (RJ K):=by subst hK;exact An
end
def fW(acc:Addr)(n:Nat)(Pv:Nat->LUz->St->Hp->Prop)(i m:Nat)(σ:St)(H:Hp):Prop:=i<=n/\m=n-i/\∃xs,xs.length<=i/\H acc=some (.lst xs)/\Pv i xs σ H
def fNx(acc:Addr)(n:Nat)(Pv:Nat->LUz->St->Hp->Prop)(i:Nat)(σ:St)(v:V)(H:Hp):Prop:=∃xs,H acc=some (.lst xs)/\xs.length<sizeLine/\∃m',m'<n-i/\fW acc n Pv (i+1) m' σ (upd H acc (.lst (xs++[v])))
def fSk(acc:Addr)(n:Nat)(Pv:Nat->LUz->St->Hp->Prop)(i:Nat)(σ:St)(H:Hp):Prop:=∃m',m'<n-i/\fW acc n Pv (i+1) m' σ H
theorem fNx.mk{acc:Addr}{n:Nat}{Pv:Nat->LUz->St->Hp->Prop}{i:Nat}{σ:St}{v:V}{H:Hp}{xs:LUz}(hn:n<=sizeLine)(hi:i<n)(hl:xs.length<=i)(ha:H acc=some (.lst xs))(hp:Pv (i+1) (xs++[v]) σ (upd H acc (.lst (xs++[v])))) :
  fNx acc n Pv i σ v H:=⟨xs,ha,by lia,n-(i+1),by lia,hi,rfl,xs++[v],by rw[List.length_append,List.length_singleton];lia,upd_same,hp⟩
theorem fSk.mk{acc:Addr}{n:Nat}{Pv:Nat->LUz->St->Hp->Prop}{i:Nat}{σ:St}{H:Hp}{xs:LUz}(hi:i<n)(hl:xs.length<=i)(ha:H acc=some (.lst xs))(hp:Pv (i+1) xs σ H):fSk acc n Pv i σ H:=⟨n-(i+1),by lia,hi,rfl,xs,by lia,ha,hp⟩
theorem Ej{K:Frag}{a:Addr}{ys:LUz}{g:TG}{tc:TT}{te:TE}{σ:St}{H1:Hp}{acc:Addr}{Qr:Hp->Prop}(Pv:Nat->LUz->St->Hp->Prop)(h0:Pv 0 [] σ (upd H1 acc (.lst [])))
  (hq:∀i xs σ H,i<=ys.length->H acc=some (.lst xs)->Pv i xs σ H->SqL K H a ys)
  (hs:∀i x xs σ H,ys[i]?=some x->i<ys.length->xs.length<=i->H acc=some (.lst xs)->Pv i xs σ H->g x σ H λ σ2 H2=>tc σ2 H2 λ b Hb=>match b with
   |true=>te σ2 Hb λ v H3=>fNx acc ys.length Pv i σ2 v H3
   |false=>fSk acc ys.length Pv i σ2 Hb)
  (hd:∀xs σ H,xs.length<=ys.length->H acc=some (.lst xs)->Pv ys.length xs σ H->Qr H) :
  ∃W:Nat->Nat->St->Hp->Prop,(∃m,W 0 m σ (upd H1 acc (.lst [])))/\∀i m σ1 H2,W i m σ1 H2 ->
   ((Itl K a).stop i H2/\Qr H2)\/((Itl K a).go i H2/\∀x H3,(Itl K a).yld i H2 x H3->g x σ1 H3 λ σ4 H4=>tc σ4 H4 λ b Hb=>match b with
    |true=>te σ4 Hb λ v H5=>∃xs,H5 acc=some (.lst xs)/\xs.length<sizeLine/\∃m',m'<m/\W (i+1) m' σ4 (upd H5 acc (.lst (xs++[v])))
    |false=>∃m',m'<m/\W (i+1) m' σ4 Hb):=by
 refine⟨fW acc ys.length Pv,⟨ys.length,Nat.zero_le _,rfl,[],Nat.le_refl _,upd_same,h0⟩,?_⟩;rintro i m σ1 H2 ⟨hi,rfl,xs,hl,ha,hp⟩;have hsq:=hq i xs σ1 H2 hi ha hp;rcases Nat.lt_or_ge i ys.length with h|h
 .refine .inr ⟨⟨ys,ys[i],hsq,List.getElem?_eq_getElem h⟩,?_⟩;rintro x H3 ⟨rfl,hx⟩;exact hs i x xs σ1 H3 (hx ys hsq) h hl ha hp
 .have e:i=ys.length:=Nat.le_antisymm hi h;subst e;exact .inl ⟨⟨ys,hsq,Nat.le_refl _⟩,hd xs σ1 H2 hl ha hp⟩
section
variable{X:Cx}
theorem Q2:Em (CX1 X.prog X.w) X (λ_ _ _=>False):=by
 rintro pins σ H s e s' I ⟨x,T,C,d,H',rfl,os,bare,un,hok,fl,q⟩;exact False.elim q
end
theorem Lf{lo:Int}{n:Nat}{g:TG}{tc:TT}{te:TE}{σ:St}{H1:Hp}{acc:Addr}{Qr:Hp->Prop}(Pv:Nat->LUz->St->Hp->Prop)(h0:Pv 0 [] σ (upd H1 acc (.lst [])))
  (hs:∀i xs σ H,i<n->xs.length<=i->H acc=some (.lst xs)->Pv i xs σ H->g (.int (lo+i)) σ H λ σ2 H2=>tc σ2 H2 λ b Hb=>match b with
   |true=>te σ2 Hb λ v H3=>fNx acc n Pv i σ2 v H3
   |false=>fSk acc n Pv i σ2 Hb)
  (hd:∀xs σ H,xs.length<=n->H acc=some (.lst xs)->Pv n xs σ H->Qr H) :
  ∃W:Nat->Nat->St->Hp->Prop,(∃m,W 0 m σ (upd H1 acc (.lst [])))/\∀i m σ1 H2,W i m σ1 H2 ->
   ((Itr lo n).stop i H2/\Qr H2)\/((Itr lo n).go i H2/\∀x H3,(Itr lo n).yld i H2 x H3->g x σ1 H3 λ σ4 H4=>tc σ4 H4 λ b Hb=>match b with
    |true=>te σ4 Hb λ v H5=>∃xs,H5 acc=some (.lst xs)/\xs.length<sizeLine/\∃m',m'<m/\W (i+1) m' σ4 (upd H5 acc (.lst (xs++[v])))
    |false=>∃m',m'<m/\W (i+1) m' σ4 Hb):=by
 refine⟨fW acc n Pv,⟨n,Nat.zero_le _,rfl,[],Nat.le_refl _,upd_same,h0⟩,?_⟩;rintro i m σ1 H2 ⟨hi,rfl,xs,hl,ha,hp⟩;rcases Nat.lt_or_ge i n with h|h
 .refine .inr ⟨h,?_⟩;rintro x H3 ⟨rfl,rfl⟩;exact hs i xs σ1 H3 h hl ha hp
 .have e:i=n:=Nat.le_antisymm hi h;subst e;exact .inl ⟨Nat.le_refl _,hd xs σ1 H2 hl ha hp⟩
structure M8(K:Frag)(C:Addr):Prop where
 cl:Cls K C
 ha:findIn K (.ref C) "__class__"=some (some (.builtin "object.__class__"))
 hn:specialIn K (.builtin "object.__class__") "__get__"=some (some (.builtin "getset_descriptor.__get__"))
 htk:takesIn K (.builtin "object.__class__")=some true
 hm:mroIn K C (.type "object")=some true
section
variable{X:Cx}
theorem Bj:EL X (.builtin "isinstance") (λ xs H Q=>∃a C dx fs c u b,xs=[.ref a,c]/\H a=some (.ins C dx fs)/\M8 X.K C/\RelV c u/\(∀u',RelV c u'->u'=u)/\kitOne X.K (.ref C) u=some b/\Q (.bl b) H):=by
 intro pins s σ H xs us Q I r h;obtain⟨a,C,dx,fs,c,u,b,rfl,he,hc,ru,uq,hk,q⟩:=h;obtain⟨v1,v2,rfl,r1,r2⟩:=MA r;have:=uq v2 r2;subst this;exact IQ I r1 (.ins he hc.cl hc.ha hc.hn hc.htk hc.hm) hk λ tk=>⟨.bl b,H,I.tok tk,rfl,q⟩
end
def Itv(K:Frag)(a:Addr)(n:Nat):It :=
 ⟨λ i H=>∃xs,SqL K H a xs/\xs.length=n/\i<n,λ i H x H'=>H'=H/\∀xs,SqL K H a xs->xs[n-1-i]?=some x,λ i H=>n<=i⟩
theorem Oz{P:Program}{w:World}{K:Frag}{tg:Expr}(a it:Addr)(n:Nat):PC P w K tg (Itv K a n) [it] it (λ i h=>i<=n/\h.IsRevIter it a ((n:Int)-1-i)) where
 mem:=by simp
 obj:=λ i h st b hb=>by
  have e:b=it:=by simpa using hb
  subst e;obtain⟨_,o,e,c,d⟩:=st;exact⟨o,e,λ v z=>by rw[d]at z;cases z⟩
 keep:=λ i h h' st k=>⟨st.1,st.2.at λ o e=>k it (by simp) o e⟩
 item:=by
  intro X hP hw hK hc i pins s σ H E I hf st hg;subst hP hw hK;obtain⟨xs,hq,hn,hi⟩:=hg;obtain⟨hin,st⟩:=st;obtain⟨its,rv,p,hz⟩:=I.list hq;have hx:xs[n-1-i]?=some (xs[n-1-i]'(by lia)):=List.getElem?_eq_getElem (by lia);obtain⟨u,hu,ru⟩:=rv.get hx;obtain⟨f0,f1,f2,f3,f4,f5⟩:=hf it (by simp);have st':s.heap.IsRevIter it a (((n-1-i:Nat):Int)):=by
   rw[show(((n-1-i:Nat):Int))=(n:Int)-1-i by lia];exact st
  refine wpAny_pyNext_rev_item st' p.isList (x:=u) (by simpa using hu) λ h' st' sb=>?_;have I1:Inv X pins σ H { s with heap:=h' }:=I.turned (t':=s.toks) (λ b o hb e=>(sb.2 b hb).trans e) f0 f1 f3 f4 f5;obtain⟨o,e,c,d⟩:=id st';refine⟨u,rfl,Nf (s:={ s with heap:=h' }) e c d (by decide) ⟨_,H,I1,ru,⟨rfl,λ ys hy=>by rw[I.list_inj hy hq];exact hx⟩,⟨by lia,?_⟩,λ b hb=>(hf b hb).1⟩⟩;rw[show(n:Int)-1-((i+1:Nat):Int)=((n-1-i:Nat):Int)-1 by lia];exact st'
 done:=by
  intro X hP hw hK hc i pins s σ H E I hf st hg;subst hP hw hK;obtain⟨hin,st⟩:=st;obtain⟨f0,f1,f2,f3,f4,f5⟩:=hf it (by simp);have e:i=n:=Nat.le_antisymm hin hg;subst e;rw[show(i:Int)-1-(i:Int)=-1 by lia]at st;exact wpAny_pyNext_rev_end (I.ok.hd hc) st λ h' eb=>⟨rfl,I.turned (t':=s.toks) (λ b o hb e=>eb b o hb e) f0 f1 f3 f4 f5⟩
 self:=λ_ _ _ _ _ st h=>wpAny_pyIter_revIter st.2 h
def TN(K:Frag)(ta:TA):TI:=λ σ H R=>ta σ H λ vs H1=>∃a xs,vs=[.ref a]/\SqL K H1 a xs/\R (Itv K a xs.length) H1
theorem Ih:bootBuiltins "reversed"=some (.type "reversed"):=rfl
section
variable{X:Cx}{tg:Expr}
theorem MQ{a:Expr}{ta:TA}{p pos:Pos}(hg:Gl X "reversed")(hm:X.mg "reversed"=none)(ha:PA X [a] ta)(hs:starEach [a] X.env=[(false,eval a X.env)]:=by rfl) :
  PI X tg (.Call (.Name "reversed" p) [a] [] pos) (TN X.K ta):=by
 intro pins s σ H R I h;refine Call_ (Dz I hg hm Ih (PyProof.Rows.callWith_type1 (thn (ha pos pins s σ H _ I h) λ us s1 hz_=>?_) hs rfl));obtain⟨vs,H1,I1,r1,q1⟩:=hz_;obtain⟨b,xs,e,hq,q⟩:=q1;subst e;cases r1 with
 |cons r rr =>
  cases rr;cases r;obtain⟨its,rv,pl,hz⟩:=I1.list hq;have hl:=rv.length;refine call_reversed_list pl.isList ?_;have I2:Inv X pins σ H1 { s1 with heap:=s1.heap.push (revObj b ((its.toArray.size:Int)-1)) }:=I1.kept (t':=s1.toks) λ c o e=>Heap.get?_push_of_some _ e;refine wpAny_pyIter_revIter (s:={ s1 with heap:=s1.heap.push (revObj b ((its.toArray.size:Int)-1)) }) ⟨_,Heap.get?_push_size _ rfl,rfl,rfl⟩ ?_;refine⟨s1.heap.objs.size,[s1.heap.objs.size],_,_,H1,rfl,I2,Oz b _ xs.length,⟨Nat.zero_le _,⟨_,Heap.get?_push_size _ rfl,rfl,?_⟩⟩,λ c hc=>?_,q⟩
  .show Data.fields _=Data.fields _;rw[show((its.toArray.size:Int)-1)=(xs.length:Int)-1-((0:Nat):Int) by rw[List.size_toArray,<-hl];lia]
  .have e:c=s1.heap.objs.size:=by simpa using hc
   subst e;exact I1.fpOk (Nat.le_refl _) (I1.hok.fresh (Nat.le_refl _))
end
theorem Nj{K:Frag}{a:Addr}{xs:LUz}{g:TG}{tb:TS}{D:Km}{σ:St}{H:Hp}(Pv:Nat->St->Hp->Prop)(h0:Pv 0 σ H)(hl:∀i σ H,i<=xs.length->Pv i σ H->SqL K H a xs)
  (hs:∀i x σ H,xs[xs.length-1-i]?=some x->i<xs.length->Pv i σ H->g x σ H λ σ2 H2=>tb { D with nx:=Pv (i+1),ct:=Pv (i+1),bk:=D.nx } σ2 H2) (hd:∀σ H,Pv xs.length σ H->D.nx σ H) :
  ∃W:Nat->Nat->St->Hp->Prop,(∃m,W 0 m σ H)/\∀i m σ H,W i m σ H ->
   ((Itv K a xs.length).stop i H/\D.nx σ H)\/((Itv K a xs.length).go i H/\∃N:St->Hp->Prop,(∀σ' H',N σ' H'->∃m',m'<m/\W (i+1) m' σ' H')/\∀x H',(Itv K a xs.length).yld i H x H'->g x σ H' λ σ2 H2=>tb { D with nx:=N,ct:=N,bk:=D.nx } σ2 H2):=by
 refine⟨λ i m σ H=>m=xs.length-i/\i<=xs.length/\Pv i σ H,⟨xs.length,by simp,Nat.zero_le _,h0⟩,?_⟩;rintro i m σ H ⟨rfl,hi,p⟩;have q:=hl i σ H hi p;by_cases hlt:i<xs.length
 .refine .inr ⟨⟨xs,q,rfl,hlt⟩,Pv (i+1),λ σ' H' p'=>⟨xs.length-(i+1),by lia,rfl,hlt,p'⟩,λ x H' y=>?_⟩;obtain⟨e,y⟩:=y;subst e;exact hs i x σ _ (y xs q) hlt p
 .have e:i=xs.length:=by lia
  subst e;exact .inl ⟨Nat.le_refl _,hd σ H p⟩
def Sz(K:Frag)(G:Addr)(te:XK->TE)(ts:TS):TS:=λ D σ H=>∃E₁:XK,te E₁ σ H (λ_ H1=>D.nx σ H1) /\
 ∀x C d T T2 H',E₁ (.ref x) d H'->FJ H' x C d T->H' T2=none->T2≠x->mroIn K C (.ref G)=some true/\ts D σ (thrown H' x C d T2)
structure FunD(K:Frag)(x qual:Str)(st:Stmt)(f:Addr)(fd:FuncData):Prop where
 ex:∃(oc:Value)(od:Option Addr)(T:Addr)(kV doc pm:Value)(an:Option Addr)(cdv ct:Value)(osl:AOz)(o:Obj)(n:Nat),
  fd=fnOf x qual (Bh st) (A4 st) (Af st) (.ref T) kV doc pm an cdv ct/\K.lookup f=some ⟨oc,od,.func fd,osl⟩/\codeIn K cdv qual=true/\K.lookup T=some o/\o.data=.seq #[.none] n
 kp:keepIn K (.ref f)=true
section
variable{P:Program}{w:World}{K:Frag}{mg:MGz}{base:Heap}
theorem FunD.ok{x qual:Str}{st:Stmt}{f:Addr}{fd:FuncData}{N ps:LSz}{k:Nat}{sp:Sp}(F:FunD K x qual st f fd)(S:Am N ps (Af st))(len:∀vs H Q E,sp vs H Q E->vs.length=ps.length)
  (hbody:∀(cdv:Value)(A:Around)(outer:List Env)(s:Shared)(H:Hp)(vs:LUz)(Q:VK)(E:XK),Room k (A.deeper (envOfC qual (Af st) s.heap.objs.size f cdv))->sp vs H Q E ->
   ∃t,PSs (B5 CX0 P w K mg base N qual (Af st) f cdv A outer s H E).nox (A4 st) t/\t { nx:=λ_ H'=>Q .non H',rt:=Q } (BL N vs) H):A5 P w K mg base CX0 (k+1) f fd ps sp:=by
 obtain⟨oc,od,T,kV,doc,pm,an,cdv,ct,osl,o,n,rfl,lk,hcd,lT,dT⟩:=F.ex;refine Nk lk hcd S len λ A outer s H vs Q E hr hsp=>?_;obtain⟨t,h,q⟩:=hbody cdv A outer s H vs Q E hr hsp;exact⟨t,h.nox,q⟩
theorem FunD.binds{x qual:Str}{st:Stmt}{f:Addr}{fd:FuncData}{ps:LSz}{ds:LWz}(F:FunD K x qual st f fd)
  (h:∀(T:Addr)(kV doc pm:Value)(an:Option Addr)(cdv ct:Value)(us:LWz),(us++ds).length=ps.length->∃k:Option (Array Value)->Sem (List (Str×Value)),
   bindArgs (fnOf x qual (Bh st) (A4 st) (Af st) (.ref T) kV doc pm an cdv ct) ⟨us,[]⟩=seqItems? (.ref T) >>= k/\k (some #[.none])=pure (ps.zip (us++ds))):Binds K fd ps ds:=by
 obtain⟨oc,od,T,kV,doc,pm,an,cdv,ct,osl,o,n,rfl,lk,hcd,lT,dT⟩:=F.ex;intro s us X hl;obtain⟨k,h1,h2⟩:=h T kV doc pm an cdv ct us hl;exact .of_defaults rfl (X _ _ lT) dT h1 h2
end
mutual
def DAt(H:Hp):D->V->Prop
 |.at u,v=>v=u/\B9 u=true
 |.tup ds,v=>∃a xs,v=.ref a/\H a=some (.tup xs)/\Iu H ds xs
 |.lst ds,v=>∃a xs,v=.ref a/\H a=some (.lst xs)/\Iu H ds xs
def Iu(H:Hp):Ds->LUz->Prop
 |.nil,xs=>xs=[]
 |.cons d r,xs=>∃x ys,xs=x::ys/\DAt H d x/\Iu H r ys
end
mutual
theorem Pz{H H':Hp}(s:Same H H'):∀(d:D){v:V},DAt H d v->DAt H' d v
 |.at u,v,h=>by rw[DAt]at h |-;exact h
 |.tup ds,v,h=>by
  rw[DAt]at h |-;obtain⟨a,xs,e,q,r⟩:=h;exact⟨a,xs,e,s _ _ q,Fj s ds r⟩
 |.lst ds,v,h=>by
  rw[DAt]at h |-;obtain⟨a,xs,e,q,r⟩:=h;exact⟨a,xs,e,s _ _ q,Fj s ds r⟩
theorem Fj{H H':Hp}(s:Same H H'):∀(ds:Ds){xs:LUz},Iu H ds xs->Iu H' ds xs
 |.nil,xs,h=>by rw[Iu]at h |-;exact h
 |.cons d r,xs,h=>by
  rw[Iu]at h |-;obtain⟨x,ys,e,p,q⟩:=h;exact⟨x,ys,e,Pz s d p,Fj s r q⟩
end
mutual
theorem Se{K:Frag}{H:Hp}:∀(d:D){v:V},DAt H d v->DIs K H d v
 |.at u,v,h=>by rw[DAt]at h;rw[DIs];exact h
 |.tup ds,v,h=>by
  rw[DAt]at h;rw[DIs];obtain⟨a,xs,e,q,r⟩:=h;exact⟨a,xs,e,SqT.of q,Ka ds r⟩
 |.lst ds,v,h=>by
  rw[DAt]at h;rw[DIs];obtain⟨a,xs,e,q,r⟩:=h;exact⟨a,xs,e,SqL.of q,Ka ds r⟩
theorem Ka{K:Frag}{H:Hp}:∀(ds:Ds){xs:LUz},Iu H ds xs->DIss K H ds xs
 |.nil,xs,h=>by rw[Iu]at h;rw[DIss];exact h
 |.cons d r,xs,h=>by
  rw[Iu]at h;rw[DIss];obtain⟨x,ys,e,p,q⟩:=h;exact⟨x,ys,e,Se d p,Ka r q⟩
end
def Cf(c:Addr)(q:Str):HO:=.ext λ h=>∃o vs t,h.get? c=some o/\o.data=.fields vs/\vs[1]?=some (.str q t)
def Bz(f:Addr)(o:Obj):HO:=.ext λ h=>h.get? f=some o
theorem IX{P:Program}{w:World}{H:Hp}{h:Heap}{c:Addr}{q:Str}(x:ObjOk P w H h c (Cf c q)):h.CodeRec (.ref c) q:=by
 obtain⟨⟨o,vs,t,e,d,v⟩,_⟩:=x;exact⟨c,o,vs,t,rfl,e,d,v⟩
theorem P1{P:Program}{w:World}{H:Hp}{h:Heap}{c:Addr}{q:Str}(x:h.CodeRec (.ref c) q):ObjOk P w H h c (Cf c q):=by
 obtain⟨c',o,vs,t,e,g,d,v⟩:=x;cases e;exact⟨⟨o,vs,t,g,d,v⟩,⟨o,g⟩,λ h1 h2 ⟨o,vs,t,e,d,v⟩ k=>⟨o,vs,t,k o e,d,v⟩⟩
theorem JQ{P:Program}{w:World}{H:Hp}{h:Heap}{f:Addr}{o:Obj}(x:h.get? f=some o):ObjOk P w H h f (Bz f o):=⟨x,⟨o,x⟩,λ h1 h2 e k=>k o e⟩
section
variable{X:Cx}{pins:PNz}{σ:St}{H:Hp}{s:Shared}{h1:Heap}
theorem Inv.grow{T c':Addr}{ps more:Array Value}{o:HO}{t':Nat}(I:Inv X pins σ H s)(hT:H T=some (.tbl ps))(k:∀b u,b≠T->s.heap.get? b=some u->h1.get? b=some u)(eT:h1.get? T=some (tabObj (ps++more)))
  (hc:s.heap.objs.size<=c') (new:ObjOk X.prog X.w (upd (upd H T (.tbl (ps++more))) c' o) h1 c' o):Inv X pins σ (upd (upd H T (.tbl (ps++more))) c' o) { s with heap:=h1,toks:=t' }:=by
 have hn:H c'=none:=I.hok.fresh hc;have nT:T≠c':=Ag hT hn;have ne:∀{b:Addr}{u:HO},H b=some u->(∀ps,u≠.tbl ps)->b≠T:=λ{b u} e nu z=>by rw[z,hT]at e;cases e;exact nu _ rfl
 have to:∀{b:Addr}{u:HO},H b=some u->(∀ps,u≠.tbl ps)->(upd (upd H T (.tbl (ps++more))) c' o) b=some u:=λ{b u} e nu=>by rw[Ah (Ag e hn),Ah (ne e nu)];exact e
 refine I.un ⟨λ b u q n _ _=>k b u (λ z=>by rw[z,hT]at n;cases n) q,λ b u q n _ _=>⟨u.slots,k b u (λ z=>by rw[z,hT]at n;cases n) q⟩,λ b u q n _=>?_,λ b u q _=>?_,
  λ b xs q=>to q (λ_ z=>nomatch z),λ b u xs q=>to q (λ_ z=>nomatch z),λ b ps' q=>?_⟩ λ b u e=>?_
 .rw[Ah (Nat.ne_of_lt (Nat.lt_of_lt_of_le (Heap.lt_size q) hc)),Ah (λ z=>by rw[z,hT]at n;cases n)];exact n
 .by_cases z:b=T
  .exact⟨_,by rw[z];exact eT⟩
  .exact⟨u,k b u z q⟩
 .by_cases z:b=T
  .subst z;rw[hT]at q;cases q;exact⟨more,by rw[Ah nT,upd_same]⟩
  .exact⟨#[],by rw[Ah (Ag q hn),Ah z,q];simp⟩
 .by_cases z:b=c'
  .subst z;rw[upd_same]at e;cases e;exact new
  .rw[Ah z]at e;by_cases zT:b=T
   .subst zT;rw[upd_same]at e;cases e;exact eT
   .rw[Ah zT]at e;refine(I.hok b u e).stay (λ c v hcb r=>k c v ?_ r) (λ c r=>to r (λ_ z=>nomatch z)) λ c xs r=>to r (λ_ z=>nomatch z);rcases hcb with rfl|hcb
    .exact zT
    .exact ne hcb (λ_ z=>nomatch z)
end
structure Ri(K:Frag)(mg:MGz):Prop where
 ex:∃bm sl,mg "__builtins__"=some (.ref bm)/\bm≠builtinsNs/\bm≠mainGlobals/\K.lookup bm=some ⟨.type "module",some builtinsNs,.plain,sl⟩
abbrev By(mg:MGz)(qual:Str)(params:Arguments)(body:Expr)(scope:Scope)(clos:List (Str×Addr))(c':Addr)(ctv:Value):Obj:=kla_obj "<lambda>" qual params body scope clos ((mg "__name__").getD .none) c' ctv
def Sr(mg:MGz)(T:Addr)(pos:Pos)(params:Arguments)(body:Expr)(scope:Scope)(clos:List (Str×Addr))(qual:Str):TE:=λ σ H Q=>∃ps,H T=some (.tbl ps)/\TriplesOk ps.toList /\
 ((codeAmong pos ps.toList=none/\∀c' f ctv,H c'=none->H f=none->c'≠f->c'≠T->f≠T->Q (.ref f) (upd (upd (upd H T (.tbl (ps++#[rawInt pos.line,rawInt pos.col,.ref c']))) c' (Cf c' qual)) f (Bz f (By mg qual params body scope clos c' ctv)))) \/
  ∃c',codeAmong pos ps.toList=some (.ref c')/\H c'=some (Cf c' qual)/\∀f ctv,H f=none->Q (.ref f) (upd H f (Bz f (By mg qual params body scope clos c' ctv))))
section
variable{X:Cx}
theorem OJ{params:Arguments}{body:Expr}{scope:Scope}{pos:Pos}{c T:Addr}{clos:List (Str×Addr)}{qual:Str}(hcode:X.env.code=.ref c)(hC:∀h,X.K.In h->CodeHd h c T)(hB:Ri X.K X.mg)(hdef:defaultsOf params X.env=([],[]))
  (hcl:closureFor scope X.env=pure clos) (hq:X.env.qual++"<lambda>"=qual):PE X (.Lambda params body scope pos) (Sr X.mg T pos params body scope clos qual):=by
 intro pins s σ H Q I h;obtain⟨ps,hT,ht,alt⟩:=h;have hP:s.heap.get? T=some (tabObj ps):=I.hok T _ hT;have hg:s.heap.Ns mainGlobals X.mg:=I.mod.glob.keeps I.bk;obtain⟨bm,sl,b1,b2,b3,b4⟩:=hB.ex;have hbm:X.base.get? bm=some ⟨.type "module",some builtinsNs,.plain,sl⟩:=I.mod.kin bm _ b4;have hbT:bm≠T:=λ z=>by
  have:=(I.bs bm _ hbm).2;rw[z,hT]at this;cases this
 have hgT:mainGlobals≠T:=λ z=>by
  obtain⟨o,es,ep,e,_⟩:=I.mod.glob;have:=(I.bs _ _ e).2;rw[z,hT]at this;cases this
 have hb:s.heap.BuiltinsAt X.mg T:=⟨bm,_,b1,b2,b3,hbT,I.bk bm _ hbm,rfl,rfl,rfl⟩;refine kla_eval hdef ?_;rw[hq];rcases alt with ⟨hnf,q⟩|⟨c',hf,hc',q⟩
 .refine kla_makeFunction hcl I.ok.glob hg hcode (hC _ I.kIn) hP ht hnf hgT hb λ c' ctv h' tk hx hge hlt hrec htb=>?_;have I1:=I.grow (t':=tk) (h1:=h') (c':=c') (o:=Cf c' qual) (more:=#[rawInt pos.line,rawInt pos.col,.ref c']) hT (λ b u nb e=>hx b u nb e) htb hge (P1 hrec);have hn:H c'=none:=I.hok.fresh hge;have hnf':H h'.objs.size=none:=I.hok.fresh (Nat.le_trans hge (Nat.le_of_lt hlt));have I2:=I1.laid (a:=h'.objs.size) (o:=Bz h'.objs.size (By X.mg qual params body scope clos c' ctv)) (t':=tk) (h':=h'.push (By X.mg qual params body scope clos c' ctv)) (λ b u e=>Heap.get?_push_of_some _ e) (Nat.le_refl _) (JQ (Heap.get?_push_size _ rfl));exact⟨.ref h'.objs.size,_,I2,rfl,q c' h'.objs.size ctv hn hnf' (Nat.ne_of_lt hlt) (Ne.symm (Ag hT hn)) (Ne.symm (Ag hT hnf'))⟩
 .refine kla_makeFunctionHit hcl I.ok.glob hg hcode (hC _ I.kIn) hP ht hf hb λ ctv h' tk hk hsz=>?_;have hnf':H h'.objs.size=none:=I.hok.fresh hsz;have I1:=I.kept (t':=tk) hk;have I2:=I1.laid (a:=h'.objs.size) (o:=Bz h'.objs.size (By X.mg qual params body scope clos c' ctv)) (t':=tk) (h':=h'.push (By X.mg qual params body scope clos c' ctv)) (λ b u e=>Heap.get?_push_of_some _ e) (Nat.le_refl _) (JQ (Heap.get?_push_size _ rfl));exact⟨.ref h'.objs.size,_,I2,rfl,q h'.objs.size ctv hnf'⟩
end
theorem OW{P:Program}{w:World}{K:Frag}{mg:MGz}{base:Heap}{A:Around}{outer:List Env}{s:Shared}{H:Hp}{f c':Addr}{params:Arguments}{body:Expr}{scope:Scope}{qual:Str}{ctv:Value}{N ps:LSz}{vs:LUz}{us:LWz}{Q:VK}{E:XK}{k:Nat}{te:TE}{CX:CXT}
  (hf:H f=some (Bz f (By mg qual params body scope [] c' ctv))) (hc:H c'=some (Cf c' qual)) (S:Am N ps scope) (hr:Room (k+1) A) (e0:Env0 P w K mg base A outer s H) (hl:vs.length=ps.length) (r:Vals vs us)
  (hb:BindsTo s (kla_fn "<lambda>" qual params body scope [] ((mg "__name__").getD .none) (.ref c') ctv) ⟨us,[]⟩ (ps.zip us)) (hbody:PE (B5 CX P w K mg base N qual scope f (.ref c') A outer s H E) body te) (hq:te (BL N vs) H Q) :
  codeAny (model P w) A (.call (.ref f) ⟨us,[]⟩) (CR CX outer P w H s Q E) s:=by
 have lim:s.heap.NoLimit:=e0.mod.nolimit.keeps λ b o e=>(e0.bs b o e).1;have hkind:∀y∈ps.zip us,scope.names.lookup y.1=some .local\/(scope.names.lookup y.1=some .cell/\((cellsFrom (s.heap.objs.size+1) scope.names []).lookup y.1).isSome=true):=λ⟨n,v⟩ hy=>by
  rcases S.par n (List.of_mem_zip hy).1 with q|q
  .exact .inl q
  .exact .inr ⟨q,cellsFrom_some _ _ _ (.inl q)⟩
 have ho:s.heap.get? f=some (By mg qual params body scope [] c' ctv):=(show ObjOk P w H s.heap f (Bz f _) from e0.hok f _ hf).1;refine kla_callFunE hr.depth ho rfl S.co S.gen rfl (IX (e0.hok c' _ hc)) (hb _ _ _ _ ?_);refine wpAny_newFunctionEnv_cells S.kind hkind λ env he s1 x=>?_;subst he;refine⟨lim.keeps x.toInCall.keep,kla_codeExpr ?_⟩;have I:Inv (B5 CX P w K mg base N qual scope f (.ref c') A outer s H E) [] (BL N vs) H s1:=IR S hr.hd e0 hl r x;exact wpAny_mono (hbody [] s1 (BL N vs) H Q I hq) (λ u s' ⟨v,H',J,rv,q⟩=>⟨v,H',J.os,J.bare,J.base,J.hok,rv,q⟩) λ e s' h=>h
section
variable{X:Cx}{pins:PNz}{σ:St}{H:Hp}{s:Shared}
theorem Inv.track{D:Addr}{o:HO}(I:Inv X pins σ H s)(hn:H D=none)(h1:X.s₀.heap.objs.size<=D)(hL:D≠X.env.locals)(h2:∀x c,X.env.cells.lookup x=some c->c≠D)(h3:∀p∈X.pn++pins,p.1≠D)
  (new:ObjOk X.prog X.w (upd H D o) s.heap D o):Inv X pins σ (upd H D o) s:=by
 have to:∀{b:Addr}{u:HO},H b=some u->(upd H D o) b=some u:=λ{b u} e=>by rw[Ah (Ag e hn)];exact e
 have J:=I.step (h':=s.heap) (H':=upd H D o) (g':=s.gens) (d':=s.drawn) (t':=s.toks) (ch:=[D]) (λ b hb=>?_) (λ b u _ _ _ e _=>e) (λ b u _ _ _ e _=>⟨u.slots,e⟩) (λ b u hc e n=>?_) (λ b u _ e=>⟨u,e⟩)
  (λ b xs e=>to e) (λ b u xs e=>to e) (λ b ps e=>⟨#[],by rw[to e];simp⟩) (λ m hm=>hm) (λ b u e=>?_) I.bare
 .exact J
 .have e:b=D:=by simpa using hb
  subst e;exact⟨.inr h1,hL,h2,h3⟩
 .rw[Ah (λ z=>hc (by simp[z]))];exact n
 .by_cases hb:b=D
  .subst hb;rw[upd_same]at e;cases e;exact new
  .rw[Ah hb]at e;exact(I.hok b u e).stay (λ c v _ r=>r) (λ c r=>to r) λ c xs r=>to r
theorem Inv.apart(I:Inv X pins σ H s){D:Addr}(h:s.heap.objs.size<=D):H D=none/\X.s₀.heap.objs.size<=D/\D≠X.env.locals/\D∉X.fs/\(∀x c,X.env.cells.lookup x=some c->c≠D)/\∀p∈X.pn++pins,p.1≠D:=by
 have no:¬D<s.heap.objs.size:=Nat.not_lt.mpr h;refine⟨I.hok.fresh h,Nat.le_trans I.sz h,λ z=>no (by rw[z];exact I.lt),λ hb=>?_,λ x c e z=>?_,λ p hp z=>?_⟩
 .obtain⟨_,o,ho,_⟩:=I.ok.funs.mem hb;exact no (Nat.lt_of_lt_of_le (Heap.lt_size ho) I.sz)
 .obtain⟨v,o,ho,_⟩:=I.cell x c e;exact no (by rw[<-z];exact Heap.lt_size ho)
 .exact no (by rw[<-z];exact Heap.lt_size (I.pin p hp).1)
theorem Inv.unpin{p:Addr×Obj}(I:Inv X (p::pins) σ H s):Inv X pins σ H s:=I.pins_of λ q hq=>I.pin q (List.mem_append_right _ (List.mem_cons_of_mem _ hq))
end
section
variable{X:Cx}{pins:PNz}{σ:St}{H:Hp}{s:Shared}{A:Around}{D kS:Addr}{vs ks:LWz}{e e1:Nat}
theorem E3{p:Addr×Obj}(I:Inv X pins σ H s)(hp:p∈pins):s.heap.get? p.1=some p.2:=(I.pin p (List.mem_append_right _ hp)).1
theorem Inv.repin{D:Addr}{n:Nat}{items:Array Value}{g:Array Value->Array Value}{pins:PNz}(I:Inv X ((D,seqObj "list" items n)::pins) σ H s)(h1:X.s₀.heap.objs.size<=D)(h2:∀x c,X.env.cells.lookup x=some c->c≠D)(h3:∀p∈X.pn++pins,p.1≠D) :
  ∃c,Inv X ((D,seqObj "list" (g items) c)::pins) σ H { s with heap:=s.heap.update D (Obj.mapSeq g) }:=by
 obtain⟨e,hn,hL,hf,_⟩:=I.pin (D,seqObj "list" items n) (List.mem_append_right _ List.mem_cons_self);obtain⟨c,hc⟩:∃c,(s.heap.update D (Obj.mapSeq g)).get? D=some (seqObj "list" (g items) c):=⟨_,get?_update_seq e g⟩;have J:Inv X pins σ H { s with heap:=s.heap.update D (Obj.mapSeq g),toks:=s.toks }:=I.unpin.turned (it:=D) (t':=s.toks) (λ b o nb q=>by rw[Heap.get?_update_ne _ _ _ _ nb];exact q) hn hL (.inr h1) h2 h3;refine⟨c,J.pins_of λ p hp=>?_⟩;rcases List.mem_cons.mp hp with rfl|hp
 .exact⟨hc,hn,hL,hf,λ v z=>nomatch z⟩
 .exact J.pin p (List.mem_append_right _ hp)
end
theorem JV{X:Cx}{pins:PNz}{σ:St}{H:Hp}{s:Shared}{A:Around}{kts:List (Addr×List Int)}{m:Nat}(I:Inv X pins σ H s)(ht:∀t∈kts,t.2.length=m+1/\H t.1=some (.tup (t.2.map V.int))) :
  ∀t∈kts,t.2.length=m+1/\∃items,IsTup s.heap t.1 items/\IntsAre items.toList t.2:=λ t htm=>by
 obtain⟨h1,h2⟩:=ht t htm;obtain⟨_,zs,rz,tz⟩:=(show ObjOk X.prog X.w H s.heap t.1 (.tup (t.2.map V.int)) from I.hok _ _ h2);exact⟨h1,_,tz,by simpa using Ha rz⟩
section
variable{X:Cx}{pins:PNz}{σ:St}{H:Hp}{s:Shared}{A:Around}{D kS f:Addr}{vs:LWz}{e1:Nat}{kts:List (Addr×List Int)}{m:Nat}{key:List Int->Int}{P:PySem.Fin->Shared->Prop}{E:VPz}
abbrev BH(kts:List (Addr×List Int)):LWz:=kts.map λ t=>Value.ref t.1
theorem IK{e:Nat}{st:SortSt}{ks out:LWz}(I:Inv X ((kS,seqObj "list" ks.toArray e)::(D,seqObj "list" #[] e1)::pins) σ H s)(hk1:X.s₀.heap.objs.size<=kS)(hkc:∀x c,X.env.cells.lookup x=some c->c≠kS)(hkp:∀p∈X.pn++((D,seqObj "list" #[] e1)::pins),p.1≠kS)
  (hD1:X.s₀.heap.objs.size<=D) (hDc:∀x c,X.env.cells.lookup x=some c->c≠D) (hDp:∀p∈X.pn++pins,p.1≠D) (hout:(arrOf st).map (·.2)=List.toArray out) (hz:out.length<64) (hkz:ks.length<64) (hf:failedOf st=none)
  (h:∀(c:Nat)(s':Shared),Inv X pins σ H s'->s'.heap.get? D=some (seqObj "list" (List.toArray out) c)->P (.done (.ret .none)) s'):wpAny (model X.prog X.w) A (ksk_tail D false e1 (.ref kS) st) P E s:=by
 have ek:=E3 I List.mem_cons_self;obtain⟨ck,I1⟩:=I.repin (g:=λ_=>(#[]:Array Value)) hk1 hkc hkp;have eD:=E3 I1 (List.mem_cons_of_mem _ List.mem_cons_self);obtain⟨cD,I2⟩:=(I1.unpin).repin (g:=λ_=>List.toArray out) hD1 hDc hDp;unfold ksk_tail
 try dsimp only
 rw[hout];refine wpAny_bind (listUpdate_at ek rfl ?_ (by rw[List.size_toArray,sizeLine_eq];lia) (Nat.zero_le _));refine wpAny_bind (wpAny_letGo ?_);refine wpAny_bind (seqEpoch_at eD rfl ?_);refine wpAny_bind (listUpdate_at eD rfl ?_ (Nat.zero_le _) (by show out.toArray.size<=_;rw[List.size_toArray,sizeLine_eq];lia));rw[hf];simp only[bne_self_eq_false,Bool.false_eq_true,if_false];exact wpAny_pure (h cD _ I2.unpin (E3 I2 List.mem_cons_self))
theorem OX{e:Nat}(I:Inv X ((kS,seqObj "list" (BH kts).toArray e)::(D,seqObj "list" #[] e1)::pins) σ H s)(hk1:X.s₀.heap.objs.size<=kS)(hkc:∀x c,X.env.cells.lookup x=some c->c≠kS)(hkp:∀p∈X.pn++((D,seqObj "list" #[] e1)::pins),p.1≠kS)
  (hD1:X.s₀.heap.objs.size<=D) (hDc:∀x c,X.env.cells.lookup x=some c->c≠D) (hDp:∀p∈X.pn++pins,p.1≠D) (hl:kts.length=vs.length) (h64:vs.length<64) (ht:∀t∈kts,t.2.length=m+1/\H t.1=some (.tup (t.2.map V.int))) (hkey:∀t∈kts,∀u∈kts,HT.lexLt t.2 u.2=decide (key t.2<key u.2))
  (h:∀(q:Array Nat)(c:Nat)(s':Shared),PermN vs.length q->(q.toList.map λ i=>key ((kts.map (·.2)).getD i [])).Pairwise (·<=·)->Inv X pins σ H s'->s'.heap.get? D=some (seqObj "list" (List.toArray (q.toList.map λ i=>vs.getD i Value.none)) c)->P (.done (.ret .none)) s') :
  wpAny (model X.prog X.w) A (ksk_end D false vs.toArray e1 (.ref kS) (BH kts).toArray) P E s:=by
 have hlk:(BH kts).length=vs.length:=by rw[List.length_map];exact hl
 have tup:=JV (A:=A) I ht;unfold ksk_end
 try dsimp only
 simp only[Bool.false_eq_true,if_false];have hsz:vs.toArray.size=vs.length:=by simp
 by_cases h2:vs.toArray.size<2
 .rw[if_pos h2,if_pos h2];refine wpAny_bind (wpAny_pure ?_);rw[StateT.run_pure];refine wpAny_bind (wpAny_pure ?_);dsimp only;have e2:(arrOf (SortSt.mk' general' ((BH kts).toArray.zip vs.toArray) #[] 7 none)).map (·.2)=List.toArray vs:=by
   show((BH kts).toArray.zip vs.toArray).map (·.2)=vs.toArray;apply Array.ext';rw[Array.toList_map];simp only[Array.toList_zip,List.toList_toArray];exact List.map_snd_zip (by lia)
  refine IK I hk1 hkc hkp hD1 hDc hDp e2 h64 (by lia) rfl λ c s' I' e'=>?_;have e3:List.map (λ i=>vs.getD i Value.none) (List.range vs.length).toArray.toList=vs:=G7 vs;refine h (List.toArray (List.range vs.length)) c s' (by show List.Perm _ _;simp) ?_ I' (by rw[e3];exact e');rw[hsz]at h2;rcases(by lia:vs.length=0\/vs.length=1) with e|e<;>rw[e]<;>simp[List.range_succ]
 .rw[if_neg h2,if_neg h2];have h2':2<=vs.length:=by lia
  obtain⟨fs,f1,f2,f3⟩:=GU tup;refine wpAny_bind (kat_kind (T:=Value.type "int") (vs:=BH kts) f1 (by lia) (λ v hv=>by obtain⟨n,tk,rfl⟩:=f3 v hv;exact .now) (by decide) ?_);refine wpAny_bind (wpAny_mono (kat_run (ks:=BH kts) (vs:=vs) (Q:=λ st' s'=>s'=s/\∃p:Array Nat,p.size=vs.length/\arrOf st'=p.map (kas_item ((BH kts).toArray.zip vs.toArray))/\failedOf st'=none/\PermN vs.length p/\(p.toList.map λ i=>key ((kts.map (·.2)).getD i [])).Pairwise (·<=·))
   (G:=λ p s'=>s'=s/\PermN vs.length p/\(p.toList.map λ i=>key ((kts.map (·.2)).getD i [])).Pairwise (·<=·)) hlk h2' h64 (λ p st' s' a1 a2 a3 a4=>⟨a4.1,p,a1,a2,a3,a4.2⟩)
   (F5 (key:=λ i=>key ((kts.map (·.2)).getD i [])) (λ i j C hi hj hC=>?_) (by lia) λ q hq hp=>⟨rfl,hq,hp⟩)) ?_ λ_ _ e=>e)
  .have hi':i<kts.length:=by lia
   have hj':j<kts.length:=by lia
   obtain⟨l1,x1,⟨o1,g1,c1,n1,d1⟩,z1⟩:=tup _ (List.getElem_mem hi');obtain⟨l2,x2,⟨o2,g2,c2,n2,d2⟩,z2⟩:=tup _ (List.getElem_mem hj');have w1:(BH kts).getD i Value.none=Value.ref kts[i].1:=by simp[List.getD,hi']
   have w2:(BH kts).getD j Value.none=Value.ref kts[j].1:=by simp[List.getD,hj']
   have k1:(kts.map (·.2)).getD i []=kts[i].2:=by simp[List.getD,hi']
   have k2:(kts.map (·.2)).getD j []=kts[j].2:=by simp[List.getD,hj']
   simp only[k1,k2]at hC;rw[<-hkey _ (List.getElem_mem hi') _ (List.getElem_mem hj')]at hC;show wpAny (model X.prog X.w) A (keyLt' _ ((BH kts).getD i Value.none) ((BH kts).getD j Value.none)) C (λ_ _=>False) s;rw[w1,w2];have s1:=z1.length;have s2:=z2.length;exact kat_lt g1 d1 g2 d2 (F4 (by rw[decide_eq_false];simp at s1 s2;lia) 0 z1 z2 (by lia) hC)
  .rintro⟨⟨⟩,st'⟩ s' ⟨rfl,p,hp,har,hf,pp,ps⟩;dsimp only;exact IK I hk1 hkc hkp hD1 hDc hDp (kat_snds hlk har) (by rw[List.length_map,Array.length_toList,hp];exact h64) (by lia) hf λ c s' I' e'=>h p c s' pp ps I' e'
theorem NV(I:Inv X ((kS,seqObj "list" #[] 0)::(D,seqObj "list" #[] e1)::pins) σ H s)(hk1:X.s₀.heap.objs.size<=kS)(hkc:∀x c,X.env.cells.lookup x=some c->c≠kS)(hkp:∀p∈X.pn++((D,seqObj "list" #[] e1)::pins),p.1≠kS)
  (hD1:X.s₀.heap.objs.size<=D) (hDc:∀x c,X.env.cells.lookup x=some c->c≠D) (hDp:∀p∈X.pn++pins,p.1≠D) (hl:kts.length=vs.length) (h64:vs.length<64) (ht:∀t∈kts,t.2.length=m+1/\H t.1=some (.tup (t.2.map V.int))) (hkey:∀t∈kts,∀u∈kts,HT.lexLt t.2 u.2=decide (key t.2<key u.2))
  (hcall:∀(i:Nat)(v:Value)(t:Addr×List Int)(pins':PNz)(s':Shared),vs[i]?=some v->kts[i]?=some t->Inv X pins' σ H s'->wpAny (model X.prog X.w) A (call (.ref f) [v]) (λ u s''=>u=.ref t.1/\Inv X pins' σ H s'') (λ_ _=>False) s')
  (h:∀(q:Array Nat)(c:Nat)(s':Shared),PermN vs.length q->(q.toList.map λ i=>key ((kts.map (·.2)).getD i [])).Pairwise (·<=·)->Inv X pins σ H s'->s'.heap.get? D=some (seqObj "list" (List.toArray (q.toList.map λ i=>vs.getD i Value.none)) c)->P (.done (.ret .none)) s') :
  wpAny (model X.prog X.w) A (ksk_rest D (.ref f) false vs.toArray e1 (.ref kS)) P E s:=by
 unfold ksk_rest;refine wpAny_bind (wpAny_rule ?_)
 first
  |rw[List.forIn_toArray]
  | (rw[<-Array.forIn_toList];simp only[List.toList_toArray])
  |rw[<-Array.forIn_toList]
 refine wpAny_bind (ksk_fold (λ i s'=>∃e,Inv X ((kS,seqObj "list" (BH (kts.take i)).toArray e)::(D,seqObj "list" #[] e1)::pins) σ H s') vs 0 s ⟨0,I⟩ (λ j x s' hx hJ=>?_) λ s' hJ=>?_)
 .obtain⟨e,J⟩:=hJ;rw[Nat.zero_add]at J |-;have hj:j<kts.length:=by rw[hl];exact(List.getElem?_eq_some_iff.mp hx).1
  have htj:kts[j]?=some kts[j]:=List.getElem?_eq_getElem hj;refine wpAny_bind (wpAny_attempt (wpAny_mono (hcall j x kts[j] _ s' hx htj J) (λ u s'' hu=>?_) λ_ _ hF=>hF.elim));obtain⟨rfl,J'⟩:=hu;have ek:=E3 J' List.mem_cons_self;obtain⟨c,J2⟩:=J'.repin (g:=(·.push (Value.ref kts[j].1))) hk1 hkc hkp;have ea:((BH (kts.take j)).toArray).push (Value.ref kts[j].1)=(BH (kts.take (j+1))).toArray:=by
   unfold BH;rw[List.take_succ,htj,List.map_append];simp
  rw[ea]at J2;have sz:(BH (kts.take j)).length<64:=by rw[List.length_map,List.length_take];lia
  try dsimp only
  refine wpAny_bind (listUpdate_at ek rfl ?_ (by rw[List.size_toArray,sizeLine_eq];lia) (Nat.le_trans (Nat.le_of_eq (Array.size_push ..)) (by rw[List.size_toArray,sizeLine_eq];lia)));exact wpAny_pure ⟨rfl,c,J2⟩
 .obtain⟨e,J⟩:=hJ;rw[Nat.zero_add,<-hl,List.take_length]at J
  try dsimp only
  refine wpAny_bind (listItems_at (E3 J List.mem_cons_self) rfl ?_);exact OX J hk1 hkc hkp hD1 hDc hDp hl h64 ht hkey h
end
theorem Ib{X:Cx}{pins:PNz}{σ:St}{H:Hp}{s:Shared}{A:Around}{D f:Addr}{vs:LWz}{n:Nat}{kts:List (Addr×List Int)}{m:Nat}{key:List Int->Int}{P:PySem.Fin->Shared->Prop}{E:VPz}
  (I:Inv X pins σ H s) (ho:s.heap.get? D=some (seqObj "list" vs.toArray n)) (hD:H D=none) (hD1:X.s₀.heap.objs.size<=D) (hDL:D≠X.env.locals) (hDf:D∉X.fs) (hDc:∀x c,X.env.cells.lookup x=some c->c≠D) (hDp:∀p∈X.pn++pins,p.1≠D)
  (hl:kts.length=vs.length) (h64:vs.length<64) (ht:∀t∈kts,t.2.length=m+1/\H t.1=some (.tup (t.2.map V.int))) (hkey:∀t∈kts,∀u∈kts,HT.lexLt t.2 u.2=decide (key t.2<key u.2))
  (hcall:∀(i:Nat)(v:Value)(t:Addr×List Int)(pins':PNz)(s':Shared),vs[i]?=some v->kts[i]?=some t->Inv X pins' σ H s'->wpAny (model X.prog X.w) A (call (.ref f) [v]) (λ u s''=>u=.ref t.1/\Inv X pins' σ H s'') (λ_ _=>False) s')
  (h:∀(q:Array Nat)(c:Nat)(s':Shared),PermN vs.length q->(q.toList.map λ i=>key ((kts.map (·.2)).getD i [])).Pairwise (·<=·)->Inv X pins σ H s'->s'.heap.get? D=some (seqObj "list" (List.toArray (q.toList.map λ i=>vs.getD i Value.none)) c)->P (.done (.ret .none)) s') :
  wpAny (model X.prog X.w) A (Builtin.«list.sort» ⟨[.ref D],[(Str.ofString "key",.ref f)]⟩) P E s:=by
 rw[ksk_t1];unfold ksk_tree;refine wpAny_bind (listItems_at ho rfl ?_);refine wpAny_bind (listUpdate_at ho rfl ?_ (by rw[List.size_toArray,sizeLine_eq];lia) (Nat.zero_le _));obtain⟨e1,ho1⟩:∃e1,(s.heap.update D (Obj.mapSeq λ_=>(#[]:Array Value))).get? D=some (seqObj "list" #[] e1):=⟨_,get?_update_seq ho λ_=>#[]⟩;have I1:Inv X pins σ H { s with heap:=s.heap.update D (Obj.mapSeq λ_=>(#[]:Array Value)),toks:=s.toks }:=I.turned (it:=D) (λ b o nb q=>by rw[Heap.get?_update_ne _ _ _ _ nb];exact q) hD hDL (.inr hD1) hDc hDp;have I1:Inv X ((D,seqObj "list" #[] e1)::pins) σ H { s with heap:=s.heap.update D (Obj.mapSeq λ_=>(#[]:Array Value)) }:=I1.pins_of λ p hp=>by
  rcases List.mem_cons.mp hp with rfl|hp
  .exact⟨ho1,hD,hDL,hDf,λ v z=>nomatch z⟩
  .exact I1.pin p (List.mem_append_right _ hp)
 refine wpAny_bind (seqEpoch_at ho1 rfl ?_);refine wpAny_bind (wpAny_newTuple ?_ (by show vs.length<=_;rw[sizeLine_eq];lia));refine wpAny_bind (wpAny_newList ?_ (Nat.zero_le _));refine wpAny_holding ?_;have I2:=(I1.kept (t':=s.toks) (h':=(s.heap.update D (Obj.mapSeq λ_=>(#[]:Array Value))).push (seqObj "tuple" vs.toArray 0)) λ b u q=>Heap.get?_push_of_some _ q);have ap:=I2.apart (D:=((s.heap.update D (Obj.mapSeq λ_=>(#[]:Array Value))).push (seqObj "tuple" vs.toArray 0)).objs.size) (Nat.le_refl _);have I3:=I2.kept (t':=s.toks) (h':=((s.heap.update D (Obj.mapSeq λ_=>(#[]:Array Value))).push (seqObj "tuple" vs.toArray 0)).push (seqObj "list" #[] 0)) λ b u q=>Heap.get?_push_of_some _ q;have hk0:(((s.heap.update D (Obj.mapSeq λ_=>(#[]:Array Value))).push (seqObj "tuple" vs.toArray 0)).push (seqObj "list" #[] 0)).get? ((s.heap.update D (Obj.mapSeq λ_=>(#[]:Array Value))).push (seqObj "tuple" vs.toArray 0)).objs.size=some (seqObj "list" #[] 0):=Heap.get?_push_size _ rfl;show wpAny (model X.prog X.w) A (ksk_rest D (.ref f) false vs.toArray e1 (.ref ((s.heap.update D (Obj.mapSeq λ_=>(#[]:Array Value))).push (seqObj "tuple" vs.toArray 0)).objs.size)) P E { s with heap:=((s.heap.update D (Obj.mapSeq λ_=>(#[]:Array Value))).push (seqObj "tuple" vs.toArray 0)).push (seqObj "list" #[] 0) };obtain⟨a1,a2,a3,a4,a5,a6⟩:=ap;refine NV (I3.pins_of λ p hp=>?_) a2 a5 a6 hD1 hDc hDp hl h64 ht hkey hcall h;rcases List.mem_cons.mp hp with rfl|hp
 .exact⟨hk0,a1,a3,a4,λ v z=>nomatch z⟩
 .exact I3.pin p (List.mem_append_right _ hp)
theorem RU{X:Cx}{pins:PNz}{σ:St}{H:Hp}{s:Shared}{A:Around}{f c' a:Addr}{params:Arguments}{body:Expr}{scope:Scope}{qual:Str}{ctv u:Value}{v:V}{N ps:LSz}{k:Nat}{te:TE}(I:Inv X pins σ H s)(e0:Env0 X.prog X.w X.K X.mg X.base A X.stack s H)
  (hf:H f=some (Bz f (By X.mg qual params body scope [] c' ctv))) (hc:H c'=some (Cf c' qual)) (S:Am N ps scope) (hr:Room (k+1) A) (hl:ps.length=1) (r:RelV v u)
  (hb:BindsTo s (kla_fn "<lambda>" qual params body scope [] ((X.mg "__name__").getD .none) (.ref c') ctv) ⟨[u],[]⟩ (ps.zip [u]))
  (hbody:PE (B5 CX0 X.prog X.w X.K X.mg X.base N qual scope f (.ref c') A X.stack s H E0) body te) (hq:te (BL N [v]) H λ y H'=>y=.ref a/\H'=H) :
  wpAny (model X.prog X.w) A (call (.ref f) [u]) (λ y s'=>y=.ref a/\Inv X pins σ H s') (λ_ _=>False) s:=by
 refine wpAny_call (codeAny_mono (OW (Q:=λ y H'=>y=.ref a/\H'=H) hf hc S hr e0 (by rw[hl];rfl) (.cons r .nil) hb hbody hq) λ r s' hq'=>?_);cases r with
 |error e=>exact False.elim hq'
 |ok fl =>
  cases fl with
  |ret y =>
   obtain⟨z,H',J,rz,ez,eH⟩:=I.after hq';subst ez eH;cases rz;exact⟨rfl,J⟩
  |next=>exact False.elim hq'
  |brk=>exact False.elim hq'
  |cont=>exact False.elim hq'
def RA(K:Frag)(mg:MGz)(N:LSz)(qual:Str)(params:Arguments)(body:Expr)(scope:Scope)(te:TE)(ta:TA)(tl:TE):TE:=λ σ H Q=>ta σ H λ xs H1=>tl σ H1 λ fv H2=>∃(f c' p:Addr)(ctv:Value)(β:Type)(ts:List (Addr×β))(kt:Addr×β->Addr×List Int)(m:Nat)(key:List Int->Int),
 fv=.ref f/\H2 f=some (Bz f (By mg qual params body scope [] c' ctv))/\H2 c'=some (Cf c' qual)/\xs=[.ref p]/\SqL K H2 p (ts.map λ t=>V.ref t.1)/\ts.length<64/\(∀t∈ts,(kt t).2.length=m+1/\H2 (kt t).1=some (.tup ((kt t).2.map V.int))) /\
 (∀t∈ts,te (BL N [.ref t.1]) H2 λ y H'=>y=.ref (kt t).1/\H'=H2)/\(∀t∈ts,∀u∈ts,HT.lexLt (kt t).2 (kt u).2=decide (key (kt t).2<key (kt u).2)) /\
 ∀l (ts':List (Addr×β)),H2 l=none->ts'.Perm ts->(ts'.map λ t=>key (kt t).2).Pairwise (·<=·)->Q (.ref l) (upd H2 l (.lst (ts'.map λ t=>V.ref t.1)))
theorem NK{β:Type}{ts:List β}{z:β}{q:Array Nat}(h:PermN ts.length q):ts.Perm (q.toList.map λ i=>ts.getD i z):=by
 have:=(h.map λ i=>ts.getD i z).symm;have e:(List.range ts.length).map (λ i=>ts.getD i z)=ts:=by
  apply List.ext_getElem?;intro i;rw[List.getElem?_map];by_cases h:i<ts.length
  .rw[List.getElem?_range h,Option.map_some,List.getD_eq_getElem?_getD,List.getElem?_eq_getElem h];rfl
  .rw[List.getElem?_eq_none (by simpa using h),List.getElem?_eq_none (by lia)];rfl
 rw[e]at this;exact this
section
variable{X:Cx}
theorem OI{e:Expr}{p kp lp pos:Pos}{params:Arguments}{body:Expr}{scope:Scope}{qual:Str}{N ps:LSz}{te tl:TE}{ta:TA}{k:Nat}(hg:Gl X "sorted")(hm:X.mg "sorted"=none)(ha:PA X [e] ta)(hl:PE X (.Lambda params body scope lp) tl)(S:Am N ps scope)(hps:ps.length=1)(hr:Room (k+3) X.A)
  (hb:∀(s:Shared)(pm ctv u:Value)(c':Addr),BindsTo s (kla_fn "<lambda>" qual params body scope [] pm (.ref c') ctv) ⟨[u],[]⟩ (ps.zip [u]))
  (hbody:∀(A:Around)(outer:List Env)(s:Shared)(H:Hp)(f c':Addr),PE (B5 CX0 X.prog X.w X.K X.mg X.base N qual scope f (.ref c') A outer s H E0) body te)
  (he:backTo pos (starEach [e] X.env)=(false,eval e X.env)::backTo pos (starEach [] X.env):=by rfl) (hn:(backTo pos (starEach [e] X.env)).any (·.1)=false:=by rfl) :
  PE X (.Call (.Name "sorted" p) [e] [⟨some "key",.Lambda params body scope lp,kp⟩] pos) (RA X.K X.mg N qual params body scope te ta tl):=by
 intro pins s σ H Q I h;refine wpAny_Call_Name_kw (Dz I hg hm (by rfl) ?_);refine PyProof.Rows.callWith_kw (thn (ha pos pins s σ H _ I h) λ us s1 ⟨vs,H1,I1,r1,q1⟩=>?_) he hn;refine PyProof.Rows.kws_cons (thn (hl pins s1 σ H1 _ I1 q1) λ fv s2 ⟨y,H2,I2,ry,q2⟩=>PyProof.Rows.kws_nil ?_);obtain⟨f,c',l,ctv,β,ts,kt,m,key,rfl,hf,hc,rfl,hp,h64,hk,hte,hkey,q⟩:=q2;obtain⟨u,rfl,ru⟩:=Ft r1;cases ru;cases ry;obtain⟨its,rv,pl,hz⟩:=I2.list hp;have hits:its=ts.map λ t=>Value.ref t.1:=by
  have:=DC (ts:=ts.map (·.1)) (its:=its) (by rw[List.map_map];exact rv);rw[this,List.map_map];rfl
 have hlen:its.length=ts.length:=by rw[hits,List.length_map]
 show wpAny (model X.prog X.w) X.A (call (.builtin "sorted") [.ref l] [(Str.ofString "key",.ref f)]) _ _ s2;refine call_function_entry_kw kind_sorted plain_sorted entry_sorted (ksk_s1 _ _) ?_;unfold Builtin.«sorted»;refine wpAny_bind (m:=checkCount "sorted" 1 1 _) (wpAny_pure ?_);refine wpAny_bind (collect_list pl.isList ?_ (by rw[sizeLine_eq];lia));refine wpAny_bind (wpAny_newList ?_ (by rw[sizeLine_eq];lia));have hsz:((s2.heap.push (seqObj "list" #[] 0)).update s2.heap.objs.size (Obj.mapSeq (·++its.toArray))).objs.size=s2.heap.objs.size+1:=by
  rw[Heap.size_update,size_push']
 have hoL:(((s2.heap.push (seqObj "list" #[] 0)).update s2.heap.objs.size (Obj.mapSeq (·++its.toArray))).push (seqObj "list" its.toArray 0)).get? (s2.heap.objs.size+1)=some (seqObj "list" its.toArray 0):=by
  rw[<-hsz];exact Heap.get?_push_size _ rfl
 have keep:∀b o,s2.heap.get? b=some o->(((s2.heap.push (seqObj "list" #[] 0)).update s2.heap.objs.size (Obj.mapSeq (·++its.toArray))).push (seqObj "list" its.toArray 0)).get? b=some o:=λ b o q=>by
  have hlt:b<s2.heap.objs.size:=Heap.lt_size q;rw[Heap.get?_push_ne _ _ _ (by rw[hsz];exact Nat.ne_of_lt (Nat.lt_succ_of_lt hlt)),Heap.get?_update_ne _ _ _ _ (Nat.ne_of_lt hlt),Heap.get?_push_ne _ _ _ (Nat.ne_of_lt hlt)];exact q
 obtain⟨a1,a2,a3,a4,a5,a6⟩:=I2.apart (D:=s2.heap.objs.size+1) (Nat.le_succ _);have I3:Inv X pins σ H2 { s2 with heap:=((s2.heap.push (seqObj "list" #[] 0)).update s2.heap.objs.size (Obj.mapSeq (·++its.toArray))).push (seqObj "list" its.toArray 0) }:=I2.kept (t':=s2.toks) keep;show wpAny _ _ _ _ _ { s2 with heap:=((s2.heap.push (seqObj "list" #[] 0)).update s2.heap.objs.size (Obj.mapSeq (·++its.toArray))).push (seqObj "list" its.toArray 0) };rw[hsz];refine wpAny_bind (wpAny_holding (wpAny_call_entry_kw slot_list_sort ⟨_,hoL,rfl⟩ entry_list_sort ?body (ksk_l1 _ _)))
 case body =>
  refine Ib (kts:=ts.map kt) (m:=m) (key:=key) I3 hoL a1 a2 a3 a4 a5 a6 (by rw[List.length_map,hlen]) (by lia) (λ t ht=>?_) (λ t ht u hu=>?_) (λ i v t pins' s' hv ht J=>?_) λ qq c s' pq sq J eD=>?_
  .obtain⟨t0,ht0,rfl⟩:=List.mem_map.mp ht;exact hk t0 ht0
  .obtain⟨t0,ht0,rfl⟩:=List.mem_map.mp ht;obtain⟨u0,hu0,rfl⟩:=List.mem_map.mp hu;exact hkey t0 ht0 u0 hu0
  .rw[List.getElem?_map]at ht;obtain⟨t0,ht0,rfl⟩:=Option.map_eq_some_iff.mp ht;rw[hits,List.getElem?_map,ht0]at hv;cases hv;have mem:=List.mem_of_getElem? ht0;exact RU (te:=te) (v:=.ref t0.1) (u:=.ref t0.1) J (J.env0.in1.in1) hf hc S ((hr.in1).in1) hps rfl (hb _ _ _ _ _) (hbody _ _ _ _ _ _) (hte t0 mem)
  .refine⟨_,rfl,wpAny_pure ⟨_,rfl,?_⟩⟩;rw[hlen]at pq;have inR:∀i∈qq.toList,i<ts.length:=λ i hi=>List.mem_range.mp (pq.mem_iff.mp hi);cases ts with
   |nil =>
    have e0:qq.toList=[]:=by
     have:=List.Perm.length_eq pq;exact List.length_eq_zero_iff.mp (by rw[this];rfl)
    rw[e0]at eD;refine⟨.ref (s2.heap.objs.size+1),_,J.track (o:=.lst []) a1 a2 a3 a5 a6 ⟨Nat.zero_le _,[],c,.nil,eD⟩,rfl,q _ [] a1 .nil .nil⟩
   |cons t0 tr =>
    have eV:qq.toList.map (λ i=>its.getD i Value.none)=(qq.toList.map λ i=>(t0::tr).getD i t0).map λ t=>Value.ref t.1:=by
     rw[List.map_map];refine List.map_congr_left λ i hi=>?_;have:=inR i hi;rw[hits];rw[List.getD_eq_getElem?_getD,List.getElem?_map,List.getElem?_eq_getElem this];show Value.ref _=Value.ref ((t0::tr).getD i t0).1;rw[List.getD_eq_getElem?_getD,List.getElem?_eq_getElem this];rfl
    rw[eV]at eD;have pick:=NK (z:=t0) pq;refine⟨.ref (s2.heap.objs.size+1),_,J.track (o:=.lst ((qq.toList.map λ i=>(t0::tr).getD i t0).map λ t=>V.ref t.1)) a1 a2 a3 a5 a6 ⟨?_,_,c,?_,eD⟩,rfl,q _ _ a1 pick.symm ?_⟩
    .rw[List.length_map,List.length_map,Array.length_toList,pq.size,sizeLine_eq];lia
    .generalize (qq.toList.map λ i=>(t0::tr).getD i t0)=zs;have:=Eb (zs.map (·.1));rw[List.map_map,List.map_map]at this;exact this
    .rw[List.map_map];have e4:qq.toList.map ((λ t:Addr×β=>key (kt t).2)∘λ i=>(t0::tr).getD i t0)=qq.toList.map λ i=>key ((((t0::tr).map kt).map (·.2)).getD i []):=by
      refine List.map_congr_left λ i hi=>?_;have:=inR i hi;show key (kt ((t0::tr).getD i t0)).2=_;rw[List.getD_eq_getElem?_getD,List.getElem?_eq_getElem this,List.getD_eq_getElem?_getD,List.getElem?_map,List.getElem?_map,List.getElem?_eq_getElem this];rfl
     rw[e4];exact sq
end
theorem K4{α β:Type}{f:α->β}{l m:List β}(h:l.Perm m):∀ts:List α,m=ts.map f->∃ts':List α,ts'.Perm ts/\l=ts'.map f:=by
 induction h with
 |nil =>
  intro ts e;rw[List.map_eq_nil_iff.mp e.symm];exact⟨[],.nil,rfl⟩
 |cons x p ih =>
  intro ts e;obtain⟨t,r,rfl,e1,e2⟩:=List.map_eq_cons_iff.mp e.symm;obtain⟨r',p',e'⟩:=ih r e2.symm;exact⟨t::r',p'.cons t,by rw[e',List.map_cons,e1]⟩
 |swap x y l =>
  intro ts e;obtain⟨t,r,rfl,e1,e2⟩:=List.map_eq_cons_iff.mp e.symm;obtain⟨u,q,rfl,e3,e4⟩:=List.map_eq_cons_iff.mp e2;exact⟨u::t::q,List.Perm.swap _ _ _,by rw[List.map_cons,List.map_cons,e1,e3,e4]⟩
 |trans p q ih1 ih2 =>
  intro ts e;obtain⟨t2,p2,e2⟩:=ih2 ts e;obtain⟨t1,p1,e1⟩:=ih1 t2 e2;exact⟨t1,p1.trans p2,e1⟩
def OZ(H:Hp)(key:List Int->Int):Value->Int
 |.ref a=>match H a with
  |some (.tup l)=>key (l.map λ v=>match v with|.int i=>i|_=>0)
  |_=>0
 |_=>0
theorem NY{H:Hp}{key:List Int->Int}{a:Addr}{ns:List Int}(h:H a=some (.tup (ns.map V.int))):OZ H key (.ref a)=key ns:=by
 show(match H a with|some (.tup l)=>key (l.map λ v=>match v with|.int i=>i|_=>0)|_=>0)=key ns;rw[h];show key ((ns.map V.int).map _)=key ns;rw[List.map_map];congr 1;exact List.map_id _
def PK(Ts:List Addr)(H:Hp):Prop:=(∀b,H b=none\/(∃o xs,H b=some (.frz o (.lst xs)))\/(b∈Ts/\H b=some (.tbl #[])))/\∀T∈Ts,H T=some (.tbl #[])
theorem Kd{h:Heap}{c T:Addr}(x:CodeHd h c T):isCodeTable h T:=by
 obtain⟨o,vs,file,tf,flags,tg,inF,text,tt,e1,e2,e3,e4,_⟩:=x;exact⟨c,o,vs,e1,e2,e3,e4⟩
theorem law_callT{P:Program}{w:World}{K:Frag}{mg mb:MGz}{CX:CXT}{k:Nat}{fa a:Addr}{fd:FuncData}{x:Str}{sp:Sp}{s₁:Shared}{vs:LWz}{ns:List Int}{Ts:List Addr}
  (KX:K.In s₁.heap) (hns:s₁.heap.Ns mainGlobals mg) (hb:s₁.heap.Ns builtinsNs mb) (hbb:∀x:Str,x≠"__name__"->mb x=bootBuiltins x) (hlim:s₁.heap.NoLimit) (hg:s₁.gens=#[])
  (ha:s₁.heap.get? a=some { cls:=.type "list",data:=.seq vs.toArray }) (hi:IntsAre vs ns) (hl:ns.length<=sizeLine) (hr:Room k callerA)
  (hT:∀T∈Ts,s₁.heap.get? T=some (tabObj #[])/\K.lookup T=none/\∃c,CodeHd s₁.heap c T)
  (F:∀base:Heap,K.In base->base.Ns mainGlobals mg->A5 P w K mg base CX k fa fd [x] sp) (hbind:∀(s:Shared)(u:Value),BindsTo s fd ⟨[u],[]⟩ [(x,u)])
  (hsp:∀H:Hp,PK Ts H->SqL K H a (ns.map V.int)->sp [.ref a] H (λ v _=>v=.bl true) λ_ _ _=>False)
  (hCX:∀H e s',CX [] H s₁ (λ_ _ _=>False) e s'->False) :
  codeAny (model P w) callerA (.call (.ref fa) ⟨[.ref a],[]⟩) (λ r s'=>r=.ok (.ret (.bool true))/\OldK s₁.heap s'.heap/\s'.os=s₁.os/\AllBare s'.gens) s₁:=by
 have rv:=Iw hi;have lenV:=hi.length;have core:∀H:Hp,PK Ts H->SqL K H a (ns.map V.int)->HOk P w H s₁.heap->(∀b,H b≠none->b=a\/b∈Ts)->(H a≠none->K.lookup a=none) ->
   codeAny (model P w) callerA (.call (.ref fa) ⟨[.ref a],[]⟩) (λ r s'=>r=.ok (.ret (.bool true))/\OldK s₁.heap s'.heap/\s'.os=s₁.os/\AllBare s'.gens) s₁:=by
  intro H hO hS hok hA hK;have base_of:∀{b:Addr}{o:Obj},s₁.heap.get? b=some o->H b=none->(JY s₁.heap H).get? b=some o:=λ e n=>Pe e n;have noA:∀{b:Addr}{o:Obj}{es:Array DictEntry}{ep:Nat},s₁.heap.get? b=some o->o.data=.dict es ep->H b=none:=λ{b o es ep} e d=>by
   cases q:H b with
   |none=>rfl
   |some u =>
    rcases hA b (by rw[q];simp) with e'|e'
    .subst e';rw[ha]at e;cases e;have d':Data.seq vs.toArray _=Data.dict es ep:=d;cases d'
    .rw[(hT b e').1]at e;cases e;cases d
  have nsK:∀{b:Addr}{m:MGz},s₁.heap.Ns b m->(JY s₁.heap H).Ns b m:=λ{b m} ⟨o,es,ep,e,d,r⟩=>⟨o,es,ep,base_of e (noA e d),d,r⟩;have hKb:K.In (JY s₁.heap H):=λ b o e=>base_of (KX b o e) (by
   cases q:H b with
   |none=>rfl
   |some u =>
    rcases hA b (by rw[q];simp) with e'|e'
    .subst e';rw[hK (by rw[q];simp)]at e;cases e
    .rw[(hT b e').2.1]at e;cases e)
  have hM:Mod K mg (JY s₁.heap H):=⟨hKb,nsK hns,⟨mb,nsK hb,hbb⟩,let ⟨mc,h1,h2⟩:=hlim;⟨mc,nsK h1,h2⟩⟩;have e0:Env0 P w K mg (JY s₁.heap H) callerA [] s₁ H:=⟨rfl,hM,λ b o e=>Q8 e,Nat.le_of_eq (Ob _ _),trivial,λ b hb=>absurd (show b∈([]:List Addr) from hb) (by simp),hok,.of_eq hg⟩;refine codeAny_mono ((F _ hKb (nsK hns)).run callerA [] s₁ H ⟨[.ref a],[]⟩ [.ref a] [.ref a] _ _ hr e0 (hbind s₁ (.ref a)) (.cons rfl .nil) (hsp H hO hS)) λ r s' h=>?_;cases r with
  |error e=>exact(hCX H e s' h).elim
  |ok fl =>
   cases fl with
   |next=>exact False.elim h
   |brk=>exact False.elim h
   |cont=>exact False.elim h
   |ret u =>
    obtain⟨v,H',os,bare,un,hok',r',q⟩:=h;have q':v=.bl true:=q;subst q';obtain rfl:u=Value.bool true:=r';have old:∀b o,s₁.heap.get? b=some o->asItWas s₁.heap s'.heap b o/\∃o',s'.heap.get? b=some o':=λ b o e=>by
     cases q:H b with
     |none =>
      have:=un.keep b o e q (by intro z;exact absurd (show b∈([]:List Addr) from z) (by simp)) (by simp);exact⟨.inl this,_,this⟩
     |some u =>
      rcases hO.1 b with z|⟨ob,xs,z⟩|⟨hb',z⟩
      .rw[q]at z;cases z
      .have z2:=un.frzs b ob _ z;obtain⟨e1,_⟩:=hok b _ z;obtain⟨e2,_⟩:=hok' b _ z2;rw[e]at e1;cases e1;exact⟨.inl e2,_,e2⟩
      .obtain⟨more,z2⟩:=un.tbls b #[] z;have e2:s'.heap.get? b=some (tabObj (#[]++more)):=hok' b _ z2;obtain⟨e1,_,c,hc⟩:=hT b hb';rw[e]at e1;cases e1;exact⟨.inr (.inl ⟨Kd hc,rfl,#[],more,rfl,e2⟩),_,e2⟩
    exact⟨rfl,⟨λ b o e=>(old b o e).1,λ b o e=>(old b o e).2⟩,os,bare⟩
 have aT:a∉Ts:=λ z=>by
  have e:=(hT a z).1;rw[ha]at e;cases e
 have tblT:∀T∈Ts,∀H:Hp,ObjOk P w H s₁.heap T (.tbl #[]):=λ T z H=>(hT T z).1;cases hk:K.lookup a with
 |some o =>
  have e:=KX a o hk;rw[ha]at e;cases e;refine core (λ b=>if b∈Ts then some (.tbl #[]) else none) ⟨λ b=>?_,λ T z=>if_pos z⟩ (.inr ⟨_,vs.toArray,_,hk,rfl,rfl,rfl,by rw[List.size_toArray,lenV];exact hl,by simpa using rv⟩) (λ b u z=>?_) (λ b z=>?_) λ z=>absurd (if_neg aT) z
  .by_cases hb:b∈Ts
   .exact .inr (.inr ⟨hb,if_pos hb⟩)
   .exact .inl (if_neg hb)
  .by_cases hb:b∈Ts
   .have z':=(if_pos hb).symm.trans z;cases z';exact tblT b hb _
   .have z':=(if_neg hb).symm.trans z;cases z'
  .by_cases hb:b∈Ts
   .exact .inr hb
   .exact absurd (if_neg hb) z
 |none =>
  refine core (λ b=>if b=a then some (.frz { cls:=.type "list",data:=.seq vs.toArray } (.lst (ns.map V.int))) else if b∈Ts then some (.tbl #[]) else none) ⟨λ b=>?_,λ T z=>?_⟩ (.inl (.inr ⟨{ cls:=.type "list",data:=.seq vs.toArray },if_pos rfl⟩)) (λ b u z=>?_) (λ b z=>?_) λ_=>hk
  .by_cases hb:b=a
   .exact .inr (.inl ⟨_,_,if_pos hb⟩)
   .by_cases hb2:b∈Ts
    .exact .inr (.inr ⟨hb2,(if_neg hb).trans (if_pos hb2)⟩)
    .exact .inl ((if_neg hb).trans (if_neg hb2))
  .have ne:¬T=a:=λ e=>aT (by rw[<-e];exact z);exact(if_neg ne).trans (if_pos z)
  .by_cases hb:b=a
   .have z':=(if_pos hb).symm.trans z;cases z';subst hb;exact⟨ha,by rw[List.length_map];exact hl,vs,_,rv,ha⟩
   .by_cases hb2:b∈Ts
    .have z':=((if_neg hb).trans (if_pos hb2)).symm.trans z;cases z';exact tblT b hb2 _
    .have z':=((if_neg hb).trans (if_neg hb2)).symm.trans z;cases z'
  .by_cases hb:b=a
   .exact .inl hb
   .by_cases hb2:b∈Ts
    .exact .inr hb2
    .exact absurd ((if_neg hb).trans (if_neg hb2)) z
theorem walk_ofT{l:OpenLaw}{n k:Nat}{q:Program}{loose:LSz}{XP:(MGz)->Heap->Prop}{YP:World->Heap->Prop}{d:DefRec}{K:Params->Frag}{CX:World->CXT}{sp:World->Sp}{x:Str}{Ts:List Addr}
  (hn:l.most=some n) (hn2:n<=sizeLine) (hdf:d.params.defaults=[]) (hr:Room k callerA)
  (hY:∀(w:World)(h:Heap),YP w h->(K w.params).In h) (hT:∀(w:World)(h:Heap),YP w h->∀T∈Ts,h.get? T=some (tabObj #[])/\(K w.params).lookup T=none/\∃c,CodeHd h c T)
  (F:∀(w:World)(mg:MGz)(fa:Addr)(h:Heap),(K w.params).In h->h.Ns mainGlobals mg->mg d.name=some (.ref fa) ->
   ∃fd:FuncData,(∀(s:Shared)(u:Value),BindsTo s fd ⟨[u],[]⟩ [(x,u)]) /\
    ∀base:Heap,(K w.params).In base->base.Ns mainGlobals mg->A5 l.prog w (K w.params) mg base (CX w) k fa fd [x] (sp w))
  (hsp:∀(w:World)(H:Hp)(a:Addr)(ns:List Int),ns.length<=n->PK Ts H->SqL (K w.params) H a (ns.map V.int)->sp w [.ref a] H (λ v _=>v=.bl true) λ_ _ _=>False)
  (hCX:∀(w:World)(H:Hp)(s:Shared)(e:Value)(s':Shared),CX w [] H s (λ_ _ _=>False) e s'->False) :
  WalkO q loose XP YP l.row.toRowW d [] (λ f vs=>PySem.call f vs):=by
 refine Att.attach_call hn hdf λ w s₀ s₁ mg mb fa o pm cd doc a vs ns G Y ho hd hcd hmg hobj hints hlen hg=>?_;have KX:=hY w _ Y;obtain⟨fd,hb,hF⟩:=F w mg fa _ KX G.T.g hmg;exact law_callT KX G.T.g G.T.b G.T.builtins G.T.nolimit hg hobj hints (Nat.le_trans hlen hn2) hr (hT w _ Y) hF hb (λ H hO hS=>hsp w H a ns hlen hO hS) λ H e s'=>hCX w H s₁ e s'
structure FunC(K:Frag)(x qual:Str)(st:Stmt)(f:Addr)(fd:FuncData)(c:Addr):Prop where
 ex:∃(oc:Value)(od:Option Addr)(kV doc pm:Value)(an:Option Addr)(ct:Value)(osl:AOz),
  fd=fnOf x qual (Bh st) (A4 st) (Af st) .none kV doc pm an (.ref c) ct/\K.lookup f=some ⟨oc,od,.func fd,osl⟩/\codeIn K (.ref c) qual=true
 kp:keepIn K (.ref f)=true
section
variable{P:Program}{w:World}{K:Frag}{mg:MGz}{base:Heap}{x qual:Str}{st:Stmt}{f c:Addr}{fd:FuncData}{N ps:LSz}{k:Nat}{sp:Sp}
theorem FunC.fn(F:FunC K x qual st f fd c):Fun K x qual st f fd:=by
 obtain⟨oc,od,kV,doc,pm,an,ct,osl,e,lk,hcd⟩:=F.ex;exact⟨⟨oc,od,kV,doc,pm,an,.ref c,ct,osl,e,lk,hcd⟩,F.kp⟩
theorem Ng{oc:Value}{od an:Option Addr}{osl:AOz}{kV doc pm cdv ct:Value}(l:K.lookup f=some ⟨oc,od,.func (fnOf x qual (Bh st) (A4 st) (Af st) .none kV doc pm an cdv ct),osl⟩)
  (cc:codeIn K cdv qual=true) (kp:keepIn K (.ref f)=true) (e:cdv=.ref c):FunC K x qual st f (fnOf x qual (Bh st) (A4 st) (Af st) .none kV doc pm an cdv ct) c:=by
 subst e;exact⟨⟨oc,od,kV,doc,pm,an,ct,osl,rfl,l,cc⟩,kp⟩
end
def Fn(K:Frag)(c T:Addr):Bool:=match K.lookup c with
 |some o=>match o.data with
  |.fields vs=>(o.cls==.type "code")&&(vs[11]?==some (.ref T))&&(match vs.getD 18 .none with|.str _ _=>true|_=>false)&&(match vs.getD 7 .none with|.int _ _=>true|_=>false)&&(match vs.getD 9 .none with|.bool _=>true|_=>false)&&(match vs.getD 10 .none with|.int _ _=>true|_=>false)&&(c != T)
  |_=>false
 |none=>false
theorem codeTB_of{K:Frag}{c T:Addr}(h:Fn K c T=true):∀hp:Heap,K.In hp->CodeHd hp c T:=λ hp KX=>by
 unfold Fn at h;cases e:K.lookup c with
 |none=>rw[e]at h;cases h
 |some o =>
  rw[e]at h;cases d:o.data with
  |fields vs =>
   simp only[d,Bool.and_eq_true]at h;obtain⟨⟨⟨⟨⟨⟨h1,h2⟩,h3⟩,h4⟩,h5⟩,h6⟩,h7⟩:=h;have h2:vs[11]?=some (.ref T):=eq_of_beq h2;have e18:∃a b,vs.getD 18 .none=.str a b:=by
    generalize vs.getD 18 .none=v at h3;cases v with
    |str a b=>exact⟨a,b,rfl⟩
    |_=>cases h3
   have e7:∃a b,vs.getD 7 .none=.int a b:=by
    generalize vs.getD 7 .none=v at h4;cases v with
    |int a b=>exact⟨a,b,rfl⟩
    |_=>cases h4
   have e9:∃a,vs.getD 9 .none=.bool a:=by
    generalize vs.getD 9 .none=v at h5;cases v with
    |bool a=>exact⟨a,rfl⟩
    |_=>cases h5
   have e10:∃a b,vs.getD 10 .none=.int a b:=by
    generalize vs.getD 10 .none=v at h6;cases v with
    |int a b=>exact⟨a,b,rfl⟩
    |_=>cases h6
   obtain⟨f1,f2,e18⟩:=e18;obtain⟨g1,g2,e7⟩:=e7;obtain⟨i1,e9⟩:=e9;obtain⟨t1,t2,e10⟩:=e10;refine⟨o,vs,f1,f2,g1,g2,i1,t1,t2,KX c o e,eq_of_beq h1,d,h2,?_,e18,e7,e9,e10,?_⟩
   .rw[Array.getD_eq_getD_getElem?,h2];rfl
   .intro z;rw[z]at h7;simp at h7
  |_=>simp only[d]at h;cases h
def SameN(H H':Hp):Prop:=∀a o,H a=some o->(∀ps,o≠.tbl ps)->H' a=some o
theorem SameN.refl(H:Hp):SameN H H:=λ_ _ e _=>e
theorem SameN.trans{H H1 H2:Hp}(a:SameN H H1)(b:SameN H1 H2):SameN H H2:=λ x o e n=>b x o (a x o e n) n
theorem Same.n{H H':Hp}(s:Same H H'):SameN H H':=λ a o e _=>s a o e
theorem SameN.tup{H H':Hp}(s:SameN H H'){a:Addr}{xs:LUz}(e:H a=some (.tup xs)):H' a=some (.tup xs):=s a _ e λ_ z=>nomatch z
theorem SameN.lst{H H':Hp}(s:SameN H H'){a:Addr}{xs:LUz}(e:H a=some (.lst xs)):H' a=some (.lst xs):=s a _ e λ_ z=>nomatch z
def TabOk(pos:Pos)(qual:Str)(T:Addr)(H:Hp):Prop:=∃ps,H T=some (.tbl ps)/\TriplesOk ps.toList/\(codeAmong pos ps.toList=none\/∃c',codeAmong pos ps.toList=some (.ref c')/\H c'=some (Cf c' qual))
theorem TabOk.same{pos:Pos}{qual:Str}{T:Addr}{H H':Hp}(h:TabOk pos qual T H)(s:Same H H'):TabOk pos qual T H':=by
 obtain⟨ps,e,t,c⟩:=h;refine⟨ps,s _ _ e,t,?_⟩;rcases c with c|⟨c',c1,c2⟩
 .exact .inl c
 .exact .inr ⟨c',c1,s _ _ c2⟩
theorem TabOk.new{pos:Pos}{qual:Str}{T:Addr}{H:Hp}(h:H T=some (.tbl #[])):TabOk pos qual T H:=⟨#[],h,trivial,.inl rfl⟩
theorem Ep{a b c:Int}{t u:Tok}{v:Value}:∀(l:LWz),TriplesOk l->TriplesOk (l++[.int a t,.int b u,v])
 |[],_=>trivial
 |.int _ _::.int _ _::_::rest,h=>Ep (c:=c) rest h
section
variable{X:Cx}
def PM(X:Cx)(A:Around)(σ:St)(H:Hp)(kvs:LUz)(kd:SortKind)(κ:Value->Int):Prop:=∀(ks:LWz)(pins:PNz)(s:Shared),Vals kvs ks->Inv X pins σ H s ->
 (∀(C:SortKind->Shared->Prop)(E:VPz),2<=ks.length->C kd s->wpAny (model X.prog X.w) A (keyKind' ks.toArray) C E s) /\
 ∀x∈ks,∀y∈ks,∀C:Bool->Shared->Prop,C (decide (κ x<κ y)) s->wpAny (model X.prog X.w) A (keyLt' kd x y) C (λ_ _=>False) s
end
abbrev PR:=Addr×Addr×List Int×V
def OY(H:Hp)(key:List Int->Int):Value->Int
 |.ref a=>match H a with
  |some (.tup (.ref p::_))=>OZ H key (.ref p)
  |_=>0
 |_=>0
theorem Fb{H:Hp}{key:List Int->Int}{a p:Addr}{ns:List Int}{v:V}(h:H a=some (.tup [.ref p,v]))(h2:H p=some (.tup (ns.map V.int))):OY H key (.ref a)=key ns:=by
 show(match H a with|some (.tup (.ref p::_))=>OZ H key (.ref p)|_=>0)=key ns;rw[h];exact NY h2
def Bc:List Int->Ds
 |[]=>.nil
 |i::r=>.cons (.at (.int i)) (Bc r)
theorem Fd{K:Frag}{H:Hp}:∀(ns:List Int),DIss K H (Bc ns) (ns.map V.int)
 |[]=>by
  show DIss K H .nil [];rw[DIss]
 |i::r=>by
  show DIss K H (.cons (.at (.int i)) (Bc r)) (.int i::r.map V.int);rw[DIss];exact⟨_,_,rfl,by rw[DIs];exact⟨rfl,rfl⟩,Fd r⟩
theorem GZ:∀(ns:List Int),Be (Bc ns)=0
 |[]=>by rw[Bc,Be]
 |i::r=>by rw[Bc,Be,dep,GZ r];rfl
theorem IS:∀(ns ms:List Int),Bd (Bc ns) (Bc ms)=decide (ns=ms)
 |[],[]=>by rw[Bc,Bd,decide_eq_true rfl]
 |[],j::q=>by rw[Bc,Bc,Bd,decide_eq_false (by intro z;cases z)]<;>(intros;contradiction)
 |i::r,[]=>by rw[Bc,Bc,Bd,decide_eq_false (by intro z;cases z)]<;>(intros;contradiction)
 |i::r,j::q=>by
  rw[Bc,Bc,Bd,IS r q,deq];by_cases h:i=j
  .subst h;by_cases h2:r=q
   .subst h2;simp[eqV]
   .rw[decide_eq_false h2,decide_eq_false (λ z=>h2 (List.cons.inj z).2),Bool.and_false]
  .rw[decide_eq_false (λ z=>h (List.cons.inj z).1)];have:eqV (.int i) (.int j)=false:=by simp[eqV,h]
   rw[this];rfl
theorem EB{h:Heap}:∀{ts:List PR},(∀t∈ts,∃m,IsTup h t.1 #[.ref t.2.1,m])->KatTups h (ts.map λ t=>Value.ref t.1) (ts.map λ t=>Value.ref t.2.1)
 |[],_=>KatTups.nil
 |t::r,hh=>by
  obtain⟨m,o,ho,hc,n,hd⟩:=hh t List.mem_cons_self;exact KatTups.cons ho hc hd rfl (EB λ u hu=>hh u (List.mem_cons_of_mem _ hu))
theorem KZ{X:Cx}{A:Around}{σ:St}{H:Hp}{ts:List PR}{m:Nat}{key:List Int->Int}(hu:A.units+8<cLine)(ht:∀t∈ts,H t.1=some (.tup [.ref t.2.1,t.2.2.2])/\H t.2.1=some (.tup (t.2.2.1.map V.int))/\t.2.2.1.length=m+1/\B9 t.2.2.2=true)
  (hkey:∀t∈ts,∀u∈ts,HT.lexLt t.2.2.1 u.2.2.1=decide (key t.2.2.1<key u.2.2.1)) (huq:∀t∈ts,∀u∈ts,t.2.2.1=u.2.2.1->t=u):PM X A σ H (ts.map λ t=>V.ref t.1) (tuples' false) (OY H key):=λ ks pins s rk I=>by
 have hks:ks=ts.map λ t=>Value.ref t.1:=by
  have:=DC (ts:=ts.map (·.1)) (its:=ks) (by rw[List.map_map];exact rk);rw[this,List.map_map];rfl
 subst hks;have tup:∀t∈ts,(∃mv,RelV t.2.2.2 mv/\IsTup s.heap t.1 #[.ref t.2.1,mv])/\∃items,IsTup s.heap t.2.1 items/\IntsAre items.toList t.2.2.1:=λ t htm=>by
  obtain⟨h1,h2,_,_⟩:=ht t htm;obtain⟨_,zs,rz,tz⟩:=(show ObjOk X.prog X.w H s.heap t.1 (.tup [.ref t.2.1,t.2.2.2]) from I.hok _ _ h1);obtain⟨_,zs2,rz2,tz2⟩:=(show ObjOk X.prog X.w H s.heap t.2.1 (.tup (t.2.2.1.map V.int)) from I.hok _ _ h2);obtain⟨u1,u2,rfl,r1,r2⟩:=MA rz;cases r1;exact⟨⟨u2,r2,tz⟩,_,tz2,by simpa using Ha rz2⟩
 refine⟨λ C E h2 hc=>?_,λ x hx y hy C hc=>?_⟩
 .rw[List.length_map]at h2;refine kat_kind (T:=Value.type "tuple") (EB λ t htm=>let ⟨⟨mv,_,z⟩,_⟩:=tup t htm;⟨mv,z⟩) (by rw[List.length_map];lia) (λ v hv=>?_) (by decide) hc;obtain⟨t,htm,rfl⟩:=List.mem_map.mp hv;obtain⟨_,items,⟨o,ho,hcl,_⟩,_⟩:=tup t htm;rw[<-hcl];exact(Looks.ld ho).andThen .now
 .obtain⟨t,mt,rfl⟩:=List.mem_map.mp hx;obtain⟨u,mu,rfl⟩:=List.mem_map.mp hy;obtain⟨⟨m1,q1,o1,g1,c1,n1,d1⟩,i1,tp1,z1⟩:=tup t mt;obtain⟨⟨m2,q2,o2,g2,c2,n2,d2⟩,i2,tp2,z2⟩:=tup u mu;obtain⟨a1,a2,a3,a4⟩:=ht t mt;obtain⟨b1,b2,b3,b4⟩:=ht u mu;rw[Fb a1 a2,Fb b1 b2,<-hkey t mt u mu]at hc;refine kat_lt g1 d1 g2 d2 ?_;have D1:∀ns,H t.2.1=some (.tup (ns.map V.int))->DIs X.K H (.tup (Bc ns)) (.ref t.2.1):=λ ns h=>by
   rw[DIs];exact⟨_,_,rfl,SqT.of h,Fd ns⟩
  have D2:DIs X.K H (.tup (Bc u.2.2.1)) (.ref u.2.1):=by
   rw[DIs];exact⟨_,_,rfl,SqT.of b2,Fd _⟩
  have dp:dep (.tup (Bc t.2.2.1))<=1:=by rw[dep,GZ];lia
  have eqp:SeqAt.EqAt A s (.ref t.2.1) (.ref u.2.1) (decide (t.2.2.1=u.2.2.1)):=by
   have:=Ms I 1 A (.tup (Bc t.2.2.1)) (.tup (Bc u.2.2.1)) (.ref t.2.1) (.ref u.2.1) (.ref t.2.1) (.ref u.2.1) dp (D1 _ a2) D2 rfl rfl (by lia);rwa [deq,IS]at this
  show KatLex X.prog X.w A false (decide ((#[Value.ref t.2.1,m1]:Array Value).size<(#[Value.ref u.2.1,m2]:Array Value).size)) C [(Value.ref t.2.1,Value.ref u.2.1),(m1,m2)] 0 s;refine kat_cons (eqp _ _ _ _ (kat_go (λ e=>kat_yes ?_) λ e=>kat_no ?_))
  .obtain rfl:=huq t mt u mu (of_decide_eq_true e);have eqm:SeqAt.EqAt A s m1 m2 true:=by
    have dm:DIs X.K H (.at t.2.2.2) t.2.2.2:=by rw[DIs];exact⟨rfl,a4⟩
    have:=Ms I 0 A (.at t.2.2.2) (.at t.2.2.2) t.2.2.2 t.2.2.2 m1 m2 (by rw[dep];lia) dm dm q1 q2 (by lia);rwa [Cd _ dm]at this
   refine kat_cons (eqm _ _ _ _ (kat_yes (kat_nil ?_)));have:HT.lexLt t.2.2.1 t.2.2.1=false:=by rw[hkey t mt t mt];exact decide_eq_false (by lia)
   rw[this]at hc;exact hc
  .rw[show(false&&(0==0))=false from rfl];exact kat_one _ _ (HT.lt_tupInts tp1 tp2 z1 z2 (by lia) hc)
end L2
namespace HT
open PySem.W
open PySem PySem.Spec PyProof.Rows
section
variable{prog:Program}{w:World}{A:Around}{s:Shared}{E:VPz}
theorem cat_tup0{t b:Addr}{vs ws:LWz}{Q:VPz}(ht:IsTup s.heap t vs.toArray)(hb:IsTup s.heap b ws.toArray)(hv:vs=[])
  (h:Q (.ref b) s):wpAny (model prog w) A (binaryOp .Add (.ref t) (.ref b)) Q E s:=by
 obtain⟨⟨cls,dd,data,sl⟩,ho,hc,n,hd⟩:=id ht;obtain⟨⟨cls2,dd2,data2,sl2⟩,ho2,hc2,n2,hd2⟩:=id hb;simp only at hc hd hc2 hd2;subst hc hd hc2 hd2;exact concat_meets ⟨_,ho,rfl⟩ ⟨_,ho2,rfl⟩ noFill_tuple_add seq_tuple_add PySem.F.slot_tuple_add PySem.F.entry_tuple_add (PySem.F.args_tuple_add_2 _ _)
   (tuple_addW0 t b vs.toArray ws.toArray n n2 dd dd2 sl sl2 (by simp[hv])) ⟨ho,ho2,h⟩
theorem getItem_tuple_all{t sl:Addr}{items:Array Value}{vl vu:Value}{lo hi:Option Int}{Q:VPz}(ht:IsTup s.heap t items)(hs:s.heap.IsSliceOf sl vl vu .none)(pl:IsPart vl lo)(pu:IsPart vu hi)
  (h1:sIx items.size 0 lo=0) (h2:sIx items.size items.size hi=items.size)
  (h:Q (.ref t) s):wpAny (model prog w) A (getItem (.ref t) (.ref sl)) Q E s:=by
 obtain⟨os,hos,hcs,hds⟩:=id hs;have hTs:s.TypeIs (.ref sl) "slice":=⟨os,hos,hcs⟩;unfold getItem
 try with_reducible refine wpAny_holding ?_
 first|refine wpAny_bind (wpAny_pure ?_)|skip
 refine wpAny_bind (wpAny_sequenceKey ht.typeIs (by decide) ?_);refine wpAny_bind (wpAny_callSpecial?_slot (name:=Str.ofString "__getitem__") ht.typeIs PyProof.Rows.slot_tuple_getitem
  (wpAny_call_entry PyProof.Rows.slot_tuple_getitem ht.typeIs entry_tuple_getitem ?_ (args_tuple_getitem _ _)))
 show wpAny _ _ (Builtin.Tuple.tupleItemsOf (.ref t) >>= _) _ _ s;refine wpAny_bind (tupleItemsOf_ ht ?_);refine wpAny_bind (wpAny_typeOf hTs ?_);rw[if_pos (by decide)];refine wpAny_bind (C1 hs pl pu ?_);have hyes:(((sIx items.size 0 lo:Nat):Int)==0&&(1:Int)==1&&(sIx items.size items.size hi-sIx items.size 0 lo)==items.size)=true:=by
  rw[h1,h2];simp
 show wpAny _ _ (if (((sIx items.size 0 lo:Nat):Int)==0&&(1:Int)==1&&(sIx items.size items.size hi-sIx items.size 0 lo)==items.size)=true then _ else _) _ _ s;rw[if_pos hyes];refine wpAny_bind (m:=Builtin.Tuple.tupleIsExact _) (wpAny_bind (wpAny_typeOf ht.typeIs (wpAny_pure ?_)));rw[if_pos (by decide)]
 first
  |exact wpAny_bind (wpAny_rule (wpAny_bind (wpAny_pure (wpAny_pure ⟨_,rfl,wpAny_pure h⟩))))
  |exact wpAny_bind (wpAny_rule (wpAny_pure ⟨_,rfl,wpAny_pure h⟩))
  |exact wpAny_bind (wpAny_rule (wpAny_bind (wpAny_pure ⟨_,rfl,wpAny_pure h⟩)))
end
end HT
namespace L2
open PySem.W
open PySem PySem.Spec PyProof.Rows
section
variable{X:Cx}
def Rq(K:Frag):R2:=λ x y H Q=>∃a b xs ys,x=.ref a/\y=.ref b/\SqT K H a xs/\H b=some (.tup ys)/\ys≠[]/\xs.length+ys.length<=sizeLine /\
 ∀p H',Same H H'->H' p=some (.tup (xs++ys))->Q (.ref p) H'
theorem Ck:OpR X (binaryOp .Add) (Rq X.K):=by
 intro pins s σ H x y v u Q I rx ry h;obtain⟨a,b,xs,ys,rfl,rfl,ha,hb,hy,hz,q⟩:=h;by_cases hx:xs=[]
 .cases rx;cases ry;obtain⟨its,r1,p1,_⟩:=I.tuple ha;obtain⟨its2,r2,p2,_⟩:=I.tuple (SqT.of hb);exact HT.cat_tup0 p1 p2 (r1.nil_iff.mpr hx) ⟨.ref b,H,I,rfl,q b H (Same.refl H) (by rw[hx];exact hb)⟩
 .exact Q5 pins s σ H (.ref a) (.ref b) v u Q I rx ry ⟨a,b,xs,ys,rfl,rfl,ha,SqT.of hb,hx,hz,λ z=>absurd z hy,λ_ p hp=>q p _ (Same.new hp) upd_same⟩
def TB:V->Option Int->Option Int->Hp->VK->Prop:=λ x lo hi H Q=>∃a xs,x=.ref a/\H a=some (.tup xs) /\
 ∀p H',Same H H'->H' p=some (.tup (Fk xs lo hi))->Q (.ref p) H'
theorem MH:SlR X TB:=by
 intro pins s σ H x v vl vu lo hi sl Q I rx hs pl pu h;obtain⟨a,xs,rfl,hx,q⟩:=h;by_cases hw:HT.sIx xs.length 0 lo=0/\HT.sIx xs.length xs.length hi=xs.length
 .cases rx;obtain⟨its,r,ht,hz⟩:=I.tuple (SqT.of hx);have hlen:its.toArray.size=xs.length:=by rw[List.size_toArray];exact r.length.symm
  refine⟨"tuple",_,PyProof.Rows.slot_tuple_getitem.lookup,ht.typeIs,?_⟩;refine HT.getItem_tuple_all ht hs pl pu (by rw[hlen];exact hw.1) (by rw[hlen];exact hw.2) ⟨.ref a,H,I,rfl,q a H (Same.refl H) ?_⟩;unfold Fk;rw[hw.1,hw.2,List.drop_zero,Nat.sub_zero,List.take_length];exact hx
 .exact RE pins s σ H (.ref a) v vl vu lo hi sl Q I rx hs pl pu ⟨a,xs,rfl,SqT.of hx,hw,λ p hp=>q p _ (Same.new hp) upd_same⟩
end
theorem RD{n:Nat}(h:n<=30000):n<sizeLine:=Nat.lt_of_le_of_lt h (by decide)
section
variable{P:Program}{w:World}{K:Frag}{mg:MGz}{base:Heap}{x qual:Str}{st:Stmt}{f c:Addr}{fd:FuncData}{N ps:LSz}{k:Nat}{sp:Sp}
theorem FunC.ok(F:FunC K x qual st f fd c)(S:Am N ps (Af st))(len:∀vs H Q E,sp vs H Q E->vs.length=ps.length)
  (hbody:∀(A:Around)(outer:List Env)(s:Shared)(H:Hp)(vs:LUz)(Q:VK)(E:XK),Room k (A.deeper (envOfC qual (Af st) s.heap.objs.size f (.ref c)))->sp vs H Q E ->
   ∃t,PSs (B5 CX0 P w K mg base N qual (Af st) f (.ref c) A outer s H E).nox (A4 st) t/\t { nx:=λ_ H'=>Q .non H',rt:=Q } (BL N vs) H):A5 P w K mg base CX0 (k+1) f fd ps sp:=by
 obtain⟨oc,od,kV,doc,pm,an,ct,osl,rfl,lk,hcd⟩:=F.ex;refine Nk lk hcd S len λ A outer s H vs Q E hr hsp=>?_;obtain⟨t,h,q⟩:=hbody A outer s H vs Q E hr hsp;exact⟨t,h.nox,q⟩
end
def tkd(H:Hp)(L:PNz):Hp:=λ a=>match L.lookup a with|some o=>some (Bz a o)|none=>H a
def utk(H:Hp)(L:PNz):Hp:=λ a=>match L.lookup a with|some _=>none|none=>H a
section
variable{P:Program}{w:World}{H H':Hp}{h h':Heap}{a:Addr}{o:Obj}{L:PNz}{fs:List Addr}
theorem Gf(e:L.lookup a=some o):tkd H L a=some (Bz a o):=by unfold tkd;rw[e]
theorem AJ(e:L.lookup a=none):tkd H L a=H a:=by unfold tkd;rw[e]
theorem EM(e:L.lookup a=some o):utk H L a=none:=by unfold utk;rw[e]
theorem Bl(e:L.lookup a=none):utk H L a=H a:=by unfold utk;rw[e]
theorem BP(e:H a=none):utk H L a=none:=by
 cases q:L.lookup a with
 |none=>rw[Bl q];exact e
 |some o=>exact EM q
theorem Eg{u:HO}(hL:∀a o,L.lookup a=some o->H a=none)(e:H a=some u):L.lookup a=none:=by
 cases q:L.lookup a with
 |none=>rfl
 |some o=>rw[hL a o q]at e;cases e
theorem DH{u:HO}(hL:∀a o,L.lookup a=some o->H a=some (Bz a o))(e:H a=some u)(n:∀o,u≠Bz a o):L.lookup a=none:=by
 cases q:L.lookup a with
 |none=>rfl
 |some o=>rw[hL a o q]at e;cases e;exact absurd rfl (n o)
theorem HOk.tkd(hok:HOk P w H h)(hL:∀a o,L.lookup a=some o->H a=none)(hc:∀a o,L.lookup a=some o->h.get? a=some o):HOk P w (tkd H L) h:=λ a u e=>by
 cases q:L.lookup a with
 |some o =>
  rw[Gf q]at e;cases e;exact JQ (hc a o q)
 |none =>
  rw[AJ q]at e;exact(hok a u e).stay (λ_ _ _ z=>z) (λ b z=>by rw[AJ (Eg hL z)];exact z) (λ b xs z=>by rw[AJ (Eg hL z)];exact z)
theorem HOk.utk(hok:HOk P w H h)(hL:∀a o,L.lookup a=some o->H a=some (Bz a o)):HOk P w (utk H L) h:=λ a u e=>by
 cases q:L.lookup a with
 |some o=>rw[EM q]at e;cases e
 |none =>
  rw[Bl q]at e;exact(hok a u e).stay (λ_ _ _ z=>z) (λ b z=>by rw[Bl (DH hL z (λ_ z=>nomatch z))];exact z) (λ b xs z=>by rw[Bl (DH hL z (λ_ z=>nomatch z))];exact z)
theorem Un.utk(u:Un fs [] (L2.tkd H L) H' h h')(hok:HOk P w H' h')(hL:∀a o,L.lookup a=some o->H a=none)(hc:∀a o,L.lookup a=some o->h.get? a=some o)(hf:∀a o,L.lookup a=some o->a∉fs)(hk:∀a o,L.lookup a=some o->H' a=some (Bz a o)):Un fs [] H (L2.utk H' L) h h' where
 keep b o q n nf nx:=by
  cases e:L.lookup b with
  |some o' =>
   rw[hc b o' e]at q;cases q;exact(hok b _ (hk b o e)).1
  |none=>exact u.keep b o q (by rw[AJ e];exact n) nf nx
 slot b o q n hb nx:=by
  cases e:L.lookup b with
  |some o'=>exact absurd hb (hf b o' e)
  |none=>exact u.slot b o q (by rw[AJ e];exact n) hb nx
 free b o q n nx:=by
  cases e:L.lookup b with
  |some o'=>exact EM e
  |none=>rw[Bl e];exact u.free b o q (by rw[AJ e];exact n) nx
 there b o q nx:=u.there b o q nx
 tups b xs e:=by
  have n:=Eg hL e;rw[Bl n];exact u.tups b xs (by rw[AJ n];exact e)
 frzs b o v e:=by
  have n:=Eg hL e;rw[Bl n];exact u.frzs b o v (by rw[AJ n];exact e)
 tbls b ps e:=by
  have n:=Eg hL e;rw[Bl n];exact u.tbls b ps (by rw[AJ n];exact e)
theorem Un.tkd(u:Un fs [] (L2.utk H L) H' h h')(hL:∀a o,L.lookup a=some o->H a=some (Bz a o)):Un fs [] H (L2.tkd H' L) h h':=by
 have out:∀{b},H b=none->L.lookup b=none:=λ{b} n=>by
  cases e:L.lookup b with
  |none=>rfl
  |some o=>rw[hL b o e]at n;cases n
 exact {
  keep:=λ b o q n nf nx=>u.keep b o q (BP n) nf nx
  slot:=λ b o q n hb nx=>u.slot b o q (BP n) hb nx
  free:=λ b o q n nx=>by rw[AJ (out n)];exact u.free b o q (BP n) nx
  there:=λ b o q nx=>u.there b o q nx
  tups:=λ b xs e=>by
   have n:=DH hL e (λ_ z=>nomatch z);rw[AJ n];exact u.tups b xs (by rw[Bl n];exact e)
  frzs:=λ b o v e=>by
   have n:=DH hL e (λ_ z=>nomatch z);rw[AJ n];exact u.frzs b o v (by rw[Bl n];exact e)
  tbls:=λ b ps e=>by
   have n:=DH hL e (λ_ z=>nomatch z);rw[AJ n];exact u.tbls b ps (by rw[Bl n];exact e) }
end
def FvOk(P:Program)(w:World)(K:Frag)(mg:MGz)(base:Heap)(k:Nat)(H:Hp)(f:Addr)(sp:Sp):Prop :=
 (∃o fd,H f=some (Bz f o)/\o.data=.func fd)/\∀(A:Around)(outer:List Env)(s:Shared)(H':Hp)(us:LWz)(vs:LUz)(Q:VK)(E:XK),Same H H'->Room k A->Env0 P w K mg base A outer s H'->Vals vs us->sp vs H' Q E ->
  codeAny (model P w) A (.call (.ref f) ⟨us,[]⟩) (CR CX0 outer P w H' s Q E) s
theorem FvOk.same{P:Program}{w:World}{K:Frag}{mg:MGz}{base:Heap}{k:Nat}{H H':Hp}{f:Addr}{sp:Sp}(h:FvOk P w K mg base k H f sp)(s:Same H H'):FvOk P w K mg base k H' f sp :=
 ⟨let ⟨o,fd,e,d⟩:=h.1;⟨o,fd,s _ _ e,d⟩,λ A outer sh H2 us vs Q E s2=>h.2 A outer sh H2 us vs Q E (s.trans s2)⟩
def tFv(P:Program)(w:World)(K:Frag)(mg:MGz)(base:Heap)(k:Nat)(tv:TE)(t:TA):TE:=λ σ H Q=>tv σ H λ v H1=>∃f sp,v=.ref f/\FvOk P w K mg base k H1 f sp/\t σ H1 λ vs H2=>Same H1 H2/\sp vs H2 Q E0
section
variable{X:Cx}{k j:Nat}{y:Str}{p pos:Pos}{e:Expr}{es:List Expr}{tv:TE}{t:TA}
theorem S8(hr:Room j X.A)(hv:PE X (.Name y p) tv)(ha:PA X (e::es) t)(hj:k<=j:=by decide)
  (he:starEach (e::es) X.env=(false,eval e X.env)::starEach es X.env:=by rfl) (hpl:(backTo pos (starEach es X.env)).any (·.1)=false:=by rfl):PE X (.Call (.Name y p) (e::es) [] pos) (tFv X.prog X.w X.K X.mg X.base k tv t):=by
 intro pins s σ H Q I h;refine wpAny_Call_Name_kw (thn (hv pins s σ H _ I h) λ u s1 hz_=>?_);obtain⟨v,H1,I1,r1,f,sp,e1,F,q1⟩:=hz_;subst e1;cases r1;have fnat:∀{H2:Hp}{s2:Shared},Same H1 H2->Inv X pins σ H2 s2->FnAt f s2.heap:=λ{H2 s2} sm I2=>by
  obtain⟨o,fd,e,d⟩:=F.1;have:=(show ObjOk X.prog X.w H2 s2.heap f (Bz f o) from I2.hok f _ (sm _ _ e)).1;obtain⟨oc,od,dt,sl⟩:=o;cases d;exact⟨_,_,_,_,this⟩
 refine callWith_F (fnat (Same.refl _) I1) (thn (ha pos pins s1 σ H1 _ I1 q1) λ us s2 ⟨vs,H2,I2,r,sm,q⟩=>⟨fnat sm I2,?_⟩) he hpl;refine wpAny_call (codeAny_mono (F.2 X.A X.stack s2 H2 us vs Q E0 sm (hr.mono hj) I2.env0 r q) λ r s' hq=>?_);cases r with
 |error e=>exact MW pins σ H2 s2 e s' I2 hq
 |ok fl =>
  cases fl with
  |ret u=>exact I2.after hq
  |next=>exact False.elim hq
  |brk=>exact False.elim hq
  |cont=>exact False.elim hq
end
theorem II{g:Addr->Obj}:∀{l:List Addr}{a:Addr},(l.map λ c=>(c,g c)).lookup a=if a∈l then some (g a) else none
 |[],a=>by simp
 |c::r,a=>by
  rw[List.map_cons,List.lookup_cons];by_cases e:a=c
  .subst e;simp
  .have:(a==c)=false:=by simpa using e
   rw[this];show List.lookup a (r.map λ c=>(c,g c))=_;rw[II];simp[e]
structure N9(N:LSz)(clos:List (Str×Addr))(σ:St)(H:Hp)(L:PNz):Prop where
 new:∀a o,L.lookup a=some o->H a=none
 has:∀p∈clos,∃o v,L.lookup p.2=some o/\o.data=.cell v
 val:∀p∈clos,∀(i:Nat)(v:V),N[i]?=some p.1->σ[i]?=some (some v)->∃o u,L.lookup p.2=some o/\o.data=.cell (some u)/\RelV v u
def RC(N:LSz)(clos:List (Str×Addr))(sp:Sp)(t:TA):TE:=λ σ H Q=>t σ H λ vs H1=>∀L,N9 N clos σ H1 L->sp vs (tkd H1 L) (λ v H2=>(∀a o,L.lookup a=some o->H2 a=some (Bz a o))/\Q v (utk H2 L)) E0
section
variable{X:Cx}{k j:Nat}{x:Str}{ps:LSz}{sp:Sp}{p pos:Pos}{e:Expr}{es:List Expr}{t:TA}{clos:List (Str×Addr)}
theorem RO(D:Ap X.prog X.w X.K X.mg X.base k x ps sp)(hr:Room j X.A)(ha:PA X (e::es) t)(hcl:∀p∈clos,X.env.cells.lookup p.1=some p.2/\X.env.kindOf p.1=some .cell)(hfn:∀y,X.fn y=true)(hex:X.ex=[])(hj:k<=j:=by decide)(hg:Gl X x:=by rfl)(hdb:(x==("__debug__":Str))=false:=by decide)
  (he:starEach (e::es) X.env=(false,eval e X.env)::starEach es X.env:=by rfl) (hpl:(backTo pos (starEach es X.env)).any (·.1)=false:=by rfl):PE X (.Call (.Name x p) (e::es) [] pos) (RC X.N clos sp t):=by
 obtain⟨f,fd,F,hm,hk,hb⟩:=D.ex;intro pins s σ H Q I h;refine wpAny_Call_Name_kw (CT I hg hm ?_ hdb);refine callWith_K (h₀:=X.base) I.ok.mod.kin hk (thn (ha pos pins s σ H _ I h) λ us s1 ⟨vs,H1,I1,r,q⟩=>⟨I1.kIn,?_⟩) he hpl
 let g:Addr->Obj:=λ c=>(s1.heap.get? c).getD ⟨.none,none,.plain,#[]⟩
 let L:PNz:=(clos.map (·.2)).map λ c=>(c,g c)
 have hLk:∀a,L.lookup a=if a∈clos.map (·.2) then some (g a) else none:=λ a=>II;have hcell:∀p∈clos,∃v,s1.heap.IsCell p.2 v:=λ p hp=>I1.cell p.1 p.2 (hcl p hp).1;have hin:∀a o,L.lookup a=some o->∃p∈clos,p.2=a/\s1.heap.get? a=some o:=λ a o e=>by
  rw[hLk]at e;split at e
  .rename_i hm;obtain⟨p,hp,rfl⟩:=List.mem_map.mp hm;refine⟨p,hp,rfl,?_⟩;obtain⟨v,o',ho',_⟩:=hcell p hp;cases e;show _=some ((s1.heap.get? p.2).getD _);rw[ho'];rfl
  .cases e
 have hof:∀p∈clos,∀o,s1.heap.get? p.2=some o->L.lookup p.2=some o:=λ p hp o e=>by
  rw[hLk,if_pos (List.mem_map.mpr ⟨p,hp,rfl⟩)];show some ((s1.heap.get? p.2).getD _)=_;rw[e];rfl
 have hnew:∀a o,L.lookup a=some o->H1 a=none:=λ a o e=>by
  obtain⟨p,hp,rfl,_⟩:=hin a o e;exact I1.freeC p.1 p.2 (hcl p hp).1
 have hget:∀a o,L.lookup a=some o->s1.heap.get? a=some o:=λ a o e=>let ⟨_,_,_,z⟩:=hin a o e;z;have habove:∀a o,L.lookup a=some o->X.s₀.heap.objs.size<=a:=λ a o e=>by
  obtain⟨p,hp,rfl,_⟩:=hin a o e;exact I1.ok.cab p.1 p.2 (hfn _) (hcl p hp).1
 have hnf:∀a o,L.lookup a=some o->a∉frs X.stack:=λ a o e hb=>by
  have ab:=habove a o e;obtain⟨p,hp,rfl,_⟩:=hin a o e;rcases List.mem_cons.mp (I1.stkSub _ hb) with z|z
  .exact I1.cne p.1 p.2 (hcl p hp).1 z
  .obtain⟨_,o',ho',_⟩:=I1.ok.funs.mem z;exact absurd (Nat.lt_of_lt_of_le (Heap.lt_size ho') ab) (Nat.lt_irrefl _)
 have CA:N9 X.N clos σ H1 L:=by
  refine⟨hnew,λ p hp=>?_,λ p hp i v hi hv=>?_⟩
  .obtain⟨v,o,ho,hd⟩:=hcell p hp;exact⟨o,v,hof p hp o ho,hd⟩
  .obtain⟨m,hns,hloc⟩:=I1.loc;obtain⟨u,ru,hlook⟩:=hloc i p.1 v hi hv (.inr (.inl (hcl p hp).2));rcases hlook with ⟨k1,_⟩|⟨_,c,hc,o,ho,hd⟩
   .rw[(hcl p hp).2]at k1;cases k1
   .rw[(hcl p hp).1]at hc;cases hc;exact⟨o,u,hof p hp o ho,hd,ru⟩
 have hsp:=q L CA;have e0:Env0 X.prog X.w X.K X.mg X.base X.A X.stack s1 (tkd H1 L):=by
  have z:=I1.env0;refine⟨z.frames,z.mod,λ b o e=>?_,z.bsz,z.funs,λ b hb=>?_,z.hok.tkd hnew hget,z.bare⟩
  .refine⟨(z.bs b o e).1,?_⟩;cases q:L.lookup b with
   |none=>rw[AJ q];exact(z.bs b o e).2
   |some o'=>exact absurd (Nat.lt_of_lt_of_le (Heap.lt_size e) (Nat.le_trans I1.ok.bsz (habove b o' q))) (Nat.lt_irrefl _)
  .cases q:L.lookup b with
   |none=>rw[AJ q];exact z.frf b hb
   |some o'=>exact absurd hb (hnf b o' q)
 have hl:us.length=ps.length:=by rw[<-r.length];exact F.len _ _ _ _ hsp
 have hbd:=hb s1 us I1.kIn (by rw[List.append_nil];exact hl);rw[List.append_nil]at hbd;refine wpAny_call (codeAny_mono (F.run X.A X.stack s1 (tkd H1 L) ⟨us,[]⟩ us vs _ E0 (hr.mono hj) e0 hbd r hsp) λ rs s' hq=>?_);cases rs with
 |error e=>exact MW pins σ H1 s1 e s' I1 (by exact hq)
 |ok fl =>
  cases fl with
  |ret u =>
   obtain⟨v,H2,os,bare,un,hok,rv,hkp,q2⟩:=hq;exact I1.after ⟨v,utk H2 L,os,bare,un.utk hok hnew hget hnf hkp,hok.utk hkp,rv,q2⟩
  |next=>exact False.elim hq
  |brk=>exact False.elim hq
  |cont=>exact False.elim hq
end
def QS(P:Program)(w:World)(K:Frag)(mg:MGz)(base:Heap)(N:LSz)(qual:Str)(scope:Scope)(f:Addr)(cd:Value)(clos:List (Str×Addr))(A:Around)(outer:List Env)(s:Shared)(H Hx:Hp)(E:XK):Cx where
 prog:=P
 w:=w
 K:=K
 mg:=mg
 base:=base
 A:=A.deeper (envX qual scope s.heap.objs.size f cd clos)
 N:=N
 s₀:=s
 H₀:=H
 env:=envX qual scope s.heap.objs.size f cd clos
 outer:=outer
 stack:=envX qual scope s.heap.objs.size f cd clos::outer
 ex:=[]
 calm:=true
 fn:=λ_=>false
 pn:=[]
 xe:=λ e s'=>wpAny (model P w) (A.deeper (envX qual scope s.heap.objs.size f cd clos)) (leaving (envX qual scope s.heap.objs.size f cd clos) e) (λ_ s''=>CX0 outer Hx s E e s'') (λ e' s''=>CX0 outer Hx s E e' s'') s'
theorem TabOk.lamC{clos:List (Str×Addr)}{mg:MGz}{pos:Pos}{qual:Str}{T:Addr}{params:Arguments}{body:Expr}{scope:Scope}{σ:St}{H:Hp}{Q:VK}(h:TabOk pos qual T H)
  (q:∀c' f ctv H',SameX T H H'->TabOk pos qual T H'->H' f=some (Bz f (By mg qual params body scope clos c' ctv))->H' c'=some (Cf c' qual)->(∀b,H b=none->H' b=none\/b=c'\/b=f)->Q (.ref f) H'):Sr mg T pos params body scope clos qual σ H Q:=by
 obtain⟨ps,e,t,c⟩:=h;refine⟨ps,e,t,?_⟩;rcases c with c|⟨c',c1,c2⟩
 .refine .inl ⟨c,λ c' f ctv hc hf n1 n2 n3=>?_⟩;have eT:(upd (upd (upd H T (.tbl (ps++#[rawInt pos.line,rawInt pos.col,.ref c']))) c' (Cf c' qual)) f (Bz f (By mg qual params body scope clos c' ctv))) T=some (.tbl (ps++#[rawInt pos.line,rawInt pos.col,.ref c'])):=by
   rw[Ah (Ne.symm n3),Ah (Ne.symm n2),upd_same]
  have eC:(upd (upd (upd H T (.tbl (ps++#[rawInt pos.line,rawInt pos.col,.ref c']))) c' (Cf c' qual)) f (Bz f (By mg qual params body scope clos c' ctv))) c'=some (Cf c' qual):=by
   rw[Ah n1,upd_same]
  refine q c' f ctv _ (λ a o ea no=>?_) ⟨_,eT,?_,.inr ⟨c',?_,eC⟩⟩ upd_same eC λ b hb=>?_
  .rw[Ah (Ag no hf),Ah (Ag no hc),Ah ea];exact no
  .rw[Array.toList_append];exact Ep (c:=0) _ t
  .rw[Array.toList_append];exact codeAmong_snoc _ t c
  .by_cases h1:b=f
   .exact .inr (.inr h1)
   .by_cases h2:b=c'
    .exact .inr (.inl h2)
    .refine .inl ?_;rw[Ah h1,Ah h2,Ah (λ z=>by rw[z,e]at hb;cases hb)];exact hb
 .refine .inr ⟨c',c1,c2,λ f ctv hf=>?_⟩;have s:Same H (upd H f (Bz f (By mg qual params body scope clos c' ctv))):=Same.new hf;refine q c' f ctv _ s.x (TabOk.same ⟨ps,e,t,.inr ⟨c',c1,c2⟩⟩ s) upd_same (s _ _ c2) λ b hb=>?_;by_cases h1:b=f
  .exact .inr (.inr h1)
  .exact .inl (by rw[Ah h1];exact hb)
theorem TabOk.tb{pos:Pos}{qual:Str}{T T':Addr}{H H':Hp}(h:TabOk pos qual T H)(s:SameX T' H H')(n:T≠T')(hT:∃ps,H T'=some (.tbl ps)):TabOk pos qual T H':=by
 obtain⟨ps,e,t,c⟩:=h;refine⟨ps,s _ _ n e,t,?_⟩;rcases c with c|⟨c',c1,c2⟩
 .exact .inl c
 .refine .inr ⟨c',c1,s _ _ (λ z=>?_) c2⟩;obtain⟨ps',e'⟩:=hT;rw[z,e']at c2;cases c2
theorem TabOk.tbl{pos:Pos}{qual:Str}{T:Addr}{H:Hp}(h:TabOk pos qual T H):∃ps,H T=some (.tbl ps):=let ⟨ps,e,_⟩:=h;⟨ps,e⟩
theorem SameX.toN{T:Addr}{H H':Hp}(s:SameX T H H')(hT:∃ps,H T=some (.tbl ps)):SameN H H':=λ a o e n=>s a o (λ z=>by obtain⟨ps,e'⟩:=hT;rw[z,e']at e;cases e;exact n _ rfl) e
theorem O9{H H':Hp}{L:PNz}(hL:∀a o,L.lookup a=some o->H a=none)(s:Same (tkd H L) H'):Same H (utk H' L)/\∀a o,L.lookup a=some o->H' a=some (Bz a o) :=
 ⟨λ a o e=>by
  have n:=Eg hL e;rw[Bl n];exact s _ _ (by rw[AJ n];exact e),λ a o e=>s _ _ (Gf e)⟩
theorem Ju{H:Hp}{L:PNz}{a:Addr}{u:HO}(hL:∀a o,L.lookup a=some o->H a=some (Bz a o))(e:H a=some u)(n:∀o,u≠Bz a o):utk H L a=some u:=by rw[Bl (DH hL e n)];exact e
theorem KQ{M:Model}{A:Around}{E:VPz}{s:Shared}{scope:Scope}{globals:Addr}{clos:List (Str×Addr)}{pn:Str}{u:Value}{qual:Str}{func:Option Addr}{code:Value}{builtins:Addr}{Q:Env->Shared->Prop}
  (hk:scope.kind=.function) (hp:scope.names.lookup pn=some .cell) (hc:∀n acc,cellsFrom n scope.names acc=(pn,n)::acc) (hpu:∀h,pushCells h scope.names=h.push { cls:=.type "cell",data:=.cell none })
  (hQ:∀h' tk,h'.Ns s.heap.objs.size (λ_=>none)->h'.IsCell (s.heap.objs.size+1) (some u)->(∀b o,s.heap.get? b=some o->h'.get? b=some o)->Q (newEnv scope s.heap.objs.size globals ((pn,s.heap.objs.size+1)::clos) qual func code none builtins) { s with heap:=h',toks:=tk }) :
  wpAny M A (newFunctionEnv scope globals clos [(pn,u)] qual func code none builtins) Q E s:=by
 simp only[newFunctionEnv,Option.isSome_none,Bool.false_eq_true,if_false];refine wpAny_bind (wpAny_alloc ?_);refine wpAny_bind (wpAny_layCells _ (λ name kind cells=>by cases hkc:kind==NameKind.cell<;>simp[hkc]) _ _ _ _ ?_);rw[hc,hpu,show({ s with heap:=s.heap.push { cls:=.type "frame",data:=.dict #[] } }:Shared).heap.objs.size=s.heap.objs.size+1 from Heap.size_push ..];have hcell:((s.heap.push { cls:=.type "frame",data:=.dict #[] }).push { cls:=.type "cell",data:=.cell none }).IsCell (s.heap.objs.size+1) none:=⟨{ cls:=.type "cell",data:=.cell none },Heap.get?_push_at (Heap.size_push ..).symm rfl,rfl⟩;have hns:=(Heap.Ns.new s.heap (.type "frame")).keeps (h':=(s.heap.push { cls:=.type "frame",data:=.dict #[] }).push { cls:=.type "cell",data:=.cell none }) λ b o e=>Heap.get?_push_of_some _ e;refine wpAny_bind ?_;rw[List.forIn_cons];refine wpAny_bind (wpAny_bind (wpAny_storeName_cell (env:=newEnv scope s.heap.objs.size globals ((pn,s.heap.objs.size+1)::clos) qual func code none builtins) hk hp (by simp[newEnv]) hcell λ h' hc' hs'=>?_));refine wpAny_pure ?_;show wpAny M A (forIn ([]:List (Str×Value)) PUnit.unit _) _ _ _;rw[List.forIn_nil];refine wpAny_pure (wpAny_pure (hQ h' _ (hns.sameBut hs' (Nat.ne_of_lt (Nat.lt_succ_self _))) hc' λ b o e=>hs'.extBut b o (Nat.ne_of_lt (Nat.lt_succ_of_lt (Heap.lt_size e))) (Heap.get?_push_of_some _ (Heap.get?_push_of_some _ e))))
structure Je(pn:Str)(fs:LSz)(sc:Scope):Prop where
 kind:sc.kind=.function
 co:sc.isCoroutine=false
 gen:sc.isGenerator=false
 par:sc.names.lookup pn=some .cell
 cells:∀n acc,cellsFrom n sc.names acc=(pn,n)::acc
 push:∀h,pushCells h sc.names=h.push { cls:=.type "cell",data:=.cell none }
 own:∀y,sc.names.lookup y=some .cell->y=pn
 free:∀y,sc.names.lookup y=some .free->y∈fs
 isfree:∀y∈fs,sc.names.lookup y=some .free
theorem QO{P:Program}{w:World}{K:Frag}{mg:MGz}{base:Heap}{k:Nat}{H:Hp}{f c':Addr}{params:Arguments}{body:Expr}{scope:Scope}{qual pn:Str}{ctv:Value}{fs:LSz}{clos:List (Str×Addr)}{cv:LUz}{L:PNz}{sp:Sp}
  (hf:H f=some (Bz f (By mg qual params body scope clos c' ctv))) (hc:H c'=some (Cf c' qual)) (S:Je pn fs scope) (hlen:cv.length=fs.length) (hkeys:∀y,(∃c,clos.lookup y=some c)↔y∈fs) (hinj:∀x y c,clos.lookup x=some c->clos.lookup y=some c->x=y)
  (hL:∀a o,L.lookup a=some o->H a=some (Bz a o)) (hcell:∀p∈clos,∃o v,L.lookup p.2=some o/\o.data=.cell v) (hval:∀p∈clos,∀(i:Nat)(v:V),fs[i]?=some p.1->cv[i]?=some v->∃o u,L.lookup p.2=some o/\o.data=.cell (some u)/\RelV v u)
  (hb:∀(s:Shared)(u:Value),BindsTo s (kla_fn "<lambda>" qual params body scope clos ((mg "__name__").getD .none) (.ref c') ctv) ⟨[u],[]⟩ [(pn,u)])
  (hone:∀vs H' Q E,sp vs H' Q E->∃v,vs=[v])
  (hbody:∀(A:Around)(outer:List Env)(s:Shared)(H':Hp)(E:XK)(v:V)(Q:VK),Same H H'->Room k (A.deeper (envX qual scope s.heap.objs.size f (.ref c') ((pn,s.heap.objs.size+1)::clos)))->sp [v] H' Q E ->
   ∃te,PE (QS P w K mg base (pn::fs) qual scope f (.ref c') ((pn,s.heap.objs.size+1)::clos) A outer s (utk H' L) H' E) body te/\te (some v::cv.map some) (utk H' L) (λ v' H2=>(∀a o,L.lookup a=some o->H2 a=none)->Q v' (tkd H2 L))) :
  FvOk P w K mg base (k+1) H f sp:=by
 refine⟨⟨_,_,hf,rfl⟩,λ A outer s H' us vs Q E sm hr e0 r h=>?_⟩;obtain⟨v,rfl⟩:=hone _ _ _ _ h;obtain⟨u,rfl,ru⟩:=Ft r;obtain⟨te,hpe,h⟩:=hbody A outer s H' E v Q sm (hr.deeper _) h;have hL':∀a o,L.lookup a=some o->H' a=some (Bz a o):=λ a o e=>sm _ _ (hL a o e);have hget:∀a o,L.lookup a=some o->s.heap.get? a=some o:=λ a o e=>(show ObjOk P w H' s.heap a (Bz a o) from e0.hok a _ (hL' a o e)).1;have lim:s.heap.NoLimit:=e0.mod.nolimit.keeps λ b o e=>(e0.bs b o e).1;have ho:s.heap.get? f=some (By mg qual params body scope clos c' ctv):=(show ObjOk P w H' s.heap f (Bz f _) from e0.hok f _ (sm _ _ hf)).1;refine kla_callFunE hr.depth ho rfl S.co S.gen rfl (IX (e0.hok c' _ (sm _ _ hc))) (hb s u _ _ _ _ ?_);refine KQ S.kind S.par S.cells S.push λ h1 tk hns hcl hk=>?_;refine⟨lim.keeps hk,?_⟩;show codeAny _ _ (.expr body (envX qual scope s.heap.objs.size f (.ref c') ((pn,s.heap.objs.size+1)::clos))) _ _;refine kla_codeExpr ?_;have noA:∀b:Addr,b∉(QS P w K mg base (pn::fs) qual scope f (.ref c') ((pn,s.heap.objs.size+1)::clos) A outer s (utk H' L) H' E).ex:=λ b z=>absurd (show b∈([]:List Addr) from z) (by simp);have mem:∀y c,clos.lookup y=some c->(y,c)∈clos:=λ y c e=>PySem.mem_of_lookup e;have npf:pn∉fs:=λ z=>by have:=S.isfree pn z;rw[S.par]at this;cases this
 have look:∀y c,((pn,s.heap.objs.size+1)::clos).lookup y=some c->(y=pn/\c=s.heap.objs.size+1)\/(y≠pn/\clos.lookup y=some c):=λ y c e=>by
  rw[List.lookup_cons]at e;by_cases q:y=pn
  .subst q;rw[beq_self_eq_true]at e;exact .inl ⟨rfl,(Option.some.inj e).symm⟩
  .rw[show(y==pn)=false from beq_false_of_ne q]at e;exact .inr ⟨q,e⟩
 have lookF:∀y c,y≠pn->clos.lookup y=some c->((pn,s.heap.objs.size+1)::clos).lookup y=some c:=λ y c n e=>by rw[List.lookup_cons,show(y==pn)=false from beq_false_of_ne n];exact e
 have lookP:((pn,s.heap.objs.size+1)::clos).lookup pn=some (s.heap.objs.size+1):=by rw[List.lookup_cons,beq_self_eq_true]
 have lt:∀y c,clos.lookup y=some c->c<s.heap.objs.size:=λ y c e=>by
  obtain⟨o,vv,ho',_⟩:=hcell (y,c) (mem y c e);exact Heap.lt_size (hget _ _ ho')
 have I:Inv (QS P w K mg base (pn::fs) qual scope f (.ref c') ((pn,s.heap.objs.size+1)::clos) A outer s (utk H' L) H' E) [] (some v::cv.map some) (utk H' L) { s with heap:=h1,toks:=tk }:=by
  refine⟨⟨e0.mod,S.kind,rfl,rfl,Nat.le_refl _,λ x y c h1' h2'=>?_,λ y hy=>?_,λ y c z=>absurd z (by simp[QS]),λ_=>hr.hd,Around.frames_deeper e0.frames,.inr ⟨rfl,rfl⟩,λ b z=>absurd z (noA b),λ b o e=>⟨(e0.bs b o e).1,BP (e0.bs b o e).2⟩,e0.bsz,λ b _ _=>noA b,λ b z=>absurd z (noA b),e0.funs,λ b hb=>BP (e0.frf b hb)⟩,
   rfl,e0.bare,Un.kept hk,⟨_,hns,λ i y vv h1' h2 h3=>?_⟩,λ y c e=>?_,BP (e0.hok.fresh (Nat.le_refl _)),λ y c e=>?_,λ p hp=>absurd (show p∈([]:PNz) from hp) (by simp),(e0.hok.utk hL').kept hk,?_⟩
  .rcases look x c h1' with ⟨rfl,rfl⟩|⟨_,q1⟩
   .rcases look y _ h2' with ⟨rfl,_⟩|⟨_,q2⟩
    .rfl
    .exact absurd (lt y _ q2) (Nat.not_lt.mpr (Nat.le_succ _))
   .rcases look y _ h2' with ⟨rfl,rfl⟩|⟨_,q2⟩
    .exact absurd (lt x _ q1) (Nat.not_lt.mpr (Nat.le_succ _))
    .exact hinj x y c q1 q2
  .have hy:scope.names.lookup y=some .cell\/scope.names.lookup y=some .free:=hy;rcases hy with hy|hy
   .rw[S.own y hy];exact⟨_,lookP⟩
   .have m:=S.free y hy;obtain⟨c,e⟩:=(hkeys y).mpr m;exact⟨c,lookF y c (λ z=>npf (z ▸ m)) e⟩
  .have h1':(pn::fs)[i]?=some y:=h1';cases i with
   |zero =>
    cases h1';cases h2;exact⟨u,ru,.inr ⟨.inl S.par,_,lookP,hcl⟩⟩
   |succ i =>
    have h1':fs[i]?=some y:=h1';have h2:(cv.map some)[i]?=some (some vv):=h2;rw[List.getElem?_map]at h2;obtain⟨z,hz,e⟩:=Option.map_eq_some_iff.mp h2;cases e;have m:=List.mem_of_getElem? h1';obtain⟨c,hc'⟩:=(hkeys y).mpr m;obtain⟨o,u',ho',hd,rv⟩:=hval (y,c) (mem y c hc') i vv h1' hz;exact⟨u',rv,.inr ⟨.inr (S.isfree y m),c,lookF y c (λ z=>npf (z ▸ m)) hc',o,hk _ _ (hget _ _ ho'),hd⟩⟩
  .rcases look y c e with ⟨rfl,rfl⟩|⟨_,e⟩
   .exact⟨_,hcl⟩
   .obtain⟨o,vv,ho',hd⟩:=hcell (y,c) (mem y c e);exact⟨vv,o,hk _ _ (hget _ _ ho'),hd⟩
  .rcases look y c e with ⟨rfl,rfl⟩|⟨_,e⟩
   .exact BP (e0.hok.fresh (Nat.le_succ _))
   .obtain⟨o,vv,ho',hd⟩:=hcell (y,c) (mem y c e);exact EM ho'
  .show(some v::cv.map some).length=(pn::fs).length;rw[List.length_cons,List.length_cons,List.length_map,hlen]
 refine wpAny_mono (hpe [] _ _ _ _ I h) (λ u2 s' ⟨v2,H2,J,rv,q⟩=>?_) λ e s' z=>z;have un:Un (frs outer) [] (utk H' L) H2 s.heap s'.heap:=J.base;have hnf:∀a o,L.lookup a=some o->a∉frs outer:=λ a o e hb=>by
  have:=e0.frf a hb;rw[hL' a o e]at this;cases this
 have hno:∀a o,L.lookup a=some o->H2 a=none:=λ a o e=>un.free a o (hget a o e) (EM e) (by simp);exact⟨v2,tkd H2 L,J.os,J.bare,un.tkd hL',J.hok.tkd hno (λ a o e=>un.keep a o (hget a o e) (EM e) (hnf a o e) (by simp)),rv,q hno⟩
section
variable{X:Cx}
theorem Q4:OpR X (compareOp .IsNot) (λ x y H Q=>∃b c,x=.bl b/\y=.bl c/\Q (.bl (!(b==c))) H):=by
 intro pins s σ H x y v u Q I rx ry h;obtain⟨b,c,rfl,rfl,q⟩:=h;cases rx;cases ry;exact isnot_bool (A7 I q rfl)
end
theorem Mf{M:Model}{A:Around}{E:VPz}{s:Shared}{K:Frag}{G C e:Addr}{d:Option Addr}{dt:Data}{sl':AOz}{Q:Bool->Shared->Prop}{b:Bool}(X:K.In s.heap){fI:Addr}(hG:Mp K G fI=true)
  (he:s.heap.get? e=some ⟨.ref C,d,dt,sl'⟩) (hs:mroIn K C (.ref G)=some b) (h:Q b s):wpAny M A (excMatches (.ref e) (.ref G)) Q E s:=by
 have LS:=looks_mroIn (M:=M) X hs;obtain⟨hp,g,dr,tk,os⟩:=s;have q:=hG;unfold Mp at q;split at q
 .rename_i dd cd sl ho;split at q
  .rename_i C' bm k0 k1 k2 k3 n k5 hm hs;simp only[Bool.and_eq_true,beq_iff_eq,Bool.not_eq_true']at q;obtain⟨⟨⟨⟨⟨rfl,rfl⟩,hdel⟩,ht⟩,hok⟩,hni⟩:=q;obtain⟨nm,bs,mro,ns,qn,hd,sn,sub,ab,col,del⟩:=cd;dsimp only at hm hdel hok hni;subst hm hdel;have hsl:sl=#[k0,k1,k2,k3,some (.builtin "ValueError.__new__"),k5]:=by
    obtain⟨l⟩:=sl;simp only at hs;rw[hs]
   subst hsl;have hC:hp.get? C'=some (excClassObj nm qn C' ns bs bm hd sn sub ab col dd k0 k1 k2 k3 k5 "ValueError.__new__"):=X _ _ ho;have hcB:(Value.ref C'::bm).contains (.type "BaseException")=true:=by
    rw[List.contains_cons,(tail_of_in X ht).hasType (show vErr.contains (.type "BaseException")=true by decide +kernel)];exact Bool.or_true _
   have f:=tc_notTuple;unfold excMatches;cases b<;>(repeat (first|with_reducible refine wpAny_loadPart_at he ?_|with_reducible refine wpAny_loadPart_at hC ?_|(with_reducible refine wpAny_isSubtype_exc hC ?_;rw[hcB])|(with_reducible refine LS.at ?_)|wp_step))<;>exact h
  .cases q
 .cases q
section
variable{prog:Program}{w:World}{A:Around}{E:VPz}{s:Shared}
theorem Qo{l:Addr}{vs:LWz}{kd:SortKind}{κ:Value->Int}{Q:VPz}(hl:s.heap.IsList l vs.toArray)(h64:vs.length<64)
  (hK:∀(h':Heap),(∀b o,s.heap.get? b=some o->h'.get? b=some o)->∀(Q:SortKind->Shared->Prop)(E:VPz),2<=vs.length->Q kd { s with heap:=h' }->wpAny (model prog w) A.in1.in1 (keyKind' vs.toArray) Q E { s with heap:=h' })
  (hL:∀(h':Heap),(∀b o,s.heap.get? b=some o->h'.get? b=some o)->∀x∈vs,∀y∈vs,∀(C:Bool->Shared->Prop),C (decide (κ x<κ y)) { s with heap:=h' }->wpAny (model prog w) A.in1.in1 (keyLt' kd x y) C (λ_ _=>False) { s with heap:=h' })
  (h:∀zs:LWz,zs.Perm vs->(zs.map κ).Pairwise (·<=·)->Q (.ref (s.heap.objs.size+1)) { s with heap:=sortedAll s.heap vs zs.toArray }) :
  wpAny (model prog w) A (call (.builtin "sorted") [.ref l]) Q E s:=by
 have hz:vs.length<=sizeLine:=by rw[sizeLine_eq];lia
 have gm:∀i,i<vs.length->vs.getD i Value.none∈vs:=λ i hi=>by rw[List.getD_eq_getElem?_getD,List.getElem?_eq_getElem hi];exact List.getElem_mem hi
 refine Calls.call_function_entry kind_sorted plain_sorted entry_sorted (args_sorted1 _) ?_;unfold Builtin.«sorted»;refine wpAny_bind (m:=checkCount "sorted" 1 1 _) (wpAny_pure ?_);refine wpAny_bind (collect_list hl ?_ hz);refine wpAny_bind (wpAny_newList ?_ hz);have hsz:((s.heap.push (seqObj "list" #[] 0)).update s.heap.objs.size (Obj.mapSeq (·++vs.toArray))).objs.size=s.heap.objs.size+1:=by
  rw[Heap.size_update,size_push']
 have hoL:(((s.heap.push (seqObj "list" #[] 0)).update s.heap.objs.size (Obj.mapSeq (·++vs.toArray))).push (seqObj "list" vs.toArray 0)).get? (s.heap.objs.size+1)=some (seqObj "list" vs.toArray 0):=by
  rw[<-hsz];exact Heap.get?_push_size _ rfl
 have keep:∀b o,s.heap.get? b=some o->(((s.heap.push (seqObj "list" #[] 0)).update s.heap.objs.size (Obj.mapSeq (·++vs.toArray))).push (seqObj "list" vs.toArray 0)).get? b=some o:=λ b o q=>by
  have hlt:b<s.heap.objs.size:=Heap.lt_size q;rw[Heap.get?_push_ne _ _ _ (by rw[hsz];exact Nat.ne_of_lt (Nat.lt_succ_of_lt hlt)),Heap.get?_update_ne _ _ _ _ (Nat.ne_of_lt hlt),Heap.get?_push_ne _ _ _ (Nat.ne_of_lt hlt)];exact q
 show wpAny _ _ _ _ _ { s with heap:=((s.heap.push (seqObj "list" #[] 0)).update s.heap.objs.size (Obj.mapSeq (·++vs.toArray))).push (seqObj "list" vs.toArray 0) };rw[hsz];have mid:∀b o,s.heap.get? b=some o->(B2 (((s.heap.push (seqObj "list" #[] 0)).update s.heap.objs.size (Obj.mapSeq (·++vs.toArray))).push (seqObj "list" vs.toArray 0)) (s.heap.objs.size+1) vs).get? b=some o:=λ b o q =>
  JS (Nat.ne_of_lt (Nat.lt_succ_of_lt (Heap.lt_size q))) (keep b o q)
 refine wpAny_bind (wpAny_holding (wpAny_call_entry slot_list_sort ⟨_,hoL,rfl⟩ entry_list_sort (FO (κ:=kd) (key:=λ i=>κ (vs.getD i Value.none)) (s:={ s with heap:=((s.heap.push (seqObj "list" #[] 0)).update s.heap.objs.size (Obj.mapSeq (·++vs.toArray))).push (seqObj "list" vs.toArray 0) }) hoL h64 (λ Q E h2 hq=>hK _ mid Q E h2 hq) (λ i j C hi hj hc=>hL _ mid _ (gm i hi) _ (gm j hj) C hc) λ q a1 a2=>⟨_,rfl,?_⟩) (args_list_sort _)));refine wpAny_pure ⟨_,rfl,h (q.toList.map λ i=>vs.getD i Value.none) ?_ ?_⟩
 .have:=(show q.toList.Perm (List.range vs.length) from a1).map λ i=>vs.getD i Value.none;rw[G7]at this;exact this
 .rw[List.map_map];exact a2
end
section
variable{X:Cx}
theorem Ky{pins:PNz}{σ:St}{H:Hp}{s:Shared}{p:Addr}{β:Type}{ts:List (Addr×β)}{K:Addr×β->Int}{kd:SortKind}{κ:Value->Int}{Q:VK}(I:Inv X pins σ H s)(hp:SqL X.K H p (ts.map λ t=>V.ref t.1))(G:PM X X.A.in1.in1 σ H (ts.map λ t=>V.ref t.1) kd κ)(h64:ts.length<64)(hκ:∀t∈ts,κ (.ref t.1)=K t)
  (q:∀l (ts':List (Addr×β)),H l=none->ts'.Perm ts->(ts'.map K).Pairwise (·<=·)->Q (.ref l) (upd H l (.lst (ts'.map λ t=>V.ref t.1)))):wpAny (model X.prog X.w) X.A (call (.builtin "sorted") [.ref p]) (EP X pins σ Q) X.xe s:=by
 obtain⟨its,rv,pl,hz⟩:=I.list hp;have hits:its=ts.map λ t=>Value.ref t.1:=by
  have:=DC (ts:=ts.map (·.1)) (its:=its) (by rw[List.map_map];exact rv);rw[this,List.map_map];rfl
 rw[List.length_map]at hz;have hlen:its.length=ts.length:=by rw[hits,List.length_map]
 refine Qo (kd:=kd) (κ:=κ) pl.isList (by rw[hlen];exact h64) (λ h' k Q' E' h2 hq=>?_) (λ h' k x hx y hy C hc=>?_) λ zs pz sz=>?_
 .exact(G its pins { s with heap:=h' } rv (I.kept (t':=s.toks) k)).1 Q' E' h2 hq
 .exact(G its pins { s with heap:=h' } rv (I.kept (t':=s.toks) k)).2 x hx y hy C hc
 .obtain⟨ts',pt,ez⟩:=K4 (f:=λ t:Addr×β=>Value.ref t.1) (l:=zs) (m:=its) pz ts hits;subst ez;obtain⟨e,he⟩:=sortedAll_at s.heap its (List.toArray (ts'.map λ t=>Value.ref t.1));have hn:H (s.heap.objs.size+1)=none:=I.hok.fresh (Nat.le_succ _);refine⟨.ref (s.heap.objs.size+1),_,I.laid (o:=.lst (ts'.map λ t=>V.ref t.1)) (t':=s.toks) (λ b o z=>sortedAll_old z) (Nat.le_succ _) ⟨?_,_,e,?_,he⟩,rfl,q _ _ hn pt ?_⟩
  .rw[List.length_map,pt.length_eq];exact hz
  .have:=Eb (ts'.map (·.1));rw[List.map_map,List.map_map]at this;exact this
  .rw[List.map_map]at sz;rw[show ts'.map K=ts'.map (κ∘λ t=>Value.ref t.1) from List.map_congr_left λ t ht=>(hκ t (pt.mem_iff.mp ht)).symm];exact sz
end
theorem Nl{K:Frag}{hp:Heap}{G:Addr}(X:K.In hp)(hG:PySem.W.excIn K G vErr "ValueError.__new__"=true):∃nm qn ns bs bm hd sn sub ab col dd k0 k1 k2 k3 k5,hp.get? G=some (excClassObj nm qn G ns bs bm hd sn sub ab col dd k0 k1 k2 k3 k5 "ValueError.__new__")/\(Value.ref G::bm).contains (.type "BaseException")=true:=by
 have q:=hG;unfold PySem.W.excIn at q;split at q
 .rename_i dd cd sl ho;split at q
  .rename_i C' bm k0 k1 k2 k3 n k5 hm hs;simp only[Bool.and_eq_true,beq_iff_eq,Bool.not_eq_true']at q;obtain⟨⟨⟨⟨⟨rfl,rfl⟩,hdel⟩,ht⟩,hok⟩,hni⟩:=q;obtain⟨nm,bs,mro,ns,qn,hd,sn,sub,ab,col,del⟩:=cd;dsimp only at hm hdel hok hni;subst hm hdel;have hsl:sl=#[k0,k1,k2,k3,some (.builtin "ValueError.__new__"),k5]:=by
    obtain⟨l⟩:=sl;simp only at hs;rw[hs]
   subst hsl;have hcB:(Value.ref C'::bm).contains (.type "BaseException")=true:=by
    rw[List.contains_cons,(tail_of_in X ht).hasType (show vErr.contains (.type "BaseException")=true by decide +kernel)];exact Bool.or_true _
   exact⟨_,_,_,_,_,_,_,_,_,_,_,_,_,_,_,_,X _ _ ho,hcB⟩
  .cases q
 .cases q
theorem K0{prog:Program}{w:World}{A:Around}{E:VPz}{s:Shared}{K:Frag}{C:Addr}{env:Env}{x:Sem Value}{Q:Flow->Shared->Prop}(hG:PySem.W.excIn K C vErr "ValueError.__new__"=true)(hh:A.handled=none)
  (h:wpAny (model prog w) A x (λ v s₁=>∃e d vs sl,v=.ref e/\K.In s₁.heap/\s₁.heap.get? e=some ⟨.ref C,d,.fields vs,sl⟩/\vs[1]?=some Value.none/\E (.ref e) s₁) E s) :
  wpAny (model prog w) A (raiseStmt env (some x) none) Q E s:=by
 unfold raiseStmt;refine wpAny_bind (wpAny_mono h (λ v s₁ h₁=>?_) λ_ _ x=>x);obtain⟨e,d,vs,sl',rfl,X,he,h1,hE⟩:=h₁;obtain⟨hp,g,dr,tk,os⟩:=s₁;obtain⟨nm,qn,ns,bs,bm,hd,sn,sub,ab,col,dd,k0,k1,k2,k3,k5,hC,hcB⟩:=Nl X hG
 repeat (first|with_reducible refine wpAny_field he rfl h1 ?_|with_reducible refine wpAny_loadPart_at he ?_|with_reducible refine wpAny_loadPart_at hC ?_|(with_reducible refine wpAny_isSubtype_exc hC ?_;rw[hcB])|wp_step)
 exact wpAny_raiseNew_none hh hE
theorem Mg{M:Model}{A:Around}{E:VPz}{s:Shared}{K:Frag}{G C e:Addr}{d:Option Addr}{dt:Data}{sl':AOz}{Q:Bool->Shared->Prop}{b:Bool}(X:K.In s.heap)(hG:PySem.W.excIn K G vErr "ValueError.__new__"=true)
  (he:s.heap.get? e=some ⟨.ref C,d,dt,sl'⟩) (hs:mroIn K C (.ref G)=some b) (h:Q b s):wpAny M A (excMatches (.ref e) (.ref G)) Q E s:=by
 have LS:=looks_mroIn (M:=M) X hs;obtain⟨hp,g,dr,tk,os⟩:=s;obtain⟨nm,qn,ns,bs,bm,hd,sn,sub,ab,col,dd,k0,k1,k2,k3,k5,hC,hcB⟩:=Nl X hG;have f:=tc_notTuple;unfold excMatches;cases b<;>(repeat (first|with_reducible refine wpAny_loadPart_at he ?_|with_reducible refine wpAny_loadPart_at hC ?_|(with_reducible refine wpAny_isSubtype_exc hC ?_;rw[hcB])|(with_reducible refine LS.at ?_)|wp_step))<;>exact h
def PY(K:Frag)(G:Addr):Prop:=(∃fI,Mp K G fI=true)\/PySem.W.excIn K G vErr "ValueError.__new__"=true
section
variable{X:Cx}{k j im:Nat}{x m g:Str}{C G:Addr}{p pos cpos:Pos}{e:Expr}{E:XK}{te:TE}{b₀:Stmt}{suite:List Stmt}{gp hpos:Pos}{ts:TS}{hs:List ExceptHandler}{th:TH}
def Sl(C:Addr):TE:=λ_ H Q=>∀x,H x=none->Q (.ref x) (upd H x (Kl C x))
theorem Qz(M:XMk0 X.K X.mg x C)(hg:Gl X x:=by rfl)(hdb:(x==("__debug__":Str))=false:=by decide):PE X (.Call (.Name x p) [] [] pos) (Sl C):=by
 intro pins s σ H Q I h;refine wpAny_Call_Name_kw (CT I hg M.mm ?_ hdb);refine callWith_K0 I.kIn M.kp (M.call I.kIn λ h' e hm=>?_);obtain⟨hk,hfr,t,he,_,_⟩:=hm;have hn:H e=none:=by
  cases q:H e with
  |none=>rfl
  |some u =>
   obtain⟨o,ho⟩:=(I.hok e u q).there;rw[ho]at hfr;cases hfr
 refine⟨V.ref e,upd H e (Kl C e),I.un (t':=s.toks) ⟨λ b u q _ _ _=>hk b u q,λ b u q _ _ _=>⟨u.slots,hk b u q⟩,λ b u q n _=>?_,λ b u q _=>⟨u,hk b u q⟩,λ b xs q=>by rw[Ah (Ag q hn)];exact q,
  λ b u xs q=>by rw[Ah (Ag q hn)];exact q,λ b ps q=>⟨#[],by rw[Ah (Ag q hn),q];simp⟩⟩ (λ b u q=>?_),rfl,h e hn⟩
 .rw[Ah (λ z=>by subst z;rw[q]at hfr;cases hfr)];exact n
 .by_cases hb:b=e
  .subst hb;rw[upd_same]at q;cases q;exact QQ he rfl
  .rw[Ah hb]at q;exact(I.hok b u q).stay (λ c v _ q=>hk c v q) (λ c q=>by rw[Ah (Ag q hn)];exact q) λ c xs q=>by rw[Ah (Ag q hn)];exact q
def Qq(C:Addr)(E:XK):TS:=λ_ _ H=>∀y T,H y=none->(upd H y (Kl C y)) T=none->T≠y->E (.ref y) none (thrown (upd H y (Kl C y)) y C none T)
theorem NI(hX:SW X E)(M:XMk0 X.K X.mg x C)(hc:X.calm=true:=by rfl)(hg:Gl X x:=by rfl)(hdb:(x==("__debug__":Str))=false:=by decide):PS X (.Raise (some (.Call (.Name x p) [] [] cpos)) none pos) (Qq C E):=by
 intro pins s σ H Dd I h;have pe:=Qz (p:=p) (pos:=cpos) M hg hdb pins s σ H (λ v H2=>∃y,v=V.ref y/\H2 y=some (Kl C y)/\∀T,H2 T=none->T≠y->E (.ref y) none (thrown H2 y C none T)) I λ y hy=>⟨y,rfl,upd_same,λ T hT nT=>h y T hy hT nT⟩
 .rw[arm_exec_Raise];simp only[evalOpt,Option.map];refine wpAny_bind (wpAny_standAt (K0 M.ei (I.ok.hd hc) ?_));refine wpAny_bind (thn pe λ v s1 ⟨u,H2,I2,r,y,ey,fr,hE⟩=>wpAny_bind (wpAny_standAt (wpAny_pure ?_)));subst ey;obtain rfl:v=Value.ref y:=r;obtain⟨⟨vs,sl,e1,e2⟩,_⟩:=(show ObjOk X.prog X.w H2 s1.heap y (Kl C y) from I2.hok y _ fr);exact⟨y,none,vs,sl,rfl,I2.kIn,e1,e2,hX pins σ H2 s1 y C none I2 (.inl (.inl ⟨rfl,fr⟩)) hE⟩
end
section
variable{prog:Program}{w:World}{A:Around}{E:VPz}{s:Shared}
theorem DO{it t:Addr}{i:Nat}{items:Array Value}{x:Value}{Q:VPz}(hit:s.heap.IsTupleIter it t i)(ht:s.heap.IsTuple t items)(hx:items[i]?=some x)
  (hQ:∀h',h'.IsTupleIter it t (i+1)->Heap.SameBut it s.heap h'->Q x { s with heap:=h' }):wpAny (model prog w) A (Builtin.SmallTypes.nextOf (.ref it)) Q E s:=by
 obtain⟨o,ho,hc,hd⟩:=id hit;obtain⟨ol,hol,_,nl,hdl⟩:=ht;unfold Builtin.SmallTypes.nextOf;refine wpAny_bind (wpAny_callSpecial?_slot (name:=Str.ofString "__next__") hit.typeIs PySem.F.slot_tuple_iterator_next
  (wpAny_call_entry PySem.F.slot_tuple_iterator_next hit.typeIs PySem.F.entry_tuple_iterator_next ?_ (PySem.F.args_tuple_iterator_next_1 _)))
 show wpAny _ _ (field (.ref it) 0 >>= _) _ _ s;refine wpAny_bind (wpAny_field ho hd (x:=.ref t) rfl ?_);show wpAny _ _ (if (Value.ref t==Value.none)=true then _ else _) _ _ s;rw[if_neg (show ¬((Value.ref t==Value.none)=true) from Bool.false_ne_true)];show wpAny _ _ (field (.ref it) 1 >>= _) _ _ s;refine wpAny_bind (wpAny_field ho hd (x:=.int i 0) rfl ?_);show wpAny _ _ (seqItems? (.ref t) >>= _) _ _ s;refine wpAny_bind (wpAny_seqItems hol hdl ?_);simp only[Int.toNat_natCast,hx];refine wpAny_bind (wpAny_setField ho hd (by simp) (wpAny_pure ⟨x,rfl,wpAny_pure (hQ _ ?_ (Heap.SameBut.update ..))⟩));exact⟨_,Heap.get?_update_self _ ho (Obj.isFreed_of_fields (Obj.data_mapFields hd _)),(Obj.cls_mapFields ..).trans hc,by
  rw[Obj.data_mapFields hd];simp[rawInt]⟩
theorem E7{it t:Addr}{i:Nat}{items:Array Value}{Q:VPz}(hh:A.handled=none)(hit:s.heap.IsTupleIter it t i)(ht:s.heap.IsTuple t items)(hx:items[i]?=none)
  (hE:∀h' e,Heap.ExtBut it s.heap h'->(∃o,h'.get? e=some o/\o.cls=.type "StopIteration")->E (.ref e) { s with heap:=h' }):wpAny (model prog w) A (Builtin.SmallTypes.nextOf (.ref it)) Q E s:=by
 obtain⟨o,ho,hc,hd⟩:=id hit;obtain⟨ol,hol,_,nl,hdl⟩:=ht;unfold Builtin.SmallTypes.nextOf;refine wpAny_bind (wpAny_callSpecial?_slot (name:=Str.ofString "__next__") hit.typeIs PySem.F.slot_tuple_iterator_next
  (wpAny_call_entry PySem.F.slot_tuple_iterator_next hit.typeIs PySem.F.entry_tuple_iterator_next ?_ (PySem.F.args_tuple_iterator_next_1 _)))
 show wpAny _ _ (field (.ref it) 0 >>= _) _ _ s;refine wpAny_bind (wpAny_field ho hd (x:=.ref t) rfl ?_);show wpAny _ _ (if (Value.ref t==Value.none)=true then _ else _) _ _ s;rw[if_neg (show ¬((Value.ref t==Value.none)=true) from Bool.false_ne_true)];show wpAny _ _ (field (.ref it) 1 >>= _) _ _ s;refine wpAny_bind (wpAny_field ho hd (x:=.int i 0) rfl ?_);show wpAny _ _ (seqItems? (.ref t) >>= _) _ _ s;refine wpAny_bind (wpAny_seqItems hol hdl ?_);simp only[Int.toNat_natCast,hx];refine wpAny_bind (wpAny_rule (wpAny_bind (wpAny_setField ho hd (by simp) ?_)));show wpAny _ _ (newExc (.type "StopIteration") [] >>= _) _ _ _;refine wpAny_bind ?_;simp only[newExc,newTuple];refine wpAny_bind (wpAny_newObj_type ?_ (by size_fits));refine wpAny_bind (m:=firstArgMember _ _) (wpAny_of_eq (a:=Value.none) (by first|rfl|(simp only[firstArgMember];rfl)) ?_);refine wpAny_newObj_type ?_ (by size_fits);simp only[raiseNew];refine wpAny_bind (wpAny_handled ?_)
 first|rw[show A.in1.handled=none from hh]|rw[hh]
 refine wpAny_bind (wpAny_pure (wpAny_throw ?_));exact hE _ _ (((Heap.SameBut.update ..).extBut.push _).push _) ⟨_,Heap.get?_push_size _ rfl,rfl⟩
abbrev Cv(h:Heap)(z TI TO:Addr)(f0:Value)(f:Bool):Prop:=h.get? z=some { cls:=.type "zip",dict:=none,data:=.fields #[f0,.bool f,.bool false,.ref TI,.ref TO],slots:=#[] }
structure Fp(h:Heap)(z TI TO i1 i2 l t:Addr)(xs ys:Array Value)(i:Nat):Prop where
 ti:IsPair h TI (.ref i1) (.ref i2)
 to:∃a b,IsPair h TO a b
 it1:h.IsListIter i1 l i
 it2:h.IsTupleIter i2 t i
 ls:h.IsList l xs
 tu:h.IsTuple t ys
theorem NB{z TI TO i1 i2 l t:Addr}{i:Nat}{xs ys:Array Value}{x y:Value}{Q:VPz}(D:ZipApart z TI TO i1 i2 l t)(hz:Cv s.heap z TI TO .none false)(S:Fp s.heap z TI TO i1 i2 l t xs ys i)(hx:xs[i]?=some x)(hy:ys[i]?=some y)
  (hQ:∀h',Cv h' z TI TO (rawInt s.heap.objs.size) false->Fp h' z TI TO i1 i2 l t xs ys (i+1)->IsPair h' s.heap.objs.size x y->h'.objs.size=s.heap.objs.size+1 ->
   (∀c o,c≠z->c≠TO->c≠i1->c≠i2->s.heap.get? c=some o->h'.get? c=some o)->Q (.ref s.heap.objs.size) { s with heap:=h' }) :
  wpAny (model prog w) A (Builtin.«zip.__next__» ⟨[.ref z],[]⟩) (λ fin s'=>∃v,fin=.done (.ret v)/\Q v s') E s:=by
 obtain⟨hTI,⟨a,b,hTO⟩,h1,h2,hl1,hl2⟩:=S;show wpAny _ _ (field (.ref z) 2 >>= _) _ _ _;refine wpAny_bind (wpAny_field hz rfl (x:=.bool false) rfl ?_);show wpAny _ _ (field (.ref z) 3 >>= _) _ _ _;refine wpAny_bind (wpAny_field hz rfl (x:=.ref TI) rfl ?_);refine wpAny_bind (wpAny_seqItems hTI rfl ?_);show wpAny _ _ (Builtin.SmallTypes.ownedTupleIsFree (.ref z) >>= _) _ _ _;refine wpAny_bind ?_;unfold Builtin.SmallTypes.ownedTupleIsFree;refine wpAny_bind (wpAny_field hz rfl (x:=.none) rfl (wpAny_pure ?_));simp only[if_true];refine wpAny_bind (wpAny_rule ?_);refine wpAny_bind (wpAny_field hz rfl (x:=.ref TO) rfl ?_);refine wpAny_bind (wpAny_setField_rec hz (by simp) λ h₁ hz₁ hs₁=>?_)
 replace hz₁:Cv h₁ z TI TO .ellipsis false:=hz₁
 refine wpAny_bind ?_;simp only[List.zipIdx_cons,List.zipIdx_nil,List.forIn_cons,List.forIn_nil];refine wpAny_bind (wpAny_bind (wpAny_onRaise ?_));show wpAny _ _ (Builtin.SmallTypes.nextOf (.ref i1) >>= _) _ _ _;refine wpAny_bind (wpAny_nextOf_list_item (h1.extBut hs₁.extBut D.i1z) (hl1.extBut hs₁.extBut D.l1z) hx λ h₂ h1₂ hs₂=>wpAny_pure ?_);have hTO₂:IsPair h₂ TO a b:=hs₂.extBut _ _ D.TOi1 (hs₁.extBut _ _ D.TOz hTO);refine wpAny_bind (wpAny_seqItems hTO₂ rfl ?_);refine wpAny_bind (wpAny_updateSeq_pair hTO₂ λ h₃ hTO₃ hs₃=>?_)
 replace hTO₃:IsPair h₃ TO x b:=hTO₃
 refine wpAny_bind (wpAny_letGo (wpAny_pure ?_));refine wpAny_bind (wpAny_bind (wpAny_onRaise ?_));show wpAny _ _ (Builtin.SmallTypes.nextOf (.ref i2) >>= _) _ _ _;refine wpAny_bind (DO (((h2.extBut hs₁.extBut D.i2z).extBut hs₂.extBut D.i12.symm).extBut hs₃.extBut D.TOi2.symm)
  (((hl2.extBut hs₁.extBut D.l2z).extBut hs₂.extBut D.l2i1).extBut hs₃.extBut D.l2TO) hy λ h₄ h2₄ hs₄=>wpAny_pure ?_)
 have hTO₄:IsPair h₄ TO x b:=hs₄.extBut _ _ D.TOi2 hTO₃;refine wpAny_bind (wpAny_seqItems hTO₄ rfl ?_);refine wpAny_bind (wpAny_updateSeq_pair hTO₄ λ h₅ hTO₅ hs₅=>?_)
 replace hTO₅:IsPair h₅ TO x y:=hTO₅
 refine wpAny_bind (wpAny_letGo (wpAny_pure (wpAny_pure ?_)));refine wpAny_bind (wpAny_seqItems hTO₅ rfl ?_);refine wpAny_bind (wpAny_newTuple ?_);have hsz:h₅.objs.size=s.heap.objs.size:=by rw[hs₅.1,hs₄.1,hs₃.1,hs₂.1,hs₁.1]
 have hz₅:Cv h₅ z TI TO .ellipsis false:=hs₅.extBut _ _ D.TOz.symm (hs₄.extBut _ _ D.i2z.symm (hs₃.extBut _ _ D.TOz.symm (hs₂.extBut _ _ D.i1z.symm hz₁)));have hk₅:∀c o,c≠z->c≠TO->c≠i1->c≠i2->s.heap.get? c=some o->h₅.get? c=some o:=λ c o c1 c2 c3 c4 e =>
  hs₅.extBut _ _ c2 (hs₄.extBut _ _ c4 (hs₃.extBut _ _ c2 (hs₂.extBut _ _ c3 (hs₁.extBut _ _ c1 e))))
 have h1₅:h₅.IsListIter i1 l (i+1):=((h1₂.extBut hs₃.extBut D.TOi1.symm).extBut hs₄.extBut D.i12).extBut hs₅.extBut D.TOi1.symm;have h2₅:h₅.IsTupleIter i2 t (i+1):=h2₄.extBut hs₅.extBut D.TOi2.symm;have hzlt:z<h₅.objs.size:=Heap.lt_size hz₅;show wpAny _ _ (Builtin.SmallTypes.ownedTupleHandOut (.ref z) (.ref h₅.objs.size) >>= _) _ _ _;refine wpAny_bind ?_;unfold Builtin.SmallTypes.ownedTupleHandOut;have hz₆:Cv (h₅.push { cls:=.type "tuple",data:=.seq #[x,y] }) z TI TO .ellipsis false:=Heap.get?_push_of_some _ hz₅;refine wpAny_bind (wpAny_setField_rec hz₆ (by simp) λ h₇ hz₇ hs₇=>?_)
 replace hz₇:Cv h₇ z TI TO (rawInt h₅.objs.size) false:=hz₇
 refine wpAny_setField_rec hz₇ (by simp) λ h₈ hz₈ hs₈=>?_
 replace hz₈:Cv h₈ z TI TO (rawInt h₅.objs.size) false:=hz₈
 have up:∀c o,c≠z->h₅.get? c=some o->h₈.get? c=some o:=λ c o c1 e=>hs₈.extBut _ _ c1 (hs₇.extBut _ _ c1 (Heap.get?_push_of_some _ e));have hT₈:IsPair h₈ h₅.objs.size x y:=hs₈.extBut _ _ (Nat.ne_of_gt hzlt) (hs₇.extBut _ _ (Nat.ne_of_gt hzlt) (Heap.get?_push_size _ rfl));have hz8:h₈.objs.size=h₅.objs.size+1:=by rw[hs₈.1,hs₇.1,Heap.size_push]
 rw[hsz]at hz₈ hT₈ hz8;refine wpAny_pure ⟨_,rfl,?_⟩;show Q (.ref h₅.objs.size) _;rw[hsz];have upk:∀c o,c≠z->c≠TO->c≠i1->c≠i2->s.heap.get? c=some o->h₈.get? c=some o:=λ c o c1 c2 c3 c4 e=>up c o c1 (hk₅ c o c1 c2 c3 c4 e);exact hQ h₈ hz₈ ⟨upk _ _ D.TIz D.TITO D.TIi1 D.TIi2 hTI,⟨_,_,up _ _ D.TOz hTO₅⟩,h1₅.at λ o e=>up _ o D.i1z e,let ⟨o,e,r⟩:=h2₅;⟨o,up _ o D.i2z e,r⟩,hl1.at λ o e=>upk _ o D.l1z D.l1TO D.l1i1 D.l1i2 e,let ⟨o,e,r⟩:=hl2;⟨o,upk _ o D.l2z D.l2TO D.l2i1 D.l2i2 e,r⟩⟩ hT₈ hz8 upk
theorem K6{z TI TO a:Addr}{f:Bool}{oa:Obj}{Q:Bool->Shared->Prop}(hz:Cv s.heap z TI TO (rawInt a) f)(ha:s.heap.get? a=some oa)(hQ:∀h',Cv h' z TI TO (rawInt a) true->Heap.SameBut z s.heap h'->Q false { s with heap:=h' }):wpAny (model prog w) A (Builtin.SmallTypes.ownedTupleIsFree (.ref z)) Q E s:=by
 unfold Builtin.SmallTypes.ownedTupleIsFree;refine wpAny_bind (wpAny_field hz rfl (x:=rawInt a) rfl ?_);show wpAny _ _ (loadIfAlive ((a:Int).toNat) >>= _) _ _ _;rw[Int.toNat_natCast];refine wpAny_bind (kdx_alive ha ?_);simp only[Option.isNone_some,Bool.false_eq_true,if_false];refine wpAny_bind (wpAny_field hz rfl (x:=.bool f) rfl ?_);cases f with
 |true =>
  rw[if_neg (show ¬((Value.bool true != Value.bool true)=true) from Bool.false_ne_true)];exact wpAny_pure (hQ s.heap hz (Heap.SameBut.refl _ _))
 |false =>
  rw[if_pos (show(Value.bool false != Value.bool true)=true from rfl)];exact wpAny_bind (wpAny_setField_rec hz (by simp) λ h₃ hz₃ hs₃=>wpAny_pure (hQ h₃ hz₃ hs₃))
theorem Qc{z TI TO i1 i2 l t a:Addr}{f:Bool}{oa:Obj}{i:Nat}{xs ys:Array Value}{x y:Value}{Q:VPz}(D:ZipApart z TI TO i1 i2 l t)(hz:Cv s.heap z TI TO (rawInt a) f)(ha:s.heap.get? a=some oa)(S:Fp s.heap z TI TO i1 i2 l t xs ys i)(hx:xs[i]?=some x)(hy:ys[i]?=some y)
  (hQ:∀h',Cv h' z TI TO (rawInt a) true->Fp h' z TI TO i1 i2 l t xs ys (i+1)->IsPair h' s.heap.objs.size x y->h'.objs.size=s.heap.objs.size+1 ->
   (∀c o,c≠z->c≠TO->c≠i1->c≠i2->s.heap.get? c=some o->h'.get? c=some o)->Q (.ref s.heap.objs.size) { s with heap:=h' }) :
  wpAny (model prog w) A (Builtin.«zip.__next__» ⟨[.ref z],[]⟩) (λ fin s'=>∃v,fin=.done (.ret v)/\Q v s') E s:=by
 obtain⟨hTI,⟨a0,b0,hTO⟩,h1,h2,hl1,hl2⟩:=S;show wpAny _ _ (field (.ref z) 2 >>= _) _ _ _;refine wpAny_bind (wpAny_field hz rfl (x:=.bool false) rfl ?_);show wpAny _ _ (field (.ref z) 3 >>= _) _ _ _;refine wpAny_bind (wpAny_field hz rfl (x:=.ref TI) rfl ?_);refine wpAny_bind (wpAny_seqItems hTI rfl ?_);show wpAny _ _ (Builtin.SmallTypes.ownedTupleIsFree (.ref z) >>= _) _ _ _;refine wpAny_bind (K6 hz ha λ h₁ hz₁ hs₁=>?_);simp only[Bool.false_eq_true,if_false];refine wpAny_bind ?_;rw[<-Array.forIn_toList];simp only[List.forIn_cons,List.forIn_nil];refine wpAny_bind (wpAny_bind (wpAny_holding ?_));show wpAny _ _ (Builtin.SmallTypes.nextOf (.ref i1) >>= _) _ _ _;refine wpAny_bind (wpAny_nextOf_list_item (h1.extBut hs₁.extBut D.i1z) (hl1.extBut hs₁.extBut D.l1z) hx λ h₂ h1₂ hs₂=>wpAny_pure ?_);refine wpAny_pure ?_;refine wpAny_bind (wpAny_bind (wpAny_holding ?_));show wpAny _ _ (Builtin.SmallTypes.nextOf (.ref i2) >>= _) _ _ _;refine wpAny_bind (DO ((h2.extBut hs₁.extBut D.i2z).extBut hs₂.extBut D.i12.symm) ((hl2.extBut hs₁.extBut D.l2z).extBut hs₂.extBut D.l2i1) hy λ h₃ h2₃ hs₃=>wpAny_pure ?_);refine wpAny_pure (wpAny_pure ?_);refine wpAny_bind ?_;show wpAny _ _ (newTuple [x,y]) _ _ _;refine wpAny_newTuple (wpAny_pure ⟨_,rfl,?_⟩);have hsz:h₃.objs.size=s.heap.objs.size:=by rw[hs₃.1,hs₂.1,hs₁.1]
 have hz₃:Cv h₃ z TI TO (rawInt a) true:=hs₃.extBut _ _ D.i2z.symm (hs₂.extBut _ _ D.i1z.symm hz₁);have hk₃:∀c o,c≠z->c≠i1->c≠i2->s.heap.get? c=some o->h₃.get? c=some o:=λ c o c1 c3 c4 e=>hs₃.extBut _ _ c4 (hs₂.extBut _ _ c3 (hs₁.extBut _ _ c1 e));have h1₃:h₃.IsListIter i1 l (i+1):=h1₂.extBut hs₃.extBut D.i12;have hT:IsPair (h₃.push { cls:=.type "tuple",data:=.seq #[x,y] }) h₃.objs.size x y:=Heap.get?_push_size _ rfl;show Q (.ref h₃.objs.size) { s with heap:=h₃.push { cls:=.type "tuple",data:=.seq #[x,y] } };have hz8:(h₃.push { cls:=.type "tuple",data:=.seq #[x,y] }).objs.size=s.heap.objs.size+1:=by rw[Heap.size_push,hsz]
 have up:∀c o,h₃.get? c=some o->(h₃.push { cls:=.type "tuple",data:=.seq #[x,y] }).get? c=some o:=λ c o e=>Heap.get?_push_of_some _ e;rw[hsz]at hT |-;generalize h₃.push { cls:=.type "tuple",data:=.seq #[x,y] }=h₈ at hT hz8 up |-;have upk:∀c o,c≠z->c≠TO->c≠i1->c≠i2->s.heap.get? c=some o->h₈.get? c=some o:=λ c o c1 _ c3 c4 e=>up c o (hk₃ c o c1 c3 c4 e);exact hQ h₈ (up _ _ hz₃) ⟨upk _ _ D.TIz D.TITO D.TIi1 D.TIi2 hTI,⟨_,_,up _ _ (hk₃ _ _ D.TOz D.TOi1 D.TOi2 hTO)⟩,h1₃.at λ o e=>up _ o e,let ⟨o,e,r⟩:=h2₃;⟨o,up _ o e,r⟩,hl1.at λ o e=>upk _ o D.l1z D.l1TO D.l1i1 D.l1i2 e,let ⟨o,e,r⟩:=hl2;⟨o,upk _ o D.l2z D.l2TO D.l2i1 D.l2i2 e,r⟩⟩ hT hz8 upk
theorem M9{z TI TO i1 i2 l t:Addr}{f0:Value}{f:Bool}{i:Nat}{xs ys:Array Value}{x:Value}{Q:Fin->Shared->Prop}(hh:A.handled=none)(D:ZipApart z TI TO i1 i2 l t)(hz:Cv s.heap z TI TO f0 f)(h0:(f0=.none/\f=false)\/∃(a:Addr) (oa:Obj),f0=rawInt a/\s.heap.get? a=some oa)(S:Fp s.heap z TI TO i1 i2 l t xs ys i)(hx:xs[i]?=some x)(hy:ys[i]?=none)
  (hE:∀h' e,(∀c o,c≠z->c≠TO->c≠i1->c≠i2->s.heap.get? c=some o->h'.get? c=some o)->(∃o,h'.get? e=some o/\o.cls=.type "StopIteration")->E (.ref e) { s with heap:=h' }) :
  wpAny (model prog w) A (Builtin.«zip.__next__» ⟨[.ref z],[]⟩) Q E s:=by
 obtain⟨hTI,⟨a0,b0,hTO⟩,h1,h2,hl1,hl2⟩:=S;show wpAny _ _ (field (.ref z) 2 >>= _) _ _ _;refine wpAny_bind (wpAny_field hz rfl (x:=.bool false) rfl ?_);show wpAny _ _ (field (.ref z) 3 >>= _) _ _ _;refine wpAny_bind (wpAny_field hz rfl (x:=.ref TI) rfl ?_);refine wpAny_bind (wpAny_seqItems hTI rfl ?_);show wpAny _ _ (Builtin.SmallTypes.ownedTupleIsFree (.ref z) >>= _) _ _ _;rcases h0 with ⟨rfl,rfl⟩|⟨a,oa,rfl,ha⟩
 .refine wpAny_bind ?_;unfold Builtin.SmallTypes.ownedTupleIsFree;refine wpAny_bind (wpAny_field hz rfl (x:=.none) rfl (wpAny_pure ?_));simp only[if_true];refine wpAny_bind (wpAny_rule ?_);refine wpAny_bind (wpAny_field hz rfl (x:=.ref TO) rfl ?_);refine wpAny_bind (wpAny_setField_rec hz (by simp) λ h₁ hz₁ hs₁=>?_)
  replace hz₁:Cv h₁ z TI TO .ellipsis false:=hz₁
  refine wpAny_bind ?_;simp only[List.zipIdx_cons,List.zipIdx_nil,List.forIn_cons,List.forIn_nil];refine wpAny_bind (wpAny_bind (wpAny_onRaise ?_));show wpAny _ _ (Builtin.SmallTypes.nextOf (.ref i1) >>= _) _ _ _;refine wpAny_bind (wpAny_nextOf_list_item (h1.extBut hs₁.extBut D.i1z) (hl1.extBut hs₁.extBut D.l1z) hx λ h₂ h1₂ hs₂=>wpAny_pure ?_);have hTO₂:IsPair h₂ TO a0 b0:=hs₂.extBut _ _ D.TOi1 (hs₁.extBut _ _ D.TOz hTO);refine wpAny_bind (wpAny_seqItems hTO₂ rfl ?_);refine wpAny_bind (wpAny_updateSeq_pair hTO₂ λ h₃ hTO₃ hs₃=>?_);refine wpAny_bind (wpAny_letGo (wpAny_pure ?_));refine wpAny_bind (wpAny_bind (wpAny_onRaise ?_));show wpAny _ _ (Builtin.SmallTypes.nextOf (.ref i2) >>= _) _ _ _;refine wpAny_bind (E7 hh (((h2.extBut hs₁.extBut D.i2z).extBut hs₂.extBut D.i12.symm).extBut hs₃.extBut D.TOi2.symm)
   (((hl2.extBut hs₁.extBut D.l2z).extBut hs₂.extBut D.l2i1).extBut hs₃.extBut D.l2TO) hy λ h₄ e hs₄ he=>?_)
  obtain⟨oe,hoe,hce⟩:=he;have hz₄:Cv h₄ z TI TO .ellipsis false:=hs₄ _ _ D.i2z.symm (hs₃.extBut _ _ D.TOz.symm (hs₂.extBut _ _ D.i1z.symm hz₁));have hez:e≠z:=λ x=>by subst x;rw[hz₄]at hoe;cases hoe;simp at hce
  refine wpAny_setField_rec hz₄ (by simp) λ h₅ _ hs₅=>hE h₅ e (λ c o c1 c2 c3 c4 x=>hs₅.extBut _ _ c1 (hs₄ _ _ c4 (hs₃.extBut _ _ c2 (hs₂.extBut _ _ c3 (hs₁.extBut _ _ c1 x))))) ⟨oe,hs₅.extBut _ _ hez hoe,hce⟩
 .refine wpAny_bind (K6 hz ha λ h₁ hz₁ hs₁=>?_);simp only[Bool.false_eq_true,if_false];refine wpAny_bind ?_;rw[<-Array.forIn_toList];simp only[List.forIn_cons,List.forIn_nil];refine wpAny_bind (wpAny_bind (wpAny_holding ?_));show wpAny _ _ (Builtin.SmallTypes.nextOf (.ref i1) >>= _) _ _ _;refine wpAny_bind (wpAny_nextOf_list_item (h1.extBut hs₁.extBut D.i1z) (hl1.extBut hs₁.extBut D.l1z) hx λ h₂ h1₂ hs₂=>wpAny_pure ?_);refine wpAny_pure ?_;refine wpAny_bind (wpAny_bind (wpAny_holding ?_));show wpAny _ _ (Builtin.SmallTypes.nextOf (.ref i2) >>= _) _ _ _;exact wpAny_bind (E7 hh ((h2.extBut hs₁.extBut D.i2z).extBut hs₂.extBut D.i12.symm) ((hl2.extBut hs₁.extBut D.l2z).extBut hs₂.extBut D.l2i1) hy λ h₄ e hs₄ he=>hE h₄ e (λ c o c1 c2 c3 c4 x=>hs₄ _ _ c4 (hs₂.extBut _ _ c3 (hs₁.extBut _ _ c1 x))) he)
abbrev Qb(h:Heap)(l:Addr):Heap:=h.push { cls:=.type "list_iterator",data:=.fields #[.ref l,.int 0 0] }
abbrev Qa(h:Heap)(l t:Addr):Heap:=(Qb h l).push { cls:=.type "tuple_iterator",data:=.fields #[.ref t,.int 0 0] }
abbrev PZ(h:Heap)(l t:Addr):Heap:=(Qa h l t).push { cls:=.type "tuple",data:=.seq #[.ref h.objs.size,.ref (Qb h l).objs.size] }
abbrev NA(h:Heap)(l t:Addr):Heap:=(PZ h l t).push { cls:=.type "tuple",data:=.seq #[.none,.none] }
abbrev FK(h:Heap)(l t:Addr):Heap:=(NA h l t).push { cls:=.type "zip",data:=.fields #[.none,.bool false,.bool false,.ref (Qa h l t).objs.size,.ref (PZ h l t).objs.size] }
theorem zpH{h:Heap}{l t:Addr}{xs ys:Array Value}(hl:h.IsList l xs)(ht:h.IsTuple t ys):(NA h l t).objs.size=h.objs.size+4/\Cv (FK h l t) (h.objs.size+4) (h.objs.size+2) (h.objs.size+3) .none false/\Fp (FK h l t) (h.objs.size+4) (h.objs.size+2) (h.objs.size+3) h.objs.size (h.objs.size+1) l t xs ys 0/\(FK h l t).objs.size=h.objs.size+5/\∀c o,h.get? c=some o->(FK h l t).get? c=some o:=by
 have z1:(Qb h l).objs.size=h.objs.size+1:=Heap.size_push ..;have z2:(Qa h l t).objs.size=h.objs.size+2:=by rw[Heap.size_push,z1]
 have z3:(PZ h l t).objs.size=h.objs.size+3:=by rw[Heap.size_push,z2]
 have z4:(NA h l t).objs.size=h.objs.size+4:=by rw[Heap.size_push,z3]
 have z5:(FK h l t).objs.size=h.objs.size+5:=by rw[Heap.size_push,z4]
 have g5:(FK h l t).get? (NA h l t).objs.size=some _:=Heap.get?_push_size _ rfl;have g4:(FK h l t).get? (PZ h l t).objs.size=some _:=Heap.get?_push_of_some _ (Heap.get?_push_size _ rfl);have g3:(FK h l t).get? (Qa h l t).objs.size=some _:=Heap.get?_push_of_some _ (Heap.get?_push_of_some _ (Heap.get?_push_size _ rfl));have g2:(FK h l t).get? (Qb h l).objs.size=some _:=Heap.get?_push_of_some _ (Heap.get?_push_of_some _ (Heap.get?_push_of_some _ (Heap.get?_push_size _ rfl)));have g1:(FK h l t).get? h.objs.size=some _:=Heap.get?_push_of_some _ (Heap.get?_push_of_some _ (Heap.get?_push_of_some _ (Heap.get?_push_of_some _ (Heap.get?_push_size _ rfl))));have k:∀c o,h.get? c=some o->(FK h l t).get? c=some o:=λ c o x=>Heap.get?_push_of_some _ (Heap.get?_push_of_some _ (Heap.get?_push_of_some _ (Heap.get?_push_of_some _ (Heap.get?_push_of_some _ x))));rw[z2,z3,z4]at g5;rw[z1,z2]at g3;rw[z3]at g4;rw[z1]at g2;exact⟨z4,g5,⟨g3,⟨_,_,g4⟩,⟨_,g1,rfl,rfl⟩,⟨_,g2,rfl,rfl⟩,hl.at λ o e=>k _ o e,let ⟨o,e,r⟩:=ht;⟨o,k _ o e,r⟩⟩,z5,k⟩
theorem Ou(l t:Addr)(xs ys:Array Value) :
  Meets (Builtin.«zip.__new__» ⟨[.type "zip",.ref l,.ref t],[]⟩) (λ_ R s=>s.heap.IsList l xs/\s.heap.IsTuple t ys /\
   ∀h',Cv h' (s.heap.objs.size+4) (s.heap.objs.size+2) (s.heap.objs.size+3) .none false->Fp h' (s.heap.objs.size+4) (s.heap.objs.size+2) (s.heap.objs.size+3) s.heap.objs.size (s.heap.objs.size+1) l t xs ys 0->h'.objs.size=s.heap.objs.size+5 ->
    (∀c o,s.heap.get? c=some o->h'.get? c=some o)->R (.ok (.ret (.ref (s.heap.objs.size+4)))) { s with heap:=h' }) :=
 .of_wp λ prog w A R s h=>by
  obtain⟨hp,g,d,tk,os⟩:=s;obtain⟨hl1,hl2,h⟩:=h;have hsub:=sub_zip;have hL1:Heap.IsList (Shared.heap ⟨hp,g,d,tk,os⟩) l xs:=hl1;have hL2:Heap.IsTuple (Shared.heap ⟨hp.push { cls:=.type "list_iterator",data:=.fields #[.ref l,.int 0 0] },g,d,tk,os⟩) t ys:=Heap.IsTuple.push hl2 _
  wp_walk using wpAny_pyIter_list hL1,wpAny_pyIter_tuple hL2
  refine⟨_,rfl,?_⟩;show R (.ok (.ret (.ref (NA hp l t).objs.size))) ⟨FK hp l t,g,d,tk,os⟩;obtain⟨z4,a1,a2,a3,a4⟩:=zpH hl1 hl2;rw[show(NA hp l t).objs.size=hp.objs.size+4 from z4];exact h _ a1 a2 a3 a4
theorem Ov{l t:Addr}{xs ys:Array Value}{Q:VPz}(hl:s.heap.IsList l xs)(ht:s.heap.IsTuple t ys)
  (h:∀h',Cv h' (s.heap.objs.size+4) (s.heap.objs.size+2) (s.heap.objs.size+3) .none false->Fp h' (s.heap.objs.size+4) (s.heap.objs.size+2) (s.heap.objs.size+3) s.heap.objs.size (s.heap.objs.size+1) l t xs ys 0->h'.objs.size=s.heap.objs.size+5 ->
   (∀c o,s.heap.get? c=some o->h'.get? c=some o)->Q (.ref (s.heap.objs.size+4)) { s with heap:=h' }):wpAny (model prog w) A (call (.type "zip") [.ref l,.ref t]) Q E s:=by
 refine callType_new PySem.F.called_zip (by decide) (PySem.F.typeCall_zip_2 _ _) (PySem.F.newCall_zip_2 _ _) (λ obj=>PySem.F.args_object_init_3 obj _ _) PySem.F.entry_zip_new (Ou l t xs ys) ⟨hl,ht,λ h' a1 a2 a3 a4=>?_⟩;exact⟨⟨_,a1,rfl⟩,h h' a1 a2 a3 a4⟩
end
theorem L7:typeLookup (.type "zip") "__len__"=pure none:=by rw[typeLookup_type,builtinLookup_eq_fast];kernel_rfl
theorem Kn:typeLookup (.type "zip") "__length_hint__"=pure none:=by rw[typeLookup_type,builtinLookup_eq_fast];kernel_rfl
structure PrsG(xs ys:Array Value)(lo:Addr)(h:Heap)(as:List Addr):Prop where
 rise:as.Pairwise (·<·)
 above:∀a∈as,lo<=a
 pairs:∀(j:Nat)(a:Addr),as[j]?=some a->∃x y,xs[j]?=some x/\ys[j]?=some y/\IsPair h a x y
theorem PrsG.keep{xs ys:Array Value}{lo:Addr}{h h':Heap}{as:List Addr}(g:PrsG xs ys lo h as)(k:∀b o,lo<=b->h.get? b=some o->h'.get? b=some o):PrsG xs ys lo h' as:=⟨g.rise,g.above,λ j a hj=>let ⟨x,y,e1,e2,e3⟩:=g.pairs j a hj;⟨x,y,e1,e2,k _ _ (g.above a (List.mem_of_getElem? hj)) e3⟩⟩
theorem PrsG.lt{xs ys:Array Value}{lo:Addr}{h:Heap}{as:List Addr}(g:PrsG xs ys lo h as){a:Addr}(ha:a∈as):a<h.objs.size:=by
 obtain⟨j,hj⟩:=List.mem_iff_getElem?.mp ha;obtain⟨_,_,_,_,e⟩:=g.pairs j a hj;exact Heap.lt_size e
section
variable{prog:Program}{w:World}{A:Around}{s:Shared}{R:Result->Shared->Prop}{z TI TO i1 i2 l t S lo:Addr}{xs ys:Array Value}
def ZSt(h:Heap)(z TI TO lo:Addr)(i:Nat):Prop:=(i=0/\Cv h z TI TO .none false)\/∃(a:Addr)(f:Bool)(oa:Obj),Cv h z TI TO (rawInt a) f/\h.get? a=some oa/\lo<=a
theorem Qx{E:VPz}{i:Nat}{x y:Value}{Q:Option Value->Shared->Prop}(D:ZipApart z TI TO i1 i2 l t)(hzl:z<lo/\TO<lo/\i1<lo/\i2<lo)(hst:ZSt s.heap z TI TO lo i)(Z:Fp s.heap z TI TO i1 i2 l t xs ys i)(hx:xs[i]?=some x)(hy:ys[i]?=some y)(hlo:lo<=s.heap.objs.size)
  (hQ:∀h',ZSt h' z TI TO lo (i+1)->Fp h' z TI TO i1 i2 l t xs ys (i+1)->IsPair h' s.heap.objs.size x y->h'.objs.size=s.heap.objs.size+1->(∀c o,c≠z->c≠TO->c≠i1->c≠i2->s.heap.get? c=some o->h'.get? c=some o)->Q (some (.ref s.heap.objs.size)) { s with heap:=h' }) :
  wpAny (model prog w) A (pyNext (.ref z)) Q E s:=by
 have hT:s.TypeIs (.ref z) "zip":=by
  rcases hst with ⟨_,q⟩|⟨_,_,_,q,_⟩
  .exact⟨_,q,rfl⟩
  .exact⟨_,q,rfl⟩
 unfold pyNext;refine wpAny_bind (wpAny_attempt (wpAny_callSpecial?_slot (name:=Str.ofString "__next__") hT PySem.F.slot_zip_next (wpAny_call_entry PySem.F.slot_zip_next hT PySem.F.entry_zip_next ?_ (PySem.F.args_zip_next_1 _))));rcases hst with ⟨rfl,q⟩|⟨a,f,oa,q,ha,hal⟩
 .exact NB D q Z hx hy λ h' a1 a2 a3 a4 a5=>wpAny_pure (hQ h' (.inr ⟨_,_,_,a1,a3,hlo⟩) a2 a3 a4 a5)
 .exact Qc D q ha Z hx hy λ h' a1 a2 a3 a4 a5=>wpAny_pure (hQ h' (.inr ⟨a,true,oa,a1,a5 a oa (Nat.ne_of_gt (Nat.lt_of_lt_of_le hzl.1 hal)) (Nat.ne_of_gt (Nat.lt_of_lt_of_le hzl.2.1 hal)) (Nat.ne_of_gt (Nat.lt_of_lt_of_le hzl.2.2.1 hal)) (Nat.ne_of_gt (Nat.lt_of_lt_of_le hzl.2.2.2 hal)) ha,hal⟩) a2 a3 a4 a5)
theorem RK{E:VPz}{i:Nat}{x:Value}{Q:Option Value->Shared->Prop}(hh:A.handled=none)(D:ZipApart z TI TO i1 i2 l t)(hst:ZSt s.heap z TI TO lo i)(Z:Fp s.heap z TI TO i1 i2 l t xs ys i)(hx:xs[i]?=some x)(hy:ys[i]?=none)
  (hQ:∀h',(∀c o,c≠z->c≠TO->c≠i1->c≠i2->s.heap.get? c=some o->h'.get? c=some o)->Q none { s with heap:=h' }):wpAny (model prog w) A (pyNext (.ref z)) Q E s:=by
 have hT:s.TypeIs (.ref z) "zip":=by
  rcases hst with ⟨_,q⟩|⟨_,_,_,q,_⟩
  .exact⟨_,q,rfl⟩
  .exact⟨_,q,rfl⟩
 unfold pyNext;refine wpAny_bind (wpAny_attempt (wpAny_callSpecial?_slot (name:=Str.ofString "__next__") hT PySem.F.slot_zip_next (wpAny_call_entry PySem.F.slot_zip_next hT PySem.F.entry_zip_next ?_ (PySem.F.args_zip_next_1 _))));rcases hst with ⟨rfl,q⟩|⟨a,f,oa,q,ha,hal⟩
 .refine M9 hh D q (.inl ⟨rfl,rfl⟩) Z hx hy λ h' e a1 ⟨o,a2,a3⟩=>?_;refine wpAny_bind (wpAny_isInstance (T:="StopIteration") (b:=true) ⟨o,a2,a3⟩ isSubtype_stop ?_);exact wpAny_pure (hQ _ a1)
 .refine M9 hh D q (.inr ⟨a,oa,rfl,ha⟩) Z hx hy λ h' e a1 ⟨o,a2,a3⟩=>?_;refine wpAny_bind (wpAny_isInstance (T:="StopIteration") (b:=true) ⟨o,a2,a3⟩ isSubtype_stop ?_);exact wpAny_pure (hQ _ a1)
theorem Ow(hh:A.handled=none)(D:ZipApart z TI TO i1 i2 l t)(hSl:S<lo)(hzl:z<lo/\TI<lo/\TO<lo/\i1<lo/\i2<lo/\l<lo/\t<lo)(hS0:S≠z/\S≠TI/\S≠TO/\S≠i1/\S≠i2/\S≠l/\S≠t)(hxy:ys.size<xs.size)(hn:ys.size<=sizeLine)(res:Value){h₁:Heap}
  (hR:∀h' tk acc c as,(∀b o,b≠S->b≠z->b≠TO->b≠i1->b≠i2->h₁.get? b=some o->h'.get? b=some o)->h'.get? S=some { cls:=.type "list",dict:=none,data:=.seq acc c,slots:=#[] }->as.length=ys.size->PrsG xs ys lo h' as ->
   acc.toList=as.map Value.ref->R (.ok (.ret res)) { s with heap:=h',toks:=tk }) :
  ∀(k i:Nat)(h:Heap)(tk c:Nat)(acc:Array Value)(as:List Addr),ys.size-i=k->i<=ys.size->ZSt h z TI TO lo i->Fp h z TI TO i1 i2 l t xs ys i->(∀b o,b≠S->b≠z->b≠TO->b≠i1->b≠i2->h₁.get? b=some o->h.get? b=some o) ->
   h.get? S=some { cls:=.type "list",dict:=none,data:=.seq acc c,slots:=#[] }->acc.toList=as.map Value.ref->as.length=i->PrsG xs ys lo h as->lo<=h.objs.size ->
   codeAny (model prog w) A (.builtin "list.extend.loop" ⟨[.ref S,.ref z,res],[]⟩) R { s with heap:=h,toks:=tk }:=by
 obtain⟨b1,b2,b3,b4,b5,b6,b7⟩:=hzl;obtain⟨c1,c2,c3,c4,c5,c6,c7⟩:=hS0;have off:∀{b:Addr},lo<=b->b≠z/\b≠TO/\b≠i1/\b≠i2/\b≠S:=λ hb=>⟨Nat.ne_of_gt (Nat.lt_of_lt_of_le b1 hb),Nat.ne_of_gt (Nat.lt_of_lt_of_le b3 hb),Nat.ne_of_gt (Nat.lt_of_lt_of_le b4 hb),Nat.ne_of_gt (Nat.lt_of_lt_of_le b5 hb),Nat.ne_of_gt (Nat.lt_of_lt_of_le hSl hb)⟩;intro k
 induction k with
 |zero =>
  intro i h tk c acc as hk hi hst hZ hkeep hS hacc hal hG hlo;refine codeAny_builtin PySem.F.entry_extend_loop ?_;rw[Around.under_plainId PySem.F.plain_extend_loop _];show wpAny _ A.in1 (pyNext (.ref z) >>= _) _ _ _;refine wpAny_bind (RK (s:={ s with heap:=h,toks:=tk }) (A:=A.in1) hh D hst hZ (Array.getElem?_eq_getElem (show i<xs.size by lia)) (Array.getElem?_eq_none (show ys.size<=i by lia)) λ h' hk'=>?_);exact wpAny_pure (hR h' tk acc c as (λ b o n1 n2 n3 n4 n5 q=>hk' b o n2 n3 n4 n5 (hkeep b o n1 n2 n3 n4 n5 q)) (hk' S _ c1 c3 c4 c5 hS) (by lia) (hG.keep λ b o hb q=>hk' b o (off hb).1 (off hb).2.1 (off hb).2.2.1 (off hb).2.2.2.1 q) hacc)
 |succ k ih =>
  intro i h tk c acc as hk hi hst hZ hkeep hS hacc hal hG hlo;have hlt:i<ys.size:=by lia
  have hsz:acc.size=i:=by rw[<-Array.length_toList,hacc,List.length_map,hal]
  have hx:xs[i]?=some xs[i]:=Array.getElem?_eq_getElem (by lia);have hy:ys[i]?=some ys[i]:=Array.getElem?_eq_getElem hlt;refine codeAny_builtin PySem.F.entry_extend_loop ?_;rw[Around.under_plainId PySem.F.plain_extend_loop _];show wpAny _ A.in1 (pyNext (.ref z) >>= _) _ _ _;refine wpAny_bind (Qx (s:={ s with heap:=h,toks:=tk }) (A:=A.in1) D ⟨b1,b3,b4,b5⟩ hst hZ hx hy hlo λ h' hst' hZ' ht hz hkp=>?_);dsimp only at ht hz hkp |-;have hS':=hkp S _ c1 c3 c4 c5 hS;have up:∀b o,b≠S->h'.get? b=some o->(h'.update S (Obj.mapSeq (·.push (Value.ref h.objs.size)))).get? b=some o:=λ b o hb e=>(Heap.get?_update_other _ _ (Ne.symm hb)).trans e;have hS2:(h'.update S (Obj.mapSeq (·.push (Value.ref h.objs.size)))).objs.size=h'.objs.size:=(Heap.SameBut.update (h:=h') (a:=S) (f:=Obj.mapSeq (·.push (Value.ref h.objs.size)))).1;show wpAny _ A.in1 (updateSeq S (·.push (Value.ref h.objs.size)) >>= _) _ _ _;refine wpAny_bind ?_;refine wpAny_updateSeq hS' rfl (wpAny_pure ⟨plainId_quiet PySem.F.plain_extend_loop _,ih (i+1) _ tk _ (acc.push (Value.ref h.objs.size)) (as++[h.objs.size]) (by lia) hlt ?_ ?_
   (λ b o n1 n2 n3 n4 n5 e=>up b o n1 (hkp b o n2 n3 n4 n5 (hkeep b o n1 n2 n3 n4 n5 e))) (Heap.get?_update_self _ hS' rfl) (by rw[Array.toList_push,hacc,List.map_append];rfl) (by rw[List.length_append,hal];rfl) ⟨?_,?_,?_⟩ ?_⟩) (by rw[hsz];lia) (by show(acc.push (Value.ref h.objs.size)).size<=sizeLine+1;rw[Array.size_push,hsz];lia)
  .rcases hst' with ⟨e,_⟩|⟨a,f,oa,q,ha,hal'⟩
   .lia
   .exact .inr ⟨a,f,oa,up _ _ (Ne.symm c1) q,up _ _ (off hal').2.2.2.2 ha,hal'⟩
  .obtain⟨q1,⟨a',b',q2⟩,q3,q4,q5,q6⟩:=hZ';exact⟨up _ _ (Ne.symm c2) q1,⟨a',b',up _ _ (Ne.symm c3) q2⟩,q3.at λ o e=>up _ o (Ne.symm c4) e,let ⟨o,e,r⟩:=q4;⟨o,up _ o (Ne.symm c5) e,r⟩,q5.at λ o e=>up _ o (Ne.symm c6) e,let ⟨o,e,r⟩:=q6;⟨o,up _ o (Ne.symm c7) e,r⟩⟩
  .refine List.pairwise_append.mpr ⟨hG.rise,List.pairwise_singleton _ _,λ a ha b hb=>?_⟩;rw[List.mem_singleton.mp hb];exact hG.lt ha
  .intro a ha;rcases List.mem_append.mp ha with ha|ha
   .exact hG.above a ha
   .rw[List.mem_singleton.mp ha];exact hlo
  .intro j b hj;rcases Nat.lt_trichotomy j as.length with h1|h1|h1
   .rw[List.getElem?_append_left h1]at hj;obtain⟨x',y',e1,e2,e3⟩:=hG.pairs j b hj;have hb:=off (hG.above b (List.mem_of_getElem? hj));exact⟨x',y',e1,e2,up b _ hb.2.2.2.2 (hkp b _ hb.1 hb.2.1 hb.2.2.1 hb.2.2.2.1 e3)⟩
   .subst h1;have hb:h.objs.size=b:=by simpa using hj
    subst hb;exact⟨_,_,by rw[hal];exact hx,by rw[hal];exact hy,up _ _ (off hlo).2.2.2.2 ht⟩
   .have hnone:(as++[h.objs.size])[j]?=none:=List.getElem?_eq_none (by rw[List.length_append,List.length_singleton];lia);rw[hnone]at hj;cases hj
  .rw[hS2,hz];exact Nat.le_succ_of_le hlo
end
section
variable{prog:Program}{w:World}{A:Around}{E:VPz}{s:Shared}{z TI TO i1 i2 l t:Addr}{xs ys:Array Value}
theorem Ox{Q:VPz}(hh:A.handled=none)(D:ZipApart z TI TO i1 i2 l t)(hz:Cv s.heap z TI TO .none false)(Z:Fp s.heap z TI TO i1 i2 l t xs ys 0)(hzl:z<s.heap.objs.size/\TI<s.heap.objs.size/\TO<s.heap.objs.size/\i1<s.heap.objs.size/\i2<s.heap.objs.size/\l<s.heap.objs.size/\t<s.heap.objs.size)(hxy:ys.size<xs.size)(hn:ys.size<=sizeLine)
    (hQ:∀h' tk acc c as,(∀b o,b≠z->b≠TO->b≠i1->b≠i2->s.heap.get? b=some o->h'.get? b=some o)->h'.get? s.heap.objs.size=some { cls:=.type "list",dict:=none,data:=.seq acc c,slots:=#[] }->as.length=ys.size->PrsG xs ys (s.heap.objs.size+1) h' as ->
      acc.toList=as.map Value.ref->Q (.ref s.heap.objs.size) { s with heap:=h',toks:=tk }):wpAny (model prog w) A (call (.type "list") [.ref z]) Q E s:=by
  obtain⟨d1,d2,d3,d4,d5,d6,d7⟩:=hzl;refine callType_codes (Q₁:=λ obj s₁=>obj=.ref s.heap.objs.size/\s₁={ s with heap:=s.heap.push { cls:=.type "list",data:=.seq #[] } }) PySem.F.called_list (PySem.F.typeCall_list_1 _) PySem.F.entry_list_init
    (code_list_new _ ⟨rfl,rfl⟩) λ obj s₁ h₁=>?_
  obtain⟨rfl,rfl⟩:=h₁;have hS:(s.heap.push { cls:=.type "list",data:=.seq #[] }).get? s.heap.objs.size=some { cls:=.type "list",data:=.seq #[] }:=Heap.get?_push_size _ rfl;have k0:∀b o,s.heap.get? b=some o->(s.heap.push { cls:=.type "list",data:=.seq #[] }).get? b=some o:=λ b o e=>Heap.get?_push_of_some _ e;have z0:(s.heap.push { cls:=.type "list",data:=.seq #[] }).objs.size=s.heap.objs.size+1:=Heap.size_push ..;refine⟨⟨_,hS,rfl⟩,PySem.F.args_list_init_2 _ _,?_⟩;generalize s.heap.push { cls:=.type "list",data:=.seq #[] }=hp at hS k0 z0 |-;have hT:Shared.TypeIs { s with heap:=hp } (.ref z) "zip":=⟨_,k0 _ _ hz,rfl⟩;show wpAny _ _ (do let old <-Builtin.List.listItems (.ref s.heap.objs.size);Builtin.List.listUpdate (.ref s.heap.objs.size) (λ_=>#[]);letGo old.toList.reverse;Builtin.List.listExtendWith (.ref s.heap.objs.size) (.ref z) .none) _ _ _;refine wpAny_bind ?_;unfold Builtin.List.listItems;refine wpAny_bind (wpAny_seqItems hS rfl (wpAny_pure ?_));show wpAny _ _ (updateSeq s.heap.objs.size (λ_=>#[]) >>= λ_=>letGo (#[]:Array Value).toList.reverse >>= λ_=>Builtin.List.listExtendWith (.ref s.heap.objs.size) (.ref z) .none) _ _ _;refine wpAny_bind (wpAny_updateSeq hS rfl ?_);have hS₂:=Heap.get?_update_self (Obj.mapSeq (λ_=>(#[]:Array Value))) hS rfl;have k2:∀b o,b≠s.heap.objs.size->hp.get? b=some o->(hp.update s.heap.objs.size (Obj.mapSeq (λ_=>(#[]:Array Value)))).get? b=some o:=λ b o hb e=>(Heap.get?_update_other _ _ (Ne.symm hb)).trans e;have z2:(hp.update s.heap.objs.size (Obj.mapSeq (λ_=>(#[]:Array Value)))).objs.size=hp.objs.size:=(Heap.SameBut.update (h:=hp) (a:=s.heap.objs.size) (f:=Obj.mapSeq (λ_=>(#[]:Array Value)))).1;dsimp only at hS₂ k2 z2 |-;generalize hp.update s.heap.objs.size (Obj.mapSeq (λ_=>(#[]:Array Value)))=hq at hS₂ k2 z2 |-;refine wpAny_bind (wpAny_letGo ?_);unfold Builtin.List.listExtendWith;have ne:∀{b:Addr},b<s.heap.objs.size->b≠s.heap.objs.size:=λ h=>Nat.ne_of_lt h;have kk:∀b o,s.heap.get? b=some o->hq.get? b=some o:=λ b o e=>k2 b o (ne (Heap.lt_size e)) (k0 b o e);have hT2:Shared.TypeIs { s with heap:=hq } (.ref z) "zip":=⟨_,kk _ _ hz,rfl⟩;refine wpAny_bind (wpAny_typeOf (T:="zip") hT2 ?_);have h1:Builtin.List.listSameRef (.ref s.heap.objs.size) (.ref z)=false:=by simp[Builtin.List.listSameRef,Ne.symm (ne d1)]
  have h2:(Value.type "zip"==Value.type "list")=false:=by decide
  have h3:(Value.type "zip"==Value.type "tuple")=false:=by decide
  simp only[h1,h2,h3,Bool.or_false,Bool.false_eq_true,if_false];refine wpAny_bind (wpAny_pyIter_zip (TI:=TI) (TO:=TO) (f0:=.none) (kk _ _ hz) ?_);refine wpAny_bind (wpAny_holding ?_);unfold Builtin.List.listLengthHint;refine wpAny_bind (wpAny_specialOf hT2 L7 ?_);show wpAny _ _ (specialOf (Value.ref z) (Str.ofString "__length_hint__") >>= _) _ _ _;refine wpAny_bind (wpAny_specialOf hT2 Kn ?_);refine wpAny_pure ?_;show wpAny _ _ (rule "list.extend.makes-room" >>= λ_=>Builtin.List.listTouch (.ref s.heap.objs.size) >>= λ_ =>
    again (.builtin "list.extend.loop" ⟨[.ref s.heap.objs.size,.ref z,.none],[]⟩)) _ _ _
  refine wpAny_bind (wpAny_rule ?_);refine wpAny_bind ?_;show wpAny _ _ (updateSeq s.heap.objs.size (·.push .none) >>= λ_=>updateSeq s.heap.objs.size (·.pop)) _ _ _;refine wpAny_bind (wpAny_updateSeq hS₂ rfl ?_);have hS₃:=Heap.get?_update_self (Obj.mapSeq (·.push Value.none)) hS₂ rfl;refine wpAny_updateSeq (hz:=by seq_fits) hS₃ rfl ?_;have hS₄:=Heap.get?_update_self (Obj.mapSeq (·.pop)) hS₃ rfl;have k4:∀b o,b≠s.heap.objs.size->hq.get? b=some o->((hq.update s.heap.objs.size (Obj.mapSeq (·.push Value.none))).update s.heap.objs.size (Obj.mapSeq (·.pop))).get? b=some o :=
    λ b o hb e=>(Heap.get?_update_other _ _ (Ne.symm hb)).trans ((Heap.get?_update_other _ _ (Ne.symm hb)).trans e)
  have z4:((hq.update s.heap.objs.size (Obj.mapSeq (·.push Value.none))).update s.heap.objs.size (Obj.mapSeq (·.pop))).objs.size=hq.objs.size:=by
    rw[(Heap.SameBut.update _ s.heap.objs.size (Obj.mapSeq (·.pop))).1,(Heap.SameBut.update _ s.heap.objs.size (Obj.mapSeq (·.push Value.none))).1]
  dsimp only at hS₄ k4 z4 |-;generalize (hq.update s.heap.objs.size (Obj.mapSeq (·.push Value.none))).update s.heap.objs.size (Obj.mapSeq (·.pop))=hr at hS₄ k4 z4 |-;have kr:∀b o,s.heap.get? b=some o->hr.get? b=some o:=λ b o e=>k4 b o (ne (Heap.lt_size e)) (kk b o e);have lt1:∀{b:Addr},b<s.heap.objs.size->b<s.heap.objs.size+1:=λ h=>Nat.lt_succ_of_lt h;refine wpAny_pure ⟨plainId_quiet PySem.F.plain_extend_loop _,Ow (A:=A.in1) (s:=s) (h₁:=s.heap) (lo:=s.heap.objs.size+1) hh D (Nat.lt_succ_self _) ⟨lt1 d1,lt1 d2,lt1 d3,lt1 d4,lt1 d5,lt1 d6,lt1 d7⟩ ⟨Ne.symm (ne d1),Ne.symm (ne d2),Ne.symm (ne d3),Ne.symm (ne d4),Ne.symm (ne d5),Ne.symm (ne d6),Ne.symm (ne d7)⟩ hxy hn .none
    (λ h' tk acc c as a1 a2 a3 a4 a5=>⟨rfl,hQ h' tk acc c as (λ b o n2 n3 n4 n5 e=>a1 b o (ne (Heap.lt_size e)) n2 n3 n4 n5 e) a2 a3 a4 a5⟩) ys.size 0 hr s.toks _ #[] [] (Nat.sub_zero _) (Nat.zero_le _) (.inl ⟨rfl,kr _ _ hz⟩) ?_ (λ b o _ _ _ _ _ e=>kr b o e) hS₄ rfl rfl ⟨List.Pairwise.nil,(λ_ ha=>nomatch ha),(λ j a hj=>by simp at hj)⟩ (by rw[z4,z2,z0];exact Nat.le_refl _)⟩
  obtain⟨q1,⟨a',b',q2⟩,q3,q4,q5,q6⟩:=Z;exact⟨kr _ _ q1,⟨a',b',kr _ _ q2⟩,q3.at λ o e=>kr _ o e,let ⟨o,e,r⟩:=q4;⟨o,kr _ o e,r⟩,q5.at λ o e=>kr _ o e,let ⟨o,e,r⟩:=q6;⟨o,kr _ o e,r⟩⟩
end
theorem Inv.many{X:Cx}{pins:PNz}{σ:List (Option V)}{H H':Hp}{s:Shared}{h':Heap}{t':Nat}(I:Inv X pins σ H s)(k:∀b u,s.heap.get? b=some u->h'.get? b=some u)(e:∀b o,H b=some o->H' b=some o)(f:∀b,b<s.heap.objs.size->H b=none->H' b=none)
  (new:∀b o,H b=none->H' b=some o->ObjOk X.prog X.w H' h' b o):Inv X pins σ H' { s with heap:=h',toks:=t' }:=by
 refine I.un ⟨λ b u q _ _ _=>k b u q,λ b u q _ _ _=>⟨u.slots,k b u q⟩,λ b u q n _=>f b (Heap.lt_size q) n,λ b u q _=>⟨u,k b u q⟩,λ b xs q=>e b _ q,λ b u xs q=>e b _ q,λ b ps q=>⟨#[],by rw[e b _ q];simp⟩⟩ λ b o q=>?_;cases z:H b with
 |none=>exact new b o z q
 |some v =>
  rw[e b v z]at q;obtain rfl:=Option.some.inj q;exact(I.hok b _ z).stay (λ c v _ q=>k c v q) (λ c q=>e c _ q) λ c xs q=>e c _ q
def Tn(K:Frag)(t:TA):TE:=λ σ H Q=>t σ H λ vs H1=>∃(l u:Addr)(xs ys:LUz),vs=[.ref l,.ref u]/\SqL K H1 l xs/\SqT K H1 u ys/\ys.length<xs.length /\
 ∀r (as:List Addr) H',Same H1 H'->H1 r=none->H' r=some (.lst (as.map V.ref))->as.length=ys.length->(∀(j:Nat)(a:Addr),as[j]?=some a->∃x y,xs[j]?=some x/\ys[j]?=some y/\H' a=some (.tup [x,y]))->Q (.ref r) H'
theorem Vals.back{xs:LUz}{us:LWz}{i:Nat}{u:Value}(r:Vals xs us)(h:us[i]?=some u):∃x,xs[i]?=some x/\RelV x u:=by
 have hl:=r.length;have hi:i<xs.length:=by rw[hl];exact(List.getElem?_eq_some_iff.mp h).1
 obtain⟨u',e,q⟩:=r.get (List.getElem?_eq_getElem hi);rw[h]at e;cases e;exact⟨_,List.getElem?_eq_getElem hi,q⟩
theorem Iv:∀(as:List Addr),Vals (as.map V.ref) (as.map Value.ref)
 |[]=>.nil
 |a::r=>.cons rfl (Iv r)
theorem Qy{X:Cx}{p p2 pos pos2:Pos}{a b:Expr}{t:TA}(hg:Gl X "list")(hm:X.mg "list"=none)(hg2:Gl X "zip")(hm2:X.mg "zip"=none)(ha:PA X [a,b] t)(hc:X.calm=true:=by rfl)
  (he:starEach [a,b] X.env=(false,eval a X.env)::starEach [b] X.env:=by rfl) (hpl:(backTo pos2 (starEach [b] X.env)).any (·.1)=false:=by rfl)
  (he2:starEach [Expr.Call (.Name "zip" p2) [a,b] [] pos2] X.env=(false,eval (Expr.Call (.Name "zip" p2) [a,b] [] pos2) X.env)::starEach [] X.env:=by rfl) :
  PE X (.Call (.Name "list" p) [.Call (.Name "zip" p2) [a,b] [] pos2] [] pos) (Tn X.K t):=by
 intro pins s σ H Q I h;refine wpAny_Call_Name_kw (Dz I hg hm (show bootBuiltins "list"=some (.type "list") by rfl) ?_ (by decide) (by decide));refine PyProof.Rows.callWith_type1 ?_ he2 rfl;rw[he2];show wpAny _ _ (spliced ((false,eval (Expr.Call (.Name "zip" p2) [a,b] [] pos2) X.env)::backTo pos (starEach [] X.env))) _ _ s;refine Calls.spliced_cons ?_;refine wpAny_Call_Name_kw (Dz I hg2 hm2 (show bootBuiltins "zip"=some (.type "zip") by rfl) ?_ (by decide) (by decide));refine PyProof.Rows.callWith_type1 (thn (ha pos2 pins s σ H _ I h) λ us s1 ⟨vs,H1,I1,r1,l,u,xs,ys,ev,hl,hu,lt,q⟩=>?_) he hpl;subst ev;obtain⟨w1,w2,rfl,q1,q2⟩:=MA r1;cases q1;cases q2;obtain⟨is,ri,pl,zl⟩:=I1.list hl;obtain⟨js,rj,pt,zt⟩:=I1.tuple hu;have IL:=pl.isList;have IT:s1.heap.IsTuple u js.toArray:=pt;have ll:l<s1.heap.objs.size:=by obtain⟨o,e,_⟩:=IL;exact Heap.lt_size e
 have lu:u<s1.heap.objs.size:=by obtain⟨o,e,_⟩:=IT;exact Heap.lt_size e
 refine Ov IL IT λ h2 z2 S2 n2 k2=>?_;show wpAny _ _ (spliced (backTo pos (starEach [] X.env))) _ _ _;refine Calls.spliced_nil ?_;have D:ZipApart (s1.heap.objs.size+4) (s1.heap.objs.size+2) (s1.heap.objs.size+3) s1.heap.objs.size (s1.heap.objs.size+1) l u:=by
  have ll:@LT.lt Nat _ l s1.heap.objs.size:=ll;have lu:@LT.lt Nat _ u s1.heap.objs.size:=lu
  constructor<;>first|exact Nat.ne_of_lt (by lia)|exact Nat.ne_of_gt (by lia)
 have below:∀{b:Addr},b<s1.heap.objs.size->b<h2.objs.size:=λ hb=>by rw[n2];exact Nat.lt_of_lt_of_le hb (Nat.le_add_right _ _)
 have jl:js.toArray.size=ys.length:=by rw[List.size_toArray];exact rj.length.symm
 have il:is.toArray.size=xs.length:=by rw[List.size_toArray];exact ri.length.symm
 refine Ox (s:={ s1 with heap:=h2 }) (I.ok.hd hc) D z2 S2 ⟨by show _<h2.objs.size;rw[n2];exact Nat.lt_succ_self _,by show _<h2.objs.size;rw[n2];exact Nat.add_lt_add_left (by decide) _,by show _<h2.objs.size;rw[n2];exact Nat.add_lt_add_left (by decide) _,by show _<h2.objs.size;rw[n2];exact Nat.lt_add_of_pos_right (by decide),by show _<h2.objs.size;rw[n2];exact Nat.add_lt_add_left (by decide) _,below ll,below lu⟩ (by rw[jl,il];exact lt) (by rw[jl];exact zt) λ h3 tk acc c as k3 e3 la g3 ac=>?_;dsimp only at k3 e3 g3 |-;have lowS:s1.heap.objs.size<=h2.objs.size:=by rw[n2];exact Nat.le_add_right _ _
 have low:∀a∈as,s1.heap.objs.size<=a/\a≠h2.objs.size:=λ a ha=>⟨Nat.le_trans lowS (Nat.le_of_lt (g3.above a ha)),Nat.ne_of_gt (g3.above a ha)⟩;have frS:H1 h2.objs.size=none:=I1.hok.fresh lowS;have frA:∀a∈as,H1 a=none:=λ a ha=>I1.hok.fresh (low a ha).1;have keep:∀b o,s1.heap.get? b=some o->h3.get? b=some o:=λ b o e=>by
  have hb:=Heap.lt_size e;exact k3 b o (Nat.ne_of_lt (Nat.lt_of_lt_of_le hb (Nat.le_add_right _ _))) (Nat.ne_of_lt (Nat.lt_of_lt_of_le hb (Nat.le_add_right _ _))) (Nat.ne_of_lt hb) (Nat.ne_of_lt (Nat.lt_of_lt_of_le hb (Nat.le_add_right _ _))) (k2 b o e)
 have nodup:∀{j j':Nat}{a:Addr},as[j]?=some a->as[j']?=some a->j=j':=λ{j j' a} e e'=>by
  obtain⟨l1,q1⟩:=List.getElem?_eq_some_iff.mp e;obtain⟨l2,q2⟩:=List.getElem?_eq_some_iff.mp e';have p:=List.pairwise_iff_getElem.mp g3.rise;rcases Nat.lt_trichotomy j j' with h|h|h
  .have:=p j j' l1 l2 h;rw[q1,q2]at this;exact absurd this (Nat.lt_irrefl _)
  .exact h
  .have:=p j' j l2 l1 h;rw[q1,q2]at this;exact absurd this (Nat.lt_irrefl _)
 have prs:∀(j:Nat)(a:Addr),as[j]?=some a->∃x y ux uy,xs[j]?=some x/\ys[j]?=some y/\RelV x ux/\RelV y uy/\IsPair h3 a ux uy:=λ j a hj=>by
  obtain⟨ux,uy,e1,e2,e3⟩:=g3.pairs j a hj;rw[List.getElem?_toArray]at e1 e2;obtain⟨x,x1,x2⟩:=ri.back e1;obtain⟨y,y1,y2⟩:=rj.back e2;exact⟨x,y,ux,uy,x1,y1,x2,y2,e3⟩
 obtain⟨H',hH⟩:∃H':Hp,H'=λ b=>if b=h2.objs.size then some (.lst (as.map V.ref)) else if b∈as then some (.tup [(xs[as.idxOf b]?).getD .non,(ys[as.idxOf b]?).getD .non]) else H1 b:=⟨_,rfl⟩;have hS:H' h2.objs.size=some (.lst (as.map V.ref)):=by rw[hH];exact if_pos rfl
 have hA:∀(j:Nat)(a:Addr)(x y:V),as[j]?=some a->xs[j]?=some x->ys[j]?=some y->H' a=some (.tup [x,y]):=λ j a x y hj hx hy=>by
  have hm:=List.mem_of_getElem? hj;rw[hH];show(if a=h2.objs.size then _ else if a∈as then _ else _)=_;rw[if_neg (low a hm).2,if_pos hm];have ix:as[as.idxOf a]?=some a:=by
   have hl':=List.idxOf_lt_length_of_mem hm;rw[List.getElem?_eq_getElem hl',List.getElem_idxOf]
  rw[nodup ix hj,hx,hy];rfl
 have hO:∀b,b≠h2.objs.size->b∉as->H' b=H1 b:=λ b n m=>by
  rw[hH];show(if b=h2.objs.size then _ else if b∈as then _ else _)=_;rw[if_neg n,if_neg m]
 have sm:Same H1 H':=λ b o e=>by rw[hO b (λ z=>by rw[z,frS]at e;cases e) (λ m=>by rw[frA b m]at e;cases e)];exact e
 have I3:Inv X pins σ H' { s1 with heap:=h3,toks:=tk }:=by
  refine I1.many keep sm (λ b hb n=>by rw[hO b (Nat.ne_of_lt (Nat.lt_of_lt_of_le hb lowS)) (λ m=>absurd (low b m).1 (Nat.not_le_of_lt hb))];exact n) λ b o n e=>?_;by_cases c1:b=h2.objs.size
  .subst c1;rw[hS]at e;obtain rfl:=Option.some.inj e;refine⟨by rw[List.length_map,la,jl];exact zt,acc.toList,c,?_,by rw[Array.toArray_toList];exact e3⟩;rw[ac];exact Iv as
  .by_cases c2:b∈as
   .obtain⟨j,hj⟩:=List.mem_iff_getElem?.mp c2;obtain⟨x,y,ux,uy,x1,y1,x2,y2,e4⟩:=prs j b hj;rw[hA j b x y hj x1 y1]at e;obtain rfl:=Option.some.inj e;exact⟨(show 2<=sizeLine by decide),[ux,uy],.cons x2 (.cons y2 .nil),_,e4,rfl,_,rfl⟩
   .rw[hO b c1 c2,n]at e;cases e
 exact⟨.ref h2.objs.size,H',I3,rfl,q _ as H' sm frS hS (by rw[la,jl]) λ j a hj=>by
  obtain⟨x,y,ux,uy,x1,y1,x2,y2,e4⟩:=prs j a hj;exact⟨x,y,x1,y1,hA j a x y hj x1 y1⟩⟩
theorem QA{M:Model}{A:Around}{E:VPz}{s:Shared}{K:Frag}{G C e:Addr}{d:Option Addr}{dt:Data}{sl':AOz}{Q:Bool->Shared->Prop}{b:Bool}(X:K.In s.heap)(hG:PY K G)(he:s.heap.get? e=some ⟨.ref C,d,dt,sl'⟩)(hs:mroIn K C (.ref G)=some b)(h:Q b s):wpAny M A (excMatches (.ref e) (.ref G)) Q E s :=
 hG.elim (λ⟨_,z⟩=>Mf X z he hs h) λ z=>Mg X z he hs h
section
variable{X:Cx}{g:Str}{G:Addr}{value:Expr}{b₀:Stmt}{suite:List Stmt}{apos gp hpos pos:Pos}{te:XK->TE}{ts:TS}
theorem K3(he:∀E,PX X value (te E) E)(hgl:Gl X g)(hg:X.mg g=some (.ref G))
  (hG:PY X.K G) (hst:X.stack=X.env::X.outer) (hfr:X.env.frame=some X.env.locals) (hs:∀x,PSs (X.suite x) (b₀::suite) ts)
  (hsw:swapsWith value none apos.line X.env=pure false:=by rfl) (hdb:(g==("__debug__":Str))=false:=by decide) :
  PS X (.Try [.Expr value apos] [.ExceptHandler (some (.Name g gp)) none (b₀::suite) hpos] [] [] pos) (Sz X.K G te ts):=by
 intro pins s σ H D I ⟨E₁,h,hh⟩;rw[arm_exec_Try];refine wpAny_bind (wpAny_standAt (wpAny_tryStmt_except ?_));refine wpAny_execs_cons (wpAny_Expr_any (thn (he E₁ pins s σ H _ _ I h λ x T C d H' s' I' fl q=>?_) λ v s1 ⟨y,H1,I1,r1,q1⟩=>?_) I.quiet hsw)
 .refine F0 I' hst hfr (.inr ⟨T,fl⟩) λ h' T2 hT2 nT2 I2=>?_;obtain⟨hsub,hts⟩:=hh x C d T T2 H' q fl hT2 nT2;have fl2:FJ (thrown H' x C d T2) x C d T2:=⟨De,Et nT2,nT2⟩;obtain⟨⟨vs,sl,e1,e2⟩,_⟩:=(show ObjOk X.prog X.w (thrown H' x C d T2) h' x (Ir C d x T2) from I2.hok x _ fl2.1);obtain⟨⟨o,tv,f1,f2,f3⟩,_⟩:=(show ObjOk X.prog X.w (thrown H' x C d T2) h' T2 (TbO T2) from I2.hok T2 _ fl2.2.1);refine wpAny_handleBy_cons (codeAny_handlers_test (CT (X:=X.suite x) (I2.suite x) hgl hg (QA I2.kIn hG e1 hsub ?_) hdb)) (by intro z;cases z);show codeAny _ _ _ _ _;refine codeAny_handlers_suite (He e1 e2 f1 f2 (Array.getElem?_eq_some_iff.mp f3).1 λ h3 k3 t3=>?_);have same:upd (thrown H' x C d T2) T2 (TbO T2)=thrown H' x C d T2:=funext λ b=>by
   by_cases z:b=T2
   .rw[z,upd_same,Et nT2]
   .rw[Ah z]
  have I3:Inv X pins σ (thrown H' x C d T2) { s' with heap:=h3 }:=by
   have:=I2.write (x:=T2) (e:=T2) (h':=h3) (o:=TbO T2) (t':=s'.toks) (by rw[fl2.2.1];exact True.intro) (.inl rfl) (λ b u nb z=>(k3 b nb).trans z) (let ⟨o,_,e,_⟩:=t3;⟨o,e⟩) (LB t3);rw[same]at this;exact this
  refine wpAny_mono (hs x pins _ _ _ D (I3.suite x) hts) (λ fl s5 q5=>?_) λ_ _ z=>False.elim z;cases fl with
  |next=>obtain⟨σ',H5,I5,q⟩:=q5;exact⟨_,H5,I5.unsuite (ok:=I.ok),q⟩
  |brk=>obtain⟨σ',H5,I5,q⟩:=q5;exact⟨_,H5,I5.unsuite (ok:=I.ok),q⟩
  |cont=>obtain⟨σ',H5,I5,q⟩:=q5;exact⟨_,H5,I5.unsuite (ok:=I.ok),q⟩
  |ret u=>obtain⟨v,σ',H5,I5,r,q⟩:=q5;exact⟨v,_,H5,I5.unsuite (ok:=I.ok),r,q⟩
 .exact wpAny_execs_nil (wpAny_execs_nil ⟨_,H1,I1,q1⟩)
theorem Ig{k:Nat}(hr:Room k X.A):EL X (.builtin "sorted") (λ xs H Q=>∃(p:Addr)(ts:List PR)(m:Nat)(key:List Int->Int),xs=[.ref p]/\SqL X.K H p (ts.map λ t=>V.ref t.1)/\ts.length<64 /\
  (∀t∈ts,H t.1=some (.tup [.ref t.2.1,t.2.2.2])/\H t.2.1=some (.tup (t.2.2.1.map V.int))/\t.2.2.1.length=m+1/\B9 t.2.2.2=true)/\(∀t∈ts,∀u∈ts,HT.lexLt t.2.2.1 u.2.2.1=decide (key t.2.2.1<key u.2.2.1))/\(∀t∈ts,∀u∈ts,t.2.2.1=u.2.2.1->t=u) /\
  ∀l (ts':List PR),H l=none->ts'.Perm ts->(ts'.map λ t=>key t.2.2.1).Pairwise (·<=·)->Q (.ref l) (upd H l (.lst (ts'.map λ t=>V.ref t.1)))):=by
 intro pins s σ H xs us Q I r h;obtain⟨p,ts,m,key,rfl,hp,h64,ht,hkey,huq,q⟩:=h;obtain⟨u,rfl,ru⟩:=Ft r;cases ru;exact Ky I hp (KZ (by have:=hr.units;show X.A.units+1+1+8<_;lia) ht hkey huq) h64 (λ t hm=>Fb (ht t hm).1 (ht t hm).2.1) q
end
end L2
namespace K35
open PySem.W
open PySem L2
def top(i:Nat):Stmt:=PySem.Challenge.pw_glazebench_k35_whole_moves_and_forms.main.body.getD i (.Pass ⟨0,0,0,0⟩)
abbrev DX:Stmt:=top 9
abbrev ES:Stmt:=top 10
abbrev Gw:Stmt:=top 11
abbrev Cr:Stmt:=top 12
abbrev Bt:Stmt:=Bn (top 18) 0
abbrev BZ:Stmt:=Bn (top 19) 0
abbrev CL:Stmt:=Bn (top 20) 0
abbrev EQ:Stmt:=top 21
abbrev DY:Stmt:=top 22
abbrev CH:Stmt:=top 23
abbrev DZ:Stmt:=top 24
abbrev Dj:Stmt:=top 25
abbrev CI:Stmt:=top 26
abbrev Cm:Stmt:=top 27
abbrev BF:Stmt:=top 28
abbrev Cq:Stmt:=top 29
abbrev Cn:Stmt:=top 30
abbrev ET:Stmt:=top 31
abbrev Bq:Stmt:=top 32
abbrev Co:Stmt:=top 36
abbrev BV:Stmt:=top 37
abbrev BK:Stmt:=top 38
abbrev Dk:Stmt:=top 41
abbrev Bk:Stmt:=top 42
abbrev LM:Stmt:=top 44
abbrev JB:Stmt:=top 45
abbrev Gv:Stmt:=top 50
abbrev Cp:Stmt:=top 51
abbrev EU:Stmt:=top 52
abbrev EV:Stmt:=top 53
abbrev ER:Stmt:=top 54
abbrev Di:Stmt:=top 55
abbrev Dh:Stmt:=top 56
abbrev JA:Stmt:=top 57
abbrev DV:Stmt:=top 58
abbrev Ea:Stmt:=top 59
abbrev Dl:Stmt:=top 60
abbrev DW:Stmt:=top 61
abbrev OB:Stmt:=top 62
abbrev Dq:Stmt:=top 64
abbrev Dp:Stmt:=top 65
abbrev B6:Stmt:=top 66
abbrev Dn:Stmt:=top 67
abbrev AT:Stmt:=top 68
abbrev Do:Stmt:=top 69
abbrev CJ:Stmt:=top 70
abbrev Dm:Stmt:=top 71
abbrev Cs:Stmt:=top 72
abbrev BW:Stmt:=top 73
abbrev Ct:Stmt:=top 74
abbrev CK:Stmt:=top 75
abbrev BX:Stmt:=top 76
abbrev AK:Stmt:=top 77
abbrev BY:Stmt:=top 78
abbrev CZ:Stmt:=top 79
theorem nw{H:Hp}{c:Addr}(o:HO)(n:H c=none):∃G,upd H c o=G/\Same H G/\G c=some o:=⟨_,rfl,Same.new n,upd_same⟩
def Ec{α:Type}(ts:List (Addr×α)):LUz:=ts.map λ t=>V.ref t.1
theorem Kz{α:Type}{ts:List (Addr×α)}{i:Nat}{x:V}(h:(Ec ts)[i]?=some x):∃u,ts[i]?=some u/\x=.ref u.1:=by
 rw[Ec,List.getElem?_map]at h;cases e:ts[i]? with
 |none=>rw[e]at h;cases h
 |some u=>rw[e]at h;exact⟨u,rfl,(Option.some.inj h).symm⟩
theorem C3{α:Type}(ts:List (Addr×α)):(Ec ts).length=ts.length:=List.length_map ..
theorem GX{xs:List Int}{i:Nat}{x:V}(h:(xs.map V.int)[i]?=some x):∃z,xs[i]?=some z/\x=.int z:=by
 rw[List.getElem?_map]at h;cases e:xs[i]? with
 |none=>rw[e]at h;cases h
 |some z=>rw[e]at h;exact⟨z,rfl,(Option.some.inj h).symm⟩
theorem Qe{H H':Hp}(s:Same H H'){a:Addr}(h:H' a=none):H a=none:=by
 cases q:H a with
 |none=>rfl
 |some o=>rw[s a o q]at h;cases h
def wd(u:Bool):Str:=if u=true then "upright" else "level"
theorem Rj(u:Bool):decide (V.str (wd u)=V.str "upright")=u:=by cases u<;>decide
theorem AI(u v:Bool):decide (V.str (wd u)=V.str (wd v))=(u==v):=by cases u<;>cases v<;>decide +kernel
theorem AZ(u:Bool):decide (V.str (wd u)=V.str "whole")=false:=by cases u<;>decide +kernel
inductive Tr where
 |whole (m:Option Int)
 |cut (u:Bool) (k:Int) (x y:Tr)
def Tr.dp:Tr->Nat
 |.whole _=>0
 |.cut _ _ x y=>max x.dp y.dp+1
def Tr.sz:Tr->Nat
 |.whole _=>1
 |.cut _ _ x y=>x.sz+y.sz
def AB:Option Int->V
 |none=>.non
 |some i=>.int i
def Told(H:Hp):Tr->V->Prop
 |.whole m,v=>∃a,v=.ref a/\H a=some (.tup [.str "whole",AB m])
 |.cut u k x y,v=>∃a vx vy,v=.ref a/\H a=some (.tup [.str (wd u),.int k,vx,vy])/\Told H x vx/\Told H y vy
theorem Told.same{H H':Hp}(s:Same H H'):∀{t:Tr}{v:V},Told H t v->Told H' t v
 |.whole m,v,h=>by
  rw[Told]at h |-;obtain⟨a,e,h⟩:=h;exact⟨a,e,s _ _ h⟩
 |.cut u k x y,v,h=>by
  rw[Told]at h |-;obtain⟨a,vx,vy,e,h,h1,h2⟩:=h;exact⟨a,vx,vy,e,s _ _ h,Told.same s h1,Told.same s h2⟩
theorem Told.samex{l:Addr}{xs:LUz}{H H':Hp}(s:SameX l H H')(hl:H l=some (.lst xs)):∀{t:Tr}{v:V},Told H t v->Told H' t v
 |.whole m,v,h=>by
  rw[Told]at h |-;obtain⟨a,e,h⟩:=h;exact⟨a,e,s _ _ (F1 h hl (by intro z;cases z)) h⟩
 |.cut u k x y,v,h=>by
  rw[Told]at h |-;obtain⟨a,vx,vy,e,h,h1,h2⟩:=h;exact⟨a,vx,vy,e,s _ _ (F1 h hl (by intro z;cases z)) h,Told.samex s hl h1,Told.samex s hl h2⟩
def Fit:Tr->Int->Int->Prop
 |.whole _,_,_=>True
 |.cut u k x y,w,h=>if u=true then (1<=k/\k<w/\Fit x k h/\Fit y (w-k) h) else (1<=k/\k<h/\Fit x w k/\Fit y w (h-k))
theorem CU:∀{t:Tr}{w h:Int},1<=w->1<=h->Fit t w h->(t.dp:Int)+2<=w+h
 |.whole _,w,h,hw,hh,_=>by show((0:Nat):Int)+2<=_;lia
 |.cut u k x y,w,h,hw,hh,f=>by
  rw[Fit]at f;show((max x.dp y.dp+1:Nat):Int)+2<=_;cases u with
  |true =>
   obtain⟨a,b,c,d⟩:=f;have:=CU a hh c;have:=CU (by lia) hh d;lia
  |false =>
   obtain⟨a,b,c,d⟩:=f;have:=CU hw a c;have:=CU hw (by lia) d;lia
theorem Ei:∀{t:Tr}{w h:Int},1<=w->1<=h->Fit t w h->(t.sz:Int)<=w*h
 |.whole _,w,h,hw,hh,_=>by
  show((1:Nat):Int)<=_;have:=Int.mul_le_mul hw hh (by lia) (by lia);lia
 |.cut u k x y,w,h,hw,hh,f=>by
  rw[Fit]at f;show((x.sz+y.sz:Nat):Int)<=_;cases u with
  |true =>
   obtain⟨a,b,c,d⟩:=f;have h1:=Ei a hh c;have h2:=Ei (by lia) hh d;rw[Int.sub_mul]at h2;lia
  |false =>
   obtain⟨a,b,c,d⟩:=f;have h1:=Ei hw a c;have h2:=Ei hw (by lia) d;rw[Int.mul_sub]at h2;lia
def Da:List Int->Ds
 |[]=>.nil
 |i::r=>.cons (.at (.int i)) (Da r)
theorem GY{K:Frag}{H:Hp}:∀(ns:List Int),DIss K H (Da ns) (ns.map V.int)
 |[]=>by
  show DIss K H .nil [];rw[DIss]
 |i::r=>by
  show DIss K H (.cons (.at (.int i)) (Da r)) (.int i::r.map V.int);rw[DIss];exact⟨_,_,rfl,by rw[DIs];exact⟨rfl,rfl⟩,GY r⟩
theorem Fc:∀(ns:List Int),Be (Da ns)=0
 |[]=>by rw[Da,Be]
 |i::r=>by rw[Da,Be,dep,Fc r];rfl
theorem Oa:∀(ns:List Int),Bd (Da ns) .nil=decide (ns=[])
 |[]=>by rw[Da,Bd];rfl
 |i::r=>by rw[Da,Bd]<;>simp
theorem SL{K:Frag}{H:Hp}{a:Addr}{ns:List Int}(h:SqL K H a (ns.map V.int)):DIs K H (.lst (Da ns)) (.ref a):=by
 rw[DIs];exact⟨a,_,rfl,h,GY _⟩
theorem SB{K:Frag}{H:Hp}{a:Addr}(h:H a=some (.lst [])):DIs K H (.lst .nil) (.ref a):=by
 rw[DIs];exact⟨a,[],rfl,SqL.of h,by rw[DIss]⟩
theorem NZ(ns:List Int):dep (.lst (Da ns))<=50:=by rw[dep,Fc];lia
theorem D7{x0 x1:V}:atI [x0,x1] 0=some x0:=rfl
theorem DS{x0 x1:V}:atI [x0,x1] 1=some x1:=rfl
theorem QR{j:Int}(z:Int)(h:0<j)(h2:j<18446744073709551616):R1 z j:=⟨h,Nat.lt_trans (GP (k:=64) (by decide) (by lia)) (by decide)⟩
theorem MY{a b:Int}(h1:-18446744073709551616<a)(h2:a<18446744073709551616)(h3:-18446744073709551616<b)(h4:b<18446744073709551616):IntMulOk a b:=by
 have c:(2:Nat)^128=340282366920938463463374607431768211456:=by decide +kernel
 refine OP ?_ ?_<;>rw[c]<;>lia
theorem Sg{L:LUz}{i:Int}(h0:0<=i)(h1:i<L.length):∃v,atI L i=some v/\v∈L:=by
 have h:i.toNat<L.length:=by lia
 have e:=EF (List.getElem?_eq_getElem h);rw[Int.toNat_of_nonneg h0]at e;exact⟨_,e,List.getElem_mem h⟩
theorem QY{ns:List Int}{k:Int}(h0:0<=k)(h1:k<(ns.length:Int)):∃z,atI (ns.map V.int) k=some (.int z):=by
 have hk:k.toNat<ns.length:=by lia
 have hz:(ns.map V.int)[k.toNat]?=some (.int ns[k.toNat]):=by rw[List.getElem?_map,List.getElem?_eq_getElem hk];rfl
 have e:=EF hz;rw[Int.toNat_of_nonneg h0]at e;exact⟨_,e⟩
theorem R4{H:Hp}{a:Addr}{xs:LUz}(h:H a=some (.tup xs)):tyS H (.ref a)=some "tuple":=by
 show tyO (H a)=some "tuple";rw[h];rfl
theorem at0{x0 x1 x2 x3:V}:atI [x0,x1,x2,x3] 0=some x0:=rfl
theorem at1{x0 x1 x2 x3:V}:atI [x0,x1,x2,x3] 1=some x1:=rfl
theorem at2{x0 x1 x2 x3:V}:atI [x0,x1,x2,x3] 2=some x2:=rfl
theorem at3{x0 x1 x2 x3:V}:atI [x0,x1,x2,x3] 3=some x3:=rfl
inductive Jh(vs:LUz)(H:Hp)(Q:VK)(E:XK):Prop
 |mk (i:Int) (h0:vs=[.int i]) (h1:Q (.bl true) H):Jh vs H Q E
def Eu:Sp:=λ vs H Q E=>Jh vs H Q E
inductive Ls(vs:LUz)(H:Hp)(Q:VK)(E:XK):Prop
 |mk (i:Int) (h0:vs=[.int i]) (h1:1<=i) (h2:i<=12) (h3:Q (.bl true) H):Ls vs H Q E
def MD:Sp:=λ vs H Q E=>Ls vs H Q E
inductive Jk(vs:LUz)(H:Hp)(Q:VK)(E:XK):Prop
 |mk (w h:Int) (h0:vs=[.int w,.int h]) (h1:1<=w) (h2:w<=12) (h3:1<=h) (h4:h<=12) (h5:∀H',Same H H'->Q .non H'):Jk vs H Q E
def Kw:Sp:=λ vs H Q E=>Jk vs H Q E
inductive L5(K:Frag)(vs:LUz)(H:Hp)(Q:VK)(E:XK):Prop
 |mk (a:Addr) (ns:List Int) (k:Int) (h0:vs=[.ref a,.int k]) (h1:SqL K H a (ns.map V.int)) (h2:0<=k) (h3:∀z,Q (.int z) H):L5 K vs H Q E
def MG(K:Frag) :Sp:=λ vs H Q E=>L5 K vs H Q E
inductive L4(vs:LUz)(H:Hp)(Q:VK)(E:XK):Prop
 |mk (c n m:Int) (h0:vs=[.int c,.int n,.int m]) (h1:0<=n) (h2:n<=1000) (h3:0<m) (h4:∀r,0<=r->r<m->Q (.int r) H):L4 vs H Q E
def J0:Sp:=λ vs H Q E=>L4 vs H Q E
def St8(H:Hp)(a:Addr)(t:Int):Prop:=∃c r:Int,0<=r/\H a=some (.dK [(Sum.inr "cell",.int c),(Sum.inr "rest",.int r),(Sum.inr "times",.int t)])
theorem St8.same{H H':Hp}{a:Addr}{t:Int}(h:St8 H a t)(s:Same H H'):St8 H' a t:=let ⟨c,r,r0,e⟩:=h;⟨c,r,r0,s _ _ e⟩
theorem Told.samed{l:Addr}{tm:Int}{H H':Hp}(s:SameX l H H')(hl:St8 H l tm):∀{t:Tr}{v:V},Told H t v->Told H' t v
 |.whole m,v,h=>by
  rw[Told]at h |-;obtain⟨a,e,h⟩:=h;obtain⟨_,_,_,q⟩:=hl;exact⟨a,e,s _ _ (F1 h q (by intro z;cases z)) h⟩
 |.cut u k x y,v,h=>by
  rw[Told]at h |-;obtain⟨a,vx,vy,e,h,h1,h2⟩:=h;obtain⟨_,_,_,q⟩:=id hl;exact⟨a,vx,vy,e,s _ _ (F1 h q (by intro z;cases z)) h,Told.samed s hl h1,Told.samed s hl h2⟩
inductive Jj(vs:LUz)(H:Hp)(Q:VK)(E:XK):Prop
 |mk (c:Int) (h0:vs=[.int c]) (h1:∀a H',Same H H'->H a=none->St8 H' a 0->Q (.ref a) H'):Jj vs H Q E
def Gk:Sp:=λ vs H Q E=>Jj vs H Q E
inductive Lu(vs:LUz)(H:Hp)(Q:VK)(E:XK):Prop
 |mk (a:Addr) (t m:Int) (h0:vs=[.ref a,.int m]) (h1:St8 H a t) (h2:0<=t) (h3:t<1000) (h4:0<m) (h5:m<=1000) (h6:∀z H',0<=z->z<m->SameX a H H'->St8 H' a (t+1)->Q (.int z) H'):Lu vs H Q E
def Jv:Sp:=λ vs H Q E=>Lu vs H Q E
inductive Lr(n:Nat)(vs:LUz)(H:Hp)(Q:VK)(E:XK):Prop
 |mk (l:Addr) (ms:List Int) (w h:Int) (h0:vs=[.ref l,.int w,.int h]) (h1:H l=some (.lst (ms.map V.int))) (h2:1<=w) (h3:1<=h) (h4:w+h<n) (h5:w<=12) (h6:h<=12) (h7:∀v t H' ms',SameX l H H'->H' l=some (.lst ((ms':List Int).map V.int))->Told H' t v->Fit t w h->t.sz+ms'.length<=ms.length+1->Q v H'):Lr n vs H Q E
def Ev(n:Nat) :Sp:=λ vs H Q E=>Lr n vs H Q E
structure Txt(mg:MGz)(tk:Tok×Tok×Tok×Tok×Tok×Tok×Tok×Tok×Tok×Tok):Prop where
 z_isinstance:mg "isinstance"=none
 z_int:mg "int"=none
 z_bool:mg "bool"=none
 z_tuple:mg "tuple"=none
 z_list:mg "list"=none
 z_len:mg "len"=none
 z_range:mg "range"=none
 z_abs:mg "abs"=none
 z_all:mg "all"=none
 z_any:mg "any"=none
 z_sorted:mg "sorted"=none
 z_str:mg "str"=none
 z_reversed:mg "reversed"=none
 z_zip:mg "zip"=none
 g_LONGEST_SIDE:mg "LONGEST_SIDE"=some (.int 12 tk.1)
 g_WHOLE:mg "WHOLE"=some (.str "whole" tk.2.1)
 g_UPRIGHT:mg "UPRIGHT"=some (.str "upright" tk.2.2.1)
 g_LEVEL:mg "LEVEL"=some (.str "level" tk.2.2.2.1)
 g_TOP:mg "TOP"=some (.int 0 tk.2.2.2.2.1)
 g_LEFT:mg "LEFT"=some (.int 1 tk.2.2.2.2.2.1)
 g_ROOM:mg "ROOM"=some (.str "room" tk.2.2.2.2.2.2.1)
 g_LEAN:mg "LEAN"=some (.str "lean" tk.2.2.2.2.2.2.2.1)
 g_BACK:mg "BACK"=some (.str "back" tk.2.2.2.2.2.2.2.2.1)
 g_CROSS:mg "CROSS"=some (.str "cross" tk.2.2.2.2.2.2.2.2.2)
section
variable{P:Program}{w:World}{K:Frag}{mg:MGz}{base:Heap}{tk:Tok×Tok×Tok×Tok×Tok×Tok×Tok×Tok×Tok×Tok}{cT cW cU cL:Addr}
theorem M4:Am ["thing"] ["thing"] (Af DX):=fsc
theorem KG{f:Addr}{fd:FuncData}(F:Fun K "is_whole" "is_whole" DX f fd)(T:Txt mg tk):A5 P w K mg base CX0 1 f fd ["thing"] Eu:=by
 have S:=M4;refine F.ok S (λ vs H Q E h=>?_) (λ cdv A outer s H vs Q E hr h=>?_)
 .obtain⟨i,rfl,_⟩:=h;rfl
 .obtain⟨i,rfl,q⟩:=h;refine⟨_,(Ad (Aj (Du (A3 BO rfl T.z_isinstance rfl (Aa (pv 0) (Aa (DG (v:=.ty "int") rfl T.z_int rfl rfl) Ab))) (Ee (LQ (A3 BO rfl T.z_isinstance rfl (Aa (pv 0) (Aa (DG (v:=.ty "bool") rfl T.z_bool rfl rfl) Ab)))))))),?_⟩;refine⟨_,rfl,.int i,"int","int",rfl,rfl,.inl rfl,_,rfl,Bo (λ h=>?_) (λ h=>absurd h (by decide))⟩;refine⟨_,rfl,.int i,"int","bool",rfl,rfl,.inr (.inl rfl),_,rfl,?_⟩;have e:(!isB "int" "bool")=true:=by decide
  rw[e];exact q
theorem Oo:Am ["thing"] ["thing"] (Af ES):=fsc
theorem LX{f:Addr}{fd:FuncData}(F:Fun K "is_side" "is_side" ES f fd)(T:Txt mg tk)(D_is_whole:Ap P w K mg base 1 "is_whole" ["thing"] Eu):A5 P w K mg base CX0 2 f fd ["thing"] MD:=by
 have S:=Oo;refine F.ok S (λ vs H Q E h=>?_) (λ cdv A outer s H vs Q E hr h=>?_)
 .obtain⟨i,rfl,_⟩:=h;rfl
 .obtain⟨i,rfl,i1,i2,q⟩:=h;refine⟨_,(Ad (Aj (Du (Ai D_is_whole hr (Aa (pv 0) Ab)) (Ee (G8 GA GA Ae (pv 0) (Az (v:=.int 12) rfl T.g_LONGEST_SIDE ⟨_,rfl⟩)))))),?_⟩;refine⟨_,rfl,i,rfl,_,rfl,Sc ⟨_,rfl,_,_,rfl,rfl,_,rfl,Bo (λ h=>?_) (λ h=>absurd i1 (of_decide_eq_false h))⟩⟩;refine⟨_,_,rfl,rfl,?_⟩;show Q (.bl (decide (i<=12))) H;rw[decide_eq_true i2];exact q
theorem Iq:Am ["width","height","side"] ["width","height"] (Af Cr):=fsc
theorem GM{f:Addr}{fd:FuncData}(F:Fun K "check_sides" "check_sides" Cr f fd)(D_is_side:Ap P w K mg base 2 "is_side" ["thing"] MD):A5 P w K mg base CX0 3 f fd ["width","height"] Kw:=by
 have S:=Iq;refine F.ok S (λ vs H Q E h=>?_) (λ cdv A outer s H vs Q E hr h=>?_)
 .obtain⟨w,h,rfl,_⟩:=h;rfl
 .obtain⟨w,h,rfl,w1,w2,h1,h2,q⟩:=h;refine⟨_,(Ad (CN PassesOwn.never rfl (OH (Av (Aa (pv 0) (Aa (pv 1) Ab)))) (Aw (i:=2) S.nd rfl (Or.inl rfl)) (Ad (A0 (BC (Bb (Ai D_is_side hr (Aa (pv 2) Ab)))) (Ad C7) Al)))),?_⟩;refine⟨_,rfl,_,rfl,Au 2,λ t nt=>⟨t,rfl,⟨_,SqT.of upd_same⟩,Ni (K:=K) (a:=t) (xs:=[.int w,.int h]) (λ i σ H'=>(∃y,σ=[some (.int w),some (.int h),y])/\H'=upd H t (.tup [.int w,.int h])) ⟨⟨none,rfl⟩,rfl⟩ (λ i σ H' _ hp=>by rw[hp.2];exact SqT.of upd_same) ?_ ?_⟩⟩
  .rintro i x σ H' hx ⟨⟨y,rfl⟩,rfl⟩;obtain⟨z,rfl,z1,z2⟩:∃z:Int,x=.int z/\1<=z/\z<=12:=by
    match i,hx with
    |0,hx=>cases hx;exact⟨_,rfl,w1,w2⟩
    |1,hx=>cases hx;exact⟨_,rfl,h1,h2⟩
    |i+2,hx=>cases hx
   exact⟨_,rfl,z,rfl,z1,z2,_,rfl,La ⟨⟨_,rfl⟩,rfl⟩⟩
  .rintro σ H' ⟨_,rfl⟩;exact q _ (Same.new nt)
theorem M3:Am ["_law_script","_law_k"] ["_law_script","_law_k"] (Af Dq):=fsc
theorem KF{f:Addr}{fd:FuncData}(F:Fun K "_law_cell" "_law_cell" Dq f fd)(T:Txt mg tk):A5 P w K mg base CX0 1 f fd ["_law_script","_law_k"] (MG K):=by
 have S:=M3;refine F.ok S (λ vs H Q E h=>?_) (λ cdv A outer s H vs Q E hr h=>?_)
 .obtain⟨a,ns,k,rfl,_⟩:=h;rfl
 .obtain⟨a,ns,k,rfl,hS,k0,q⟩:=h;refine⟨_,(Ac (A0 (Ak Cj (pv 1) (A3 Bi rfl T.z_len rfl (Aa (pv 0) Ab)) (As _)) (Ad (Aj (Aq Bm (pv 0) (pv 1) (λ_ _=>rfl)))) Al)
   (Ad (Aj Ae))),?_⟩
  refine⟨_,rfl,_,rfl,a,_,rfl,.inl hS,_,_,rfl,rfl,_,rfl,Bo (λ c=>?_) (λ c=>q 0)⟩;have c:=of_decide_eq_true c;rw[List.length_map]at c;obtain⟨z,hz⟩:=QY k0 c;exact⟨_,rfl,_,rfl,a,_,_,_,rfl,rfl,hS,hz,q _⟩
theorem M2:Am ["_law_cell_here","_law_nth","_law_many","_law_number"] ["_law_cell_here","_law_nth","_law_many"] (Af Dp):=fsc
theorem KD{f:Addr}{fd:FuncData}(F:Fun K "_law_draw" "_law_draw" Dp f fd):A5 P w K mg base CX0 1 f fd ["_law_cell_here","_law_nth","_law_many"] J0:=by
 have S:=M2;refine F.ok S (λ vs H Q E h=>?_) (λ cdv A outer s H vs Q E hr h=>?_)
 .obtain⟨c,n,m,rfl,_⟩:=h;rfl
 .obtain⟨c,n,m,rfl,n0,n1,m0,q⟩:=h;refine⟨_,(Ac (Ao (i:=3) S.nd rfl (Or.inl rfl) (Ax Cu (Ax FW (Ax AR (Ax AR (Ax Cu (pv 0) Ae) Ae) (Ax FW (pv 1) (pv 1))) Ae) Ae))
   (Ad (Aj (Ax Cu (Ax AR (Ax E6 (pv 3) Ae) (Ax FW (Ax Cu (pv 3) Ae) (pv 1))) (pv 2))))),?_⟩
  have a:=Int.emod_nonneg c (b:=899809363) (by decide);have b:=Int.emod_lt_of_pos c (b:=899809363) (by decide);have nn:0<=n*n/\n*n<=1000000:=⟨Int.mul_nonneg n0 n0,Int.le_trans (Int.mul_le_mul n1 n1 n0 (by decide)) (by decide)⟩;refine⟨_,rfl,_,_,rfl,rfl,(show(0:Int)<899809363 from by decide),_,_,rfl,rfl,_,rfl,_,rfl,_,_,rfl,rfl,MY (by lia) (by lia) (by lia) (by lia),_,_,rfl,rfl,_,_,rfl,rfl,MY (by lia) (by lia) (by decide) (by decide),_,_,rfl,rfl,(show(0:Int)<899809363 from by decide),?_⟩;have g0:=Int.emod_nonneg ((c % 899809363+3+n*n)*60919 % 899809363) (b:=1013) (by decide);have g1:=Int.emod_lt_of_pos ((c % 899809363+3+n*n)*60919 % 899809363) (b:=1013) (by decide);exact⟨_,rfl,_,_,rfl,rfl,QR _ (by decide) (by decide),_,rfl,_,_,rfl,rfl,(show(0:Int)<1013 from by decide),_,rfl,_,_,rfl,rfl,MY (by lia) (by lia) (by lia) (by lia),_,_,rfl,rfl,_,rfl,_,_,rfl,rfl,m0,q _ (Int.emod_nonneg _ (by lia)) (Int.emod_lt_of_pos _ m0)⟩
abbrev stK(c r t:Int):List (Key×V):=[(Sum.inr "cell",.int c),(Sum.inr "rest",.int r),(Sum.inr "times",.int t)]
theorem Ql{c r t:Int}:Eo (stK c r t) (Sum.inr "cell")=some (.int c):=by rw[Cy rfl]
theorem SG:¬(Sum.inr (Str.ofString "cell"):Key)=Sum.inr (Str.ofString "rest"):=by decide
theorem SF:¬(Sum.inr (Str.ofString "cell"):Key)=Sum.inr (Str.ofString "times"):=by decide
theorem SE:¬(Sum.inr (Str.ofString "rest"):Key)=Sum.inr (Str.ofString "times"):=by decide
theorem Qk{c r t:Int}:Eo (stK c r t) (Sum.inr "rest")=some (.int r):=by rw[Cz SG,Cy rfl]
theorem O3{c r t:Int}:Eo (stK c r t) (Sum.inr "times")=some (.int t):=by rw[Cz SF,Cz SE,Cy rfl]
theorem NH{c r t z:Int}:Dr (stK c r t) (Sum.inr "times") (.int z)=stK c r z:=rfl
theorem OF{c r t z:Int}:Dr (stK c r t) (Sum.inr "rest") (.int z)=stK c z t:=rfl
theorem Pk{H:Hp}{a:Addr}{c r t:Int}(e:H a=some (.dK (stK c r t))):DGet H a (.str "cell") (some (.int c)):=by have:=DGet.k (k:=Sum.inr "cell") e;rw[Ql]at this;exact this
theorem Pj{H:Hp}{a:Addr}{c r t:Int}(e:H a=some (.dK (stK c r t))):DGet H a (.str "rest") (some (.int r)):=by have:=DGet.k (k:=Sum.inr "rest") e;rw[Qk]at this;exact this
theorem IV{H:Hp}{a:Addr}{c r t:Int}(e:H a=some (.dK (stK c r t))):DGet H a (.str "times") (some (.int t)):=by have:=DGet.k (k:=Sum.inr "times") e;rw[O3]at this;exact this
theorem Mt{H:Hp}{a:Addr}{c r t z:Int}(e:H a=some (.dK (stK c r t))):DPut H a (.str "times") (.int z) (upd H a (.dK (stK c r z))):=by have:=DPut.k (k:=Sum.inr "times") (v:=.int z) e (A2 (by show 3<=1000;decide));rw[NH]at this;exact this
theorem Og{H:Hp}{a:Addr}{c r t z:Int}(e:H a=some (.dK (stK c r t))):DPut H a (.str "rest") (.int z) (upd H a (.dK (stK c z t))):=by have:=DPut.k (k:=Sum.inr "rest") (v:=.int z) e (A2 (by show 3<=1000;decide));rw[OF]at this;exact this
theorem Ln:Am ["_law_cell_here","_law_rest"] ["_law_cell_here"] (Af B6):=fsc
theorem JK{f:Addr}{fd:FuncData}(F:Fun K "_law_state" "_law_state" B6 f fd)(T:Txt mg tk):A5 P w K mg base CX0 1 f fd ["_law_cell_here"] Gk:=by
 have S:=Ln;refine F.ok S (λ vs H Q E h=>?_) (λ cdv A outer s H vs Q E hr h=>?_)
 .obtain⟨c,rfl,_⟩:=h;rfl
 .obtain⟨c,rfl,q⟩:=h;obtain⟨tt,htt,fin⟩:∃rd,PSs (B5 CX0 P w K mg base ["_law_cell_here","_law_rest"] "_law_state" (Af B6) f cdv A outer s H E).nox ((A4 B6).drop 2) rd /\
    ∀(r:Int),0<=r->rd { nx:=λ_ H'=>Q .non H',rt:=Q } [some (.int c),some (.int r)] H:=by
   refine⟨_,(Ad (Aj (Q1 (G5 A6 (pv 0) (G5 A6 (pv 1) (G5 A6 Ae Qw))) rfl rfl (by decide) (by decide)))),?_⟩;intro r r0;refine λ p np=>⟨_,rfl,_,rfl,⟨upd_same,stK c r 0,rfl,by show 3<=15;decide,q p _ ?_ np ⟨c,r,r0,upd_same⟩⟩⟩;intro x o e;rw[Ah (Ag e np),Ah (Ag e np)];exact e
  refine⟨_,(Ac (Ao (i:=1) S.nd rfl (Or.inl rfl) Ae)
   (Ac (A0 (PW.pt (Fw (Ak Cj (pv 0) Ae (As _)) (EW (Ak Rs (pv 0) (Ax RP Ae Ae) (As _))))) (Ad (Ao (i:=1) S.nd rfl (Or.inl rfl) (A3 P4 rfl T.z_abs rfl (Aa (pv 0) Ab)))) Al)
   htt)),?_⟩
  refine⟨_,rfl,_,_,rfl,rfl,_,rfl,Bo (λ h=>?_) (λ h=>?_)⟩
  .refine Sc ⟨_,rfl,_,rfl,?_⟩;exact fin _ (by split<;>lia)
  .refine⟨_,rfl,_,_,rfl,rfl,⟨by decide,by decide,by decide⟩,_,_,rfl,rfl,_,rfl,Bo (λ h2=>?_) (λ h2=>fin 0 (Int.le_refl _))⟩;refine⟨_,rfl,_,rfl,?_⟩;exact fin _ (by split<;>lia)
theorem M1:Am ["_law_state_here","_law_many","_law_rest"] ["_law_state_here","_law_many"] (Af Dn):=fsc
theorem KB{f:Addr}{fd:FuncData}(F:Fun K "_law_pick" "_law_pick" Dn f fd)(D__law_draw:Ap P w K mg base 1 "_law_draw" ["_law_cell_here","_law_nth","_law_many"] J0):A5 P w K mg base CX0 2 f fd ["_law_state_here","_law_many"] Jv:=by
 have S:=M1;refine F.ok S (λ vs H Q E h=>?_) (λ cdv A outer s H vs Q E hr h=>?_)
 .obtain⟨a,t,m,rfl,_⟩:=h;rfl
 .obtain⟨a,t,m,rfl,⟨c,r,r0,e⟩,t0,t1,m0,m1,q⟩:=h;have hu:=SO hr;refine⟨_,(Ac (Ao (i:=2) S.nd rfl (Or.inl rfl) (FV hu (pv 0) A6 (λ_ _=>rfl)))
   (Ac (MM hu (pv 0) A6 (Ax AR (FV hu (pv 0) A6 (λ_ _=>rfl)) Ae) rfl)
   (Ac (A0 (Ak AN (pv 2) Ae (As _)) (Ad (Aj (Ai D__law_draw hr (Aa (FV hu (pv 0) A6 (λ_ _=>rfl)) (Aa (FV hu (pv 0) A6 (λ_ _=>rfl)) (Aa (pv 1) Ab)))))) Al)
   (Ac (MM hu (pv 0) A6 (Ax E6 (pv 2) (pv 1)) rfl)
   (Ad (Aj (Ax Cu (pv 2) (pv 1)))))))),?_⟩
  refine⟨_,rfl,a,_,rfl,Pj e,?_⟩;refine⟨_,rfl,a,_,rfl,IV e,_,_,rfl,rfl,_,rfl,a,_,rfl,Mt e,?_⟩;have e1:(upd H a (.dK (stK c r (t+1)))) a=some (.dK (stK c r (t+1))):=upd_same;have s1:SameX a H (upd H a (.dK (stK c r (t+1)))):=SameX.upd;generalize upd H a (.dK (stK c r (t+1)))=H1 at e1 s1 |-;refine⟨_,rfl,rfl,_,rfl,Bo (λ z=>?_) (λ z=>?_)⟩
  .exact⟨_,rfl,a,_,rfl,Pk e1,_,rfl,a,_,rfl,IV e1,_,rfl,c,t+1,m,rfl,by lia,by lia,m0,λ z z0 z1=>q z _ z0 z1 s1 ⟨c,r,r0,e1⟩⟩
  .exact⟨_,rfl,_,rfl,_,_,rfl,rfl,QR _ m0 (by lia),_,rfl,a,_,rfl,Og e1,_,rfl,_,rfl,_,_,rfl,rfl,m0,q _ _ (Int.emod_nonneg _ (by lia)) (Int.emod_lt_of_pos _ m0) (s1.trans SameX.upd) ⟨c,r / m,Int.ediv_nonneg r0 (by lia),upd_same⟩⟩
theorem B8{f:Addr}{fd:FuncData}{x qual:Str}{st:Stmt}{N ps:LSz}{k:Nat}{sp:Sp}(F:Fun K x qual st f fd)(S:Am N ps (Af st))(h:∀vs H Q E,¬sp vs H Q E):A5 P w K mg base CX0 (k+1) f fd ps sp :=
 F.ok S (λ vs H Q E z=>absurd z (h vs H Q E)) (λ cdv A outer s H vs Q E hr z=>absurd z (h vs H Q E))
theorem AH{c:Bool}{A B:Prop}(h:c=true)(a:A):if c=true then A else B:=by rw[if_pos h];exact a
abbrev Kj:LSz:=["_law_cells","_law_width","_law_height","_law_state_here","_law_way","_law_at","_law_first"]
theorem Ht:Am Kj ["_law_cells","_law_width","_law_height"] (Af AT):=fsc
theorem Sk{vs:LUz}{H:Hp}{Q:VK}{E:XK}:¬Ev 0 vs H Q E:=by
 rintro⟨l,ms,w,h,_,_,h1,h2,h3,_⟩;lia
theorem QB{v:V}{a b:Int}(h:v∈([.non,.int a,.int b]:LUz)):∃m,v=AB m:=by
 simp only[List.mem_cons,List.not_mem_nil,or_false]at h;rcases h with rfl|rfl|rfl
 .exact⟨none,rfl⟩
 .exact⟨some a,rfl⟩
 .exact⟨some b,rfl⟩
theorem K9{f:Addr}{fd:FuncData}{n:Nat}(F:Fun K "_law_tree" "_law_tree" AT f fd)(D__law_state:Ap P w K mg base 1 "_law_state" ["_law_cell_here"] Gk)(D__law_pick:Ap P w K mg base 2 "_law_pick" ["_law_state_here","_law_many"] Jv)
  (D__law_tree:Ap P w K mg base (n+3) "_law_tree" ["_law_cells","_law_width","_law_height"] (Ev n)):A5 P w K mg base CX0 (n+4) f fd ["_law_cells","_law_width","_law_height"] (Ev (n+1)):=by
 have S:=Ht;refine F.ok S (λ vs H Q E h=>?_) (λ cdv A outer s H vs Q E hr h=>?_)
 .obtain⟨l,ms,ww,hh,rfl,_⟩:=h;rfl
 .obtain⟨l,ms,ww,hh,rfl,hl,w1,h1,wh,w12,h12,q⟩:=h;obtain⟨t5,h5,k5⟩:∃rd,PSs (B5 CX0 P w K mg base Kj "_law_tree" (Af AT) f cdv A outer s H E).nox ((A4 AT).drop 5) rd/\∀(st:Addr)(x4 x5 x6:Option V)(ms2:List Int)(H4:Hp),St8 H4 st 1->SameX l H H4->H4 l=some (.lst (ms2.map V.int))->H st=none->ms2.length<ms.length->rd { nx:=λ_ H'=>Q .non H',rt:=Q } [some (.ref l),some (.int ww),some (.int hh),some (.ref st),x4,x5,x6] H4:=by
   refine⟨_,(Ad (Aj (Av (Aa A6 (Aa (Aq Bm (AQ (Aa Br (Aa (Ai D__law_pick hr (Aa (pv 3) (Aa Ae Ab)) (by lia)) (Aa (Ai D__law_pick hr (Aa (pv 3) (Aa Ae Ab)) (by lia)) Ab)))) (Ai D__law_pick hr (Aa (pv 3) (Aa Ae Ab)) (by lia)) (λ_ _=>rfl)) Ab))))),?_⟩;intro st x4 x5 x6 ms2 H4 s4 T4 C4 ns ml;have sl:st≠l:=λ z=>by rw[z,hl]at ns;cases ns
   refine⟨_,rfl,st,1,1000,rfl,s4,by decide,by decide,by decide,by decide,λ z1 H5 _ _ y5 s5=>?_⟩;refine⟨_,rfl,st,1+1,3,rfl,s5,by decide,by decide,by decide,by decide,λ z2 H6 _ _ y6 s6=>?_⟩;refine⟨Au 3,λ L nL=>?_⟩;obtain⟨H7,g,y7,eL⟩:=nw (.lst [.non,.int z1,.int z2]) nL;rw[g];refine⟨_,rfl,st,1+1+1,3,rfl,s6.same y7,by decide,by decide,by decide,by decide,λ z3 H8 b0 b1 y8 s8=>?_⟩;have Lst:L≠st:=λ z=>by obtain⟨_,_,_,e⟩:=s6;rw[z,e]at nL;cases nL
   obtain⟨v,hv,hm⟩:=Sg (L:=[.non,.int z1,.int z2]) (i:=z3) b0 b1;refine⟨L,_,_,v,rfl,rfl,SqL.of (y8 _ _ Lst eL),hv,?_⟩;obtain⟨m,rfl⟩:=QB hm;have y48:SameX st H4 H8:=(y5.trans y6).trans (y7.x.trans y8);refine⟨Au 2,λ t ht=>q (.ref t) (.whole m) _ ms2 (λ x o nx ex=>?_) ?_ (by rw[Told];exact⟨t,rfl,upd_same⟩) (by rw[Fit];trivial) (by show 1+_<=_;lia)⟩
   .exact(Same.new ht) _ _ (y48 x o (Ag ex ns) (T4 x o nx ex))
   .exact(Same.new ht) _ _ (y48 _ _ (Ne.symm sl) C4)
  obtain⟨t4,h4,k4⟩:∃rd,PSs (B5 CX0 P w K mg base Kj "_law_tree" (Af AT) f cdv A outer s H E).nox ((A4 AT).drop 4) rd/\∀(st:Addr)(way:Int)(x5 x6:Option V)(ms2:List Int)(H4:Hp),St8 H4 st 1->SameX l H H4->H4 l=some (.lst (ms2.map V.int))->H st=none->ms2.length<ms.length->rd { nx:=λ_ H'=>Q .non H',rt:=Q } [some (.ref l),some (.int ww),some (.int hh),some (.ref st),some (.int way),x5,x6] H4:=by
   refine⟨_,(Ac (A0 (PW.pt (G0 (K1 Cj Cj Ae (pv 4) Ae) (E1 (Ak IG (pv 2) Ae (As _))))) (Ac (Ao (i:=5) S.nd rfl (Or.inl rfl) (Ax AR Ae (Ai D__law_pick hr (Aa (pv 3) (Aa (Ax B4 (pv 2) Ae) Ab)) (by lia))))
   (Ac (Ao (i:=6) S.nd rfl (Or.inl rfl) (Ai D__law_tree hr (Aa (pv 0) (Aa (pv 1) (Aa (pv 5) Ab))) (by lia)))
   (Ad (Aj (Av (Aa A6 (Aa (pv 5) (Aa (pv 6) (Aa (Ai D__law_tree hr (Aa (pv 0) (Aa (pv 1) (Aa (Ax B4 (pv 2) (pv 5)) Ab))) (by lia)) Ab))))))))) Al)
   h5),?_⟩
   intro st way x5 x6 ms2 H4 s4 T4 C4 ns ml;have sl:st≠l:=λ z=>by rw[z,hl]at ns;cases ns
   have back:=k5 st (some (.int way)) x5 x6 ms2 H4 s4 T4 C4 ns ml;refine⟨_,rfl,_,_,rfl,rfl,_,rfl,Bo (λ c0=>⟨_,_,rfl,rfl,_,rfl,Bo (λ c1=>⟨_,rfl,_,_,rfl,rfl,_,rfl,Bo (λ c2=>?_) (λ c2=>back)⟩) (λ c1=>La back)⟩) (λ c0=>⟨_,rfl,La back⟩)⟩;have c2:=of_decide_eq_true c2;refine⟨_,rfl,_,rfl,_,_,rfl,rfl,st,1,hh-1,rfl,s4,by decide,by decide,by lia,by lia,λ x H5 a0 a1 y5 s5=>⟨_,_,rfl,rfl,?_⟩⟩;have C5:=y5 _ _ (Ne.symm sl) C4;refine⟨_,rfl,_,rfl,_,rfl,l,ms2,ww,1+x,rfl,C5,by lia,by lia,by lia,by lia,by lia,λ v1 y1 H6 ms3 s6 e6 told1 fit1 z1=>?_⟩;refine⟨_,rfl,_,rfl,_,rfl,_,rfl,_,rfl,_,rfl,_,_,rfl,rfl,l,ms3,ww,hh-(1+x),rfl,e6,by lia,by lia,by lia,by lia,by lia,λ v2 y2 H7 ms4 s7 e7 told2 fit2 z2=>⟨Au 4,λ t' ht'=>?_⟩⟩;have s8:Same H7 (upd H7 t' (.tup [.str (wd false),.int (1+x),v1,v2])):=Same.new ht';refine q (.ref t') (.cut false (1+x) y1 y2) _ ms4 (λ c o nx ex=>?_) (s8 _ _ e7) ?_ ?_ (by show y1.sz+y2.sz+_<=_;lia)
   .exact s8 _ _ (s7 _ _ nx (s6 _ _ nx (y5 _ _ (Ag ex ns) (T4 c o nx ex))))
   .rw[Told];exact⟨t',v1,v2,rfl,upd_same,(told1.samex s7 e6).same s8,told2.same s8⟩
   .rw[Fit];exact⟨by lia,by lia,fit1,fit2⟩
  obtain⟨t3,h3,k3⟩:∃rd,PSs (B5 CX0 P w K mg base Kj "_law_tree" (Af AT) f cdv A outer s H E).nox ((A4 AT).drop 3) rd/\∀(st:Addr)(way:Int)(x5 x6:Option V)(ms2:List Int)(H4:Hp),St8 H4 st 1->SameX l H H4->H4 l=some (.lst (ms2.map V.int))->H st=none->ms2.length<ms.length->rd { nx:=λ_ H'=>Q .non H',rt:=Q } [some (.ref l),some (.int ww),some (.int hh),some (.ref st),some (.int way),x5,x6] H4:=by
   refine⟨_,(Ac (A0 (PW.pt (G0 (Ak Cj (pv 4) Ae (As _)) (E1 (Ak IG (pv 1) Ae (As _))))) (Ac (Ao (i:=5) S.nd rfl (Or.inl rfl) (Ax AR Ae (Ai D__law_pick hr (Aa (pv 3) (Aa (Ax B4 (pv 1) Ae) Ab)) (by lia))))
   (Ac (Ao (i:=6) S.nd rfl (Or.inl rfl) (Ai D__law_tree hr (Aa (pv 0) (Aa (pv 5) (Aa (pv 2) Ab))) (by lia)))
   (Ad (Aj (Av (Aa A6 (Aa (pv 5) (Aa (pv 6) (Aa (Ai D__law_tree hr (Aa (pv 0) (Aa (Ax B4 (pv 1) (pv 5)) (Aa (pv 2) Ab))) (by lia)) Ab))))))))) Al)
   h4),?_⟩
   intro st way x5 x6 ms2 H4 s4 T4 C4 ns ml;have sl:st≠l:=λ z=>by rw[z,hl]at ns;cases ns
   have back:=k4 st way x5 x6 ms2 H4 s4 T4 C4 ns ml;refine⟨_,rfl,_,_,rfl,rfl,_,rfl,Bo (λ c1=>?_) (λ c1=>La back)⟩;refine⟨_,rfl,_,_,rfl,rfl,_,rfl,Bo (λ c2=>?_) (λ c2=>back)⟩;have c2:=of_decide_eq_true c2;refine⟨_,rfl,_,rfl,_,_,rfl,rfl,st,1,ww-1,rfl,s4,by decide,by decide,by lia,by lia,λ x H5 a0 a1 y5 s5=>⟨_,_,rfl,rfl,?_⟩⟩;have C5:=y5 _ _ (Ne.symm sl) C4;refine⟨_,rfl,_,rfl,_,rfl,l,ms2,1+x,hh,rfl,C5,by lia,by lia,by lia,by lia,by lia,λ v1 y1 H6 ms3 s6 e6 told1 fit1 z1=>?_⟩;refine⟨_,rfl,_,rfl,_,rfl,_,rfl,_,rfl,_,_,rfl,rfl,_,rfl,l,ms3,ww-(1+x),hh,rfl,e6,by lia,by lia,by lia,by lia,by lia,λ v2 y2 H7 ms4 s7 e7 told2 fit2 z2=>⟨Au 4,λ t' ht'=>?_⟩⟩;have s8:Same H7 (upd H7 t' (.tup [.str (wd true),.int (1+x),v1,v2])):=Same.new ht';refine q (.ref t') (.cut true (1+x) y1 y2) _ ms4 (λ c o nx ex=>?_) (s8 _ _ e7) ?_ ?_ (by show y1.sz+y2.sz+_<=_;lia)
   .exact s8 _ _ (s7 _ _ nx (s6 _ _ nx (y5 _ _ (Ag ex ns) (T4 c o nx ex))))
   .rw[Told];exact⟨t',v1,v2,rfl,upd_same,(told1.samex s7 e6).same s8,told2.same s8⟩
   .rw[Fit];exact⟨by lia,by lia,fit1,fit2⟩
  refine⟨_,(Ac (A0 (Ak (JF hr) (pv 0) (AQ Ab) (As _)) (Ad (Aj (Av (Aa A6 (Aa Br Ab))))) Al)
   (Ac (Ao (i:=3) S.nd rfl (Or.inl rfl) (Ai D__law_state hr (Aa (Ef PySem.F.plainAttrs_list PySem.F.slot_list_pop PySem.F.type_list_pop Eh (pv 0)) Ab) (by lia)))
   (Ac (Ao (i:=4) S.nd rfl (Or.inl rfl) (Ai D__law_pick hr (Aa (pv 3) (Aa Ae Ab)) (by lia)))
   h3))),?_⟩
  refine⟨_,rfl,Au 0,λ e2 he2=>?_⟩;have s2:Same H (upd H e2 (.lst [])):=Same.new he2;refine⟨_,_,SL (SqL.of (s2 _ _ hl)),SB upd_same,⟨_,rfl⟩,⟨_,rfl⟩,NZ _,_,rfl,Bo (λ c=>?_) (λ c=>?_)⟩
  .exact⟨Au 2,λ t ht=>q (.ref t) (.whole none) _ ms (s2.trans (Same.new ht)).x ((s2.trans (Same.new ht)) _ _ hl) (by rw[Told];exact⟨t,rfl,upd_same⟩) (by rw[Fit];trivial) (by show 1+_<=_;lia)⟩
  have hne:ms≠[]:=λ z=>by rw[if_neg Bool.false_ne_true,deq,Oa,decide_eq_true z]at c;cases c
  obtain⟨ms2,z,rfl⟩:∃ms2 z,ms=ms2++[z]:=⟨ms.dropLast,ms.getLast hne,(List.dropLast_concat_getLast hne).symm⟩;have hlast:((ms2++[z]).map V.int)[((ms2++[z]).map V.int).length-1]?=some (.int z):=by
   rw[List.length_map,List.length_append,List.length_singleton,Nat.add_sub_cancel,List.getElem?_map,List.getElem?_append_right (Nat.le_refl _),Nat.sub_self];rfl
  have hdl:((ms2++[z]).map V.int).dropLast=ms2.map V.int:=by rw[List.map_append,List.map_singleton,List.dropLast_concat]
  have hl1:=s2 _ _ hl;have S1:SameX l H (upd H e2 (.lst [])):=s2.x;generalize upd H e2 (.lst [])=H1 at hl1 S1 |-;refine⟨_,rfl,.inl ⟨rfl,_,SqL.of hl1⟩,l,_,_,rfl,rfl,hl1,hlast,z,rfl,λ st H3 s3 n3 st3=>?_⟩;rw[hdl]at s3 n3;have nl:st≠l:=λ y=>by rw[y,upd_same]at n3;cases n3
  have n1:H1 st=none:=by rw[Ah nl]at n3;exact n3
  have n0:H st=none:=by
   cases qq:H st with
   |none=>rfl
   |some o=>rw[S1 st o nl qq]at n1;cases n1
  refine⟨_,rfl,st,0,7,rfl,st3,by decide,by decide,by decide,by decide,λ way H4 _ _ y4 s4=>?_⟩;refine k3 st way none none ms2 H4 s4 (λ x o nx ex=>?_) ?_ n0 (by rw[List.length_append,List.length_singleton];lia)
  .exact y4 _ _ (Ag ex n0) (s3 _ _ (by rw[Ah nx];exact S1 x o nx ex))
  .exact y4 _ _ (Ne.symm nl) (s3 _ _ upd_same)
def Ic(cU cL:Addr)(u:Bool):Addr:=if u then cU else cL
abbrev wF(m:V):LFz:=C6 "mark" m []
abbrev cF(k:Int)(vx vy:V):LFz:=C6 "other" vy (C6 "first" vx (C6 "at" (.int k) []))
def Obj(cW cU cL:Addr)(H:Hp):Tr->V->Prop
 |.whole m,v=>∃a dx,v=.ref a/\H a=some (.ins cW dx (wF (AB m)))
 |.cut u k x y,v=>∃a dx vx vy,v=.ref a/\H a=some (.ins (Ic cU cL u) dx (cF k vx vy))/\Obj cW cU cL H x vx/\Obj cW cU cL H y vy
theorem Obj.same{H H':Hp}(s:Same H H'):∀{t:Tr}{v:V},Obj cW cU cL H t v->Obj cW cU cL H' t v
 |.whole m,v,h=>by
  rw[Obj]at h |-;obtain⟨a,dx,e,h⟩:=h;exact⟨a,dx,e,s _ _ h⟩
 |.cut u k x y,v,h=>by
  rw[Obj]at h |-;obtain⟨a,dx,vx,vy,e,h,h1,h2⟩:=h;exact⟨a,dx,vx,vy,e,s _ _ h,Obj.same s h1,Obj.same s h2⟩
structure RT(mg:MGz)(K:Frag)(cT cW cU cL:Addr):Prop where
 g_Tree:mg "Tree"=some (.ref cT)
 g_Whole:mg "Whole"=some (.ref cW)
 g_Upright:mg "Upright"=some (.ref cU)
 g_Level:mg "Level"=some (.ref cL)
 iW:M8 K cW
 iC:∀u,M8 K (Ic cU cL u)
 n_mark:NoAttr K cW "mark"
 n_at:∀u,NoAttr K (Ic cU cL u) "at"
 n_first:∀u,NoAttr K (Ic cU cL u) "first"
 n_other:∀u,NoAttr K (Ic cU cL u) "other"
 kWW:kitOne K (.ref cW) (.ref cW)=some true
 kWC:∀u,kitOne K (.ref cW) (.ref (Ic cU cL u))=some false
 kCW:∀u,kitOne K (.ref (Ic cU cL u)) (.ref cW)=some false
 kCC:∀u v,kitOne K (.ref (Ic cU cL u)) (.ref (Ic cU cL v))=some (u==v)
 kWT:kitOne K (.ref cW) (.ref cT)=some true
 kCT:∀u,kitOne K (.ref (Ic cU cL u)) (.ref cT)=some true
inductive PP(C:Addr)(vs:LUz)(H:Hp)(Q:VK)(E:XK):Prop
 |mk (a dx:Addr) (m:V) (h0:vs=[.ref a,m]) (h1:H a=some (.ins C dx [])) (h2:Q .non (upd H a (.ins C dx (wF m)))):PP C vs H Q E
def ME(C:Addr) :Sp:=λ vs H Q E=>PP C vs H Q E
inductive PQ(C:Addr)(vs:LUz)(H:Hp)(Q:VK)(E:XK):Prop
 |mk (a dx:Addr) (k:Int) (vx vy:V) (h0:vs=[.ref a,.int k,vx,vy]) (h1:H a=some (.ins C dx [])) (h2:∀H',SameX a H H'->H' a=some (.ins C dx (cF k vx vy))->Q .non H'):PQ C vs H Q E
def I8(C:Addr) :Sp:=λ vs H Q E=>PQ C vs H Q E
theorem Kh:Am ["self","mark"] ["self","mark"] (Af Bt):=fsc
theorem HY{f:Addr}{fd:FuncData}(F:FunD K "__init__" "Whole.__init__" Bt f fd)(R:RT mg K cT cW cU cL):A5 P w K mg base CX0 1 f fd ["self","mark"] (ME cW):=by
 have S:=Kh;refine F.ok S (λ vs H Q E h=>?_) (λ cdv A outer s H vs Q E hr h=>?_)
 .obtain⟨a,dx,m,rfl,_⟩:=h;rfl
 .obtain⟨a,dx,m,rfl,ha,q⟩:=h;refine⟨_,(Ad (Ed (pv 0) (pv 1) rfl)),?_⟩;exact⟨_,rfl,_,rfl,a,cW,dx,_,rfl,ha,R.iW.cl,R.n_mark,(by show 0<1000;decide),q⟩
theorem Hz:Am ["self","at","first","other"] ["self","at","first","other"] (Af BZ):=fsc
theorem FN{f:Addr}{fd:FuncData}(F:Fun K "__init__" "Upright.__init__" BZ f fd)(R:RT mg K cT cW cU cL):A5 P w K mg base CX0 1 f fd ["self","at","first","other"] (I8 cU):=by
 have S:=Hz;refine F.ok S (λ vs H Q E h=>?_) (λ cdv A outer s H vs Q E hr h=>?_)
 .obtain⟨a,dx,k,vx,vy,rfl,_⟩:=h;rfl
 .obtain⟨a,dx,k,vx,vy,rfl,ha,q⟩:=h;refine⟨_,(Ac (Ed (pv 0) (pv 1) rfl)
   (Ac (Ed (pv 0) (pv 2) rfl)
   (Ad (Ed (pv 0) (pv 3) rfl)))),?_⟩
  refine⟨_,rfl,_,rfl,a,cU,dx,_,rfl,ha,(R.iC true).cl,R.n_at true,(by show 0<1000;decide),?_⟩;refine⟨_,rfl,_,rfl,a,cU,dx,_,rfl,upd_same,(R.iC true).cl,R.n_first true,(by show 1<1000;decide),?_⟩;refine⟨_,rfl,_,rfl,a,cU,dx,_,rfl,upd_same,(R.iC true).cl,R.n_other true,(by show 2<1000;decide),?_⟩;exact q _ ((SameX.upd.trans SameX.upd).trans SameX.upd) upd_same
theorem Ki:Am ["self","at","first","other"] ["self","at","first","other"] (Af CL):=fsc
theorem HZ{f:Addr}{fd:FuncData}(F:Fun K "__init__" "Level.__init__" CL f fd)(R:RT mg K cT cW cU cL):A5 P w K mg base CX0 1 f fd ["self","at","first","other"] (I8 cL):=by
 have S:=Ki;refine F.ok S (λ vs H Q E h=>?_) (λ cdv A outer s H vs Q E hr h=>?_)
 .obtain⟨a,dx,k,vx,vy,rfl,_⟩:=h;rfl
 .obtain⟨a,dx,k,vx,vy,rfl,ha,q⟩:=h;refine⟨_,(Ac (Ed (pv 0) (pv 1) rfl)
   (Ac (Ed (pv 0) (pv 2) rfl)
   (Ad (Ed (pv 0) (pv 3) rfl)))),?_⟩
  refine⟨_,rfl,_,rfl,a,cL,dx,_,rfl,ha,(R.iC false).cl,R.n_at false,(by show 0<1000;decide),?_⟩;refine⟨_,rfl,_,rfl,a,cL,dx,_,rfl,upd_same,(R.iC false).cl,R.n_first false,(by show 1<1000;decide),?_⟩;refine⟨_,rfl,_,rfl,a,cL,dx,_,rfl,upd_same,(R.iC false).cl,R.n_other false,(by show 2<1000;decide),?_⟩;exact q _ ((SameX.upd.trans SameX.upd).trans SameX.upd) upd_same
theorem BN{H:Hp}{x dx:Addr}{o1 o2:HO}(hx:H x=none)(hd:H dx=none):Same H (upd (upd H dx o1) x o2):=λ b o e=>by
 rw[Ah (Ag e hx),Ah (Ag e hd)];exact e
inductive Lv(cW cU cL:Addr)(n:Nat)(vs:LUz)(H:Hp)(Q:VK)(E:XK):Prop
 |mk (v:V) (t:Tr) (h0:vs=[v]) (h1:Told H t v) (h2:t.dp<n) (h3:∀v' H',Same H H'->Obj cW cU cL H' t v'->Q v' H'):Lv cW cU cL n vs H Q E
def Ew(cW cU cL:Addr)(n:Nat) :Sp:=λ vs H Q E=>Lv cW cU cL n vs H Q E
theorem SH{vs:LUz}{H:Hp}{Q:VK}{E:XK}:¬Ew cW cU cL 0 vs H Q E:=by
 rintro⟨v,t,_,_,h,_⟩;lia
theorem Hv:Am ["_law_told_here"] ["_law_told_here"] (Af Do):=fsc
theorem KC{f:Addr}{fd:FuncData}{n:Nat}(F:Fun K "_law_made" "_law_made" Do f fd)(K_Whole:Kk P w K mg base 1 "Whole" cW ["self","mark"] (ME cW))(K_Upright:Kk P w K mg base 1 "Upright" cU ["self","at","first","other"] (I8 cU))
  (K_Level:Kk P w K mg base 1 "Level" cL ["self","at","first","other"] (I8 cL)) (D__law_made:Ap P w K mg base (n+3) "_law_made" ["_law_told_here"] (Ew cW cU cL n)):A5 P w K mg base CX0 (n+4) f fd ["_law_told_here"] (Ew cW cU cL (n+1)):=by
 have S:=Hv;refine F.ok S (λ vs H Q E h=>?_) (λ cdv A outer s H vs Q E hr h=>?_)
 .obtain⟨v,t,rfl,_⟩:=h;rfl
 .obtain⟨v,t,rfl,ht,hd,q⟩:=h;refine⟨_,(Ac (A0 (Ak AN (Aq An (pv 0) Ae (λ_ _=>rfl)) A6 (As _)) (Ad (Aj (ID K_Whole hr (Aa (Aq An (pv 0) Ae (λ_ _=>rfl)) Ab) (by lia)))) Al)
   (Ac (A0 (Ak AN (Aq An (pv 0) Ae (λ_ _=>rfl)) A6 (As _)) (Ad (Aj (ID K_Upright hr (Aa (Aq An (pv 0) Ae (λ_ _=>rfl)) (Aa (Ai D__law_made hr (Aa (Aq An (pv 0) Ae (λ_ _=>rfl)) Ab) (by lia)) (Aa (Ai D__law_made hr (Aa (Aq An (pv 0) Ae (λ_ _=>rfl)) Ab) (by lia)) Ab))) (by lia)))) Al)
   (Ad (Aj (ID K_Level hr (Aa (Aq An (pv 0) Ae (λ_ _=>rfl)) (Aa (Ai D__law_made hr (Aa (Aq An (pv 0) Ae (λ_ _=>rfl)) Ab) (by lia)) (Aa (Ai D__law_made hr (Aa (Aq An (pv 0) Ae (λ_ _=>rfl)) Ab) (by lia)) Ab))) (by lia)))))),?_⟩
  cases t with
  |whole m =>
   rw[Told]at ht;obtain⟨a,rfl,ha⟩:=ht;refine⟨_,rfl,a,_,_,_,rfl,rfl,SqT.of ha,D7,rfl,_,rfl,AH (decide_eq_true rfl) ?_⟩;refine⟨_,rfl,a,_,_,_,rfl,rfl,SqT.of ha,DS,λ x dx nx ndx nex=>⟨x,dx,_,rfl,upd_same,rfl,?_⟩⟩;refine q _ _ (λ b o e=>?_) (by rw[Obj];exact⟨x,dx,rfl,upd_same⟩);rw[Ah (Ag e nx)];exact BN nx ndx b o e
  |cut u k y1 y2 =>
   rw[Told]at ht;obtain⟨a,v1,v2,rfl,ha,t1,t2⟩:=ht;have hd:max y1.dp y2.dp+1<n+1:=hd;refine⟨_,rfl,a,_,_,_,rfl,rfl,SqT.of ha,at0,rfl,_,rfl,A8 (AZ u) ?_⟩;cases u with
   |true =>
    refine⟨_,rfl,a,_,_,_,rfl,rfl,SqT.of ha,at0,rfl,_,rfl,AH (AI true true) ?_⟩;refine⟨_,rfl,a,_,_,_,rfl,rfl,SqT.of ha,at1,_,rfl,a,_,_,_,rfl,rfl,SqT.of ha,at2,v1,y1,rfl,t1,by lia,λ w1 H1 s1 o1=>?_⟩;refine⟨_,rfl,a,_,_,_,rfl,rfl,SqT.of (s1 _ _ ha),at3,v2,y2,rfl,t2.same s1,by lia,λ w2 H2 s2 o2=>?_⟩;refine λ x dx nx ndx nex=>⟨x,dx,k,w1,w2,rfl,upd_same,λ H3 s3 e3=>⟨rfl,?_⟩⟩;have s4:Same H2 H3:=λ b o e=>s3 b o (Ag e nx) (BN nx ndx b o e);exact q _ _ ((s1.trans s2).trans s4) (by rw[Obj];exact⟨x,dx,w1,w2,rfl,e3,(o1.same s2).same s4,o2.same s4⟩)
   |false =>
    refine⟨_,rfl,a,_,_,_,rfl,rfl,SqT.of ha,at0,rfl,_,rfl,A8 (AI false true) ?_⟩;refine⟨_,rfl,a,_,_,_,rfl,rfl,SqT.of ha,at1,_,rfl,a,_,_,_,rfl,rfl,SqT.of ha,at2,v1,y1,rfl,t1,by lia,λ w1 H1 s1 o1=>?_⟩;refine⟨_,rfl,a,_,_,_,rfl,rfl,SqT.of (s1 _ _ ha),at3,v2,y2,rfl,t2.same s1,by lia,λ w2 H2 s2 o2=>?_⟩;refine λ x dx nx ndx nex=>⟨x,dx,k,w1,w2,rfl,upd_same,λ H3 s3 e3=>⟨rfl,?_⟩⟩;have s4:Same H2 H3:=λ b o e=>s3 b o (Ag e nx) (BN nx ndx b o e);exact q _ _ ((s1.trans s2).trans s4) (by rw[Obj];exact⟨x,dx,w1,w2,rfl,e3,(o1.same s2).same s4,o2.same s4⟩)
theorem fW(m:V):(wF m).lookup ("mark":Str)=some m:=by rw[AV,if_pos rfl]
theorem AL(k:Int)(vx vy:V):(cF k vx vy).lookup ("at":Str)=some (.int k):=by rw[AV,if_neg (by decide +kernel),AV,if_neg (by decide +kernel),AV,if_pos rfl]
theorem AA(k:Int)(vx vy:V):(cF k vx vy).lookup ("first":Str)=some vx:=by rw[AV,if_neg (by decide +kernel),AV,if_pos rfl]
theorem A9(k:Int)(vx vy:V):(cF k vx vy).lookup ("other":Str)=some vy:=by rw[AV,if_pos rfl]
theorem DN{C:Addr}:∀u',RelV (.ref C) u'->u'=.ref C:=λ_ z=>z
inductive En where
 |w (m:Option Int)
 |c (u:Bool) (k:Int)
def AC:Tr->List En
 |.whole m=>[.w m]
 |.cut u k x y=>.c u k::(AC x++AC y)
def Tr.nd:Tr->Nat
 |.whole _=>1
 |.cut _ _ x y=>x.nd+y.nd+1
theorem Cc:∀t:Tr,(AC t).length=t.nd
 |.whole _=>rfl
 |.cut _ _ x y=>by rw[AC,List.length_cons,List.length_append,Cc x,Cc y];rfl
theorem Mc:∀t:Tr,0<t.nd
 |.whole _=>Nat.one_pos
 |.cut _ _ x y=>Nat.succ_pos _
def enV:En->LUz
 |.w m=>[.str "whole",AB m]
 |.c u k=>[.str (wd u),.int k]
def hdE:Tr->En
 |.whole m=>.w m
 |.cut u k _ _=>.c u k
def Kp(H H':Hp):Prop:=∀b o,H b=some o->(∀xs,o≠.lst xs)->H' b=some o
theorem C9{H H':Hp}(s:Same H H'):Kp H H':=λ b o e _=>s b o e
theorem Kp.trans{H H1 H2:Hp}(a:Kp H H1)(b:Kp H1 H2):Kp H H2:=λ c o e n=>b c o (a c o e n) n
theorem Kp.put{H:Hp}{l:Addr}{xs ys:LUz}(h:H l=some (.lst xs)):Kp H (upd H l (.lst ys)):=λ b o e n=>by
 rw[Ah (F1 e h (n xs))];exact e
theorem Obj.kp{H H':Hp}(s:Kp H H'):∀{t:Tr}{v:V},Obj cW cU cL H t v->Obj cW cU cL H' t v
 |.whole m,v,h=>by
  rw[Obj]at h |-;obtain⟨a,dx,e,h⟩:=h;exact⟨a,dx,e,s _ _ h (by intro xs z;cases z)⟩
 |.cut u k x y,v,h=>by
  rw[Obj]at h |-;obtain⟨a,dx,vx,vy,e,h,h1,h2⟩:=h;exact⟨a,dx,vx,vy,e,s _ _ h (by intro xs z;cases z),Obj.kp s h1,Obj.kp s h2⟩
def EnsAt(H:Hp):LUz->List En->Prop
 |[],[]=>True
 |v::r,e::q=>(∃a,v=.ref a/\H a=some (.tup (enV e)))/\EnsAt H r q
 |_,_=>False
theorem EnsAt.kp{H H':Hp}(s:Kp H H'):∀{vs:LUz}{es:List En},EnsAt H vs es->EnsAt H' vs es
 |[],[],_=>trivial
 |v::r,e::q,h=>⟨let ⟨a,b,c⟩:=h.1;⟨a,b,s _ _ c (by intro xs z;cases z)⟩,EnsAt.kp s h.2⟩
 |[],_::_,h=>h
 |_::_,[],h=>h
theorem EnsAt.snoc{H:Hp}{a:Addr}{e:En}(ha:H a=some (.tup (enV e))):∀{vs:LUz}{es:List En},EnsAt H vs es->EnsAt H (vs++[.ref a]) (es++[e])
 |[],[],_=>⟨⟨a,rfl,ha⟩,trivial⟩
 |v::r,e'::q,h=>⟨h.1,EnsAt.snoc ha h.2⟩
 |[],_::_,h=>h.elim
 |_::_,[],h=>h.elim
theorem EnsAt.len{H:Hp}:∀{vs:LUz}{es:List En},EnsAt H vs es->vs.length=es.length
 |[],[],_=>rfl
 |v::r,e'::q,h=>by rw[List.length_cons,List.length_cons,EnsAt.len h.2]
 |[],_::_,h=>h.elim
 |_::_,[],h=>h.elim
theorem EnsAt.get{H:Hp}:∀{vs:LUz}{es:List En}{i:Nat}{v:V},EnsAt H vs es->vs[i]?=some v->∃e a,es[i]?=some e/\v=.ref a/\H a=some (.tup (enV e))
 |v::r,e::q,0,_,h,hv=>by
  cases hv;obtain⟨a,b,c⟩:=h.1;exact⟨e,a,rfl,b,c⟩
 |v::r,e::q,i+1,_,h,hv=>EnsAt.get (i:=i) h.2 hv
 |[],[],_,_,_,hv=>by cases hv
 |[],_::_,_,_,h,_=>h.elim
 |_::_,[],_,_,h,_=>h.elim
inductive Jn(cW cU cL:Addr)(vs:LUz)(H:Hp)(Q:VK)(E:XK):Prop
 |mk (v:V) (t:Tr) (h0:vs=[v]) (h1:Obj cW cU cL H t v) (h2:∀a,H a=none->Q (.ref a) (upd H a (.tup (enV (hdE t))))):Jn cW cU cL vs H Q E
def Go(cW cU cL:Addr) :Sp:=λ vs H Q E=>Jn cW cU cL vs H Q E
inductive HK(cW cU cL:Addr)(vs:LUz)(H:Hp)(Q:VK)(E:XK):Prop
 |mk (v:V) (t:Tr) (h0:vs=[v]) (h1:Obj cW cU cL H t v) (h2:Q ((enV (hdE t)).headD .non) H):HK cW cU cL vs H Q E
def Ba(cW cU cL:Addr) :Sp:=λ vs H Q E=>HK cW cU cL vs H Q E
theorem Om:Am ["tree"] ["tree"] (Af EQ):=fsc
theorem LV{f:Addr}{fd:FuncData}(F:Fun K "kind_of" "kind_of" EQ f fd)(T:Txt mg tk)(R:RT mg K cT cW cU cL):A5 P w K mg base CX0 1 f fd ["tree"] (Ba cW cU cL):=by
 have S:=Om;refine F.ok S (λ vs H Q E h=>?_) (λ cdv A outer s H vs Q E hr h=>?_)
 .obtain⟨v,t,rfl,_⟩:=h;rfl
 .obtain⟨v,t,rfl,ho,q⟩:=h;refine⟨_,(Ac (A0 (Bb (A3 Bj rfl T.z_isinstance rfl (Aa (pv 0) (Aa (Az (v:=.ref (cW)) rfl R.g_Whole rfl) Ab)))) (Ad (Aj (Az (v:=.str "whole") rfl T.g_WHOLE ⟨_,rfl⟩))) Al)
   (Ad (Aj (Dt (Bb (A3 Bj rfl T.z_isinstance rfl (Aa (pv 0) (Aa (Az (v:=.ref (cU)) rfl R.g_Upright rfl) Ab)))) (Az (v:=.str "upright") rfl T.g_UPRIGHT ⟨_,rfl⟩) (Az (v:=.str "level") rfl T.g_LEVEL ⟨_,rfl⟩))))),?_⟩
  cases t with
  |whole m =>
   rw[Obj]at ho;obtain⟨x,dx,rfl,hx⟩:=ho;exact⟨_,rfl,x,cW,dx,_,_,.ref cW,true,rfl,hx,R.iW,rfl,DN,R.kWW,_,rfl,AH rfl q⟩
  |cut u k y1 y2 =>
   rw[Obj]at ho;obtain⟨x,dx,w1,w2,rfl,hx,o1,o2⟩:=ho;refine⟨_,rfl,x,_,dx,_,_,.ref cW,false,rfl,hx,R.iC u,rfl,DN,R.kCW u,_,rfl,A8 rfl ?_⟩;refine⟨_,rfl,x,_,dx,_,_,.ref cU,_,rfl,hx,R.iC u,rfl,DN,R.kCC u true,_,rfl,?_⟩;cases u with
   |true=>exact AH rfl q
   |false=>exact A8 rfl q
theorem M5:Am ["tree","kind"] ["tree"] (Af DY):=fsc
theorem KI{f:Addr}{fd:FuncData}(F:Fun K "entry_of" "entry_of" DY f fd)(T:Txt mg tk)(R:RT mg K cT cW cU cL)(D_kind_of:Ap P w K mg base 1 "kind_of" ["tree"] (Ba cW cU cL)):A5 P w K mg base CX0 2 f fd ["tree"] (Go cW cU cL):=by
 have S:=M5;refine F.ok S (λ vs H Q E h=>?_) (λ cdv A outer s H vs Q E hr h=>?_)
 .obtain⟨v,t,rfl,_⟩:=h;rfl
 .obtain⟨v,t,rfl,ho,q⟩:=h;refine⟨_,(Ac (Ao (i:=1) S.nd rfl (Or.inl rfl) (Ai D_kind_of hr (Aa (pv 0) Ab)))
   (Ad (Aj (Av (Aa (pv 1) (Aa (Dt (Ak AN (pv 1) (Az (v:=.str "whole") rfl T.g_WHOLE ⟨_,rfl⟩) (As _)) (Ar (pv 0) rfl) (Ar (pv 0) rfl)) Ab)))))),?_⟩
  refine⟨_,rfl,_,t,rfl,ho,?_⟩;cases t with
  |whole m =>
   rw[Obj]at ho;obtain⟨x,dx,rfl,hx⟩:=ho;exact⟨_,rfl,_,rfl,rfl,_,rfl,AH (decide_eq_true rfl) ⟨_,rfl,x,cW,dx,_,_,rfl,hx,R.iW.cl,R.n_mark,fW _,Au 2,λ a ha=>q a ha⟩⟩
  |cut u k y1 y2 =>
   rw[Obj]at ho;obtain⟨x,dx,w1,w2,rfl,hx,o1,o2⟩:=ho;exact⟨_,rfl,_,rfl,rfl,_,rfl,A8 (AZ u) ⟨_,rfl,x,_,dx,_,_,rfl,hx,(R.iC u).cl,R.n_at u,AL _ _ _,Au 2,λ a ha=>q a ha⟩⟩
def Cg(ws:List (V×Tr)):List En:=ws.reverse.flatMap λ p=>AC p.2
theorem AM(ws:List (V×Tr))(p:V×Tr):Cg (ws++[p])=AC p.2++Cg ws:=by
 unfold Cg;rw[List.reverse_append,List.reverse_singleton,List.singleton_append,List.flatMap_cons]
def cnt(ws:List (V×Tr)):Nat:=(ws.map λ p=>p.2.nd).sum
theorem B0(ws:List (V×Tr))(p:V×Tr):cnt (ws++[p])=cnt ws+p.2.nd:=by
 unfold cnt;rw[List.map_append,List.sum_append,List.map_singleton,List.sum_singleton]
theorem DM:∀ws:List (V×Tr),ws.length<=cnt ws
 |[]=>Nat.le_refl 0
 |p::r=>by
  have:=DM r;have:=Mc p.2;show r.length+1<=p.2.nd+cnt r;lia
theorem DK(p:V×Tr)(r:List (V×Tr)):Cg (p::r)=Cg r++AC p.2:=by
 unfold Cg;rw[List.reverse_cons,List.flatMap_append,List.flatMap_cons,List.flatMap_nil,List.append_nil]
theorem CB:∀ws:List (V×Tr),(Cg ws).length=cnt ws
 |[]=>rfl
 |p::r=>by
  rw[DK,List.length_append,Cc,CB r];show _=p.2.nd+cnt r;lia
theorem BU{α:Type}(ws:List α):ws=[]\/∃ws0 p,ws=ws0++[p]:=by
 by_cases h:ws=[]
 .exact .inl h
 .exact .inr ⟨ws.dropLast,ws.getLast h,(List.dropLast_concat_getLast h).symm⟩
theorem GS{ws0:List (V×Tr)}{p:V×Tr}:((ws0++[p]).map (·.1))[((ws0++[p]).map (·.1)).length-1]?=some p.1:=by
 rw[List.length_map,List.length_append,List.length_singleton,Nat.add_sub_cancel,List.getElem?_map,List.getElem?_append_right (Nat.le_refl _),Nat.sub_self];rfl
theorem Hj{ws0:List (V×Tr)}{p:V×Tr}:((ws0++[p]).map (·.1)).dropLast=ws0.map (·.1):=by rw[List.map_append,List.map_singleton,List.dropLast_concat]
inductive FF(cW cU cL:Addr)(vs:LUz)(H:Hp)(Q:VK)(E:XK):Prop
 |mk (v:V) (t:Tr) (h0:vs=[v]) (h1:Obj cW cU cL H t v) (h2:t.nd<=400) (h3:∀l xs H',Same H H'->H l=none->H' l=some (.lst xs)->EnsAt H' xs (AC t)->Q (.ref l) H'):FF cW cU cL vs H Q E
def CG(cW cU cL:Addr) :Sp:=λ vs H Q E=>FF cW cU cL vs H Q E
abbrev Tl(cW cU cL:Addr)(H:Hp)(v:V)(t:Tr)(le lw:Addr)(m:Nat)(σ:St)(H':Hp):Prop:=∃(xs:LUz)(es:List En)(ws:List (V×Tr))(x3:Option V),σ=[some v,some (.ref le),some (.ref lw),x3]/\Same H H'/\H' le=some (.lst xs)/\EnsAt H' xs es/\H' lw=some (.lst (ws.map (·.1)))/\(∀p∈ws,Obj cW cU cL H' p.2 p.1)/\es++Cg ws=AC t/\m=cnt ws
theorem Kf:Am ["tree","entries","waiting","part"] ["tree"] (Af CH):=fsc
theorem HW{f:Addr}{fd:FuncData}(F:Fun K "entries_of" "entries_of" CH f fd)(T:Txt mg tk)(R:RT mg K cT cW cU cL)(D_entry_of:Ap P w K mg base 2 "entry_of" ["tree"] (Go cW cU cL)):A5 P w K mg base CX0 3 f fd ["tree"] (CG cW cU cL):=by
 have S:=Kf;refine F.ok S (λ vs H Q E h=>?_) (λ cdv A outer s H vs Q E hr h=>?_)
 .obtain⟨v,t,rfl,_⟩:=h;rfl
 .obtain⟨v,t,rfl,ho,hn,q⟩:=h;refine⟨_,(Ac (Ao (i:=1) S.nd rfl (Or.inl rfl) (AQ Ab))
   (Ac (Ao (i:=2) S.nd rfl (Or.inl rfl) (AQ (Aa (pv 0) Ab)))
   (Ac (K2 PassesOwn.never (E2 (pv 2) (λ_=>rfl)) (Ac (Ao (i:=3) S.nd rfl (Or.inl rfl) (Ef PySem.F.plainAttrs_list PySem.F.slot_list_pop PySem.F.type_list_pop Eh (pv 2)))
   (Ac (AU (Ca PySem.F.plainAttrs_list PySem.F.slot_list_append PySem.F.type_list_append AD (pv 1) (Aa (Ai D_entry_of hr (Aa (pv 3) Ab)) Ab)))
   (Ad (A0 (BC (Bb (A3 Bj rfl T.z_isinstance rfl (Aa (pv 3) (Aa (Az (v:=.ref (cW)) rfl R.g_Whole rfl) Ab))))) (Ad (AU (Ca PySem.F.plainAttrs_list PySem.F.slot_list_extend PySem.F.type_list_extend NR (pv 2) (Aa (AQ (Aa (Ar (pv 3) rfl) (Aa (Ar (pv 3) rfl) Ab))) Ab)))) Al)))))
   (Ad (Aj (pv 1)))))),?_⟩
  refine⟨Au 0,λ le hle=>⟨_,rfl,Au 1,λ lw hlw=>?_⟩⟩;have nel:le≠lw:=Ag upd_same hlw;have s0:Same H (upd (upd H le (.lst [])) lw (.lst [v])):=(Same.new hle).trans (Same.new hlw);have hlw0:H lw=none:=by
   cases e:H lw with
   |none=>rfl
   |some o=>rw[Same.new hle _ _ e]at hlw;cases hlw
  refine⟨Tl cW cU cL H v t le lw,
   ⟨_,[],[],[(v,t)],none,rfl,s0,by rw[Ah nel];exact upd_same,trivial,upd_same,λ p hp=>?_,?_,rfl⟩,?_⟩
  .rw[List.mem_singleton.mp hp];exact ho.same s0
  .show AC t++[]=AC t;exact List.append_nil _
  rintro m σ H' ⟨xs,es,ws,x3,rfl,s1,hl,hen,hw,hob,heq,rfl⟩;have tot:es.length+cnt ws=t.nd:=by rw[<-Cc,<-heq,List.length_append,CB]
  rcases BU ws with rfl|⟨ws0,p,rfl⟩
  .refine⟨_,rfl,_,.inl ⟨_,SqL.of hw,rfl⟩,A8 rfl ⟨_,rfl,q le xs H' s1 hle hl ?_⟩⟩;rw[<-heq];show EnsAt H' xs (es++[]);rw[List.append_nil];exact hen
  .refine⟨_,rfl,_,.inl ⟨_,SqL.of hw,rfl⟩,AH (by simp) ⟨λ σ' H''=>∃m',m'<cnt (ws0++[p])/\Tl cW cU cL H v t le lw m' σ' H'',λ σ' H'' z=>z,?_⟩⟩;refine⟨_,rfl,.inl ⟨rfl,_,SqL.of hw⟩,lw,_,p.1,rfl,rfl,hw,GS,?_⟩;rw[Hj];have k2:Kp H' (upd H' lw (.lst (ws0.map (·.1)))):=Kp.put hw;have s2:Same H (upd H' lw (.lst (ws0.map (·.1)))):=λ b o e=>by rw[Ah (Ag e hlw0)];exact s1 b o e
   have l2:(upd H' lw (.lst (ws0.map (·.1)))) le=some (.lst xs):=by rw[Ah nel];exact hl
   have w2:(upd H' lw (.lst (ws0.map (·.1)))) lw=some (.lst (ws0.map (·.1))):=upd_same;generalize upd H' lw (.lst (ws0.map (·.1)))=H2 at k2 s2 l2 w2 |-;have op:=(hob p (by simp)).kp k2;have ob0:∀r∈ws0,Obj cW cU cL H2 r.2 r.1:=λ r hr=>(hob r (List.mem_append_left _ hr)).kp k2;have hen2:=hen.kp k2;rw[AM]at heq;rw[B0]at tot;have hxl:=hen.len;have np:=Mc p.2;refine⟨_,rfl,.inl ⟨rfl,_,SqL.of l2⟩,_,rfl,p.1,p.2,rfl,op,λ a ha=>?_⟩;obtain⟨H3,g,s3,a3⟩:=nw (.tup (enV (hdE p.2))) ha;rw[g];have l3:=s3 _ _ l2;refine⟨le,xs,.ref a,rfl,rfl,l3,A2 (by lia),?_⟩;have k4:Kp H3 (upd H3 le (.lst (xs++[.ref a]))):=Kp.put l3;have s4:Same H (upd H3 le (.lst (xs++[.ref a]))):=λ b o e=>by rw[Ah (Ag e hle)];exact s3 b o (s2 b o e)
   have l4:(upd H3 le (.lst (xs++[.ref a]))) le=some (.lst (xs++[.ref a])):=upd_same;have w4:(upd H3 le (.lst (xs++[.ref a]))) lw=some (.lst (ws0.map (·.1))):=by rw[Ah (Ne.symm nel)];exact s3 _ _ w2
   have en4:EnsAt (upd H3 le (.lst (xs++[.ref a]))) (xs++[.ref a]) (es++[hdE p.2]):=((hen2.kp (C9 s3)).kp k4).snoc (k4 _ _ a3 (by intro xs z;cases z));have kk:=(C9 s3).trans k4;generalize upd H3 le (.lst (xs++[.ref a]))=H4 at k4 s4 l4 w4 en4 kk |-;have op4:=op.kp kk;have ob4:∀r∈ws0,Obj cW cU cL H4 r.2 r.1:=λ r hr=>(ob0 r hr).kp kk;obtain⟨pv,pt⟩:=p;cases pt with
   |whole m =>
    rw[Obj]at op4;obtain⟨x,dx,rfl,hx⟩:=op4;refine⟨_,rfl,x,cW,dx,_,_,.ref cW,true,rfl,hx,R.iW,rfl,DN,R.kWW,_,rfl,A8 rfl ?_⟩;refine⟨cnt ws0,by rw[B0];exact Nat.lt_succ_self _,_,_,ws0,_,rfl,s4,l4,en4,w4,ob4,?_,rfl⟩;rw[<-heq,List.append_assoc];rfl
   |cut u k y1 y2 =>
    rw[Obj]at op4;obtain⟨x,dx,v1,v2,rfl,hx,o1,o2⟩:=op4;refine⟨_,rfl,x,_,dx,_,_,.ref cW,false,rfl,hx,R.iC u,rfl,DN,R.kCW u,_,rfl,AH rfl ?_⟩;refine⟨_,rfl,.inl ⟨rfl,_,SqL.of w4⟩,_,rfl,x,_,dx,_,_,rfl,hx,(R.iC u).cl,R.n_other u,A9 _ _ _,_,rfl,x,_,dx,_,_,rfl,hx,(R.iC u).cl,R.n_first u,AA _ _ _,Au 2,λ l5 hl5=>?_⟩;obtain⟨H5,g,s5,e5⟩:=nw (.lst [v2,v1]) hl5;rw[g];have cl:=DM ws0;have ndp:(Tr.cut u k y1 y2).nd=y1.nd+y2.nd+1:=rfl;refine⟨lw,l5,_,_,rfl,rfl,s5 _ _ w4,e5,Nat.le_of_lt (A2 (by show(ws0.map (·.1)).length+2<=1000;rw[List.length_map];lia)),?_⟩;have k6:Kp H5 (upd H5 lw (.lst (ws0.map (·.1)++[v2,v1]))):=Kp.put (s5 _ _ w4);have kk6:=(C9 s5).trans k6;refine⟨cnt (ws0++[(v2,y2)]++[(v1,y1)]),?_,xs++[.ref a],es++[.c u k],ws0++[(v2,y2)]++[(v1,y1)],_,rfl,λ b o e=>?_,?_,en4.kp kk6,?_,λ r hr=>?_,?_,rfl⟩
    .rw[B0,B0,B0];show cnt ws0+y2.nd+y1.nd<cnt ws0+(y1.nd+y2.nd+1);lia
    .rw[Ah (Ag e hlw0)];exact s5 b o (s4 b o e)
    .rw[Ah nel];exact s5 _ _ l4
    .rw[upd_same,List.map_append,List.map_append,List.append_assoc];rfl
    .rcases List.mem_append.mp hr with hr|hr
     .rcases List.mem_append.mp hr with hr|hr
      .exact(ob4 r hr).kp kk6
      .rw[List.mem_singleton.mp hr];exact o2.kp kk6
     .rw[List.mem_singleton.mp hr];exact o1.kp kk6
    .rw[AM,AM,<-heq];show es++[.c u k]++(AC y1++(AC y2++Cg ws0))=es++(.c u k::(AC y1++AC y2)++Cg ws0);simp[List.append_assoc]
def wt:En->Int
 |.w _=>1
 |.c _ _=>-1
def wts(es:List En):Int:=(es.map wt).sum
theorem Jt(a b:List En):wts (a++b)=wts a+wts b:=by
 unfold wts;rw[List.map_append,List.sum_append]
theorem Ko(e:En)(b:List En):wts (e::b)=wt e+wts b:=by
 unfold wts;rw[List.map_cons,List.sum_cons]
theorem Cw:∀t:Tr,wts (AC t)=1
 |.whole _=>rfl
 |.cut u k x y=>by
  rw[AC,Ko,Jt,Cw x,Cw y];rfl
theorem Gd:∀ws:List (V×Tr),wts (Cg ws)=ws.length
 |[]=>rfl
 |p::r=>by rw[DK,Jt,Cw,Gd r,List.length_cons];lia
theorem Js:∀(t:Tr)(a b:List En),AC t=a++b->b≠[]->1<=wts b
 |.whole m,a,b,h,hb=>by
  have h:[En.w m]=a++b:=h;cases a with
  |nil=>rw[List.nil_append]at h;rw[<-h];exact Int.le_refl 1
  |cons e r =>
   have:=congrArg List.length h;simp only[List.length_append,List.length_cons,List.length_nil]at this;exact absurd (List.length_eq_zero_iff.mp (by lia)) hb
 |.cut u k x y,a,b,h,hb=>by
  cases a with
  |nil =>
   rw[List.nil_append]at h;rw[<-h,Cw];decide
  |cons e r =>
   rw[AC,List.cons_append]at h;have h2:=List.cons.inj h |>.2;rcases List.append_eq_append_iff.mp h2 with ⟨c,hc,hd⟩|⟨c,hc,hd⟩
   .exact Js y c b hd hb
   .rw[hd,Jt,Cw];by_cases e:c=[]
    .rw[e];decide
    .have:=Js x r c hc e;lia
theorem Hi:∀(t t':Tr)(r r':List En),AC t++r=AC t'++r'->t=t'/\r=r'
 |.whole m,.whole m',r,r',h=>by
  have h:En.w m::r=En.w m'::r':=h;injection h with h1 h2;injection h1 with h1;exact⟨by rw[h1],h2⟩
 |.whole m,.cut u k x y,r,r',h=>by
  have h:En.w m::r=En.c u k::(AC x++AC y++r'):=h;injection h with h1 _;cases h1
 |.cut u k x y,.whole m,r,r',h=>by
  have h:En.c u k::(AC x++AC y++r)=En.w m::r':=h;injection h with h1 _;cases h1
 |.cut u k x y,.cut u' k' x' y',r,r',h=>by
  have h:En.c u k::(AC x++AC y++r)=En.c u' k'::(AC x'++AC y'++r'):=h;injection h with h1 h2;injection h1 with h3 h4;rw[List.append_assoc,List.append_assoc]at h2;obtain⟨e1,h5⟩:=Hi x x' _ _ h2;obtain⟨e2,h6⟩:=Hi y y' _ _ h5;exact⟨by rw[h3,h4,e1,e2],h6⟩
inductive FG(cW cU cL:Addr)(vs:LUz)(H:Hp)(Q:VK)(E:XK):Prop
 |mk (u:Bool) (k:Int) (v1 v2:V) (y1 y2:Tr) (h0:vs=[.str (wd u),.int k,v1,v2]) (h1:Obj cW cU cL H y1 v1) (h2:Obj cW cU cL H y2 v2) (h3:∀v' H',Same H H'->Obj cW cU cL H' (.cut u k y1 y2) v'->Q v' H'):FG cW cU cL vs H Q E
def Bf(cW cU cL:Addr) :Sp:=λ vs H Q E=>FG cW cU cL vs H Q E
theorem M6:Am ["word","at","first","other"] ["word","at","first","other"] (Af DZ):=fsc
theorem KJ{f:Addr}{fd:FuncData}(F:Fun K "cut_from" "cut_from" DZ f fd)(T:Txt mg tk)(K_Upright:Kk P w K mg base 1 "Upright" cU ["self","at","first","other"] (I8 cU))(K_Level:Kk P w K mg base 1 "Level" cL ["self","at","first","other"] (I8 cL)) :
  A5 P w K mg base CX0 3 f fd ["word","at","first","other"] (Bf cW cU cL):=by
 have S:=M6;refine F.ok S (λ vs H Q E h=>?_) (λ cdv A outer s H vs Q E hr h=>?_)
 .obtain⟨u,k,v1,v2,y1,y2,rfl,_⟩:=h;rfl
 .obtain⟨u,k,v1,v2,y1,y2,rfl,o1,o2,q⟩:=h;refine⟨_,(Ac (A0 (Ak AN (pv 0) (Az (v:=.str "upright") rfl T.g_UPRIGHT ⟨_,rfl⟩) (As _)) (Ad (Aj (ID K_Upright hr (Aa (pv 1) (Aa (pv 2) (Aa (pv 3) Ab)))))) Al)
   (Ad (Aj (ID K_Level hr (Aa (pv 1) (Aa (pv 2) (Aa (pv 3) Ab))))))),?_⟩
  cases u with
  |true =>
   refine⟨_,rfl,rfl,_,rfl,AH (AI true true) ⟨_,rfl,_,rfl,_,rfl,λ x dx nx ndx nex=>⟨x,dx,k,v1,v2,rfl,upd_same,λ H3 s3 e3=>⟨rfl,?_⟩⟩⟩⟩;have s4:Same H H3:=λ b o e=>s3 b o (Ag e nx) (BN nx ndx b o e);exact q _ _ s4 (by rw[Obj];exact⟨x,dx,v1,v2,rfl,e3,o1.same s4,o2.same s4⟩)
  |false =>
   refine⟨_,rfl,rfl,_,rfl,A8 (AI false true) ⟨_,rfl,_,rfl,_,rfl,λ x dx nx ndx nex=>⟨x,dx,k,v1,v2,rfl,upd_same,λ H3 s3 e3=>⟨rfl,?_⟩⟩⟩⟩;have s4:Same H H3:=λ b o e=>s3 b o (Ag e nx) (BN nx ndx b o e);exact q _ _ s4 (by rw[Obj];exact⟨x,dx,v1,v2,rfl,e3,o1.same s4,o2.same s4⟩)
inductive Lz(K:Frag)(cW cU cL:Addr)(vs:LUz)(H:Hp)(Q:VK)(E:XK):Prop
 |mk (l:Addr) (xs:LUz) (t:Tr) (h0:vs=[.ref l]) (h1:SqL K H l xs) (h2:EnsAt H xs (AC t)) (h3:t.nd<=400) (h4:∀v' H',Same H H'->Obj cW cU cL H' t v'->Q v' H'):Lz K cW cU cL vs H Q E
def FS(K:Frag)(cW cU cL:Addr) :Sp:=λ vs H Q E=>Lz K cW cU cL vs H Q E
theorem Ll:Am ["entries","done","word","number","first","other"] ["entries"] (Af Dj):=fsc
theorem Of{es:List En}{i:Nat}{e:En}(hi:i<es.length)(h:es[es.length-1-i]?=some e):es.drop (es.length-(i+1))=e::es.drop (es.length-i):=by
 have hk:es.length-1-i<es.length:=by lia
 rw[show es.length-(i+1)=es.length-1-i by lia,List.drop_eq_getElem_cons hk];rw[List.getElem?_eq_getElem hk]at h;rw[Option.some.inj h,show es.length-1-i+1=es.length-i by lia]
theorem JI{f:Addr}{fd:FuncData}(F:Fun K "tree_from" "tree_from" Dj f fd)(T:Txt mg tk)(R:RT mg K cT cW cU cL)(K_Whole:Kk P w K mg base 1 "Whole" cW ["self","mark"] (ME cW))(D_cut_from:Ap P w K mg base 3 "cut_from" ["word","at","first","other"] (Bf cW cU cL)) :
  A5 P w K mg base CX0 4 f fd ["entries"] (FS K cW cU cL):=by
 have S:=Ll;refine F.ok S (λ vs H Q E h=>?_) (λ cdv A outer s H vs Q E hr h=>?_)
 .obtain⟨l,xs,t,rfl,_⟩:=h;rfl
 .obtain⟨l,xs,t,rfl,hl,hen,hn,q⟩:=h;refine⟨_,(Ac (Ao (i:=1) S.nd rfl (Or.inl rfl) (AQ Ab))
   (Ac (CN PassesOwn.never rfl (MQ rfl T.z_reversed (Aa (pv 0) Ab)) (CO rfl (A1 (Aw (i:=2) S.nd rfl (Or.inl rfl)) (A1 (Aw (i:=3) S.nd rfl (Or.inl rfl)) B1))) (Ad (A0 (Ak AN (pv 2) (Az (v:=.str "whole") rfl T.g_WHOLE ⟨_,rfl⟩) (As _)) (Ad (AU (Ca PySem.F.plainAttrs_list PySem.F.slot_list_append PySem.F.type_list_append AD (pv 1) (Aa (ID K_Whole hr (Aa (pv 3) Ab)) Ab)))) (Ac (Ao (i:=4) S.nd rfl (Or.inl rfl) (Ef PySem.F.plainAttrs_list PySem.F.slot_list_pop PySem.F.type_list_pop Eh (pv 1)))
   (Ac (Ao (i:=5) S.nd rfl (Or.inl rfl) (Ef PySem.F.plainAttrs_list PySem.F.slot_list_pop PySem.F.type_list_pop Eh (pv 1)))
   (Ad (AU (Ca PySem.F.plainAttrs_list PySem.F.slot_list_append PySem.F.type_list_append AD (pv 1) (Aa (Ai D_cut_from hr (Aa (pv 2) (Aa (pv 3) (Aa (pv 4) (Aa (pv 5) Ab))))) Ab)))))))))
   (Ad (Aj (Ef PySem.F.plainAttrs_list PySem.F.slot_list_pop PySem.F.type_list_pop Eh (pv 1)))))),?_⟩
  refine⟨Au 0,λ ld hld=>⟨_,rfl,l,xs,rfl,(Same.new hld).seq hl,?_⟩⟩;have hxl:=hen.len;have hel:=Cc t;refine Nj (K:=K) (a:=l) (xs:=xs) (λ i σ H'=>∃(ws:List (V×Tr))(x2 x3 x4 x5:Option V),σ=[some (.ref l),some (.ref ld),x2,x3,x4,x5]/\Same H H'/\H' ld=some (.lst (ws.map (·.1)))/\(∀p∈ws,Obj cW cU cL H' p.2 p.1)/\(AC t).drop ((AC t).length-i)=Cg ws)
   ⟨[],_,_,_,_,rfl,Same.new hld,upd_same,(λ p hp=>(nomatch hp)),by rw[Nat.sub_zero,List.drop_length];rfl⟩ (λ i σ H' _ hp=>let ⟨_,_,_,_,_,_,s,_⟩:=hp;s.seq hl) ?_ ?_
  .rintro i v σ H' hv hi ⟨ws,x2,x3,x4,x5,rfl,s1,hd,hob,heq⟩;obtain⟨e,a,he,rfl,ha⟩:=hen.get hv;have ha':=s1 _ _ ha;rw[hxl]at he hi;have hdr:=Of hi he;have wl:ws.length<=400:=by
    have h1:=DM ws;have h2:=CB ws;rw[<-heq,List.length_drop]at h2;lia
   cases e with
   |w m =>
    refine⟨a,_,rfl,SqT.of ha',rfl,_,_,rfl,_,_,rfl,rfl,?_⟩;refine⟨_,rfl,rfl,_,rfl,AH (decide_eq_true rfl) ?_⟩;refine⟨_,rfl,.inl ⟨rfl,_,SqL.of hd⟩,_,rfl,λ x dx nx ndx nex=>⟨x,dx,_,rfl,upd_same,rfl,?_⟩⟩;have s2:Same H' (upd (upd (upd H' dx (.own x)) x (.ins cW dx [])) x (.ins cW dx (wF (AB m)))):=λ b o e=>by
     rw[Ah (Ag e nx)];exact BN nx ndx b o e
    have e2:(upd (upd (upd H' dx (.own x)) x (.ins cW dx [])) x (.ins cW dx (wF (AB m)))) x=some (.ins cW dx (wF (AB m))):=upd_same;generalize upd (upd (upd H' dx (.own x)) x (.ins cW dx [])) x (.ins cW dx (wF (AB m)))=H2 at s2 e2 |-;have d2:=s2 _ _ hd;refine⟨ld,_,.ref x,rfl,rfl,d2,A2 (by rw[List.length_map];lia),?_⟩;have k3:Kp H2 (upd H2 ld (.lst (ws.map (·.1)++[.ref x]))):=Kp.put d2;refine⟨ws++[(.ref x,.whole m)],_,_,_,_,rfl,λ b o e=>?_,?_,λ p hp=>?_,?_⟩
    .rw[Ah (Ag e hld)];exact s2 b o (s1 b o e)
    .rw[upd_same,List.map_append];rfl
    .rcases List.mem_append.mp hp with hp|hp
     .exact((hob p hp).same s2).kp k3
     .rw[List.mem_singleton.mp hp,Obj];exact⟨x,dx,rfl,k3 _ _ e2 (by intro xs z;cases z)⟩
    .rw[hdr,heq,AM];rfl
   |c u k =>
    have big:2<=ws.length:=by
     have h1:=Js t ((AC t).take ((AC t).length-(i+1))) ((AC t).drop ((AC t).length-(i+1))) (List.take_append_drop _ _).symm (by rw[hdr];intro z;cases z);rw[hdr,heq,Ko,Gd]at h1;have:wt (.c u k)=-1:=rfl;lia
    obtain rfl|⟨ws1,p1,rfl⟩:=BU ws
    .exact absurd big (by decide)
    obtain rfl|⟨ws2,p2,rfl⟩:=BU ws1
    .exact absurd big (by simp)
    refine⟨a,_,rfl,SqT.of ha',rfl,_,_,rfl,_,_,rfl,rfl,?_⟩;refine⟨_,rfl,rfl,_,rfl,A8 (AZ u) ?_⟩;refine⟨_,rfl,.inl ⟨rfl,_,SqL.of hd⟩,ld,_,p1.1,rfl,rfl,hd,GS,?_⟩;rw[Hj];have k2:Kp H' (upd H' ld (.lst ((ws2++[p2]).map (·.1)))):=Kp.put hd;have s2:Same H (upd H' ld (.lst ((ws2++[p2]).map (·.1)))):=λ b o e=>by rw[Ah (Ag e hld)];exact s1 b o e
    have d2:(upd H' ld (.lst ((ws2++[p2]).map (·.1)))) ld=some (.lst ((ws2++[p2]).map (·.1))):=upd_same;generalize upd H' ld (.lst ((ws2++[p2]).map (·.1)))=H2 at k2 s2 d2 |-;refine⟨_,rfl,.inl ⟨rfl,_,SqL.of d2⟩,ld,_,p2.1,rfl,rfl,d2,GS,?_⟩;rw[Hj];have k3:Kp H2 (upd H2 ld (.lst (ws2.map (·.1)))):=Kp.put d2;have s3:Same H (upd H2 ld (.lst (ws2.map (·.1)))):=λ b o e=>by rw[Ah (Ag e hld)];exact s2 b o e
    have d3:(upd H2 ld (.lst (ws2.map (·.1)))) ld=some (.lst (ws2.map (·.1))):=upd_same;generalize upd H2 ld (.lst (ws2.map (·.1)))=H3 at k3 s3 d3 |-;have kk:=k2.trans k3;refine⟨_,rfl,.inl ⟨rfl,_,SqL.of d3⟩,_,rfl,_,rfl,_,rfl,_,rfl,u,k,p1.1,p2.1,p1.2,p2.2,rfl,(hob p1 (by simp)).kp kk,(hob p2 (by simp)).kp kk,λ v' H4 s4 o4=>?_⟩;have d4:=s4 _ _ d3;rw[List.length_append,List.length_append]at wl;refine⟨ld,_,v',rfl,rfl,d4,A2 (by rw[List.length_map];lia),?_⟩;have k5:Kp H4 (upd H4 ld (.lst (ws2.map (·.1)++[v']))):=Kp.put d4;refine⟨ws2++[(v',.cut u k p1.2 p2.2)],_,_,_,_,rfl,λ b o e=>?_,?_,λ p hp=>?_,?_⟩
    .rw[Ah (Ag e hld)];exact s4 b o (s3 b o e)
    .rw[upd_same,List.map_append];rfl
    .rcases List.mem_append.mp hp with hp|hp
     .exact((((hob p (by simp[hp])).kp kk).same s4)).kp k5
     .rw[List.mem_singleton.mp hp];exact o4.kp k5
    .rw[hdr,heq,AM,AM,AM];show .c u k::(AC p1.2++(AC p2.2++Cg ws2))=.c u k::(AC p1.2++AC p2.2)++Cg ws2;rw[List.cons_append,List.append_assoc]
  .rintro σ H' ⟨ws,x2,x3,x4,x5,rfl,s1,hd,hob,heq⟩;rw[hxl,Nat.sub_self,List.drop_zero]at heq;have one:ws.length=1:=by
    have h1:=Cw t;rw[heq,Gd]at h1;lia
   obtain⟨p,rfl⟩:∃p,ws=[p]:=by
    match ws,one with
    |[p],_=>exact⟨p,rfl⟩
   have hp:=hob p (by simp);have et:p.2=t:=by
    have h1:AC t++[]=AC p.2++[]:=by
     rw[List.append_nil,heq];rfl
    exact(Hi _ _ _ _ h1).1.symm
   refine⟨_,rfl,.inl ⟨rfl,_,SqL.of hd⟩,ld,_,p.1,rfl,rfl,hd,rfl,?_⟩;rw[et]at hp;exact q _ _ (λ b o e=>by rw[Ah (Ag e hld)];exact s1 b o e) (hp.kp (Kp.put hd))
abbrev Rk:=GB.Rc
abbrev Rk.vs(p:Rk):LUz:=[.int p.t,.int p.l,.int p.b,.int p.r]
def Rk.len(p:Rk)(u:Bool):Int:=if u then p.r-p.l else p.b-p.t
def Rk.fst(p:Rk)(u:Bool)(k:Int):Rk:=if u then ⟨p.t,p.l,p.b,p.l+k⟩ else ⟨p.t,p.l,p.t+k,p.r⟩
def Rk.oth(p:Rk)(u:Bool)(k:Int):Rk:=if u then ⟨p.t,p.l+k,p.b,p.r⟩ else ⟨p.t+k,p.l,p.b,p.r⟩
def AO(p:Rk)(t:Tr):Prop:=Fit t (p.r-p.l) (p.b-p.t)
theorem fitR_cut{p:Rk}{u:Bool}{k:Int}{x y:Tr}:AO p (.cut u k x y)↔(1<=k/\k<p.len u)/\AO (p.fst u k) x/\AO (p.oth u k) y:=by
 unfold AO Rk.len Rk.fst Rk.oth;rw[Fit];cases u with
 |true =>
  show(1<=k/\k<p.r-p.l/\Fit x k (p.b-p.t)/\Fit y (p.r-p.l-k) (p.b-p.t))↔((1<=k/\k<p.r-p.l)/\Fit x (p.l+k-p.l) (p.b-p.t)/\Fit y (p.r-(p.l+k)) (p.b-p.t));rw[show p.l+k-p.l=k by lia,show p.r-(p.l+k)=p.r-p.l-k by lia];exact⟨λ⟨a,b,c,d⟩=>⟨⟨a,b⟩,c,d⟩,λ⟨⟨a,b⟩,c,d⟩=>⟨a,b,c,d⟩⟩
 |false =>
  show(1<=k/\k<p.b-p.t/\Fit x (p.r-p.l) k/\Fit y (p.r-p.l) (p.b-p.t-k))↔((1<=k/\k<p.b-p.t)/\Fit x (p.r-p.l) (p.t+k-p.t)/\Fit y (p.r-p.l) (p.b-(p.t+k)));rw[show p.t+k-p.t=k by lia,show p.b-(p.t+k)=p.b-p.t-k by lia];exact⟨λ⟨a,b,c,d⟩=>⟨⟨a,b⟩,c,d⟩,λ⟨⟨a,b⟩,c,d⟩=>⟨a,b,c,d⟩⟩
def At:Tr->Rk->List (Rk×Option Int)
 |.whole m,p=>[(p,m)]
 |.cut u k x y,p=>At x (p.fst u k)++At y (p.oth u k)
theorem Ay:∀(t:Tr)(p:Rk),(At t p).length=t.sz
 |.whole _,_=>rfl
 |.cut u k x y,p=>by rw[At,List.length_append,Ay x,Ay y];rfl
theorem MC:∀t:Tr,t.sz<=t.nd
 |.whole _=>Nat.le_refl _
 |.cut _ _ x y=>by
  have:=MC x;have:=MC y;rw[Tr.sz,Tr.nd];lia
theorem BE:∀{t:Tr}{p:Rk},p.t<p.b->p.l<p.r->AO p t->∀g∈At t p,p.t<=g.1.t/\g.1.t<g.1.b/\g.1.b<=p.b/\p.l<=g.1.l/\g.1.l<g.1.r/\g.1.r<=p.r
 |.whole m,p,h1,h2,_,g,hg=>by
  rw[At]at hg;rw[List.mem_singleton.mp hg];exact⟨Int.le_refl _,h1,Int.le_refl _,Int.le_refl _,h2,Int.le_refl _⟩
 |.cut u k x y,p,h1,h2,f,g,hg=>by
  rw[fitR_cut]at f;obtain⟨⟨a,b⟩,fx,fy⟩:=f;rw[At,List.mem_append]at hg;cases u with
  |true =>
   have b:k<p.r-p.l:=b;rcases hg with hg|hg
   .have:=BE (p:=p.fst true k) h1 (show p.l<p.l+k by lia) fx g hg;have:p.t<=g.1.t/\g.1.t<g.1.b/\g.1.b<=p.b/\p.l<=g.1.l/\g.1.l<g.1.r/\g.1.r<=p.l+k:=this;lia
   .have:=BE (p:=p.oth true k) h1 (show p.l+k<p.r by lia) fy g hg;have:p.t<=g.1.t/\g.1.t<g.1.b/\g.1.b<=p.b/\p.l+k<=g.1.l/\g.1.l<g.1.r/\g.1.r<=p.r:=this;lia
  |false =>
   have b:k<p.b-p.t:=b;rcases hg with hg|hg
   .have:=BE (p:=p.fst false k) (show p.t<p.t+k by lia) h2 fx g hg;have:p.t<=g.1.t/\g.1.t<g.1.b/\g.1.b<=p.t+k/\p.l<=g.1.l/\g.1.l<g.1.r/\g.1.r<=p.r:=this;lia
   .have:=BE (p:=p.oth false k) (show p.t+k<p.b by lia) h2 fy g hg;have:p.t+k<=g.1.t/\g.1.t<g.1.b/\g.1.b<=p.b/\p.l<=g.1.l/\g.1.l<g.1.r/\g.1.r<=p.r:=this;lia
theorem Fe:∀{t:Tr}{p:Rk},p.t<p.b->p.l<p.r->AO p t->∀g∈At t p,∀h∈At t p,g.1=h.1->g=h
 |.whole m,p,_,_,_,g,hg,h,hh,_=>by
  rw[At]at hg hh;rw[List.mem_singleton.mp hg,List.mem_singleton.mp hh]
 |.cut u k x y,p,h1,h2,f,g,hg,h,hh,e=>by
  rw[fitR_cut]at f;obtain⟨⟨a,b⟩,fx,fy⟩:=f;rw[At,List.mem_append]at hg hh;obtain⟨⟨a1,a2⟩,b1,b2⟩:((p.fst u k).t<(p.fst u k).b/\(p.fst u k).l<(p.fst u k).r)/\(p.oth u k).t<(p.oth u k).b/\(p.oth u k).l<(p.oth u k).r:=by
   cases u with
   |true =>
    have b:k<p.r-p.l:=b;exact⟨⟨h1,show p.l<p.l+k by lia⟩,h1,show p.l+k<p.r by lia⟩
   |false =>
    have b:k<p.b-p.t:=b;exact⟨⟨show p.t<p.t+k by lia,h2⟩,show p.t+k<p.b by lia,h2⟩
  have mix:∀g∈At x (p.fst u k),∀h∈At y (p.oth u k),g.1=h.1->False:=λ g hg h hh e=>by
   have i1:=BE a1 a2 fx g hg;have i2:=BE b1 b2 fy h hh;rw[<-e]at i2;cases u with
   |true =>
    have i1:p.t<=g.1.t/\g.1.t<g.1.b/\g.1.b<=p.b/\p.l<=g.1.l/\g.1.l<g.1.r/\g.1.r<=p.l+k:=i1;have i2:p.t<=g.1.t/\g.1.t<g.1.b/\g.1.b<=p.b/\p.l+k<=g.1.l/\g.1.l<g.1.r/\g.1.r<=p.r:=i2;lia
   |false =>
    have i1:p.t<=g.1.t/\g.1.t<g.1.b/\g.1.b<=p.t+k/\p.l<=g.1.l/\g.1.l<g.1.r/\g.1.r<=p.r:=i1;have i2:p.t+k<=g.1.t/\g.1.t<g.1.b/\g.1.b<=p.b/\p.l<=g.1.l/\g.1.l<g.1.r/\g.1.r<=p.r:=i2;lia
  rcases hg with hg|hg
  .rcases hh with hh|hh
   .exact Fe a1 a2 fx g hg h hh e
   .exact(mix g hg h hh e).elim
  .rcases hh with hh|hh
   .exact(mix h hh g hg e.symm).elim
   .exact Fe b1 b2 fy g hg h hh e
def Due(t:Tr)(ww hh:Int)(L:List (Rk×Option Int)):Prop:=L.Perm (At t ⟨0,0,hh,ww⟩)/\(L.map λ g=>GB.key g.1.ls).Pairwise (·<=·)
theorem Fg{t:Tr}{ww hh:Int}(f:Fit t ww hh):AO ⟨0,0,hh,ww⟩ t:=by
 show Fit t (ww-0) (hh-0);rw[Int.sub_zero,Int.sub_zero];exact f
theorem FY{t:Tr}{ww hh:Int}(w1:1<=ww)(h1:1<=hh)(f:Fit t ww hh):∀g∈At t ⟨0,0,hh,ww⟩,GB.Rc.In ww hh g.1:=λ g hg=>by
 have:0<=g.1.t/\g.1.t<g.1.b/\g.1.b<=hh/\0<=g.1.l/\g.1.l<g.1.r/\g.1.r<=ww:=BE (p:=⟨0,0,hh,ww⟩) (show(0:Int)<hh by lia) (show(0:Int)<ww by lia) (Fg f) g hg;exact⟨this.1,this.2.1,this.2.2.1,this.2.2.2.1,this.2.2.2.2.1,this.2.2.2.2.2⟩
theorem Pr{t:Tr}{ww hh:Int}(w1:1<=ww)(w2:ww<=12)(h1:1<=hh)(h2:hh<=12)(f:Fit t ww hh){L M:List (Rk×Option Int)}(a:Due t ww hh L)(b:Due t ww hh M):L=M:=by
 have inn:=FY w1 h1 f;have e:L.Perm M:=a.1.trans b.1.symm;have hm:=GB.sorted_same (ps:=L.map (·.1)) (qs:=M.map (·.1)) (w:=ww) (h:=hh) (λ p hp=>by obtain⟨g,hg,rfl⟩:=List.mem_map.mp hp;exact inn g (a.1.mem_iff.mp hg)) w2 h2 (e.map _) (by unfold GB.Srt;rw[List.map_map];exact a.2) (by unfold GB.Srt;rw[List.map_map];exact b.2);apply List.ext_getElem e.length_eq;intro i h1' h2';have:=congrArg (λ l=>l[i]?) hm;simp only[List.getElem?_map,List.getElem?_eq_getElem h1',List.getElem?_eq_getElem h2',Option.map_some,Option.some.injEq]at this;exact Fe (p:=⟨0,0,hh,ww⟩) (show(0:Int)<hh by lia) (show(0:Int)<ww by lia) (Fg f) _ (a.1.mem_iff.mp (List.getElem_mem h1')) _ (b.1.mem_iff.mp (List.getElem_mem h2')) this
theorem Due.len{t:Tr}{ww hh:Int}{L:List (Rk×Option Int)}(h:Due t ww hh L):L.length=t.sz:=by rw[h.1.length_eq,Ay]
abbrev PT:=Addr×Addr×Rk×Option Int
abbrev pcs(ts:List PT):LUz:=ts.map λ t=>V.ref t.1
abbrev cons(ts:List PT):List (Rk×Option Int):=ts.map λ t=>t.2.2
def PcO(H:Hp)(ts:List PT):Prop:=∀t∈ts,H t.1=some (.tup [.ref t.2.1,AB t.2.2.2])/\H t.2.1=some (.tup t.2.2.1.vs)
theorem PcO.same{H H':Hp}{ts:List PT}(s:Same H H')(h:PcO H ts):PcO H' ts:=λ t ht=>⟨s _ _ (h t ht).1,s _ _ (h t ht).2⟩
theorem PcO.n{H H':Hp}{ts:List PT}(s:SameN H H')(h:PcO H ts):PcO H' ts:=λ t ht=>⟨s.tup (h t ht).1,s.tup (h t ht).2⟩
theorem PcO.perm{H:Hp}{ts us:List PT}(h:PcO H ts)(e:us.Perm ts):PcO H us:=λ t ht=>h t (e.mem_iff.mp ht)
theorem OV{α:Type}{us:List α}(h:us.length=1):∃a,us=[a]:=List.length_eq_one_iff.mp h
theorem Mj{α:Type}{us:List α}(h:us.length=2):∃a b,us=[a,b]:=by
 cases us with
 |nil=>cases h
 |cons a r=>obtain⟨b,rfl⟩:=OV (Nat.succ.inj h);exact⟨a,b,rfl⟩
inductive N5(vs:LUz)(H:Hp)(Q:VK)(E:XK):Prop
 |mk (a:Addr) (p:Rk) (u:Bool) (k:Int) (h0:vs=[.ref a,.str (wd u),.int k]) (h1:H a=some (.tup p.vs)) (h2:∀x,H x=none->Q (.ref x) (upd H x (.tup (p.fst u k).vs))):N5 vs H Q E
def LK:Sp:=λ vs H Q E=>N5 vs H Q E
inductive Nz(vs:LUz)(H:Hp)(Q:VK)(E:XK):Prop
 |mk (a:Addr) (p:Rk) (u:Bool) (k:Int) (h0:vs=[.ref a,.str (wd u),.int k]) (h1:H a=some (.tup p.vs)) (h2:∀x,H x=none->Q (.ref x) (upd H x (.tup (p.oth u k).vs))):Nz vs H Q E
def LJ:Sp:=λ vs H Q E=>Nz vs H Q E
theorem Ip:Am ["piece","word","at"] ["piece","word","at"] (Af Cq):=fsc
theorem GL{f:Addr}{fd:FuncData}(F:Fun K "first_piece" "first_piece" Cq f fd)(T:Txt mg tk):A5 P w K mg base CX0 1 f fd ["piece","word","at"] LK:=by
 have S:=Ip;refine F.ok S (λ vs H Q E h=>?_) (λ cdv A outer s H vs Q E hr h=>?_)
 .obtain⟨a,p,u,k,rfl,_⟩:=h;rfl
 .obtain⟨a,p,u,k,rfl,ha,q⟩:=h;refine⟨_,(Ac (A0 (Ak AN (pv 1) (Az (v:=.str "upright") rfl T.g_UPRIGHT ⟨_,rfl⟩) (As _)) (Ad (Aj (Av (Aa (Aq An (pv 0) Ae (λ_ _=>rfl)) (Aa (Aq An (pv 0) Ae (λ_ _=>rfl)) (Aa (Aq An (pv 0) Ae (λ_ _=>rfl)) (Aa (Ax AR (Aq An (pv 0) Ae (λ_ _=>rfl)) (pv 2)) Ab))))))) Al)
   (Ad (Aj (Av (Aa (Aq An (pv 0) Ae (λ_ _=>rfl)) (Aa (Aq An (pv 0) Ae (λ_ _=>rfl)) (Aa (Ax AR (Aq An (pv 0) Ae (λ_ _=>rfl)) (pv 2)) (Aa (Aq An (pv 0) Ae (λ_ _=>rfl)) Ab)))))))),?_⟩
  cases u with
  |true=>exact⟨_,rfl,rfl,_,rfl,AH (AI true true) ⟨_,rfl,a,_,_,_,rfl,rfl,SqT.of ha,at0,_,rfl,a,_,_,_,rfl,rfl,SqT.of ha,at1,_,rfl,a,_,_,_,rfl,rfl,SqT.of ha,at2,_,rfl,a,_,_,_,rfl,rfl,SqT.of ha,at1,_,rfl,_,_,rfl,rfl,Au 4,q⟩⟩
  |false=>exact⟨_,rfl,rfl,_,rfl,A8 (AI false true) ⟨_,rfl,a,_,_,_,rfl,rfl,SqT.of ha,at0,_,rfl,a,_,_,_,rfl,rfl,SqT.of ha,at1,_,rfl,a,_,_,_,rfl,rfl,SqT.of ha,at0,_,rfl,_,_,rfl,rfl,_,rfl,a,_,_,_,rfl,rfl,SqT.of ha,at3,Au 4,q⟩⟩
theorem Ij:Am ["piece","word","at"] ["piece","word","at"] (Af Cn):=fsc
theorem GF{f:Addr}{fd:FuncData}(F:Fun K "other_piece" "other_piece" Cn f fd)(T:Txt mg tk):A5 P w K mg base CX0 1 f fd ["piece","word","at"] LJ:=by
 have S:=Ij;refine F.ok S (λ vs H Q E h=>?_) (λ cdv A outer s H vs Q E hr h=>?_)
 .obtain⟨a,p,u,k,rfl,_⟩:=h;rfl
 .obtain⟨a,p,u,k,rfl,ha,q⟩:=h;refine⟨_,(Ac (A0 (Ak AN (pv 1) (Az (v:=.str "upright") rfl T.g_UPRIGHT ⟨_,rfl⟩) (As _)) (Ad (Aj (Av (Aa (Aq An (pv 0) Ae (λ_ _=>rfl)) (Aa (Ax AR (Aq An (pv 0) Ae (λ_ _=>rfl)) (pv 2)) (Aa (Aq An (pv 0) Ae (λ_ _=>rfl)) (Aa (Aq An (pv 0) Ae (λ_ _=>rfl)) Ab))))))) Al)
   (Ad (Aj (Av (Aa (Ax AR (Aq An (pv 0) Ae (λ_ _=>rfl)) (pv 2)) (Aa (Aq An (pv 0) Ae (λ_ _=>rfl)) (Aa (Aq An (pv 0) Ae (λ_ _=>rfl)) (Aa (Aq An (pv 0) Ae (λ_ _=>rfl)) Ab)))))))),?_⟩
  cases u with
  |true=>exact⟨_,rfl,rfl,_,rfl,AH (AI true true) ⟨_,rfl,a,_,_,_,rfl,rfl,SqT.of ha,at0,_,rfl,a,_,_,_,rfl,rfl,SqT.of ha,at1,_,rfl,_,_,rfl,rfl,_,rfl,a,_,_,_,rfl,rfl,SqT.of ha,at2,_,rfl,a,_,_,_,rfl,rfl,SqT.of ha,at3,Au 4,q⟩⟩
  |false=>exact⟨_,rfl,rfl,_,rfl,A8 (AI false true) ⟨_,rfl,a,_,_,_,rfl,rfl,SqT.of ha,at0,_,rfl,_,_,rfl,rfl,_,rfl,a,_,_,_,rfl,rfl,SqT.of ha,at1,_,rfl,a,_,_,_,rfl,rfl,SqT.of ha,at2,_,rfl,a,_,_,_,rfl,rfl,SqT.of ha,at3,Au 4,q⟩⟩
def PsAt(H:Hp)(ws:List (Addr×Rk×Tr)):Prop:=∀p∈ws,H p.1=some (.tup p.2.1.vs)
abbrev trs(ws:List (Addr×Rk×Tr)):List (V×Tr):=ws.map λ p=>(V.ref p.1,p.2.2)
abbrev AE(ws:List (Addr×Rk×Tr)):LUz:=ws.map λ p=>V.ref p.1
theorem PsAt.kp{H H':Hp}{ws:List (Addr×Rk×Tr)}(h:PsAt H ws)(k:Kp H H'):PsAt H' ws:=λ p hp=>k _ _ (h p hp) (by intro xs z;cases z)
theorem EZ{ws0:List (Addr×Rk×Tr)}{p:Addr×Rk×Tr}:(AE (ws0++[p]))[(AE (ws0++[p])).length-1]?=some (.ref p.1):=by
 rw[List.length_map,List.length_append,List.length_singleton,Nat.add_sub_cancel,List.getElem?_map,List.getElem?_append_right (Nat.le_refl _),Nat.sub_self];rfl
theorem Fh{ws0:List (Addr×Rk×Tr)}{p:Addr×Rk×Tr}:(AE (ws0++[p])).dropLast=AE ws0:=by
 show(List.map (λ p=>V.ref p.1) (ws0++[p])).dropLast=_;rw[List.map_append,List.map_singleton,List.dropLast_concat]
theorem Bp(ws:List (Addr×Rk×Tr))(p:Addr×Rk×Tr):trs (ws++[p])=trs ws++[(V.ref p.1,p.2.2)]:=by
 show List.map (λ p=>(V.ref p.1,p.2.2)) (ws++[p])=_;rw[List.map_append];rfl
theorem DD(ws:List (Addr×Rk×Tr))(p:Addr×Rk×Tr):AE (ws++[p])=AE ws++[V.ref p.1]:=by
 show List.map (λ p=>V.ref p.1) (ws++[p])=_;rw[List.map_append];rfl
theorem PcO.kp{H H':Hp}{ts:List PT}(h:PcO H ts)(k:Kp H H'):PcO H' ts:=λ t ht=>⟨k _ _ (h t ht).1 (by intro xs z;cases z),k _ _ (h t ht).2 (by intro xs z;cases z)⟩
theorem G9(ts:List PT)(t:PT):pcs (ts++[t])=pcs ts++[V.ref t.1]:=by
 show List.map (λ p=>V.ref p.1) (ts++[t])=_;rw[List.map_append];rfl
theorem Fl(ts:List PT)(t:PT):cons (ts++[t])=cons ts++[t.2.2]:=by
 show List.map (λ p=>p.2.2) (ts++[t])=_;rw[List.map_append];rfl
def Pl(ws:List (Addr×Rk×Tr)):List (Rk×Option Int):=ws.reverse.flatMap λ p=>At p.2.2 p.2.1
theorem DJ(ws:List (Addr×Rk×Tr))(p:Addr×Rk×Tr):Pl (ws++[p])=At p.2.2 p.2.1++Pl ws:=by
 unfold Pl;rw[List.reverse_append,List.reverse_singleton,List.singleton_append,List.flatMap_cons]
def QG:Expr:=match (A4 Bq).getD 1 (.Pass ⟨0,0,0,0⟩) with
 |.Return (some (.Call _ _ [k] _)) _=>k.value
 |_=>.Constant .none 0 ⟨0,0,0,0⟩
def SK:Arguments:=match QG with|.Lambda p _ _ _=>p|_=>Bh Bq
def RV:Expr:=match QG with|.Lambda _ b _ _=>b|e=>e
def QF:Scope:=match QG with|.Lambda _ _ s _=>s|_=>Af Bq
def Db:Pos:=match QG with|.Lambda _ _ _ q=>q|_=>⟨0,0,0,0⟩
def C8:Str:="pieces.<locals>.<lambda>"
theorem Ta:Am ["piece"] ["piece"] QF:=fsc
def PL(H:Hp)(l:Addr):Prop:=∀o,H l=some o->∃ps,o=.tbl ps
theorem SD{H H':Hp}{l:Addr}(s:SameN H H')(h:H' l=none):PL H l:=λ o e=>Classical.byContradiction λ z=>by
 have:=s l o e (λ ps e'=>z ⟨ps,e'⟩);rw[h]at this;cases this
theorem Told.n{H H':Hp}(s:SameN H H'):∀{t:Tr}{v:V},Told H t v->Told H' t v
 |.whole m,v,h=>by
  rw[Told]at h |-;obtain⟨a,e,h⟩:=h;exact⟨a,e,s.tup h⟩
 |.cut u k x y,v,h=>by
  rw[Told]at h |-;obtain⟨a,vx,vy,e,h,h1,h2⟩:=h;exact⟨a,vx,vy,e,s.tup h,Told.n s h1,Told.n s h2⟩
theorem Obj.n{H H':Hp}(s:SameN H H'):∀{t:Tr}{v:V},Obj cW cU cL H t v->Obj cW cU cL H' t v
 |.whole m,v,h=>by
  rw[Obj]at h |-;obtain⟨a,dx,e,h⟩:=h;exact⟨a,dx,e,s _ _ h λ_ z=>nomatch z⟩
 |.cut u k x y,v,h=>by
  rw[Obj]at h |-;obtain⟨a,dx,vx,vy,e,h,h1,h2⟩:=h;exact⟨a,dx,vx,vy,e,s _ _ h (λ_ z=>nomatch z),Obj.n s h1,Obj.n s h2⟩
def Rk.lo(p:Rk)(u:Bool):Int:=if u then p.l else p.t
def Rk.hi(p:Rk)(u:Bool):Int:=if u then p.r else p.b
theorem B3{p:Rk}{u:Bool}:p.len u=p.hi u-p.lo u:=by cases u<;>rfl
theorem Fv{p:Rk}{u:Bool}{k a:Int}:(p.fst u k).fst u a=p.fst u a:=by cases u<;>rfl
theorem Gz{p:Rk}{u:Bool}{k a:Int}:(p.fst u k).oth u a=(p.oth u a).fst u (k-a):=by
 cases u
 .show(⟨p.t+a,p.l,p.t+k,p.r⟩:Rk)=⟨p.t+a,p.l,p.t+a+(k-a),p.r⟩;rw[show p.t+a+(k-a)=p.t+k by lia]
 .show(⟨p.t,p.l+a,p.b,p.l+k⟩:Rk)=⟨p.t,p.l+a,p.b,p.l+a+(k-a)⟩;rw[show p.l+a+(k-a)=p.l+k by lia]
theorem Gy{p:Rk}{u:Bool}{k a:Int}:(p.oth u a).oth u (k-a)=p.oth u k:=by
 cases u
 .show(⟨p.t+a+(k-a),p.l,p.b,p.r⟩:Rk)=⟨p.t+k,p.l,p.b,p.r⟩;rw[show p.t+a+(k-a)=p.t+k by lia]
 .show(⟨p.t,p.l+a+(k-a),p.b,p.r⟩:Rk)=⟨p.t,p.l+k,p.b,p.r⟩;rw[show p.l+a+(k-a)=p.l+k by lia]
theorem Qt{p:Rk}{u v:Bool}{k a:Int}(h:¬v=u):(p.fst v k).fst u a=(p.fst u a).fst v k/\(p.fst v k).oth u a=(p.oth u a).fst v k/\(p.oth v k).fst u a=(p.fst u a).oth v k/\(p.oth v k).oth u a=(p.oth u a).oth v k/\(p.fst v k).len u=p.len u/\(p.oth v k).len u=p.len u/\(p.fst v k).lo u=p.lo u/\(p.oth v k).lo u=p.lo u/\(p.fst u a).len v=p.len v/\(p.oth u a).len v=p.len v:=by
 cases u<;>cases v<;>first|exact absurd rfl h|exact⟨rfl,rfl,rfl,rfl,rfl,rfl,rfl,rfl,rfl,rfl⟩
theorem JC{p:Rk}{u:Bool}{k:Int}:(p.fst u k).len u=k/\(p.oth u k).len u=p.len u-k/\(p.fst u k).lo u=p.lo u/\(p.oth u k).lo u=p.lo u+k/\(p.fst u k).hi u=p.lo u+k:=by
 cases u
 .exact⟨show p.t+k-p.t=k by lia,show p.b-(p.t+k)=p.b-p.t-k by lia,rfl,rfl,rfl⟩
 .exact⟨show p.l+k-p.l=k by lia,show p.r-(p.l+k)=p.r-p.l-k by lia,rfl,rfl,rfl⟩
abbrev Rk.ok(p:Rk):Prop:=p.t<p.b/\p.l<p.r
theorem C2{p:Rk}{u:Bool}{k:Int}(h:p.ok)(a:1<=k)(b:k<p.len u):(p.fst u k).ok/\(p.oth u k).ok:=by
 cases u with
 |true =>
  have b:k<p.r-p.l:=b;exact⟨⟨h.1,show p.l<p.l+k by lia⟩,h.1,show p.l+k<p.r by lia⟩
 |false =>
  have b:k<p.b-p.t:=b;exact⟨⟨show p.t<p.t+k by lia,h.2⟩,show p.t+k<p.b by lia,h.2⟩
def Thr:Tr->Bool->Int->Prop
 |.whole _,_,_=>False
 |.cut v k x y,u,a=>if v=u then (if a<k then Thr x u a else if k<a then Thr y u (a-k) else True) else Thr x u a/\Thr y u a
def ahd:Tr->Bool->Int->Tr
 |.whole m,_,_=>.whole m
 |.cut v k x y,u,a=>if v=u then (if a<k then ahd x u a else if k<a then .cut v k x (ahd y u (a-k)) else x) else .cut v k (ahd x u a) (ahd y u a)
def bhd:Tr->Bool->Int->Tr
 |.whole m,_,_=>.whole m
 |.cut v k x y,u,a=>if v=u then (if a<k then .cut v (k-a) (bhd x u a) y else if k<a then bhd y u (a-k) else y) else .cut v k (bhd x u a) (bhd y u a)
theorem Bx:∀t:Tr,1<=t.sz
 |.whole _=>Nat.le_refl _
 |.cut _ _ x y=>by
  have:=Bx x;rw[Tr.sz];lia
theorem CC:∀{t:Tr}{p:Rk}{u:Bool}{a:Int},AO p t->Thr t u a->(1<=a/\a<p.len u)->AO (p.fst u a) (ahd t u a)/\AO (p.oth u a) (bhd t u a)
 |.whole _,p,u,a,_,h,_=>h.elim
 |.cut v k x y,p,u,a,f,h,⟨a1,a2⟩=>by
  rw[fitR_cut]at f;obtain⟨⟨k1,k2⟩,fx,fy⟩:=f;rw[Thr]at h;rw[ahd,bhd];by_cases e:v=u
  .subst e;rw[if_pos rfl]at h;rw[if_pos rfl,if_pos rfl];obtain⟨s1,s2,_,_,_⟩:=JC (p:=p) (u:=v) (k:=k);by_cases c:a<k
   .rw[if_pos c]at h;rw[if_pos c,if_pos c,fitR_cut];obtain⟨i1,i2⟩:=CC fx h ⟨a1,by rw[s1];exact c⟩;rw[Fv]at i1;rw[Gz]at i2;refine⟨i1,⟨by lia,?_⟩,i2,by rw[Gy];exact fy⟩;have:=(JC (p:=p) (u:=v) (k:=a)).2.1;lia
   .rw[if_neg c]at h;rw[if_neg c,if_neg c];by_cases c2:k<a
    .rw[if_pos c2]at h;rw[if_pos c2,if_pos c2,fitR_cut];obtain⟨i1,i2⟩:=CC fy h ⟨by lia,by rw[s2];lia⟩;rw[<-Gz]at i1;rw[Gy]at i2;refine⟨⟨⟨k1,?_⟩,by rw[Fv];exact fx,i1⟩,i2⟩;have:=(JC (p:=p) (u:=v) (k:=a)).1;lia
    .rw[if_neg c2,if_neg c2];have:a=k:=by lia
     rw[this];exact⟨fx,fy⟩
  .rw[if_neg e]at h;rw[if_neg e,if_neg e,fitR_cut,fitR_cut];obtain⟨e1,e2,e3,e4,e5,e6,_,_,e9,e10⟩:=Qt (p:=p) (u:=u) (v:=v) (k:=k) (a:=a) e;obtain⟨i1,i2⟩:=CC fx h.1 ⟨a1,by rw[e5];exact a2⟩;obtain⟨j1,j2⟩:=CC fy h.2 ⟨a1,by rw[e6];exact a2⟩;rw[e1]at i1;rw[e2]at i2;rw[e3]at j1;rw[e4]at j2;exact⟨⟨⟨k1,by rw[e9];exact k2⟩,i1,j1⟩,⟨k1,by rw[e10];exact k2⟩,i2,j2⟩
theorem Rr{α:Type}{A B C D:List α}:((A++B)++(C++D)).Perm ((A++C)++(B++D)):=by
 rw[List.append_assoc,List.append_assoc];refine List.Perm.append_left A ?_;rw[<-List.append_assoc,<-List.append_assoc];exact List.Perm.append_right D List.perm_append_comm
theorem BI:∀{t:Tr}{p:Rk}{u:Bool}{a:Int},Thr t u a->(At t p).Perm (At (ahd t u a) (p.fst u a)++At (bhd t u a) (p.oth u a))
 |.whole _,p,u,a,h=>h.elim
 |.cut v k x y,p,u,a,h=>by
  rw[Thr]at h;rw[ahd,bhd];by_cases e:v=u
  .subst e;rw[if_pos rfl]at h;rw[if_pos rfl,if_pos rfl];by_cases c:a<k
   .rw[if_pos c]at h;rw[if_pos c,if_pos c,At,At,Gy,<-Gz,<-List.append_assoc];have:=BI (p:=p.fst v k) h;rw[Fv]at this;exact this.append_right _
   .rw[if_neg c]at h;rw[if_neg c,if_neg c];by_cases c2:k<a
    .rw[if_pos c2]at h;rw[if_pos c2,if_pos c2,At,At,Fv,Gz,List.append_assoc];have:=BI (p:=p.oth v k) h;rw[Gy]at this;exact this.append_left _
    .rw[if_neg c2,if_neg c2];have:a=k:=by lia
     rw[this,At]
  .rw[if_neg e]at h;rw[if_neg e,if_neg e,At,At,At];obtain⟨e1,e2,e3,e4,_⟩:=Qt (p:=p) (u:=u) (v:=v) (k:=k) (a:=a) e;have i:=BI (p:=p.fst v k) h.1;have j:=BI (p:=p.oth v k) h.2;rw[e1,e2]at i;rw[e3,e4]at j;exact(i.append j).trans Rr
def brk(u:Bool)(line:Int)(g:Rk×Option Int):Prop:=g.1.lo u<line/\line<g.1.hi u
theorem Gg:∀{t:Tr}{p:Rk}{u:Bool}{a:Int},AO p t->1<=a->a<p.len u->(∀g∈At t p,¬brk u (p.lo u+a) g)->Thr t u a
 |.whole m,p,u,a,_,h1,h2,h=>by
  rw[At]at h;rw[B3]at h2;exact absurd (show p.lo u<p.lo u+a/\p.lo u+a<p.hi u by lia) (h (p,m) (List.mem_singleton.mpr rfl))
 |.cut v k x y,p,u,a,f,h1,h2,h=>by
  rw[fitR_cut]at f;obtain⟨⟨k1,k2⟩,fx,fy⟩:=f;rw[At]at h;rw[Thr];by_cases e:v=u
  .subst e;rw[if_pos rfl];obtain⟨s1,s2,s3,s4,_⟩:=JC (p:=p) (u:=v) (k:=k);by_cases c:a<k
   .rw[if_pos c];exact Gg fx h1 (by rw[s1];exact c) λ g hg=>by rw[s3];exact h g (List.mem_append.mpr (.inl hg))
   .rw[if_neg c];by_cases c2:k<a
    .rw[if_pos c2];exact Gg fy (by lia) (by rw[s2];lia) λ g hg=>by rw[s4,show p.lo v+k+(a-k)=p.lo v+a by lia];exact h g (List.mem_append.mpr (.inr hg))
    .rw[if_neg c2];trivial
  .rw[if_neg e];obtain⟨_,_,_,_,e5,e6,e7,e8,_⟩:=Qt (p:=p) (u:=u) (v:=v) (k:=k) (a:=a) e;exact⟨Gg fx h1 (by rw[e5];exact h2) λ g hg=>by rw[e7];exact h g (List.mem_append.mpr (.inl hg)),Gg fy h1 (by rw[e6];exact h2) λ g hg=>by rw[e8];exact h g (List.mem_append.mpr (.inr hg))⟩
theorem Ff{t:Tr}{p:Rk}(h:p.ok)(f:AO p t){g:Rk×Option Int}(hg:g∈At t p)(u:Bool):p.lo u<=g.1.lo u/\g.1.lo u<g.1.hi u/\g.1.hi u<=p.hi u:=by
 have:=BE h.1 h.2 f g hg;cases u
 .exact⟨this.1,this.2.1,this.2.2.1⟩
 .exact⟨this.2.2.2.1,this.2.2.2.2.1,this.2.2.2.2.2⟩
theorem Cb{x y:Tr}{p:Rk}{u:Bool}{k:Int}(h:p.ok)(k1:1<=k)(k2:k<p.len u)(fx:AO (p.fst u k) x)(fy:AO (p.oth u k) y) :
  ((At x (p.fst u k)++At y (p.oth u k)).filter λ g=>decide (g.1.lo u<p.lo u+k))=At x (p.fst u k)/\((At x (p.fst u k)++At y (p.oth u k)).filter λ g=>decide (p.lo u+k<=g.1.lo u))=At y (p.oth u k)/\∀g∈At x (p.fst u k)++At y (p.oth u k),¬brk u (p.lo u+k) g:=by
 obtain⟨o1,o2⟩:=C2 h k1 k2;obtain⟨_,_,s3,s4,s5⟩:=JC (p:=p) (u:=u) (k:=k);have i1:∀g∈At x (p.fst u k),g.1.lo u<p.lo u+k/\g.1.hi u<=p.lo u+k:=λ g hg=>by
  have:=Ff o1 fx hg u;rw[s5]at this;lia
 have i2:∀g∈At y (p.oth u k),p.lo u+k<=g.1.lo u:=λ g hg=>by
  have:=Ff o2 fy hg u;rw[s4]at this;lia
 refine⟨?_,?_,λ g hg z=>?_⟩
 .rw[List.filter_append,List.filter_eq_self.mpr (λ g hg=>decide_eq_true (i1 g hg).1),List.filter_eq_nil_iff.mpr (λ g hg z=>by have:=of_decide_eq_true z;have:=i2 g hg;lia),List.append_nil]
 .rw[List.filter_append,List.filter_eq_self.mpr (λ g hg=>decide_eq_true (i2 g hg)),List.filter_eq_nil_iff.mpr (λ g hg z=>by have:=of_decide_eq_true z;have:=i1 g hg;lia),List.nil_append]
 .obtain⟨z1,z2⟩:=z;rcases List.mem_append.mp hg with hg|hg
  .have:=i1 g hg;lia
  .have:=i2 g hg;lia
theorem EX{t:Tr}{p:Rk}{u:Bool}{a:Int}{L:List (Rk×Option Int)}(h:p.ok)(f:AO p t)(e:L.Perm (At t p))(a1:1<=a)(a2:a<p.len u)(hb:∀g∈L,¬brk u (p.lo u+a) g) :
  Thr t u a/\AO (p.fst u a) (ahd t u a)/\AO (p.oth u a) (bhd t u a)/\(L.filter λ g=>decide (g.1.lo u<p.lo u+a)).Perm (At (ahd t u a) (p.fst u a))/\(L.filter λ g=>decide (p.lo u+a<=g.1.lo u)).Perm (At (bhd t u a) (p.oth u a)):=by
 have th:=Gg f a1 a2 λ g hg=>hb g (e.mem_iff.mpr hg);obtain⟨f1,f2⟩:=CC f th ⟨a1,a2⟩;obtain⟨q1,q2,_⟩:=Cb h a1 a2 f1 f2;have:=e.trans (BI (p:=p) th);refine⟨th,f1,f2,?_,?_⟩
 .have:=this.filter (λ g=>decide (g.1.lo u<p.lo u+a));rw[q1]at this;exact this
 .have:=this.filter (λ g=>decide (p.lo u+a<=g.1.lo u));rw[q2]at this;exact this
theorem LF:∀{t:Tr},t.sz=1->∃m,t=.whole m
 |.whole m,_=>⟨m,rfl⟩
 |.cut _ _ x y,h=>by
  have:=Bx x;have:=Bx y;rw[Tr.sz]at h;lia
abbrev Mv:=List Int×Str
def pre(i:Int)(L:List Mv):List Mv:=L.map λ m=>(i::m.1,m.2)
def mup:Tr->Bool->Int->List Mv
 |.whole _,_,_=>[]
 |.cut v k x y,u,a=>if v=u then (if a<k then pre 0 (mup x u a)++[(([],"lean"):Mv)] else if k<a then pre 1 (mup y u (a-k))++[(([],"back"):Mv)] else []) else pre 0 (mup x u a)++pre 1 (mup y u a)++[(([],"cross"):Mv)]
def F3(u:Bool)(k:Int):Tr->Tr->Option Tr
 |.cut v j a b,y=>if v=u then some (.cut u j a (.cut u (k-j) b y)) else none
 |.whole _,_=>none
def F8(u:Bool)(k:Int)(x:Tr):Tr->Option Tr
 |.cut v j a b=>if v=u then some (.cut u (k+j) (.cut u k x a) b) else none
 |.whole _=>none
def Ce(u:Bool)(k:Int):Tr->Tr->Option Tr
 |.cut v j a b,.cut v' j' c d=>if v=u then none else if v=v'/\j=j' then some (.cut v j (.cut u k a c) (.cut u k b d)) else none
 |_,_=>none
def BB(u:Bool)(k:Int)(x y:Tr)(w:Str):Option Tr:=if w="lean" then F3 u k x y else if w="back" then F8 u k x y else if w="cross" then Ce u k x y else none
def mvd:Tr->List Int->Str->Option Tr
 |.whole _,_,_=>none
 |.cut u k x y,[],w=>BB u k x y w
 |.cut u k x y,i::st,w=>if i=0 then (mvd x st w).map (.cut u k · y) else if i=1 then (mvd y st w).map (.cut u k x ·) else none
def Bu:Tr->List Mv->Option Tr
 |t,[]=>some t
 |t,m::r=>(mvd t m.1 m.2).bind (Bu · r)
theorem B7:∀{t:Tr}{a b:List Mv},Bu t (a++b)=(Bu t a).bind (Bu · b)
 |t,[],b=>rfl
 |t,m::a,b=>by
  show(mvd t m.1 m.2).bind (Bu · (a++b))=((mvd t m.1 m.2).bind (Bu · a)).bind (Bu · b);rw[Option.bind_assoc];congr 1
  funext s
  exact B7
theorem DB{u:Bool}{k:Int}{y:Tr}:∀{x:Tr}{L:List Mv},Bu (.cut u k x y) (pre 0 L)=(Bu x L).map (.cut u k · y)
 |x,[]=>rfl
 |x,m::L=>by
  show(mvd (.cut u k x y) (0::m.1) m.2).bind (Bu · (pre 0 L))=((mvd x m.1 m.2).bind (Bu · L)).map _;rw[mvd,if_pos rfl];cases mvd x m.1 m.2 with
  |none=>rfl
  |some s=>exact DB
theorem DA{u:Bool}{k:Int}{x:Tr}:∀{y:Tr}{L:List Mv},Bu (.cut u k x y) (pre 1 L)=(Bu y L).map (.cut u k x ·)
 |y,[]=>rfl
 |y,m::L=>by
  show(mvd (.cut u k x y) (1::m.1) m.2).bind (Bu · (pre 1 L))=((mvd y m.1 m.2).bind (Bu · L)).map _;rw[mvd,if_neg (by decide),if_pos rfl];cases mvd y m.1 m.2 with
  |none=>rfl
  |some s=>exact DA
theorem Gx{t:Tr}{w:Str}{st:List Int}:Bu t [(st,w)]=mvd t st w:=by
 show(mvd t st w).bind (Bu · [])=_;cases mvd t st w<;>rfl
theorem QX{u:Bool}{k:Int}{x y:Tr}:BB u k x y "lean"=F3 u k x y:=if_pos rfl
theorem QZ{u:Bool}{k:Int}{x y:Tr}:BB u k x y "back"=F8 u k x y:=by rw[BB,if_neg (by decide +kernel),if_pos rfl]
theorem P9{u:Bool}{k:Int}{x y:Tr}:BB u k x y "cross"=Ce u k x y:=by rw[BB,if_neg (by decide +kernel),if_neg (by decide +kernel),if_pos rfl]
theorem Dv:∀{t:Tr}{u:Bool}{a:Int},Thr t u a->Bu t (mup t u a)=some (.cut u a (ahd t u a) (bhd t u a))
 |.whole _,u,a,h=>h.elim
 |.cut v k x y,u,a,h=>by
  rw[Thr]at h;rw[mup,ahd,bhd];by_cases e:v=u
  .subst e;rw[if_pos rfl]at h |-;rw[if_pos rfl,if_pos rfl];by_cases c:a<k
   .rw[if_pos c]at h;rw[if_pos c,if_pos c,if_pos c,B7,DB,Dv h];show Bu (.cut v k (.cut v a (ahd x v a) (bhd x v a)) y) [(([],"lean"):Mv)]=_;rw[Gx,mvd,QX,F3,if_pos rfl]
   .rw[if_neg c]at h;rw[if_neg c,if_neg c,if_neg c];by_cases c2:k<a
    .rw[if_pos c2]at h;rw[if_pos c2,if_pos c2,if_pos c2,B7,DA,Dv h];show Bu (.cut v k x (.cut v (a-k) (ahd y v (a-k)) (bhd y v (a-k)))) [(([],"back"):Mv)]=_;rw[Gx,mvd,QZ,F8,if_pos rfl,show k+(a-k)=a by lia]
    .rw[if_neg c2,if_neg c2,if_neg c2];have:k=a:=by lia
     rw[this];rfl
  .rw[if_neg e]at h;rw[if_neg e,if_neg e,if_neg e,B7,B7,DB,Dv h.1];show(Bu (.cut v k (.cut u a (ahd x u a) (bhd x u a)) y) (pre 1 (mup y u a))).bind (Bu · [(([],"cross"):Mv)])=_;rw[DA,Dv h.2];show Bu (.cut v k (.cut u a (ahd x u a) (bhd x u a)) (.cut u a (ahd y u a) (bhd y u a))) [(([],"cross"):Mv)]=_;rw[Gx,mvd,P9,Ce,if_neg (λ z=>e z.symm),if_pos ⟨rfl,rfl⟩]
theorem Bg{i:Int}{L:List Mv}:(pre i L).length=L.length:=List.length_map ..
theorem CS:∀(t:Tr)(u:Bool)(a:Int),(mup t u a).length+1<=t.sz
 |.whole _,u,a=>Nat.le_refl _
 |.cut v k x y,u,a=>by
  have h1:=CS x u a;have h2:=CS y u a;have h3:=CS y u (a-k);have:=Bx x;have:=Bx y;rw[mup,Tr.sz];split
  .split
   .rw[List.length_append,Bg,List.length_singleton];lia
   .split
    .rw[List.length_append,Bg,List.length_singleton];lia
    .rw[List.length_nil];lia
  .rw[List.length_append,List.length_append,Bg,Bg,List.length_singleton];lia
theorem Hk:∀(t:Tr)(u:Bool)(a:Int),(ahd t u a).dp<=t.dp/\(bhd t u a).dp<=t.dp
 |.whole _,u,a=>⟨Nat.le_refl _,Nat.le_refl _⟩
 |.cut v k x y,u,a=>by
  have h1:=Hk x u a;have h2:=Hk y u a;have h3:=Hk y u (a-k);rw[ahd,bhd];have e:(Tr.cut v k x y).dp=max x.dp y.dp+1:=rfl;rw[e];split
  .split
   .refine⟨by lia,?_⟩;show max _ _+1<=_;lia
   .split
    .refine⟨?_,by lia⟩;show max _ _+1<=_;lia
    .lia
  .constructor
   .show max _ _+1<=_;lia
   .show max _ _+1<=_;lia
def mto:Tr->Tr->List Mv
 |_,.whole _=>[]
 |t,.cut u k x y=>mup t u k++pre 0 (mto (ahd t u k) x)++pre 1 (mto (bhd t u k) y)
theorem MZ{t x y:Tr}{p:Rk}{u:Bool}{k:Int}(h:p.ok)(f:AO p t)(g:AO p (.cut u k x y))(e:(At t p).Perm (At (.cut u k x y) p)) :
  Thr t u k/\(p.fst u k).ok/\(p.oth u k).ok/\AO (p.fst u k) (ahd t u k)/\AO (p.oth u k) (bhd t u k)/\AO (p.fst u k) x/\AO (p.oth u k) y/\(At (ahd t u k) (p.fst u k)).Perm (At x (p.fst u k))/\(At (bhd t u k) (p.oth u k)).Perm (At y (p.oth u k)):=by
 rw[fitR_cut]at g;obtain⟨⟨k1,k2⟩,gx,gy⟩:=g;obtain⟨q1,q2,q3⟩:=Cb h k1 k2 gx gy;rw[At]at e;obtain⟨th,f1,f2,p1,p2⟩:=EX h f e.symm k1 k2 q3;rw[q1]at p1;rw[q2]at p2;exact⟨th,(C2 h k1 k2).1,(C2 h k1 k2).2,f1,f2,gx,gy,p1.symm,p2.symm⟩
theorem E9:∀{s t:Tr}{p:Rk},p.ok->AO p t->AO p s->(At t p).Perm (At s p)->Bu t (mto t s)=some s/\(mto t s).length<=s.sz*(s.sz-1)
 |.whole m,t,p,h,f,g,e=>by
  have l:=e.length_eq;rw[Ay,Ay]at l;obtain⟨m',rfl⟩:=LF l;rw[At,At]at e;have:=e.mem_iff.mp (List.mem_singleton.mpr rfl);cases List.mem_singleton.mp this;exact⟨rfl,Nat.zero_le _⟩
 |.cut u k x y,t,p,h,f,g,e=>by
  obtain⟨th,o1,o2,f1,f2,gx,gy,p1,p2⟩:=MZ h f g e;obtain⟨r1,l1⟩:=E9 o1 f1 gx p1;obtain⟨r2,l2⟩:=E9 o2 f2 gy p2;have l:=e.length_eq;rw[Ay,Ay]at l;have m0:=CS t u k;rw[mto];refine⟨?_,?_⟩
  .rw[B7,B7,Dv th];show(Bu (.cut u k (ahd t u k) (bhd t u k)) (pre 0 (mto (ahd t u k) x))).bind (Bu · (pre 1 (mto (bhd t u k) y)))=_;rw[DB,r1];show Bu (.cut u k x (bhd t u k)) (pre 1 (mto (bhd t u k) y))=_;rw[DA,r2];rfl
  .rw[List.length_append,List.length_append,Bg,Bg];rw[l]at m0;rw[Tr.sz]at m0 |-;have s1:=Bx x;have s2:=Bx y;generalize x.sz=n1 at *;generalize y.sz=n2 at *;obtain⟨c,rfl⟩:∃c,n1=c+1:=⟨n1-1,by lia⟩;obtain⟨d,rfl⟩:∃d,n2=d+1:=⟨n2-1,by lia⟩;have e1:(c+1+(d+1))*(c+1+(d+1)-1)=(c+1)*c+(d+1)*d+(2*(c*d)+2*c+2*d+2):=by
    rw[show c+1+(d+1)-1=c+d+1 by lia];simp only[Nat.mul_add,Nat.add_mul,Nat.mul_one,Nat.one_mul];have:=Nat.mul_comm c d;lia
   rw[show c+1-1=c by lia]at l1;rw[show d+1-1=d by lia]at l2;lia
theorem Ol{u:Bool}{k:Int}{x y s:Tr}{w:Str}{p:Rk}(f:AO p (.cut u k x y))(h:BB u k x y w=some s):AO p s/\(At s p).Perm (At (.cut u k x y) p):=by
 rw[fitR_cut]at f;obtain⟨⟨k1,k2⟩,fx,fy⟩:=f;rw[BB]at h;split at h
 .cases x with
  |whole m=>cases h
  |cut v j a b =>
   rw[F3]at h;split at h
   .rename_i e;subst e;cases h;rw[fitR_cut]at fx;obtain⟨⟨j1,j2⟩,fa,fb⟩:=fx;rw[(JC (p:=p) (u:=v) (k:=k)).1]at j2;rw[Fv]at fa;rw[Gz]at fb;refine⟨?_,?_⟩
    .rw[fitR_cut,fitR_cut,Gy];refine⟨⟨j1,by lia⟩,fa,⟨by lia,?_⟩,fb,fy⟩;rw[(JC (p:=p) (u:=v) (k:=j)).2.1];lia
    .rw[At,At,At,At,Gy,Fv,Gz,List.append_assoc]
   .cases h
 .split at h
  .cases y with
   |whole m=>cases h
   |cut v j a b =>
    rw[F8]at h;split at h
    .rename_i e;subst e;cases h;rw[fitR_cut]at fy;obtain⟨⟨j1,j2⟩,fa,fb⟩:=fy;rw[(JC (p:=p) (u:=v) (k:=k)).2.1]at j2;have oo:(p.oth v k).oth v j=p.oth v (k+j):=by have:=Gy (p:=p) (u:=v) (k:=k+j) (a:=k);rw[show k+j-k=j by lia]at this;exact this
     have fo:(p.fst v (k+j)).oth v k=(p.oth v k).fst v j:=by have:=Gz (p:=p) (u:=v) (k:=k+j) (a:=k);rw[show k+j-k=j by lia]at this;exact this
     rw[oo]at fb;refine⟨?_,?_⟩
     .rw[fitR_cut,fitR_cut,Fv,fo];refine⟨⟨by lia,by lia⟩,⟨⟨k1,?_⟩,fx,fa⟩,fb⟩;rw[(JC (p:=p) (u:=v) (k:=k+j)).1];lia
     .rw[At,At,At,At,oo,Fv,fo,List.append_assoc]
    .cases h
  .split at h
   .cases x with
    |whole m=>cases y<;>cases h
    |cut v j a b =>
     cases y with
     |whole m=>cases h
     |cut v' j' c d =>
      rw[Ce]at h;split at h
      .cases h
      .rename_i e;split at h
       .rename_i e2;obtain⟨rfl,rfl⟩:=e2;cases h;rw[fitR_cut]at fx fy;obtain⟨⟨j1,j2⟩,fa,fb⟩:=fx;obtain⟨_,fc,fd⟩:=fy;obtain⟨e1,e2,e3,e4,e5,e6,_,_,e9,e10⟩:=Qt (p:=p) (u:=v) (v:=u) (k:=k) (a:=j) (λ z=>e z.symm);rw[e5]at j2;rw[e1]at fa;rw[e2]at fb;rw[e3]at fc;rw[e4]at fd;refine⟨?_,?_⟩
        .rw[fitR_cut,fitR_cut,fitR_cut];exact⟨⟨j1,j2⟩,⟨⟨k1,by rw[e9];exact k2⟩,fa,fc⟩,⟨k1,by rw[e10];exact k2⟩,fb,fd⟩
        .rw[At,At,At,At,At,At,e1,e2,e3,e4];exact Rr
       .cases h
   .cases h
theorem E8:∀{t s:Tr}{st:List Int}{w:Str}{p:Rk},AO p t->mvd t st w=some s->AO p s/\(At s p).Perm (At t p)
 |.whole _,s,st,w,p,_,h=>by cases h
 |.cut u k x y,s,[],w,p,f,h=>Ol f h
 |.cut u k x y,s,i::st,w,p,f,h=>by
  rw[mvd]at h;obtain⟨⟨k1,k2⟩,fx,fy⟩:=fitR_cut.mp f;split at h
  .obtain⟨r,hr,rfl⟩:=Option.map_eq_some_iff.mp h;obtain⟨g1,g2⟩:=E8 fx hr;exact⟨fitR_cut.mpr ⟨⟨k1,k2⟩,g1,fy⟩,by rw[At,At];exact g2.append_right _⟩
  .split at h
   .obtain⟨r,hr,rfl⟩:=Option.map_eq_some_iff.mp h;obtain⟨g1,g2⟩:=E8 fy hr;exact⟨fitR_cut.mpr ⟨⟨k1,k2⟩,fx,g1⟩,by rw[At,At];exact g2.append_left _⟩
   .cases h
def MvOk(n:Nat)(m:Mv):Prop:=(∀i∈m.1,i=0\/i=1)/\(m.2="lean"\/m.2="back"\/m.2="cross")/\m.1.length<=n
theorem G4{n:Nat}{i:Int}{L:List Mv}(hi:i=0\/i=1)(h:∀m∈L,MvOk n m):∀m∈pre i L,MvOk (n+1) m:=λ m hm=>by
 obtain⟨z,hz,rfl⟩:=List.mem_map.mp hm;obtain⟨h1,h2,h3⟩:=h z hz;refine⟨λ j hj=>?_,h2,Nat.succ_le_succ h3⟩;rcases List.mem_cons.mp hj with rfl|hj
 .exact hi
 .exact h1 j hj
theorem MvOk.mono{n n':Nat}{m:Mv}(h:MvOk n m)(e:n<=n'):MvOk n' m:=⟨h.1,h.2.1,Nat.le_trans h.2.2 e⟩
theorem LU{n:Nat}{w:Str}(h:w="lean"\/w="back"\/w="cross"):∀m∈[(([],w):Mv)],MvOk n m:=λ m hm=>by
 rw[List.mem_singleton.mp hm];exact⟨λ_ z=>(nomatch z),h,Nat.zero_le _⟩
theorem Fo{n:Nat}{A B:List Mv}(h:∀m∈A,MvOk n m)(g:∀m∈B,MvOk n m):∀m∈A++B,MvOk n m:=λ m hm=>(List.mem_append.mp hm).elim (h m) (g m)
theorem JR:∀(t:Tr)(u:Bool)(a:Int),∀m∈mup t u a,MvOk t.dp m
 |.whole _,u,a=>λ m hm=>nomatch hm
 |.cut v k x y,u,a=>by
  have h1:∀m∈pre 0 (mup x u a),MvOk (max x.dp y.dp+1) m:=λ m hm=>(G4 (.inl rfl) (JR x u a) m hm).mono (by lia);have h2:∀m∈pre 1 (mup y u a),MvOk (max x.dp y.dp+1) m:=λ m hm=>(G4 (.inr rfl) (JR y u a) m hm).mono (by lia);have h3:∀m∈pre 1 (mup y u (a-k)),MvOk (max x.dp y.dp+1) m:=λ m hm=>(G4 (.inr rfl) (JR y u (a-k)) m hm).mono (by lia);rw[mup];show ∀m∈_,MvOk (max x.dp y.dp+1) m;split
  .split
   .exact Fo h1 (LU (.inl rfl))
   .split
    .exact Fo h3 (LU (.inr (.inl rfl)))
    .exact λ m hm=>nomatch hm
  .exact Fo (Fo h1 h2) (LU (.inr (.inr rfl)))
theorem Me:∀(s t:Tr),∀m∈mto t s,MvOk (s.dp+t.dp) m
 |.whole _,t=>λ m hm=>nomatch hm
 |.cut u k x y,t=>by
  have d:=Hk t u k;rw[mto];show ∀m∈_,MvOk (max x.dp y.dp+1+t.dp) m;refine Fo (Fo (λ m hm=>(JR t u k m hm).mono (by lia)) (λ m hm=>(G4 (.inl rfl) (Me x (ahd t u k)) m hm).mono (by lia))) (λ m hm=>(G4 (.inr rfl) (Me y (bhd t u k)) m hm).mono (by lia))
def trD:Tr->D
 |.whole m=>.tup (.cons (.at (.str "whole")) (.cons (.at (AB m)) .nil))
 |.cut u k x y=>.tup (.cons (.at (.str (wd u))) (.cons (.at (.int k)) (.cons (trD x) (.cons (trD y) .nil))))
theorem DI(m:Option Int):B9 (AB m)=true:=by cases m<;>rfl
theorem Dc{K:Frag}{H:Hp}:∀{t:Tr}{v:V},Told H t v->DIs K H (trD t) v
 |.whole m,v,h=>by
  rw[Told]at h;obtain⟨a,rfl,h⟩:=h;rw[trD,DIs];refine⟨a,_,rfl,SqT.of h,?_⟩;rw[DIss];refine⟨_,_,rfl,by rw[DIs];exact⟨rfl,rfl⟩,?_⟩;rw[DIss];exact⟨_,_,rfl,by rw[DIs];exact⟨rfl,DI m⟩,by rw[DIss]⟩
 |.cut u k x y,v,h=>by
  rw[Told]at h;obtain⟨a,vx,vy,rfl,h,h1,h2⟩:=h;rw[trD,DIs];refine⟨a,_,rfl,SqT.of h,?_⟩;rw[DIss];refine⟨_,_,rfl,by rw[DIs];exact⟨rfl,rfl⟩,?_⟩;rw[DIss];refine⟨_,_,rfl,by rw[DIs];exact⟨rfl,rfl⟩,?_⟩;rw[DIss];refine⟨_,_,rfl,Dc h1,?_⟩;rw[DIss];exact⟨_,_,rfl,Dc h2,by rw[DIss]⟩
theorem Er:∀t:Tr,dep (trD t)<=t.dp+1
 |.whole m=>by rw[trD,dep,Be,Be,Be,dep,dep];lia
 |.cut u k x y=>by
  have:=Er x;have:=Er y;rw[trD,dep,Be,Be,Be,Be,Be,dep,dep,Tr.dp];lia
theorem LG(x y:Str):eqV (.str x) (.str y)=decide (V.str x=V.str y):=by
 show(x==y)=_;rw[JZ]
theorem OQ:∀m m':Option Int,eqV (AB m) (AB m')=true↔m=m'
 |none,none=>by simp[AB,eqV]
 |none,some i=>by simp[AB,eqV]
 |some i,none=>by simp[AB,eqV]
 |some i,some j=>by simp[AB,eqV]
theorem Pb(i j:Int)(h:eqV (.int i) (.int j)=true):i=j:=by
 have:=(OQ (some i) (some j)).mp h;cases this;rfl
theorem LA:∀{t s:Tr},deq (trD t) (trD s)=true->t=s
 |.whole m,.whole m',h=>by
  rw[trD,trD,deq,Bd,Bd,Bd,deq,deq]at h;simp only[Bool.and_eq_true,and_true]at h;rw[(OQ m m').mp h.2]
 |.whole m,.cut u k x y,h=>by
  rw[trD,trD,deq,Bd,deq,LG]at h;simp only[Bool.and_eq_true]at h;have:=AZ u;rw[decide_eq_false_iff_not]at this;exact absurd (of_decide_eq_true h.1).symm this
 |.cut u k x y,.whole m,h=>by
  rw[trD,trD,deq,Bd,deq,LG]at h;simp only[Bool.and_eq_true]at h;have:=AZ u;rw[decide_eq_false_iff_not]at this;exact absurd (of_decide_eq_true h.1) this
 |.cut u k x y,.cut u' k' x' y',h=>by
  rw[trD,trD,deq,Bd,Bd,Bd,Bd,Bd,deq,deq,LG,AI]at h;simp only[Bool.and_eq_true,and_true]at h;obtain⟨h1,h2,h3,h4⟩:=h;rw[eq_of_beq h1,Pb _ _ h2,LA h3,LA h4]
def gD(g:Rk×Option Int):D:=.tup (.cons (.tup (.cons (.at (.int g.1.t)) (.cons (.at (.int g.1.l)) (.cons (.at (.int g.1.b)) (.cons (.at (.int g.1.r)) .nil))))) (.cons (.at (AB g.2)) .nil))
def gsD:List (Rk×Option Int)->Ds
 |[]=>.nil
 |g::r=>.cons (gD g) (gsD r)
theorem Nd:∀gs,Be (gsD gs)<=2
 |[]=>by rw[gsD,Be];lia
 |g::r=>by
  have:=Nd r;rw[gsD,Be,gD,dep,Be,dep,Be,Be,Be,Be,Be,Be,Be,dep,dep,dep,dep,dep];lia
theorem Ph{K:Frag}{H:Hp}:∀{ts:List PT},PcO H ts->DIss K H (gsD (cons ts)) (pcs ts)
 |[],_=>by show DIss K H .nil [];rw[DIss]
 |t::r,h=>by
  show DIss K H (.cons (gD t.2.2) (gsD (cons r))) (.ref t.1::pcs r);rw[DIss];refine⟨_,_,rfl,?_,Ph λ u hu=>h u (List.mem_cons_of_mem _ hu)⟩;obtain⟨h1,h2⟩:=h t List.mem_cons_self;rw[gD,DIs];refine⟨_,_,rfl,SqT.of h1,?_⟩;rw[DIss];refine⟨_,_,rfl,?_,?_⟩
  .rw[DIs];refine⟨_,_,rfl,SqT.of h2,?_⟩;rw[DIss];refine⟨_,_,rfl,by rw[DIs];exact⟨rfl,rfl⟩,?_⟩;rw[DIss];refine⟨_,_,rfl,by rw[DIs];exact⟨rfl,rfl⟩,?_⟩;rw[DIss];refine⟨_,_,rfl,by rw[DIs];exact⟨rfl,rfl⟩,?_⟩;rw[DIss];exact⟨_,_,rfl,by rw[DIs];exact⟨rfl,rfl⟩,by rw[DIss]⟩
  .rw[DIss];exact⟨_,_,rfl,by rw[DIs];exact⟨rfl,DI _⟩,by rw[DIss]⟩
theorem gsL{K:Frag}{H:Hp}{a:Addr}{ts:List PT}(h:H a=some (.lst (pcs ts)))(p:PcO H ts):DIs K H (.lst (gsD (cons ts))) (.ref a):=by
 rw[DIs];exact⟨a,_,rfl,SqL.of h,Ph p⟩
theorem Hd:∀{t:Tr}{p:Rk},p.t<p.b->p.l<p.r->AO p t->((At t p).map (·.1)).Pairwise GB.Apart
 |.whole m,p,_,_,_=>by rw[At];exact List.pairwise_singleton _ _
 |.cut u k x y,p,h1,h2,f=>by
  rw[fitR_cut]at f;obtain⟨⟨a,b⟩,fx,fy⟩:=f;obtain⟨⟨a1,a2⟩,b1,b2⟩:((p.fst u k).t<(p.fst u k).b/\(p.fst u k).l<(p.fst u k).r)/\(p.oth u k).t<(p.oth u k).b/\(p.oth u k).l<(p.oth u k).r:=by
   cases u with
   |true =>
    have b:k<p.r-p.l:=b;exact⟨⟨h1,show p.l<p.l+k by lia⟩,h1,show p.l+k<p.r by lia⟩
   |false =>
    have b:k<p.b-p.t:=b;exact⟨⟨show p.t<p.t+k by lia,h2⟩,show p.t+k<p.b by lia,h2⟩
  rw[At,List.map_append,List.pairwise_append];refine⟨Hd a1 a2 fx,Hd b1 b2 fy,λ q hq q' hq' r c z z'=>?_⟩;obtain⟨g,hg,rfl⟩:=List.mem_map.mp hq;obtain⟨g',hg',rfl⟩:=List.mem_map.mp hq';have i1:=BE a1 a2 fx g hg;have i2:=BE b1 b2 fy g' hg';obtain⟨z1,z2,z3,z4⟩:=z;obtain⟨z5,z6,z7,z8⟩:=z';cases u with
  |true =>
   have i1:p.t<=g.1.t/\g.1.t<g.1.b/\g.1.b<=p.b/\p.l<=g.1.l/\g.1.l<g.1.r/\g.1.r<=p.l+k:=i1;have i2:p.t<=g'.1.t/\g'.1.t<g'.1.b/\g'.1.b<=p.b/\p.l+k<=g'.1.l/\g'.1.l<g'.1.r/\g'.1.r<=p.r:=i2;lia
  |false =>
   have i1:p.t<=g.1.t/\g.1.t<g.1.b/\g.1.b<=p.t+k/\p.l<=g.1.l/\g.1.l<g.1.r/\g.1.r<=p.r:=i1;have i2:p.t+k<=g'.1.t/\g'.1.t<g'.1.b/\g'.1.b<=p.b/\p.l<=g'.1.l/\g'.1.l<g'.1.r/\g'.1.r<=p.r:=i2;lia
theorem Pc{α β:Type}{g:α->β}:∀{l:List α},(l.map g).Nodup->∀{p q:α},p∈l->q∈l->g p=g q->p=q
 |[],_,_,_,h,_,_=>nomatch h
 |x::l,n,p,q,hp,hq,e=>by
  rw[List.map_cons,List.nodup_cons]at n;rcases List.mem_cons.mp hp with a|a<;>rcases List.mem_cons.mp hq with b|b
  .rw[a,b]
  .exact absurd (List.mem_map.mpr ⟨q,b,by rw[<-a];exact e.symm⟩) n.1
  .exact absurd (List.mem_map.mpr ⟨p,a,by rw[<-b];exact e⟩) n.1
  .exact Pc n.2 a b e
theorem IH:∀t:Tr,t.nd+1=2*t.sz
 |.whole _=>by rw[Tr.nd,Tr.sz]
 |.cut _ _ x y=>by have:=IH x;have:=IH y;rw[Tr.nd,Tr.sz];lia
theorem QN{t:Tr}{ww hh:Int}(w1:1<=ww)(h1:1<=hh)(f:Fit t ww hh):((At t ⟨0,0,hh,ww⟩).map (·.1)).Nodup:=by
 refine List.Pairwise.imp_of_mem (λ{p q} hp _ ap e=>?_) (Hd (p:=⟨0,0,hh,ww⟩) (show(0:Int)<hh by lia) (show(0:Int)<ww by lia) (Fg f));obtain⟨g,hg,rfl⟩:=List.mem_map.mp hp;obtain⟨_,i2,_,_,i5,_⟩:=FY w1 h1 f g hg;subst e;have hh':GB.Rc.has g.1 g.1.t g.1.l:=⟨Int.le_refl _,i2,Int.le_refl _,i5⟩;exact ap _ _ hh' hh'
abbrev HR(t:PT):PR:=(t.1,t.2.1,t.2.2.1.ls,AB t.2.2.2)
theorem MN(ts:List PT):(ts.map HR).map (λ t=>V.ref t.1)=pcs ts:=by rw[List.map_map];rfl
theorem Qm{H:Hp}{ts:List PT}{t:Tr}{ww hh:Int}(w1:1<=ww)(w2:ww<=12)(h1:1<=hh)(h2:hh<=12)(f:Fit t ww hh)(pc:PcO H ts)(ec:cons ts=At t ⟨0,0,hh,ww⟩) :
  (∀u∈ts.map HR,H u.1=some (.tup [.ref u.2.1,u.2.2.2])/\H u.2.1=some (.tup (u.2.2.1.map V.int))/\u.2.2.1.length=3+1/\B9 u.2.2.2=true)/\(∀u∈ts.map HR,∀z∈ts.map HR,HT.lexLt u.2.2.1 z.2.2.1=decide (GB.key u.2.2.1<GB.key z.2.2.1))/\(∀u∈ts.map HR,∀z∈ts.map HR,u.2.2.1=z.2.2.1->u=z) /\
  ∀us:List PR,us.Perm (ts.map HR)->(us.map λ u=>GB.key u.2.2.1).Pairwise (·<=·)->∃zs:List PT,us=zs.map HR/\zs.Perm ts/\Due t ww hh (cons zs):=by
 have inn:∀u∈ts,GB.Rc.In ww hh u.2.2.1:=λ u hu=>FY w1 h1 f u.2.2 (ec ▸ List.mem_map.mpr ⟨u,hu,rfl⟩);have nd:(ts.map λ u=>u.2.2.1).Nodup:=by
  have:=QN w1 h1 f;rw[<-ec,List.map_map]at this;exact this
 refine⟨λ u hu=>?_,λ u hu z hz=>?_,λ u hu z hz e=>?_,λ us pm sr=>?_⟩
 .obtain⟨x,hx,rfl⟩:=List.mem_map.mp hu;exact⟨(pc x hx).1,(pc x hx).2,rfl,DI _⟩
 .obtain⟨x,hx,rfl⟩:=List.mem_map.mp hu;obtain⟨y,hy,rfl⟩:=List.mem_map.mp hz;exact GB.key_lt (inn x hx) (inn y hy) w2 h2 w2 h2
 .obtain⟨x,hx,rfl⟩:=List.mem_map.mp hu;obtain⟨y,hy,rfl⟩:=List.mem_map.mp hz;have e:x.2.2.1.ls=y.2.2.1.ls:=e;have e':x.2.2.1=y.2.2.1:=GB.key_inj (inn x hx) (inn y hy) w2 h2 w2 h2 (by rw[e]);rw[Pc nd hx hy e']
 .obtain⟨zs,p1,rfl⟩:=K4 (f:=HR) pm ts rfl;refine⟨zs,rfl,p1,?_,?_⟩
  .rw[<-ec];exact p1.map _
  .rw[List.map_map]at sr |-;exact sr
theorem BQ{H:Hp}{t:Tr}{v:V}(h:Told H t v):∃a,v=.ref a:=by
 cases t<;>rw[Told]at h
 .obtain⟨a,rfl,_⟩:=h;exact⟨a,rfl⟩
 .obtain⟨a,_,_,rfl,_⟩:=h;exact⟨a,rfl⟩
inductive Jp(vs:LUz)(H:Hp)(Q:VK)(E:XK):Prop
 |mk (a:Addr) (p:Rk) (u:Bool) (k:Int) (h0:vs=[.ref a,.str (wd u),.int k]) (h1:H a=some (.tup p.vs)) (h2:1<=k) (h3:k<p.len u) (h4:Q .non H):Jp vs H Q E
def Kx:Sp:=λ vs H Q E=>Jp vs H Q E
theorem Lq:Am ["piece","word","at","length"] ["piece","word","at"] (Af BF):=fsc
theorem JO{f:Addr}{fd:FuncData}(F:Fun K "check_cut" "check_cut" BF f fd)(T:Txt mg tk)(D_is_whole:Ap P w K mg base 1 "is_whole" ["thing"] Eu):A5 P w K mg base CX0 2 f fd ["piece","word","at"] Kx:=by
 have S:=Lq;refine F.ok S (λ vs H Q E h=>?_) (λ cdv A outer s H vs Q E hr h=>?_)
 .obtain⟨a,p,u,k,rfl,_⟩:=h;rfl
 .obtain⟨a,p,u,k,rfl,ha,k1,k2,q⟩:=h;obtain⟨tt,htt,fin⟩:∃rd,PSs (B5 CX0 P w K mg base ["piece","word","at","length"] "check_cut" (Af BF) f cdv A outer s H E).nox ((A4 BF).drop 1) rd /\
    rd { nx:=λ_ H'=>Q .non H',rt:=Q } [some (.ref a),some (.str (wd u)),some (.int k),some (.int (p.len u))] H:=by
   refine⟨_,(Ad (A0 (PW.pt (Fw (BC (Bb (Ai D_is_whole hr (Aa (pv 2) Ab)))) (EW (BC (K1 GA Cj Ae (pv 2) (pv 3)))))) (Ad C7) Al)),?_⟩;refine⟨_,rfl,k,rfl,_,rfl,A8 rfl ?_⟩;exact⟨_,rfl,_,_,rfl,rfl,_,rfl,AH (decide_eq_true k1) ⟨_,rfl,_,_,rfl,rfl,_,rfl,A8 (by rw[decide_eq_true k2];rfl) q⟩⟩
  refine⟨_,(Ac (Ao (i:=3) S.nd rfl (Or.inl rfl) (Dt (Ak AN (pv 1) (Az (v:=.str "upright") rfl T.g_UPRIGHT ⟨_,rfl⟩) (As _)) (Ax B4 (Aq An (pv 0) Ae (λ_ _=>rfl)) (Aq An (pv 0) Ae (λ_ _=>rfl))) (Ax B4 (Aq An (pv 0) Ae (λ_ _=>rfl)) (Aq An (pv 0) Ae (λ_ _=>rfl)))))
   htt),?_⟩
  cases u with
  |true=>exact⟨_,rfl,rfl,_,rfl,AH (AI true true) ⟨_,rfl,a,_,_,_,rfl,rfl,SqT.of ha,at3,_,rfl,a,_,_,_,rfl,rfl,SqT.of ha,at1,_,_,rfl,rfl,fin⟩⟩
  |false=>exact⟨_,rfl,rfl,_,rfl,A8 (AI false true) ⟨_,rfl,a,_,_,_,rfl,rfl,SqT.of ha,at2,_,rfl,a,_,_,_,rfl,rfl,SqT.of ha,at0,_,_,rfl,rfl,fin⟩⟩
inductive Ny(cW cU cL:Addr)(vs:LUz)(H:Hp)(Q:VK)(E:XK):Prop
 |mk (v:V) (t:Tr) (ww hh:Int) (h0:vs=[v,.int ww,.int hh]) (h1:Obj cW cU cL H t v) (h2:t.nd<=400) (h3:Fit t ww hh) (h4:∀l ts H',Same H H'->H l=none->H' l=some (.lst (pcs ts))->PcO H' ts->cons ts=At t ⟨0,0,hh,ww⟩->Q (.ref l) H'):Ny cW cU cL vs H Q E
def LI(cW cU cL:Addr) :Sp:=λ vs H Q E=>Ny cW cU cL vs H Q E
theorem Op:Am ["tree","width","height","found","waiting","word","number","piece"] ["tree","width","height"] (Af ET):=fsc
theorem LY{f:Addr}{fd:FuncData}(F:Fun K "cut_out" "cut_out" ET f fd)(T:Txt mg tk)(D_entries_of:Ap P w K mg base 3 "entries_of" ["tree"] (CG cW cU cL))(D_check_cut:Ap P w K mg base 2 "check_cut" ["piece","word","at"] Kx)
  (D_first_piece:Ap P w K mg base 1 "first_piece" ["piece","word","at"] LK) (D_other_piece:Ap P w K mg base 1 "other_piece" ["piece","word","at"] LJ):A5 P w K mg base CX0 4 f fd ["tree","width","height"] (LI cW cU cL):=by
 have S:=Op;refine F.ok S (λ vs H Q E h=>?_) (λ cdv A outer s H vs Q E hr h=>?_)
 .obtain⟨v,t,ww,hh,rfl,_⟩:=h;rfl
 .obtain⟨v,t,ww,hh,rfl,ho,hn,fit,q⟩:=h;refine⟨_,(Ac (Ao (i:=3) S.nd rfl (Or.inl rfl) (AQ Ab))
   (Ac (Ao (i:=4) S.nd rfl (Or.inl rfl) (AQ (Aa (Av (Aa Ae (Aa Ae (Aa (pv 2) (Aa (pv 1) Ab))))) Ab)))
   (Ac (CN PassesOwn.never rfl (BD (Ai D_entries_of hr (Aa (pv 0) Ab))) (CO rfl (A1 (Aw (i:=5) S.nd rfl (Or.inl rfl)) (A1 (Aw (i:=6) S.nd rfl (Or.inl rfl)) B1))) (Ac (Ao (i:=7) S.nd rfl (Or.inl rfl) (Ef PySem.F.plainAttrs_list PySem.F.slot_list_pop PySem.F.type_list_pop Eh (pv 4)))
   (Ad (A0 (Ak AN (pv 5) (Az (v:=.str "whole") rfl T.g_WHOLE ⟨_,rfl⟩) (As _)) (Ad (AU (Ca PySem.F.plainAttrs_list PySem.F.slot_list_append PySem.F.type_list_append AD (pv 3) (Aa (Av (Aa (pv 7) (Aa (pv 6) Ab))) Ab)))) (Ac (AU (Ai D_check_cut hr (Aa (pv 7) (Aa (pv 5) (Aa (pv 6) Ab)))))
   (Ac (AU (Ca PySem.F.plainAttrs_list PySem.F.slot_list_append PySem.F.type_list_append AD (pv 4) (Aa (Ai D_other_piece hr (Aa (pv 7) (Aa (pv 5) (Aa (pv 6) Ab)))) Ab)))
   (Ad (AU (Ca PySem.F.plainAttrs_list PySem.F.slot_list_append PySem.F.type_list_append AD (pv 4) (Aa (Ai D_first_piece hr (Aa (pv 7) (Aa (pv 5) (Aa (pv 6) Ab)))) Ab))))))))))
   (Ad (Aj (pv 3)))))),?_⟩
  refine⟨Au 0,λ lf hlf=>⟨_,rfl,_,rfl,Au 4,λ t0 ht0=>⟨Au 1,λ lw hlw=>?_⟩⟩⟩;obtain⟨HA,g,sA,eA⟩:=nw (.lst []) hlf;rw[g] at ht0 hlw |-;obtain⟨HB,g,sB,eB⟩:=nw (.tup [.int 0,.int 0,.int hh,.int ww]) ht0;rw[g] at hlw |-;have sC:Same HB (upd HB lw (.lst [.ref t0])):=Same.new hlw;have eC:(upd HB lw (.lst [.ref t0])) lw=some (.lst [.ref t0]):=upd_same;have nfw:lf≠lw:=Ag (sB _ _ eA) hlw;have hlw0:H lw=none:=by
   cases e:H lw with
   |none=>rfl
   |some o=>rw[sB _ _ (sA _ _ e)]at hlw;cases hlw
  generalize upd HB lw (.lst [.ref t0])=HC at sC eC |-;have SC:=(sA.trans sB).trans sC;refine⟨_,rfl,v,t,rfl,ho.same SC,hn,λ le xs HD sD nle hle hen=>?_⟩;have hxl:=hen.len;have hel:=Cc t;have nlf:le≠lf:=Ne.symm (Ag ((sB.trans sC) _ _ eA) nle);have nlw:le≠lw:=Ne.symm (Ag eC nle);refine⟨le,rfl,⟨_,SqL.of hle⟩,ED (K:=K) (a:=le) (xs:=xs) (λ i σ H'=>∃(ts:List PT)(ws:List (Addr×Rk×Tr))(x5 x6 x7:Option V),σ=[some v,some (.int ww),some (.int hh),some (.ref lf),some (.ref lw),x5,x6,x7]/\Same H H'/\H' le=some (.lst xs)/\EnsAt H' xs (AC t) /\
    H' lf=some (.lst (pcs ts))/\PcO H' ts/\ts.length<=i/\H' lw=some (.lst (AE ws))/\PsAt H' ws/\(AC t).drop i=Cg (trs ws)/\(∀p∈ws,AO p.2.1 p.2.2)/\At t ⟨0,0,hh,ww⟩=cons ts++Pl ws)
   ⟨[],[(t0,⟨0,0,hh,ww⟩,t)],_,_,_,rfl,SC.trans sD,hle,hen,(sD _ _ ((sB.trans sC) _ _ eA)),(λ t ht=>(nomatch ht)),Nat.le_refl _,sD _ _ eC,(λ p hp=>by rw[List.mem_singleton.mp hp];exact sD _ _ (sC _ _ eB)),?_,?_,?_⟩ (λ i σ H' _ hp=>by obtain⟨_,_,_,_,_,_,_,h,_⟩:=hp;exact SqL.of h) ?_ ?_⟩
  .show AC t=Cg [(V.ref t0,t)];rw[DK];rfl
  .intro p hp;rw[List.mem_singleton.mp hp];exact Fg fit
  .have:=DJ [] (t0,(⟨0,0,hh,ww⟩:Rk),t);show At t ⟨0,0,hh,ww⟩=Pl ([]++[(t0,(⟨0,0,hh,ww⟩:Rk),t)]);rw[this];exact(List.append_nil _).symm
  .rintro i x σ H' hx ⟨ts,ws,x5,x6,x7,rfl,s1,l1,en1,f1,pc,fl1,w1,p1,heq,hbad,hg⟩;obtain⟨e,a,he,rfl,ha⟩:=en1.get hx;obtain⟨hi,hei⟩:=List.getElem?_eq_some_iff.mp he;have hdr:(AC t).drop i=e::(AC t).drop (i+1):=by rw[List.drop_eq_getElem_cons hi,hei]
   rw[hdr]at heq;have wl:ws.length<=400:=by
    have h1:=DM (trs ws);have h2:=CB (trs ws);rw[<-heq,<-hdr,List.length_drop]at h2;rw[List.length_map]at h1;lia
   obtain rfl|⟨ws0,p,rfl⟩:=BU ws
   .cases heq
   have hp0:=p1 p (by simp);rw[Bp,AM]at heq;rw[DJ]at hg;obtain⟨pa,pk,pt⟩:=p;have body:∀w0:V,(enV e)=[w0,(enV e).getD 1 .non]->True:=λ_ _=>trivial;have k2:Kp H' (upd H' lw (.lst (AE ws0))):=Kp.put w1;have s2:Same H (upd H' lw (.lst (AE ws0))):=λ b o e=>by rw[Ah (Ag e hlw0)];exact s1 b o e
   have l2:(upd H' lw (.lst (AE ws0))) le=some (.lst xs):=by rw[Ah nlw];exact l1
   have f2:(upd H' lw (.lst (AE ws0))) lf=some (.lst (pcs ts)):=by rw[Ah nfw];exact f1
   have w2:(upd H' lw (.lst (AE ws0))) lw=some (.lst (AE ws0)):=upd_same;have ps0:PsAt H' ws0:=λ r hr=>p1 r (List.mem_append_left _ hr);cases pt with
   |whole m =>
    have heq:e::(AC t).drop (i+1)=.w m::Cg (trs ws0):=heq;injection heq with he1 he2;subst he1;refine⟨a,_,rfl,SqT.of ha,rfl,_,_,rfl,_,_,rfl,rfl,?_⟩;refine⟨_,rfl,.inl ⟨rfl,_,SqL.of w1⟩,lw,_,_,rfl,rfl,w1,EZ,?_⟩;rw[Fh];generalize upd H' lw (.lst (AE ws0))=H2 at k2 s2 l2 f2 w2 |-;refine⟨_,rfl,rfl,_,rfl,AH (decide_eq_true rfl) ?_⟩;refine⟨_,rfl,.inl ⟨rfl,_,SqL.of f2⟩,_,rfl,_,rfl,Au 2,λ t3 ht3=>?_⟩;obtain⟨H3,g,s3,e3⟩:=nw (.tup [.ref pa,AB m]) ht3;rw[g];have f3:=s3 _ _ f2;refine⟨lf,pcs ts,_,rfl,rfl,f3,A2 (by rw[List.length_map];lia),?_⟩;have k4:Kp H3 (upd H3 lf (.lst (pcs ts++[.ref t3]))):=Kp.put f3;have kk:=(k2.trans (C9 s3)).trans k4;have hpa:=kk _ _ hp0 (by intro xs z;cases z);refine⟨ts++[(t3,pa,pk,m)],ws0,_,_,_,rfl,λ b o e=>?_,?_,en1.kp kk,by rw[upd_same,G9],?_,by rw[List.length_append,List.length_singleton];lia,?_,ps0.kp kk,he2,?_,?_⟩
    .rw[Ah (Ag e hlf)];exact s3 b o (s2 b o e)
    .rw[Ah nlf];exact s3 _ _ l2
    .intro t ht;rcases List.mem_append.mp ht with ht|ht
     .exact pc.kp kk t ht
     .rw[List.mem_singleton.mp ht];exact⟨k4 _ _ e3 (by intro xs z;cases z),hpa⟩
    .rw[Ah (Ne.symm nfw)];exact s3 _ _ w2
    .exact λ r hr=>hbad r (List.mem_append_left _ hr)
    .rw[hg,Fl,List.append_assoc];rfl
   |cut u k y1 y2 =>
    have heq:e::(AC t).drop (i+1)=.c u k::(AC y1++AC y2)++Cg (trs ws0):=heq;rw[List.cons_append]at heq;injection heq with he1 he2;subst he1;refine⟨a,_,rfl,SqT.of ha,rfl,_,_,rfl,_,_,rfl,rfl,?_⟩;refine⟨_,rfl,.inl ⟨rfl,_,SqL.of w1⟩,lw,_,_,rfl,rfl,w1,EZ,?_⟩;rw[Fh];have hp2:=k2 _ _ hp0 (by intro xs z;cases z);generalize upd H' lw (.lst (AE ws0))=H2 at k2 s2 l2 f2 w2 hp2 |-;refine⟨_,rfl,rfl,_,rfl,A8 (AZ u) ?_⟩;obtain⟨ok,fy1,fy2⟩:=fitR_cut.mp (hbad (pa,pk,.cut u k y1 y2) (by simp));refine⟨_,rfl,_,rfl,_,rfl,pa,pk,u,k,rfl,hp2,ok.1,ok.2,?_⟩;refine⟨_,rfl,.inl ⟨rfl,_,SqL.of w2⟩,_,rfl,_,rfl,_,rfl,pa,pk,u,k,rfl,hp2,λ t3 ht3=>?_⟩;obtain⟨H3,g,s3,e3⟩:=nw (.tup (pk.oth u k).vs) ht3;rw[g];have w3:=s3 _ _ w2;rw[List.length_append,List.length_singleton]at wl;refine⟨lw,_,_,rfl,rfl,w3,A2 (by rw[List.length_map];lia),?_⟩;have k4:Kp H3 (upd H3 lw (.lst (AE ws0++[.ref t3]))):=Kp.put w3;have s4:Same H (upd H3 lw (.lst (AE ws0++[.ref t3]))):=λ b o e=>by rw[Ah (Ag e hlw0)];exact s3 b o (s2 b o e)
    have l4:(upd H3 lw (.lst (AE ws0++[.ref t3]))) le=some (.lst xs):=by rw[Ah nlw];exact s3 _ _ l2
    have f4:(upd H3 lw (.lst (AE ws0++[.ref t3]))) lf=some (.lst (pcs ts)):=by rw[Ah nfw];exact s3 _ _ f2
    have w4:(upd H3 lw (.lst (AE ws0++[.ref t3]))) lw=some (.lst (AE ws0++[.ref t3])):=upd_same;have kk4:=(C9 s3).trans k4;generalize upd H3 lw (.lst (AE ws0++[.ref t3]))=H4 at k4 s4 l4 f4 w4 kk4 |-;have hp4:=kk4 _ _ hp2 (by intro xs z;cases z);have e4:=k4 _ _ e3 (by intro xs z;cases z);refine⟨_,rfl,.inl ⟨rfl,_,SqL.of w4⟩,_,rfl,_,rfl,_,rfl,pa,pk,u,k,rfl,hp4,λ t5 ht5=>?_⟩;obtain⟨H5,g,s5,e5⟩:=nw (.tup (pk.fst u k).vs) ht5;rw[g];have w5:=s5 _ _ w4;refine⟨lw,_,_,rfl,rfl,w5,A2 (by rw[List.length_append,List.length_map,List.length_singleton];lia),?_⟩;have k6:Kp H5 (upd H5 lw (.lst (AE ws0++[.ref t3]++[.ref t5]))):=Kp.put w5;have kk6:=(C9 s5).trans k6;have kall:=(k2.trans kk4).trans kk6;refine⟨ts,ws0++[(t3,pk.oth u k,y2)]++[(t5,pk.fst u k,y1)],_,_,_,rfl,λ b o e=>?_,?_,en1.kp kall,?_,pc.kp kall,by lia,?_,λ r hr=>?_,?_,?_,?_⟩
    .rw[Ah (Ag e hlw0)];exact s5 b o (s4 b o e)
    .rw[Ah nlw];exact s5 _ _ l4
    .rw[Ah nfw];exact s5 _ _ f4
    .rw[upd_same,DD,DD]
    .rcases List.mem_append.mp hr with hr|hr
     .rcases List.mem_append.mp hr with hr|hr
      .exact kall _ _ (ps0 r hr) (by intro xs z;cases z)
      .rw[List.mem_singleton.mp hr];exact kk6 _ _ e4 (by intro xs z;cases z)
     .rw[List.mem_singleton.mp hr];exact k6 _ _ e5 (by intro xs z;cases z)
    .rw[he2,Bp,Bp,AM,AM,List.append_assoc]
    .intro r hr;rcases List.mem_append.mp hr with hr|hr
     .rcases List.mem_append.mp hr with hr|hr
      .exact hbad r (List.mem_append_left _ hr)
      .rw[List.mem_singleton.mp hr];exact fy2
     .rw[List.mem_singleton.mp hr];exact fy1
    .rw[hg,At,DJ,DJ,List.append_assoc]
  .rintro σ H' ⟨ts,ws,x5,x6,x7,rfl,s1,l1,en1,f1,pc,fl1,w1,p1,heq,hbad,hg⟩;rw[hxl,List.drop_length]at heq;have wn:ws=[]:=by
    have h1:=DM (trs ws);have h2:=CB (trs ws);rw[<-heq]at h2;rw[List.length_map]at h1;exact List.length_eq_zero_iff.mp (by simp at h2;lia)
   subst wn;exact⟨_,rfl,q lf ts H' s1 hlf f1 pc (by rw[hg];exact(List.append_nil _).symm)⟩
inductive HG(tb cW cU cL:Addr)(vs:LUz)(H:Hp)(Q:VK)(E:XK):Prop
 |mk (v:V) (t:Tr) (ww hh:Int) (h0:vs=[v,.int ww,.int hh]) (h1:Obj cW cU cL H t v) (h2:t.nd<=400) (h3:t.sz<64) (h4:TabOk Db C8 tb H) (h5:1<=ww) (h6:ww<=12) (h7:1<=hh) (h8:hh<=12) (h9:Fit t ww hh) (h10:∀l ts H',SameX tb H H'->TabOk Db C8 tb H'->PL H l->H' l=some (.lst (pcs ts))->PcO H' ts->Due t ww hh (cons ts)->Q (.ref l) H'):HG tb cW cU cL vs H Q E
def D9(tb cW cU cL:Addr) :Sp:=λ vs H Q E=>HG tb cW cU cL vs H Q E
theorem PD:Am ["tree","width","height"] ["tree","width","height"] (Af Bq):=fsc
theorem NL{f:Addr}{fd:FuncData}{c tb:Addr}(F:FunC K "pieces" "pieces" Bq f fd c)(T:Txt mg tk)(hC:Fn K c tb=true)(hB:Ri K mg)(D_check_sides:Ap P w K mg base 3 "check_sides" ["width","height"] Kw)(D_cut_out:Ap P w K mg base 4 "cut_out" ["tree","width","height"] (LI cW cU cL)) :
  A5 P w K mg base CX0 5 f fd ["tree","width","height"] (D9 tb cW cU cL):=by
 have S:=PD;refine F.ok S (λ vs H Q E h=>?_) (λ A outer s H vs Q E hr h=>?_)
 .obtain⟨v,t,ww,hh,rfl,_⟩:=h;rfl
 .obtain⟨v,t,ww,hh,rfl,ho,hn,h64,tab,w1,w2,h1,h2,fit,q⟩:=h;have hlam:=OJ (X:=(B5 CX0 P w K mg base ["tree","width","height"] "pieces" (Af Bq) f (.ref c) A outer s H E).nox) (params:=SK) (body:=RV) (scope:=QF) (pos:=Db) (qual:=C8) (clos:=[]) rfl (codeTB_of hC) hB rfl rfl rfl;have hbind:∀(s:Shared)(pm ctv u:Value)(c':Addr),BindsTo s (kla_fn "<lambda>" C8 SK RV QF [] pm (.ref c') ctv) ⟨[u],[]⟩ ((["piece"]:LSz).zip [u]):=λ_ _ _ _ _=>.of_eq rfl;have hbody:∀(A:Around)(outer:List Env)(s:Shared)(H:Hp)(f c':Addr),PE (B5 CX0 P w K mg base ["piece"] C8 QF f (.ref c') A outer s H E0) RV (tOp (RJ K) (R9 0) (tC (.int 0))):=λ_ _ _ _ _ _=>Aq An (pv 0) Ae (λ_ _=>rfl);have hrl:Room (1+3) (A.deeper (PyProof.Rows.envOfC "pieces" (Af Bq) s.heap.objs.size f (.ref c))):=hr;refine⟨_,(Ac (AU (Ai D_check_sides hr (Aa (pv 1) (Aa (pv 2) Ab))))
   (Ad (Aj (OI rfl T.z_sorted (Aa (Ai D_cut_out hr (Aa (pv 0) (Aa (pv 1) (Aa (pv 2) Ab)))) Ab) hlam Ta rfl hrl hbind hbody)))),?_⟩
  refine⟨_,rfl,_,rfl,ww,hh,rfl,w1,w2,h1,h2,λ H1 s1=>?_⟩;refine⟨_,rfl,_,rfl,_,rfl,v,t,ww,hh,rfl,ho.same s1,hn,fit,λ l ts H2 s2 nl hl pc ec=>?_⟩;have inn:∀t'∈ts,GB.Rc.In ww hh t'.2.2.1:=λ t' ht'=>FY w1 h1 fit t'.2.2 (ec ▸ List.mem_map.mpr ⟨t',ht',rfl⟩);unfold So;simp only[];have t2:=tab.same (s1.trans s2);refine TabOk.lamC t2 λ c' fl ctv H3 sx tab3 hf hc hnew=>?_;have s3:=sx.toN t2.tbl;refine⟨fl,c',l,ctv,Addr×Rk×Option Int,ts,λ t'=>(t'.2.1,t'.2.2.1.ls),3,GB.key,rfl,hf,hc,rfl,SqL.of (s3.lst hl),(by have:=congrArg List.length ec;rw[Ay,List.length_map]at this;lia),λ t' ht'=>⟨rfl,((pc.n s3) t' ht').2⟩,λ t' ht'=>⟨_,rfl,t'.1,_,_,_,rfl,rfl,SqT.of ((pc.n s3) t' ht').1,D7,rfl,rfl⟩,λ t' ht' u' hu'=>GB.key_lt (inn t' ht') (inn u' hu') w2 h2 w2 h2,λ l' ts' nl' pm srt=>?_⟩;have s4:Same H3 (upd H3 l' (.lst (pcs ts'))):=Same.new nl';have sN:SameN H H3:=((s1.trans s2).n).trans s3;exact q l' ts' _ ((s1.trans s2).x.trans (sx.trans s4.x)) (tab3.same s4) (SD sN nl') upd_same (((pc.n s3).perm pm).same s4) ⟨ec ▸ pm.map _,by rw[List.map_map];exact srt⟩
inductive HI(vs:LUz)(H:Hp)(Q:VK)(E:XK):Prop
 |mk (i:Int) (h0:vs=[.int i]) (h1:Q (.bl true) H):HI vs H Q E
def Iy:Sp:=λ vs H Q E=>HI vs H Q E
theorem Lm:Am ["_law_found"] ["_law_found"] (Af CJ):=fsc
theorem JJ{f:Addr}{fd:FuncData}(F:Fun K "_law_whole" "_law_whole" CJ f fd)(T:Txt mg tk):A5 P w K mg base CX0 1 f fd ["_law_found"] Iy:=by
 have S:=Lm;refine F.ok S (λ vs H Q E h=>?_) (λ cdv A outer s H vs Q E hr h=>?_)
 .obtain⟨i,rfl,_⟩:=h;rfl
 .obtain⟨i,rfl,q⟩:=h;refine⟨_,(Ad (Aj (Du (A3 BO rfl T.z_isinstance rfl (Aa (pv 0) (Aa (DG (v:=.ty "int") rfl T.z_int rfl rfl) Ab))) (Ee (LQ (A3 BO rfl T.z_isinstance rfl (Aa (pv 0) (Aa (DG (v:=.ty "bool") rfl T.z_bool rfl rfl) Ab)))))))),?_⟩;exact⟨_,rfl,_,"int","int",rfl,rfl,.inl rfl,_,rfl,AH (by decide) ⟨_,rfl,_,"int","bool",rfl,rfl,.inr (.inl rfl),_,rfl,q⟩⟩
inductive Jm(cW cU cL:Addr)(n:Nat)(vs:LUz)(H:Hp)(Q:VK)(E:XK):Prop
 |mk (v:V) (t:Tr) (h0:vs=[v]) (h1:Obj cW cU cL H t v) (h2:t.dp<n) (h3:∀v' H',Same H H'->Told H' t v'->Q v' H'):Jm cW cU cL n vs H Q E
def Dg(cW cU cL:Addr)(n:Nat) :Sp:=λ vs H Q E=>Jm cW cU cL n vs H Q E
theorem RS{vs:LUz}{H:Hp}{Q:VK}{E:XK}:¬Dg cW cU cL 0 vs H Q E:=by
 rintro⟨v,t,_,_,h,_⟩;lia
theorem Hu:Am ["_law_tree_here","_law_word","_law_first","_law_other"] ["_law_tree_here"] (Af Dm):=fsc
theorem Es{H:Hp}{t:Tr}{v:V}(h:Told H t v):decide (v=V.non)=false:=by
 cases t<;>rw[Told]at h
 .obtain⟨a,rfl,_⟩:=h;exact decide_eq_false (by intro z;cases z)
 .obtain⟨a,_,_,rfl,_⟩:=h;exact decide_eq_false (by intro z;cases z)
theorem KA{f:Addr}{fd:FuncData}{n:Nat}(F:Fun K "_law_told" "_law_told" Dm f fd)(T:Txt mg tk)(R:RT mg K cT cW cU cL)(D__law_whole:Ap P w K mg base 1 "_law_whole" ["_law_found"] Iy)(D__law_told:Ap P w K mg base (n+3) "_law_told" ["_law_tree_here"] (Dg cW cU cL n)):A5 P w K mg base CX0 (n+4) f fd ["_law_tree_here"] (Dg cW cU cL (n+1)):=by
 have S:=Hu;refine F.ok S (λ vs H Q E h=>?_) (λ cdv A outer s H vs Q E hr h=>?_)
 .obtain⟨v,t,rfl,_⟩:=h;rfl
 .obtain⟨v,t,rfl,ho,hd,q⟩:=h;refine⟨_,(Ac (A0 (Bb (A3 Bj rfl T.z_isinstance rfl (Aa (pv 0) (Aa (Az (v:=.ref (cW)) rfl R.g_Whole rfl) Ab)))) (Ac (A0 (PW.pt (G0 (Ak Q3 (Ar (pv 0) rfl) Br (As _)) (E1 (BC (Bb (Ai D__law_whole hr (Aa (Ar (pv 0) rfl) Ab) (by lia))))))) (Ad (Aj Br)) Al)
   (Ad (Aj (Av (Aa A6 (Aa (Ar (pv 0) rfl) Ab)))))) Al)
   (Ac (A0 (PW.pt (G0 (BC (Bb (A3 Bj rfl T.z_isinstance rfl (Aa (pv 0) (Aa (Az (v:=.ref (cU)) rfl R.g_Upright rfl) Ab))))) (E1 (BC (Bb (A3 Bj rfl T.z_isinstance rfl (Aa (pv 0) (Aa (Az (v:=.ref (cL)) rfl R.g_Level rfl) Ab)))))))) (Ad (Aj Br)) Al)
   (Ac (Ao (i:=1) S.nd rfl (Or.inl rfl) A6)
   (Ac (A0 (Bb (A3 Bj rfl T.z_isinstance rfl (Aa (pv 0) (Aa (Az (v:=.ref (cU)) rfl R.g_Upright rfl) Ab)))) (Ad (Ao (i:=1) S.nd rfl (Or.inl rfl) A6)) Al)
   (Ac (Ao (i:=2) S.nd rfl (Or.inl rfl) (Ai D__law_told hr (Aa (Ar (pv 0) rfl) Ab) (by lia)))
   (Ac (Ao (i:=3) S.nd rfl (Or.inl rfl) (Ai D__law_told hr (Aa (Ar (pv 0) rfl) Ab) (by lia)))
   (Ac (A0 (PW.pt (Fw (BC (Bb (Ai D__law_whole hr (Aa (Ar (pv 0) rfl) Ab) (by lia)))) (Fw (Ak GC (pv 2) Br (As _)) (EW (Ak GC (pv 3) Br (As _)))))) (Ad (Aj Br)) Al)
   (Ad (Aj (Av (Aa (pv 1) (Aa (Ar (pv 0) rfl) (Aa (pv 2) (Aa (pv 3) Ab)))))))))))))),?_⟩
  cases t with
  |whole m =>
   rw[Obj]at ho;obtain⟨x,dx,rfl,hx⟩:=ho;refine⟨_,rfl,x,cW,dx,_,_,.ref cW,true,rfl,hx,R.iW,rfl,DN,R.kWW,_,rfl,AH rfl ?_⟩;refine⟨_,rfl,x,cW,dx,_,_,rfl,hx,R.iW.cl,R.n_mark,fW _,rfl,_,rfl,?_⟩;have fin:∀a,H a=none->Q (.ref a) (upd H a (.tup [.str "whole",AB m])):=λ a ha=>q _ _ (Same.new ha) (by rw[Told];exact⟨a,rfl,upd_same⟩);cases m with
   |none=>exact A8 (by show(!decide (V.non=V.non))=false;rw[decide_eq_true rfl];rfl) (A8 rfl ⟨_,rfl,x,cW,dx,_,_,rfl,hx,R.iW.cl,R.n_mark,fW _,Au 2,fin⟩)
   |some i=>exact AH (by show(!decide (V.int i=V.non))=true;rw[decide_eq_false (by intro z;cases z)];rfl) ⟨_,rfl,x,cW,dx,_,_,rfl,hx,R.iW.cl,R.n_mark,fW _,i,rfl,_,rfl,A8 rfl ⟨_,rfl,x,cW,dx,_,_,rfl,hx,R.iW.cl,R.n_mark,fW _,Au 2,fin⟩⟩
  |cut u k y1 y2 =>
   rw[Obj]at ho;obtain⟨x,dx,w1,w2,rfl,hx,o1,o2⟩:=ho;have hd:max y1.dp y2.dp+1<n+1:=hd;refine⟨_,rfl,x,_,dx,_,_,.ref cW,false,rfl,hx,R.iC u,rfl,DN,R.kCW u,_,rfl,A8 rfl ?_⟩;have go:∀H1:Hp,H1=H->∀z:Str,z=wd u->True:=λ_ _ _ _=>trivial;cases u with
   |true =>
    refine⟨_,rfl,x,_,dx,_,_,.ref cU,true,rfl,hx,R.iC true,rfl,DN,R.kCC true true,_,rfl,A8 rfl (A8 rfl ?_)⟩;refine⟨_,rfl,x,_,dx,_,_,.ref cU,true,rfl,hx,R.iC true,rfl,DN,R.kCC true true,_,rfl,AH rfl ?_⟩;refine⟨_,rfl,x,_,dx,_,_,rfl,hx,(R.iC true).cl,R.n_first true,AA _ _ _,w1,y1,rfl,o1,by lia,λ v1 H1 s1 t1=>?_⟩;have hx1:=s1 _ _ hx;refine⟨_,rfl,x,_,dx,_,_,rfl,hx1,(R.iC true).cl,R.n_other true,A9 _ _ _,w2,y2,rfl,o2.same s1,by lia,λ v2 H2 s2 t2=>?_⟩;have hx2:=s2 _ _ hx1;have t1':=t1.same s2;refine⟨_,rfl,x,_,dx,_,_,rfl,hx2,(R.iC true).cl,R.n_at true,AL _ _ _,k,rfl,_,rfl,A8 rfl ?_⟩;refine⟨_,rfl,rfl,_,rfl,A8 (Es t1') ⟨_,rfl,rfl,_,rfl,A8 (Es t2) ?_⟩⟩;refine⟨_,rfl,_,rfl,x,_,dx,_,_,rfl,hx2,(R.iC true).cl,R.n_at true,AL _ _ _,_,rfl,_,rfl,Au 4,λ a ha=>?_⟩;have s3:Same H2 (upd H2 a (.tup [.str (wd true),.int k,v1,v2])):=Same.new ha;exact q _ _ ((s1.trans s2).trans s3) (by rw[Told];exact⟨a,v1,v2,rfl,upd_same,t1'.same s3,t2.same s3⟩)
   |false =>
    refine⟨_,rfl,x,_,dx,_,_,.ref cU,false,rfl,hx,R.iC false,rfl,DN,R.kCC false true,_,rfl,AH rfl ?_⟩;refine⟨_,rfl,x,_,dx,_,_,.ref cL,true,rfl,hx,R.iC false,rfl,DN,R.kCC false false,_,rfl,A8 rfl ?_⟩;refine⟨_,rfl,x,_,dx,_,_,.ref cU,false,rfl,hx,R.iC false,rfl,DN,R.kCC false true,_,rfl,A8 rfl ?_⟩;refine⟨_,rfl,x,_,dx,_,_,rfl,hx,(R.iC false).cl,R.n_first false,AA _ _ _,w1,y1,rfl,o1,by lia,λ v1 H1 s1 t1=>?_⟩;have hx1:=s1 _ _ hx;refine⟨_,rfl,x,_,dx,_,_,rfl,hx1,(R.iC false).cl,R.n_other false,A9 _ _ _,w2,y2,rfl,o2.same s1,by lia,λ v2 H2 s2 t2=>?_⟩;have hx2:=s2 _ _ hx1;have t1':=t1.same s2;refine⟨_,rfl,x,_,dx,_,_,rfl,hx2,(R.iC false).cl,R.n_at false,AL _ _ _,k,rfl,_,rfl,A8 rfl ?_⟩;refine⟨_,rfl,rfl,_,rfl,A8 (Es t1') ⟨_,rfl,rfl,_,rfl,A8 (Es t2) ?_⟩⟩;refine⟨_,rfl,_,rfl,x,_,dx,_,_,rfl,hx2,(R.iC false).cl,R.n_at false,AL _ _ _,_,rfl,_,rfl,Au 4,λ a ha=>?_⟩;have s3:Same H2 (upd H2 a (.tup [.str (wd false),.int k,v1,v2])):=Same.new ha;exact q _ _ ((s1.trans s2).trans s3) (by rw[Told];exact⟨a,v1,v2,rfl,upd_same,t1'.same s3,t2.same s3⟩)
inductive FE(n:Nat)(vs:LUz)(H:Hp)(Q:VK)(E:XK):Prop
 |mk (v:V) (t:Tr) (a:Addr) (p:Rk) (h0:vs=[v,.ref a]) (h1:Told H t v) (h2:H a=some (.tup p.vs)) (h3:t.dp<n) (h4:t.nd<=400) (h5:∀l ts H',Same H H'->H l=none->H' l=some (.lst (pcs ts))->PcO H' ts->cons ts=At t p->Q (.ref l) H'):FE n vs H Q E
def BS(n:Nat) :Sp:=λ vs H Q E=>FE n vs H Q E
theorem OS{vs:LUz}{H:Hp}{Q:VK}{E:XK}:¬BS 0 vs H Q E:=by
 rintro⟨v,t,a,p,_,_,_,h,_⟩;lia
theorem Le(ts us:List PT):cons (ts++us)=cons ts++cons us:=List.map_append
theorem MV(ts us:List PT):pcs (ts++us)=pcs ts++pcs us:=List.map_append
theorem PcO.app{H:Hp}{ts us:List PT}(a:PcO H ts)(b:PcO H us):PcO H (ts++us):=λ t ht=>(List.mem_append.mp ht).elim (a t) (b t)
theorem BM{H H':Hp}{l:Addr}(s:Same H H')(h:H' l=none):H l=none:=by
 cases e:H l with
 |none=>rfl
 |some o=>rw[s _ _ e]at h;cases h
theorem EI:Am ["_law_told_here","_law_block","_law_top","_law_left","_law_bottom","_law_right","_law_line","_law_first"] ["_law_told_here","_law_block"] (Af Cs):=fsc
theorem HU{f:Addr}{fd:FuncData}{n:Nat}(F:Fun K "_law_pieces" "_law_pieces" Cs f fd)(D__law_pieces:Ap P w K mg base (n+3) "_law_pieces" ["_law_told_here","_law_block"] (BS n)):A5 P w K mg base CX0 (n+4) f fd ["_law_told_here","_law_block"] (BS (n+1)):=by
 have S:=EI;refine F.ok S (λ vs H Q E h=>?_) (λ cdv A outer s H vs Q E hr h=>?_)
 .obtain⟨v,t,a,p,rfl,_⟩:=h;rfl
 .obtain⟨v,t,b,p,rfl,ht,hb,hd,hn,q⟩:=h;refine⟨_,(Ac (G3 (pv 1) (CO rfl (A1 (Aw (i:=2) S.nd rfl (Or.inl rfl)) (A1 (Aw (i:=3) S.nd rfl (Or.inl rfl)) (A1 (Aw (i:=4) S.nd rfl (Or.inl rfl)) (A1 (Aw (i:=5) S.nd rfl (Or.inl rfl)) B1))))))
   (Ac (A0 (Ak AN (Aq An (pv 0) Ae (λ_ _=>rfl)) A6 (As _)) (Ad (Aj (AQ (Aa (Av (Aa (pv 1) (Aa (Aq An (pv 0) Ae (λ_ _=>rfl)) Ab))) Ab)))) Al)
   (Ac (A0 (Ak AN (Aq An (pv 0) Ae (λ_ _=>rfl)) A6 (As _)) (Ac (Ao (i:=6) S.nd rfl (Or.inl rfl) (Ax AR (pv 3) (Aq An (pv 0) Ae (λ_ _=>rfl))))
   (Ac (Ao (i:=7) S.nd rfl (Or.inl rfl) (Ai D__law_pieces hr (Aa (Aq An (pv 0) Ae (λ_ _=>rfl)) (Aa (Av (Aa (pv 2) (Aa (pv 3) (Aa (pv 4) (Aa (pv 6) Ab))))) Ab)) (by lia)))
   (Ad (Aj (Ax CQ (pv 7) (Ai D__law_pieces hr (Aa (Aq An (pv 0) Ae (λ_ _=>rfl)) (Aa (Av (Aa (pv 2) (Aa (pv 6) (Aa (pv 4) (Aa (pv 5) Ab))))) Ab)) (by lia))))))) Al)
   (Ac (Ao (i:=6) S.nd rfl (Or.inl rfl) (Ax AR (pv 2) (Aq An (pv 0) Ae (λ_ _=>rfl))))
   (Ad (Aj (Ax CQ (Ai D__law_pieces hr (Aa (Aq An (pv 0) Ae (λ_ _=>rfl)) (Aa (Av (Aa (pv 2) (Aa (pv 3) (Aa (pv 6) (Aa (pv 5) Ab))))) Ab)) (by lia)) (Ai D__law_pieces hr (Aa (Aq An (pv 0) Ae (λ_ _=>rfl)) (Aa (Av (Aa (pv 6) (Aa (pv 3) (Aa (pv 4) (Aa (pv 5) Ab))))) Ab)) (by lia))))))))),?_⟩
  refine⟨_,rfl,b,_,rfl,SqT.of hb,rfl,_,_,rfl,_,_,rfl,_,_,rfl,_,_,rfl,rfl,?_⟩;cases t with
  |whole m =>
   rw[Told]at ht;obtain⟨a,rfl,ha⟩:=ht;refine⟨_,rfl,a,_,_,_,rfl,rfl,SqT.of ha,D7,rfl,_,rfl,AH (decide_eq_true rfl) ?_⟩;refine⟨_,rfl,_,rfl,a,_,_,_,rfl,rfl,SqT.of ha,DS,Au 2,λ ta hta=>⟨Au 1,λ l hl=>?_⟩⟩;obtain⟨H2,g,s2,e2⟩:=nw (.tup [.ref b,AB m]) hta;rw[g] at hl |-;have s3:Same H2 (upd H2 l (.lst [.ref ta])):=Same.new hl;refine q l [(ta,b,p,m)] _ (s2.trans s3) (BM s2 hl) upd_same (λ t ht=>?_) (by rw[At];rfl);rw[List.mem_singleton.mp ht];exact⟨s3 _ _ e2,s3 _ _ (s2 _ _ hb)⟩
  |cut u k y1 y2 =>
   rw[Told]at ht;obtain⟨a,v1,v2,rfl,ha,t1,t2⟩:=ht;have hd:max y1.dp y2.dp+1<n+1:=hd;have hn:y1.nd+y2.nd+1<=400:=hn;have z1:=MC y1;have z2:=MC y2;refine⟨_,rfl,a,_,_,_,rfl,rfl,SqT.of ha,at0,rfl,_,rfl,A8 (AZ u) ?_⟩;cases u with
   |true =>
    refine⟨_,rfl,a,_,_,_,rfl,rfl,SqT.of ha,at0,rfl,_,rfl,AH (AI true true) ?_⟩;refine⟨_,rfl,_,rfl,a,_,_,_,rfl,rfl,SqT.of ha,at1,_,_,rfl,rfl,?_⟩;refine⟨_,rfl,a,_,_,_,rfl,rfl,SqT.of ha,at2,_,rfl,_,rfl,_,rfl,_,rfl,Au 4,λ b1 hb1=>?_⟩;obtain⟨H0,g,s0,e0⟩:=nw (.tup [.int p.t,.int p.l,.int p.b,.int (p.l+k)]) hb1;rw[g];have e0:H0 b1=some (.tup (p.fst true k).vs):=e0;refine⟨v1,y1,b1,p.fst true k,rfl,t1.same s0,e0,by lia,by lia,λ l1 ts1 H1 s1 n1 g1 c1 e1=>?_⟩;have s01:=s0.trans s1;refine⟨_,rfl,_,rfl,a,_,_,_,rfl,rfl,SqT.of (s01 _ _ ha),at3,_,rfl,_,rfl,_,rfl,_,rfl,Au 4,λ b2 hb2=>?_⟩;obtain⟨H2,g,s2,e2'⟩:=nw (.tup [.int p.t,.int (p.l+k),.int p.b,.int p.r]) hb2;rw[g];have e2':H2 b2=some (.tup (p.oth true k).vs):=e2';refine⟨v2,y2,b2,p.oth true k,rfl,(t2.same s01).same s2,e2',by lia,by lia,λ l2 ts2 H3 s3 n2 g2 c2 e2=>?_⟩;have s23:=s2.trans s3;have OV:=congrArg List.length e1;have Mj:=congrArg List.length e2;rw[Ay,List.length_map]at OV Mj;refine⟨l1,l2,_,_,rfl,rfl,s23 _ _ g1,g2,Nat.le_of_lt (A2 (by rw[List.length_map,List.length_map];lia)),λ l hl=>?_⟩;have s4:Same H3 (upd H3 l (.lst (pcs ts1++pcs ts2))):=Same.new hl;exact q l (ts1++ts2) _ ((s01.trans s23).trans s4) (BM (s01.trans s23) hl) (by rw[upd_same,MV]) (((c1.same s23).app c2).same s4) (by rw[Le,e1,e2,At])
   |false =>
    refine⟨_,rfl,a,_,_,_,rfl,rfl,SqT.of ha,at0,rfl,_,rfl,A8 (AI false true) ?_⟩;refine⟨_,rfl,_,rfl,a,_,_,_,rfl,rfl,SqT.of ha,at1,_,_,rfl,rfl,?_⟩;refine⟨_,rfl,a,_,_,_,rfl,rfl,SqT.of ha,at2,_,rfl,_,rfl,_,rfl,_,rfl,Au 4,λ b1 hb1=>?_⟩;obtain⟨H0,g,s0,e0⟩:=nw (.tup [.int p.t,.int p.l,.int (p.t+k),.int p.r]) hb1;rw[g];have e0:H0 b1=some (.tup (p.fst false k).vs):=e0;refine⟨v1,y1,b1,p.fst false k,rfl,t1.same s0,e0,by lia,by lia,λ l1 ts1 H1 s1 n1 g1 c1 e1=>?_⟩;have s01:=s0.trans s1;refine⟨_,rfl,a,_,_,_,rfl,rfl,SqT.of (s01 _ _ ha),at3,_,rfl,_,rfl,_,rfl,_,rfl,Au 4,λ b2 hb2=>?_⟩;obtain⟨H2,g,s2,e2'⟩:=nw (.tup [.int (p.t+k),.int p.l,.int p.b,.int p.r]) hb2;rw[g];have e2':H2 b2=some (.tup (p.oth false k).vs):=e2';refine⟨v2,y2,b2,p.oth false k,rfl,(t2.same s01).same s2,e2',by lia,by lia,λ l2 ts2 H3 s3 n2 g2 c2 e2=>?_⟩;have s23:=s2.trans s3;have OV:=congrArg List.length e1;have Mj:=congrArg List.length e2;rw[Ay,List.length_map]at OV Mj;refine⟨l1,l2,_,_,rfl,rfl,s23 _ _ g1,g2,Nat.le_of_lt (A2 (by rw[List.length_map,List.length_map];lia)),λ l hl=>?_⟩;have s4:Same H3 (upd H3 l (.lst (pcs ts1++pcs ts2))):=Same.new hl;exact q l (ts1++ts2) _ ((s01.trans s23).trans s4) (BM (s01.trans s23) hl) (by rw[upd_same,MV]) (((c1.same s23).app c2).same s4) (by rw[Le,e1,e2,At])
def sd(u:Bool):Int:=if u then 1 else 0
theorem EE{p:Rk}{u:Bool}:atI p.vs (sd u)=some (.int (p.lo u)):=by cases u<;>rfl
theorem Nt{p:Rk}{u:Bool}:atI p.vs (sd u+2)=some (.int (p.hi u)):=by cases u<;>rfl
theorem SV{u:Bool}:atI [V.str "level",V.str "upright"] (sd u)=some (.str (wd u)):=by cases u<;>rfl
theorem CM{p:Rk}(h:p.ok)(u:Bool):p.lo u<p.hi u:=by
 cases u
 .exact h.1
 .exact h.2
def Mw(u:Bool)(a:Int)(g:Rk×Option Int):Bool:=decide (g.1.lo u<a)&&decide (a<g.1.hi u)
theorem E5{ts:List PT}{i:Nat}{x:V}(h:(pcs ts)[i]?=some x):∃u,ts[i]?=some u/\x=.ref u.1:=by
 rw[List.getElem?_map]at h;cases e:ts[i]? with
 |none=>rw[e]at h;cases h
 |some u=>rw[e]at h;exact⟨u,rfl,(Option.some.inj h).symm⟩
def LnAt(H:Hp)(l:Addr)(cs:List (Bool×Int)):Prop:=∃ts:List (Addr×Bool×Int),H l=some (.lst (Ec ts))/\(∀t∈ts,H t.1=some (.tup [.str (wd t.2.1),.int t.2.2]))/\ts.map (·.2)=cs
theorem LnAt.same{H H':Hp}{a:Addr}{ks:List (Bool×Int)}(h:LnAt H a ks)(s:Same H H'):LnAt H' a ks :=
 let ⟨ts,a,b,c⟩:=h;⟨ts,s _ _ a,λ t ht=>s _ _ (b t ht),c⟩
structure Fnd(L:List (Rk×Option Int))(p:Rk)(dn:Bool->Int->Prop)(cs:List (Bool×Int)):Prop where
 ok:∀x∈cs,p.lo x.1<x.2/\x.2<p.hi x.1/\∀g∈L,¬brk x.1 x.2 g
 all:∀u a,dn u a->p.lo u<a->a<p.hi u->(∀g∈L,¬brk u a g)->(u,a)∈cs
theorem Ro{p:Rk}{u:Bool}{a:Int}(h:∀v,0<=p.lo v/\p.hi v<=12)(a1:1<=a)(a2:a<p.len u):(∀v,0<=(p.fst u a).lo v/\(p.fst u a).hi v<=12)/\(∀v,0<=(p.oth u a).lo v/\(p.oth u a).hi v<=12)/\(p.fst u a).len true+(p.fst u a).len false<p.len true+p.len false/\(p.oth u a).len true+(p.oth u a).len false<p.len true+p.len false:=by
 obtain⟨x1,x2⟩:=h true;obtain⟨y1,y2⟩:=h false;have x1:0<=p.l:=x1;have x2:p.r<=12:=x2;have y1:0<=p.t:=y1;have y2:p.b<=12:=y2;cases u with
 |true =>
  have a2:a<p.r-p.l:=a2;refine⟨λ v=>?_,λ v=>?_,?_,?_⟩
  .cases v
   .exact⟨y1,y2⟩
   .exact⟨x1,show p.l+a<=12 by lia⟩
  .cases v
   .exact⟨y1,y2⟩
   .exact⟨show 0<=p.l+a by lia,x2⟩
  .show p.l+a-p.l+(p.b-p.t)<p.r-p.l+(p.b-p.t);lia
  .show p.r-(p.l+a)+(p.b-p.t)<p.r-p.l+(p.b-p.t);lia
 |false =>
  have a2:a<p.b-p.t:=a2;refine⟨λ v=>?_,λ v=>?_,?_,?_⟩
  .cases v
   .exact⟨y1,show p.t+a<=12 by lia⟩
   .exact⟨x1,x2⟩
  .cases v
   .exact⟨show 0<=p.t+a by lia,y2⟩
   .exact⟨x1,x2⟩
  .show p.r-p.l+(p.t+a-p.t)<p.r-p.l+(p.b-p.t);lia
  .show p.r-p.l+(p.b-(p.t+a))<p.r-p.l+(p.b-p.t);lia
def Ot(en:Rk->En)(D:Rk->Prop):Tr->Rk->Prop
 |.whole m,p=>D p/\en p=.w m
 |.cut u k x y,p=>D p/\en p=.c u k/\Ot en D x (p.fst u k)/\Ot en D y (p.oth u k)
def El(u:Bool)(a:Int)(r:Rk):Bool:=decide (r.lo u<a)&&decide (a<r.hi u)
theorem brkR_iff{u:Bool}{a:Int}{r:Rk}:El u a r=true↔r.lo u<a/\a<r.hi u:=by
 unfold El;rw[Bool.and_eq_true,decide_eq_true_iff,decide_eq_true_iff]
def EA(rs:List Rk)(u:Bool)(lo:Int):Nat->List Int
 |0=>[]
 |n+1=>EA rs u lo n++if rs.any (El u (lo+1+n))=true then [] else [lo+1+n]
def lns(rs:List Rk)(p:Rk)(u:Bool):List Int:=EA rs u (p.lo u) (p.hi u-(p.lo u+1)).toNat
theorem KY{rs:List Rk}{u:Bool}{lo:Int}:∀{n:Nat}{a:Int},a∈EA rs u lo n↔lo<a/\a<lo+1+n/\∀r∈rs,¬(r.lo u<a/\a<r.hi u)
 |0,a=>by
  rw[EA];exact⟨λ h=>absurd h List.not_mem_nil,λ h=>by lia⟩
 |n+1,a=>by
  rw[EA,List.mem_append,KY]
  constructor
  .rintro(⟨h1,h2,h3⟩|h)
   .exact⟨h1,by lia,h3⟩
   .split at h
    .cases h
    .rename_i hn;cases List.mem_singleton.mp h;refine⟨by lia,by lia,λ r hr z=>hn ?_⟩;exact List.any_eq_true.mpr ⟨r,hr,brkR_iff.mpr z⟩
  .rintro⟨h1,h2,h3⟩;by_cases e:a=lo+1+n
   .right
    subst e;rw[if_neg (λ z=>by obtain⟨r,hr,hz⟩:=List.any_eq_true.mp z;exact h3 r hr (brkR_iff.mp hz))];exact List.mem_singleton.mpr rfl
   .exact .inl ⟨h1,by lia,h3⟩
theorem Dx{rs:List Rk}{u:Bool}{lo:Int}:∀n:Nat,(EA rs u lo n).length<=n
 |0=>Nat.le_refl _
 |n+1=>by
  have:=Dx (rs:=rs) (u:=u) (lo:=lo) n;rw[EA,List.length_append];split<;>simp<;>lia
theorem JT{rs:List Rk}{p:Rk}{u:Bool}{a:Int}(h:p.ok):a∈lns rs p u↔p.lo u<a/\a<p.hi u/\∀r∈rs,¬(r.lo u<a/\a<r.hi u):=by
 have:p.lo u<p.hi u:=CM h u;unfold lns;rw[KY]
 constructor
 .rintro⟨a1,a2,a3⟩;exact⟨a1,by lia,a3⟩
 .rintro⟨a1,a2,a3⟩;exact⟨a1,by lia,a3⟩
def CF(rs:List Rk)(p:Rk):List (Bool×Int):=(lns rs p true).map (λ a=>(true,a))++(lns rs p false).map (λ a=>(false,a))
theorem BG{rs:List Rk}{p:Rk}{c:Bool×Int}(h:p.ok):c∈CF rs p↔p.lo c.1<c.2/\c.2<p.hi c.1/\∀r∈rs,¬(r.lo c.1<c.2/\c.2<r.hi c.1):=by
 obtain⟨u,a⟩:=c;unfold CF;rw[List.mem_append,List.mem_map,List.mem_map]
 constructor
 .rintro(⟨b,hb,e⟩|⟨b,hb,e⟩)<;>cases e<;>exact(JT h).mp hb
 .intro z;cases u
  .exact .inr ⟨a,(JT h).mpr z,rfl⟩
  .exact .inl ⟨a,(JT h).mpr z,rfl⟩
theorem Qg{L:List (Rk×Option Int)}{p:Rk}(h:p.ok):Fnd L p (λ_ _=>True) (CF (L.map (·.1)) p) :=
 ⟨λ x hx=>by
  obtain⟨a,b,c⟩:=(BG h).mp hx;exact⟨a,b,λ g hg z=>c g.1 (List.mem_map.mpr ⟨g,hg,rfl⟩) z⟩,λ u a _ a1 a2 nb=>(BG h).mpr ⟨a1,a2,λ r hr z=>by
  obtain⟨g,hg,rfl⟩:=List.mem_map.mp hr;exact nb g hg z⟩⟩
theorem Qf{rs:List Rk}{p:Rk}(h:p.ok)(hb:∀u,0<=p.lo u/\p.hi u<=12):(CF rs p).length<=24:=by
 unfold CF;rw[List.length_append,List.length_map,List.length_map];have a:=Dx (rs:=rs) (u:=true) (lo:=p.lo true) (p.hi true-(p.lo true+1)).toNat;have b:=Dx (rs:=rs) (u:=false) (lo:=p.lo false) (p.hi false-(p.lo false+1)).toNat;have:=hb true;have:=hb false;unfold lns;lia
def thE(p:Rk):List (Bool×Int)->En
 |c::_=>.c c.1 (c.2-p.lo c.1)
 |[]=>.w none
def enL(L:List (Rk×Option Int))(p:Rk):En:=match L with
 |[g]=>.w g.2
 |_=>thE p (CF (L.map (·.1)) p)
theorem Pq{L:List (Rk×Option Int)}{p:Rk}(h:L.length≠1):enL L p=thE p (CF (L.map (·.1)) p):=by
 match L,h with
 |[],_=>rfl
 |[g],h=>exact absurd rfl h
 |_::_::_,_=>rfl
def Ins(r p:Rk):Prop:=p.t<=r.t/\p.l<=r.l/\r.b<=p.b/\r.r<=p.r
instance (r p:Rk):Decidable (Ins r p):=inferInstanceAs (Decidable (_/\_/\_/\_))
def inP(L:List (Rk×Option Int))(p:Rk):List (Rk×Option Int):=L.filter λ g=>decide (Ins g.1 p)
theorem ins_iff{r p:Rk}:Ins r p↔∀u,p.lo u<=r.lo u/\r.hi u<=p.hi u:=by
 constructor
 .rintro⟨a,b,c,d⟩ u;cases u
  .exact⟨a,c⟩
  .exact⟨b,d⟩
 .intro h;exact⟨(h false).1,(h true).1,(h false).2,(h true).2⟩
theorem IA{p:Rk}{u v:Bool}{k:Int}(k1:1<=k)(k2:k<p.len u):(p.fst u k).lo v=p.lo v/\(p.fst u k).hi v=(if u=v then p.lo u+k else p.hi v)/\(p.oth u k).lo v=(if u=v then p.lo u+k else p.lo v)/\(p.oth u k).hi v=p.hi v:=by
 cases u<;>cases v<;>exact⟨rfl,rfl,rfl,rfl⟩
theorem Pd{L:List (Rk×Option Int)}{p:Rk}{u:Bool}{k:Int}(hL:∀g∈L,∀v,g.1.lo v<g.1.hi v)(k1:1<=k)(k2:k<p.len u)(nb:∀g∈inP L p,¬brk u (p.lo u+k) g) :
  inP L (p.fst u k)=(inP L p).filter (λ g=>decide (g.1.lo u<p.lo u+k))/\inP L (p.oth u k)=(inP L p).filter (λ g=>decide (p.lo u+k<=g.1.lo u)):=by
 rw[B3]at k2;have k2':k<p.len u:=by rw[B3];exact k2
 unfold inP;rw[List.filter_filter,List.filter_filter]
 constructor
 .refine List.filter_congr λ g hg=>?_;rw[Bool.eq_iff_iff,Bool.and_eq_true,decide_eq_true_iff,decide_eq_true_iff,decide_eq_true_iff];have lt:=hL g hg u
  constructor
  .intro z;have zz:=ins_iff.mp z;have zu:=zz u;obtain⟨_,r2,_,_⟩:=IA (p:=p) (u:=u) (v:=u) k1 k2';rw[r2,if_pos rfl]at zu;refine⟨by lia,ins_iff.mpr λ v=>?_⟩;have zv:=zz v;obtain⟨q1,q2,_,_⟩:=IA (p:=p) (u:=u) (v:=v) k1 k2';rw[q1,q2]at zv;by_cases e:u=v
   .subst e;rw[if_pos rfl]at zv;lia
   .rw[if_neg e]at zv;exact zv
  .rintro⟨a,b⟩;have nbg:=nb g (List.mem_filter.mpr ⟨hg,decide_eq_true b⟩);have bb:=ins_iff.mp b;refine ins_iff.mpr λ v=>?_;have bv:=bb v;obtain⟨q1,q2,_,_⟩:=IA (p:=p) (u:=u) (v:=v) k1 k2';rw[q1,q2];by_cases e:u=v
   .subst e;rw[if_pos rfl];exact⟨bv.1,Classical.byContradiction λ z=>nbg ⟨a,by lia⟩⟩
   .rw[if_neg e];exact bv
 .refine List.filter_congr λ g hg=>?_;rw[Bool.eq_iff_iff,Bool.and_eq_true,decide_eq_true_iff,decide_eq_true_iff,decide_eq_true_iff];have lt:=hL g hg u
  constructor
  .intro z;have zz:=ins_iff.mp z;have zu:=zz u;obtain⟨_,_,r3,_⟩:=IA (p:=p) (u:=u) (v:=u) k1 k2';rw[r3,if_pos rfl]at zu;refine⟨zu.1,ins_iff.mpr λ v=>?_⟩;have zv:=zz v;obtain⟨_,_,q3,q4⟩:=IA (p:=p) (u:=u) (v:=v) k1 k2';rw[q3,q4]at zv;by_cases e:u=v
   .subst e;rw[if_pos rfl]at zv;lia
   .rw[if_neg e]at zv;exact zv
  .rintro⟨a,b⟩;have bb:=ins_iff.mp b;refine ins_iff.mpr λ v=>?_;have bv:=bb v;obtain⟨_,_,q3,q4⟩:=IA (p:=p) (u:=u) (v:=v) k1 k2';rw[q3,q4];by_cases e:u=v
   .subst e;rw[if_pos rfl];exact⟨a,bv.2⟩
   .rw[if_neg e];exact bv
def IsF:Tr->List (Rk×Option Int)->Rk->Prop
 |.whole m,L,p=>L=[(p,m)]
 |.cut u k x y,L,p=>(CF (L.map (·.1)) p).head?=some (u,p.lo u+k)/\IsF x (L.filter λ g=>decide (g.1.lo u<p.lo u+k)) (p.fst u k)/\IsF y (L.filter λ g=>decide (p.lo u+k<=g.1.lo u)) (p.oth u k)
def DF(L:List (Rk×Option Int))(p:Rk):Prop:=p.ok/\(∀u,0<=p.lo u/\p.hi u<=12)/\∃t,AO p t/\(inP L p).Perm (At t p)
theorem Od{L:List (Rk×Option Int)}(hL:∀g∈L,∀v,g.1.lo v<g.1.hi v):∀(n:Nat)(p:Rk),(p.len true+p.len false).toNat=n->DF L p->∃F,Ot (λ p=>enL (inP L p) p) (DF L) F p/\AO p F/\IsF F (inP L p) p/\(At F p).Perm (inP L p):=by
 intro n
 induction n using Nat.strongRecOn with
 |ind n ih =>
  intro p hn df;have df0:=df;obtain⟨ok,bd,t,fit,pm⟩:=df;have len:=pm.length_eq;rw[Ay]at len;by_cases h1:(inP L p).length=1
  .obtain⟨g,hg⟩:=List.length_eq_one_iff.mp h1;obtain⟨m,rfl⟩:=LF (len.symm.trans h1);rw[At,hg]at pm;have e:=List.mem_singleton.mp (pm.mem_iff.mp (List.mem_singleton.mpr rfl));subst e;refine⟨.whole m,⟨df0,by show enL (inP L p) p=_;rw[hg];rfl⟩,trivial,hg,by rw[hg];exact List.Perm.refl _⟩
  .obtain⟨c,rest,hc⟩:∃c rest,CF ((inP L p).map (·.1)) p=c::rest:=by
    cases t with
    |whole m=>exact absurd len h1
    |cut u0 k0 x0 y0 =>
     obtain⟨⟨k1,k2⟩,fx,fy⟩:=fitR_cut.mp fit;obtain⟨_,_,nb⟩:=Cb ok k1 k2 fx fy;rw[B3]at k2;have m:=(BG (rs:=(inP L p).map (·.1)) (c:=(u0,p.lo u0+k0)) ok).mpr ⟨by show p.lo u0<p.lo u0+k0;lia,by show p.lo u0+k0<p.hi u0;lia,λ r hr z=>by
      obtain⟨g,hg,rfl⟩:=List.mem_map.mp hr;exact nb g (by have:=pm.mem_iff.mp hg;rw[At]at this;exact this) z⟩
     cases q:CF ((inP L p).map (·.1)) p with
     |nil=>rw[q]at m;cases m
     |cons c r=>exact⟨c,r,rfl⟩
   obtain⟨u,a⟩:=c;obtain⟨a1,a2,nb⟩:=(BG ok).mp (hc ▸ List.mem_cons_self:(u,a)∈CF ((inP L p).map (·.1)) p);have a1:p.lo u<a:=a1;have a2:a<p.hi u:=a2;obtain⟨k,rfl⟩:∃k,a=p.lo u+k:=⟨a-p.lo u,by lia⟩;have k1:1<=k:=by lia
   have k2:k<p.len u:=by rw[B3];lia
   have nb':∀g∈inP L p,¬brk u (p.lo u+k) g:=λ g hg z=>nb g.1 (List.mem_map.mpr ⟨g,hg,rfl⟩) z;obtain⟨th,fa,fb,q1,q2⟩:=EX ok fit pm k1 k2 nb';obtain⟨o1,o2⟩:=C2 (u:=u) ok k1 k2;obtain⟨l1,l2,lt1,lt2⟩:=Ro (u:=u) (a:=k) bd k1 k2;obtain⟨i1,i2⟩:=Pd hL k1 k2 nb';have d1:DF L (p.fst u k):=⟨o1,l1,_,fa,by rw[i1];exact q1⟩;have d2:DF L (p.oth u k):=⟨o2,l2,_,fb,by rw[i2];exact q2⟩;have pos1:0<=(p.fst u k).len true+(p.fst u k).len false:=by
    have:=CM o1 true;have:=CM o1 false;rw[B3,B3];lia
   have pos2:0<=(p.oth u k).len true+(p.oth u k).len false:=by
    have:=CM o2 true;have:=CM o2 false;rw[B3,B3];lia
   obtain⟨X,gx,fx,sx,px⟩:=ih _ (by lia) (p.fst u k) rfl d1;obtain⟨Y,gy,fy,sy,py⟩:=ih _ (by lia) (p.oth u k) rfl d2;refine⟨.cut u k X Y,⟨df0,?_,gx,gy⟩,fitR_cut.mpr ⟨⟨k1,k2⟩,fx,fy⟩,⟨by rw[hc];rfl,i1 ▸ sx,i2 ▸ sy⟩,?_⟩
   .show enL (inP L p) p=_;rw[Pq h1,hc];show En.c u (p.lo u+k-p.lo u)=_;rw[show p.lo u+k-p.lo u=k by lia]
   .rw[At];refine(px.append py).trans ?_;rw[i1,i2];exact(q1.append q2).trans ((BI (p:=p) th).symm.trans pm.symm)
theorem GV:∀{F G:Tr}{L:List (Rk×Option Int)}{p:Rk},p.ok->IsF F L p->IsF G L p->F=G
 |.whole m,.whole m',L,p,_,h,g=>by
  have h:L=[(p,m)]:=h;have g:L=[(p,m')]:=g;rw[h]at g;cases g;rfl
 |.whole m,.cut u k x y,L,p,ok,h,g=>by
  have h:L=[(p,m)]:=h;have g:=List.mem_of_mem_head? (Option.mem_def.mpr g.1);rw[h]at g;obtain⟨a,b,c⟩:=(BG ok).mp g;exact absurd ⟨a,b⟩ (c p (by simp))
 |.cut u k x y,.whole m,L,p,ok,g,h=>by
  have h:L=[(p,m)]:=h;have g:=List.mem_of_mem_head? (Option.mem_def.mpr g.1);rw[h]at g;obtain⟨a,b,c⟩:=(BG ok).mp g;exact absurd ⟨a,b⟩ (c p (by simp))
 |.cut u k x y,.cut u' k' x' y',L,p,ok,h,g=>by
  obtain⟨h0,h1,h2⟩:=h;obtain⟨g0,g1,g2⟩:=g;have m:=List.mem_of_mem_head? (Option.mem_def.mpr h0);obtain⟨a,b,_⟩:=(BG ok).mp m;have a:p.lo u<p.lo u+k:=a;have b:p.lo u+k<p.hi u:=b;rw[h0]at g0;have e:=Option.some.inj g0;have e1:u=u':=congrArg Prod.fst e;subst e1;have e2:p.lo u+k=p.lo u+k':=congrArg Prod.snd e;have e3:k=k':=by lia
  subst e3;obtain⟨o1,o2⟩:=C2 (u:=u) ok (k:=k) (by lia) (by rw[B3];lia);rw[GV o1 h1 g1,GV o2 h2 g2]
def Fr:Tr->Tr->Prop
 |.whole m,s=>∃m',s=.whole m'/\m'≠m
 |.cut u k x y,s=>s=.whole none\/(∃x',s=.cut u k x' y/\Fr x x')\/∃y',s=.cut u k x y'/\Fr y y'
theorem Gi:∀{t s:Tr}{p:Rk},Fr t s->¬(At s p).Perm (At t p)
 |.whole m,s,p,h,e=>by
  obtain⟨m',rfl,n⟩:=h;rw[At,At]at e;have:=List.mem_singleton.mp (e.mem_iff.mp (List.mem_singleton.mpr rfl));exact n (congrArg Prod.snd this)
 |.cut u k x y,s,p,h,e=>by
  rcases h with rfl|⟨x',rfl,h⟩|⟨y',rfl,h⟩
  .have:=e.length_eq;rw[Ay,Ay]at this;have:=Bx x;have:=Bx y;have e:(Tr.cut u k x y).sz=x.sz+y.sz:=rfl;have e1:(Tr.whole none).sz=1:=rfl;lia
  .rw[At,At]at e;exact Gi h ((List.perm_append_right_iff _).mp e)
  .rw[At,At]at e;exact Gi h ((List.perm_append_left_iff _).mp e)
theorem EO:∀{t s:Tr}{p:Rk},AO p t->Fr t s->AO p s
 |.whole m,s,p,f,h=>by
  obtain⟨m',rfl,n⟩:=h;exact trivial
 |.cut u k x y,s,p,f,h=>by
  obtain⟨q,fx,fy⟩:=fitR_cut.mp f;rcases h with rfl|⟨x',rfl,h⟩|⟨y',rfl,h⟩
  .exact trivial
  .exact fitR_cut.mpr ⟨q,EO fx h,fy⟩
  .exact fitR_cut.mpr ⟨q,fx,EO fy h⟩
theorem R7{M:List (Rk×Option Int)}{t:Tr}{p:Rk}(ok:p.ok)(fit:AO p t)(pm:M.Perm (At t p))(h1:M.length≠1):CF (M.map (·.1)) p≠[]:=λ q=>by
 have len:=pm.length_eq;rw[Ay]at len;cases t with
 |whole m=>exact absurd len h1
 |cut u0 k0 x0 y0 =>
  obtain⟨⟨k1,k2⟩,fx,fy⟩:=fitR_cut.mp fit;obtain⟨_,_,nb⟩:=Cb ok k1 k2 fx fy;rw[B3]at k2;have m:=(BG (rs:=M.map (·.1)) (c:=(u0,p.lo u0+k0)) ok).mpr ⟨by show p.lo u0<p.lo u0+k0;lia,by show p.lo u0+k0<p.hi u0;lia,λ r hr z=>by
   obtain⟨g,hg,rfl⟩:=List.mem_map.mp hr;exact nb g (by have:=pm.mem_iff.mp hg;rw[At]at this;exact this) z⟩
  rw[q]at m;cases m
theorem Rv:∀{A B:List (Rk×Option Int)},Bd (gsD A) (gsD B)=true->A=B
 |[],[],_=>rfl
 |[],b::B,h=>by simp[gsD,Bd]at h
 |a::A,[],h=>by simp[gsD,Bd]at h
 | (a,m)::A,(b,m')::B,h=>by
  simp only[gsD,gD,deq,Bd,Bool.and_eq_true,and_true]at h;obtain⟨⟨⟨h1,h2,h3,h4⟩,h5⟩,h6⟩:=h;rw[Rv h6,(OQ m m').mp h5];obtain⟨a1,a2,a3,a4⟩:=a;obtain⟨b1,b2,b3,b4⟩:=b;cases Pb _ _ h1;cases Pb _ _ h2;cases Pb _ _ h3;cases Pb _ _ h4;rfl
theorem QJ{r p:Rk}:(decide (p.t<=r.t)&&decide (p.l<=r.l)&&(decide (r.b<=p.b)&&decide (r.r<=p.r)))=decide (Ins r p):=by
 rw[Bool.eq_iff_iff,decide_eq_true_iff];simp only[Bool.and_eq_true,decide_eq_true_iff];exact⟨λ⟨⟨a,b⟩,c,d⟩=>⟨a,b,c,d⟩,λ⟨a,b,c,d⟩=>⟨⟨a,b⟩,c,d⟩⟩
inductive HM(vs:LUz)(H:Hp)(Q:VK)(E:XK):Prop
 |mk (a b:Addr) (r p:Rk) (h0:vs=[.ref a,.ref b]) (h1:H a=some (.tup r.vs)) (h2:H b=some (.tup p.vs)) (h3:Q (.bl (decide (Ins r p))) H):HM vs H Q E
def I0:Sp:=λ vs H Q E=>HM vs H Q E
theorem PH:Am ["one","other","starts_within"] ["one","other"] (Af Gw):=fsc
theorem NN{f:Addr}{fd:FuncData}(F:Fun K "inside" "inside" Gw f fd):A5 P w K mg base CX0 1 f fd ["one","other"] I0:=by
 have S:=PH;refine F.ok S (λ vs H Q E h=>?_) (λ cdv A outer s H vs Q E hr h=>?_)
 .obtain⟨a,b,r,p,rfl,_⟩:=h;rfl
 .obtain⟨a,b,r,p,rfl,ha,hb,q⟩:=h;refine⟨_,(Ac (Ao (i:=2) S.nd rfl (Or.inl rfl) (Du (Ci GA (Aq An (pv 1) Ae (λ_ _=>rfl)) (Aq An (pv 0) Ae (λ_ _=>rfl)) (As _)) (Ee (Ci GA (Aq An (pv 1) Ae (λ_ _=>rfl)) (Aq An (pv 0) Ae (λ_ _=>rfl)) (As _)))))
   (Ad (Aj (Du (pv 2) (Du (Ci GA (Aq An (pv 0) Ae (λ_ _=>rfl)) (Aq An (pv 1) Ae (λ_ _=>rfl)) (As _)) (Ee (Ci GA (Aq An (pv 0) Ae (λ_ _=>rfl)) (Aq An (pv 1) Ae (λ_ _=>rfl)) (As _)))))))),?_⟩
  rw[<-QJ]at q;have key:=q;refine⟨_,rfl,b,_,_,_,rfl,rfl,SqT.of hb,at0,_,rfl,a,_,_,_,rfl,rfl,SqT.of ha,at0,_,_,rfl,rfl,_,rfl,Bo (λ h1=>?_) (λ h1=>?_)⟩
  .refine⟨_,rfl,b,_,_,_,rfl,rfl,SqT.of hb,at1,_,rfl,a,_,_,_,rfl,rfl,SqT.of ha,at1,_,_,rfl,rfl,?_⟩;refine⟨_,rfl,_,rfl,Bo (λ h2=>?_) (λ h2=>?_)⟩
   .refine⟨_,rfl,a,_,_,_,rfl,rfl,SqT.of ha,at2,_,rfl,b,_,_,_,rfl,rfl,SqT.of hb,at2,_,_,rfl,rfl,_,rfl,Bo (λ h3=>?_) (λ h3=>?_)⟩
    .refine⟨_,rfl,a,_,_,_,rfl,rfl,SqT.of ha,at3,_,rfl,b,_,_,_,rfl,rfl,SqT.of hb,at3,_,_,rfl,rfl,?_⟩;rw[h1,h2,h3]at key;exact key
    .show Q (.bl false) H;rw[h1,h2,h3]at key;exact key
   .show Q (.bl false) H;rw[h1,h2]at key;exact key
  .refine⟨_,rfl,_,rfl,La ?_⟩;show Q (.bl false) H;rw[h1]at key;exact key
abbrev rcs(ts:List (Addr×Rk)):List Rk:=ts.map (·.2)
def PnO(H:Hp)(ts:List (Addr×Rk)):Prop:=∀t∈ts,H t.1=some (.tup t.2.vs)
theorem PnO.same{H H':Hp}{ts:List (Addr×Rk)}(h:PnO H ts)(s:Same H H'):PnO H' ts:=λ t ht=>s _ _ (h t ht)
inductive N6(vs:LUz)(H:Hp)(Q:VK)(E:XK):Prop
 |mk (a:Int) (b:Addr) (r:Rk) (u:Bool) (h0:vs=[.int a,.ref b,.int (sd u)]) (h1:H b=some (.tup r.vs)) (h2:Q (.bl (El u a r)) H):N6 vs H Q E
def O8:Sp:=λ vs H Q E=>N6 vs H Q E
theorem Ik:Am ["line","pane","side"] ["line","pane","side"] (Af Co):=fsc
theorem GG{f:Addr}{fd:FuncData}(F:Fun K "line_breaks" "line_breaks" Co f fd):A5 P w K mg base CX0 1 f fd ["line","pane","side"] O8:=by
 have S:=Ik;refine F.ok S (λ vs H Q E h=>?_) (λ cdv A outer s H vs Q E hr h=>?_)
 .obtain⟨a,b,r,u,rfl,_⟩:=h;rfl
 .obtain⟨a,b,r,u,rfl,hb,q⟩:=h;refine⟨_,(Ad (Aj (G8 Cj Cj (Aq An (pv 1) (pv 2) (λ_ _=>rfl)) (pv 0) (Aq An (pv 1) (Ax AR (pv 2) Ae) (λ_ _=>rfl))))),?_⟩;unfold El at q;refine⟨_,rfl,_,rfl,b,_,_,_,rfl,rfl,SqT.of hb,EE,_,rfl,_,_,rfl,rfl,_,rfl,Bo (λ h1=>?_) (λ h1=>?_)⟩
  .rw[h1,Bool.true_and]at q;exact⟨_,rfl,_,rfl,_,_,rfl,rfl,b,_,_,_,rfl,rfl,SqT.of hb,Nt,_,_,rfl,rfl,q⟩
  .rw[h1]at q;exact q
inductive Ly(vs:LUz)(H:Hp)(Q:VK)(E:XK):Prop
 |mk (a:Int) (l:Addr) (ts:List (Addr×Rk)) (u:Bool) (h0:vs=[.int a,.ref l,.int (sd u)]) (h1:H l=some (.lst (Ec ts))) (h2:PnO H ts) (h3:ts.length<=150) (h4:∀H',Same H H'->Q (.bl (!(rcs ts).any (El u a))) H'):Ly vs H Q E
def MF:Sp:=λ vs H Q E=>Ly vs H Q E
theorem Hw:Am ["line","panes","side"] ["line","panes","side"] (Af BV):=fsc
theorem FM{f:Addr}{fd:FuncData}(F:Fun K "goes_through" "goes_through" BV f fd)(T:Txt mg tk)(D_line_breaks:Ap P w K mg base 1 "line_breaks" ["line","pane","side"] O8):A5 P w K mg base CX0 2 f fd ["line","panes","side"] MF:=by
 have S:=Hw;refine F.ok S (λ vs H Q E h=>?_) (λ cdv A outer s H vs Q E hr h=>?_)
 .obtain⟨a,l,ts,u,rfl,_⟩:=h;rfl
 .obtain⟨a,l,ts,u,rfl,hl,hat,few,q⟩:=h;refine⟨_,(Ad (Aj (LQ (A3 Li rfl T.z_any rfl (Aa (MS rfl (BD (pv 1)) (λ_ _ _ _ _=>(Aw (i:=0) (show List.Nodup (["pane","line","side"]:LSz) from by decide +kernel) rfl (Or.inl rfl))) (λ_ _ _ _ _=>(Ai D_line_breaks hr (Aa (pv 1) (Aa (pv 0) (Aa (pv 2) Ab))))) (N:=["pane","line","side"]) (fr:=[none,some 0,some 2])) Ab))))),?_⟩;refine⟨_,rfl,l,rfl,⟨_,SqL.of hl⟩,λ acc hacc=>Fm (K:=K) (a:=l) (ys:=Ec ts) (λ i xs σ H'=>(∃y,σ=[y,some (.int a),some (.int (sd u))])/\Same H H'/\xs=((rcs ts).take i).map λ p=>V.bl (El u a p)) ⟨⟨none,rfl⟩,Same.new hacc,rfl⟩ (λ i xs σ H' _ _ hp=>SqL.of (hp.2.1 _ _ hl)) ?_ ?_⟩
  .rintro i x xs σ H' hx hi hl' hacc' ⟨⟨y,rfl⟩,s4,rfl⟩;obtain⟨t,ht,rfl⟩:=Kz hx;have hta:=s4 _ _ (hat t (List.mem_of_getElem? ht));have er:(rcs ts)[i]?=some t.2:=by rw[List.getElem?_map,ht];rfl
   refine⟨_,rfl,_,rfl,_,rfl,a,t.1,t.2,u,rfl,hta,?_⟩;refine cNx.mk (Nat.le_of_lt (A2 (by rw[C3];lia))) hi hl' hacc' ⟨⟨_,rfl⟩,λ c o e=>?_,?_⟩
   .rw[Ah (Ag e hacc)];exact s4 c o e
   .rw[List.take_succ,er,List.map_append];rfl
  .rintro xs σ H' hl' hacc' ⟨_,s4,rfl⟩;have e:(Ec ts).length=(rcs ts).length:=by rw[C3,List.length_map]
   rw[e,List.take_length]at hacc';have e2:List.map V.bl ((rcs ts).map (El u a))=(rcs ts).map λ p=>V.bl (El u a p):=by rw[List.map_map (l:=rcs ts)];rfl
   refine⟨acc,(rcs ts).map (El u a),rfl,SqL.of (by rw[hacc',e2]),rfl,?_⟩;have:=q H' s4;have e3:((rcs ts).map (El u a)).any id=(rcs ts).any (El u a):=by rw[List.any_map];rfl
   rw[<-e3]at this;exact⟨_,rfl,this⟩
inductive N2(vs:LUz)(H:Hp)(Q:VK)(E:XK):Prop
 |mk (b l:Addr) (p:Rk) (ts:List (Addr×Rk)) (u:Bool) (h0:vs=[.ref b,.ref l,.int (sd u)]) (h1:H b=some (.tup p.vs)) (h2:H l=some (.lst (Ec ts))) (h3:PnO H ts) (h4:ts.length<=150) (h5:p.ok) (h6:(∀u,0<=p.lo u/\p.hi u<=12)) (h7:∀c H',Same H H'->H' c=some (.lst ((lns (rcs ts) p u).map V.int))->Q (.ref c) H'):N2 vs H Q E
def O7:Sp:=λ vs H Q E=>N2 vs H Q E
theorem FQ:Am ["block","panes","side"] ["block","panes","side"] (Af BK):=fsc
theorem EY{f:Addr}{fd:FuncData}(F:Fun K "lines_through" "lines_through" BK f fd)(T:Txt mg tk)(D_goes_through:Ap P w K mg base 2 "goes_through" ["line","panes","side"] MF):A5 P w K mg base CX0 3 f fd ["block","panes","side"] O7:=by
 have S:=FQ;refine F.ok S (λ vs H Q E h=>?_) (λ cdv A outer s H vs Q E hr h=>?_)
 .obtain⟨b,l,p,ts,u,rfl,_⟩:=h;rfl
 .obtain⟨b,l,p,ts,u,rfl,hb,hl,hat,few,pk,pb,q⟩:=h;refine⟨_,(Ad (Aj (K5 rfl (IB rfl T.z_range (Aa (Ax AR (Aq An (pv 0) (pv 2) (λ_ _=>rfl)) Ae) (Aa (Aq An (pv 0) (Ax AR (pv 2) Ae) (λ_ _=>rfl)) Ab))) (λ_ _ _ _ _=>(Aw (i:=0) (show List.Nodup (["line","panes","side"]:LSz) from by decide +kernel) rfl (Or.inl rfl))) (λ_ _ _ _ _=>(Bb (Ai D_goes_through hr (Aa (pv 0) (Aa (pv 1) (Aa (pv 2) Ab)))))) (λ_ _ _ _ _=>(pv 0)) (N:=["line","panes","side"]) (fr:=[none,some 1,some 2])))),?_⟩;obtain⟨b0,b1⟩:=pb u;have hlt:=CM pk u;refine⟨_,rfl,_,rfl,b,_,_,_,rfl,rfl,SqT.of hb,EE,_,_,rfl,rfl,_,rfl,_,rfl,_,_,rfl,rfl,b,_,_,_,rfl,rfl,SqT.of hb,Nt,p.lo u+1,p.hi u,rfl,⟨by lia,by lia,by lia,by lia⟩,λ acc hacc=>Lf (lo:=p.lo u+1) (n:=(p.hi u-(p.lo u+1)).toNat) (λ i xs σ H'=>(∃y,σ=[y,some (.ref l),some (.int (sd u))])/\Same H H'/\xs=(EA (rcs ts) u (p.lo u) i).map V.int) ⟨⟨none,rfl⟩,Same.new hacc,rfl⟩ ?_ ?_⟩
  .rintro i xs σ H' hi' hxl hacc' ⟨⟨y,rfl⟩,s1,rfl⟩;refine⟨_,rfl,_,rfl,_,rfl,p.lo u+1+i,l,ts,u,rfl,s1 _ _ hl,hat.same s1,few,λ H2 s2=>⟨_,rfl,?_⟩⟩;cases hb':(rcs ts).any (El u (p.lo u+1+i)) with
   |true =>
    refine fSk.mk hi' hxl (s2 _ _ hacc') ⟨⟨_,rfl⟩,s1.trans s2,?_⟩;rw[EA,hb',if_pos rfl,List.append_nil]
   |false =>
    refine⟨_,rfl,fNx.mk (Nat.le_of_lt (A2 (by lia))) hi' hxl (s2 _ _ hacc') ⟨⟨_,rfl⟩,λ c o e=>?_,?_⟩⟩
    .rw[Ah (Ag e hacc)];exact(s1.trans s2) c o e
    .rw[EA,hb',if_neg Bool.false_ne_true,List.map_append];rfl
  .rintro xs σ H' hxl hacc' ⟨_,s1,rfl⟩;exact q acc H' s1 hacc'
abbrev pns(ts:List PT):List (Addr×Rk):=ts.map λ t=>(t.2.1,t.2.2.1)
theorem MP(ts:List PT):rcs (pns ts)=(cons ts).map (·.1):=by
 show List.map _ (List.map _ ts)=List.map _ (List.map _ ts);rw[List.map_map,List.map_map];rfl
inductive HN(vs:LUz)(H:Hp)(Q:VK)(E:XK):Prop
 |mk (b l:Addr) (p:Rk) (ts:List PT) (t:Tr) (h0:vs=[.ref b,.ref l]) (h1:H b=some (.tup p.vs)) (h2:H l=some (.lst (pcs ts))) (h3:PcO H ts) (h4:ts.length<=150) (h5:p.ok) (h6:(∀u,0<=p.lo u/\p.hi u<=12)) (h7:AO p t) (h8:(cons ts).Perm (At t p)) (h9:∀e H',Same H H'->H' e=some (.tup (enV (enL (cons ts) p)))->Q (.ref e) H'):HN vs H Q E
def I9:Sp:=λ vs H Q E=>HN vs H Q E
theorem Lo:Am ["block","some","panes","uprights","levels"] ["block","some"] (Af Dk):=fsc
theorem P8{x:V}{r:LUz}:atI (x::r) 0=some x:=EF (xs:=x::r) (j:=0) (v:=x) rfl
theorem JN{f:Addr}{fd:FuncData}(F:Fun K "entry_for" "entry_for" Dk f fd)(T:Txt mg tk)(D_lines_through:Ap P w K mg base 3 "lines_through" ["block","panes","side"] O7):A5 P w K mg base CX0 4 f fd ["block","some"] I9:=by
 have S:=Lo;refine F.ok S (λ vs H Q E h=>?_) (λ cdv A outer s H vs Q E hr h=>?_)
 .obtain⟨b,l,p,ts,t,rfl,_⟩:=h;rfl
 .obtain⟨b,l,p,ts,t,rfl,hb,hl,pc,few,pk,pb,fit,pm,q⟩:=h;refine⟨_,(Ac (A0 (Ak AN (A3 Bi rfl T.z_len rfl (Aa (pv 1) Ab)) Ae (As _)) (Ad (Aj (Av (Aa (Az (v:=.str "whole") rfl T.g_WHOLE ⟨_,rfl⟩) (Aa (Aq An (Aq Bm (pv 1) Ae (λ_ _=>rfl)) Ae (λ_ _=>rfl)) Ab))))) Al)
   (Ac (LO rfl (Aw (i:=2) S.nd rfl (Or.inl rfl)) (BD (pv 1)) (λ_ _ _ _ _=>(FT (K:=K) (n:=2) rfl (A1 (Aw (i:=0) (show List.Nodup (["pane","mark"]:LSz) from by decide +kernel) rfl (Or.inl rfl)) (A1 (Aw (i:=1) (show List.Nodup (["pane","mark"]:LSz) from by decide +kernel) rfl (Or.inl rfl)) B1)))) (λ_ _ _ _ _=>(pv 0)) (N:=["pane","mark"]) (fr:=[none,none]))
   (Ac (Ao (i:=3) S.nd rfl (Or.inl rfl) (Ai D_lines_through hr (Aa (pv 0) (Aa (pv 2) (Aa (Az (v:=.int 1) rfl T.g_LEFT ⟨_,rfl⟩) Ab)))))
   (Ac (A0 (E2 (pv 3) (λ_=>rfl)) (Ad (Aj (Av (Aa (Az (v:=.str "upright") rfl T.g_UPRIGHT ⟨_,rfl⟩) (Aa (Ax B4 (Aq Bm (pv 3) Ae (λ_ _=>rfl)) (Aq An (pv 0) (Az (v:=.int 1) rfl T.g_LEFT ⟨_,rfl⟩) (λ_ _=>rfl))) Ab))))) Al)
   (Ac (Ao (i:=4) S.nd rfl (Or.inl rfl) (Ai D_lines_through hr (Aa (pv 0) (Aa (pv 2) (Aa (Az (v:=.int 0) rfl T.g_TOP ⟨_,rfl⟩) Ab)))))
   (Ac (A0 (E2 (pv 4) (λ_=>rfl)) (Ad (Aj (Av (Aa (Az (v:=.str "level") rfl T.g_LEVEL ⟨_,rfl⟩) (Aa (Ax B4 (Aq Bm (pv 4) Ae (λ_ _=>rfl)) (Aq An (pv 0) (Az (v:=.int 0) rfl T.g_TOP ⟨_,rfl⟩) (λ_ _=>rfl))) Ab))))) Al)
   (Ad (Aj (Av (Aa (Az (v:=.str "room") rfl T.g_ROOM ⟨_,rfl⟩) (Aa (pv 0) Ab))))))))))),?_⟩
  refine⟨_,rfl,l,_,rfl,.inl (SqL.of hl),rfl,_,rfl,Bo (λ c=>?_) (λ c=>?_)⟩
  .have c:=V.int.inj (of_decide_eq_true c);have c:ts.length=1:=by rw[List.length_map]at c;lia
   obtain⟨x,rfl⟩:=List.length_eq_one_iff.mp c;have hx:=pc x (List.mem_singleton.mpr rfl);exact⟨_,rfl,l,_,_,_,rfl,rfl,SqL.of hl,rfl,x.1,_,_,_,rfl,rfl,SqT.of hx.1,DS,Au 2,λ e he=>q e _ (Same.new he) upd_same⟩
  .have c1:(cons ts).length≠1:=λ z=>of_decide_eq_false c (by rw[List.length_map]at z |-;rw[z];rfl);have ne:=R7 pk fit pm c1;rw[Pq c1]at q;refine⟨_,rfl,l,rfl,⟨_,SqL.of hl⟩,λ acc hacc=>Fm (K:=K) (a:=l) (ys:=pcs ts) (λ i zs σ H'=>(∃y z,σ=[y,z])/\Same H H'/\zs=Ec ((pns ts).take i)) ⟨⟨none,none,rfl⟩,Same.new hacc,rfl⟩ (λ i zs σ H' _ _ hp=>SqL.of (hp.2.1 _ _ hl)) ?_ ?_⟩
   .rintro i x zs σ H' hx hi hl' hacc' ⟨⟨y,z,rfl⟩,hs,rfl⟩;obtain⟨u,hu,rfl⟩:=E5 hx;obtain⟨g1,g2⟩:=(pc.same hs) u (List.mem_of_getElem? hu);refine⟨u.1,_,rfl,SqT.of g1,rfl,_,_,rfl,_,_,rfl,rfl,_,rfl,?_⟩;refine cNx.mk (Nat.le_of_lt (A2 (by rw[List.length_map];lia))) hi hl' hacc' ⟨⟨_,_,rfl⟩,λ c o e=>?_,?_⟩
    .rw[Ah (Ag e hacc)];exact hs c o e
    .unfold Ec;rw[List.take_succ,List.getElem?_map,hu,List.map_append];rfl
   rintro zs σ H1 hzl ac1 ⟨_,s1,rfl⟩;have e1:(pcs ts).length=(pns ts).length:=by rw[List.length_map,List.length_map]
   rw[e1,List.take_length]at ac1;have pn1:PnO H1 (pns ts):=λ z hz=>by
    obtain⟨u,hu,rfl⟩:=List.mem_map.mp hz;exact s1 _ _ (pc u hu).2
   have few':(pns ts).length<=150:=by rw[List.length_map];exact few
   refine⟨_,rfl,_,rfl,b,acc,p,pns ts,true,rfl,s1 _ _ hb,ac1,pn1,few',pk,pb,λ c2 H2 s2 hc2=>?_⟩;rw[MP]at hc2;have s12:=s1.trans s2;cases q1:lns ((cons ts).map (·.1)) p true with
   |cons x r =>
    rw[q1]at hc2;have eT:CF ((cons ts).map (·.1)) p=(true,x)::(r.map (λ a=>(true,a))++(lns ((cons ts).map (·.1)) p false).map (λ a=>(false,a))):=by unfold CF;rw[q1];rfl
    rw[eT]at q;refine⟨_,rfl,_,.inl ⟨_,SqL.of hc2,rfl⟩,AH rfl ?_⟩;exact⟨_,rfl,c2,_,_,_,rfl,rfl,SqL.of hc2,P8,_,rfl,b,_,_,_,rfl,rfl,SqT.of (s12 _ _ hb),EE (u:=true),_,_,rfl,rfl,Au 2,λ e he=>q e _ (s12.trans (Same.new he)) upd_same⟩
   |nil =>
    rw[q1]at hc2;refine⟨_,rfl,_,.inl ⟨_,SqL.of hc2,rfl⟩,A8 rfl ?_⟩;refine⟨_,rfl,_,rfl,b,acc,p,pns ts,false,rfl,s12 _ _ hb,s2 _ _ ac1,pn1.same s2,few',pk,pb,λ c3 H3 s3 hc3=>?_⟩;rw[MP]at hc3;have s13:=s12.trans s3;cases q2:lns ((cons ts).map (·.1)) p false with
    |cons x r =>
     rw[q2]at hc3;have eT:CF ((cons ts).map (·.1)) p=(false,x)::r.map (λ a=>(false,a)):=by unfold CF;rw[q1,q2];rfl
     rw[eT]at q;refine⟨_,rfl,_,.inl ⟨_,SqL.of hc3,rfl⟩,AH rfl ?_⟩;exact⟨_,rfl,c3,_,_,_,rfl,rfl,SqL.of hc3,P8,_,rfl,b,_,_,_,rfl,rfl,SqT.of (s13 _ _ hb),EE (u:=false),_,_,rfl,rfl,Au 2,λ e he=>q e _ (s13.trans (Same.new he)) upd_same⟩
    |nil =>
     refine absurd ?_ ne;unfold CF;rw[q1,q2];rfl
def spE(en:Rk->En)(D:Rk->Prop):Sp:=λ vs H Q _=>∃(a:Addr)(p:Rk),vs=[.ref a]/\H a=some (.tup p.vs)/\D p/\∀e H',Same H H'->H' e=some (.tup (enV (en p)))->Q (.ref e) H'
inductive PU(P:Program)(w:World)(K:Frag)(mg:MGz)(base:Heap)(vs:LUz)(H:Hp)(Q:VK)(E:XK):Prop
 |mk (a f:Addr) (p:Rk) (t:Tr) (en:Rk->En) (D:Rk->Prop) (h0:vs=[.ref a,.ref f]) (h1:H a=some (.tup p.vs)) (h2:FvOk P w K mg base 6 H f (spE en D)) (h3:Ot en D t p) (h4:t.nd<=400) (h5:∀l xs H',Same H H'->H l=none->H' l=some (.lst xs)->EnsAt H' xs (AC t)->Q (.ref l) H'):PU P w K mg base vs H Q E
def Rn(P:Program)(w:World)(K:Frag)(mg:MGz)(base:Heap) :Sp:=λ vs H Q E=>PU P w K mg base vs H Q E
theorem Kg:Am ["sheet","entry_at","entries","waiting","piece","entry"] ["sheet","entry_at"] (Af CI):=fsc
abbrev Tm(en:Rk->En)(D:Rk->Prop)(H:Hp)(a f:Addr)(t:Tr)(le lw:Addr)(m:Nat)(σ:St)(H':Hp):Prop:=∃(xs:LUz)(es:List En)(ws:List (Addr×Rk×Tr))(x4 x5:Option V),σ=[some (.ref a),some (.ref f),some (.ref le),some (.ref lw),x4,x5]/\Same H H'/\H' le=some (.lst xs)/\EnsAt H' xs es/\H' lw=some (.lst (AE ws))/\PsAt H' ws/\(∀p∈ws,Ot en D p.2.2 p.2.1)/\es++Cg (trs ws)=AC t/\m=cnt (trs ws)
theorem Lb(e:En):inV ((enV e).headD .non) [V.str "upright",V.str "level"]=match e with
  |.w _=>false
  |.c _ _=>true:=by
 cases e with
 |w m =>
  show(eqV (V.str "upright") (V.str "whole")||(eqV (V.str "level") (V.str "whole")||false))=false;decide +kernel
 |c u k =>
  cases u
  .show(eqV (V.str "upright") (V.str "level")||(eqV (V.str "level") (V.str "level")||false))=true;decide +kernel
  .show(eqV (V.str "upright") (V.str "upright")||(eqV (V.str "level") (V.str "upright")||false))=true;decide +kernel
theorem HX{f:Addr}{fd:FuncData}(F:Fun K "entries_by" "entries_by" CI f fd)(T:Txt mg tk)(D_first_piece:Ap P w K mg base 1 "first_piece" ["piece","word","at"] LK)(D_other_piece:Ap P w K mg base 1 "other_piece" ["piece","word","at"] LJ):A5 P w K mg base CX0 7 f fd ["sheet","entry_at"] (Rn P w K mg base):=by
 have S:=Kg;refine F.ok S (λ vs H Q E h=>?_) (λ cdv A outer s H vs Q E hr h=>?_)
 .obtain⟨a,f,p,t,en,D,rfl,_⟩:=h;rfl
 .obtain⟨a,fv,p,t,en,D,rfl,ha,hfv,gr,hn,q⟩:=h;refine⟨_,(Ac (Ao (i:=2) S.nd rfl (Or.inl rfl) (AQ Ab))
   (Ac (Ao (i:=3) S.nd rfl (Or.inl rfl) (AQ (Aa (pv 0) Ab)))
   (Ac (K2 PassesOwn.never (E2 (pv 3) (λ_=>rfl)) (Ac (Ao (i:=4) S.nd rfl (Or.inl rfl) (Ef PySem.F.plainAttrs_list PySem.F.slot_list_pop PySem.F.type_list_pop Eh (pv 3)))
   (Ac (Ao (i:=5) S.nd rfl (Or.inl rfl) (S8 (k:=6) hr (pv 1) (Aa (pv 4) Ab)))
   (Ac (AU (Ca PySem.F.plainAttrs_list PySem.F.slot_list_append PySem.F.type_list_append AD (pv 2) (Aa (pv 5) Ab)))
   (Ad (A0 (Ak IF (Aq An (pv 5) Ae (λ_ _=>rfl)) (Av (Aa (Az (v:=.str "upright") rfl T.g_UPRIGHT ⟨_,rfl⟩) (Aa (Az (v:=.str "level") rfl T.g_LEVEL ⟨_,rfl⟩) Ab))) rfl) (Ac (AU (Ca PySem.F.plainAttrs_list PySem.F.slot_list_append PySem.F.type_list_append AD (pv 3) (Aa (Ai D_other_piece hr (Aa (pv 4) (Aa (Aq An (pv 5) Ae (λ_ _=>rfl)) (Aa (Aq An (pv 5) Ae (λ_ _=>rfl)) Ab)))) Ab)))
   (Ad (AU (Ca PySem.F.plainAttrs_list PySem.F.slot_list_append PySem.F.type_list_append AD (pv 3) (Aa (Ai D_first_piece hr (Aa (pv 4) (Aa (Aq An (pv 5) Ae (λ_ _=>rfl)) (Aa (Aq An (pv 5) Ae (λ_ _=>rfl)) Ab)))) Ab))))) Al))))))
   (Ad (Aj (pv 2)))))),?_⟩
  refine⟨Au 0,λ le hle=>⟨_,rfl,Au 1,λ lw hlw=>?_⟩⟩;have nel:le≠lw:=Ag upd_same hlw;have s0:Same H (upd (upd H le (.lst [])) lw (.lst [.ref a])):=(Same.new hle).trans (Same.new hlw);have hlw0:H lw=none:=BM (Same.new hle) hlw;refine⟨Tm en D H a fv t le lw,
   ⟨_,[],[],[(a,p,t)],none,none,rfl,s0,by rw[Ah nel];exact upd_same,trivial,upd_same,λ r hr=>?_,λ r hr=>?_,?_,rfl⟩,?_⟩
  .rw[List.mem_singleton.mp hr];exact s0 _ _ ha
  .rw[List.mem_singleton.mp hr];exact gr
  .show[]++Cg [(V.ref a,t)]=AC t;rw[DK];rfl
  rintro m σ H' ⟨xs,es,ws,x4,x5,rfl,s1,hl,hen,hw,hps,hgr,heq,rfl⟩;have tot:es.length+cnt (trs ws)=t.nd:=by rw[<-Cc,<-heq,List.length_append,CB]
  rcases BU ws with rfl|⟨ws0,r,rfl⟩
  .refine⟨_,rfl,_,.inl ⟨_,SqL.of hw,rfl⟩,A8 rfl ⟨_,rfl,q le xs H' s1 hle hl ?_⟩⟩;rw[<-heq];show EnsAt H' xs (es++[]);rw[List.append_nil];exact hen
  .refine⟨_,rfl,_,.inl ⟨_,SqL.of hw,rfl⟩,AH (by simp) ⟨λ σ' H''=>∃m',m'<cnt (trs (ws0++[r]))/\Tm en D H a fv t le lw m' σ' H'',λ σ' H'' z=>z,?_⟩⟩;obtain⟨pa,pk,pt⟩:=r;have hp0:=hps (pa,pk,pt) (by simp);have hg0:=hgr (pa,pk,pt) (by simp);refine⟨_,rfl,.inl ⟨rfl,_,SqL.of hw⟩,lw,_,_,rfl,rfl,hw,EZ,?_⟩;rw[Fh];have k2:Kp H' (upd H' lw (.lst (AE ws0))):=Kp.put hw;have s2:Same H (upd H' lw (.lst (AE ws0))):=λ b o e=>by rw[Ah (Ag e hlw0)];exact s1 b o e
   have l2:(upd H' lw (.lst (AE ws0))) le=some (.lst xs):=by rw[Ah nel];exact hl
   have w2:(upd H' lw (.lst (AE ws0))) lw=some (.lst (AE ws0)):=upd_same;generalize upd H' lw (.lst (AE ws0))=H2 at k2 s2 l2 w2 |-;have hp2:=k2 _ _ hp0 (by intro xs z;cases z);have ps2:PsAt H2 ws0:=λ r hr=>k2 _ _ (hps r (List.mem_append_left _ hr)) (by intro xs z;cases z);have gr2:∀r∈ws0,Ot en D r.2.2 r.2.1:=λ r hr=>hgr r (List.mem_append_left _ hr);have hen2:=hen.kp k2;rw[Bp,AM]at heq;rw[Bp,B0]at tot;have hxl:=hen.len;have np:=Mc pt;have hDp:D pk:=by cases pt<;>exact hg0.1
   refine⟨_,rfl,fv,spE en D,rfl,hfv.same s2,_,rfl,Same.refl H2,pa,pk,rfl,hp2,hDp,λ ea H3 s3 e3=>?_⟩;have l3:=s3 _ _ l2;refine⟨_,rfl,.inl ⟨rfl,_,SqL.of l3⟩,_,rfl,le,xs,.ref ea,rfl,rfl,l3,A2 (by lia),?_⟩;have k4:Kp H3 (upd H3 le (.lst (xs++[.ref ea]))):=Kp.put l3;have s4:Same H (upd H3 le (.lst (xs++[.ref ea]))):=λ b o e=>by rw[Ah (Ag e hle)];exact s3 b o (s2 b o e)
   have l4:(upd H3 le (.lst (xs++[.ref ea]))) le=some (.lst (xs++[.ref ea])):=upd_same;have w4:(upd H3 le (.lst (xs++[.ref ea]))) lw=some (.lst (AE ws0)):=by rw[Ah (Ne.symm nel)];exact s3 _ _ w2
   have en4:EnsAt (upd H3 le (.lst (xs++[.ref ea]))) (xs++[.ref ea]) (es++[en pk]):=((hen2.kp (C9 s3)).kp k4).snoc (k4 _ _ e3 (by intro xs z;cases z));have kk:=(C9 s3).trans k4;have e4:=k4 _ _ e3 (by intro xs z;cases z);generalize upd H3 le (.lst (xs++[.ref ea]))=H4 at k4 s4 l4 w4 en4 kk e4 |-;have hp4:=kk _ _ hp2 (by intro xs z;cases z);have ps4:PsAt H4 ws0:=ps2.kp kk;cases pt with
   |whole m =>
    have een:en pk=.w m:=hg0.2;rw[een]at e4 en4;refine⟨_,rfl,ea,_,_,_,rfl,rfl,SqT.of e4,D7,Au 2,λ tt ntt=>?_⟩;obtain⟨H5,g,s5,e5⟩:=nw (.tup [.str "upright",.str "level"]) ntt;rw[g];refine⟨tt,_,rfl,.inr (SqT.of e5),rfl,rfl,_,rfl,A8 (by rw[if_neg Bool.false_ne_true];exact Lb (.w m)) ?_⟩;refine⟨cnt (trs ws0),by rw[Bp,B0];exact Nat.lt_succ_self _,_,_,ws0,_,_,rfl,s4.trans s5,s5 _ _ l4,en4.kp (C9 s5),s5 _ _ w4,ps4.kp (C9 s5),gr2,?_,rfl⟩;rw[<-heq,List.append_assoc];rfl
   |cut u k y1 y2 =>
    obtain⟨_,een,g1,g2⟩:=hg0;have een:en pk=.c u k:=een;rw[een]at e4 en4;refine⟨_,rfl,ea,_,_,_,rfl,rfl,SqT.of e4,D7,Au 2,λ tt ntt=>?_⟩;obtain⟨H5,g,s5,e5⟩:=nw (.tup [.str "upright",.str "level"]) ntt;rw[g];refine⟨tt,_,rfl,.inr (SqT.of e5),rfl,rfl,_,rfl,AH (by rw[if_neg Bool.false_ne_true];exact Lb (.c u k)) ?_⟩;have e55:=s5 _ _ e4;have w5:=s5 _ _ w4;have hp5:=s5 _ _ hp4;refine⟨_,rfl,.inl ⟨rfl,_,SqL.of w5⟩,_,rfl,_,rfl,ea,_,_,_,rfl,rfl,SqT.of e55,D7,_,rfl,ea,_,_,_,rfl,rfl,SqT.of e55,DS,pa,pk,u,k,rfl,hp5,λ t6 n6=>?_⟩;obtain⟨H6,g,s6,e6⟩:=nw (.tup (pk.oth u k).vs) n6;rw[g];have w6:=s6 _ _ w5;have cl:=DM (trs ws0);rw[List.length_map]at cl;have ndp:(Tr.cut u k y1 y2).nd=y1.nd+y2.nd+1:=rfl;refine⟨lw,_,_,rfl,rfl,w6,A2 (by rw[List.length_map];lia),?_⟩;have k7:Kp H6 (upd H6 lw (.lst (AE ws0++[.ref t6]))):=Kp.put w6;have s7:Same H (upd H6 lw (.lst (AE ws0++[.ref t6]))):=λ b o e=>by rw[Ah (Ag e hlw0)];exact s6 _ _ (s5 _ _ (s4 b o e))
    have l7:(upd H6 lw (.lst (AE ws0++[.ref t6]))) le=some (.lst (xs++[.ref ea])):=by rw[Ah nel];exact s6 _ _ (s5 _ _ l4)
    have w7:(upd H6 lw (.lst (AE ws0++[.ref t6]))) lw=some (.lst (AE ws0++[.ref t6])):=upd_same;have kk7:=((C9 s5).trans (C9 s6)).trans k7;have e7:=k7 _ _ e6 (by intro xs z;cases z);generalize upd H6 lw (.lst (AE ws0++[.ref t6]))=H7 at k7 s7 l7 w7 kk7 e7 |-;have ea7:=kk7 _ _ e4 (by intro xs z;cases z);have hp7:=kk7 _ _ hp4 (by intro xs z;cases z);refine⟨_,rfl,.inl ⟨rfl,_,SqL.of w7⟩,_,rfl,_,rfl,ea,_,_,_,rfl,rfl,SqT.of ea7,D7,_,rfl,ea,_,_,_,rfl,rfl,SqT.of ea7,DS,pa,pk,u,k,rfl,hp7,λ t8 n8=>?_⟩;obtain⟨H8,g,s8,e8⟩:=nw (.tup (pk.fst u k).vs) n8;rw[g];have w8:=s8 _ _ w7;refine⟨lw,_,_,rfl,rfl,w8,A2 (by rw[List.length_append,List.length_map,List.length_singleton];lia),?_⟩;have k9:Kp H8 (upd H8 lw (.lst (AE ws0++[.ref t6]++[.ref t8]))):=Kp.put w8;have kk9:=(C9 s8).trans k9;have kall:=kk7.trans kk9;refine⟨cnt (trs (ws0++[(t6,pk.oth u k,y2)]++[(t8,pk.fst u k,y1)])),?_,xs++[.ref ea],es++[.c u k],ws0++[(t6,pk.oth u k,y2)]++[(t8,pk.fst u k,y1)],_,_,rfl,λ b o e=>?_,?_,en4.kp kall,?_,λ r hr=>?_,λ r hr=>?_,?_,rfl⟩
    .rw[Bp,Bp,B0,B0,Bp,B0];show cnt (trs ws0)+y2.nd+y1.nd<cnt (trs ws0)+(y1.nd+y2.nd+1);lia
    .rw[Ah (Ag e hlw0)];exact s8 b o (s7 b o e)
    .rw[Ah nel];exact s8 _ _ l7
    .rw[upd_same,DD,DD]
    .rcases List.mem_append.mp hr with hr|hr
     .rcases List.mem_append.mp hr with hr|hr
      .exact kall _ _ (ps4 r hr) (by intro xs z;cases z)
      .rw[List.mem_singleton.mp hr];exact kk9 _ _ e7 (by intro xs z;cases z)
     .rw[List.mem_singleton.mp hr];exact k9 _ _ e8 (by intro xs z;cases z)
    .rcases List.mem_append.mp hr with hr|hr
     .rcases List.mem_append.mp hr with hr|hr
      .exact gr2 r hr
      .rw[List.mem_singleton.mp hr];exact g2
     .rw[List.mem_singleton.mp hr];exact g1
    .rw[Bp,Bp,AM,AM,<-heq];show es++[.c u k]++(AC y1++(AC y2++Cg (trs ws0)))=es++(.c u k::(AC y1++AC y2)++Cg (trs ws0));simp[List.append_assoc]
theorem EnsAt.tups{H H':Hp}(s:∀a xs,H a=some (.tup xs)->H' a=some (.tup xs)):∀{vs:LUz}{es:List En},EnsAt H vs es->EnsAt H' vs es
 |[],[],_=>trivial
 |v::r,e::q,h=>⟨let ⟨a,b,c⟩:=h.1;⟨a,b,s _ _ c⟩,EnsAt.tups s h.2⟩
 |[],_::_,h=>h
 |_::_,[],h=>h
theorem D4{α:Type}(p:α->Bool){L:List α}{i:Nat}{x:α}(h:L[i]?=some x):(L.take (i+1)).filter p=(L.take i).filter p++if p x=true then [x] else []:=by
 rw[List.take_succ,h,List.filter_append];show _=_;cases hx:p x with
 |true=>simp[hx]
 |false=>simp[hx]
inductive HH(vs:LUz)(H:Hp)(Q:VK)(E:XK):Prop
 |mk (l b:Addr) (ts:List PT) (p:Rk) (u:Bool) (a:Int) (h0:vs=[.ref l,.ref b,.str (wd u),.int (p.lo u+a)]) (h1:H l=some (.lst (pcs ts))) (h2:PcO H ts) (h3:ts.length<=150) (h4:H b=some (.tup p.vs)) (h5:∀c l1 b1 l2 b2 ts1 ts2 H',Same H H'->H' c=some (.tup [.ref l1,.ref b1,.ref l2,.ref b2])->H' l1=some (.lst (pcs ts1))->PcO H' ts1->cons ts1=((cons ts).filter λ g=>decide (g.1.lo u<p.lo u+a))->H' b1=some (.tup (p.fst u a).vs) ->
  H' l2=some (.lst (pcs ts2))->PcO H' ts2->cons ts2=((cons ts).filter λ g=>decide (p.lo u+a<=g.1.lo u))->H' b2=some (.tup (p.oth u a).vs)->Q (.ref c) H'):HH vs H Q E
def Ix:Sp:=λ vs H Q E=>HH vs H Q E
theorem Ke:Am ["_law_some","_law_block","_law_word","_law_line","_law_top","_law_left","_law_bottom","_law_right","_law_side","_law_first","_law_other"] ["_law_some","_law_block","_law_word","_law_line"] (Af Ct):=fsc
theorem HV{f:Addr}{fd:FuncData}(F:Fun K "_law_parted" "_law_parted" Ct f fd)(T:Txt mg tk):A5 P w K mg base CX0 1 f fd ["_law_some","_law_block","_law_word","_law_line"] Ix:=by
 have S:=Ke;refine F.ok S (λ vs H Q E h=>?_) (λ cdv A outer s H vs Q E hr h=>?_)
 .obtain⟨l,b,ts,p,u,a,rfl,_⟩:=h;rfl
 .obtain⟨l,b,ts,p,u,a,rfl,hl,pc,hn,hb,q⟩:=h;refine⟨_,(Ac (G3 (pv 1) (CO rfl (A1 (Aw (i:=4) S.nd rfl (Or.inl rfl)) (A1 (Aw (i:=5) S.nd rfl (Or.inl rfl)) (A1 (Aw (i:=6) S.nd rfl (Or.inl rfl)) (A1 (Aw (i:=7) S.nd rfl (Or.inl rfl)) B1))))))
   (Ac (Ao (i:=8) S.nd rfl (Or.inr rfl) (IE IY rfl T.z_int rfl (Aa (Ci AN (pv 2) A6 (As _)) Ab)))
   (Ac (Fx rfl (Aw (i:=9) S.nd rfl (Or.inl rfl)) (BD (pv 0)) (λ_ _ _ _ _=>(FT (K:=K) (n:=2) rfl (A1 (Aw (i:=0) (show List.Nodup (["_law_one","_law_mark","_law_line","_law_side"]:LSz) from by decide +kernel) rfl (Or.inl rfl)) (A1 (Aw (i:=1) (show List.Nodup (["_law_one","_law_mark","_law_line","_law_side"]:LSz) from by decide +kernel) rfl (Or.inl rfl)) B1)))) (λ_ _ _ _ _=>(Ak Cj (Aq (EC (K:=K)) (pv 0) (pv 3) (λ_ _=>rfl)) (pv 2) (As _))) (λ_ _ _ _ _=>(Av (Aa (pv 0) (Aa (pv 1) Ab)))) (N:=["_law_one","_law_mark","_law_line","_law_side"]) (fr:=[none,none,some 3,some 8]))
   (Ac (Fx rfl (Aw (i:=10) S.nd rfl (Or.inl rfl)) (BD (pv 0)) (λ_ _ _ _ _=>(FT (K:=K) (n:=2) rfl (A1 (Aw (i:=0) (show List.Nodup (["_law_one","_law_mark","_law_line","_law_side"]:LSz) from by decide +kernel) rfl (Or.inl rfl)) (A1 (Aw (i:=1) (show List.Nodup (["_law_one","_law_mark","_law_line","_law_side"]:LSz) from by decide +kernel) rfl (Or.inl rfl)) B1)))) (λ_ _ _ _ _=>(Ak Rs (Aq (EC (K:=K)) (pv 0) (pv 3) (λ_ _=>rfl)) (pv 2) (As _))) (λ_ _ _ _ _=>(Av (Aa (pv 0) (Aa (pv 1) Ab)))) (N:=["_law_one","_law_mark","_law_line","_law_side"]) (fr:=[none,none,some 3,some 8]))
   (Ac (A0 (Ak AN (pv 8) Ae (As _)) (Ad (Aj (Av (Aa (pv 9) (Aa (Av (Aa (pv 4) (Aa (pv 5) (Aa (pv 6) (Aa (pv 3) Ab))))) (Aa (pv 10) (Aa (Av (Aa (pv 4) (Aa (pv 3) (Aa (pv 6) (Aa (pv 7) Ab))))) Ab))))))) Al)
   (Ad (Aj (Av (Aa (pv 9) (Aa (Av (Aa (pv 4) (Aa (pv 5) (Aa (pv 3) (Aa (pv 7) Ab))))) (Aa (pv 10) (Aa (Av (Aa (pv 3) (Aa (pv 5) (Aa (pv 6) (Aa (pv 7) Ab))))) Ab)))))))))))),?_⟩
  refine⟨_,rfl,b,_,rfl,SqT.of hb,rfl,_,_,rfl,_,_,rfl,_,_,rfl,_,_,rfl,rfl,?_⟩;refine⟨_,rfl,rfl,.inr ⟨_,rfl,?_⟩⟩;have hsd:(if decide (V.str (wd u)=V.str "upright")=true then (1:Int) else 0)=sd u:=by rw[Rj];rfl
  rw[hsd];have sz:(pcs ts).length<=sizeLine:=Nat.le_of_lt (A2 (by rw[List.length_map];lia));generalize ea:p.lo u+a=ln at q |-;refine⟨_,rfl,l,rfl,⟨_,SqL.of hl⟩,λ acc hacc=>Ej (K:=K) (a:=l) (ys:=pcs ts) (λ i zs σ H'=>(∃y z,σ=[y,z,some (.int ln),some (.int (sd u))])/\Same H H'/\∃us:List PT,zs=pcs us/\PcO H' us/\cons us=((cons ts).take i).filter λ g=>decide (g.1.lo u<ln)) ⟨⟨none,none,rfl⟩,Same.new hacc,[],rfl,(λ t ht=>nomatch ht),rfl⟩ (λ i zs σ H' _ _ hp=>SqL.of (hp.2.1 _ _ hl)) ?_ ?_⟩
  .rintro i x zs σ H' hx hi hl' hacc' ⟨⟨y,z,rfl⟩,hs,us,rfl,pu,eu⟩;obtain⟨t,ht,rfl⟩:=E5 hx;obtain⟨g1,g2⟩:=(pc.same hs) t (List.mem_of_getElem? ht);have ft:=D4 (λ g:Rk×Option Int=>decide (g.1.lo u<ln)) (L:=cons ts) (i:=i) (x:=t.2.2) (by rw[List.getElem?_map,ht];rfl);refine⟨t.1,_,rfl,SqT.of g1,rfl,_,_,rfl,_,_,rfl,rfl,_,rfl,_,rfl,t.2.1,_,_,_,rfl,rfl,SqT.of g2,EE,_,rfl,_,_,rfl,rfl,_,rfl,?_⟩;cases h3:decide (t.2.2.1.lo u<ln) with
   |true =>
    refine⟨_,rfl,_,rfl,Au 2,λ n hn'=>?_⟩;obtain⟨H2,g,s2,e2⟩:=nw (.tup [.ref t.2.1,AB t.2.2.2]) hn';rw[g];have a2:=s2 _ _ hacc';refine fNx.mk sz hi hl' a2 ⟨⟨_,_,rfl⟩,λ d o e=>by rw[Ah (Ag e hacc)];exact s2 _ _ (hs d o e),us++[(n,t.2)],(G9 us (n,t.2)).symm,?_,?_⟩
    .intro r hr;rcases List.mem_append.mp hr with hr|hr
     .exact(pu.same s2).kp (Kp.put a2) r hr
     .rw[List.mem_singleton.mp hr];exact⟨Kp.put a2 _ _ e2 (by intro xs z;cases z),Kp.put a2 _ _ (s2 _ _ g2) (by intro xs z;cases z)⟩
    .rw[Fl,eu,ft,h3,if_pos rfl]
   |false=>exact fSk.mk hi hl' hacc' ⟨⟨_,_,rfl⟩,hs,us,rfl,pu,by rw[eu,ft,h3,if_neg Bool.false_ne_true,List.append_nil]⟩
  rintro zs σ H1 hzl ac1 ⟨_,s1,us1,rfl,pu1,eu1⟩;rw[List.length_map,<-List.length_map (f:=λ t:PT=>t.2.2),List.take_length]at eu1;refine⟨_,rfl,l,rfl,⟨_,SqL.of (s1 _ _ hl)⟩,λ acc2 hacc2=>Ej (K:=K) (a:=l) (ys:=pcs ts) (λ i zs σ H'=>(∃y z,σ=[y,z,some (.int ln),some (.int (sd u))])/\Same H1 H'/\∃us:List PT,zs=pcs us/\PcO H' us/\cons us=((cons ts).take i).filter λ g=>decide (ln<=g.1.lo u)) ⟨⟨none,none,rfl⟩,Same.new hacc2,[],rfl,(λ t ht=>nomatch ht),rfl⟩ (λ i zs σ H' _ _ hp=>SqL.of ((s1.trans hp.2.1) _ _ hl)) ?_ ?_⟩
  .rintro i x zs σ H' hx hi hl' hacc' ⟨⟨y,z,rfl⟩,hs,us,rfl,pu,eu⟩;obtain⟨t,ht,rfl⟩:=E5 hx;obtain⟨g1,g2⟩:=(pc.same (s1.trans hs)) t (List.mem_of_getElem? ht);have ft:=D4 (λ g:Rk×Option Int=>decide (ln<=g.1.lo u)) (L:=cons ts) (i:=i) (x:=t.2.2) (by rw[List.getElem?_map,ht];rfl);refine⟨t.1,_,rfl,SqT.of g1,rfl,_,_,rfl,_,_,rfl,rfl,_,rfl,_,rfl,t.2.1,_,_,_,rfl,rfl,SqT.of g2,EE,_,rfl,_,_,rfl,rfl,_,rfl,?_⟩;show match decide (ln<=t.2.2.1.lo u) with|true=>_|false=>_
   cases h3:decide (ln<=t.2.2.1.lo u) with
   |true =>
    refine⟨_,rfl,_,rfl,Au 2,λ n hn'=>?_⟩;obtain⟨H2,g,s2,e2⟩:=nw (.tup [.ref t.2.1,AB t.2.2.2]) hn';rw[g];have a2:=s2 _ _ hacc';refine fNx.mk sz hi hl' a2 ⟨⟨_,_,rfl⟩,λ d o e=>by rw[Ah (Ag e hacc2)];exact s2 _ _ (hs d o e),us++[(n,t.2)],(G9 us (n,t.2)).symm,?_,?_⟩
    .intro r hr;rcases List.mem_append.mp hr with hr|hr
     .exact(pu.same s2).kp (Kp.put a2) r hr
     .rw[List.mem_singleton.mp hr];exact⟨Kp.put a2 _ _ e2 (by intro xs z;cases z),Kp.put a2 _ _ (s2 _ _ g2) (by intro xs z;cases z)⟩
    .rw[Fl,eu,ft,h3,if_pos rfl]
   |false=>exact fSk.mk hi hl' hacc' ⟨⟨_,_,rfl⟩,hs,us,rfl,pu,by rw[eu,ft,h3,if_neg Bool.false_ne_true,List.append_nil]⟩
  rintro zs σ H2 hzl2 ac2 ⟨_,s2,us2,rfl,pu2,eu2⟩;rw[List.length_map,<-List.length_map (f:=λ t:PT=>t.2.2),List.take_length]at eu2;have s12:=s1.trans s2;refine⟨_,rfl,rfl,_,rfl,?_⟩;cases u with
  |true =>
   refine AH (by decide) ⟨_,rfl,_,rfl,_,rfl,_,rfl,_,rfl,Au 4,λ b1 n1=>?_⟩;obtain⟨H3,g,s3,e3⟩:=nw (.tup [.int p.t,.int p.l,.int p.b,.int ln]) n1;rw[g];refine⟨_,rfl,_,rfl,_,rfl,_,rfl,_,rfl,Au 4,λ b2 n2=>?_⟩;obtain⟨H4,g,s4,e4⟩:=nw (.tup [.int p.t,.int ln,.int p.b,.int p.r]) n2;rw[g];refine⟨Au 4,λ c n5=>?_⟩;have s5:Same H4 (upd H4 c (.tup [.ref acc,.ref b1,.ref acc2,.ref b2])):=Same.new n5;have s25:=(s3.trans s4).trans s5;subst ea;exact q c acc b1 acc2 b2 us1 us2 _ (s12.trans s25) upd_same (s25 _ _ (s2 _ _ ac1)) ((pu1.same s2).same s25) eu1 ((s4.trans s5) _ _ e3) (s25 _ _ ac2) (pu2.same s25) eu2 (s5 _ _ e4)
  |false =>
   refine A8 (by decide) ⟨_,rfl,_,rfl,_,rfl,_,rfl,_,rfl,Au 4,λ b1 n1=>?_⟩;obtain⟨H3,g,s3,e3⟩:=nw (.tup [.int p.t,.int p.l,.int ln,.int p.r]) n1;rw[g];refine⟨_,rfl,_,rfl,_,rfl,_,rfl,_,rfl,Au 4,λ b2 n2=>?_⟩;obtain⟨H4,g,s4,e4⟩:=nw (.tup [.int ln,.int p.l,.int p.b,.int p.r]) n2;rw[g];refine⟨Au 4,λ c n5=>?_⟩;have s5:Same H4 (upd H4 c (.tup [.ref acc,.ref b1,.ref acc2,.ref b2])):=Same.new n5;have s25:=(s3.trans s4).trans s5;subst ea;exact q c acc b1 acc2 b2 us1 us2 _ (s12.trans s25) upd_same (s25 _ _ (s2 _ _ ac1)) ((pu1.same s2).same s25) eu1 ((s4.trans s5) _ _ e3) (s25 _ _ ac2) (pu2.same s25) eu2 (s5 _ _ e4)
def Na:Expr:=match (A4 Bk).getD 0 (.Pass ⟨0,0,0,0⟩) with
 |.Return (some (.Call _ [_,k] _ _)) _=>k
 |_=>.Constant .none 0 ⟨0,0,0,0⟩
def Rt:Arguments:=match Na with|.Lambda p _ _ _=>p|_=>Bh Bk
def Ru:Expr:=match Na with|.Lambda _ b _ _=>b|e=>e
def lamS3:Scope:=match Na with|.Lambda _ _ s _=>s|_=>Af Bk
def DQ:Pos:=match Na with|.Lambda _ _ _ q=>q|_=>⟨0,0,0,0⟩
def D0:Str:="cut_up.<locals>.<lambda>"
theorem Sh:Je "block" ["some"] lamS3:=⟨rfl,rfl,rfl,rfl,λ_ _=>rfl,λ_=>rfl,λ y hy=>(by decide +kernel:∀p∈lamS3.names,p.2=.cell->p.1=("block":Str)) _ (PySem.mem_of_lookup hy) rfl,λ y hy=>(by decide +kernel:∀p∈lamS3.names,p.2=.free->p.1∈(["some"]:LSz)) _ (PySem.mem_of_lookup hy) rfl,by decide +kernel⟩
abbrev Np(L:Nat):List (Str×Addr):=[("some",L+1)]
inductive Jo(tb3:Addr)(vs:LUz)(H:Hp)(Q:VK)(E:XK):Prop
 |mk (a l:Addr) (p:Rk) (ts:List PT) (t:Tr) (h0:vs=[.ref a,.ref l]) (h1:H a=some (.tup p.vs)) (h2:H l=some (.lst (pcs ts))) (h3:PcO H ts) (h4:ts.length<=150) (h5:p.ok) (h6:(∀u,0<=p.lo u/\p.hi u<=12)) (h7:AO p t) (h8:(cons ts).Perm (At t p)) (h9:TabOk DQ D0 tb3 H) (h10:∀le xs F H',SameX tb3 H H'->TabOk DQ D0 tb3 H'->H' le=some (.lst xs)->EnsAt H' xs (AC F)->F.nd<=400->AO p F->IsF F (cons ts) p->(At F p).Perm (cons ts)->Q (.ref le) H'):Jo tb3 vs H Q E
def Gp(tb3:Addr) :Sp:=λ vs H Q E=>Jo tb3 vs H Q E
theorem PJ:Am ["sheet","some"] ["sheet","some"] (Af Bk):=fsc
theorem QK{L:List (Rk×Option Int)}{p:Rk}(h:∀g∈L,Ins g.1 p):inP L p=L:=List.filter_eq_self.mpr λ g hg=>decide_eq_true (h g hg)
theorem FL{ts:List PT}{i:Nat}{t:PT}(q:PT->Bool)(h:ts[i]?=some t):pcs ((ts.take (i+1)).filter q)=pcs ((ts.take i).filter q)++if q t=true then [.ref t.1] else []:=by
 rw[D4 q h];show List.map _ _=_;rw[List.map_append];split<;>rfl
theorem NO{f:Addr}{fd:FuncData}{c tb3:Addr}(F:FunC K "cut_up" "cut_up" Bk f fd c)(hC:Fn K c tb3=true)(hB:Ri K mg)(D_inside:Ap P w K mg base 1 "inside" ["one","other"] I0)(D_entry_for:Ap P w K mg base 4 "entry_for" ["block","some"] I9)(D_entries_by:Ap P w K mg base 7 "entries_by" ["sheet","entry_at"] (Rn P w K mg base)) :
  A5 P w K mg base CX0 8 f fd ["sheet","some"] (Gp tb3):=by
 have S:=PJ;refine F.ok S (λ vs H Q E h=>?_) (λ A outer s H vs Q E hr h=>?_)
 .obtain⟨a,l,p,ts,t,rfl,_⟩:=h;rfl
 .obtain⟨a,l,p,ts,t,rfl,ha,hl,pc,few,pk,pb,fit,pm,tb,q⟩:=h;have hlam:=OJ (X:=(B5 CX0 P w K mg base ["sheet","some"] "cut_up" (Af Bk) f (.ref c) A outer s H E).nox) (params:=Rt) (body:=Ru) (scope:=lamS3) (pos:=DQ) (qual:=D0) (clos:=Np s.heap.objs.size) rfl (codeTB_of hC) hB rfl rfl rfl;have hcl:∀p∈Np s.heap.objs.size,(B5 CX0 P w K mg base ["sheet","some"] "cut_up" (Af Bk) f (.ref c) A outer s H E).nox.env.cells.lookup p.1=some p.2/\(B5 CX0 P w K mg base ["sheet","some"] "cut_up" (Af Bk) f (.ref c) A outer s H E).nox.env.kindOf p.1=some .cell:=λ p hp=>by
   rw[List.mem_singleton.mp hp];exact⟨rfl,rfl⟩
  refine⟨_,(Ad (Aj (RO (clos:=Np s.heap.objs.size) D_entries_by hr (Aa (pv 0) (Aa hlam Ab)) hcl (λ_=>rfl) rfl))),?_⟩;have inn:∀g∈cons ts,∀u,p.lo u<=g.1.lo u/\g.1.lo u<g.1.hi u/\g.1.hi u<=p.hi u:=λ g hg u=>Ff pk fit (pm.mem_iff.mp hg) u;have all:inP (cons ts) p=cons ts:=QK λ g hg=>ins_iff.mpr λ u=>⟨(inn g hg u).1,(inn g hg u).2.2⟩;obtain⟨G,gr,gfit,isf,gpm⟩:=Od (L:=cons ts) (λ g hg v=>(inn g hg v).2.1) _ p rfl ⟨pk,pb,t,fit,by rw[all];exact pm⟩;rw[all]at isf gpm;have Gnd:G.nd<=400:=by
   have w1:1<=p.r-p.l:=by have:=pk.2;lia
   have h1:1<=p.b-p.t:=by have:=pk.1;lia
   have z1:=Ei w1 h1 gfit;have b1:=pb true;have b2:=pb false;have z2:(p.r-p.l)*(p.b-p.t)<=12*12:=Int.mul_le_mul (by have:0<=p.l:=b1.1;have:p.r<=12:=b1.2;lia) (by have:0<=p.t:=b2.1;have:p.b<=12:=b2.2;lia) (by lia) (by lia);have z3:=IH G;lia
  have tbl:=tb.tbl;refine⟨_,rfl,TabOk.lamC tb λ c' fl ctv H1 s1 tab1 hf hc hnew=>?_⟩;have ne1:∀{x:Addr}{u:HO},H x=some u->(∀ps,u≠.tbl ps)->x≠tb3:=λ{x u} e n z=>by obtain⟨ps,e'⟩:=tbl;rw[z,e']at e;cases e;exact n _ rfl
  intro Lc CA;have tup1:∀{x:Addr}{xs:LUz},H x=some (.tup xs)->H1 x=some (.tup xs):=λ e=>s1 _ _ (ne1 e (by intro ps z;cases z)) e;have hl1:H1 l=some (.lst (pcs ts)):=s1 _ _ (ne1 hl (by intro ps z;cases z)) hl;have up:∀{x:Addr}{u:HO},H1 x=some u->(tkd H1 Lc) x=some u:=λ e=>by rw[AJ (Eg CA.new e)];exact e
  have fv:=QO (P:=P) (w:=w) (K:=K) (mg:=mg) (base:=base) (k:=5) (H:=tkd H1 Lc) (f:=fl) (c':=c') (params:=Rt) (body:=Ru) (scope:=lamS3) (qual:=D0) (pn:="block") (ctv:=ctv) (fs:=["some"]) (clos:=Np s.heap.objs.size) (cv:=[.ref l]) (L:=Lc)
   (sp:=spE (λ p=>enL (inP (cons ts) p) p) (DF (cons ts)))
   (up hf) (up hc) Sh rfl (λ y=>?_) (λ x y cc h1 h2=>?_) (λ a o e=>Gf e) CA.has (λ p hp i v hi hv=>?_) (λ_ _=>.of_eq rfl) (λ vs H' Q' E' hsp=>by obtain⟨a',p',rfl,_⟩:=hsp;exact⟨_,rfl⟩)
   (λ A' outer' s' H' E' v Q' sm' hr' hsp=>?_)
  .refine⟨a,fl,p,G,_,_,rfl,up (tup1 ha),fv,gr,Gnd,λ le xs H2 s2 nl hle hens=>?_⟩;obtain⟨sU,hk⟩:=O9 CA.new s2;exact⟨hk,q le xs G _ (s1.trans sU.x) (tab1.same sU) (Ju hk hle (by intro o z;cases z)) (hens.tups (λ a xs e=>Ju hk e (by intro o z;cases z))) Gnd gfit isf gpm⟩
  .constructor
   .rintro⟨cc,h⟩;have:=PySem.mem_of_lookup h;cases List.mem_singleton.mp this;simp
   .intro hy;rw[List.mem_singleton.mp hy];exact⟨_,rfl⟩
  .have m1:=List.mem_singleton.mp (PySem.mem_of_lookup h1);have m2:=List.mem_singleton.mp (PySem.mem_of_lookup h2);exact(congrArg Prod.fst m1).trans (congrArg Prod.fst m2).symm
  .have hp':=List.mem_singleton.mp hp;subst hp'
   match i,hi with
   |0,_ =>
    cases hv;exact CA.val _ hp 1 _ rfl rfl
  .obtain⟨a',p',ev,ha',⟨ok',bd',t',fit',pm'⟩,q'⟩:=hsp;cases ev;refine⟨_,(Ai D_entry_for hr' (Aa (pv 0) (Aa (K5 rfl (BD (pv 1)) (λ_ _ _ _ _=>(Aw (i:=0) (show List.Nodup (["piece","block"]:LSz) from by decide +kernel) rfl (Or.inl rfl))) (λ_ _ _ _ _=>(Bb (Ai D_inside hr' (Aa (Aq (EC (K:=K)) (pv 0) Ae (λ_ _=>rfl)) (Aa (pv 1) Ab))))) (λ_ _ _ _ _=>(pv 0)) (N:=["piece","block"]) (fr:=[none,some 0])) Ab))),?_⟩;have hL':∀a o,Lc.lookup a=some o->H' a=some (Bz a o):=λ a o e=>sm' _ _ (Gf e);have kp:∀{x:Addr}{u:HO},H1 x=some u->(∀o,u≠Bz x o)->(utk H' Lc) x=some u:=λ e n=>Ju hL' (sm' _ _ (up e)) n;have hau:=Ju hL' ha' (by intro o z;cases z);have hlu:=kp hl1 (by intro o z;cases z);have pcu:PcO (utk H' Lc) ts:=λ x hx=>⟨kp (tup1 (pc x hx).1) (by intro o z;cases z),kp (tup1 (pc x hx).2) (by intro o z;cases z)⟩;have sm2:∀{H2:Hp},Same (utk H' Lc) H2->Same H' (tkd H2 Lc):=λ{H2} s3 x o e=>by
    cases q:Lc.lookup x with
    |some o'=>rw[hL' x o' q]at e;cases e;exact Gf q
    |none=>rw[AJ q];exact s3 _ _ (by rw[Bl q];exact e)
   refine⟨_,rfl,_,rfl,l,rfl,⟨_,SqL.of hlu⟩,λ acc hacc=>Ej (K:=K) (a:=l) (ys:=pcs ts) (λ i zs σ H2=>(∃y,σ=[y,some (.ref a')])/\Same (utk H' Lc) H2/\zs=pcs ((ts.take i).filter λ t=>decide (Ins t.2.2.1 p'))) ⟨⟨none,rfl⟩,Same.new hacc,rfl⟩ (λ i zs σ H2 _ _ hp=>SqL.of (hp.2.1 _ _ hlu)) ?_ ?_⟩
   .rintro i x zs σ H2 hx hi hl' hacc' ⟨⟨y,rfl⟩,hs,rfl⟩;obtain⟨z,hz,rfl⟩:=E5 hx;obtain⟨g1,g2⟩:=(pcu.same hs) z (List.mem_of_getElem? hz);have ft:=FL (λ t:PT=>decide (Ins t.2.2.1 p')) hz;refine⟨_,rfl,z.1,_,_,_,rfl,rfl,SqT.of g1,D7,_,rfl,z.2.1,a',z.2.2.1,p',rfl,g2,hs _ _ hau,_,rfl,?_⟩;cases h3:decide (Ins z.2.2.1 p') with
    |true =>
     refine⟨_,rfl,fNx.mk (Nat.le_of_lt (A2 (by rw[List.length_map];lia))) hi hl' hacc' ⟨⟨_,rfl⟩,λ c o e=>by rw[Ah (Ag e hacc)];exact hs c o e,?_⟩⟩;rw[ft,h3,if_pos rfl]
    |false=>exact fSk.mk hi hl' hacc' ⟨⟨_,rfl⟩,hs,by rw[ft,h3,if_neg Bool.false_ne_true,List.append_nil]⟩
   rintro zs σ H2 hzl ac2 ⟨_,s2,rfl⟩;rw[List.length_map,List.take_length]at ac2;have ec:cons (ts.filter λ t=>decide (Ins t.2.2.1 p'))=inP (cons ts) p':=by
    unfold inP;show List.map _ _=List.filter _ (List.map _ ts);rw[List.filter_map];rfl
   have fl:(ts.filter λ t=>decide (Ins t.2.2.1 p')).length<=ts.length:=List.length_filter_le _ _;refine⟨a',acc,p',ts.filter λ t=>decide (Ins t.2.2.1 p'),t',rfl,s2 _ _ hau,ac2,λ x hx=>(pcu.same s2) x (List.mem_filter.mp hx).1,by lia,ok',bd',fit',by rw[ec];exact pm',λ e H3 s3 e3 hno=>?_⟩;rw[ec]at e3;refine q' e _ (sm2 (s2.trans s3)) ?_;cases qo:Lc.lookup e with
   |some o=>rw[hno e o qo]at e3;cases e3
   |none=>rw[AJ qo];exact e3
theorem Si:Am ["tree","width","height"] ["tree","width","height"] (Af LM):=fsc
theorem bd0{ww hh:Int}(w2:ww<=12)(h2:hh<=12):∀u,0<=Rk.lo ⟨0,0,hh,ww⟩ u/\Rk.hi ⟨0,0,hh,ww⟩ u<=12:=λ u=>by
 cases u
 .exact⟨Int.le_refl _,h2⟩
 .exact⟨Int.le_refl _,w2⟩
theorem ok0{ww hh:Int}(w1:1<=ww)(h1:1<=hh):Rk.ok ⟨0,0,hh,ww⟩:=⟨show(0:Int)<hh by lia,show(0:Int)<ww by lia⟩
theorem DR{t:Tr}{ww hh:Int}(f:AO ⟨0,0,hh,ww⟩ t):Fit t ww hh:=by
 have f:Fit t (ww-0) (hh-0):=f;rw[Int.sub_zero,Int.sub_zero]at f;exact f
theorem AF{t:Tr}{ww hh:Int}(w1:1<=ww)(w2:ww<=12)(h1:1<=hh)(h2:hh<=12)(f:Fit t ww hh):t.sz<=144/\t.nd<=400/\t.dp<24:=by
 have d:=CU w1 h1 f;have z:=Ei w1 h1 f;have z3:ww*hh<=12*12:=Int.mul_le_mul w2 h2 (by lia) (by lia);have n:=IH t;exact⟨by lia,by lia,by lia⟩
inductive L3(tb tb3 cW cU cL:Addr)(vs:LUz)(H:Hp)(Q:VK)(E:XK):Prop
 |mk (v:V) (t:Tr) (ww hh:Int) (h0:vs=[v,.int ww,.int hh]) (h1:Obj cW cU cL H t v) (h2:t.nd<=400) (h3:t.sz<64) (h4:TabOk Db C8 tb H) (h5:TabOk DQ D0 tb3 H) (h6:1<=ww) (h7:ww<=12) (h8:1<=hh) (h9:hh<=12) (h10:Fit t ww hh) (h11:∀v' F L H',SameN H H'->TabOk Db C8 tb H'->TabOk DQ D0 tb3 H'->Due t ww hh L->Obj cW cU cL H' F v'->Fit F ww hh->IsF F L ⟨0,0,hh,ww⟩->(At F ⟨0,0,hh,ww⟩).Perm L->Q v' H'):L3 tb tb3 cW cU cL vs H Q E
def Jz(tb tb3 cW cU cL:Addr) :Sp:=λ vs H Q E=>L3 tb tb3 cW cU cL vs H Q E
theorem Q7{f tb tb3:Addr}{fd:FuncData}(F:Fun K "form" "form" LM f fd)(hne:tb≠tb3)(D_pieces:Ap P w K mg base 5 "pieces" ["tree","width","height"] (D9 tb cW cU cL))(D_cut_up:Ap P w K mg base 8 "cut_up" ["sheet","some"] (Gp tb3))(D_tree_from:Ap P w K mg base 4 "tree_from" ["entries"] (FS K cW cU cL)):A5 P w K mg base CX0 9 f fd ["tree","width","height"] (Jz tb tb3 cW cU cL):=by
 have S:=Si;refine F.ok S (λ vs H Q E h=>?_) (λ cdv A outer s H vs Q E hr h=>?_)
 .obtain⟨v,t,ww,hh,rfl,_⟩:=h;rfl
 .obtain⟨v,t,ww,hh,rfl,ho,hn,h64,tab,tab3,w1,w2,h1,h2,fit,q⟩:=h;refine⟨_,(Ad (Aj (Ai D_tree_from hr (Aa (Ai D_cut_up hr (Aa (Av (Aa Ae (Aa Ae (Aa (pv 2) (Aa (pv 1) Ab))))) (Aa (Ai D_pieces hr (Aa (pv 0) (Aa (pv 1) (Aa (pv 2) Ab)))) Ab))) Ab)))),?_⟩;refine⟨_,rfl,_,rfl,Au 4,λ a na=>?_⟩;obtain⟨H0,g,s0,e0⟩:=nw (.tup [.int 0,.int 0,.int hh,.int ww]) na;rw[g];refine⟨_,rfl,_,rfl,_,rfl,v,t,ww,hh,rfl,ho.same s0,hn,h64,tab.same s0,w1,w2,h1,h2,fit,λ l ts H1 s1 tab1 nl hl pc du=>?_⟩;have tb0:=(tab.same s0).tbl;have sN1:=s1.toN tb0;have t31:=(tab3.same s0).tb s1 (Ne.symm hne) tb0;have dul:=du.len;rw[List.length_map]at dul;obtain⟨z1,_,_⟩:=AF w1 w2 h1 h2 fit;refine⟨a,l,⟨0,0,hh,ww⟩,ts,t,rfl,sN1.tup e0,hl,pc,by lia,ok0 w1 h1,bd0 w2 h2,Fg fit,du.1,t31,λ le xs G H2 s2 t32 hle hens gnd gfit isf gpm=>?_⟩;refine⟨le,xs,G,rfl,SqL.of hle,hens,gnd,λ v' H3 s3 ob=>?_⟩;have sN:=(s0.n.trans sN1).trans ((s2.toN t31.tbl).trans s3.n);exact q v' G (cons ts) H3 sN ((tab1.tb s2 hne t31.tbl).same s3) (t32.same s3) du ob (DR gfit) isf gpm
theorem Re:Am ["tree","other","width","height"] ["tree","other","width","height"] (Af JB):=fsc
theorem Nm{t s:Tr}{ww hh:Int}(w1:1<=ww)(w2:ww<=12)(h1:1<=hh)(h2:hh<=12)(f:Fit t ww hh){L M:List (Rk×Option Int)}(a:Due t ww hh L)(b:Due s ww hh M):L=M↔(At t ⟨0,0,hh,ww⟩).Perm (At s ⟨0,0,hh,ww⟩) :=
 ⟨λ e=>a.1.symm.trans (e ▸ b.1),λ pm=>Pr w1 w2 h1 h2 f a ⟨b.1.trans pm.symm,b.2⟩⟩
inductive Jr(tb cW cU cL:Addr)(vs:LUz)(H:Hp)(Q:VK)(E:XK):Prop
 |mk (v v2:V) (t s:Tr) (ww hh:Int) (h0:vs=[v,v2,.int ww,.int hh]) (h1:Obj cW cU cL H t v) (h2:Obj cW cU cL H s v2) (h3:t.sz<64) (h4:s.sz<64) (h5:TabOk Db C8 tb H) (h6:1<=ww) (h7:ww<=12) (h8:1<=hh) (h9:hh<=12) (h10:Fit t ww hh) (h11:Fit s ww hh) (h12:∀b H',SameX tb H H'->TabOk Db C8 tb H'->(b=true↔(At t ⟨0,0,hh,ww⟩).Perm (At s ⟨0,0,hh,ww⟩))->Q (.bl b) H'):Jr tb cW cU cL vs H Q E
def Ey(tb cW cU cL:Addr) :Sp:=λ vs H Q E=>Jr tb cW cU cL vs H Q E
theorem OL{f tb:Addr}{fd:FuncData}(F:Fun K "alike" "alike" JB f fd)(D_pieces:Ap P w K mg base 5 "pieces" ["tree","width","height"] (D9 tb cW cU cL)):A5 P w K mg base CX0 6 f fd ["tree","other","width","height"] (Ey tb cW cU cL):=by
 have S:=Re;refine F.ok S (λ vs H Q E h=>?_) (λ cdv A outer s H vs Q E hr h=>?_)
 .obtain⟨v,v2,t,s,ww,hh,rfl,_⟩:=h;rfl
 .obtain⟨v,v2,t,ot,ww,hh,rfl,h1,h2,z1,z2,tab,w1,w2,g1,g2,f1,f2,q⟩:=h;refine⟨_,(Ad (Aj (Ci (JF hr) (Ai D_pieces hr (Aa (pv 0) (Aa (pv 2) (Aa (pv 3) Ab)))) (Ai D_pieces hr (Aa (pv 1) (Aa (pv 2) (Aa (pv 3) Ab)))) (As _)))),?_⟩;obtain⟨_,n1,_⟩:=AF w1 w2 g1 g2 f1;obtain⟨_,n2,_⟩:=AF w1 w2 g1 g2 f2;refine⟨_,rfl,_,rfl,_,rfl,v,t,ww,hh,rfl,h1,n1,z1,tab,w1,w2,g1,g2,f1,λ l1 ts1 H1 s1 tab1 nl1 e1 c1 d1=>?_⟩;have sN1:=s1.toN tab.tbl;refine⟨_,rfl,_,rfl,_,rfl,v2,ot,ww,hh,rfl,h2.n sN1,n2,z2,tab1,w1,w2,g1,g2,f2,λ l2 ts2 H2 s2 tab2 nl2 e2 c2 d2=>?_⟩;have sN2:=s2.toN tab1.tbl;have D1:DIs K H2 (.lst (gsD (cons ts1))) (.ref l1):=gsL (sN2.lst e1) (c1.n sN2);have D2:DIs K H2 (.lst (gsD (cons ts2))) (.ref l2):=gsL e2 c2;refine⟨_,_,D1,D2,⟨_,rfl⟩,⟨_,rfl⟩,by have:=Nd (cons ts1);rw[dep];lia,?_⟩;rw[if_neg Bool.false_ne_true];refine q _ H2 (s1.trans s2) tab2 ((Iff.trans ⟨λ e=>?_,λ e=>?_⟩ (Nm w1 w2 g1 g2 f1 d1 d2)))
  .rw[deq]at e;exact Rv e
  .rw[e]at D1 |-;exact Cd _ D1
inductive EJ(vs:LUz)(H:Hp)(Q:VK)(E:XK):Prop
 |mk (l b:Addr) (ts:List PT) (p:Rk) (h0:vs=[.ref l,.ref b]) (h1:H l=some (.lst (pcs ts))) (h2:PcO H ts) (h3:ts.length<=150) (h4:H b=some (.tup p.vs)) (h5:p.ok) (h6:(∀u,0<=p.lo u/\p.hi u<=12)) (h7:∀c H',Same H H'->LnAt H' c (CF ((cons ts).map (·.1)) p)->Q (.ref c) H'):EJ vs H Q E
def Fu:Sp:=λ vs H Q E=>EJ vs H Q E
theorem Im:Am ["_law_some","_law_block","_law_found","_law_side","_law_line"] ["_law_some","_law_block"] (Af BW):=fsc
def dnL(rs:List Rk)(p:Rk)(i:Nat):List (Bool×Int):=(if 1<=i then (lns rs p true).map (λ a=>(true,a)) else [])++(if 2<=i then (lns rs p false).map (λ a=>(false,a)) else [])
theorem Ra{L:List (Rk×Option Int)}{u:Bool}{a:Int}:(L.map (Mw u a)).any id=(L.map (·.1)).any (El u a):=by
 rw[List.any_map,List.any_map];rfl
theorem GI{f:Addr}{fd:FuncData}(F:Fun K "_law_through" "_law_through" BW f fd)(T:Txt mg tk):A5 P w K mg base CX0 1 f fd ["_law_some","_law_block"] Fu:=by
 have S:=Im;refine F.ok S (λ vs H Q E h=>?_) (λ cdv A outer s H vs Q E hr h=>?_)
 .obtain⟨l,b,ts,p,rfl,_⟩:=h;rfl
 .obtain⟨l,b,ts,p,rfl,hl,pc,hn,hb,pk,pb,q⟩:=h;refine⟨_,(Ac (Ao (i:=2) S.nd rfl (Or.inl rfl) (AQ Ab))
   (Ac (CN PassesOwn.never rfl (BD (AQ (Aa Ae (Aa Ae Ab)))) (Aw (i:=3) S.nd rfl (Or.inr rfl)) (Ad (CN PassesOwn.never rfl (IB rfl T.z_range (Aa (Ax AR (Aq An (pv 1) (pv 3) (λ_ _=>rfl)) Ae) (Aa (Aq An (pv 1) (Ax AR (pv 3) Ae) (λ_ _=>rfl)) Ab))) (Aw (i:=4) S.nd rfl (Or.inr rfl)) (Ad (A0 (BC (Bb (A3 Li rfl T.z_any rfl (Aa (MS rfl (BD (pv 0)) (λ_ _ _ _ _=>(FT (K:=K) (n:=2) rfl (A1 (Aw (i:=0) (show List.Nodup (["_law_one","_law_mark","_law_line","_law_side"]:LSz) from by decide +kernel) rfl (Or.inl rfl)) (A1 (Aw (i:=1) (show List.Nodup (["_law_one","_law_mark","_law_line","_law_side"]:LSz) from by decide +kernel) rfl (Or.inl rfl)) B1)))) (λ_ _ _ _ _=>(G8 Cj Cj (Aq (EC (K:=K)) (pv 0) (pv 3) (λ_ _=>rfl)) (pv 2) (Aq (EC (K:=K)) (pv 0) (Ax AR (pv 3) Ae) (λ_ _=>rfl)))) (N:=["_law_one","_law_mark","_law_line","_law_side"]) (fr:=[none,none,some 4,some 3])) Ab)))) (Ad (AU (Ca PySem.F.plainAttrs_list PySem.F.slot_list_append PySem.F.type_list_append AD (pv 2) (Aa (Av (Aa (Aq Bm (AQ (Aa A6 (Aa A6 Ab))) (pv 3) (λ_ _=>rfl)) (Aa (pv 4) Ab))) Ab)))) Al)))))
   (Ad (Aj (pv 2))))),?_⟩
  refine⟨Au 0,λ c hc=>?_⟩;obtain⟨H0,g,s0,e0⟩:=nw (.lst []) hc;rw[g];refine⟨Au 2,λ M hM=>?_⟩;have s1:Same H0 (upd H0 M (.lst [.int 1,.int 0])):=Same.new hM;have e1:(upd H0 M (.lst [.int 1,.int 0])) M=some (.lst [.int 1,.int 0]):=upd_same;have nM:M≠c:=Ne.symm (Ag e0 hM);have c1:=s1 _ _ e0;generalize upd H0 M (.lst [.int 1,.int 0])=H1 at s1 e1 c1 |-;refine⟨M,rfl,⟨_,SqL.of e1⟩,ED (K:=K) (a:=M) (xs:=[.int 1,.int 0]) (λ i σ H'=>∃(x3 x4:Option V),σ=[some (.ref l),some (.ref b),some (.ref c),x3,x4]/\Same H H'/\H' M=some (.lst [.int 1,.int 0])/\LnAt H' c (dnL ((cons ts).map (·.1)) p i)/\(dnL ((cons ts).map (·.1)) p i).length<=12*i)
   ⟨_,_,rfl,s0.trans s1,e1,⟨[],c1,(λ t ht=>nomatch ht),rfl⟩,Nat.le_refl _⟩ (λ i σ H' _ hp=>let ⟨_,_,_,_,h,_⟩:=hp;SqL.of h) ?_ ?_⟩
  .rintro i x σ H' hx ⟨x3,x4,rfl,s2,m2,ln,Mj⟩;obtain⟨u,rfl,hu⟩:∃u,x=.int (sd u)/\i=if u then 0 else 1:=by
    match i,hx with
    |0,hx=>cases hx;exact⟨true,rfl,rfl⟩
    |1,hx=>cases hx;exact⟨false,rfl,rfl⟩
   obtain⟨b0,b1⟩:=pb u;have h12:=CM pk u;refine⟨_,rfl,_,rfl,b,_,_,_,rfl,rfl,SqT.of (s2 _ _ hb),EE,_,_,rfl,rfl,_,rfl,_,rfl,_,_,rfl,rfl,b,_,_,_,rfl,rfl,SqT.of (s2 _ _ hb),Nt,?_⟩;refine⟨_,_,rfl,⟨by lia,by lia,by lia,by lia⟩,?_⟩;refine Oe (lo:=p.lo u+1) (n:=(p.hi u-(p.lo u+1)).toNat) (λ j σ H'=>∃(x4:Option V),σ=[some (.ref l),some (.ref b),some (.ref c),some (.int (sd u)),x4]/\Same H H'/\H' M=some (.lst [.int 1,.int 0])/\LnAt H' c (dnL ((cons ts).map (·.1)) p i++(EA ((cons ts).map (·.1)) u (p.lo u) j).map (λ a=>(u,a))))
    ⟨_,rfl,s2,m2,by rw[EA];show LnAt _ c (_++[]);rw[List.append_nil];exact ln⟩ ?_ ?_
   .rintro j σ H2 hj ⟨x4,rfl,s3,m3,ln⟩;have jl:=Dx (rs:=(cons ts).map (·.1)) (u:=u) (lo:=p.lo u) j;refine⟨_,rfl,l,rfl,⟨_,SqL.of (s3 _ _ hl)⟩,λ acc hacc=>Fm (K:=K) (a:=l) (ys:=pcs ts) (λ i zs σ H'=>(∃y z,σ=[y,z,some (.int (p.lo u+1+(j:Int))),some (.int (sd u))])/\Same H2 H'/\zs=((cons ts).take i).map λ g=>V.bl (Mw u (p.lo u+1+(j:Int)) g)) ⟨⟨none,none,rfl⟩,Same.new hacc,rfl⟩ (λ i zs σ H' _ _ hp=>SqL.of ((s3.trans hp.2.1) _ _ hl)) ?_ ?_⟩
    .rintro k x zs σ H' hx hk hl' hacc' ⟨⟨y,z,rfl⟩,hs,rfl⟩;obtain⟨t,ht,rfl⟩:=E5 hx;obtain⟨g1,g2⟩:=(pc.same (s3.trans hs)) t (List.mem_of_getElem? ht);have next:∀{σ':St}{v:V}{H3:Hp},H3=H'->σ'=[some (.ref t.2.1),some (AB t.2.2.2),some (.int (p.lo u+1+(j:Int))),some (.int (sd u))]->v=.bl (Mw u (p.lo u+1+(j:Int)) t.2.2)->cNx acc (pcs ts).length (λ i zs σ H'=>(∃y z,σ=[y,z,some (.int (p.lo u+1+(j:Int))),some (.int (sd u))])/\Same H2 H'/\zs=((cons ts).take i).map λ g=>V.bl (Mw u (p.lo u+1+(j:Int)) g)) k σ' v H3:=λ{σ' v H3} e e2 e3=>by
      subst e e2 e3;refine cNx.mk (Nat.le_of_lt (A2 (by rw[List.length_map];lia))) hk hl' hacc' ⟨⟨_,_,rfl⟩,λ b o e=>by rw[Ah (Ag e hacc)];exact hs b o e,?_⟩;rw[List.take_succ,List.getElem?_map,ht,List.map_append];rfl
     refine⟨t.1,_,rfl,SqT.of g1,rfl,_,_,rfl,_,_,rfl,rfl,_,rfl,_,rfl,t.2.1,_,_,_,rfl,rfl,SqT.of g2,EE,_,rfl,_,_,rfl,rfl,_,rfl,Bo (λ h1=>?_) (λ h1=>?_)⟩
     .refine⟨_,rfl,_,rfl,_,_,rfl,rfl,t.2.1,_,_,_,rfl,rfl,SqT.of g2,Nt,_,_,rfl,rfl,next rfl rfl ?_⟩;unfold Mw;rw[h1,Bool.true_and]
     .exact next rfl rfl (by unfold Mw;rw[h1];rfl)
    .rintro zs σ H3 hzl hacc' ⟨_,s4,rfl⟩;rw[List.length_map,<-List.length_map (f:=λ t:PT=>t.2.2),List.take_length]at hacc';have hbs:SqL K H3 acc (((cons ts).map (Mw u (p.lo u+1+(j:Int)))).map V.bl):=SqL.of (by rw[List.map_map];exact hacc');have s24:=s3.trans s4;have m4:=s4 _ _ m3;refine⟨acc,_,rfl,hbs,rfl,_,rfl,?_⟩;rw[Ra];cases hany:((cons ts).map (·.1)).any (El u (p.lo u+1+(j:Int))) with
     |true =>
      refine A8 rfl ⟨_,rfl,s24,m4,?_⟩;rw[EA,hany,if_pos rfl,List.append_nil];exact ln.same s4
     |false =>
      refine AH rfl ?_;obtain⟨us,u1,u2,ue⟩:=ln.same s4;have ul:=congrArg List.length ue;rw[List.length_map,List.length_append,List.length_map]at ul;refine⟨_,rfl,.inl ⟨rfl,_,SqL.of u1⟩,Au 2,λ N hN=>?_⟩;obtain⟨H5,g,s5,e5⟩:=nw (.lst [.str "level",.str "upright"]) hN;rw[g];refine⟨_,rfl,N,_,_,_,rfl,rfl,SqL.of e5,SV,_,rfl,Au 2,λ t6 h6=>?_⟩;obtain⟨H6,g,s6,e6⟩:=nw (.tup [.str (wd u),.int (p.lo u+1+(j:Int))]) h6;rw[g];have s56:=s5.trans s6;have u6:=s56 _ _ u1;have il:i<=1:=by rw[hu];cases u<;>decide
      refine⟨c,_,_,rfl,rfl,u6,A2 (by rw[C3];lia),?_⟩;have sK:∀{b:Addr}{o:HO},b≠c->H6 b=some o->(upd H6 c (.lst (Ec us++[.ref t6]))) b=some o:=λ n e=>by rw[Ah n];exact e
      have tup:∀{b:Addr}{xs:LUz},H6 b=some (.tup xs)->(upd H6 c (.lst (Ec us++[.ref t6]))) b=some (.tup xs):=λ{b xs} e=>sK (F1 e u6 (by intro z;cases z)) e;refine⟨_,rfl,λ d o e=>?_,sK nM (s56 _ _ m4),⟨us++[(t6,u,p.lo u+1+(j:Int))],by rw[upd_same];show _=some (HO.lst (List.map _ (us++[(t6,u,p.lo u+1+(j:Int))])));rw[List.map_append];rfl,λ t ht=>?_,?_⟩⟩
      .rw[Ah (Ag e hc)];exact s56 _ _ (s24 _ _ e)
      .rcases List.mem_append.mp ht with ht|ht
       .exact tup (s56 _ _ (u2 t ht))
       .rw[List.mem_singleton.mp ht];exact tup e6
      .rw[List.map_append,ue,EA,hany,if_neg Bool.false_ne_true,List.map_append,List.append_assoc];rfl
   .rintro σ H2 ⟨x4,rfl,s3,m3,ln⟩;have ln:LnAt H2 c (dnL ((cons ts).map (·.1)) p i++(lns ((cons ts).map (·.1)) p u).map (λ a=>(u,a))):=ln;have e:dnL ((cons ts).map (·.1)) p i++(lns ((cons ts).map (·.1)) p u).map (λ a=>(u,a))=dnL ((cons ts).map (·.1)) p (i+1):=by
     subst hu;cases u<;>simp[dnL]
    have ll:=Dx (rs:=(cons ts).map (·.1)) (u:=u) (lo:=p.lo u) (p.hi u-(p.lo u+1)).toNat;have l3:=congrArg List.length e;rw[List.length_append,List.length_map]at l3;unfold lns at l3;rw[e]at ln;exact⟨_,_,rfl,s3,m3,ln,by lia⟩
  .rintro σ H' ⟨x3,x4,rfl,s2,m2,ln,Mj⟩;exact⟨_,rfl,q c H' s2 ln⟩
theorem St8.keep{H H':Hp}{st a:Addr}{tm:Int}{o:HO}(h:St8 H st tm)(s:SameX st H H')(e:H a=some o)(n:∀kv,o≠.dK kv):H' a=some o:=by
 obtain⟨_,_,_,q⟩:=h;exact s _ _ (F1 e q (n _)) e
theorem PcO.st{H H':Hp}{st:Addr}{tm:Int}{ts:List PT}(p:PcO H ts)(h:St8 H st tm)(s:SameX st H H'):PcO H' ts:=λ t ht=>⟨h.keep s (p t ht).1 (by intro kv z;cases z),h.keep s (p t ht).2 (by intro kv z;cases z)⟩
inductive Jl(n:Nat)(vs:LUz)(H:Hp)(Q:VK)(E:XK):Prop
 |mk (l b st:Addr) (ts:List PT) (p:Rk) (t:Tr) (tm:Int) (h0:vs=[.ref l,.ref b,.ref st]) (h1:H l=some (.lst (pcs ts))) (h2:PcO H ts) (h3:ts.length<=150) (h4:H b=some (.tup p.vs)) (h5:p.ok) (h6:(∀u,0<=p.lo u/\p.hi u<=12)) (h7:AO p t) (h8:(cons ts).Perm (At t p)) (h9:St8 H st tm) (h10:0<=tm) (h11:tm+t.sz<=900) (h12:p.len true+p.len false<n) (h13:∀v r H' tm',SameX st H H'->St8 H' st tm'->0<=tm'->tm'+1<=tm+t.sz->Told H' r v->AO p r->(At r p).Perm (At t p)->Q v H'):Jl n vs H Q E
def Df(n:Nat) :Sp:=λ vs H Q E=>Jl n vs H Q E
theorem RH{vs:LUz}{H:Hp}{Q:VK}{E:XK}:¬Df 0 vs H Q E:=by
 rintro⟨l,b,st,ts,p,t,tm,_,_,_,_,_,pk,_,_,_,_,_,_,h,_⟩;have h1:=CM pk true;have h2:=CM pk false;rw[B3,B3]at h;lia
abbrev Rh:LSz:=["_law_some","_law_block","_law_state_here","_law_lines","_law_word","_law_line","_law_first","_law_low","_law_other","_law_high","_law_part"]
theorem F9:Am Rh ["_law_some","_law_block","_law_state_here"] (Af CK):=fsc
theorem MK{α:Type}{ts:List (Addr×α)}{z:Int}(h0:0<=z)(h1:z<ts.length):∃t∈ts,atI (Ec ts) z=some (.ref t.1):=by
 have h:z.toNat<ts.length:=by lia
 have e:=EF (xs:=Ec ts) (j:=z.toNat) (v:=.ref ts[z.toNat].1) (by unfold Ec;rw[List.getElem?_map,List.getElem?_eq_getElem h];rfl);rw[Int.toNat_of_nonneg h0]at e;exact⟨_,List.getElem_mem h,e⟩
theorem JL{f:Addr}{fd:FuncData}{n:Nat}(F:Fun K "_law_recut" "_law_recut" CK f fd)(T:Txt mg tk)(D__law_through:Ap P w K mg base 1 "_law_through" ["_law_some","_law_block"] Fu)(D__law_pick:Ap P w K mg base 2 "_law_pick" ["_law_state_here","_law_many"] Jv)(D__law_parted:Ap P w K mg base 1 "_law_parted" ["_law_some","_law_block","_law_word","_law_line"] Ix)
  (D__law_recut:Ap P w K mg base (n+3) "_law_recut" ["_law_some","_law_block","_law_state_here"] (Df n)):A5 P w K mg base CX0 (n+4) f fd ["_law_some","_law_block","_law_state_here"] (Df (n+1)):=by
 have S:=F9;refine F.ok S (λ vs H Q E h=>?_) (λ cdv A outer s H vs Q E hr h=>?_)
 .obtain⟨l,b,st,ts,p,t,tm,rfl,_⟩:=h;rfl
 .obtain⟨l,b,st,ts,p,t,tm,rfl,hl,pc,hn,hb,pk,pb,fit,pm,hst,tm0,tm9,hd,q⟩:=h;refine⟨_,(Ac (A0 (Ak AN (A3 Bi rfl T.z_len rfl (Aa (pv 0) Ab)) Ae (As _)) (Ad (Aj (Av (Aa A6 (Aa (Aq An (Aq Bm (pv 0) Ae (λ_ _=>rfl)) Ae (λ_ _=>rfl)) Ab))))) Al)
   (Ac (Ao (i:=3) S.nd rfl (Or.inl rfl) (Ai D__law_through hr (Aa (pv 0) (Aa (pv 1) Ab)) (by lia)))
   (Ac (G3 (Aq Bm (pv 3) (Ai D__law_pick hr (Aa (pv 2) (Aa (A3 Bi rfl T.z_len rfl (Aa (pv 3) Ab)) Ab)) (by lia)) (λ_ _=>rfl)) (CO rfl (A1 (Aw (i:=4) S.nd rfl (Or.inl rfl)) (A1 (Aw (i:=5) S.nd rfl (Or.inl rfl)) B1))))
   (Ac (G3 (Ai D__law_parted hr (Aa (pv 0) (Aa (pv 1) (Aa (pv 4) (Aa (pv 5) Ab)))) (by lia)) (CO rfl (A1 (Aw (i:=6) S.nd rfl (Or.inl rfl)) (A1 (Aw (i:=7) S.nd rfl (Or.inl rfl)) (A1 (Aw (i:=8) S.nd rfl (Or.inl rfl)) (A1 (Aw (i:=9) S.nd rfl (Or.inl rfl)) B1))))))
   (Ac (Ao (i:=10) S.nd rfl (Or.inl rfl) (Ai D__law_recut hr (Aa (pv 6) (Aa (pv 7) (Aa (pv 2) Ab))) (by lia)))
   (Ad (Aj (Av (Aa (pv 4) (Aa (Ax B4 (pv 5) (Aq An (pv 1) (IE IY rfl T.z_int rfl (Aa (Ci AN (pv 4) A6 (As _)) Ab)) (λ_ _=>rfl))) (Aa (pv 10) (Aa (Ai D__law_recut hr (Aa (pv 8) (Aa (pv 9) (Aa (pv 2) Ab))) (by lia)) Ab)))))))))))),?_⟩
  have lenE:=pm.length_eq;rw[Ay,List.length_map]at lenE;refine⟨_,rfl,l,_,rfl,.inl (SqL.of hl),rfl,_,rfl,Bo (λ c=>?_) (λ c=>?_)⟩
  .have c:=of_decide_eq_true c;have c:ts.length=1:=by have:=V.int.inj c;rw[List.length_map]at this;lia
   obtain⟨x,rfl⟩:=List.length_eq_one_iff.mp c;obtain⟨m,rfl⟩:=LF (lenE.symm.trans c);have hx:=pc x (List.mem_singleton.mpr rfl);refine⟨_,rfl,l,_,_,_,rfl,rfl,SqL.of hl,rfl,x.1,_,_,_,rfl,rfl,SqT.of hx.1,DS,Au 2,λ a ha=>?_⟩;rw[At]at pm;have e:=pm.mem_iff.mp (List.mem_singleton.mpr rfl);have e:=List.mem_singleton.mp e;have e2:x.2.2.2=m:=congrArg Prod.snd e;have s1:Same H (upd H a (.tup [.str "whole",AB x.2.2.2])):=Same.new ha;refine q (.ref a) (.whole m) _ tm s1.x (hst.same s1) tm0 (Int.le_refl _) ?_ fit (List.Perm.refl _);rw[Told,<-e2];exact⟨a,rfl,upd_same⟩
  .have c:=of_decide_eq_false c;have c:t.sz≠1:=λ z=>c (by rw[List.length_map,lenE,z];rfl);refine⟨_,rfl,_,rfl,l,b,ts,p,rfl,hl,pc,hn,hb,pk,pb,λ cl H1 s1 ln=>?_⟩;have fnd:=Qg (L:=cons ts) pk;have cl24:=Qf (rs:=(cons ts).map (·.1)) pk pb;generalize CF ((cons ts).map (·.1)) p=cs at ln fnd cl24;obtain⟨us,u1,u2,ue⟩:=ln;have ul:us.length=cs.length:=by rw[<-ue,List.length_map]
   have ne:0<cs.length:=by
    cases t with
    |whole m=>exact absurd rfl c
    |cut u0 k0 x0 y0 =>
     obtain⟨⟨k1,k2⟩,fx,fy⟩:=fitR_cut.mp fit;obtain⟨_,_,nb⟩:=Cb pk k1 k2 fx fy;rw[B3]at k2;exact List.length_pos_of_mem (fnd.all u0 (p.lo u0+k0) trivial (by lia) (by lia) λ g hg=>nb g (by have:=pm.mem_iff.mp hg;rw[At]at this;exact this))
   have st1:=hst.same s1;refine⟨_,rfl,_,rfl,_,rfl,cl,_,rfl,.inl (SqL.of u1),st,tm,_,rfl,st1,tm0,by have:=Bx t;lia,by rw[C3];lia,by rw[C3];lia,λ z H2 z0 z1 s2 st2=>?_⟩;rw[C3]at z1;obtain⟨x,hx,hat⟩:=MK (ts:=us) z0 z1;obtain⟨xa,u,line⟩:=x;have kp2:∀{d:Addr}{o:HO},H d=some o->(∀kv,o≠.dK kv)->H2 d=some o:=λ e nk=>st1.keep s2 (s1 _ _ e) nk;refine⟨cl,_,_,_,rfl,rfl,SqL.of (st1.keep s2 u1 (by intro kv z;cases z)),hat,xa,_,rfl,SqT.of (st1.keep s2 (u2 _ hx) (by intro kv z;cases z)),rfl,_,_,rfl,_,_,rfl,rfl,?_⟩;obtain⟨f1,f2,nb⟩:=fnd.ok (u,line) (ue ▸ List.mem_map.mpr ⟨_,hx,rfl⟩);obtain⟨a,rfl⟩:∃a,line=p.lo u+a:=⟨line-p.lo u,by lia⟩;have f1:p.lo u<p.lo u+a:=f1;have f2:p.lo u+a<p.hi u:=f2;have a1:1<=a:=by lia
   have a2:a<p.len u:=by rw[B3];lia
   obtain⟨th,fa,fb,q1,q2⟩:=EX pk fit pm a1 a2 nb;obtain⟨ok1,ok2⟩:=C2 pk a1 a2;obtain⟨lh1,lh2,lt1,lt2⟩:=Ro (u:=u) (a:=a) pb a1 a2;have szE:=(BI (p:=p) th).length_eq;rw[Ay,List.length_append,Ay,Ay]at szE;have sza:=Bx (ahd t u a);have szb:=Bx (bhd t u a);have l2:=kp2 hl (by intro kv z;cases z);have b2:=kp2 hb (by intro kv z;cases z);have pc2:=(pc.same s1).st st1 s2;refine⟨_,rfl,_,rfl,_,rfl,_,rfl,l,b,ts,p,u,a,rfl,l2,pc2,hn,b2,λ cc l1 b1 lo bo ts1 ts2 H3 s3 hcc hl1 pc1 e1 hb1 hlo pco e2 hbo=>?_⟩;refine⟨cc,_,rfl,SqT.of hcc,rfl,_,_,rfl,_,_,rfl,_,_,rfl,_,_,rfl,rfl,?_⟩;have st3:=st2.same s3;have q1':(cons ts1).Perm (At (ahd t u a) (p.fst u a)):=by rw[e1];exact q1
   have q2':(cons ts2).Perm (At (bhd t u a) (p.oth u a)):=by rw[e2];exact q2
   have n1:=q1'.length_eq;have n2:=q2'.length_eq;rw[Ay,List.length_map]at n1 n2;refine⟨_,rfl,_,rfl,_,rfl,l1,b1,st,ts1,p.fst u a,ahd t u a,tm+1,rfl,hl1,pc1,by lia,hb1,ok1,lh1,fa,q1',st3,by lia,by lia,by lia,λ v1 r1 H4 tm4 s4 st4 t40 t4 told1 fit1 perm1=>?_⟩;have hlo4:=st3.keep s4 hlo (by intro kv z;cases z);have hbo4:=st3.keep s4 hbo (by intro kv z;cases z);have b4:=st3.keep s4 (s3 _ _ b2) (by intro kv z;cases z);refine⟨_,rfl,_,rfl,_,rfl,_,rfl,rfl,.inr ⟨_,rfl,?_⟩⟩;have hsd:(if decide (V.str (wd u)=V.str "upright")=true then (1:Int) else 0)=sd u:=by rw[Rj];rfl
   rw[hsd];refine⟨b,_,_,_,rfl,rfl,SqT.of b4,EE,_,_,rfl,rfl,_,rfl,_,rfl,_,rfl,_,rfl,lo,bo,st,ts2,p.oth u a,bhd t u a,tm4,rfl,hlo4,pco.st st3 s4,by lia,hbo4,ok2,lh2,fb,q2',st4,t40,by lia,by lia,λ v2 r2 H5 tm5 s5 st5 t50 t5 told2 fit2 perm2=>?_⟩;refine⟨Au 4,λ x6 h6=>?_⟩;have s6:Same H5 (upd H5 x6 (.tup [.str (wd u),.int (p.lo u+a-p.lo u),v1,v2])):=Same.new h6;refine q (.ref x6) (.cut u a r1 r2) _ tm5 ((s1.x.trans s2).trans ((s3.x.trans s4).trans (s5.trans s6.x))) (st5.same s6) t50 (by lia) ?_ (fitR_cut.mpr ⟨⟨a1,a2⟩,fit1,fit2⟩) ?_
   .rw[Told];exact⟨x6,v1,v2,rfl,upd_same.trans (by show some (HO.tup [V.str (wd u),V.int (p.lo u+a-p.lo u),v1,v2])=_;rw[show p.lo u+a-p.lo u=a by lia]),(told1.samed s5 st4).same s6,told2.same s6⟩
   .rw[At];exact(perm1.append perm2).trans (BI (p:=p) th).symm
inductive FD(n:Nat)(vs:LUz)(H:Hp)(Q:VK)(E:XK):Prop
 |mk (v:V) (t:Tr) (cc:Int) (h0:vs=[v,.int cc]) (h1:Told H t v) (h2:t.dp<n) (h3:∀v' r H',Same H H'->Told H' r v'->Fr t r->Q v' H'):FD n vs H Q E
def BR(n:Nat) :Sp:=λ vs H Q E=>FD n vs H Q E
theorem O5{vs:LUz}{H:Hp}{Q:VK}{E:XK}:¬BR 0 vs H Q E:=by
 rintro⟨v,t,cc,_,_,h,_⟩;lia
theorem DT:Am ["_law_told_here","_law_cell_here"] ["_law_told_here","_law_cell_here"] (Af BX):=fsc
theorem GJ{f:Addr}{fd:FuncData}{n:Nat}(F:Fun K "_law_spoiled" "_law_spoiled" BX f fd)(D__law_spoiled:Ap P w K mg base (n+3) "_law_spoiled" ["_law_told_here","_law_cell_here"] (BR n)):A5 P w K mg base CX0 (n+4) f fd ["_law_told_here","_law_cell_here"] (BR (n+1)):=by
 have S:=DT;refine F.ok S (λ vs H Q E h=>?_) (λ cdv A outer s H vs Q E hr h=>?_)
 .obtain⟨v,t,cc,rfl,_⟩:=h;rfl
 .obtain⟨v,t,cc,rfl,ht,hd,q⟩:=h;refine⟨_,(Ac (A0 (Ak AN (Aq An (pv 0) Ae (λ_ _=>rfl)) A6 (As _)) (Ac (A0 (Ak GC (Aq An (pv 0) Ae (λ_ _=>rfl)) Br (As _)) (Ad (Aj (Av (Aa A6 (Aa Ae Ab))))) Al)
   (Ad (Aj (Av (Aa A6 (Aa (Ax Cu (Ax AR (Aq An (pv 0) Ae (λ_ _=>rfl)) Ae) Ae) Ab)))))) Al)
   (Ac (A0 (Ak AN (Ax Cu (pv 1) Ae) Ae (As _)) (Ad (Aj (Av (Aa A6 (Aa Br Ab))))) Al)
   (Ac (A0 (Ak AN (Ax Cu (pv 1) Ae) Ae (As _)) (Ad (Aj (Av (Aa (Aq An (pv 0) Ae (λ_ _=>rfl)) (Aa (Aq An (pv 0) Ae (λ_ _=>rfl)) (Aa (Ai D__law_spoiled hr (Aa (Aq An (pv 0) Ae (λ_ _=>rfl)) (Aa (Ax E6 (pv 1) Ae) Ab)) (by lia)) (Aa (Aq An (pv 0) Ae (λ_ _=>rfl)) Ab))))))) Al)
   (Ad (Aj (Av (Aa (Aq An (pv 0) Ae (λ_ _=>rfl)) (Aa (Aq An (pv 0) Ae (λ_ _=>rfl)) (Aa (Aq An (pv 0) Ae (λ_ _=>rfl)) (Aa (Ai D__law_spoiled hr (Aa (Aq An (pv 0) Ae (λ_ _=>rfl)) (Aa (Ax E6 (pv 1) Ae) Ab)) (by lia)) Ab)))))))))),?_⟩
  cases t with
  |whole m =>
   rw[Told]at ht;obtain⟨a,rfl,ha⟩:=ht;refine⟨_,rfl,a,_,_,_,rfl,rfl,SqT.of ha,D7,rfl,_,rfl,AH (decide_eq_true rfl) ?_⟩;cases m with
   |none=>exact⟨_,rfl,a,_,_,_,rfl,rfl,SqT.of ha,DS,rfl,_,rfl,AH (decide_eq_true rfl) ⟨Au 2,λ e he=>q _ (.whole (some 0)) _ (Same.new he) (by rw[Told];exact⟨e,rfl,upd_same⟩) ⟨_,rfl,by intro z;cases z⟩⟩⟩
   |some i =>
    refine⟨_,rfl,a,_,_,_,rfl,rfl,SqT.of ha,DS,rfl,_,rfl,A8 (decide_eq_false (by intro z;cases z)) ?_⟩;refine⟨_,rfl,a,_,_,_,rfl,rfl,SqT.of ha,DS,_,_,rfl,rfl,_,_,rfl,rfl,(show(0:Int)<1000 from by decide),Au 2,λ e he=>q _ (.whole (some ((i+1) % 1000))) _ (Same.new he) (by rw[Told];exact⟨e,rfl,upd_same⟩) ⟨_,rfl,λ z=>?_⟩⟩;have z:=Option.some.inj z;lia
  |cut u k y1 y2 =>
   rw[Told]at ht;obtain⟨a,v1,v2,rfl,ha,t1,t2⟩:=ht;have hd:max y1.dp y2.dp+1<n+1:=hd;refine⟨_,rfl,a,_,_,_,rfl,rfl,SqT.of ha,at0,rfl,_,rfl,A8 (AZ u) ?_⟩;refine⟨_,rfl,_,_,rfl,rfl,(show(0:Int)<5 from by decide),rfl,_,rfl,Bo (λ c=>?_) (λ c=>?_)⟩
   .exact⟨Au 2,λ e he=>q _ (.whole none) _ (Same.new he) (by rw[Told];exact⟨e,rfl,upd_same⟩) (.inl rfl)⟩
   .refine⟨_,rfl,_,_,rfl,rfl,(show(0:Int)<2 from by decide),rfl,_,rfl,Bo (λ c=>?_) (λ c=>?_)⟩
    .refine⟨_,rfl,a,_,_,_,rfl,rfl,SqT.of ha,at0,_,rfl,a,_,_,_,rfl,rfl,SqT.of ha,at1,_,rfl,a,_,_,_,rfl,rfl,SqT.of ha,at2,_,rfl,_,_,rfl,rfl,QR _ (by decide) (by decide),v1,y1,cc / 2,rfl,t1,by lia,λ v' r H1 s1 r1 sp1=>?_⟩;refine⟨_,rfl,a,_,_,_,rfl,rfl,SqT.of (s1 _ _ ha),at3,Au 4,λ e he=>?_⟩;have s2:Same H1 (upd H1 e (.tup [.str (wd u),.int k,v',v2])):=Same.new he;exact q _ (.cut u k r y2) _ (s1.trans s2) (by rw[Told];exact⟨e,_,_,rfl,upd_same,r1.same s2,t2.same (s1.trans s2)⟩) (.inr (.inl ⟨r,rfl,sp1⟩))
    .refine⟨_,rfl,a,_,_,_,rfl,rfl,SqT.of ha,at0,_,rfl,a,_,_,_,rfl,rfl,SqT.of ha,at1,_,rfl,a,_,_,_,rfl,rfl,SqT.of ha,at2,_,rfl,a,_,_,_,rfl,rfl,SqT.of ha,at3,_,rfl,_,_,rfl,rfl,QR _ (by decide) (by decide),v2,y2,cc / 2,rfl,t2,by lia,λ v' r H1 s1 r1 sp1=>?_⟩;refine⟨Au 4,λ e he=>?_⟩;have s2:Same H1 (upd H1 e (.tup [.str (wd u),.int k,v1,v'])):=Same.new he;exact q _ (.cut u k y1 r) _ (s1.trans s2) (by rw[Told];exact⟨e,_,_,rfl,upd_same,t1.same (s1.trans s2),r1.same s2⟩) (.inr (.inr ⟨r,rfl,sp1⟩))
abbrev MT:=Addr×Addr×Mv
abbrev Cl(ts:List MT):LUz:=ts.map λ t=>V.ref t.1
def MvsO(H:Hp)(ts:List MT):Prop:=∀t∈ts,H t.1=some (.tup [.ref t.2.1,.str t.2.2.2])/\H t.2.1=some (.tup (t.2.2.1.map V.int))
def MvO(H:Hp)(l:Addr)(L:List Mv):Prop:=∃ts:List MT,H l=some (.lst (Cl ts))/\MvsO H ts/\ts.map (·.2.2)=L
theorem MvsO.same{H H':Hp}{ts:List MT}(h:MvsO H ts)(s:Same H H'):MvsO H' ts:=λ t ht=>⟨s _ _ (h t ht).1,s _ _ (h t ht).2⟩
theorem MvO.same{H H':Hp}{l:Addr}{L:List Mv}(h:MvO H l L)(s:Same H H'):MvO H' l L:=let ⟨ts,a,b,c⟩:=h;⟨ts,s _ _ a,b.same s,c⟩
theorem MvO.nil{H:Hp}{l:Addr}(h:H l=some (.lst [])):MvO H l []:=⟨[],h,(λ_ z=>nomatch z),rfl⟩
theorem MvO.one{H:Hp}{l a sa:Addr}{st:List Int}{w:Str}(h:H l=some (.lst [.ref a]))(h1:H a=some (.tup [.ref sa,.str w]))(h2:H sa=some (.tup (st.map V.int))):MvO H l [(st,w)] :=
 ⟨[(a,sa,st,w)],h,λ t ht=>by rw[List.mem_singleton.mp ht];exact⟨h1,h2⟩,rfl⟩
theorem MvO.cat{H:Hp}{a b:Addr}{A B:List Mv}(ha:MvO H a A)(hb:MvO H b B)(sz:A.length+B.length<=30000){Q:VK}(q:∀l H',Same H H'->H l=none->MvO H' l (A++B)->Q (.ref l) H'):S6 (.ref a) (.ref b) H Q:=by
 obtain⟨ts,h1,h2,rfl⟩:=ha;obtain⟨us,g1,g2,rfl⟩:=hb;rw[List.length_map,List.length_map]at sz;refine⟨a,b,_,_,rfl,rfl,h1,g1,Nat.le_of_lt (RD (by rw[List.length_map,List.length_map];exact sz)),λ p hp=>?_⟩;have s:Same H (upd H p (.lst (Cl ts++Cl us))):=Same.new hp;refine q p _ s hp ⟨ts++us,by rw[upd_same];show _=some (HO.lst (List.map _ (ts++us)));rw[List.map_append],λ t ht=>?_,List.map_append⟩;rcases List.mem_append.mp ht with ht|ht
 .exact h2.same s t ht
 .exact g2.same s t ht
def pfx(st:List Int)(L:List Mv):List Mv:=L.map λ m=>(st++m.1,m.2)
theorem Ch{st:List Int}{A B:List Mv}:pfx st (A++B)=pfx st A++pfx st B:=List.map_append
theorem CP{st:List Int}{i:Int}{A:List Mv}:pfx (st++[i]) A=pfx st (pre i A):=by
 unfold pfx pre;rw[List.map_map];refine List.map_congr_left λ m _=>?_;show(st++[i]++m.1,m.2)=(st++(i::m.1),m.2);rw[List.append_assoc];rfl
theorem FU{st:List Int}{w:Str}:pfx st [(([],w):Mv)]=[(st,w)]:=by
 show[(st++[],w)]=_;rw[List.append_nil]
theorem MR{L:List Mv}:pfx [] L=L:=by
 unfold pfx;exact(List.map_congr_left λ m _=>rfl).trans (List.map_id L)
theorem Bv{st:List Int}{L:List Mv}:(pfx st L).length=L.length:=List.length_map ..
theorem Lh{K:Frag}{H:Hp}{sa p:Addr}{st:List Int}{i:Int}(hs:H sa=some (.tup (st.map V.int)))(hp:H p=some (.tup [.int i]))(sz:st.length<=100){Q:VK}(q:∀sb H',Same H H'->H' sb=some (.tup ((st++[i]).map V.int))->Q (.ref sb) H'):Rq K (.ref sa) (.ref p) H Q :=
 ⟨sa,p,_,_,rfl,rfl,SqT.of hs,hp,(by simp),Nat.le_of_lt (A2 (by rw[List.length_map];show st.length+1<=1000;lia)),λ sb H' s h=>q sb H' s (by rw[h,List.map_append];rfl)⟩
inductive N0(cW cU cL:Addr)(n:Nat)(vs:LUz)(H:Hp)(Q:VK)(E:XK):Prop
 |mk (v:V) (t:Tr) (u:Bool) (a:Int) (st:List Int) (sa:Addr) (h0:vs=[v,.str (wd u),.int a,.ref sa]) (h1:Obj cW cU cL H t v) (h2:H sa=some (.tup (st.map V.int))) (h3:Thr t u a) (h4:t.dp<n) (h5:st.length+t.dp<=100) (h6:t.sz<=150) (h7:∀l H',Same H H'->H l=none->MvO H' l (pfx st (mup t u a))->Q (.ref l) H'):N0 cW cU cL n vs H Q E
def Gm(cW cU cL:Addr)(n:Nat) :Sp:=λ vs H Q E=>N0 cW cU cL n vs H Q E
theorem TF{vs:LUz}{H:Hp}{Q:VK}{E:XK}:¬Gm cW cU cL 0 vs H Q E:=by
 rintro⟨v,t,u,a,st,sa,_,_,_,_,h,_⟩;lia
theorem Hq:Am ["tree","word","at","steps","first"] ["tree","word","at","steps"] (Af DV):=fsc
theorem K7{f:Addr}{fd:FuncData}{n:Nat}(F:Fun K "moves_up" "moves_up" DV f fd)(T:Txt mg tk)(R:RT mg K cT cW cU cL)(D_kind_of:Ap P w K mg base 1 "kind_of" ["tree"] (Ba cW cU cL))(D_moves_up:Ap P w K mg base (n+3) "moves_up" ["tree","word","at","steps"] (Gm cW cU cL n)):A5 P w K mg base CX0 (n+4) f fd ["tree","word","at","steps"] (Gm cW cU cL (n+1)):=by
 have S:=Hq;refine F.ok S (λ vs H Q E h=>?_) (λ cdv A outer s H vs Q E hr h=>?_)
 .obtain⟨v,t,u,a,st,sa,rfl,_⟩:=h;rfl
 .obtain⟨v,t,u,a,st,sa,rfl,ho,hs,th,hd,hl,hz,q⟩:=h;refine⟨_,(Ac (A0 (Ak Fz (Ai D_kind_of hr (Aa (pv 0) Ab) (by lia)) (pv 1) (As _)) (Ac (Ao (i:=4) S.nd rfl (Or.inl rfl) (Ai D_moves_up hr (Aa (Ar (pv 0) rfl) (Aa (pv 1) (Aa (pv 2) (Aa (Ax Ck (pv 3) (Av (Aa Ae Ab))) Ab)))) (by lia)))
   (Ad (Aj (Ax CQ (Ax CQ (pv 4) (Ai D_moves_up hr (Aa (Ar (pv 0) rfl) (Aa (pv 1) (Aa (pv 2) (Aa (Ax Ck (pv 3) (Av (Aa Ae Ab))) Ab)))) (by lia))) (AQ (Aa (Av (Aa (pv 3) (Aa (Az (v:=.str "cross") rfl T.g_CROSS ⟨_,rfl⟩) Ab))) Ab)))))) Al)
   (Ac (A0 (Ak Cj (pv 2) (Ar (pv 0) rfl) (As _)) (Ad (Aj (Ax CQ (Ai D_moves_up hr (Aa (Ar (pv 0) rfl) (Aa (pv 1) (Aa (pv 2) (Aa (Ax Ck (pv 3) (Av (Aa Ae Ab))) Ab)))) (by lia)) (AQ (Aa (Av (Aa (pv 3) (Aa (Az (v:=.str "lean") rfl T.g_LEAN ⟨_,rfl⟩) Ab))) Ab))))) Al)
   (Ac (A0 (Ak IG (pv 2) (Ar (pv 0) rfl) (As _)) (Ad (Aj (Ax CQ (Ai D_moves_up hr (Aa (Ar (pv 0) rfl) (Aa (pv 1) (Aa (Ax B4 (pv 2) (Ar (pv 0) rfl)) (Aa (Ax Ck (pv 3) (Av (Aa Ae Ab))) Ab)))) (by lia)) (AQ (Aa (Av (Aa (pv 3) (Aa (Az (v:=.str "back") rfl T.g_BACK ⟨_,rfl⟩) Ab))) Ab))))) Al)
   (Ad (Aj (AQ Ab)))))),?_⟩
  refine⟨_,rfl,v,t,rfl,ho,_,rfl,?_⟩;cases t with
  |whole m=>exact th.elim
  |cut v' k y1 y2 =>
   refine⟨rfl,_,rfl,?_⟩;rw[Obj]at ho;obtain⟨x,dx,w1,w2,rfl,hx,o1,o2⟩:=ho;have hd:max y1.dp y2.dp+1<n+1:=hd;have hl:st.length+(max y1.dp y2.dp+1)<=100:=hl;have hz:y1.sz+y2.sz<=150:=hz;have m1:=CS y1 u a;have m2:=CS y2 u a;have m3:=CS y2 u (a-k);rw[Thr]at th;rw[mup]at q;by_cases e:v'=u
   .subst e;rw[if_pos rfl]at th q;refine A8 (by show(!decide (V.str (wd v')=V.str (wd v')))=false;rw[decide_eq_true rfl];rfl) ?_;refine⟨_,rfl,_,rfl,x,_,dx,_,_,rfl,hx,(R.iC v').cl,R.n_at v',AL _ _ _,_,_,rfl,rfl,_,rfl,Bo (λ c=>?_) (λ c=>?_)⟩
    .have c:=of_decide_eq_true c;rw[if_pos c]at th q;refine⟨_,rfl,x,_,dx,_,_,rfl,hx,(R.iC v').cl,R.n_first v',AA _ _ _,_,rfl,_,rfl,_,rfl,Au 1,λ p hp=>?_⟩;obtain⟨H1,g,s1,e1⟩:=nw (.tup [.int 0]) hp;rw[g];refine Lh (s1 _ _ hs) e1 (by lia) λ sb H2 s2 e2=>?_;have s12:=s1.trans s2;refine⟨w1,y1,v',a,st++[0],sb,rfl,o1.same s12,e2,th,by lia,by rw[List.length_append,List.length_singleton];lia,by lia,λ l H3 s3 nl ml=>?_⟩;refine⟨_,rfl,Au 2,λ p4 h4=>?_⟩;obtain⟨H4,g,s4,e4⟩:=nw (.tup [.ref sa,.str "lean"]) h4;rw[g];refine⟨Au 1,λ p5 h5=>?_⟩;obtain⟨H5,g,s5,e5⟩:=nw (.lst [.ref p4]) h5;rw[g];have s15:=(s12.trans s3).trans (s4.trans s5);have one:MvO H5 p5 [(st,"lean")]:=MvO.one e5 (s5 _ _ e4) (s15 _ _ hs);refine MvO.cat (ml.same (s4.trans s5)) one (by rw[Bv,List.length_singleton];lia) λ l6 H6 s6 n6 m6=>?_;exact q l6 H6 (s15.trans s6) (BM s15 n6) (by rw[Ch,FU,<-CP];exact m6)
    .have c:=of_decide_eq_false c;rw[if_neg c]at th q;refine⟨_,rfl,_,rfl,x,_,dx,_,_,rfl,hx,(R.iC v').cl,R.n_at v',AL _ _ _,_,_,rfl,rfl,_,rfl,Bo (λ c2=>?_) (λ c2=>?_)⟩
     .have c2:=of_decide_eq_true c2;rw[if_pos c2]at th q;refine⟨_,rfl,x,_,dx,_,_,rfl,hx,(R.iC v').cl,R.n_other v',A9 _ _ _,_,rfl,_,rfl,_,rfl,x,_,dx,_,_,rfl,hx,(R.iC v').cl,R.n_at v',AL _ _ _,_,_,rfl,rfl,_,rfl,Au 1,λ p hp=>?_⟩;obtain⟨H1,g,s1,e1⟩:=nw (.tup [.int 1]) hp;rw[g];refine Lh (s1 _ _ hs) e1 (by lia) λ sb H2 s2 e2=>?_;have s12:=s1.trans s2;refine⟨w2,y2,v',a-k,st++[1],sb,rfl,o2.same s12,e2,th,by lia,by rw[List.length_append,List.length_singleton];lia,by lia,λ l H3 s3 nl ml=>?_⟩;refine⟨_,rfl,Au 2,λ p4 h4=>?_⟩;obtain⟨H4,g,s4,e4⟩:=nw (.tup [.ref sa,.str "back"]) h4;rw[g];refine⟨Au 1,λ p5 h5=>?_⟩;obtain⟨H5,g,s5,e5⟩:=nw (.lst [.ref p4]) h5;rw[g];have s15:=(s12.trans s3).trans (s4.trans s5);have one:MvO H5 p5 [(st,"back")]:=MvO.one e5 (s5 _ _ e4) (s15 _ _ hs);refine MvO.cat (ml.same (s4.trans s5)) one (by rw[Bv,List.length_singleton];lia) λ l6 H6 s6 n6 m6=>?_;exact q l6 H6 (s15.trans s6) (BM s15 n6) (by rw[Ch,FU,<-CP];exact m6)
     .have c2:=of_decide_eq_false c2;rw[if_neg c2]at q;exact⟨Au 0,λ l hl=>q l _ (Same.new hl) hl (MvO.nil upd_same)⟩
   .rw[if_neg e]at th q;refine AH (by show(!decide (V.str (wd v')=V.str (wd u)))=true;rw[AI,beq_false_of_ne e];rfl) ?_;refine⟨_,rfl,x,_,dx,_,_,rfl,hx,(R.iC v').cl,R.n_first v',AA _ _ _,_,rfl,_,rfl,_,rfl,Au 1,λ p hp=>?_⟩;obtain⟨H1,g,s1,e1⟩:=nw (.tup [.int 0]) hp;rw[g];refine Lh (s1 _ _ hs) e1 (by lia) λ sb H2 s2 e2=>?_;have s12:=s1.trans s2;refine⟨w1,y1,u,a,st++[0],sb,rfl,o1.same s12,e2,th.1,by lia,by rw[List.length_append,List.length_singleton];lia,by lia,λ l H3 s3 nl ml=>?_⟩;have s13:=s12.trans s3;refine⟨_,rfl,_,rfl,x,_,dx,_,_,rfl,s13 _ _ hx,(R.iC v').cl,R.n_other v',A9 _ _ _,_,rfl,_,rfl,_,rfl,Au 1,λ p' hp'=>?_⟩;obtain⟨H4,g,s4,e4⟩:=nw (.tup [.int 1]) hp';rw[g];have s14:=s13.trans s4;refine Lh (s14 _ _ hs) e4 (by lia) λ sc H5 s5 e5=>?_;have s15:=s14.trans s5;refine⟨w2,y2,u,a,st++[1],sc,rfl,o2.same s15,e5,th.2,by lia,by rw[List.length_append,List.length_singleton];lia,by lia,λ l2 H6 s6 nl2 ml2=>?_⟩;have s16:=s15.trans s6;refine MvO.cat (ml.same ((s4.trans s5).trans s6)) ml2 (by rw[Bv,Bv];lia) λ l7 H7 s7 n7 m7=>?_;refine⟨_,rfl,Au 2,λ p8 h8=>?_⟩;obtain⟨H8,g,s8,e8⟩:=nw (.tup [.ref sa,.str "cross"]) h8;rw[g];refine⟨Au 1,λ p9 h9=>?_⟩;obtain⟨H9,g,s9,e9⟩:=nw (.lst [.ref p8]) h9;rw[g];have s19:=(s16.trans s7).trans (s8.trans s9);have one:MvO H9 p9 [(st,"cross")]:=MvO.one e9 (s9 _ _ e8) (s19 _ _ hs);refine MvO.cat (m7.same (s8.trans s9)) one (by rw[List.length_append,Bv,Bv,List.length_singleton];lia) λ l6 Hf sf nf mf=>?_;exact q l6 Hf (s19.trans sf) (BM s19 nf) (by rw[Ch,Ch,FU,<-CP,<-CP];exact mf)
inductive N8(cW cU cL:Addr)(n:Nat)(vs:LUz)(H:Hp)(Q:VK)(E:XK):Prop
 |mk (v:V) (t:Tr) (u:Bool) (a:Int) (h0:vs=[v,.str (wd u),.int a]) (h1:Obj cW cU cL H t v) (h2:Thr t u a) (h3:t.dp<n) (h4:∀v' H',Same H H'->Obj cW cU cL H' (ahd t u a) v'->Q v' H'):N8 cW cU cL n vs H Q E
def Gs(cW cU cL:Addr)(n:Nat) :Sp:=λ vs H Q E=>N8 cW cU cL n vs H Q E
theorem TU{vs:LUz}{H:Hp}{Q:VK}{E:XK}:¬Gs cW cU cL 0 vs H Q E:=by
 rintro⟨v,t,u,a,_,_,_,h,_⟩;lia
theorem Hy:Am ["tree","word","at","first"] ["tree","word","at"] (Af Ea):=fsc
theorem KL{f:Addr}{fd:FuncData}{n:Nat}(F:Fun K "ahead_of" "ahead_of" Ea f fd)(R:RT mg K cT cW cU cL)(D_kind_of:Ap P w K mg base 1 "kind_of" ["tree"] (Ba cW cU cL))(D_cut_from:Ap P w K mg base 3 "cut_from" ["word","at","first","other"] (Bf cW cU cL))(D_ahead_of:Ap P w K mg base (n+3) "ahead_of" ["tree","word","at"] (Gs cW cU cL n)):A5 P w K mg base CX0 (n+4) f fd ["tree","word","at"] (Gs cW cU cL (n+1)):=by
 have S:=Hy;refine F.ok S (λ vs H Q E h=>?_) (λ cdv A outer s H vs Q E hr h=>?_)
 .obtain⟨v,t,u,a,rfl,_⟩:=h;rfl
 .obtain⟨v,t,u,a,rfl,ho,th,hd,q⟩:=h;refine⟨_,(Ac (A0 (Ak Fz (Ai D_kind_of hr (Aa (pv 0) Ab) (by lia)) (pv 1) (As _)) (Ac (Ao (i:=3) S.nd rfl (Or.inl rfl) (Ai D_ahead_of hr (Aa (Ar (pv 0) rfl) (Aa (pv 1) (Aa (pv 2) Ab))) (by lia)))
   (Ad (Aj (Ai D_cut_from hr (Aa (Ai D_kind_of hr (Aa (pv 0) Ab) (by lia)) (Aa (Ar (pv 0) rfl) (Aa (pv 3) (Aa (Ai D_ahead_of hr (Aa (Ar (pv 0) rfl) (Aa (pv 1) (Aa (pv 2) Ab))) (by lia)) Ab)))) (by lia))))) Al)
   (Ac (A0 (Ak Cj (pv 2) (Ar (pv 0) rfl) (As _)) (Ad (Aj (Ai D_ahead_of hr (Aa (Ar (pv 0) rfl) (Aa (pv 1) (Aa (pv 2) Ab))) (by lia)))) Al)
   (Ac (A0 (Ak IG (pv 2) (Ar (pv 0) rfl) (As _)) (Ad (Aj (Ai D_cut_from hr (Aa (pv 1) (Aa (Ar (pv 0) rfl) (Aa (Ar (pv 0) rfl) (Aa (Ai D_ahead_of hr (Aa (Ar (pv 0) rfl) (Aa (pv 1) (Aa (Ax B4 (pv 2) (Ar (pv 0) rfl)) Ab))) (by lia)) Ab)))) (by lia)))) Al)
   (Ad (Aj (Ar (pv 0) rfl)))))),?_⟩
  refine⟨_,rfl,v,t,rfl,ho,_,rfl,?_⟩;cases t with
  |whole m=>exact th.elim
  |cut v' k y1 y2 =>
   refine⟨rfl,_,rfl,?_⟩;have ho':=ho;rw[Obj]at ho;obtain⟨x,dx,w1,w2,rfl,hx,o1,o2⟩:=ho;have hd:max y1.dp y2.dp+1<n+1:=hd;rw[Thr]at th;rw[ahd]at q;by_cases e:v'=u
   .subst e;rw[if_pos rfl]at th q;refine A8 (by show(!decide (V.str (wd v')=V.str (wd v')))=false;rw[decide_eq_true rfl];rfl) ?_;refine⟨_,rfl,_,rfl,x,_,dx,_,_,rfl,hx,(R.iC v').cl,R.n_at v',AL _ _ _,_,_,rfl,rfl,_,rfl,Bo (λ c=>?_) (λ c=>?_)⟩
    .have c:=of_decide_eq_true c;rw[if_pos c]at th q;exact⟨_,rfl,x,_,dx,_,_,rfl,hx,(R.iC v').cl,R.n_first v',AA _ _ _,_,rfl,_,rfl,w1,y1,v',a,rfl,o1,th,by lia,q⟩
    .have c:=of_decide_eq_false c;rw[if_neg c]at th q;refine⟨_,rfl,_,rfl,x,_,dx,_,_,rfl,hx,(R.iC v').cl,R.n_at v',AL _ _ _,_,_,rfl,rfl,_,rfl,Bo (λ c2=>?_) (λ c2=>?_)⟩
     .have c2:=of_decide_eq_true c2;rw[if_pos c2]at th q;refine⟨_,rfl,_,rfl,x,_,dx,_,_,rfl,hx,(R.iC v').cl,R.n_at v',AL _ _ _,_,rfl,x,_,dx,_,_,rfl,hx,(R.iC v').cl,R.n_first v',AA _ _ _,_,rfl,x,_,dx,_,_,rfl,hx,(R.iC v').cl,R.n_other v',A9 _ _ _,_,rfl,_,rfl,_,rfl,x,_,dx,_,_,rfl,hx,(R.iC v').cl,R.n_at v',AL _ _ _,_,_,rfl,rfl,w2,y2,v',a-k,rfl,o2,th,by lia,λ v1 H1 s1 b1=>?_⟩;exact⟨v',k,w1,v1,y1,_,rfl,o1.same s1,b1,λ v2 H2 s2 b2=>q _ _ (s1.trans s2) b2⟩
     .have c2:=of_decide_eq_false c2;rw[if_neg c2]at q;exact⟨_,rfl,x,_,dx,_,_,rfl,hx,(R.iC v').cl,R.n_first v',AA _ _ _,q _ _ (Same.refl H) o1⟩
   .rw[if_neg e]at th q;refine AH (by show(!decide (V.str (wd v')=V.str (wd u)))=true;rw[AI,beq_false_of_ne e];rfl) ?_;refine⟨_,rfl,x,_,dx,_,_,rfl,hx,(R.iC v').cl,R.n_first v',AA _ _ _,_,rfl,_,rfl,w1,y1,u,a,rfl,o1,th.1,by lia,λ v1 H1 s1 b1=>?_⟩;have hx1:=s1 _ _ hx;refine⟨_,rfl,_,_,rfl,ho'.same s1,_,rfl,x,_,dx,_,_,rfl,hx1,(R.iC v').cl,R.n_at v',AL _ _ _,_,rfl,_,rfl,x,_,dx,_,_,rfl,hx1,(R.iC v').cl,R.n_other v',A9 _ _ _,_,rfl,_,rfl,w2,y2,u,a,rfl,o2.same s1,th.2,by lia,λ v2 H2 s2 b2=>?_⟩;exact⟨v',k,v1,v2,_,_,rfl,b1.same s2,b2,λ v3 H3 s3 b3=>q _ _ ((s1.trans s2).trans s3) b3⟩
inductive N7(cW cU cL:Addr)(n:Nat)(vs:LUz)(H:Hp)(Q:VK)(E:XK):Prop
 |mk (v:V) (t:Tr) (u:Bool) (a:Int) (h0:vs=[v,.str (wd u),.int a]) (h1:Obj cW cU cL H t v) (h2:Thr t u a) (h3:t.dp<n) (h4:∀v' H',Same H H'->Obj cW cU cL H' (bhd t u a) v'->Q v' H'):N7 cW cU cL n vs H Q E
def Gr(cW cU cL:Addr)(n:Nat) :Sp:=λ vs H Q E=>N7 cW cU cL n vs H Q E
theorem TR{vs:LUz}{H:Hp}{Q:VK}{E:XK}:¬Gr cW cU cL 0 vs H Q E:=by
 rintro⟨v,t,u,a,_,_,_,h,_⟩;lia
theorem FC:Am ["tree","word","at","first"] ["tree","word","at"] (Af Dl):=fsc
theorem JP{f:Addr}{fd:FuncData}{n:Nat}(F:Fun K "behind_of" "behind_of" Dl f fd)(R:RT mg K cT cW cU cL)(D_kind_of:Ap P w K mg base 1 "kind_of" ["tree"] (Ba cW cU cL))(D_cut_from:Ap P w K mg base 3 "cut_from" ["word","at","first","other"] (Bf cW cU cL))(D_behind_of:Ap P w K mg base (n+3) "behind_of" ["tree","word","at"] (Gr cW cU cL n)):A5 P w K mg base CX0 (n+4) f fd ["tree","word","at"] (Gr cW cU cL (n+1)):=by
 have S:=FC;refine F.ok S (λ vs H Q E h=>?_) (λ cdv A outer s H vs Q E hr h=>?_)
 .obtain⟨v,t,u,a,rfl,_⟩:=h;rfl
 .obtain⟨v,t,u,a,rfl,ho,th,hd,q⟩:=h;refine⟨_,(Ac (A0 (Ak Fz (Ai D_kind_of hr (Aa (pv 0) Ab) (by lia)) (pv 1) (As _)) (Ac (Ao (i:=3) S.nd rfl (Or.inl rfl) (Ai D_behind_of hr (Aa (Ar (pv 0) rfl) (Aa (pv 1) (Aa (pv 2) Ab))) (by lia)))
   (Ad (Aj (Ai D_cut_from hr (Aa (Ai D_kind_of hr (Aa (pv 0) Ab) (by lia)) (Aa (Ar (pv 0) rfl) (Aa (pv 3) (Aa (Ai D_behind_of hr (Aa (Ar (pv 0) rfl) (Aa (pv 1) (Aa (pv 2) Ab))) (by lia)) Ab)))) (by lia))))) Al)
   (Ac (A0 (Ak Cj (pv 2) (Ar (pv 0) rfl) (As _)) (Ad (Aj (Ai D_cut_from hr (Aa (pv 1) (Aa (Ax B4 (Ar (pv 0) rfl) (pv 2)) (Aa (Ai D_behind_of hr (Aa (Ar (pv 0) rfl) (Aa (pv 1) (Aa (pv 2) Ab))) (by lia)) (Aa (Ar (pv 0) rfl) Ab)))) (by lia)))) Al)
   (Ac (A0 (Ak IG (pv 2) (Ar (pv 0) rfl) (As _)) (Ad (Aj (Ai D_behind_of hr (Aa (Ar (pv 0) rfl) (Aa (pv 1) (Aa (Ax B4 (pv 2) (Ar (pv 0) rfl)) Ab))) (by lia)))) Al)
   (Ad (Aj (Ar (pv 0) rfl)))))),?_⟩
  refine⟨_,rfl,v,t,rfl,ho,_,rfl,?_⟩;cases t with
  |whole m=>exact th.elim
  |cut v' k y1 y2 =>
   refine⟨rfl,_,rfl,?_⟩;have ho':=ho;rw[Obj]at ho;obtain⟨x,dx,w1,w2,rfl,hx,o1,o2⟩:=ho;have hd:max y1.dp y2.dp+1<n+1:=hd;rw[Thr]at th;rw[bhd]at q;by_cases e:v'=u
   .subst e;rw[if_pos rfl]at th q;refine A8 (by show(!decide (V.str (wd v')=V.str (wd v')))=false;rw[decide_eq_true rfl];rfl) ?_;refine⟨_,rfl,_,rfl,x,_,dx,_,_,rfl,hx,(R.iC v').cl,R.n_at v',AL _ _ _,_,_,rfl,rfl,_,rfl,Bo (λ c=>?_) (λ c=>?_)⟩
    .have c:=of_decide_eq_true c;rw[if_pos c]at th q;refine⟨_,rfl,_,rfl,x,_,dx,_,_,rfl,hx,(R.iC v').cl,R.n_at v',AL _ _ _,_,rfl,_,_,rfl,rfl,_,rfl,x,_,dx,_,_,rfl,hx,(R.iC v').cl,R.n_first v',AA _ _ _,_,rfl,_,rfl,w1,y1,v',a,rfl,o1,th,by lia,λ v1 H1 s1 b1=>?_⟩;refine⟨_,rfl,x,_,dx,_,_,rfl,s1 _ _ hx,(R.iC v').cl,R.n_other v',A9 _ _ _,v',k-a,v1,w2,_,y2,rfl,b1,o2.same s1,λ v2 H2 s2 b2=>q _ _ (s1.trans s2) b2⟩
    .have c:=of_decide_eq_false c;rw[if_neg c]at th q;refine⟨_,rfl,_,rfl,x,_,dx,_,_,rfl,hx,(R.iC v').cl,R.n_at v',AL _ _ _,_,_,rfl,rfl,_,rfl,Bo (λ c2=>?_) (λ c2=>?_)⟩
     .have c2:=of_decide_eq_true c2;rw[if_pos c2]at th q;exact⟨_,rfl,x,_,dx,_,_,rfl,hx,(R.iC v').cl,R.n_other v',A9 _ _ _,_,rfl,_,rfl,_,rfl,x,_,dx,_,_,rfl,hx,(R.iC v').cl,R.n_at v',AL _ _ _,_,_,rfl,rfl,w2,y2,v',a-k,rfl,o2,th,by lia,q⟩
     .have c2:=of_decide_eq_false c2;rw[if_neg c2]at q;exact⟨_,rfl,x,_,dx,_,_,rfl,hx,(R.iC v').cl,R.n_other v',A9 _ _ _,q _ _ (Same.refl H) o2⟩
   .rw[if_neg e]at th q;refine AH (by show(!decide (V.str (wd v')=V.str (wd u)))=true;rw[AI,beq_false_of_ne e];rfl) ?_;refine⟨_,rfl,x,_,dx,_,_,rfl,hx,(R.iC v').cl,R.n_first v',AA _ _ _,_,rfl,_,rfl,w1,y1,u,a,rfl,o1,th.1,by lia,λ v1 H1 s1 b1=>?_⟩;have hx1:=s1 _ _ hx;refine⟨_,rfl,_,_,rfl,ho'.same s1,_,rfl,x,_,dx,_,_,rfl,hx1,(R.iC v').cl,R.n_at v',AL _ _ _,_,rfl,_,rfl,x,_,dx,_,_,rfl,hx1,(R.iC v').cl,R.n_other v',A9 _ _ _,_,rfl,_,rfl,w2,y2,u,a,rfl,o2.same s1,th.2,by lia,λ v2 H2 s2 b2=>?_⟩;exact⟨v',k,v1,v2,_,_,rfl,b1.same s2,b2,λ v3 H3 s3 b3=>q _ _ ((s1.trans s2).trans s3) b3⟩
theorem QD{n m:Nat}(h:n<=m*(m-1))(hm:m<=150):n<=30000:=by
 have:m*(m-1)<=150*150:=Nat.mul_le_mul hm (by lia);lia
inductive N1(cW cU cL:Addr)(n:Nat)(vs:LUz)(H:Hp)(Q:VK)(E:XK):Prop
 |mk (v v2:V) (t s:Tr) (p:Rk) (st:List Int) (sa:Addr) (h0:vs=[v,v2,.ref sa]) (h1:Obj cW cU cL H t v) (h2:Obj cW cU cL H s v2) (h3:H sa=some (.tup (st.map V.int))) (h4:p.ok) (h5:AO p t) (h6:AO p s) (h7:(At t p).Perm (At s p)) (h8:s.dp<n) (h9:t.dp<24) (h10:st.length+s.dp<=60) (h11:t.sz<=150) (h12:∀l H',Same H H'->H l=none->MvO H' l (pfx st (mto t s))->Q (.ref l) H'):N1 cW cU cL n vs H Q E
def Gn(cW cU cL:Addr)(n:Nat) :Sp:=λ vs H Q E=>N1 cW cU cL n vs H Q E
theorem TJ{vs:LUz}{H:Hp}{Q:VK}{E:XK}:¬Gn cW cU cL 0 vs H Q E:=by
 rintro⟨v,v2,t,s,p,st,sa,_,_,_,_,_,_,_,_,h,_⟩;lia
theorem Hr:Am ["tree","other","steps","word","at","row"] ["tree","other","steps"] (Af DW):=fsc
theorem K8{f:Addr}{fd:FuncData}{n:Nat}(F:Fun K "moves_to" "moves_to" DW f fd)(T:Txt mg tk)(R:RT mg K cT cW cU cL)(D_kind_of:Ap P w K mg base 1 "kind_of" ["tree"] (Ba cW cU cL))(D_moves_up:Ap P w K mg base 27 "moves_up" ["tree","word","at","steps"] (Gm cW cU cL 24))
  (D_ahead_of:Ap P w K mg base 27 "ahead_of" ["tree","word","at"] (Gs cW cU cL 24)) (D_behind_of:Ap P w K mg base 27 "behind_of" ["tree","word","at"] (Gr cW cU cL 24)) (D_moves_to:Ap P w K mg base (n+28) "moves_to" ["tree","other","steps"] (Gn cW cU cL n)):A5 P w K mg base CX0 (n+29) f fd ["tree","other","steps"] (Gn cW cU cL (n+1)):=by
 have S:=Hr;refine F.ok S (λ vs H Q E h=>?_) (λ cdv A outer s H vs Q E hr h=>?_)
 .obtain⟨v,v2,t,s,p,st,sa,rfl,_⟩:=h;rfl
 .obtain⟨v,v2,t,ot,p,st,sa,rfl,h1,h2,hs,pok,f1,f2,pm,hd,hdt,hl,hz,q⟩:=h;refine⟨_,(Ac (Ao (i:=3) S.nd rfl (Or.inl rfl) (Ai D_kind_of hr (Aa (pv 1) Ab) (by lia)))
   (Ac (A0 (Ak AN (pv 3) (Az (v:=.str "whole") rfl T.g_WHOLE ⟨_,rfl⟩) (As _)) (Ad (Aj (AQ Ab))) Al)
   (Ac (Ao (i:=4) S.nd rfl (Or.inl rfl) (Ar (pv 1) rfl))
   (Ac (Ao (i:=5) S.nd rfl (Or.inl rfl) (Ai D_moves_up hr (Aa (pv 0) (Aa (pv 3) (Aa (pv 4) (Aa (pv 2) Ab)))) (by lia)))
   (Ac (Ao (i:=5) S.nd rfl (Or.inl rfl) (Ax CQ (pv 5) (Ai D_moves_to hr (Aa (Ai D_ahead_of hr (Aa (pv 0) (Aa (pv 3) (Aa (pv 4) Ab))) (by lia)) (Aa (Ar (pv 1) rfl) (Aa (Ax Ck (pv 2) (Av (Aa Ae Ab))) Ab))) (by lia))))
   (Ad (Aj (Ax CQ (pv 5) (Ai D_moves_to hr (Aa (Ai D_behind_of hr (Aa (pv 0) (Aa (pv 3) (Aa (pv 4) Ab))) (by lia)) (Aa (Ar (pv 1) rfl) (Aa (Ax Ck (pv 2) (Av (Aa Ae Ab))) Ab))) (by lia)))))))))),?_⟩
  refine⟨_,rfl,v2,ot,rfl,h2,?_⟩;cases ot with
  |whole m =>
   rw[mto]at q;exact⟨_,rfl,rfl,_,rfl,AH (decide_eq_true rfl) ⟨Au 0,λ l hl=>q l _ (Same.new hl) hl (MvO.nil upd_same)⟩⟩
  |cut u k z1 z2 =>
   obtain⟨_,lenT⟩:=E9 pok f1 f2 pm;have szE:=pm.length_eq;rw[Ay,Ay]at szE;rw[<-szE]at lenT;have cap:=QD lenT hz;obtain⟨th,ok1,ok2,fa,fb,fz1,fz2,p1,p2⟩:=MZ pok f1 f2 pm;rw[mto]at q;rw[mto,List.length_append,List.length_append,Bg,Bg]at cap;rw[Obj]at h2;obtain⟨x,dx,w1,w2,rfl,hx,o1,o2⟩:=h2;have hd:max z1.dp z2.dp+1<n+1:=hd;have hl:st.length+(max z1.dp z2.dp+1)<=60:=hl;have szE:t.sz=z1.sz+z2.sz:=szE;obtain⟨da,db⟩:=Hk t u k;have za:=p1.length_eq;rw[Ay,Ay]at za;have zb:=p2.length_eq;rw[Ay,Ay]at zb;refine⟨_,rfl,rfl,_,rfl,A8 (AZ u) ?_⟩;refine⟨_,rfl,x,_,dx,_,_,rfl,hx,(R.iC u).cl,R.n_at u,AL _ _ _,?_⟩;refine⟨_,rfl,_,rfl,_,rfl,_,rfl,v,t,u,k,st,sa,rfl,h1,hs,th,hdt,by lia,hz,λ l1 H1 s1 n1 m1=>?_⟩;refine⟨_,rfl,_,rfl,_,rfl,_,rfl,v,t,u,k,rfl,h1.same s1,th,hdt,λ va H2 s2 oa=>?_⟩;have s12:=s1.trans s2;refine⟨_,rfl,x,_,dx,_,_,rfl,s12 _ _ hx,(R.iC u).cl,R.n_first u,AA _ _ _,_,rfl,Au 1,λ p3 h3=>?_⟩;obtain⟨H3,g,s3,e3⟩:=nw (.tup [.int 0]) h3;rw[g];have s13:=s12.trans s3;refine Lh (s13 _ _ hs) e3 (by lia) λ sb H4 s4 e4=>?_;have s14:=s13.trans s4;refine⟨va,w1,ahd t u k,z1,p.fst u k,st++[0],sb,rfl,(oa.same s3).same s4,o1.same s14,e4,ok1,fa,fz1,p1,by lia,by lia,by rw[List.length_append,List.length_singleton];lia,by lia,λ l2 H5 s5 n2 m2=>?_⟩;have s15:=s14.trans s5;rw[CP]at m2;refine MvO.cat (m1.same (((s2.trans s3).trans s4).trans s5)) m2 (by rw[Bv,Bv,Bg];lia) λ l6 H6 s6 n6 m6=>?_;rw[<-Ch]at m6;have s16:=s15.trans s6;refine⟨_,rfl,_,rfl,_,rfl,_,rfl,v,t,u,k,rfl,h1.same s16,th,hdt,λ vb H7 s7 ob=>?_⟩;have s17:=s16.trans s7;refine⟨_,rfl,x,_,dx,_,_,rfl,s17 _ _ hx,(R.iC u).cl,R.n_other u,A9 _ _ _,_,rfl,Au 1,λ p8 h8=>?_⟩;obtain⟨H8,g,s8,e8⟩:=nw (.tup [.int 1]) h8;rw[g];have s18:=s17.trans s8;refine Lh (s18 _ _ hs) e8 (by lia) λ sc H9 s9 e9=>?_;have s19:=s18.trans s9;refine⟨vb,w2,bhd t u k,z2,p.oth u k,st++[1],sc,rfl,(ob.same s8).same s9,o2.same s19,e9,ok2,fb,fz2,p2,by lia,by lia,by rw[List.length_append,List.length_singleton];lia,by lia,λ l10 H10 s10 n10 m10=>?_⟩;rw[CP]at m10;refine MvO.cat (m6.same (((s7.trans s8).trans s9).trans s10)) m10 (by rw[Bv,Bv,List.length_append,Bg,Bg];lia) λ lf Hf sf nf mf=>?_;rw[<-Ch]at mf;exact q lf Hf ((s19.trans s10).trans sf) (BM (s19.trans s10) nf) mf
theorem P7{x:V}{r:LUz}:atI (x::r) 0=some x:=EF (xs:=x::r) (j:=0) (v:=x) rfl
theorem eqI(i j:Int):eqV (.int i) (.int j)=decide (i=j):=by
 by_cases q:i=j
 .subst q;simp[eqV]
 .simp[eqV,q]
theorem TL(i:Int):inV (V.int i) [V.int 0,V.int 1]=(decide (0=i)||decide (1=i)):=by
 show(eqV _ _||(eqV _ _||false))=_;rw[eqI,eqI,Bool.or_false]
theorem in2(x y z:Str):inV (V.str x) [V.str y,V.str z]=(decide (V.str y=V.str x)||decide (V.str z=V.str x)):=by
 show(eqV _ _||(eqV _ _||false))=_;rw[LG,LG,Bool.or_false]
theorem ST{x y:V}{r:LUz}(h:r=[]\/∃v w,r=[v,w]):Fk (x::y::r) none (some 2)=[x,y]:=by
 rcases h with rfl|⟨v,w,rfl⟩<;>rfl
def hdW:Tr->Str
 |.whole _=>"whole"
 |.cut u _ _ _=>wd u
def hdN:Tr->V
 |.whole m=>AB m
 |.cut _ k _ _=>.int k
theorem FR{H:Hp}{t:Tr}{v:V}(h:Told H t v):∃a r,v=.ref a/\H a=some (.tup (.str (hdW t)::hdN t::r))/\(r=[]\/∃x y,r=[x,y]):=by
 cases t with
 |whole m=>rw[Told]at h;obtain⟨a,rfl,h⟩:=h;exact⟨a,[],rfl,h,.inl rfl⟩
 |cut u k x y=>rw[Told]at h;obtain⟨a,vx,vy,rfl,h,_⟩:=h;exact⟨a,[vx,vy],rfl,h,.inr ⟨_,_,rfl⟩⟩
def hdD(t:Tr):D:=.tup (.cons (.at (.str (hdW t))) (.cons (.at (hdN t)) .nil))
theorem Pg{K:Frag}{H:Hp}{t:Tr}{a:Addr}(h:H a=some (.tup [.str (hdW t),hdN t])):DIs K H (hdD t) (.ref a):=by
 have fl:B9 (hdN t)=true:=by
  cases t with
  |whole m=>exact DI m
  |cut _ _ _ _=>rfl
 rw[hdD,DIs];refine⟨a,_,rfl,SqT.of h,?_⟩;rw[DIss];refine⟨_,_,rfl,by rw[DIs];exact⟨rfl,rfl⟩,?_⟩;rw[DIss];exact⟨_,_,rfl,by rw[DIs];exact⟨rfl,fl⟩,by rw[DIss]⟩
theorem QL(t:Tr):dep (hdD t)<=50:=by rw[hdD,dep,Be,Be,Be,dep,dep];lia
theorem Sd{v:Bool}{j:Int}{a b:Tr}:∀{s:Tr},deq (hdD (.cut v j a b)) (hdD s)=match s with
  |.whole _=>false
  |.cut v' j' _ _=>decide (v=v'/\j=j')
 |.whole m=>by
  rw[hdD,hdD,deq,Bd,deq];show(eqV (.str (wd v)) (.str "whole")&&_)=false;rw[LG,AZ,Bool.false_and]
 |.cut v' j' c d=>by
  rw[hdD,hdD,deq,Bd,Bd,Bd,deq,deq];show(eqV (.str (wd v)) (.str (wd v'))&&(eqV (.int j) (.int j')&&true))=decide (v=v'/\j=j');rw[LG,AI,eqI,Bool.and_true,Bool.decide_and];cases v<;>cases v'<;>rfl
theorem Mb{u:Bool}{t:Tr}:(!inV (V.str (hdW t)) [V.str "whole",V.str (wd u)])=match t with
  |.whole _=>false
  |.cut v _ _ _=>!(v==u):=by
 rw[in2];cases t with
 |whole m =>
  show(!(decide (V.str "whole"=V.str "whole")||_))=false;rw[decide_eq_true rfl];rfl
 |cut v k x y =>
  show(!(decide (V.str "whole"=V.str (wd v))||decide (V.str (wd u)=V.str (wd v))))=!(v==u);cases v<;>cases u<;>decide +kernel
def Rg(cW cU cL:Addr)(H:Hp)(o:Option Tr)(v:V):Prop:=match o with
 |none=>v=.non
 |some t=>Obj cW cU cL H t v
theorem Kq(u:Bool):decide (V.str "whole"=V.str (wd u))=false:=decide_eq_false λ z=>by have:=AZ u;rw[decide_eq_true z.symm]at this;cases this
inductive Lx(cW cU cL:Addr)(vs:LUz)(H:Hp)(Q:VK)(E:XK):Prop
 |mk (v:V) (u:Bool) (k:Int) (x y:Tr) (h0:vs=[v]) (h1:Obj cW cU cL H (.cut u k x y) v) (h2:∀v' H',Same H H'->Rg cW cU cL H' (F3 u k x y) v'->Q v' H'):Lx cW cU cL vs H Q E
def Jy(cW cU cL:Addr) :Sp:=λ vs H Q E=>Lx cW cU cL vs H Q E
theorem PF:Am ["cut","kind","below"] ["cut"] (Af Gv):=fsc
theorem NM{f:Addr}{fd:FuncData}(F:Fun K "leaned" "leaned" Gv f fd)(R:RT mg K cT cW cU cL)(D_kind_of:Ap P w K mg base 1 "kind_of" ["tree"] (Ba cW cU cL))(D_cut_from:Ap P w K mg base 3 "cut_from" ["word","at","first","other"] (Bf cW cU cL)):A5 P w K mg base CX0 4 f fd ["cut"] (Jy cW cU cL):=by
 have S:=PF;refine F.ok S (λ vs H Q E h=>?_) (λ cdv A outer s H vs Q E hr h=>?_)
 .obtain⟨v,u,k,x,y,rfl,_⟩:=h;rfl
 .obtain⟨v,u,k,x,y,rfl,ho,q⟩:=h;refine⟨_,(Ac (Ao (i:=1) S.nd rfl (Or.inl rfl) (Ai D_kind_of hr (Aa (pv 0) Ab)))
   (Ac (Ao (i:=2) S.nd rfl (Or.inl rfl) (Ar (pv 0) rfl))
   (Ac (A0 (Ak Fz (Ai D_kind_of hr (Aa (pv 2) Ab)) (pv 1) (As _)) (Ad (Aj Br)) Al)
   (Ad (Aj (Ai D_cut_from hr (Aa (pv 1) (Aa (Ar (pv 2) rfl) (Aa (Ar (pv 2) rfl) (Aa (Ai D_cut_from hr (Aa (pv 1) (Aa (Ax B4 (Ar (pv 0) rfl) (Ar (pv 2) rfl)) (Aa (Ar (pv 2) rfl) (Aa (Ar (pv 0) rfl) Ab))))) Ab)))))))))),?_⟩
  refine⟨_,rfl,v,_,rfl,ho,?_⟩;rw[Obj]at ho;obtain⟨c,dx,w1,w2,rfl,hx,o1,o2⟩:=ho;refine⟨_,rfl,c,_,dx,_,_,rfl,hx,(R.iC u).cl,R.n_first u,AA _ _ _,?_⟩;refine⟨_,rfl,w1,x,rfl,o1,_,rfl,?_⟩;cases x with
  |whole m=>exact⟨rfl,_,rfl,AH (by show(!decide (V.str "whole"=V.str (wd u)))=true;rw[Kq];rfl) (q .non H (Same.refl H) rfl)⟩
  |cut v' j xa xb =>
   refine⟨rfl,_,rfl,?_⟩;by_cases e:v'=u
   .subst e;refine A8 (by show(!decide (V.str (wd v')=V.str (wd v')))=false;rw[decide_eq_true rfl];rfl) ?_;rw[Obj]at o1;obtain⟨c1,dx1,z1,z2,rfl,hx1,o3,o4⟩:=o1;refine⟨_,rfl,_,rfl,c1,_,dx1,_,_,rfl,hx1,(R.iC v').cl,R.n_at v',AL _ _ _,_,rfl,c1,_,dx1,_,_,rfl,hx1,(R.iC v').cl,R.n_first v',AA _ _ _,?_⟩;refine⟨_,rfl,_,rfl,c,_,dx,_,_,rfl,hx,(R.iC v').cl,R.n_at v',AL _ _ _,_,rfl,c1,_,dx1,_,_,rfl,hx1,(R.iC v').cl,R.n_at v',AL _ _ _,_,_,rfl,rfl,_,rfl,c1,_,dx1,_,_,rfl,hx1,(R.iC v').cl,R.n_other v',A9 _ _ _,_,rfl,c,_,dx,_,_,rfl,hx,(R.iC v').cl,R.n_other v',A9 _ _ _,v',k-j,z2,w2,xb,y,rfl,o4,o2,λ v1 H1 s1 b1=>?_⟩;exact⟨v',j,z1,v1,xa,_,rfl,o3.same s1,b1,λ v2 H2 s2 b2=>q v2 H2 (s1.trans s2) (by rw[F3,if_pos rfl];exact b2)⟩
   .exact AH (by show(!decide (V.str (wd v')=V.str (wd u)))=true;rw[AI,beq_false_of_ne e];rfl) (q .non H (Same.refl H) (by rw[F3,if_neg e];rfl))
inductive L6(cW cU cL:Addr)(vs:LUz)(H:Hp)(Q:VK)(E:XK):Prop
 |mk (v:V) (u:Bool) (k:Int) (x y:Tr) (h0:vs=[v]) (h1:Obj cW cU cL H (.cut u k x y) v) (h2:∀v' H',Same H H'->Rg cW cU cL H' (F8 u k x y) v'->Q v' H'):L6 cW cU cL vs H Q E
def J1(cW cU cL:Addr) :Sp:=λ vs H Q E=>L6 cW cU cL vs H Q E
theorem Il:Am ["cut","kind","below"] ["cut"] (Af Cp):=fsc
theorem GH{f:Addr}{fd:FuncData}(F:Fun K "leaned_back" "leaned_back" Cp f fd)(R:RT mg K cT cW cU cL)(D_kind_of:Ap P w K mg base 1 "kind_of" ["tree"] (Ba cW cU cL))(D_cut_from:Ap P w K mg base 3 "cut_from" ["word","at","first","other"] (Bf cW cU cL)):A5 P w K mg base CX0 4 f fd ["cut"] (J1 cW cU cL):=by
 have S:=Il;refine F.ok S (λ vs H Q E h=>?_) (λ cdv A outer s H vs Q E hr h=>?_)
 .obtain⟨v,u,k,x,y,rfl,_⟩:=h;rfl
 .obtain⟨v,u,k,x,y,rfl,ho,q⟩:=h;refine⟨_,(Ac (Ao (i:=1) S.nd rfl (Or.inl rfl) (Ai D_kind_of hr (Aa (pv 0) Ab)))
   (Ac (Ao (i:=2) S.nd rfl (Or.inl rfl) (Ar (pv 0) rfl))
   (Ac (A0 (Ak Fz (Ai D_kind_of hr (Aa (pv 2) Ab)) (pv 1) (As _)) (Ad (Aj Br)) Al)
   (Ad (Aj (Ai D_cut_from hr (Aa (pv 1) (Aa (Ax AR (Ar (pv 0) rfl) (Ar (pv 2) rfl)) (Aa (Ai D_cut_from hr (Aa (pv 1) (Aa (Ar (pv 0) rfl) (Aa (Ar (pv 0) rfl) (Aa (Ar (pv 2) rfl) Ab))))) (Aa (Ar (pv 2) rfl) Ab)))))))))),?_⟩
  refine⟨_,rfl,v,_,rfl,ho,?_⟩;rw[Obj]at ho;obtain⟨c,dx,w1,w2,rfl,hx,o1,o2⟩:=ho;refine⟨_,rfl,c,_,dx,_,_,rfl,hx,(R.iC u).cl,R.n_other u,A9 _ _ _,?_⟩;refine⟨_,rfl,w2,y,rfl,o2,_,rfl,?_⟩;cases y with
  |whole m=>exact⟨rfl,_,rfl,AH (by show(!decide (V.str "whole"=V.str (wd u)))=true;rw[Kq];rfl) (q .non H (Same.refl H) rfl)⟩
  |cut v' j ya yb =>
   refine⟨rfl,_,rfl,?_⟩;by_cases e:v'=u
   .subst e;refine A8 (by show(!decide (V.str (wd v')=V.str (wd v')))=false;rw[decide_eq_true rfl];rfl) ?_;rw[Obj]at o2;obtain⟨c1,dx1,z1,z2,rfl,hx1,o3,o4⟩:=o2;refine⟨_,rfl,_,rfl,c,_,dx,_,_,rfl,hx,(R.iC v').cl,R.n_at v',AL _ _ _,_,rfl,c1,_,dx1,_,_,rfl,hx1,(R.iC v').cl,R.n_at v',AL _ _ _,_,_,rfl,rfl,?_⟩;refine⟨_,rfl,_,rfl,c,_,dx,_,_,rfl,hx,(R.iC v').cl,R.n_at v',AL _ _ _,_,rfl,c,_,dx,_,_,rfl,hx,(R.iC v').cl,R.n_first v',AA _ _ _,_,rfl,c1,_,dx1,_,_,rfl,hx1,(R.iC v').cl,R.n_first v',AA _ _ _,v',k,w1,z1,x,ya,rfl,o1,o3,λ v1 H1 s1 b1=>?_⟩;refine⟨_,rfl,c1,_,dx1,_,_,rfl,s1 _ _ hx1,(R.iC v').cl,R.n_other v',A9 _ _ _,v',k+j,v1,z2,_,yb,rfl,b1,o4.same s1,λ v2 H2 s2 b2=>q v2 H2 (s1.trans s2) (by rw[F8,if_pos rfl];exact b2)⟩
   .exact AH (by show(!decide (V.str (wd v')=V.str (wd u)))=true;rw[AI,beq_false_of_ne e];rfl) (q .non H (Same.refl H) (by rw[F8,if_neg e];rfl))
inductive Ji(vs:LUz)(H:Hp)(Q:VK)(E:XK):Prop
 |mk (u:Bool) (h0:vs=[.str (wd u)]) (h1:Q (.str (wd (!u))) H):Ji vs H Q E
def Kv:Sp:=λ vs H Q E=>Ji vs H Q E
theorem Ii:Am ["word"] ["word"] (Af Cm):=fsc
theorem GD{f:Addr}{fd:FuncData}(F:Fun K "turned_word" "turned_word" Cm f fd)(T:Txt mg tk):A5 P w K mg base CX0 1 f fd ["word"] Kv:=by
 have S:=Ii;refine F.ok S (λ vs H Q E h=>?_) (λ cdv A outer s H vs Q E hr h=>?_)
 .obtain⟨u,rfl,_⟩:=h;rfl
 .obtain⟨u,rfl,q⟩:=h;refine⟨_,(Ac (A0 (Ak AN (pv 0) (Az (v:=.str "whole") rfl T.g_WHOLE ⟨_,rfl⟩) (As _)) (Ad (Aj (Az (v:=.str "whole") rfl T.g_WHOLE ⟨_,rfl⟩))) Al)
   (Ad (Aj (Dt (Ak AN (pv 0) (Az (v:=.str "upright") rfl T.g_UPRIGHT ⟨_,rfl⟩) (As _)) (Az (v:=.str "level") rfl T.g_LEVEL ⟨_,rfl⟩) (Az (v:=.str "upright") rfl T.g_UPRIGHT ⟨_,rfl⟩))))),?_⟩
  refine⟨_,rfl,rfl,_,rfl,A8 (AZ u) ?_⟩;cases u with
  |true=>exact⟨_,rfl,rfl,_,rfl,AH (AI true true) q⟩
  |false=>exact⟨_,rfl,rfl,_,rfl,A8 (AI false true) q⟩
inductive Jq(cW cU cL:Addr)(vs:LUz)(H:Hp)(Q:VK)(E:XK):Prop
 |mk (v:V) (u:Bool) (k:Int) (x y:Tr) (h0:vs=[v]) (h1:Obj cW cU cL H (.cut u k x y) v) (h2:∀v' H',Same H H'->Rg cW cU cL H' (Ce u k x y) v'->Q v' H'):Jq cW cU cL vs H Q E
def Gq(cW cU cL:Addr) :Sp:=λ vs H Q E=>Jq cW cU cL vs H Q E
theorem Oq:Am ["cut","kind","across","one","two","ahead","behind"] ["cut"] (Af EU):=fsc
theorem LZ{f:Addr}{fd:FuncData}(F:Fun K "crossed" "crossed" EU f fd)(R:RT mg K cT cW cU cL)(D_kind_of:Ap P w K mg base 1 "kind_of" ["tree"] (Ba cW cU cL))(D_turned_word:Ap P w K mg base 1 "turned_word" ["word"] Kv)(D_cut_from:Ap P w K mg base 3 "cut_from" ["word","at","first","other"] (Bf cW cU cL)):A5 P w K mg base CX0 4 f fd ["cut"] (Gq cW cU cL):=by
 have S:=Oq;refine F.ok S (λ vs H Q E h=>?_) (λ cdv A outer s H vs Q E hr h=>?_)
 .obtain⟨v,u,k,x,y,rfl,_⟩:=h;rfl
 .obtain⟨v,u,k,x,y,rfl,ho,q⟩:=h;refine⟨_,(Ac (Ao (i:=1) S.nd rfl (Or.inl rfl) (Ai D_kind_of hr (Aa (pv 0) Ab)))
   (Ac (Ao (i:=2) S.nd rfl (Or.inl rfl) (Ai D_turned_word hr (Aa (pv 1) Ab)))
   (Ac (Ao (i:=3) S.nd rfl (Or.inl rfl) (Ar (pv 0) rfl))
   (Ac (Ao (i:=4) S.nd rfl (Or.inl rfl) (Ar (pv 0) rfl))
   (Ac (A0 (PW.pt (Fw (Ak Fz (Ai D_kind_of hr (Aa (pv 3) Ab)) (pv 2) (As _)) (Fw (Ak Fz (Ai D_kind_of hr (Aa (pv 4) Ab)) (pv 2) (As _)) (EW (Ak Fz (Ar (pv 3) rfl) (Ar (pv 4) rfl) (As _)))))) (Ad (Aj Br)) Al)
   (Ac (Ao (i:=5) S.nd rfl (Or.inl rfl) (Ai D_cut_from hr (Aa (pv 1) (Aa (Ar (pv 0) rfl) (Aa (Ar (pv 3) rfl) (Aa (Ar (pv 4) rfl) Ab))))))
   (Ac (Ao (i:=6) S.nd rfl (Or.inl rfl) (Ai D_cut_from hr (Aa (pv 1) (Aa (Ar (pv 0) rfl) (Aa (Ar (pv 3) rfl) (Aa (Ar (pv 4) rfl) Ab))))))
   (Ad (Aj (Ai D_cut_from hr (Aa (pv 2) (Aa (Ar (pv 3) rfl) (Aa (pv 5) (Aa (pv 6) Ab)))))))))))))),?_⟩
  refine⟨_,rfl,v,_,rfl,ho,?_⟩;rw[Obj]at ho;obtain⟨c,dx,w1,w2,rfl,hx,o1,o2⟩:=ho;refine⟨_,rfl,u,rfl,?_⟩;refine⟨_,rfl,c,_,dx,_,_,rfl,hx,(R.iC u).cl,R.n_first u,AA _ _ _,?_⟩;refine⟨_,rfl,c,_,dx,_,_,rfl,hx,(R.iC u).cl,R.n_other u,A9 _ _ _,?_⟩;have nn:Ce u k x y=none->Q .non H:=λ e=>q .non H (Same.refl H) (by rw[e];rfl);refine⟨_,rfl,w1,x,rfl,o1,_,rfl,?_⟩;cases x with
  |whole m=>exact⟨rfl,_,rfl,AH (by show(!decide (V.str "whole"=V.str (wd (!u))))=true;rw[Kq];rfl) (nn (by cases y<;>rfl))⟩
  |cut v' j xa xb =>
   refine⟨rfl,_,rfl,?_⟩;by_cases e:v'=u
   .subst e;exact AH (by show(!decide (V.str (wd v')=V.str (wd (!v'))))=true;rw[AI];cases v'<;>rfl) (nn (by cases y;rfl;rw[Ce,if_pos rfl]))
   .have e':v'=!u:=by cases v'<;>cases u<;>first|rfl|exact absurd rfl e
    refine A8 (by show(!decide (V.str (wd v')=V.str (wd (!u))))=false;rw[e',decide_eq_true rfl];rfl) ?_;refine⟨_,rfl,w2,y,rfl,o2,_,rfl,?_⟩;cases y with
    |whole m=>exact⟨rfl,_,rfl,AH (by show(!decide (V.str "whole"=V.str (wd (!u))))=true;rw[Kq];rfl) (nn rfl)⟩
    |cut v2 j2 ya yb =>
     refine⟨rfl,_,rfl,?_⟩;by_cases e2:v2=u
     .subst e2;exact AH (by show(!decide (V.str (wd v2)=V.str (wd (!v2))))=true;rw[AI];cases v2<;>rfl) (nn (by rw[Ce,if_neg e,if_neg (λ z=>e z.1)]))
     .have e2':v2=!u:=by cases v2<;>cases u<;>first|rfl|exact absurd rfl e2
      refine A8 (by show(!decide (V.str (wd v2)=V.str (wd (!u))))=false;rw[e2',decide_eq_true rfl];rfl) ?_;rw[Obj]at o1 o2;obtain⟨c1,dx1,z1,z2,rfl,hx1,o3,o4⟩:=o1;obtain⟨c2,dx2,y1,y2,rfl,hx2,o5,o6⟩:=o2;refine⟨_,rfl,c1,_,dx1,_,_,rfl,hx1,(R.iC v').cl,R.n_at v',AL _ _ _,_,rfl,c2,_,dx2,_,_,rfl,hx2,(R.iC v2).cl,R.n_at v2,AL _ _ _,rfl,_,rfl,Bo (λ cj=>?_) (λ cj=>?_)⟩
      .refine nn ?_;rw[Ce,if_neg e,if_neg];rintro⟨_,z⟩;rw[z,decide_eq_true rfl]at cj;cases cj
      .have ej:j=j2:=by
        by_cases z:j=j2
        .exact z
        .rw[decide_eq_false (λ y=>z (V.int.inj y))]at cj;cases cj
       subst ej;have ev:v'=v2:=e'.trans e2'.symm;subst ev;refine⟨_,rfl,_,rfl,c,_,dx,_,_,rfl,hx,(R.iC u).cl,R.n_at u,AL _ _ _,_,rfl,c1,_,dx1,_,_,rfl,hx1,(R.iC v').cl,R.n_first v',AA _ _ _,_,rfl,c2,_,dx2,_,_,rfl,hx2,(R.iC v').cl,R.n_first v',AA _ _ _,u,k,z1,y1,xa,ya,rfl,o3,o5,λ v1 H1 s1 b1=>?_⟩;refine⟨_,rfl,_,rfl,c,_,dx,_,_,rfl,s1 _ _ hx,(R.iC u).cl,R.n_at u,AL _ _ _,_,rfl,c1,_,dx1,_,_,rfl,s1 _ _ hx1,(R.iC v').cl,R.n_other v',A9 _ _ _,_,rfl,c2,_,dx2,_,_,rfl,s1 _ _ hx2,(R.iC v').cl,R.n_other v',A9 _ _ _,u,k,z2,y2,xb,yb,rfl,o4.same s1,o6.same s1,λ v2 H2 s2 b2=>?_⟩;have s12:=s1.trans s2;refine⟨_,rfl,_,rfl,c1,_,dx1,_,_,rfl,s12 _ _ hx1,(R.iC v').cl,R.n_at v',AL _ _ _,_,rfl,_,rfl,v',j,v1,v2,_,_,by rw[e'];rfl,b1.same s2,b2,λ v3 H3 s3 b3=>q v3 H3 (s12.trans s3) (by rw[Ce,if_neg e,if_pos ⟨rfl,rfl⟩];exact b3)⟩
inductive FH(cW cU cL:Addr)(vs:LUz)(H:Hp)(Q:VK)(E:XK):Prop
 |mk (v:V) (u:Bool) (k:Int) (x y:Tr) (wo:Str) (h0:vs=[v,.str wo]) (h1:Obj cW cU cL H (.cut u k x y) v) (h2:∀v' H',Same H H'->Rg cW cU cL H' (BB u k x y wo) v'->Q v' H'):FH cW cU cL vs H Q E
def DU(cW cU cL:Addr) :Sp:=λ vs H Q E=>FH cW cU cL vs H Q E
theorem Os:Am ["cut","word"] ["cut","word"] (Af EV):=fsc
theorem Ma{f:Addr}{fd:FuncData}(F:Fun K "changed" "changed" EV f fd)(T:Txt mg tk)(D_leaned:Ap P w K mg base 4 "leaned" ["cut"] (Jy cW cU cL))(D_leaned_back:Ap P w K mg base 4 "leaned_back" ["cut"] (J1 cW cU cL))(D_crossed:Ap P w K mg base 4 "crossed" ["cut"] (Gq cW cU cL)):A5 P w K mg base CX0 5 f fd ["cut","word"] (DU cW cU cL):=by
 have S:=Os;refine F.ok S (λ vs H Q E h=>?_) (λ cdv A outer s H vs Q E hr h=>?_)
 .obtain⟨v,u,k,x,y,wo,rfl,_⟩:=h;rfl
 .obtain⟨v,u,k,x,y,wo,rfl,ho,q⟩:=h;refine⟨_,(Ac (A0 (BC (Bb (A3 BO rfl T.z_isinstance rfl (Aa (pv 1) (Aa (DG (v:=.ty "str") rfl T.z_str rfl rfl) Ab))))) (Ad (Aj Br)) Al)
   (Ac (A0 (Ak AN (pv 1) (Az (v:=.str "lean") rfl T.g_LEAN ⟨_,rfl⟩) (As _)) (Ad (Aj (Ai D_leaned hr (Aa (pv 0) Ab)))) Al)
   (Ac (A0 (Ak AN (pv 1) (Az (v:=.str "back") rfl T.g_BACK ⟨_,rfl⟩) (As _)) (Ad (Aj (Ai D_leaned_back hr (Aa (pv 0) Ab)))) Al)
   (Ac (A0 (Ak AN (pv 1) (Az (v:=.str "cross") rfl T.g_CROSS ⟨_,rfl⟩) (As _)) (Ad (Aj (Ai D_crossed hr (Aa (pv 0) Ab)))) Al)
   (Ad (Aj Br)))))),?_⟩
  have sN:∀z:Str,decide (V.str wo=V.str z)=false->¬wo=z:=λ z h e=>by rw[e,decide_eq_true rfl]at h;cases h
  refine⟨_,rfl,_,"str","str",rfl,rfl,.inr (.inr (.inr (.inr rfl))),_,rfl,A8 (by decide) ?_⟩;refine⟨_,rfl,rfl,_,rfl,Bo (λ c=>?_) (λ c=>?_)⟩
  .have e:=V.str.inj (of_decide_eq_true c);exact⟨_,rfl,v,u,k,x,y,rfl,ho,λ v' H' s' b'=>q v' H' s' (by rw[BB,if_pos e];exact b')⟩
  refine⟨_,rfl,rfl,_,rfl,Bo (λ c2=>?_) (λ c2=>?_)⟩
  .have e:=V.str.inj (of_decide_eq_true c2);exact⟨_,rfl,v,u,k,x,y,rfl,ho,λ v' H' s' b'=>q v' H' s' (by rw[BB,if_neg (sN _ c),if_pos e];exact b')⟩
  refine⟨_,rfl,rfl,_,rfl,Bo (λ c3=>?_) (λ c3=>?_)⟩
  .have e:=V.str.inj (of_decide_eq_true c3);exact⟨_,rfl,v,u,k,x,y,rfl,ho,λ v' H' s' b'=>q v' H' s' (by rw[BB,if_neg (sN _ c),if_neg (sN _ c2),if_pos e];exact b')⟩
  exact q .non H (Same.refl H) (by rw[BB,if_neg (sN _ c),if_neg (sN _ c2),if_neg (sN _ c3)];rfl)
inductive HL(vs:LUz)(H:Hp)(Q:VK)(E:XK):Prop
 |mk (i:Int) (h0:vs=[.int i]) (h1:∀H',Same H H'->Q (.bl (decide (0=i)||decide (1=i))) H'):HL vs H Q E
def Iz:Sp:=λ vs H Q E=>HL vs H Q E
theorem On:Am ["thing"] ["thing"] (Af ER):=fsc
theorem LW{f:Addr}{fd:FuncData}(F:Fun K "is_step" "is_step" ER f fd)(T:Txt mg tk)(D_is_whole:Ap P w K mg base 1 "is_whole" ["thing"] Eu):A5 P w K mg base CX0 2 f fd ["thing"] Iz:=by
 have S:=On;refine F.ok S (λ vs H Q E h=>?_) (λ cdv A outer s H vs Q E hr h=>?_)
 .obtain⟨i,rfl,_⟩:=h;rfl
 .obtain⟨i,rfl,q⟩:=h;refine⟨_,(Ad (Aj (Du (Ai D_is_whole hr (Aa (pv 0) Ab)) (Ee (Ci IF (pv 0) (Av (Aa Ae (Aa Ae Ab))) rfl))))),?_⟩;refine⟨_,rfl,i,rfl,true,rfl,_,rfl,Au 2,λ p hp=>?_⟩;obtain⟨H1,g,s1,e3⟩:=nw (.tup [.int 0,.int 1]) hp;rw[g];refine⟨p,_,rfl,.inr (SqT.of e3),rfl,rfl,?_⟩;rw[if_neg Bool.false_ne_true,TL];exact q H1 s1
inductive Jg(cW cU cL:Addr)(vs:LUz)(H:Hp)(Q:VK)(E:XK):Prop
 |mk (v vp:V) (u:Bool) (k i:Int) (x y s:Tr) (h0:vs=[v,.int i,vp]) (h1:Obj cW cU cL H (.cut u k x y) v) (h2:Obj cW cU cL H s vp) (h3:∀v' H',Same H H'->Obj cW cU cL H' (if i=0 then .cut u k s y else .cut u k x s) v'->Q v' H'):Jg cW cU cL vs H Q E
def Gj(cW cU cL:Addr) :Sp:=λ vs H Q E=>Jg cW cU cL vs H Q E
theorem Lj:Am ["cut","step","part"] ["cut","step","part"] (Af Dh):=fsc
theorem JG{f:Addr}{fd:FuncData}(F:Fun K "with_part" "with_part" Dh f fd)(R:RT mg K cT cW cU cL)(D_kind_of:Ap P w K mg base 1 "kind_of" ["tree"] (Ba cW cU cL))(D_cut_from:Ap P w K mg base 3 "cut_from" ["word","at","first","other"] (Bf cW cU cL)):A5 P w K mg base CX0 4 f fd ["cut","step","part"] (Gj cW cU cL):=by
 have S:=Lj;refine F.ok S (λ vs H Q E h=>?_) (λ cdv A outer s H vs Q E hr h=>?_)
 .obtain⟨v,vp,u,k,i,x,y,s,rfl,_⟩:=h;rfl
 .obtain⟨v,vp,u,k,i,x,y,s',rfl,ho,hp,q⟩:=h;refine⟨_,(Ac (A0 (Ak AN (pv 1) Ae (As _)) (Ad (Aj (Ai D_cut_from hr (Aa (Ai D_kind_of hr (Aa (pv 0) Ab)) (Aa (Ar (pv 0) rfl) (Aa (pv 2) (Aa (Ar (pv 0) rfl) Ab))))))) Al)
   (Ad (Aj (Ai D_cut_from hr (Aa (Ai D_kind_of hr (Aa (pv 0) Ab)) (Aa (Ar (pv 0) rfl) (Aa (Ar (pv 0) rfl) (Aa (pv 2) Ab)))))))),?_⟩
  have ho':=ho;rw[Obj]at ho;obtain⟨c,dx,w1,w2,rfl,hx,o1,o2⟩:=ho;refine⟨_,rfl,rfl,_,rfl,Bo (λ cc=>?_) (λ cc=>?_)⟩
  .have e:i=0:=V.int.inj (of_decide_eq_true cc);rw[if_pos e]at q;exact⟨_,rfl,_,_,rfl,ho',_,rfl,c,_,dx,_,_,rfl,hx,(R.iC u).cl,R.n_at u,AL _ _ _,_,rfl,_,rfl,c,_,dx,_,_,rfl,hx,(R.iC u).cl,R.n_other u,A9 _ _ _,u,k,vp,w2,s',y,rfl,hp,o2,q⟩
  .have e:¬i=0:=λ z=>by rw[z]at cc;exact absurd (of_decide_eq_false cc) (λ h=>h rfl)
   rw[if_neg e]at q;exact⟨_,rfl,_,_,rfl,ho',_,rfl,c,_,dx,_,_,rfl,hx,(R.iC u).cl,R.n_at u,AL _ _ _,_,rfl,c,_,dx,_,_,rfl,hx,(R.iC u).cl,R.n_first u,AA _ _ _,_,rfl,u,k,w1,vp,x,s',rfl,o1,hp,q⟩
def Bw:Tr->List Int->Option Tr
 |t,[]=>some t
 |.whole _,_::_=>none
 |.cut _ _ x y,i::st=>if i=0 then Bw x st else if i=1 then Bw y st else none
def put:Tr->List Int->Tr->Tr
 |_,[],s=>s
 |.whole m,_::_,_=>.whole m
 |.cut u k x y,i::st,s=>if i=0 then .cut u k (put x st s) y else .cut u k x (put y st s)
theorem BJ(t:Tr):Bw t []=some t:=by cases t<;>rfl
theorem ML(t s:Tr):put t [] s=s:=by cases t<;>rfl
theorem D5:∀(t:Tr)(a b:List Int),Bw t (a++b)=(Bw t a).bind λ s=>Bw s b
 |t,[],b=>by rw[BJ];rfl
 |.whole m,i::a,b=>rfl
 |.cut u k x y,i::a,b=>by
  show(if i=0 then Bw x (a++b) else if i=1 then Bw y (a++b) else none)=Option.bind (if i=0 then Bw x a else if i=1 then Bw y a else none) _;by_cases h0:i=0
  .rw[if_pos h0,if_pos h0];exact D5 x a b
  .rw[if_neg h0,if_neg h0];by_cases h1:i=1
   .rw[if_pos h1,if_pos h1];exact D5 y a b
   .rw[if_neg h1,if_neg h1];rfl
theorem Pt{t s:Tr}{i:Int}(h:Bw t [i]=some s):∃u k x y,t=.cut u k x y/\((i=0/\s=x)\/(i=1/\s=y)):=by
 cases t with
 |whole m=>cases h
 |cut u k x y =>
  have h:(if i=0 then Bw x [] else if i=1 then Bw y [] else none)=some s:=h;by_cases h0:i=0
  .rw[if_pos h0,BJ]at h;cases h;exact⟨u,k,_,y,rfl,.inl ⟨h0,rfl⟩⟩
  .rw[if_neg h0]at h;by_cases h1:i=1
   .rw[if_pos h1,BJ]at h;cases h;exact⟨u,k,x,_,rfl,.inr ⟨h1,rfl⟩⟩
   .rw[if_neg h1]at h;cases h
theorem Md:∀(t:Tr)(st:List Int)(w:Str),mvd t st w=match Bw t st with
  |some (.cut u k x y)=>(BB u k x y w).map (put t st)
  |_=>none
 |.whole m,[],w=>rfl
 |.whole m,i::st,w=>rfl
 |.cut u k x y,[],w=>by
  rw[mvd,BJ];show BB u k x y w=(BB u k x y w).map (put (.cut u k x y) []);cases BB u k x y w with
  |none=>rfl
  |some s=>show some s=some (put (.cut u k x y) [] s);rw[ML]
 |.cut u k x y,i::st,w=>by
  rw[mvd];show _=match (if i=0 then Bw x st else if i=1 then Bw y st else none) with
   |some (.cut u' k' x' y')=>(BB u' k' x' y' w).map (put (.cut u k x y) (i::st))
   |_=>none
  by_cases h0:i=0
  .rw[if_pos h0,if_pos h0,Md x st w];cases Bw x st with
   |none=>rfl
   |some s =>
    cases s with
    |whole m=>rfl
    |cut u' k' x' y' =>
     show((BB u' k' x' y' w).map (put x st)).map _=_;rw[Option.map_map];congr 1
     funext s
     show Tr.cut u k (put x st s) y=put (.cut u k x y) (i::st) s;rw[put,if_pos h0]
  .rw[if_neg h0,if_neg h0];by_cases h1:i=1
   .rw[if_pos h1,if_pos h1,Md y st w];cases Bw y st with
    |none=>rfl
    |some s =>
     cases s with
     |whole m=>rfl
     |cut u' k' x' y' =>
      show((BB u' k' x' y' w).map (put y st)).map _=_;rw[Option.map_map];congr 1
      funext s
      show Tr.cut u k x (put y st s)=put (.cut u k x y) (i::st) s;rw[put,if_neg h0]
   .rw[if_neg h1,if_neg h1]
inductive Nx(cW cU cL:Addr)(vs:LUz)(H:Hp)(Q:VK)(E:XK):Prop
 |mk (v:V) (t:Tr) (st:List Int) (sa:Addr) (u:Bool) (k:Int) (x y:Tr) (h0:vs=[v,.ref sa]) (h1:Obj cW cU cL H t v) (h2:H sa=some (.tup (st.map V.int))) (h3:st.length<=200) (h4:Bw t st=some (.cut u k x y)) (h5:∀l ws H',Same H H'->H' l=some (.lst ws)->ws.length=st.length+1->(∀(j:Nat)(w:V),ws[j]?=some w->∃s,Bw t (st.take j)=some s/\Obj cW cU cL H' s w)->Q (.ref l) H'):Nx cW cU cL vs H Q E
def LH(cW cU cL:Addr) :Sp:=λ vs H Q E=>Nx cW cU cL vs H Q E
theorem Lk:Am ["tree","steps","way","step"] ["tree","steps"] (Af Di):=fsc
theorem Mx{ws:LUz}{w:V}{n:Nat}(hl:ws.length=n+1)(h:ws[n]?=some w):atI ws (-1)=some w:=by
 have e:ws=ws.take n++[w]:=by
  have:=List.take_succ (l:=ws) (i:=n);rw[h,List.take_of_length_le (by lia)]at this;exact this
 rw[e];exact PB _ _
theorem JH{f:Addr}{fd:FuncData}(F:Fun K "way_along" "way_along" Di f fd)(T:Txt mg tk)(R:RT mg K cT cW cU cL)(D_is_step:Ap P w K mg base 2 "is_step" ["thing"] Iz):A5 P w K mg base CX0 3 f fd ["tree","steps"] (LH cW cU cL):=by
 have S:=Lk;refine F.ok S (λ vs H Q E h=>?_) (λ cdv A outer s H vs Q E hr h=>?_)
 .obtain⟨v,t,st,sa,u0,k0,x0,y0,rfl,_⟩:=h;rfl
 .obtain⟨v,t,st,sa,u0,k0,x0,y0,rfl,ho,hs,hl,hd0,q⟩:=h;refine⟨_,(Ac (A0 (BC (Bb (A3 BO rfl T.z_isinstance rfl (Aa (pv 1) (Aa (DG (v:=.ty "tuple") rfl T.z_tuple rfl rfl) Ab))))) (Ad C7) Al)
   (Ac (Ao (i:=2) S.nd rfl (Or.inl rfl) (AQ (Aa (pv 0) Ab)))
   (Ac (CN PassesOwn.never rfl (OH (pv 1)) (Aw (i:=3) S.nd rfl (Or.inl rfl)) (Ac (A0 (PW.pt (Fw (Bb (A3 Bj rfl T.z_isinstance rfl (Aa (Aq Bm (pv 2) (IC EN Ae) (λ_ _=>rfl)) (Aa (Az (v:=.ref (cW)) rfl R.g_Whole rfl) Ab)))) (EW (BC (Bb (Ai D_is_step hr (Aa (pv 3) Ab))))))) (Ad C7) Al)
   (Ad (AU (Ca PySem.F.plainAttrs_list PySem.F.slot_list_append PySem.F.type_list_append AD (pv 2) (Aa (Dt (Ak AN (pv 3) Ae (As _)) (Ar (Aq Bm (pv 2) (IC EN Ae) (λ_ _=>rfl)) rfl) (Ar (Aq Bm (pv 2) (IC EN Ae) (λ_ _=>rfl)) rfl)) Ab))))))
   (Ac (A0 (Bb (A3 Bj rfl T.z_isinstance rfl (Aa (Aq Bm (pv 2) (IC EN Ae) (λ_ _=>rfl)) (Aa (Az (v:=.ref (cW)) rfl R.g_Whole rfl) Ab)))) (Ad C7) Al)
   (Ad (Aj (pv 2))))))),?_⟩
  refine⟨_,rfl,_,"tuple","tuple",rfl,R4 hs,.inr (.inr (.inl rfl)),_,rfl,A8 (by decide) ?_⟩;refine⟨_,rfl,Au 1,λ l nl=>?_⟩;obtain⟨H1,g,s1,e1⟩:=nw (.lst [v]) nl;rw[g];have refuse:(∀u k x y,Bw t st≠some (.cut u k x y))->False:=λ no=>no _ _ _ _ hd0;have tst:∀(i:Nat)(b:Int),st[i]?=some b->st=st.take i++(b::st.drop (i+1)):=λ i b h=>by
   obtain⟨h1,h2⟩:=List.getElem?_eq_some_iff.mp h
   conv=>lhs;rw[<-List.take_append_drop i st]
   rw[List.drop_eq_getElem_cons h1,h2]
  refine⟨_,rfl,sa,rfl,⟨_,SqT.of (s1 _ _ hs)⟩,Ni (K:=K) (a:=sa) (xs:=st.map V.int) (λ i σ H'=>∃(w3:Option V)(ws:LUz),σ=[some v,some (.ref sa),some (.ref l),w3]/\Same H H'/\H' l=some (.lst ws)/\ws.length=i+1/\∀(j:Nat)(w:V),ws[j]?=some w->∃s,Bw t (st.take j)=some s/\Obj cW cU cL H' s w)
   ⟨none,[v],rfl,s1,e1,rfl,λ j w h=>?_⟩ (λ i σ H' _ hp=>by obtain⟨_,_,_,s',_⟩:=hp;exact SqT.of (s' _ _ hs)) ?_ ?_⟩
  .cases j with
   |zero=>cases h;exact⟨t,by rw[List.take_zero,BJ],ho.same s1⟩
   |succ j=>simp at h
  .rintro i x σ H2 hx ⟨w3,ws,rfl,s2,hl2,lw,dn⟩;obtain⟨b,hb,rfl⟩:=GX hx;have eq:=tst i b hb;have il:=(List.getElem?_eq_some_iff.mp hb).1;obtain⟨wl,hwl⟩:∃wl,ws[i]?=some wl:=⟨_,List.getElem?_eq_getElem (by lia)⟩;obtain⟨si,hsi,osi⟩:=dn i wl hwl;have aE:=Mx lw hwl;have dst:Bw t st=Bw si (b::st.drop (i+1)):=by
    conv=>lhs;rw[eq]
    rw[D5,hsi];rfl
   cases si with
   |whole m =>
    rw[Obj]at osi;obtain⟨xx,dx,rfl,hxx⟩:=osi;refine⟨_,rfl,1,rfl,l,_,_,_,rfl,rfl,SqL.of hl2,aE,xx,cW,dx,_,_,.ref cW,true,rfl,hxx,R.iW,rfl,DN,R.kWW,_,rfl,AH rfl ?_⟩;exact refuse (λ u k x y z=>by rw[dst]at z;cases z)
   |cut u k x y =>
    have osi':=osi;rw[Obj]at osi;obtain⟨xx,dx,v1,v2,rfl,hxx,o1,o2⟩:=osi;refine⟨_,rfl,1,rfl,l,_,_,_,rfl,rfl,SqL.of hl2,aE,xx,_,dx,_,_,.ref cW,false,rfl,hxx,R.iC u,rfl,DN,R.kCW u,_,rfl,A8 rfl ?_⟩;refine⟨_,rfl,b,rfl,λ H3 s3=>⟨_,rfl,Bo (λ c=>?_) (λ c=>?_)⟩⟩
    .refine refuse (λ u' k' x' y' z=>?_);rw[dst]at z;have z:(if b=0 then Bw x (st.drop (i+1)) else if b=1 then Bw y (st.drop (i+1)) else none)=some (.cut u' k' x' y'):=z;have n0:¬b=0:=λ e=>by rw[e]at c;simp at c
     have n1:¬b=1:=λ e=>by rw[e]at c;simp at c
     rw[if_neg n0,if_neg n1]at z;cases z
    .have b01:b=0\/b=1:=by
      by_cases e0:b=0
      .exact .inl e0
      .by_cases e1':b=1
       .exact .inr e1'
       .rw[decide_eq_false (λ z=>e0 z.symm),decide_eq_false (λ z=>e1' z.symm)]at c;cases c
     have hl3:=s3 _ _ hl2;have hx3:=s3 _ _ hxx;have tk:st.take (i+1)=st.take i++[b]:=by rw[List.take_succ,hb];rfl
     have fin:∀(wn:V)(sn:Tr),Bw (.cut u k x y) [b]=some sn->Obj cW cU cL H3 sn wn->∃(w3:Option V)(ws':LUz),[some v,some (.ref sa),some (.ref l),some (V.int b)]=[some v,some (.ref sa),some (.ref l),w3]/\Same H (upd H3 l (.lst (ws++[wn])))/\(upd H3 l (.lst (ws++[wn]))) l=some (.lst ws')/\ws'.length=i+1+1/\∀(j:Nat)(w:V),ws'[j]?=some w->∃s,Bw t (st.take j)=some s/\Obj cW cU cL (upd H3 l (.lst (ws++[wn]))) s w:=λ wn sn hd on=>by
      have kp:Kp H3 (upd H3 l (.lst (ws++[wn]))):=Kp.put hl3;refine⟨_,ws++[wn],rfl,λ d o e=>by rw[Ah (Ag e nl)];exact s3 _ _ (s2 _ _ e),upd_same,by rw[List.length_append,lw];rfl,λ j w h=>?_⟩;rcases Nat.lt_or_ge j ws.length with hj|hj
      .rw[List.getElem?_append_left hj]at h;obtain⟨s',d',o'⟩:=dn j w h;exact⟨s',d',(o'.same s3).kp kp⟩
      .rw[List.getElem?_append_right hj]at h;have ej:j=i+1:=by
        have:=(List.getElem?_eq_some_iff.mp h).1;rw[List.length_singleton]at this;lia
       subst ej;rw[lw,Nat.sub_self]at h;cases h;exact⟨sn,by rw[tk,D5,hsi];exact hd,on.kp kp⟩
     refine⟨_,rfl,.inl ⟨rfl,_,SqL.of hl3⟩,_,rfl,rfl,_,rfl,Bo (λ c0=>?_) (λ c0=>?_)⟩
     .have b0:b=0:=V.int.inj (of_decide_eq_true c0);refine⟨_,rfl,1,rfl,l,_,_,_,rfl,rfl,SqL.of hl3,aE,xx,_,dx,_,_,rfl,hx3,(R.iC u).cl,R.n_first u,AA _ _ _,l,_,_,rfl,rfl,hl3,A2 (by lia),?_⟩;exact fin v1 x (by show(if b=0 then Bw x [] else _)=_;rw[if_pos b0,BJ]) (o1.same s3)
     .have b1:b=1:=by
       rcases b01 with e|e
       .rw[e,decide_eq_true rfl]at c0;cases c0
       .exact e
      refine⟨_,rfl,1,rfl,l,_,_,_,rfl,rfl,SqL.of hl3,aE,xx,_,dx,_,_,rfl,hx3,(R.iC u).cl,R.n_other u,A9 _ _ _,l,_,_,rfl,rfl,hl3,A2 (by lia),?_⟩;exact fin v2 y (by show(if b=0 then Bw x [] else if b=1 then Bw y [] else none)=_;rw[if_neg (by lia),if_pos b1,BJ]) (o2.same s3)
  .rintro σ H2 ⟨w3,ws,rfl,s2,hl2,lw,dn⟩;rw[List.length_map]at lw;obtain⟨wl,hwl⟩:∃wl,ws[st.length]?=some wl:=⟨_,List.getElem?_eq_getElem (by lia)⟩;obtain⟨si,hsi,osi⟩:=dn _ wl hwl;have aE:=Mx lw hwl;rw[List.take_length]at hsi;cases si with
   |whole m =>
    rw[Obj]at osi;obtain⟨xx,dx,rfl,hxx⟩:=osi;refine⟨_,rfl,1,rfl,l,_,_,_,rfl,rfl,SqL.of hl2,aE,xx,cW,dx,_,_,.ref cW,true,rfl,hxx,R.iW,rfl,DN,R.kWW,_,rfl,AH rfl ?_⟩;exact refuse (λ u k x y z=>by rw[hsi]at z;cases z)
   |cut u k x y =>
    have osi':=osi;rw[Obj]at osi;obtain⟨xx,dx,v1,v2,rfl,hxx,o1,o2⟩:=osi;refine⟨_,rfl,1,rfl,l,_,_,_,rfl,rfl,SqL.of hl2,aE,xx,_,dx,_,_,.ref cW,false,rfl,hxx,R.iC u,rfl,DN,R.kCW u,_,rfl,A8 rfl ?_⟩;exact⟨_,rfl,q l ws H2 s2 hl2 lw dn⟩
theorem KM{H:Hp}{t:Tr}{v:V}(h:Obj cW cU cL H t v):decide (v=V.non)=false:=by
 cases t with
 |whole m=>rw[Obj]at h;obtain⟨x,dx,rfl,_⟩:=h;exact decide_eq_false (λ z=>by cases z)
 |cut u k a b=>rw[Obj]at h;obtain⟨x,dx,w1,w2,rfl,_⟩:=h;exact decide_eq_false (λ z=>by cases z)
theorem OO{t s:Tr}{st:List Int}{w:Str}(h:mvd t st w=some s):∃u k x y r,Bw t st=some (.cut u k x y)/\BB u k x y w=some r/\s=put t st r:=by
 rw[Md]at h;cases q:Bw t st with
 |none=>rw[q]at h;cases h
 |some z =>
  rw[q]at h;cases z with
  |whole m=>cases h
  |cut u k x y =>
   obtain⟨r,e1,e2⟩:=Option.map_eq_some_iff.mp h;exact⟨u,k,x,y,r,rfl,e1,e2.symm⟩
inductive PN(cW cU cL:Addr)(vs:LUz)(H:Hp)(Q:VK)(E:XK):Prop
 |mk (v:V) (t s:Tr) (st:List Int) (sa mo:Addr) (wo:Str) (h0:vs=[v,.ref mo]) (h1:Obj cW cU cL H t v) (h2:H mo=some (.tup [.ref sa,.str wo])) (h3:H sa=some (.tup (st.map V.int))) (h4:st.length<=200) (h5:mvd t st wo=some s) (h6:s.nd<=400) (h7:∀v' H',Same H H'->Obj cW cU cL H' s v'->Q v' H'):PN cW cU cL vs H Q E
def O6(cW cU cL:Addr) :Sp:=λ vs H Q E=>PN cW cU cL vs H Q E
theorem Rb:Am ["tree","move","steps","way","part","cut","step"] ["tree","move"] (Af JA):=fsc
theorem OK{f:Addr}{fd:FuncData}(F:Fun K "moved" "moved" JA f fd)(T:Txt mg tk)(D_way_along:Ap P w K mg base 3 "way_along" ["tree","steps"] (LH cW cU cL))(D_changed:Ap P w K mg base 5 "changed" ["cut","word"] (DU cW cU cL))(D_with_part:Ap P w K mg base 4 "with_part" ["cut","step","part"] (Gj cW cU cL))
  (D_entries_of:Ap P w K mg base 3 "entries_of" ["tree"] (CG cW cU cL)) (D_tree_from:Ap P w K mg base 4 "tree_from" ["entries"] (FS K cW cU cL)):A5 P w K mg base CX0 6 f fd ["tree","move"] (O6 cW cU cL):=by
 have S:=Rb;refine F.ok S (λ vs H Q E h=>?_) (λ cdv A outer s H vs Q E hr h=>?_)
 .obtain⟨v,t,s,st,sa,mo,wo,rfl,_⟩:=h;rfl
 .obtain⟨v,t,sr,st,sa,mo,wo,rfl,ho,hm,hs,hl,hmv,nd,q⟩:=h;obtain⟨u,k,x,y,r,hd,ha,rfl⟩:=OO hmv;refine⟨_,(Ac (Ao (i:=2) S.nd rfl (Or.inl rfl) (Aq An (pv 1) Ae (λ_ _=>rfl)))
   (Ac (Ao (i:=3) S.nd rfl (Or.inl rfl) (Ai D_way_along hr (Aa (pv 0) (Aa (pv 2) Ab))))
   (Ac (Ao (i:=4) S.nd rfl (Or.inl rfl) (Ai D_changed hr (Aa (Aq Bm (pv 3) (IC EN Ae) (λ_ _=>rfl)) (Aa (Aq An (pv 1) Ae (λ_ _=>rfl)) Ab))))
   (Ac (A0 (Ak GC (pv 4) Br (As _)) (Ad C7) Al)
   (Ac (CN PassesOwn.never rfl (MQ rfl T.z_reversed (Aa (Qy rfl T.z_list rfl T.z_zip (Aa (pv 3) (Aa (pv 2) Ab))) Ab)) (CO rfl (A1 (Aw (i:=5) S.nd rfl (Or.inl rfl)) (A1 (Aw (i:=6) S.nd rfl (Or.inl rfl)) B1))) (Ad (Ao (i:=4) S.nd rfl (Or.inl rfl) (Ai D_with_part hr (Aa (pv 5) (Aa (pv 6) (Aa (pv 4) Ab)))))))
   (Ad (Aj (Ai D_tree_from hr (Aa (Ai D_entries_of hr (Aa (pv 4) Ab)) Ab))))))))),?_⟩
  refine⟨_,rfl,mo,_,_,_,rfl,rfl,SqT.of hm,D7,?_⟩;refine⟨_,rfl,_,rfl,v,t,st,sa,u,k,x,y,rfl,ho,hs,hl,hd,λ l ws H1 s1 hl1 lw dn=>?_⟩;obtain⟨wl,hwl⟩:∃wl,ws[st.length]?=some wl:=⟨_,List.getElem?_eq_getElem (by lia)⟩;obtain⟨sl,hsl,osl⟩:=dn _ wl hwl;have aE:=Mx lw hwl;rw[List.take_length,hd]at hsl;cases hsl;refine⟨_,rfl,1,rfl,l,_,_,_,rfl,rfl,SqL.of hl1,aE,_,rfl,mo,_,_,_,rfl,rfl,SqT.of (s1 _ _ hm),DS,wl,u,k,x,y,wo,rfl,osl,λ v' H2 s2 oo=>?_⟩;have s02:=s1.trans s2;rw[ha]at oo;have oo:Obj cW cU cL H2 r v':=oo;refine⟨_,rfl,rfl,_,rfl,A8 (KM oo) ?_⟩;have hs2:=s02 _ _ hs;refine⟨_,rfl,_,rfl,l,sa,ws,st.map V.int,rfl,SqL.of (s2 _ _ hl1),SqT.of hs2,by rw[List.length_map];lia,λ rl as H3 s3 nr hr la prs=>?_⟩;rw[List.length_map]at la;have s03:=s02.trans s3;refine⟨rl,_,rfl,SqL.of hr,Nj (K:=K) (a:=rl) (xs:=as.map V.ref) (λ i σ H'=>∃(w5 w6:Option V)(vp:V)(tj:Tr),σ=[some v,some (.ref mo),some (.ref sa),some (.ref l),some vp,w5,w6]/\Same H3 H'/\Bw t (st.take (st.length-i))=some tj/\Obj cW cU cL H' (put tj (st.drop (st.length-i)) r) vp)
   ⟨none,none,v',.cut u k x y,rfl,Same.refl _,by rw[Nat.sub_zero,List.take_length];exact hd,by rw[Nat.sub_zero,List.drop_length,ML];exact oo.same s3⟩ (λ i σ H' _ hp=>by obtain⟨_,_,_,_,_,s',_⟩:=hp;exact SqL.of (s' _ _ hr)) ?_ ?_⟩
  .rintro i xv σ H4 hv hi ⟨w5,w6,vp,tj,rfl,s4,dj,oj⟩;rw[List.length_map,la]at hv hi;rw[List.getElem?_map]at hv;obtain⟨a,haj,rfl⟩:=Option.map_eq_some_iff.mp hv;obtain⟨xw,yb,e1,e2,e3⟩:=prs _ a haj;obtain⟨b,hb,rfl⟩:=GX e2;obtain⟨cj,dcj,ocj⟩:=dn _ xw e1;have jn:st.length-1-i+1=st.length-i:=by lia
   have tk:st.take (st.length-i)=st.take (st.length-1-i)++[b]:=by rw[<-jn,List.take_succ,hb];rfl
   have dr:st.drop (st.length-(i+1))=b::st.drop (st.length-i):=by
    rw[show st.length-(i+1)=st.length-1-i by lia];obtain⟨h1,h2⟩:=List.getElem?_eq_some_iff.mp hb;rw[List.drop_eq_getElem_cons h1,h2,jn]
   rw[tk,D5,dcj]at dj;obtain⟨u',k',xa,ya,rfl,hbt⟩:=Pt dj;have e34:=s4 _ _ e3;refine⟨a,_,rfl,SqT.of e34,rfl,_,_,rfl,_,_,rfl,rfl,?_⟩;refine⟨_,rfl,_,rfl,_,rfl,xw,vp,u',k',b,xa,ya,_,rfl,ocj.same ((s2.trans s3).trans s4),oj,λ v5 H5 s5 o5=>⟨_,_,v5,_,rfl,s4.trans s5,by rw[show st.length-(i+1)=st.length-1-i by lia];exact dcj,?_⟩⟩;rw[dr,put];rcases hbt with ⟨b0,rfl⟩|⟨b1,rfl⟩
   .rw[if_pos b0]at o5 |-;exact o5
   .rw[if_neg (by lia)]at o5 |-;exact o5
  .rintro σ H4 ⟨w5,w6,vp,tj,rfl,s4,dj,oj⟩;rw[List.length_map,la,Nat.sub_self]at dj oj;rw[List.take_zero,BJ]at dj;cases dj;rw[List.drop_zero]at oj;have n4:=nd;refine⟨_,rfl,vp,_,rfl,oj,n4,λ l5 xs5 H5 s5 nl5 hl5 en5=>?_⟩;exact⟨l5,xs5,_,rfl,SqL.of hl5,en5,n4,λ v6 H6 s6 o6=>q v6 H6 (s03.trans (s4.trans (s5.trans s6))) o6⟩
def XG(H:Hp)(x C:Addr)(d:Option Addr)(fs:LFz):Prop:=((d=none/\fs=[])\/∃dx,d=some dx/\dx≠x/\H dx=some (TY dx fs))/\∃T,H x=some (Ir C d x T)
def RfN(H:Hp)(E:XK)(C:Addr)(P:LFz->Hp->Prop):Prop:=∀x d fs H',PL H x->SameN H H'->XG H' x C d fs->P fs H'->E (.ref x) d H'
def XEN(H:Hp)(R:Addr->LFz->Hp->Prop):XK:=λ v d H'=>∃x C fs,v=.ref x/\PL H x/\SameN H H'/\XG H' x C d fs/\R C fs H'
theorem XEN.rf{H:Hp}{R:Addr->LFz->Hp->Prop}{C:Addr}{P:LFz->Hp->Prop}(h:∀fs H',P fs H'->R C fs H'):RfN H (XEN H R) C P:=λ x _ fs H' hx s r p=>⟨x,C,fs,rfl,hx,s,r,h fs H' p⟩
theorem R3{H H1:Hp}{x C C':Addr}{d:Option Addr}{T T2:Addr}{fs:LFz}(hx:PL H1 x)(s:SameN H1 H)(r:XG H x C d fs)(fl:FJ H x C' d T)(hT:H T2=none) :
  C=C'/\XG (thrown H x C' d T2) x C d fs/\SameN H1 (thrown H x C' d T2):=by
 obtain⟨alt,T',e⟩:=r;have q:C=C':=by
  have:=fl.1;rw[e]at this;exact(Pn (Option.some.inj this)).1
 subst q;refine⟨rfl,⟨alt.imp id λ⟨dx,ed,nd,hd⟩=>⟨dx,ed,nd,by rw[AS nd (Ag hd hT)];exact hd⟩,T2,De⟩,λ a o ho no=>?_⟩;rw[AS (λ z=>by subst z;obtain⟨ps,rfl⟩:=hx o ho;exact no ps rfl) (Ag (s a o ho no) hT)];exact s a o ho no
theorem QT{C x T:Addr}{d:Option Addr}{q:Str}:Ir C d x T≠Cf x q:=λ h=>by
 have h:(HO.ext λ h=>∃vs sl,h.get? x=some ⟨.ref C,d,.fields vs,sl⟩/\vs[1]?=some (.ref T))=HO.ext λ h=>∃o vs t,h.get? x=some o/\o.data=.fields vs/\vs[1]?=some (.str q t):=h;injection h with h;have e:=congrFun h ((CW x).push ⟨.ref C,d,.fields #[.none,.ref T],#[]⟩);have g:((CW x).push ⟨.ref C,d,.fields #[.none,.ref T],#[]⟩).get? x=some ⟨.ref C,d,.fields #[.none,.ref T],#[]⟩:=Heap.get?_push_at (CV x).symm rfl;obtain⟨o,vs,t,e1,e2,e3⟩:=e.mp ⟨_,_,g,rfl⟩;rw[g]at e1;cases e1;cases e2;cases e3
theorem TabOk.thrown{pos:Pos}{qual:Str}{T x C T2:Addr}{d:Option Addr}{H:Hp}{fs:LFz}(h:TabOk pos qual T H)(r:XG H x C d fs)(hT:H T2=none):TabOk pos qual T (L2.thrown H x C d T2):=by
 obtain⟨ps,e,t,c⟩:=h;obtain⟨_,T',ex⟩:=r;refine⟨ps,by rw[AS (λ z=>by rw[z,ex]at e;cases e) (Ag e hT)];exact e,t,?_⟩;rcases c with c|⟨c',c1,c2⟩
 .exact .inl c
 .exact .inr ⟨c',c1,by rw[AS (λ z=>by rw[z,ex]at c2;exact QT (Option.some.inj c2)) (Ag c2 hT)];exact c2⟩
theorem OA{H:Hp}{y C T:Addr}{o:HO}{d:Option Addr}(hy:H y=none)(hT:(upd H y o) T=none)(nT:T≠y):Same H (thrown (upd H y o) y C d T):=λ a u e=>by
 rw[Ah nT]at hT;rw[AS (Ag e hy) (Ag e hT),Ah (Ag e hy)];exact e
structure RX(mg:MGz)(K:Frag)(cX:Addr):Prop where
 g_Unlike:mg "Unlike"=some (.ref cX)
 x_Unlike:PY K cX
 m:mroIn K cX (.ref cX)=some true
inductive N3(tb cW cU cL cX:Addr)(vs:LUz)(H:Hp)(Q:VK)(E:XK):Prop
 |mk (v v2:V) (t s:Tr) (ww hh:Int) (h0:vs=[v,v2,.int ww,.int hh]) (h1:Obj cW cU cL H t v) (h2:Obj cW cU cL H s v2) (h3:t.sz<64) (h4:s.sz<64) (h5:TabOk Db C8 tb H) (h6:1<=ww) (h7:ww<=12) (h8:1<=hh) (h9:hh<=12) (h10:Fit t ww hh) (h11:Fit s ww hh) (h12:((At t ⟨0,0,hh,ww⟩).Perm (At s ⟨0,0,hh,ww⟩)->∀l H',SameX tb H H'->TabOk Db C8 tb H'->MvO H' l (mto t s)->Q (.ref l) H')) (h13:(¬(At t ⟨0,0,hh,ww⟩).Perm (At s ⟨0,0,hh,ww⟩)->RfN H E cX λ_ H'=>TabOk Db C8 tb H')):N3 tb cW cU cL cX vs H Q E
def Jx(tb cW cU cL cX:Addr) :Sp:=λ vs H Q E=>N3 tb cW cU cL cX vs H Q E
theorem SY:Am ["tree","other","width","height"] ["tree","other","width","height"] (Af OB):=fsc
theorem RQ{f tb cX:Addr}{fd:FuncData}(F:Fun K "led" "led" OB f fd)(X_Unlike:XMk0 K mg "Unlike" cX)(D_alike:Ap P w K mg base 6 "alike" ["tree","other","width","height"] (Ey tb cW cU cL))(D_moves_to:Ap P w K mg base 52 "moves_to" ["tree","other","steps"] (Gn cW cU cL 24)):A5 P w K mg base (CX1 P w) 53 f fd ["tree","other","width","height"] (Jx tb cW cU cL cX):=by
 have S:=SY;refine F.okx S (λ vs H Q E h=>?_) (λ cdv A outer s H vs Q E hr h=>?_)
 .obtain⟨v,v2,t,s,ww,hh,rfl,_⟩:=h;rfl
 .obtain⟨v,v2,t,ot,ww,hh,rfl,h1,h2,sz1,sz2,tab,w1,w2,g1,g2,f1,f2,q,hR⟩:=h;refine⟨_,(Ac (A0 (BC (Bb (Ai D_alike hr (Aa (pv 0) (Aa (pv 1) (Aa (pv 2) (Aa (pv 3) Ab))))))) (Ad (NI Qd X_Unlike)) Al)
   (Ad (Aj (Ai D_moves_to hr (Aa (pv 0) (Aa (pv 1) (Aa (Av Ab) Ab))))))),?_⟩
  refine⟨_,rfl,_,rfl,_,rfl,_,rfl,v,v2,t,ot,ww,hh,rfl,h1,h2,sz1,sz2,tab,w1,w2,g1,g2,f1,f2,λ b H1 sx tab1 hb=>⟨_,rfl,?_⟩⟩;have s1:=sx.toN tab.tbl;cases b with
  |false =>
   refine AH rfl λ z T hz hT nT=>?_;have s2:=OA (C:=cX) (d:=none) hz hT nT;exact hR (λ pm=>by cases hb.mpr pm) z none [] _ (SD s1 hz) (s1.trans s2.n) ⟨.inl ⟨rfl,rfl⟩,T,De⟩ (tab1.same s2)
  |true =>
   have pm:=hb.mp rfl;have d1:=CU w1 g1 f1;have d2:=CU w1 g1 f2;refine A8 rfl ⟨_,rfl,_,rfl,Au 0,λ p hp=>?_⟩;obtain⟨H2,g,s2,e2⟩:=nw (.tup []) hp;rw[g];have e2:H2 p=some (.tup ((([]:List Int)).map V.int)):=e2;refine⟨v,v2,t,ot,⟨0,0,hh,ww⟩,[],p,rfl,(h1.n s1).same s2,(h2.n s1).same s2,e2,ok0 w1 g1,Fg f1,Fg f2,pm,by lia,by lia,by show 0+ot.dp<=60;lia,by lia,λ l H3 s3 nl ml=>?_⟩;rw[MR]at ml;exact q pm l H3 (sx.trans (s2.trans s3).x) ((tab1.same s2).same s3) ml
inductive Lw(tb cW cU cL:Addr)(vs:LUz)(H:Hp)(Q:VK)(E:XK):Prop
 |mk (v v2:V) (t s:Tr) (ww hh:Int) (h0:vs=[v,v2,.int ww,.int hh]) (h1:Obj cW cU cL H t v) (h2:Obj cW cU cL H s v2) (h3:t.sz<64) (h4:s.sz<64) (h5:TabOk Db C8 tb H) (h6:1<=ww) (h7:ww<=12) (h8:1<=hh) (h9:hh<=12) (h10:Fit t ww hh) (h11:Fit s ww hh) (h12:¬(At t ⟨0,0,hh,ww⟩).Perm (At s ⟨0,0,hh,ww⟩)) (h13:∀H',SameN H H'->TabOk Db C8 tb H'->Q (.bl true) H'):Lw tb cW cU cL vs H Q E
def Jw(tb cW cU cL:Addr) :Sp:=λ vs H Q E=>Lw tb cW cU cL vs H Q E
theorem Io:Am ["_law_one","_law_two","_law_width","_law_height","_law_refused_here"] ["_law_one","_law_two","_law_width","_law_height"] (Af BY):=fsc
theorem GK{f tb cX:Addr}{fd:FuncData}(F:Fun K "_law_refused" "_law_refused" BY f fd)(R:RX mg K cX)(D_led:HP P w K mg base 53 "led" ["tree","other","width","height"] (Jx tb cW cU cL cX)):A5 P w K mg base CX0 54 f fd ["_law_one","_law_two","_law_width","_law_height"] (Jw tb cW cU cL):=by
 have S:=Io;refine F.ok S (λ vs H Q E h=>?_) (λ cdv A outer s H vs Q E hr h=>?_)
 .obtain⟨v,v2,t,s,ww,hh,rfl,_⟩:=h;rfl
 .obtain⟨v,v2,t,ot,ww,hh,rfl,h1,h2,sz1,sz2,tab,w1,w2,g1,g2,f1,f2,np,q⟩:=h;refine⟨_,(Ac (Ao (i:=4) S.nd rfl (Or.inl rfl) Fy)
   (Ac (K3 (λ_=>S7 D_led hr (Aa (pv 0) (Aa (pv 1) (Aa (pv 2) (Aa (pv 3) Ab))))) rfl R.g_Unlike R.x_Unlike rfl rfl (λ_=>(Ad (Ao (i:=4) S.nd rfl (Or.inl rfl) Fy))))
   (Ad (Aj (pv 4))))),?_⟩
  refine⟨XEN H λ C _ H'=>C=cX/\TabOk Db C8 tb H',⟨_,rfl,_,rfl,_,rfl,_,rfl,v,v2,t,ot,ww,hh,rfl,h1,h2,sz1,sz2,tab,w1,w2,g1,g2,f1,f2,λ pm=>absurd pm np,λ_=>XEN.rf λ fs H' z=>⟨rfl,z⟩⟩,?_⟩;rintro x C d T T2 H' ⟨x',C',fs,ev,hx,s1,r,rfl,tab1⟩ fl hT2 nT2;obtain rfl:x=x':=Value.ref.inj ev;have tab2:=TabOk.thrown tab1 r hT2;obtain⟨rfl,r2,s2⟩:=R3 hx s1 r fl hT2;exact⟨R.m,_,rfl,q _ s2 tab2⟩
theorem MvO.snoc{H:Hp}{l p sa:Addr}{ts:List MT}{st:List Int}{w:Str}(h1:H l=some (.lst (Cl ts)))(h2:MvsO H ts)(hp:H p=some (.tup [.ref sa,.str w]))(hs:H sa=some (.tup (st.map V.int))):MvO (upd H l (.lst (Cl ts++[.ref p]))) l (ts.map (·.2.2)++[(st,w)]):=by
 have kp:Kp H (upd H l (.lst (Cl ts++[.ref p]))):=Kp.put h1;refine⟨ts++[(p,sa,st,w)],by rw[upd_same];show _=some (HO.lst (List.map _ (ts++[(p,sa,st,w)])));rw[List.map_append];rfl,λ t ht=>?_,by rw[List.map_append];rfl⟩;have tup:∀{b:Addr}{xs:LUz},H b=some (.tup xs)->(upd H l (.lst (Cl ts++[.ref p]))) b=some (.tup xs):=λ e=>kp _ _ e (by intro xs z;cases z);rcases List.mem_append.mp ht with ht|ht
 .exact⟨tup (h2 t ht).1,tup (h2 t ht).2⟩
 .rw[List.mem_singleton.mp ht];exact⟨tup hp,tup hs⟩
def Can(t:Tr)(m:Mv):Prop:=(∃s,mvd t m.1 m.2=some s)/\m.1.length<=t.dp
theorem P3{u:Bool}{k:Int}{x y:Tr}{L:List Mv}(h:∀m∈L,Can x m):∀m∈pre 0 L,Can (.cut u k x y) m:=λ m hm=>by
 obtain⟨z,hz,rfl⟩:=List.mem_map.mp hm;obtain⟨⟨s,e⟩,l⟩:=h z hz;refine⟨⟨.cut u k s y,?_⟩,?_⟩
 .show mvd (.cut u k x y) (0::z.1) z.2=_;rw[mvd,if_pos rfl,e];rfl
 .show z.1.length+1<=max x.dp y.dp+1;lia
theorem P2{u:Bool}{k:Int}{x y:Tr}{L:List Mv}(h:∀m∈L,Can y m):∀m∈pre 1 L,Can (.cut u k x y) m:=λ m hm=>by
 obtain⟨z,hz,rfl⟩:=List.mem_map.mp hm;obtain⟨⟨s,e⟩,l⟩:=h z hz;refine⟨⟨.cut u k x s,?_⟩,?_⟩
 .show mvd (.cut u k x y) (1::z.1) z.2=_;rw[mvd,if_neg (by decide),if_pos rfl,e];rfl
 .show z.1.length+1<=max x.dp y.dp+1;lia
theorem Nr{t:Tr}{A B:List Mv}(h:∀m∈A,Can t m)(g:∀m∈B,Can t m):∀m∈A++B,Can t m:=λ m hm=>(List.mem_append.mp hm).elim (h m) (g m)
theorem QU{u:Bool}{k:Int}{x y s:Tr}{w:Str}(h:BB u k x y w=some s):∀m∈[(([],w):Mv)],Can (.cut u k x y) m:=λ m hm=>by
 rw[List.mem_singleton.mp hm];exact⟨⟨s,h⟩,Nat.zero_le _⟩
theorem Pf{y:Tr}{u:Bool}(h:decide (V.str (hdW y)=V.str (wd u))=true):∃j a b,y=.cut u j a b:=by
 cases y with
 |whole m =>
  have h:decide (V.str "whole"=V.str (wd u))=true:=h;rw[Kq]at h;cases h
 |cut v j a b =>
  have h:decide (V.str (wd v)=V.str (wd u))=true:=h;rw[AI]at h;exact⟨j,a,b,by rw[eq_of_beq h]⟩
inductive HJ(n:Nat)(vs:LUz)(H:Hp)(Q:VK)(E:XK):Prop
 |mk (v:V) (t:Tr) (st:List Int) (sa:Addr) (h0:vs=[v,.ref sa]) (h1:Told H t v) (h2:H sa=some (.tup (st.map V.int))) (h3:t.dp<n) (h4:st.length+t.dp<=100) (h5:t.sz<=150) (h6:∀l L H',Same H H'->H l=none->MvO H' l (pfx st L)->(∀m∈L,Can t m)->L.length+3<=3*t.sz->Q (.ref l) H'):HJ n vs H Q E
def C0(n:Nat) :Sp:=λ vs H Q E=>HJ n vs H Q E
theorem QC{vs:LUz}{H:Hp}{Q:VK}{E:XK}:¬C0 0 vs H Q E:=by
 rintro⟨v,t,st,sa,_,_,_,h,_⟩;lia
abbrev Nv:LSz:=["_law_told_here","_law_steps","_law_kind","_law_at","_law_one","_law_two","_law_found"]
theorem FA:Am Nv ["_law_told_here","_law_steps"] (Af AK):=fsc
theorem JM{f:Addr}{fd:FuncData}{n:Nat}(F:Fun K "_law_moves" "_law_moves" AK f fd)(D__law_moves:Ap P w K mg base (n+3) "_law_moves" ["_law_told_here","_law_steps"] (C0 n)):A5 P w K mg base CX0 (n+4) f fd ["_law_told_here","_law_steps"] (C0 (n+1)):=by
 have S:=FA;refine F.ok S (λ vs H Q E h=>?_) (λ cdv A outer s H vs Q E hr h=>?_)
 .obtain⟨v,t,st,sa,rfl,_⟩:=h;rfl
 .obtain⟨v,t,st,sa,rfl,ht,hs,hd,hl,hz,q⟩:=h;have add:∀{u:Bool}{k:Int}{y1 y2 s':Tr}{w:Str}{l p:Addr}{L:List Mv}{H2:Hp},t=.cut u k y1 y2->Same H H2->H l=none->MvO H2 l (pfx st L)->(∀m∈L,Can t m)->L.length<=1000->BB u k y1 y2 w=some s'->H2 p=none->∃ts:List MT,(upd H2 p (.tup [.ref sa,.str w])) l=some (.lst (Cl ts))/\(Cl ts).length<sizeLine/\Same H (upd (upd H2 p (.tup [.ref sa,.str w])) l (.lst (Cl ts++[.ref p])))/\MvO (upd (upd H2 p (.tup [.ref sa,.str w])) l (.lst (Cl ts++[.ref p]))) l (pfx st (L++[([],w)]))/\∀m∈L++[([],w)],Can t m:=by
   intro u k y1 y2 s' w l p L H2 et s2 nl ml cn ln ha np;obtain⟨ts,h1,h2,e⟩:=ml;obtain⟨H3,e3,s3,p3⟩:=nw (.tup [.ref sa,.str w]) np;rw[e3];clear e3;have sl:=congrArg List.length e;rw[Bv,List.length_map]at sl;have s03:=s2.trans s3;refine⟨ts,s3 _ _ h1,A2 (by rw[List.length_map];lia),λ b o eb=>by rw[Ah (Ag eb nl)];exact s03 _ _ eb,?_,Nr cn (by subst et;exact QU ha)⟩;rw[Ch,FU,<-e];exact MvO.snoc (s3 _ _ h1) (h2.same s3) p3 (s03 _ _ hs)
  have kept:∀{l p:Addr}{L:List Mv}{H1:Hp}{y1 y2:Tr}{v1 v2:V}{o:HO}{xs ys:LUz},MvO H1 l L->Told H1 y1 v1->Told H1 y2 v2->H1 p=none->(upd H1 p o) l=some (.lst xs)->Told (upd (upd H1 p o) l (.lst ys)) y1 v1/\Told (upd (upd H1 p o) l (.lst ys)) y2 v2:=by
   intro l p L H1 y1 y2 v1 v2 o xs ys ml t1 t2 np hx;exact⟨(t1.same (Same.new np)).samex SameX.upd hx,(t2.same (Same.new np)).samex SameX.upd hx⟩
  obtain⟨t5,h5,k5⟩:∃rd,PSs (B5 CX0 P w K mg base Nv "_law_moves" (Af AK) f cdv A outer s H E).nox ((A4 AK).drop 5) rd/\∀(x0 x3:Option V)(u:Bool)(k:Int)(v1 v2:V)(y1 y2:Tr)(l:Addr)(L:List Mv)(H1:Hp),t=.cut u k y1 y2->Same H H1->Told H1 y1 v1->Told H1 y2 v2->H l=none->MvO H1 l (pfx st L)->(∀m∈L,Can t m)->L.length+4<=3*t.sz->rd { nx:=λ_ H'=>Q .non H',rt:=Q } [x0,some (.ref sa),some (.str (wd u)),x3,some v1,some v2,some (.ref l)] H1:=by
   refine⟨_,(Ac (A0 (PW.pt (G0 (Ak JE (Aq An (pv 4) Ae (λ_ _=>rfl)) (Av (Aa A6 (Aa (pv 2) Ab))) rfl) (E1 (Ak (JF hr) (E4 MH (pv 4) MO (DE Ae)) (E4 MH (pv 5) MO (DE Ae)) (As _))))) (Ad (AU (Ca PySem.F.plainAttrs_list PySem.F.slot_list_append PySem.F.type_list_append AD (pv 6) (Aa (Av (Aa (pv 1) (Aa A6 Ab))) Ab)))) Al)
   (Ad (Aj (pv 6)))),?_⟩
   intro x0 x3 u k v1 v2 y1 y2 l L H1 et s1 t1 t2 nl ml cn ln;obtain⟨a1,r1,rfl,e1,z1⟩:=FR t1;obtain⟨a2,r2,rfl,e2,z2⟩:=FR t2;refine⟨_,rfl,a1,_,_,_,rfl,rfl,SqT.of e1,P7,_,rfl,Au 2,λ p hp=>?_⟩;obtain⟨H2,e,s2,e3⟩:=nw (.tup [.str "whole",.str (wd u)]) hp;rw[e];clear e;have out:∀H',Same H1 H'->Q (.ref l) H':=λ H' s'=>q l L H' (s1.trans s') nl (ml.same s') cn (by lia);refine⟨p,_,rfl,.inr (SqT.of e3),rfl,rfl,_,rfl,?_⟩;cases y1 with
   |whole m=>exact A8 (by rw[if_pos rfl];exact Mb (t:=.whole m)) (La ⟨_,rfl,out H2 s2⟩)
   |cut v' j ya yb =>
    by_cases ev:v'=u
    .subst ev;exact A8 (by rw[if_pos rfl];exact(Mb (t:=.cut v' j ya yb)).trans (by cases v'<;>rfl)) (La ⟨_,rfl,out H2 s2⟩)
    .refine AH (by rw[if_pos rfl];exact(Mb (t:=.cut v' j ya yb)).trans (by show(!(v'==u))=true;rw[beq_false_of_ne ev];rfl)) ?_;refine⟨_,rfl,_,rfl,a1,_,rfl,s2 _ _ e1,λ sA H3 s3 eA=>?_⟩;rw[ST z1]at eA;refine⟨_,rfl,_,rfl,a2,_,rfl,(s2.trans s3) _ _ e2,λ sB H4 s4 eB=>?_⟩;rw[ST z2]at eB;have s14:=(s2.trans s3).trans s4;refine⟨_,_,Pg (t:=.cut v' j ya yb) (s4 _ _ eA),Pg eB,⟨_,rfl⟩,⟨_,rfl⟩,QL _,_,rfl,?_⟩;rw[if_neg Bool.false_ne_true];have de:=Sd (v:=v') (j:=j) (a:=ya) (b:=yb) (s:=y2);cases y2 with
     |whole m'=>exact A8 de ⟨_,rfl,out H4 s14⟩
     |cut v2 j2 yc yd =>
      by_cases e4:v'=v2/\j=j2
      .refine AH (de.trans (decide_eq_true e4)) ?_;obtain⟨rfl,rfl⟩:=e4;have ha:BB u k (.cut v' j ya yb) (.cut v' j yc yd) "cross"=some (.cut v' j (.cut u k ya yc) (.cut u k yb yd)):=by
        rw[BB,if_neg (by decide +kernel),if_neg (by decide +kernel),if_pos rfl,Ce,if_neg ev,if_pos ⟨rfl,rfl⟩]
       obtain⟨ts,hts,_⟩:=ml.same s14;refine⟨_,rfl,.inl ⟨rfl,_,SqL.of hts⟩,_,rfl,Au 2,λ p5 n5=>?_⟩;obtain⟨ts',g1,g2,g3,g4,g5⟩:=add et (s1.trans s14) nl (ml.same s14) cn (by lia) ha n5;exact⟨l,_,_,rfl,rfl,g1,g2,_,rfl,q l _ _ g3 nl g4 g5 (by rw[List.length_append,List.length_singleton];lia)⟩
      .exact A8 (de.trans (decide_eq_false e4)) ⟨_,rfl,out H4 s14⟩
  obtain⟨t4,h4,k4⟩:∃rd,PSs (B5 CX0 P w K mg base Nv "_law_moves" (Af AK) f cdv A outer s H E).nox ((A4 AK).drop 4) rd/\∀(x0 x3:Option V)(u:Bool)(k:Int)(v1 v2:V)(y1 y2:Tr)(l:Addr)(L:List Mv)(H1:Hp),t=.cut u k y1 y2->Same H H1->Told H1 y1 v1->Told H1 y2 v2->H l=none->MvO H1 l (pfx st L)->(∀m∈L,Can t m)->L.length+5<=3*t.sz->rd { nx:=λ_ H'=>Q .non H',rt:=Q } [x0,some (.ref sa),some (.str (wd u)),x3,some v1,some v2,some (.ref l)] H1:=by
   refine⟨_,(Ac (A0 (Ak AN (Aq An (pv 5) Ae (λ_ _=>rfl)) (pv 2) (As _)) (Ad (AU (Ca PySem.F.plainAttrs_list PySem.F.slot_list_append PySem.F.type_list_append AD (pv 6) (Aa (Av (Aa (pv 1) (Aa A6 Ab))) Ab)))) Al)
   h5),?_⟩
   intro x0 x3 u k v1 v2 y1 y2 l L H1 et s1 t1 t2 nl ml cn ln;obtain⟨a2,r2,rfl,e2,z2⟩:=FR t2;refine⟨_,rfl,a2,_,_,_,rfl,rfl,SqT.of e2,P7,_,rfl,rfl,_,rfl,Bo (λ c=>?_) (λ c=>?_)⟩
   .obtain⟨j,ya,yb,rfl⟩:=Pf c;have ha:BB u k y1 (.cut u j ya yb) "back"=some (.cut u (k+j) (.cut u k y1 ya) yb):=by
     rw[BB,if_neg (by decide +kernel),if_pos rfl,F8,if_pos rfl]
    obtain⟨ts,hts,_⟩:=id ml;refine⟨_,rfl,.inl ⟨rfl,_,SqL.of hts⟩,_,rfl,Au 2,λ p5 n5=>?_⟩;obtain⟨ts',g1,g2,g3,g4,g5⟩:=add et s1 nl ml cn (by lia) ha n5;refine⟨l,_,_,rfl,rfl,g1,g2,?_⟩;obtain⟨m1,m2⟩:=kept ml t1 t2 n5 g1;exact k5 x0 x3 u k v1 _ y1 _ l _ _ et g3 m1 m2 nl g4 g5 (by rw[List.length_append,List.length_singleton];lia)
   .exact k5 x0 x3 u k v1 _ y1 y2 l L H1 et s1 t1 t2 nl ml cn (by lia)
  obtain⟨t3,h3,k3⟩:∃rd,PSs (B5 CX0 P w K mg base Nv "_law_moves" (Af AK) f cdv A outer s H E).nox ((A4 AK).drop 3) rd/\∀(x0 x3:Option V)(u:Bool)(k:Int)(v1 v2:V)(y1 y2:Tr)(l:Addr)(L:List Mv)(H1:Hp),t=.cut u k y1 y2->Same H H1->Told H1 y1 v1->Told H1 y2 v2->H l=none->MvO H1 l (pfx st L)->(∀m∈L,Can t m)->L.length+6<=3*t.sz->rd { nx:=λ_ H'=>Q .non H',rt:=Q } [x0,some (.ref sa),some (.str (wd u)),x3,some v1,some v2,some (.ref l)] H1:=by
   refine⟨_,(Ac (A0 (Ak AN (Aq An (pv 4) Ae (λ_ _=>rfl)) (pv 2) (As _)) (Ad (AU (Ca PySem.F.plainAttrs_list PySem.F.slot_list_append PySem.F.type_list_append AD (pv 6) (Aa (Av (Aa (pv 1) (Aa A6 Ab))) Ab)))) Al)
   h4),?_⟩
   intro x0 x3 u k v1 v2 y1 y2 l L H1 et s1 t1 t2 nl ml cn ln;obtain⟨a1,r1,rfl,e1,z1⟩:=FR t1;refine⟨_,rfl,a1,_,_,_,rfl,rfl,SqT.of e1,P7,_,rfl,rfl,_,rfl,Bo (λ c=>?_) (λ c=>?_)⟩
   .obtain⟨j,ya,yb,rfl⟩:=Pf c;have ha:BB u k (.cut u j ya yb) y2 "lean"=some (.cut u j ya (.cut u (k-j) yb y2)):=by
     rw[BB,if_pos rfl,F3,if_pos rfl]
    obtain⟨ts,hts,_⟩:=id ml;refine⟨_,rfl,.inl ⟨rfl,_,SqL.of hts⟩,_,rfl,Au 2,λ p5 n5=>?_⟩;obtain⟨ts',g1,g2,g3,g4,g5⟩:=add et s1 nl ml cn (by lia) ha n5;refine⟨l,_,_,rfl,rfl,g1,g2,?_⟩;obtain⟨m1,m2⟩:=kept ml t1 t2 n5 g1;exact k4 x0 x3 u k _ v2 _ y2 l _ _ et g3 m1 m2 nl g4 g5 (by rw[List.length_append,List.length_singleton];lia)
   .exact k4 x0 x3 u k _ v2 y1 y2 l L H1 et s1 t1 t2 nl ml cn (by lia)
  refine⟨_,(Ac (A0 (Ak AN (Aq An (pv 0) Ae (λ_ _=>rfl)) A6 (As _)) (Ad (Aj (AQ Ab))) Al)
   (Ac (G3 (pv 0) (CO rfl (A1 (Aw (i:=2) S.nd rfl (Or.inl rfl)) (A1 (Aw (i:=3) S.nd rfl (Or.inl rfl)) (A1 (Aw (i:=4) S.nd rfl (Or.inl rfl)) (A1 (Aw (i:=5) S.nd rfl (Or.inl rfl)) B1))))))
   (Ac (Ao (i:=6) S.nd rfl (Or.inl rfl) (Ax CQ (Ai D__law_moves hr (Aa (pv 4) (Aa (Ax Ck (pv 1) (Av (Aa Ae Ab))) Ab)) (by lia)) (Ai D__law_moves hr (Aa (pv 5) (Aa (Ax Ck (pv 1) (Av (Aa Ae Ab))) Ab)) (by lia))))
   h3))),?_⟩
  cases t with
  |whole m =>
   rw[Told]at ht;obtain⟨a,rfl,ha⟩:=ht;exact⟨_,rfl,a,_,_,_,rfl,rfl,SqT.of ha,D7,rfl,_,rfl,AH (decide_eq_true rfl) ⟨Au 0,λ l nl=>q l [] _ (Same.new nl) nl (MvO.nil upd_same) (λ_ z=>nomatch z) (Nat.le_refl 3)⟩⟩
  |cut u k y1 y2 =>
   rw[Told]at ht;obtain⟨a,v1,v2,rfl,ha,t1,t2⟩:=ht;have hd:max y1.dp y2.dp+1<n+1:=hd;have hl:st.length+(max y1.dp y2.dp+1)<=100:=hl;have hz:y1.sz+y2.sz<=150:=hz;refine⟨_,rfl,a,_,_,_,rfl,rfl,SqT.of ha,at0,rfl,_,rfl,A8 (AZ u) ?_⟩;refine⟨_,rfl,a,_,rfl,SqT.of ha,rfl,_,_,rfl,_,_,rfl,_,_,rfl,_,_,rfl,rfl,?_⟩;refine⟨_,rfl,_,rfl,Au 1,λ p hp=>?_⟩;obtain⟨H1,e,s1,e1⟩:=nw (.tup [.int 0]) hp;rw[e];clear e;refine Lh (s1 _ _ hs) e1 (by lia) λ sb H2 s2 e2=>?_;have s12:=s1.trans s2;refine⟨v1,y1,st++[0],sb,rfl,t1.same s12,e2,by lia,by rw[List.length_append,List.length_singleton];lia,by lia,λ l1 L1 H3 s3 nl1 m1 c1 n1=>?_⟩;have s13:=s12.trans s3;refine⟨_,rfl,_,rfl,Au 1,λ p' hp'=>?_⟩;obtain⟨H4,e,s4,e4⟩:=nw (.tup [.int 1]) hp';rw[e];clear e;refine Lh ((s13.trans s4) _ _ hs) e4 (by lia) λ sc H5 s5 e5=>?_;have s15:=(s13.trans s4).trans s5;refine⟨v2,y2,st++[1],sc,rfl,t2.same s15,e5,by lia,by rw[List.length_append,List.length_singleton];lia,by lia,λ l2 L2 H6 s6 nl2 m2 c2 n2=>?_⟩;rw[CP]at m1 m2;have szE:(Tr.cut u k y1 y2).sz=y1.sz+y2.sz:=rfl;refine MvO.cat (m1.same ((s4.trans s5).trans s6)) m2 (by rw[Bv,Bv,Bg,Bg];lia) λ l7 H7 s7 n7 m7=>?_;rw[<-Ch]at m7;have s17:=(s15.trans s6).trans s7;exact k3 _ _ u k v1 v2 y1 y2 l7 _ H7 rfl s17 (t1.same s17) (t2.same s17) (BM (s15.trans s6) n7) m7 (Nr (P3 c1) (P2 c2)) (by rw[List.length_append,Bg,Bg,szE];lia)
theorem QE{t s:Tr}{ww hh:Int}(w1:1<=ww)(w2:ww<=12)(h1:1<=hh)(h2:hh<=12)(f:Fit t ww hh)(g:Fit s ww hh)(pm:(At t ⟨0,0,hh,ww⟩).Perm (At s ⟨0,0,hh,ww⟩)) :
  Bu t (mto t s)=some s/\((mto t s).length:Int)<=(s.sz:Int)*((s.sz:Int)-1)/\(∀x∈mto t s,MvOk 200 x)/\t.sz=s.sz/\t.dp<24/\s.dp<24/\s.sz<=150/\t.nd<=400/\s.nd<=400:=by
 have ok:Rk.ok ⟨0,0,hh,ww⟩:=⟨show(0:Int)<hh by lia,show(0:Int)<ww by lia⟩;obtain⟨r,l⟩:=E9 ok (Fg f) (Fg g) pm;have e:=pm.length_eq;rw[Ay,Ay]at e;have d1:=CU w1 h1 f;have d2:=CU w1 h1 g;have z2:=Ei w1 h1 g;have z3:ww*hh<=12*12:=Int.mul_le_mul w2 h2 (by lia) (by lia);have n1:=IH t;have n2:=IH s;refine⟨r,?_,λ x hx=>(Me s t x hx).mono (by lia),e,by lia,by lia,by lia,by lia,by lia⟩;have sp:=Bx s;have:((s.sz*(s.sz-1):Nat):Int)=(s.sz:Int)*((s.sz:Int)-1):=by
  rw[Int.natCast_mul,Int.natCast_sub sp];rfl
 lia
def mvD(m:Mv):D:=.tup (.cons (.tup (Da m.1)) (.cons (.at (.str m.2)) .nil))
def Ia:List Mv->Ds
 |[]=>.nil
 |m::r=>.cons (mvD m) (Ia r)
theorem MX{K:Frag}{H:Hp}:∀{ts:List MT},MvsO H ts->DIss K H (Ia (ts.map (·.2.2))) (Cl ts)
 |[],_=>by
  show DIss K H .nil [];rw[DIss]
 |t::r,h=>by
  show DIss K H (.cons (mvD t.2.2) (Ia (r.map (·.2.2)))) (.ref t.1::Cl r);rw[DIss];refine⟨_,_,rfl,?_,MX λ u hu=>h u (List.mem_cons_of_mem _ hu)⟩;obtain⟨h1,h2⟩:=h t List.mem_cons_self;rw[mvD,DIs];refine⟨t.1,_,rfl,SqT.of h1,?_⟩;rw[DIss];refine⟨_,_,rfl,by rw[DIs];exact⟨_,_,rfl,SqT.of h2,GY _⟩,?_⟩;rw[DIss];exact⟨_,_,rfl,by rw[DIs];exact⟨rfl,rfl⟩,by rw[DIss]⟩
theorem KR:∀(L:List Mv),Be (Ia L)<=2
 |[]=>by rw[Ia,Be];lia
 |m::r=>by
  have:=KR r;rw[Ia,Be,mvD,dep,Be,dep,Be,Be,dep,Fc];lia
theorem ON(L:List Mv):Bd (Ia L) .nil=decide (L=[]):=by
 cases L with
 |nil=>rw[Ia,Bd,decide_eq_true rfl]
 |cons m r=>rw[Ia,Bd,decide_eq_false (by intro z;cases z)]<;>(intros;contradiction)
def Frm(ww hh:Int)(t G:Tr):Prop:=Fit G ww hh/\∃L,Due t ww hh L/\IsF G L ⟨0,0,hh,ww⟩/\(At G ⟨0,0,hh,ww⟩).Perm L
theorem Nh{ww hh:Int}{t r G1 G2:Tr}(w1:1<=ww)(w2:ww<=12)(h1:1<=hh)(h2:hh<=12)(ft:Fit t ww hh)(a:Frm ww hh t G1)(b:Frm ww hh r G2):G1=G2↔(At t ⟨0,0,hh,ww⟩).Perm (At r ⟨0,0,hh,ww⟩):=by
 obtain⟨f1,L1,d1,i1,p1⟩:=a;obtain⟨f2,L2,d2,i2,p2⟩:=b
 constructor
 .intro e;subst e;exact d1.1.symm.trans (p1.symm.trans (p2.trans d2.1))
 .intro pm;have e:=(Nm w1 w2 h1 h2 ft d1 d2).mpr pm;subst e;exact GV (ok0 w1 h1) i1 i2
theorem Gh:∀{t s:Tr},Fr t s->s.sz<=t.sz
 |.whole m,s,h=>by
  obtain⟨m',rfl,n⟩:=h;exact Nat.le_refl _
 |.cut u k x y,s,h=>by
  have px:=Bx x;have py:=Bx y;rcases h with rfl|⟨x',rfl,h⟩|⟨y',rfl,h⟩
  .show 1<=x.sz+y.sz;lia
  .have:=Gh h;show x'.sz+y.sz<=x.sz+y.sz;lia
  .have:=Gh h;show x.sz+y'.sz<=x.sz+y.sz;lia
theorem NF{t s ti:Tr}{L:List Mv}{i:Nat}{m:Mv}(h:Bu t L=some s)(hm:L[i]?=some m)(hi:Bu t (L.take i)=some ti):∃tn,mvd ti m.1 m.2=some tn/\Bu t (L.take (i+1))=some tn:=by
 obtain⟨h1,h2⟩:=List.getElem?_eq_some_iff.mp hm;rw[<-List.take_append_drop i L,B7,hi,List.drop_eq_getElem_cons h1,h2]at h;have h:(mvd ti m.1 m.2).bind (Bu · (L.drop (i+1)))=some s:=h;cases q:mvd ti m.1 m.2 with
 |none=>rw[q]at h;cases h
 |some tn =>
  refine⟨tn,rfl,?_⟩;rw[List.take_succ,hm,B7,hi];show(mvd ti m.1 m.2).bind (Bu · [])=some tn;rw[q];rfl
theorem O4{K:Frag}{H H':Hp}{a:Addr}{xs:LUz}(h:SqL K H a xs)(s:SameN H H'):SqL K H' a xs:=h.imp (λ z=>z.elim (λ e=>.inl (s.lst e)) λ⟨o,e⟩=>.inr ⟨o,s _ _ e λ_ z=>nomatch z⟩) id
abbrev Nw:LSz:=["_law_script","_law_width","_law_height","_law_block","_law_told_here","_law_first","_law_tree_here","_law_due","_law_now","_law_cell_here","_law_moves_here","_law_way","_law_many","_law_move","_law_other"]
theorem SZ:Am Nw ["_law_script"] (Af CZ):=fsc
inductive N4(tb tb3:Addr)(K:Frag)(vs:LUz)(H:Hp)(Q:VK)(E:XK):Prop
 |mk (a:Addr) (ns:List Int) (h0:vs=[.ref a]) (h1:SqL K H a (ns.map V.int)) (h2:ns.length<=63) (h3:H tb=some (.tbl #[])) (h4:H tb3=some (.tbl #[])) (h5:∀H',Q (.bl true) H'):N4 tb tb3 K vs H Q E
def sp_law(tb tb3:Addr)(K:Frag) :Sp:=λ vs H Q E=>N4 tb tb3 K vs H Q E
theorem RR{f tb tb3 cX:Addr}{fd:FuncData}(F:Fun K "law" "law" CZ f fd)(T:Txt mg tk)(hne:tb≠tb3)(D__law_cell:Ap P w K mg base 1 "_law_cell" ["_law_script","_law_k"] (MG K))(D__law_draw:Ap P w K mg base 1 "_law_draw" ["_law_cell_here","_law_nth","_law_many"] J0)(D__law_state:Ap P w K mg base 1 "_law_state" ["_law_cell_here"] Gk)
  (D__law_tree:Ap P w K mg base 28 "_law_tree" ["_law_cells","_law_width","_law_height"] (Ev 25)) (D__law_pieces:Ap P w K mg base 27 "_law_pieces" ["_law_told_here","_law_block"] (BS 24)) (D__law_recut:Ap P w K mg base 28 "_law_recut" ["_law_some","_law_block","_law_state_here"] (Df 25)) (D__law_made:Ap P w K mg base 27 "_law_made" ["_law_told_here"] (Ew cW cU cL 24)) (D_form:Ap P w K mg base 9 "form" ["tree","width","height"] (Jz tb tb3 cW cU cL)) (D__law_told:Ap P w K mg base 27 "_law_told" ["_law_tree_here"] (Dg cW cU cL 24))
  (D_alike:Ap P w K mg base 6 "alike" ["tree","other","width","height"] (Ey tb cW cU cL)) (D__law_spoiled:Ap P w K mg base 27 "_law_spoiled" ["_law_told_here","_law_cell_here"] (BR 24)) (D__law_moves:Ap P w K mg base 27 "_law_moves" ["_law_told_here","_law_steps"] (C0 24)) (D_moved:Ap P w K mg base 6 "moved" ["tree","move"] (O6 cW cU cL)) (D_led:HP P w K mg base 53 "led" ["tree","other","width","height"] (Jx tb cW cU cL cX)) (D__law_refused:Ap P w K mg base 54 "_law_refused" ["_law_one","_law_two","_law_width","_law_height"] (Jw tb cW cU cL)):A5 P w K mg base CX0 55 f fd ["_law_script"] (sp_law tb tb3 K):=by
 have S:=SZ;refine F.ok S (λ vs H Q E h=>?_) (λ cdv A outer s H vs Q E hr h=>?_)
 .obtain⟨a,ns,rfl,_⟩:=h;rfl
 .obtain⟨a,ns,rfl,hS,hlen,htb,htb3,q⟩:=h;obtain⟨tE,hE,kE⟩:∃rd,PSs (B5 CX0 P w K mg base Nw "law" (Af CZ) f cdv A outer s H E).nox ((A4 CZ).drop 13) rd/\∀(x3 x4 x8 x9 x10 x11 x12 x13:Option V)(ww hh:Int)(vf oc vd:V)(r G:Tr)(H1:Hp),SqL K H1 a (ns.map V.int)->1<=ww->ww<=12->1<=hh->hh<=12->Told H1 r vf->Told H1 G vd->Obj cW cU cL H1 r oc->Fit r ww hh->r.sz<64->Frm ww hh r G->TabOk Db C8 tb H1->TabOk DQ D0 tb3 H1 ->
    rd { nx:=λ_ H'=>Q .non H',rt:=Q } [some (.ref a),some (.int ww),some (.int hh),x3,x4,some vf,some oc,some vd,x8,x9,x10,x11,x12,x13,none] H1:=by
   refine⟨_,(Ac (A0 (Ak (LR hr) (Ai D__law_told hr (Aa (pv 6) Ab)) (pv 5) (As _)) (Ad (Aj Fy)) Al)
   (Ac (Ao (i:=14) S.nd rfl (Or.inl rfl) (Ai D__law_made hr (Aa (Ai D__law_spoiled hr (Aa (pv 5) (Aa (Ai D__law_cell hr (Aa (pv 0) (Aa Ae Ab))) Ab))) Ab)))
   (Ac (A0 (Ak (JF hr) (Ai D__law_told hr (Aa (Ai D_form hr (Aa (pv 14) (Aa (pv 1) (Aa (pv 2) Ab)))) Ab)) (pv 7) (As _)) (Ad (Aj Fy)) Al)
   (Ad (Aj (Du (Ai D__law_refused hr (Aa (pv 6) (Aa (pv 14) (Aa (pv 1) (Aa (pv 2) Ab))))) (Ee (Ai D__law_refused hr (Aa (pv 14) (Aa (pv 6) (Aa (pv 1) (Aa (pv 2) Ab)))))))))))),?_⟩
   intro x3 x4 x8 x9 x10 x11 x12 x13 ww hh vf oc vd r G H1 hS1 w1 w2 h1 h2 tf tG ob fr r64 fG tab tab3;obtain⟨_,ndr,dpr⟩:=AF w1 w2 h1 h2 fr;refine⟨_,rfl,oc,r,rfl,ob,dpr,λ u2 H2 s2 tu=>?_⟩;have D1:=Dc (K:=K) tu;have D2:=Dc (K:=K) (tf.same s2);refine⟨_,rfl,_,_,D1,D2,BQ tu,BQ (tf.same s2),by have:=Er r;lia,_,rfl,A8 (by rw[if_pos rfl,Cd _ D1];rfl) ?_⟩;refine⟨_,rfl,_,rfl,a,ns,3,rfl,s2.seq hS1,by decide,λ z=>⟨vf,r,z,rfl,tf.same s2,dpr,λ v' r' H3 s3 t3 sp=>?_⟩⟩;have fr':Fit r' ww hh:=DR (EO (Fg fr) sp);have r64':=Gh sp;obtain⟨_,nd',dp'⟩:=AF w1 w2 h1 h2 fr';refine⟨v',r',rfl,t3,dp',λ o' H4 s4 b4=>?_⟩;have s14:=(s2.trans s3).trans s4;refine⟨_,rfl,_,rfl,_,rfl,o',r',ww,hh,rfl,b4,nd',by lia,tab.same s14,tab3.same s14,w1,w2,h1,h2,fr',λ g' G' L' H5 s5 tab5 tab35 du og fg isf gp=>?_⟩;obtain⟨_,_,dpg⟩:=AF w1 w2 h1 h2 fg;refine⟨g',G',rfl,og,dpg,λ u6 H6 s6 t6=>?_⟩;have s56:=s5.trans s6.n;have s16:=s14.n.trans s56;have D3:=Dc (K:=K) t6;have np:¬(At r' ⟨0,0,hh,ww⟩).Perm (At r ⟨0,0,hh,ww⟩):=Gi sp;have ne:G'≠G:=λ e=>np ((Nh w1 w2 h1 h2 fr' ⟨fg,L',du,isf,gp⟩ fG).mp e);refine⟨_,rfl,_,_,D3,Dc (tG.n s16),BQ t6,BQ (tG.n s16),by have:=Er G';lia,_,rfl,A8 ?_ ?_⟩
   .rw[if_neg Bool.false_ne_true];cases e:deq (trD G') (trD G) with
    |false=>rfl
    |true=>exact absurd (LA e) ne
   have tab6:=tab5.same s6;refine⟨_,rfl,_,rfl,_,rfl,_,rfl,oc,o',r,r',ww,hh,rfl,ob.n s16,b4.n s56,r64,by lia,tab6,w1,w2,h1,h2,fr,fr',λ pm=>np pm.symm,λ H7 s7 tab7=>?_⟩;exact⟨_,rfl,AH rfl ⟨_,rfl,_,rfl,_,rfl,_,rfl,o',oc,r',r,ww,hh,rfl,b4.n (s56.trans s7),ob.n (s16.trans s7),by lia,r64,tab7,w1,w2,h1,h2,fr',fr,np,λ H8 s8 tab8=>q H8⟩⟩
  obtain⟨tD,hD,kD⟩:∃rd,PSs (B5 CX0 P w K mg base Nw "law" (Af CZ) f cdv A outer s H E).nox ((A4 CZ).drop 9) rd/\∀(x4 x8 x9 x10:Option V)(ww hh:Int)(bk:Addr)(vf oc vd:V)(r t G:Tr)(H1:Hp),SqL K H1 a (ns.map V.int)->1<=ww->ww<=12->1<=hh->hh<=12->H1 bk=some (.tup [.int 0,.int 0,.int hh,.int ww])->Told H1 r vf->Told H1 G vd->Obj cW cU cL H1 t oc->Fit r ww hh->Fit t ww hh->(At t ⟨0,0,hh,ww⟩).Perm (At r ⟨0,0,hh,ww⟩)->r.sz<64->Frm ww hh r G->TabOk Db C8 tb H1->TabOk DQ D0 tb3 H1 ->
    rd { nx:=λ_ H'=>Q .non H',rt:=Q } [some (.ref a),some (.int ww),some (.int hh),some (.ref bk),x4,some vf,some oc,some vd,x8,x9,x10,none,none,none,none] H1:=by
   refine⟨_,(Ac (Ao (i:=11) S.nd rfl (Or.inl rfl) (RN D_led hr Q2 (Aa (pv 6) (Aa (Ai D__law_made hr (Aa (pv 5) Ab)) (Aa (pv 1) (Aa (pv 2) Ab))))))
   (Ac (Ao (i:=12) S.nd rfl (Or.inl rfl) (A3 Bi rfl T.z_len rfl (Aa (Ai D__law_pieces hr (Aa (pv 5) (Aa (pv 3) Ab))) Ab)))
   (Ac (A0 (Ak IG (A3 Bi rfl T.z_len rfl (Aa (pv 11) Ab)) (Ax FW (pv 12) (Ax B4 (pv 12) Ae)) (As _)) (Ad (Aj Fy)) Al)
   (Ac (CN PassesOwn.never rfl (BD (pv 11)) (Aw (i:=13) S.nd rfl (Or.inl rfl)) (Ad (Ao (i:=6) S.nd rfl (Or.inl rfl) (Ai D_moved hr (Aa (pv 6) (Aa (pv 13) Ab))))))
   hE)))),?_⟩
   intro x4 x8 x9 x10 ww hh bk vf oc vd r t G H1 hS1 w1 w2 h1 h2 hbk tf tG ob fr ft pm r64 fG tab tab3;obtain⟨_,ndr,dpr⟩:=AF w1 w2 h1 h2 fr;obtain⟨rn,ll,mo,szE,_,_,_,_,_⟩:=QE w1 w2 h1 h2 ft fr pm;refine⟨_,rfl,_,rfl,vf,r,rfl,tf,dpr,λ o2 H2 s2 b2=>⟨_,rfl,_,rfl,oc,o2,t,r,ww,hh,rfl,ob.same s2,b2,by lia,r64,tab.same s2,w1,w2,h1,h2,ft,fr,λ_ l H3 sx tb3' ml=>?_,λ np=>absurd pm np⟩⟩;have tbl2:=(tab.same s2).tbl;have s13:=s2.n.trans (sx.toN tbl2);have tb33:=(tab3.same s2).tb sx (Ne.symm hne) tbl2;refine⟨_,rfl,_,rfl,vf,r,bk,⟨0,0,hh,ww⟩,rfl,tf.n s13,s13.tup hbk,dpr,ndr,λ lp ts H4 s4 nl4 hl4 pc ec=>⟨lp,_,rfl,.inl (SqL.of hl4),?_⟩⟩;have el:=congrArg List.length ec;rw[Ay,List.length_map]at el;rw[List.length_map,el];obtain⟨us,u1,u2,ue⟩:=ml.same s4;have ul:=congrArg List.length ue;rw[List.length_map]at ul;have sp:=Bx r;refine⟨_,rfl,l,_,rfl,.inl (SqL.of u1),_,rfl,_,rfl,_,_,rfl,rfl,_,_,rfl,rfl,MY (by lia) (by lia) (by lia) (by lia),_,_,rfl,rfl,_,rfl,A8 (decide_eq_false (by rw[List.length_map,ul];lia)) ?_⟩;have s14:=s13.trans s4.n;refine⟨_,rfl,l,rfl,⟨_,SqL.of u1⟩,ED (K:=K) (a:=l) (xs:=Cl us) (λ i σ H'=>∃(xm:Option V)(oi:V)(ti:Tr),σ=[some (.ref a),some (.int ww),some (.int hh),some (.ref bk),x4,some vf,some oi,some vd,x8,x9,x10,some (.ref l),some (.int (r.sz:Int)),xm,none]/\Same H4 H'/\Obj cW cU cL H' ti oi/\AO ⟨0,0,hh,ww⟩ ti/\Bu t ((mto t r).take i)=some ti) ⟨_,oc,t,rfl,Same.refl _,ob.n s14,Fg ft,rfl⟩ (λ i σ H' _ hp=>let ⟨_,_,_,_,s',_⟩:=hp;SqL.of (s' _ _ u1)) ?_ ?_⟩
   .rintro i x σ H5 hx ⟨xm,oi,ti,rfl,s5,oo,fi,ri⟩;obtain⟨u,hu,rfl⟩:=Kz (ts:=us) hx;have hm:(mto t r)[i]?=some u.2.2:=by rw[<-ue,List.getElem?_map,hu];rfl
    obtain⟨tn,mvn,rn1⟩:=NF rn hm ri;obtain⟨g1,g2⟩:=(u2.same s5) u (List.mem_of_getElem? hu);obtain⟨_,_,ml200⟩:=mo _ (List.mem_of_getElem? hm);obtain⟨fn,_⟩:=E8 fi mvn;obtain⟨_,ndn,_⟩:=AF w1 w2 h1 h2 (DR fn);exact⟨_,rfl,_,rfl,oi,ti,tn,u.2.2.1,u.2.1,u.1,u.2.2.2,rfl,oo,g1,g2,ml200,mvn,ndn,λ v' H6 s6 o6=>⟨_,v',tn,rfl,s5.trans s6,o6,fn,rn1⟩⟩
   .rintro σ H5 ⟨xm,oi,ti,rfl,s5,oo,fi,ri⟩;rw[List.length_map,ul,List.take_length,rn]at ri;cases ri;have s15:=s14.trans s5.n;have s35:=s4.trans s5;exact kE _ _ _ _ _ _ _ _ ww hh vf oi vd r G H5 (O4 hS1 s15) w1 w2 h1 h2 (tf.n s15) (tG.n s15) oo fr r64 fG (tb3'.same s35) (tb33.same s35)
  obtain⟨tC,hC,kC⟩:∃rd,PSs (B5 CX0 P w K mg base Nw "law" (Af CZ) f cdv A outer s H E).nox ((A4 CZ).drop 8) rd/\∀(x4:Option V)(ww hh:Int)(bk:Addr)(vf oc vd:V)(r G:Tr)(H1:Hp),SqL K H1 a (ns.map V.int)->1<=ww->ww<=12->1<=hh->hh<=12->H1 bk=some (.tup [.int 0,.int 0,.int hh,.int ww])->Told H1 r vf->Told H1 G vd->Obj cW cU cL H1 r oc->Fit r ww hh->r.sz<64->Frm ww hh r G->TabOk Db C8 tb H1->TabOk DQ D0 tb3 H1 ->
    rd { nx:=λ_ H'=>Q .non H',rt:=Q } [some (.ref a),some (.int ww),some (.int hh),some (.ref bk),x4,some vf,some oc,some vd,some vf,none,none,none,none,none,none] H1:=by
   refine⟨_,(Ac (CN PassesOwn.never rfl (BD (E4 MJ (pv 0) (DE Ae) (DE Ae))) (Aw (i:=9) S.nd rfl (Or.inl rfl)) (Ac (Ao (i:=10) S.nd rfl (Or.inl rfl) (Ai D__law_moves hr (Aa (pv 8) (Aa (Av Ab) Ab))))
   (Ad (A0 (Ak (LR hr) (pv 10) (AQ Ab) (As _)) (Ac (Ao (i:=6) S.nd rfl (Or.inl rfl) (Ai D_moved hr (Aa (pv 6) (Aa (Aq Bm (pv 10) (Ai D__law_draw hr (Aa (pv 9) (Aa Ae (Aa (A3 Bi rfl T.z_len rfl (Aa (pv 10) Ab)) Ab)))) (λ_ _=>rfl)) Ab))))
   (Ac (Ao (i:=8) S.nd rfl (Or.inl rfl) (Ai D__law_told hr (Aa (pv 6) Ab)))
   (Ac (A0 (PW.pt (Fw (Ak GC (pv 8) Br (As _)) (EW (Ak (LR hr) (Ai D__law_told hr (Aa (Ai D_form hr (Aa (pv 6) (Aa (pv 1) (Aa (pv 2) Ab)))) Ab)) (pv 7) (As _))))) (Ad (Aj Fy)) Al)
   (Ad (A0 (Ak Q4 (Ai D_alike hr (Aa (pv 6) (Aa (Ai D__law_made hr (Aa (pv 5) Ab)) (Aa (pv 1) (Aa (pv 2) Ab))))) Fy (As _)) (Ad (Aj Fy)) Al))))) Al))))
   hD),?_⟩
   intro x4 ww hh bk vf oc vd r G H1 hS1 w1 w2 h1 h2 hbk tf tG ob fr r64 fG tab tab3;obtain⟨_,ndr,dpr⟩:=AF w1 w2 h1 h2 fr;refine⟨_,rfl,24,rfl,48,rfl,a,_,rfl,hS1,λ lc nlc=>?_⟩;obtain⟨cs,ecs⟩:∃cs:List Int,Fk (ns.map V.int) (some 24) (some 48)=cs.map V.int:=⟨_,by unfold Fk;rw[<-List.map_drop,<-List.map_take]⟩;rw[ecs];obtain⟨H2,e,s2,e2⟩:=nw (.lst (cs.map V.int)) nlc;rw[e];clear e;refine⟨lc,rfl,⟨_,SqL.of e2⟩,ED (K:=K) (a:=lc) (xs:=cs.map V.int) (λ i σ H'=>∃(x9 x10:Option V)(oi vn:V)(ti:Tr),σ=[some (.ref a),some (.int ww),some (.int hh),some (.ref bk),x4,some vf,some oi,some vd,some vn,x9,x10,none,none,none,none]/\SameN H2 H'/\TabOk Db C8 tb H'/\TabOk DQ D0 tb3 H'/\Obj cW cU cL H' ti oi/\Told H' ti vn/\AO ⟨0,0,hh,ww⟩ ti/\(At ti ⟨0,0,hh,ww⟩).Perm (At r ⟨0,0,hh,ww⟩)) ⟨_,_,oc,vf,r,rfl,SameN.refl _,tab.same s2,tab3.same s2,ob.same s2,tf.same s2,Fg fr,List.Perm.refl _⟩ (λ i σ H' _ hp=>let ⟨_,_,_,_,_,_,s',_⟩:=hp;SqL.of (s'.lst e2)) ?_ ?_⟩
   .rintro i x σ H3 hx ⟨x9,x10,oi,vn,ti,rfl,s3,tb1,tb2,oo,tn,fi,pi⟩;obtain⟨c,_,rfl⟩:=GX hx;have szi:=pi.length_eq;rw[Ay,Ay]at szi;obtain⟨_,ndi,dpi⟩:=AF w1 w2 h1 h2 (DR fi);refine⟨_,rfl,Au 0,λ em nem=>?_⟩;obtain⟨H4,g,s4,e4⟩:=nw (.tup []) nem;rw[g];have e4:H4 em=some (.tup ((([]:List Int)).map V.int)):=e4;refine⟨vn,ti,[],em,rfl,tn.same s4,e4,dpi,by show 0+ti.dp<=100;lia,by lia,λ l L H5 s5 nl ml can ln=>?_⟩;rw[MR]at ml;have s35:=s4.trans s5;obtain⟨us,u1,u2,ue⟩:=ml;have ul:=congrArg List.length ue;rw[List.length_map]at ul;refine⟨_,rfl,Au 0,λ el nel=>?_⟩;obtain⟨H6,e,s6,e6⟩:=nw (.lst []) nel;rw[e];clear e;have s36:=s35.trans s6;have D1:DIs K H6 (.lst (Ia L)) (.ref l):=by
     rw[DIs];exact⟨l,_,rfl,SqL.of (s6 _ _ u1),ue ▸ MX (u2.same s6)⟩
    refine⟨_,_,D1,SB e6,⟨_,rfl⟩,⟨_,rfl⟩,by have:=KR L;rw[dep];lia,_,rfl,?_⟩;rw[if_pos rfl,deq,ON];cases hL:L with
    |nil=>exact A8 rfl ⟨_,_,oi,vn,ti,rfl,s3.trans s36.n,tb1.same s36,tb2.same s36,oo.same s36,tn.same s36,fi,pi⟩
    |cons m0 L0 =>
     rw[<-hL];have Lp:0<L.length:=by rw[hL];exact Nat.succ_pos _
     refine AH (by rw[hL,decide_eq_false (by intro z;cases z)];rfl) ?_;have u16:=s6 _ _ u1;refine⟨_,rfl,_,rfl,_,rfl,_,rfl,l,_,rfl,.inl (SqL.of u16),c,3,_,rfl,by decide,by decide,by rw[List.length_map,ul];lia,λ z z0 z1=>?_⟩;rw[List.length_map]at z1;obtain⟨u,hu,hat⟩:=MK (ts:=us) z0 z1;have hm:u.2.2∈L:=by rw[<-ue];exact List.mem_map.mpr ⟨u,hu,rfl⟩
     obtain⟨⟨tn',mvn⟩,mlen⟩:=can _ hm;obtain⟨fn,pn⟩:=E8 fi mvn;obtain⟨_,ndn,dpn⟩:=AF w1 w2 h1 h2 (DR fn);have pr:=pn.trans pi;have szn:=pr.length_eq;rw[Ay,Ay]at szn;obtain⟨g1,g2⟩:=(u2.same s6) u hu;refine⟨l,_,_,_,rfl,rfl,SqL.of u16,hat,oi,ti,tn',u.2.2.1,u.2.1,u.1,u.2.2.2,rfl,oo.same s36,g1,g2,by lia,mvn,ndn,λ on H7 s7 o7=>?_⟩;refine⟨_,rfl,on,tn',rfl,o7,dpn,λ vn' H8 s8 t8=>?_⟩;obtain⟨av,rfl⟩:=BQ t8;refine⟨_,rfl,rfl,_,rfl,A8 (decide_eq_false (by intro z;cases z)) ?_⟩;have s38:=(s36.trans s7).trans s8;refine⟨_,rfl,_,rfl,_,rfl,on,tn',ww,hh,rfl,o7.same s8,ndn,by lia,tb1.same s38,tb2.same s38,w1,w2,h1,h2,DR fn,λ g' G' L' H9 s9 tab9 tab39 du og fg isf gp=>?_⟩;obtain⟨_,_,dpg⟩:=AF w1 w2 h1 h2 fg;refine⟨g',G',rfl,og,dpg,λ u10 H10 s10 t10=>?_⟩;have s810:=s9.trans s10.n;have s310:=s38.n.trans s810;have tG10:=tG.n (s2.n.trans (s3.trans s310));obtain rfl:G'=G:=(Nh w1 w2 h1 h2 (DR fn) ⟨fg,L',du,isf,gp⟩ fG).mpr pr;have D3:=Dc (K:=K) t10;refine⟨_,rfl,_,_,D3,Dc tG10,BQ t10,BQ tG10,by have:=Er G';lia,_,rfl,A8 (by rw[if_pos rfl,Cd _ D3];rfl) ?_⟩;have tab10:=tab9.same s10;have tf10:=tf.n (s2.n.trans (s3.trans s310));refine⟨_,rfl,_,rfl,vf,r,rfl,tf10,dpr,λ o11 H11 s11 b11=>⟨_,rfl,_,rfl,on,o11,tn',r,ww,hh,rfl,(o7.same s8).n (s810.trans s11.n),b11,by lia,r64,tab10.same s11,w1,w2,h1,h2,DR fn,fr,λ b H12 sx tab12 hb=>?_⟩⟩;obtain rfl:b=true:=hb.mpr pr;have tbl11:=(tab10.same s11).tbl;have s812:=(s810.trans s11.n).trans (sx.toN tbl11);refine⟨true,true,rfl,rfl,_,rfl,A8 rfl ?_⟩;exact⟨_,_,on,_,tn',rfl,s3.trans (s38.n.trans s812),tab12,((tab39.same s10).same s11).tb sx (Ne.symm hne) tbl11,(o7.same s8).n s812,t8.n s812,fn,pr⟩
   .rintro σ H3 ⟨x9,x10,oi,vn,ti,rfl,s3,tb1,tb2,oo,tn,fi,pi⟩;have s13:=s2.n.trans s3;exact kD _ _ _ _ ww hh bk vf oi vd r ti G H3 (O4 hS1 s13) w1 w2 h1 h2 (s13.tup hbk) (tf.n s13) (tG.n s13) oo fr (DR fi) pi r64 fG tb1 tb2
  refine⟨_,(Ac (Ao (i:=1) S.nd rfl (Or.inl rfl) (Ax AR Ae (Ax Cu (Ai D__law_cell hr (Aa (pv 0) (Aa Ae Ab))) Ae)))
   (Ac (Ao (i:=2) S.nd rfl (Or.inl rfl) (Ax AR Ae (Ax Cu (Ai D__law_cell hr (Aa (pv 0) (Aa Ae Ab))) Ae)))
   (Ac (Ao (i:=3) S.nd rfl (Or.inl rfl) (Av (Aa Ae (Aa Ae (Aa (pv 2) (Aa (pv 1) Ab))))))
   (Ac (Ao (i:=4) S.nd rfl (Or.inl rfl) (Ai D__law_tree hr (Aa (RM (E4 MJ (pv 0) (DE Ae) (DE Ae)) (IC EN Ae)) (Aa (pv 1) (Aa (pv 2) Ab)))))
   (Ac (Ao (i:=5) S.nd rfl (Or.inl rfl) (Ai D__law_recut hr (Aa (A3 (Ig hr) rfl T.z_sorted rfl (Aa (Ai D__law_pieces hr (Aa (pv 4) (Aa (pv 3) Ab))) Ab)) (Aa (pv 3) (Aa (Ai D__law_state hr (Aa (Ai D__law_cell hr (Aa (pv 0) (Aa Ae Ab))) Ab)) Ab)))))
   (Ac (Ao (i:=6) S.nd rfl (Or.inl rfl) (Ai D__law_made hr (Aa (pv 5) Ab)))
   (Ac (Ao (i:=7) S.nd rfl (Or.inl rfl) (Ai D__law_told hr (Aa (Ai D_form hr (Aa (pv 6) (Aa (pv 1) (Aa (pv 2) Ab)))) Ab)))
   (Ac (Ao (i:=8) S.nd rfl (Or.inl rfl) (pv 5))
   hC)))))))),?_⟩
  refine⟨_,rfl,a,ns,0,rfl,hS,by decide,λ z1=>⟨_,_,rfl,rfl,(show(0:Int)<12 from by decide),_,_,rfl,rfl,?_⟩⟩;refine⟨_,rfl,a,ns,1,rfl,hS,by decide,λ z2=>⟨_,_,rfl,rfl,(show(0:Int)<12 from by decide),_,_,rfl,rfl,?_⟩⟩;have w1:1<=1+z1 % 12:=by lia
  have w2:1+z1 % 12<=12:=by lia
  have g1:1<=1+z2 % 12:=by lia
  have g2:1+z2 % 12<=12:=by lia
  refine⟨_,rfl,_,rfl,Au 4,λ bk nbk=>?_⟩;obtain⟨H0,g,s4,e4⟩:=nw (.tup [V.int 0,V.int 0,(λ i j=>V.int (i+j)) 1 (z2 % 12),(λ i j=>V.int (i+j)) 1 (z1 % 12)]) nbk;rw[g];have e4:H0 bk=some (.tup [.int 0,.int 0,.int (1+z2 % 12),.int (1+z1 % 12)]):=e4;refine⟨_,rfl,4,rfl,24,rfl,a,_,rfl,s4.seq hS,λ l nl=>?_⟩;obtain⟨cs,ecs,cl⟩:∃cs:List Int,Fk (ns.map V.int) (some 4) (some 24)=cs.map V.int/\cs.length<=60:=by
   refine⟨_,by unfold Fk;rw[<-List.map_drop,<-List.map_take],?_⟩;rw[List.length_take,List.length_drop];have:ns.length-HT.sIx (ns.map V.int).length 0 (some 4)<=60:=by
    have e:HT.sIx (ns.map V.int).length 0 (some 4)=min 4 (ns.map V.int).length:=HT.sIx_nat ..;rw[e,List.length_map];lia
   lia
  rw[ecs];obtain⟨H1,e,s1,e1⟩:=nw (.lst (cs.map V.int)) nl;rw[e];clear e;refine⟨_,rfl,l,_,rfl,rfl,SqL.of e1,λ rr nr=>?_⟩;rw[<-List.map_reverse];have nrA:=Qe s1 nr;obtain⟨H2,e,s2,e2⟩:=nw (.lst (cs.reverse.map V.int)) nr;rw[e];clear e;refine⟨_,rfl,_,rfl,rr,_,1+z1 % 12,1+z2 % 12,rfl,e2,w1,g1,by lia,w2,g2,λ v t H3 ms' sx e3 told fit tsz=>?_⟩;rw[List.length_reverse]at tsz;have s03:Same H0 H3:=sx.same (s1.trans s2) nrA;obtain⟨_,nd,dp⟩:=AF w1 w2 g1 g2 fit;refine⟨_,rfl,_,rfl,v,t,bk,⟨0,0,1+z2 % 12,1+z1 % 12⟩,rfl,told,s03 _ _ e4,dp,nd,λ lp ts H6 s6 nl6 hl6 pc ec=>?_⟩;obtain⟨r1,r2,r3,r4⟩:=Qm w1 w2 g1 g2 fit pc ec;have el:=congrArg List.length ec;rw[Ay,List.length_map]at el;refine⟨lp,ts.map HR,3,GB.key,rfl,by rw[MN];exact SqL.of hl6,by rw[List.length_map];lia,r1,r2,r3,λ l7 us7 n7 pm sr=>?_⟩;obtain⟨zs,rfl,pz,dz⟩:=r4 us7 pm sr;rw[MN];obtain⟨H7,e,s7,e7⟩:=nw (.lst (pcs zs)) n7;rw[e];clear e;have s67:=s6.trans s7;have s07:=s03.trans s67;have lz:=dz.len;rw[List.length_map]at lz;refine⟨_,rfl,_,rfl,a,ns,2,rfl,(s4.trans s07).seq hS,by decide,λ z3=>⟨z3,rfl,λ st H8 s8 nst hst=>?_⟩⟩;refine⟨l7,bk,st,zs,⟨0,0,1+z2 % 12,1+z1 % 12⟩,t,0,rfl,s8 _ _ e7,((pc.perm pz).same s7).same s8,by lia,(s07.trans s8) _ _ e4,ok0 w1 g1,bd0 w2 g2,Fg fit,dz.1,hst,Int.le_refl _,by lia,?_,λ v2 r H9 tm' s9 st9 _ _ tr frr pmr=>?_⟩
  .show 1+z1 % 12-0+(1+z2 % 12-0)<25;lia
  have s79:Same H7 H9:=s9.same s8 nst;have s09:=s07.trans s79;have sH9:=s4.trans s09;have fr:=DR frr;have szr:=pmr.length_eq;rw[Ay,Ay]at szr;obtain⟨_,ndr,dpr⟩:=AF w1 w2 g1 g2 fr;have tab:=TabOk.same (TabOk.new (pos:=Db) (qual:=C8) htb) sH9;have tab3:=TabOk.same (TabOk.new (pos:=DQ) (qual:=D0) htb3) sH9;refine⟨_,rfl,v2,r,rfl,tr,dpr,λ o1 H10 s10 b1=>?_⟩;refine⟨_,rfl,_,rfl,_,rfl,o1,r,_,_,rfl,b1,ndr,by lia,tab.same s10,tab3.same s10,w1,w2,g1,g2,fr,λ g' G L' H11 s11 tab11 tab311 du og fg isf gp=>?_⟩;obtain⟨_,_,dpg⟩:=AF w1 w2 g1 g2 fg;refine⟨g',G,rfl,og,dpg,λ vd H12 s12 t12=>⟨_,rfl,?_⟩⟩;have s1012:=s11.trans s12.n;have s912:=s10.n.trans s1012;exact kC _ _ _ bk v2 o1 vd r G H12 (O4 (sH9.seq hS) s912) w1 w2 g1 g2 (s912.tup (s09 _ _ e4)) (tr.n s912) t12 (b1.n s1012) fr (by lia) ⟨fg,L',du,isf,gp⟩ (tab11.same s12) (tab311.same s12)
def icB(K:Frag)(C:Addr):Bool:=plainGet K C Str.empty&&(hasDictIn K C&&(plainOver K C&&((findIn K (.ref C) "__setattr__"==some (some (.builtin "object.__setattr__")))&&((findIn K (.ref C) "__class__"==some (some (.builtin "object.__class__"))) &&
 ((specialIn K (.builtin "object.__class__") "__get__"==some (some (.builtin "getset_descriptor.__get__")))&&((takesIn K (.builtin "object.__class__")==some true)&&((mroIn K C (.type "object")==some true)&&(makesIn K C&&keepIn K (.ref C)))))))))
theorem Mn{C:Addr}(h:icB K C=true):M8 K C/\makesIn K C=true/\keepIn K (.ref C)=true:=by
 unfold icB at h;simp only[Bool.and_eq_true,beq_iff_eq]at h;obtain⟨a,b,c,d,e,f,g,i,j,l⟩:=h;exact⟨⟨⟨a,b,c,d⟩,e,f,g,i⟩,j,l⟩
def RW(K:Frag)(cT cW cU cL:Addr):Bool:=([(cW,"mark"),(cU,"at"),(cU,"first"),(cU,"other"),(cL,"at"),(cL,"first"),(cL,"other")]:List (Addr×Str)).all (λ p=>findIn K (.ref p.1) p.2==some none) &&
 ([(cW,cW,true),(cW,cU,false),(cW,cL,false),(cU,cW,false),(cL,cW,false),(cU,cU,true),(cU,cL,false),(cL,cU,false),(cL,cL,true),(cW,cT,true),(cU,cT,true),(cL,cT,true)]:List (Addr×Addr×Bool)).all (λ p=>kitOne K (.ref p.1) (.ref p.2.1)==some p.2.2)
theorem S3(h:RW K cT cW cU cL=true)(iW:M8 K cW)(iU:M8 K cU)(iL:M8 K cL)(gT:mg "Tree"=some (.ref cT))(gW:mg "Whole"=some (.ref cW))(gU:mg "Upright"=some (.ref cU))(gL:mg "Level"=some (.ref cL)):RT mg K cT cW cU cL:=by
 unfold RW at h;rw[Bool.and_eq_true,List.all_eq_true,List.all_eq_true]at h;obtain⟨h1,h2⟩:=h;have f1:∀p∈([(cW,"mark"),(cU,"at"),(cU,"first"),(cU,"other"),(cL,"at"),(cL,"first"),(cL,"other")]:List (Addr×Str)),findIn K (.ref p.1) p.2=some none:=λ p hp=>beq_iff_eq.mp (h1 p hp);have f2:∀p∈([(cW,cW,true),(cW,cU,false),(cW,cL,false),(cU,cW,false),(cL,cW,false),(cU,cU,true),(cU,cL,false),(cL,cU,false),(cL,cL,true),(cW,cT,true),(cU,cT,true),(cL,cT,true)]:List (Addr×Addr×Bool)),kitOne K (.ref p.1) (.ref p.2.1)=some p.2.2:=λ p hp=>beq_iff_eq.mp (h2 p hp);simp only[List.forall_mem_cons,List.not_mem_nil,false_implies,implies_true,and_true]at f1 f2;obtain⟨a1,a2,a3,a4,a5,a6,a7⟩:=f1;obtain⟨k1,k2,k3,k4,k5,k6,k7,k8,k9,k10,k11,k12⟩:=f2;refine⟨gT,gW,gU,gL,iW,?_,a1,?_,?_,?_,k1,?_,?_,?_,k10,?_⟩
 .intro u;cases u;exact iL;exact iU
 .intro u;cases u;exact a5;exact a2
 .intro u;cases u;exact a6;exact a3
 .intro u;cases u;exact a7;exact a4
 .intro u;cases u;exact k3;exact k2
 .intro u;cases u;exact k5;exact k4
 .intro u v;cases u<;>cases v;exact k9;exact k8;exact k7;exact k6
 .intro u;cases u;exact k12;exact k11
end
theorem OU{α β:Type}{us:List α}{p:β}{ps:List β}(h:us.length=(p::ps).length):∃u vs,us=u::vs/\vs.length=ps.length:=by
 cases us with
 |nil=>cases h
 |cons u vs=>exact⟨u,vs,rfl,Nat.succ.inj h⟩
theorem OT{α β:Type}{us:List α}(h:us.length=([]:List β).length):us=[]:=List.length_eq_zero_iff.mp h
abbrev FB(K:Frag)(x qual:Str)(st:Stmt)(f:Addr):Prop:=∃fd,Fun K x qual st f fd
abbrev FI(K:Frag)(x:Str)(st:Stmt)(f:Addr):Prop:=nsIn K mainGlobals x=some (some (.ref f))/\FB K x x st f
abbrev MI(K:Frag)(C:Addr)(x qual:Str)(st:Stmt)(f:Addr):Prop:=findIn K (.ref C) x=some (some (.ref f))/\isFn K (.ref f)=true/\FB K x qual st f
structure HC(P:Program)(w:World)(K:Frag)(mg:MGz)(base:Heap):Prop where
 ex:∃h:Heap,K.In h/\h.Ns mainGlobals mg
abbrev BOk(x qual:Str)(st:Stmt)(ps:LSz):Prop:=∀(kV doc pm:Value)(an:Option Addr)(cdv ct:Value)(us:LWz),us.length=ps.length->bindArgs (fnOf x qual (Bh st) (A4 st) (Af st) .none kV doc pm an cdv ct) ⟨us,[]⟩=pure (ps.zip us)
section
variable{P:Program}{w:World}{K:Frag}{mg:MGz}{base:Heap}{x qual:Str}{st:Stmt}{f C:Addr}{n:Nat}{ps:LSz}{sp:Sp}{v:Value}
theorem HC.g(c:HC P w K mg base)(a:nsIn K mainGlobals x=some (some v)):mg x=some v:=let ⟨_,X,G⟩:=c.ex;mg_of X G a
theorem HC.d(c:HC P w K mg base)(i:FI K x st f)(ok:∀fd,Fun K x x st f fd->A5 P w K mg base CX0 n f fd ps sp)(hb:BOk x x st ps:=by intro _ _ _ _ _ _ us hl;(repeat (obtain⟨_,_,e,h⟩:=OU hl;clear hl;subst e;have hl:=h;clear h));cases OT hl;rfl):Ap P w K mg base n x ps sp:=let ⟨a,_,F⟩:=i;⟨_,_,ok _ F,c.g a,F.kp,F.binds hb⟩
theorem HC.dx(c:HC P w K mg base)(i:FI K x st f)(ok:∀fd,Fun K x x st f fd->A5 P w K mg base (CX1 P w) n f fd ps sp)(hb:BOk x x st ps:=by intro _ _ _ _ _ _ us hl;(repeat (obtain⟨_,_,e,h⟩:=OU hl;clear hl;subst e;have hl:=h;clear h));cases OT hl;rfl):HP P w K mg base n x ps sp:=let ⟨a,_,F⟩:=i;⟨_,_,ok _ F,c.g a,F.kp,F.binds hb⟩
theorem HC.k{cn:Str}(c:HC P w K mg base)(m:makesIn K C=true)(k:keepIn K (.ref C)=true)(ac:nsIn K mainGlobals cn=some (some (.ref C)))(i:MI K C "__init__" qual st f)(ok:∀fd,Fun K "__init__" qual st f fd->A5 P w K mg base CX0 n f fd ps sp)(hb:BOk "__init__" qual st ps:=by intro _ _ _ _ _ _ us hl;(repeat (obtain⟨_,_,e,h⟩:=OU hl;clear hl;subst e;have hl:=h;clear h));cases OT hl;rfl):Kk P w K mg base n cn C ps sp:=let ⟨a,b,_,F⟩:=i;⟨_,_,⟨m,a,b,k⟩,ok _ F,c.g ac,F.binds hb⟩
end
theorem all_mk{l:OpenLaw}{w:World}{K:Frag}{h:Heap}{mg:MGz}{fa:Addr}(X:K.In h)(G:h.Ns mainGlobals mg)(hfa:mg "law"=some (.ref fa))
  {cT:Addr} (aT:nsIn K mainGlobals "Tree"=some (some (.ref cT)))
  {cW:Addr} (aC_cW:nsIn K mainGlobals "Whole"=some (some (.ref cW))) (ic_cW:icB K cW=true)
  {f_cW:Addr} {od_cW an_cW:Option Addr} {sl_cW:AOz} {oc_cW kV_cW dc_cW pm_cW cd_cW ct_cW:Value} {T_cW:Addr} {to_cW:Value} {td_cW:Option Addr} {ts_cW:AOz} {ti_cW:Array Value} {tn_cW:Nat} (a_cWcW:findIn K (.ref cW) "__init__"=some (some (.ref f_cW))) (i_cW:isFn K (.ref f_cW)=true) (l_cW:K.lookup f_cW=some ⟨oc_cW,od_cW,.func (fnOf "__init__" "Whole.__init__" (Bh Bt) (A4 Bt) (Af Bt) (.ref T_cW) kV_cW dc_cW pm_cW an_cW cd_cW ct_cW),sl_cW⟩) (cc_cW:codeIn K cd_cW "Whole.__init__"=true) (k_cW:keepIn K (.ref f_cW)=true) (lT_cW:K.lookup T_cW=some ⟨to_cW,td_cW,.seq ti_cW tn_cW,ts_cW⟩) (eT_cW:ti_cW=#[.none])
  {cU:Addr} (aC_cU:nsIn K mainGlobals "Upright"=some (some (.ref cU))) (ic_cU:icB K cU=true)
  {f_cU:Addr} (h_cUcU:MI K cU "__init__" "Upright.__init__" BZ f_cU)
  {cL:Addr} (aC_cL:nsIn K mainGlobals "Level"=some (some (.ref cL))) (ic_cL:icB K cL=true)
  {f_cL:Addr} (h_cLcL:MI K cL "__init__" "Level.__init__" CL f_cL)
  (kit:RW K cT cW cU cL=true)
  {cX:Addr} (aC_cX:nsIn K mainGlobals "Unlike"=some (some (.ref cX)))
  (kU:keepIn K (.ref cX)=true)
  (eU:PySem.W.excIn K cX vErr "ValueError.__new__"=true)
  (mU:mroIn K cX (.ref cX)=some true)
  {f0:Addr} (h0:FI K "is_whole" DX f0)
  {f1:Addr} (h1:FI K "is_side" ES f1)
  {f2:Addr} (h2:FI K "inside" Gw f2)
  {f3:Addr} (h3:FI K "check_sides" Cr f3)
  {f4:Addr} (h4:FI K "kind_of" EQ f4)
  {f5:Addr} (h5:FI K "entry_of" DY f5)
  {f6:Addr} (h6:FI K "entries_of" CH f6)
  {f7:Addr} (h7:FI K "cut_from" DZ f7)
  {f8:Addr} (h8:FI K "tree_from" Dj f8)
  {f9:Addr} (h9:FI K "first_piece" Cq f9)
  {f10:Addr} (h10:FI K "other_piece" Cn f10)
  {f11:Addr} (h11:FI K "entries_by" CI f11)
  {f12:Addr} (h12:FI K "turned_word" Cm f12)
  {f13:Addr} (h13:FI K "check_cut" BF f13)
  {f14:Addr} (h14:FI K "cut_out" ET f14)
  {f15:Addr} {od15 an15:Option Addr} {sl15:AOz} {oc15 kV15 dc15 pm15 cd15 ct15:Value} (a15:nsIn K mainGlobals "pieces"=some (some (.ref f15))) (l15:K.lookup f15=some ⟨oc15,od15,.func (fnOf "pieces" "pieces" (Bh Bq) (A4 Bq) (Af Bq) .none kV15 dc15 pm15 an15 cd15 ct15),sl15⟩) (cc15:codeIn K cd15 "pieces"=true) (k15:keepIn K (.ref f15)=true) {c15 tb:Addr} (ec15:cd15=.ref c15) (hC15:Fn K c15 tb=true)
  {f16:Addr} (h16:FI K "line_breaks" Co f16)
  {f17:Addr} (h17:FI K "goes_through" BV f17)
  {f18:Addr} (h18:FI K "lines_through" BK f18)
  {f19:Addr} (h19:FI K "entry_for" Dk f19)
  {f20:Addr} {od20 an20:Option Addr} {sl20:AOz} {oc20 kV20 dc20 pm20 cd20 ct20:Value} (a20:nsIn K mainGlobals "cut_up"=some (some (.ref f20))) (l20:K.lookup f20=some ⟨oc20,od20,.func (fnOf "cut_up" "cut_up" (Bh Bk) (A4 Bk) (Af Bk) .none kV20 dc20 pm20 an20 cd20 ct20),sl20⟩) (cc20:codeIn K cd20 "cut_up"=true) (k20:keepIn K (.ref f20)=true) {c20 tb3:Addr} (ec20:cd20=.ref c20) (hC20:Fn K c20 tb3=true)
  {f21:Addr} (h21:FI K "form" LM f21)
  {f22:Addr} (h22:FI K "alike" JB f22)
  {f23:Addr} (h23:FI K "leaned" Gv f23)
  {f24:Addr} (h24:FI K "leaned_back" Cp f24)
  {f25:Addr} (h25:FI K "crossed" EU f25)
  {f26:Addr} (h26:FI K "changed" EV f26)
  {f27:Addr} (h27:FI K "is_step" ER f27)
  {f28:Addr} (h28:FI K "way_along" Di f28)
  {f29:Addr} (h29:FI K "with_part" Dh f29)
  {f30:Addr} (h30:FI K "moved" JA f30)
  {f31:Addr} (h31:FI K "moves_up" DV f31)
  {f32:Addr} (h32:FI K "ahead_of" Ea f32)
  {f33:Addr} (h33:FI K "behind_of" Dl f33)
  {f34:Addr} (h34:FI K "moves_to" DW f34)
  {f35:Addr} (h35:FI K "led" OB f35)
  {f36:Addr} (h36:FI K "_law_cell" Dq f36)
  {f37:Addr} (h37:FI K "_law_draw" Dp f37)
  {f38:Addr} (h38:FI K "_law_state" B6 f38)
  {f39:Addr} (h39:FI K "_law_pick" Dn f39)
  {f40:Addr} (h40:FI K "_law_tree" AT f40)
  {f41:Addr} (h41:FI K "_law_made" Do f41)
  {f42:Addr} (h42:FI K "_law_whole" CJ f42)
  {f43:Addr} (h43:FI K "_law_told" Dm f43)
  {f44:Addr} (h44:FI K "_law_pieces" Cs f44)
  {f45:Addr} (h45:FI K "_law_through" BW f45)
  {f46:Addr} (h46:FI K "_law_parted" Ct f46)
  {f47:Addr} (h47:FI K "_law_recut" CK f47)
  {f48:Addr} (h48:FI K "_law_spoiled" BX f48)
  {f49:Addr} (h49:FI K "_law_moves" AK f49)
  {f50:Addr} (h50:FI K "_law_refused" BY f50)
  {f51:Addr} (h51:FI K "law" CZ f51)
  {bm:Addr} {bsl:AOz} (abm:nsIn K mainGlobals "__builtins__"=some (some (.ref bm))) (lbm:K.lookup bm=some ⟨.type "module",some builtinsNs,.plain,bsl⟩) (nbm1:bm≠builtinsNs) (nbm2:bm≠mainGlobals)
  (hne:tb≠tb3)
  (z0:nsIn K mainGlobals "isinstance"=some none)
  (z1:nsIn K mainGlobals "int"=some none)
  (z2:nsIn K mainGlobals "bool"=some none)
  (z3:nsIn K mainGlobals "tuple"=some none)
  (z4:nsIn K mainGlobals "list"=some none)
  (z5:nsIn K mainGlobals "len"=some none)
  (z6:nsIn K mainGlobals "range"=some none)
  (z7:nsIn K mainGlobals "abs"=some none)
  (z8:nsIn K mainGlobals "all"=some none)
  (z9:nsIn K mainGlobals "any"=some none)
  (z10:nsIn K mainGlobals "sorted"=some none)
  (z11:nsIn K mainGlobals "str"=some none)
  (z12:nsIn K mainGlobals "reversed"=some none)
  (z13:nsIn K mainGlobals "zip"=some none)
  {tk0:Tok} (g0:nsIn K mainGlobals "LONGEST_SIDE"=some (some (.int 12 tk0)))
  {tk1:Tok} (g1:nsIn K mainGlobals "WHOLE"=some (some (.str "whole" tk1)))
  {tk2:Tok} (g2:nsIn K mainGlobals "UPRIGHT"=some (some (.str "upright" tk2)))
  {tk3:Tok} (g3:nsIn K mainGlobals "LEVEL"=some (some (.str "level" tk3)))
  {tk4:Tok} (g4:nsIn K mainGlobals "TOP"=some (some (.int 0 tk4)))
  {tk5:Tok} (g5:nsIn K mainGlobals "LEFT"=some (some (.int 1 tk5)))
  {tk6:Tok} (g6:nsIn K mainGlobals "ROOM"=some (some (.str "room" tk6)))
  {tk7:Tok} (g7:nsIn K mainGlobals "LEAN"=some (some (.str "lean" tk7)))
  {tk8:Tok} (g8:nsIn K mainGlobals "BACK"=some (some (.str "back" tk8)))
  {tk9:Tok} (g9:nsIn K mainGlobals "CROSS"=some (some (.str "cross" tk9)))
  : ∃fd:FuncData,(∀(s:Shared)(v:Value),BindsTo s fd ⟨[v],[]⟩ [("_law_script",v)])/\∀base:Heap,K.In base->base.Ns mainGlobals mg->A5 l.prog w K mg base CX0 55 fa fd ["_law_script"] (sp_law tb tb3 K):=by
 have e:=hfa.symm.trans (mg_of X G h51.1);cases e;have T:Txt mg (tk0,tk1,tk2,tk3,tk4,tk5,tk6,tk7,tk8,tk9):=⟨mg_none_of X G z0,mg_none_of X G z1,mg_none_of X G z2,mg_none_of X G z3,mg_none_of X G z4,mg_none_of X G z5,mg_none_of X G z6,mg_none_of X G z7,mg_none_of X G z8,mg_none_of X G z9,mg_none_of X G z10,mg_none_of X G z11,mg_none_of X G z12,mg_none_of X G z13,mg_of X G g0,mg_of X G g1,mg_of X G g2,mg_of X G g3,mg_of X G g4,mg_of X G g5,mg_of X G g6,mg_of X G g7,mg_of X G g8,mg_of X G g9⟩;obtain⟨I_cW,mk_cW,kc_cW⟩:=Mn ic_cW;obtain⟨I_cU,mk_cU,kc_cU⟩:=Mn ic_cU;obtain⟨I_cL,mk_cL,kc_cL⟩:=Mn ic_cL;have R0:RT mg K cT cW cU cL:=S3 kit I_cW I_cU I_cL (mg_of X G aT) (mg_of X G aC_cW) (mg_of X G aC_cU) (mg_of X G aC_cL);have hB0:Ri K mg:=⟨bm,bsl,mg_of X G abm,nbm1,nbm2,lbm⟩;have RX0:RX mg K cX:=⟨mg_of X G aC_cX,.inr eU,mU⟩;have X_Unlike:XMk0 K mg "Unlike" cX:=⟨eU,kU,mg_of X G aC_cX⟩;have F_cW:FunD K "__init__" "Whole.__init__" Bt f_cW _:=⟨⟨_,_,_,_,_,_,_,_,_,_,_,tn_cW,rfl,l_cW,cc_cW,lT_cW,by rw[eT_cW]⟩,k_cW⟩;have b_cW:=F_cW.binds (ps:=["self","mark"]) (ds:=[]) λ_ _ _ _ _ _ _ us hl=>by obtain⟨u0,u1,rfl⟩:=Mj ((List.append_nil us) ▸ hl);exact⟨_,rfl,rfl⟩
 have F15:=Ng (st:=Bq) l15 cc15 k15 ec15;have b15:=F15.fn.binds (ps:=["tree","width","height"]) λ_ _ _ _ _ _ us hl=>by (repeat (obtain⟨_,_,e,h⟩:=OU hl;clear hl;subst e;have hl:=h;clear h));cases OT hl;rfl
 have F20:=Ng (st:=Bk) l20 cc20 k20 ec20;have b20:=F20.fn.binds (ps:=["sheet","some"]) λ_ _ _ _ _ _ us hl=>by (repeat (obtain⟨_,_,e,h⟩:=OU hl;clear hl;subst e;have hl:=h;clear h));cases OT hl;rfl
 obtain⟨ha51,fd,F51⟩:=h51;obtain⟨oc,od,kV,doc,pm,an,cdv,ct,osl,rfl,lk,hcd⟩:=id F51.ex;refine⟨fnOf "law" "law" (Bh CZ) (A4 CZ) (Af CZ) .none kV doc pm an cdv ct,λ s v=>.of_eq rfl,λ base _ _=>?_⟩;have c:HC l.prog w K mg base:=⟨h,X,G⟩;have K_Whole:Kk l.prog w K mg base 1 "Whole" cW ["self","mark"] (ME cW):=⟨_,_,⟨mk_cW,a_cWcW,i_cW,kc_cW⟩,HY F_cW R0,mg_of X G aC_cW,b_cW⟩;have K_Upright:=c.k mk_cU kc_cU aC_cU h_cUcU λ_ F=>FN F R0;have K_Level:=c.k mk_cL kc_cL aC_cL h_cLcL λ_ F=>HZ F R0;have D_is_whole:=c.d h0 λ_ F=>KG F T;have D_is_side:=c.d h1 λ_ F=>LX F T D_is_whole;have D_inside:=c.d h2 λ_ F=>NN F;have D_check_sides:=c.d h3 λ_ F=>GM F D_is_side;have D_kind_of:=c.d (sp:=Ba cW cU cL) h4 λ_ F=>LV F T R0;have D_entry_of:=c.d (sp:=Go cW cU cL) h5 λ_ F=>KI F T R0 D_kind_of;have D_entries_of:=c.d (sp:=CG cW cU cL) h6 λ_ F=>HW F T R0 D_entry_of;have D_cut_from:=c.d (sp:=Bf cW cU cL) h7 λ_ F=>KJ F T K_Upright K_Level;have D_tree_from:=c.d (sp:=FS K cW cU cL) h8 λ_ F=>JI F T R0 K_Whole D_cut_from;have D_first_piece:=c.d h9 λ_ F=>GL F T;have D_other_piece:=c.d h10 λ_ F=>GF F T;have D_entries_by:=c.d h11 λ_ F=>HX F T D_first_piece D_other_piece;have D_turned_word:=c.d h12 λ_ F=>GD F T;have D_check_cut:=c.d h13 λ_ F=>JO F T D_is_whole;have D_cut_out:=c.d (sp:=LI cW cU cL) h14 λ_ F=>LY F T D_entries_of D_check_cut D_first_piece D_other_piece;have D_pieces:Ap l.prog w K mg base 5 "pieces" ["tree","width","height"] (D9 tb cW cU cL):=⟨_,_,NL F15 T hC15 hB0 D_check_sides D_cut_out,mg_of X G a15,k15,b15⟩;have D_line_breaks:=c.d h16 λ_ F=>GG F;have D_goes_through:=c.d h17 λ_ F=>FM F T D_line_breaks;have D_lines_through:=c.d h18 λ_ F=>EY F T D_goes_through;have D_entry_for:=c.d h19 λ_ F=>JN F T D_lines_through;have D_cut_up:Ap l.prog w K mg base 8 "cut_up" ["sheet","some"] (Gp tb3):=⟨_,_,NO F20 hC20 hB0 D_inside D_entry_for D_entries_by,mg_of X G a20,k20,b20⟩;have D_form:=c.d (sp:=Jz tb tb3 cW cU cL) h21 λ_ F=>Q7 F hne D_pieces D_cut_up D_tree_from;have D_alike:=c.d (sp:=Ey tb cW cU cL) h22 λ_ F=>OL F D_pieces;have D_leaned:=c.d (sp:=Jy cW cU cL) h23 λ_ F=>NM F R0 D_kind_of D_cut_from;have D_leaned_back:=c.d (sp:=J1 cW cU cL) h24 λ_ F=>GH F R0 D_kind_of D_cut_from;have D_crossed:=c.d (sp:=Gq cW cU cL) h25 λ_ F=>LZ F R0 D_kind_of D_turned_word D_cut_from;have D_changed:=c.d (sp:=DU cW cU cL) h26 λ_ F=>Ma F T D_leaned D_leaned_back D_crossed;have D_is_step:=c.d h27 λ_ F=>LW F T D_is_whole;have D_way_along:=c.d (sp:=LH cW cU cL) h28 λ_ F=>JH F T R0 D_is_step;have D_with_part:=c.d (sp:=Gj cW cU cL) h29 λ_ F=>JG F R0 D_kind_of D_cut_from;have D_moved:=c.d (sp:=O6 cW cU cL) h30 λ_ F=>OK F T D_way_along D_changed D_with_part D_entries_of D_tree_from;have A_moves_up:∀n:Nat,Ap l.prog w K mg base (n+3) "moves_up" ["tree","word","at","steps"] (Gm cW cU cL n):=λ n=>by
  induction n with
  |zero=>exact c.d h31 λ_ F=>B8 F Hq λ_ _ _ _=>TF
  |succ n ih=>exact c.d h31 λ_ F=>K7 F T R0 D_kind_of ih
 have D_moves_up:=A_moves_up 24;have A_ahead_of:∀n:Nat,Ap l.prog w K mg base (n+3) "ahead_of" ["tree","word","at"] (Gs cW cU cL n):=λ n=>by
  induction n with
  |zero=>exact c.d h32 λ_ F=>B8 F Hy λ_ _ _ _=>TU
  |succ n ih=>exact c.d h32 λ_ F=>KL F R0 D_kind_of D_cut_from ih
 have D_ahead_of:=A_ahead_of 24;have A_behind_of:∀n:Nat,Ap l.prog w K mg base (n+3) "behind_of" ["tree","word","at"] (Gr cW cU cL n):=λ n=>by
  induction n with
  |zero=>exact c.d h33 λ_ F=>B8 F FC λ_ _ _ _=>TR
  |succ n ih=>exact c.d h33 λ_ F=>JP F R0 D_kind_of D_cut_from ih
 have D_behind_of:=A_behind_of 24;have A_moves_to:∀n:Nat,Ap l.prog w K mg base (n+28) "moves_to" ["tree","other","steps"] (Gn cW cU cL n):=λ n=>by
  induction n with
  |zero=>exact c.d h34 λ_ F=>B8 F Hr λ_ _ _ _=>TJ
  |succ n ih=>exact c.d h34 λ_ F=>K8 F T R0 D_kind_of D_moves_up D_ahead_of D_behind_of ih
 have D_moves_to:=A_moves_to 24;have D_led:=c.dx (sp:=Jx tb cW cU cL cX) h35 λ_ F=>RQ F X_Unlike D_alike D_moves_to;have D__law_cell:=c.d h36 λ_ F=>KF F T;have D__law_draw:=c.d h37 λ_ F=>KD F;have D__law_state:=c.d h38 λ_ F=>JK F T;have D__law_pick:=c.d h39 λ_ F=>KB F D__law_draw;have A__law_tree:∀n:Nat,Ap l.prog w K mg base (n+3) "_law_tree" ["_law_cells","_law_width","_law_height"] (Ev n):=λ n=>by
  induction n with
  |zero=>exact c.d h40 λ_ F=>B8 F Ht λ_ _ _ _=>Sk
  |succ n ih=>exact c.d h40 λ_ F=>K9 F D__law_state D__law_pick ih
 have D__law_tree:=A__law_tree 25;have A__law_made:∀n:Nat,Ap l.prog w K mg base (n+3) "_law_made" ["_law_told_here"] (Ew cW cU cL n):=λ n=>by
  induction n with
  |zero=>exact c.d h41 λ_ F=>B8 F Hv λ_ _ _ _=>SH
  |succ n ih=>exact c.d h41 λ_ F=>KC F K_Whole K_Upright K_Level ih
 have D__law_made:=A__law_made 24;have D__law_whole:=c.d h42 λ_ F=>JJ F T;have A__law_told:∀n:Nat,Ap l.prog w K mg base (n+3) "_law_told" ["_law_tree_here"] (Dg cW cU cL n):=λ n=>by
  induction n with
  |zero=>exact c.d h43 λ_ F=>B8 F Hu λ_ _ _ _=>RS
  |succ n ih=>exact c.d h43 λ_ F=>KA F T R0 D__law_whole ih
 have D__law_told:=A__law_told 24;have A__law_pieces:∀n:Nat,Ap l.prog w K mg base (n+3) "_law_pieces" ["_law_told_here","_law_block"] (BS n):=λ n=>by
  induction n with
  |zero=>exact c.d h44 λ_ F=>B8 F EI λ_ _ _ _=>OS
  |succ n ih=>exact c.d h44 λ_ F=>HU F ih
 have D__law_pieces:=A__law_pieces 24;have D__law_through:=c.d h45 λ_ F=>GI F T;have D__law_parted:=c.d h46 λ_ F=>HV F T;have A__law_recut:∀n:Nat,Ap l.prog w K mg base (n+3) "_law_recut" ["_law_some","_law_block","_law_state_here"] (Df n):=λ n=>by
  induction n with
  |zero=>exact c.d h47 λ_ F=>B8 F F9 λ_ _ _ _=>RH
  |succ n ih=>exact c.d h47 λ_ F=>JL F T D__law_through D__law_pick D__law_parted ih
 have D__law_recut:=A__law_recut 25;have A__law_spoiled:∀n:Nat,Ap l.prog w K mg base (n+3) "_law_spoiled" ["_law_told_here","_law_cell_here"] (BR n):=λ n=>by
  induction n with
  |zero=>exact c.d h48 λ_ F=>B8 F DT λ_ _ _ _=>O5
  |succ n ih=>exact c.d h48 λ_ F=>GJ F ih
 have D__law_spoiled:=A__law_spoiled 24;have A__law_moves:∀n:Nat,Ap l.prog w K mg base (n+3) "_law_moves" ["_law_told_here","_law_steps"] (C0 n):=λ n=>by
  induction n with
  |zero=>exact c.d h49 λ_ F=>B8 F FA λ_ _ _ _=>QC
  |succ n ih=>exact c.d h49 λ_ F=>JM F ih
 have D__law_moves:=A__law_moves 24;have D__law_refused:=c.d (sp:=Jw tb cW cU cL) h50 λ_ F=>GK F RX0 D_led;exact RR F51 T hne D__law_cell D__law_draw D__law_state D__law_tree D__law_pieces D__law_recut D__law_made D_form D__law_told D_alike D__law_spoiled D__law_moves D_moved D_led D__law_refused
theorem walk(tb:Addr)(tb3:Addr){l:OpenLaw}{q:Program}{loose:LSz}{XP:(MGz)->Heap->Prop}{YP:World->Heap->Prop}{d:DefRec}{K:Params->Frag}{Ts:List Addr}(hm_tb:tb∈Ts)(hm_tb3:tb3∈Ts)(hn:l.most=some 63)(hdf:d.params.defaults=[])
  (hY:∀(w:World)(h:Heap),YP w h->(K w.params).In h) (hT:∀(w:World)(h:Heap),YP w h->∀T∈Ts,h.get? T=some (tabObj #[])/\(K w.params).lookup T=none/\∃c,CodeHd h c T)
  (F:∀(w:World)(mg:MGz)(fa:Addr)(h:Heap),(K w.params).In h->h.Ns mainGlobals mg->mg d.name=some (.ref fa) ->
   ∃fd:FuncData,(∀(s:Shared)(u:Value),BindsTo s fd ⟨[u],[]⟩ [("_law_script",u)])/\∀base:Heap,(K w.params).In base->base.Ns mainGlobals mg->A5 l.prog w (K w.params) mg base CX0 55 fa fd ["_law_script"] (sp_law tb tb3 (K w.params))) :
  WalkO q loose XP YP l.row.toRowW d [] (λ f vs=>PySem.call f vs) :=
 L2.walk_ofT (n:=63) (k:=55) (x:="_law_script") (CX:=λ_=>CX0) (sp:=λ w=>sp_law tb tb3 (K w.params)) hn (by decide) hdf ⟨rfl,by decide,by decide⟩ hY hT F (λ_ _ a ns hl hO hS=>⟨a,ns,rfl,hS,hl,hO.2 tb hm_tb,hO.2 tb3 hm_tb3,λ_=>rfl⟩) λ_ _ _ _ _ z=>z
end K35
open PySem PySem.W PyProof.Rows
set_option maxRecDepth 100000 in
set_option maxHeartbeats 0 in
theorem PySem.Challenge.cw_glazebench_k35_whole_moves_and_forms_holds : PySem.Challenge.rw_glazebench_k35_whole_moves_and_forms.Holds := by
 refine KH.prep fun said => ?_
 have fx : ∀ s, KH.Xp PySem.Challenge.pw_glazebench_k35_whole_moves_and_forms s = true → XL (KH.qv PySem.Challenge.pw_glazebench_k35_whole_moves_and_forms) [] (s.heap.nsMap mainGlobals) s.heap := fun s e => xl_of s (Bool.and_eq_true_iff.mp e).1
 have fr : ∀ s, KH.Xp PySem.Challenge.pw_glazebench_k35_whole_moves_and_forms s = true → RecFacts (RowW.records (OpenRow.toRowW PySem.Challenge.rw_glazebench_k35_whole_moves_and_forms.row)) s.heap := fun s e => recFacts_of (Bool.and_eq_true_iff.mp e).2
 refine holds_open (XP := XL (KH.qv PySem.Challenge.pw_glazebench_k35_whole_moves_and_forms) []) KH.left (L2.hookT (kHook KH.KK KH.kas KH.kas_is) KH.Ts).of (L2.hookT (kHook KH.KK KH.kas KH.kas_is) KH.Ts).keeps fx XL.keeps (by rfl) (by rfl) (by rfl) fr (by rfl) said (by decide +kernel) ?hb ?hw ?hc
 case hb => exact ⟨rfl,rfl, rfl,rfl, rfl, by decide +kernel⟩
 case hw => w_witness2
 case hc =>
  k_fill
  refine K35.walk (l := PySem.Challenge.rw_glazebench_k35_whole_moves_and_forms) (Ts := KH.Ts) 315 344 (by simp [KH.Ts]) (by simp [KH.Ts]) rfl rfl (fun w h Y => PySem.W.kIn_of Y.1) ?HT ?F
  case HT =>
   intro w h Y T hT
   refine ⟨Y.2 T hT, ?_⟩
   have hT : T ∈ [315, 344] := hT
   simp only [List.mem_cons, List.not_mem_nil, or_false] at hT
   rcases hT with rfl | rfl
   ·exact ⟨by kernel_rfl, 319, L2.codeTB_of (c := 319) (T := 315) (by kernel_rfl) h (PySem.W.kIn_of Y.1)⟩
   ·exact ⟨by kernel_rfl, 348, L2.codeTB_of (c := 348) (T := 344) (by kernel_rfl) h (PySem.W.kIn_of Y.1)⟩
  case F =>
   intro w mg fa h KX G hmg
   refine' K35.all_mk (tb := 315) (tb3 := 344) KX G hmg ?my_aT ?my_aC_cW ?my_ic_cW ?my_a_cWcW ?my_i_cW ?my_l_cW ?my_cc_cW ?my_k_cW ?my_lT_cW ?my_eT_cW ?my_aC_cU ?my_ic_cU ?my_h_cUcU ?my_aC_cL ?my_ic_cL ?my_h_cLcL ?my_kit ?my_aC_cX ?my_kU ?my_eU ?my_mU ?my_h0 ?my_h1 ?my_h2 ?my_h3 ?my_h4 ?my_h5 ?my_h6 ?my_h7 ?my_h8 ?my_h9 ?my_h10 ?my_h11 ?my_h12 ?my_h13 ?my_h14 ?my_a15 ?my_l15 ?my_cc15 ?my_k15 ?my_ec15 ?my_hC15 ?my_h16 ?my_h17 ?my_h18 ?my_h19 ?my_a20 ?my_l20 ?my_cc20 ?my_k20 ?my_ec20 ?my_hC20 ?my_h21 ?my_h22 ?my_h23 ?my_h24 ?my_h25 ?my_h26 ?my_h27 ?my_h28 ?my_h29 ?my_h30 ?my_h31 ?my_h32 ?my_h33 ?my_h34 ?my_h35 ?my_h36 ?my_h37 ?my_h38 ?my_h39 ?my_h40 ?my_h41 ?my_h42 ?my_h43 ?my_h44 ?my_h45 ?my_h46 ?my_h47 ?my_h48 ?my_h49 ?my_h50 ?my_h51 ?my_abm ?my_lbm ?my_nbm1 ?my_nbm2 ?my_hne ?my_z0 ?my_z1 ?my_z2 ?my_z3 ?my_z4 ?my_z5 ?my_z6 ?my_z7 ?my_z8 ?my_z9 ?my_z10 ?my_z11 ?my_z12 ?my_z13 ?my_g0 ?my_g1 ?my_g2 ?my_g3 ?my_g4 ?my_g5 ?my_g6 ?my_g7 ?my_g8 ?my_g9
   (case my_aT => k_is); (case my_aC_cW => k_is); (case my_a_cWcW => k_is); (case my_i_cW => k_is); (case my_l_cW => k_is); (case my_cc_cW => k_is); (case my_k_cW => k_is); (case my_lT_cW => k_is)
   (case my_aC_cU => k_is); (case my_aC_cL => k_is); (case my_aC_cX => k_is); (case my_kU => k_is); (case my_mU => k_is); (case my_a15 => k_is); (case my_l15 => k_is); (case my_cc15 => k_is)
   (case my_k15 => k_is); (case my_a20 => k_is); (case my_l20 => k_is); (case my_cc20 => k_is); (case my_k20 => k_is); (case my_abm => k_is); (case my_lbm => k_is); (case my_z0 => k_is)
   (case my_z1 => k_is); (case my_z2 => k_is); (case my_z3 => k_is); (case my_z4 => k_is); (case my_z5 => k_is); (case my_z6 => k_is); (case my_z7 => k_is); (case my_z8 => k_is)
   (case my_z9 => k_is); (case my_z10 => k_is); (case my_z11 => k_is); (case my_z12 => k_is); (case my_z13 => k_is); (case my_g0 => k_is); (case my_g1 => k_is); (case my_g2 => k_is)
   (case my_g3 => k_is); (case my_g4 => k_is); (case my_g5 => k_is); (case my_g6 => k_is); (case my_g7 => k_is); (case my_g8 => k_is); (case my_g9 => k_is); (case my_eT_cW => rfl)
   (case my_ec15 => rfl); (case my_ec20 => rfl); (case my_ic_cW => kernel_rfl); (case my_ic_cU => kernel_rfl); (case my_ic_cL => kernel_rfl); (case my_kit => kernel_rfl); (case my_eU => kernel_rfl); (case my_hC15 => kernel_rfl)
   (case my_hC20 => kernel_rfl); (case my_nbm1 => decide); (case my_nbm2 => decide); (case my_hne => decide)
   case my_h_cUcU | my_h_cLcL => exact ⟨by k_is, by k_is, _, ⟨⟨_,_,_,_,_,_,_,_,_,rfl, by k_is, by k_is⟩, by k_is⟩⟩
   case my_h0 | my_h1 | my_h2 | my_h3 | my_h4 | my_h5 | my_h6 | my_h7 | my_h8 | my_h9 | my_h10 | my_h11 | my_h12 | my_h13 | my_h14 | my_h16 | my_h17 | my_h18 | my_h19 | my_h21 | my_h22 | my_h23 | my_h24 | my_h25 | my_h26 | my_h27 | my_h28 | my_h29 | my_h30 | my_h31 | my_h32 | my_h33 | my_h34 | my_h35 | my_h36 | my_h37 | my_h38 | my_h39 | my_h40 | my_h41 | my_h42 | my_h43 | my_h44 | my_h45 | my_h46 | my_h47 | my_h48 | my_h49 | my_h50 | my_h51 => exact ⟨by k_is, _, ⟨⟨_,_,_,_,_,_,_,_,_,rfl, by k_is, by k_is⟩, by k_is⟩⟩
