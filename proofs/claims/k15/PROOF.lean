import PyProof.Rows.All
import Wide.All
import OpenK.AllK
import Wide.FinOn
import Lean
import PyProof.EqAt
import PyProof.EqKinds
import PyProof.TupleCall
import PyProof.Rows.SortRuns
import PyProof.NeKinds
import PyProof.ExcAttrAll.ValueError
import PyProof.StationsW
import PyProof.PassesOwn
import PyProof.RulesAs
import PyProof.NsDelKeeps
import PyProof.CompMap
import PyProof.DictItems
import KE.KPairComp
import KE.KMinKey
import KE.KDictList
import KE.KDictOf
import KE.KEqDict
import PyProof.DictIter
import PyProof.DictWalks
import PyProof.Rows.DictUnroll
import KE.KRevIter
import KE.KLam
import KE.KSortKey
import KE.KSortTup
import PyProof.Rows.StrJoin2
import PyProof.Rows.StrNews
import PyProof.StrLawsTight
import PyProof.StrWalks
import PyProof.StrBlockH
import KE.KIntText
import KE.LcSums
import KE.KNest
import PySem.Challenge.RW_glazebench_k15_whole_cut_and_told
set_option Elab.async false
set_option linter.all false
set_option maxRecDepth 100000
abbrev VPz:=PySem.Value→PySem.Shared→Prop
abbrev PNz:=List (PySem.Addr × PySem.Obj)
abbrev MGz:=PySem.Str→Option PySem.Value
abbrev AOz:=Array (Option PySem.Value)
abbrev LSz:=List PySem.Str
abbrev LWz:=List PySem.Value
namespace L2
open PySem.W
open PySem PySem.Spec PyProof.Rows
abbrev Key:=Sum Int Str
def Jq:Key->Value->Bool
 |.inl k,v=>Value.isInt k v
 |.inr x,v=>Value.isStrOf x v
def Uz(w:World):Key->Int
 |.inl k=>hashInt k
 |.inr x=>hashStr w x
theorem AS:∀{k:Key}{v:Value},Jq k v=true->(∃i t,k=Sum.inl i/\v=Value.int i t)\/(∃x t,k=Sum.inr x/\v=Value.str x t)
 |.inl i,v,h=>by
  obtain⟨t,e⟩:=Value.isInt_shape (k:=i) (v:=v) h;exact .inl ⟨i,t,rfl,e⟩
 |.inr x,v,h=>by
  obtain⟨t,e⟩:=Value.isStrOf_shape (x:=x) (v:=v) h;exact .inr ⟨x,t,rfl,e⟩
theorem Ov(i:Int)(t:Tok):Jq (.inl i) (.int i t)=true:=by simp[Jq,Value.isInt]
theorem Ou(x:Str)(t:Tok):Jq (.inr x) (.str x t)=true:=by simp[Jq,Value.isStrOf]
theorem S9(a b:Int):decide ((Sum.inl a:Key)=Sum.inl b)=(a==b):=by
 by_cases e:a=b
 .subst e;simp
 .have h:¬(Sum.inl a:Key)=Sum.inl b:=λ q=>e (Sum.inl.inj q);rw[decide_eq_false h];exact(beq_eq_false_iff_ne.mpr e).symm
theorem S0(a b:Str):decide ((Sum.inr a:Key)=Sum.inr b)=decide (a=b):=by
 by_cases e:a=b
 .subst e;simp
 .have h:¬(Sum.inr a:Key)=Sum.inr b:=λ q=>e (Sum.inr.inj q);rw[decide_eq_false h,decide_eq_false e]
theorem S8(a:Int)(b:Str):decide ((Sum.inl a:Key)=Sum.inr b)=false:=decide_eq_false (λ q=>nomatch q)
theorem S1(a:Str)(b:Int):decide ((Sum.inr a:Key)=Sum.inl b)=false:=decide_eq_false (λ q=>nomatch q)
def AW(prog:Program)(w:World):PySem.KeyKind prog w Key where
 is:=Jq
 hash:=Uz w
 inj:=λ v a b ha hb=>by
  rcases AS ha with ⟨i,t,rfl,rfl⟩|⟨x,t,rfl,rfl⟩
  .rcases AS hb with ⟨j,u,rfl,e⟩|⟨y,u,rfl,e⟩
   .injection e with e1 _;rw[e1]
   .exact nomatch e
  .rcases AS hb with ⟨j,u,rfl,e⟩|⟨y,u,rfl,e⟩
   .exact nomatch e
   .injection e with e1 _;rw[e1]
 byValue:=λ k v h=>by
  rcases AS h with ⟨i,t,rfl,rfl⟩|⟨x,t,rfl,rfl⟩<;>rfl
 pyHash:=λ hv h=>by
  rcases AS hv with ⟨i,t,rfl,rfl⟩|⟨x,t,rfl,rfl⟩
  .exact wpAny_pyHash_int h
  .exact wpAny_pyHash_str h
 eqBool:=λ hu hv h=>by
  rcases AS hu with ⟨i,t,rfl,rfl⟩|⟨x,t,rfl,rfl⟩
  .rcases AS hv with ⟨j,u,rfl,rfl⟩|⟨y,u,rfl,rfl⟩
   .rw[S9]at h;exact wpAny_eqBool_int h
   .rw[S8]at h;exact SeqAt.EqAt.int_str i t y u _ _ _ _ h
  .rcases AS hv with ⟨j,u,rfl,rfl⟩|⟨y,u,rfl,rfl⟩
   .rw[S1]at h;exact SeqAt.EqAt.str_int x t j u _ _ _ _ h
   .rw[S0]at h;exact wpAny_eqBool_str h
 «strs»:=λ k x t v h=>by
  rcases AS h with ⟨i,u,rfl,e⟩|⟨y,u,rfl,e⟩
  .exact nomatch e
  .injection e with e1 _;subst e1;cases v<;>rfl
theorem Lx(prog:Program)(w:World)(i:Int)(t:Tok):(AW prog w).is (.inl i) (.int i t)=true:=Ov i t
theorem Lw(prog:Program)(w:World)(x:Str)(t:Tok):(AW prog w).is (.inr x) (.str x t)=true:=Ou x t
inductive V where
 |non|bl (b:Bool)|int (i:Int)|str (x:Str)|byt (b:Array UInt8)|flt (b:UInt64)|ref (a:Addr)|ty (n:String)
 deriving DecidableEq
abbrev LKz:=List (List Key×V)
abbrev LFz:=List (Str×V)
abbrev LUz:=List V
def RelV:V->Value->Prop
 |.non,u=>u=Value.none
 |.bl b,u=>u=Value.bool b
 |.int i,u=>∃t,u=Value.int i t
 |.str x,u=>∃t,u=Value.str x t
 |.byt b,u=>∃t,u=Value.bytes b t
 |.flt b,u=>∃t,u=Value.float b t
 |.ref a,u=>u=Value.ref a
 |.ty n,u=>u=Value.type n
abbrev Vals:LUz->LWz->Prop:=Paired RelV
theorem Vals.length{xs:LUz}{us:LWz}(r:Vals xs us):xs.length=us.length:=Paired.length r
theorem Vals.get:∀{xs:LUz}{us:LWz}{i:Nat}{x:V},Vals xs us->xs[i]?=some x->∃u,us[i]?=some u/\RelV x u
 |_,_,_,_,.nil,e=>by simp at e
 |_,_,0,_,.cons r _,e=>by simp at e;subst e;exact⟨_,rfl,r⟩
 |_,_,i+1,x,.cons _ t,e=>by
  obtain⟨u,h1,h2⟩:=Vals.get (i:=i) (x:=x) t (by simpa using e);exact⟨u,by simpa using h1,h2⟩
theorem Vals.append:∀{xs ys:LUz}{us ws:LWz},Vals xs us->Vals ys ws->Vals (xs++ys) (us++ws)
 |_,_,_,_,.nil,s=>s
 |_,_,_,_,.cons r t,s=>.cons r (Vals.append t s)
def RelO:Option V->Option Value->Prop
 |some v,some u=>RelV v u
 |none,none=>True
 |_,_=>False
def KV{κ:Type}:List (κ×V)->List (κ×Value)->Prop:=Paired λ(p:κ×V)(q:κ×Value)=>p.1=q.1/\RelV p.2 q.2
def kV:Key->V
 |.inl i=>.int i
 |.inr x=>.str x
inductive HO where
 |lst (xs:LUz)
 |tup (xs:LUz)
 |dK (kvs:List (Key×V))|dT (kvs:LKz)
 |set (S:Int->Bool) (n:Nat)
 |ins (C dx:Addr) (fs:LFz)
 |own (x:Addr)
 |xd (fs:LFz)
 |met (f x:Addr)
 |rng (lo hi:Int)
 |frz (o:Obj) (u:HO)
 |tbl (ps:Array Value)
 |ext (φ:Heap->Prop)
abbrev Hp:=Addr->Option HO
def upd(H:Hp)(a:Addr)(o:HO):Hp:=λ b=>if b=a then some o else H b
theorem Ac{H:Hp}{a:Addr}{o:HO}:upd H a o a=some o:=by unfold upd;rw[if_pos rfl]
theorem Ai{H:Hp}{a b:Addr}{o:HO}(h:b≠a):upd H a o b=H b:=by unfold upd;rw[if_neg h]
theorem CT{H:Hp}{a b:Addr}{o u:HO}(h:H a=some o)(h':H b=some u)(d:o≠u):a≠b:=by
 intro e;subst e;rw[h]at h';exact d (Option.some.inj h')
theorem Af{H:Hp}{a b:Addr}{o:HO}(h:H a=some o)(h':H b=none):a≠b:=by
 intro e;subst e;rw[h]at h';cases h'
section
variable(P:Program)(w:World)
def ObjOk(H:Hp)(h:Heap)(a:Addr):HO->Prop
 |.lst xs=>xs.length<=sizeLine/\∃(its:LWz)(n:Nat),Vals xs its/\h.get? a=some { cls:=.type "list",data:=.seq its.toArray n }
 |.tup xs=>xs.length<=sizeLine/\∃its:LWz,Vals xs its/\IsTup h a its.toArray
 |.dK kvs=>kvs.length<=sizeLine/\(a==sysModules)=false/\∃vs,KV kvs vs/\h.DictOf (AW P w) a vs
 |.dT kvs=>kvs.length<=sizeLine/\(a==sysModules)=false/\∃xs:List (List Key×Addr×Value),
   Paired (λ(p:List Key×V)(q:List Key×Addr×Value)=>p.1=q.1/\H q.2.1=some (.tup (p.1.map kV))/\RelV p.2 q.2.2) kvs xs /\
   ∃o es ep,h.get? a=some o/\o.ExactDict/\o.data=.dict es ep/\es.toList=xs.map (entryOfKey (tupleKind (AW P w)))/\(xs.map (·.1)).Nodup
 |.set S n=>h.SetOf (intKind P w) a S n
 |.ins C dx fs=>H dx=some (.own a)/\fs.length<=1000/\dx≠a/\h.get? a=some (instObj C dx) /\
   ∃mA,h.Ns1 dx mA/\(∀f,RelO (fs.lookup f) (mA f))/\PySem.Within mA (fs.map (·.1))
 |.own _=>∃o,h.get? a=some o
 |.xd fs=>∃mA,h.Ns1 a mA/\∀f,RelO (fs.lookup f) (mA f)
 |.rng lo hi=>∃t u v,h.get? a=some { cls:=.type "range",data:=.fields #[.int lo t,.int hi u,.int 1 v] }
 |.frz o u=>h.get? a=some o/\ObjOk H h a u
 |.tbl ps=>h.get? a=some { cls:=.none,data:=.fields ps }
 |.met f x=>h.get? a=some (methodObj (.ref f) (.ref x))
 |.ext φ=>φ h/\(∃o,h.get? a=some o)/\∀h1 h2:Heap,φ h1->(∀o,h1.get? a=some o->h2.get? a=some o)->φ h2
def HOk(H:Hp)(h:Heap):Prop:=∀a o,H a=some o->ObjOk P w H h a o
end
section
variable{P:Program}{w:World}{H H':Hp}{h h':Heap}{a:Addr}{o:HO}
theorem ObjOk.lt(x:ObjOk P w H h a o):a<h.objs.size:=by
 cases o with
 |lst xs=>obtain⟨_,_,_,_,e⟩:=x;exact Heap.lt_size e
 |tup xs=>obtain⟨_,_,_,p⟩:=x;exact p.lt
 |dK kvs=>obtain⟨_,_,_,_,o,_,_,e,_⟩:=x;exact Heap.lt_size e
 |dT kvs=>obtain⟨_,_,_,_,o,_,_,e,_⟩:=x;exact Heap.lt_size e
 |set S n=>obtain⟨o,_,_,_,e,_⟩:=x;exact Heap.lt_size e
 |ins C dx fs=>obtain⟨_,_,_,e,_⟩:=x;exact Heap.lt_size e
 |own y=>obtain⟨_,e⟩:=x;exact Heap.lt_size e
 |xd fs=>obtain⟨_,⟨_,_,_,e,_⟩,_⟩:=x;exact Heap.lt_size e
 |rng lo hi=>obtain⟨_,_,_,e⟩:=x;exact Heap.lt_size e
 |frz ob u=>obtain⟨e,_⟩:=x;exact Heap.lt_size e
 |tbl ps=>exact Heap.lt_size (show h.get? a=some _ from x)
 |met f y=>exact Heap.lt_size (show h.get? a=some _ from x)
 |ext φ=>obtain⟨_,⟨_,e⟩,_⟩:=x;exact Heap.lt_size e
theorem Paired.mapP{α β:Type}{F G:α->β->Prop}:∀{l₁:List α}{l₂:List β},Paired F l₁ l₂->(∀a b,F a b->G a b)->Paired G l₁ l₂
 |_,_,.nil,_=>.nil
 |_,_,.cons r t,f=>.cons (f _ _ r) (Paired.mapP t f)
theorem ObjOk.stay(x:ObjOk P w H h a o)(k:∀b u,(b=a\/H b=some (.own a))->h.get? b=some u->h'.get? b=some u)
  (ho:∀b,H b=some (.own a)->H' b=some (.own a)) (ht:∀b xs,H b=some (.tup xs)->H' b=some (.tup xs)):ObjOk P w H' h' a o:=by
 induction o with
 |lst xs=>obtain⟨z,its,n,r,e⟩:=x;exact⟨z,its,n,r,k _ _ (.inl rfl) e⟩
 |tup xs=>obtain⟨z,its,r,ob,e,c⟩:=x;exact⟨z,its,r,ob,k _ _ (.inl rfl) e,c⟩
 |dK kvs=>obtain⟨z,y,vs,r,ob,es,ep,e,c⟩:=x;exact⟨z,y,vs,r,ob,es,ep,k _ _ (.inl rfl) e,c⟩
 |dT kvs =>
  obtain⟨z,y,xs,r,ob,es,ep,e,c⟩:=x;exact⟨z,y,xs,Paired.mapP r λ p q z=>⟨z.1,ht _ _ z.2.1,z.2.2⟩,ob,es,ep,k _ _ (.inl rfl) e,c⟩
 |set S n=>obtain⟨ob,es,ep,t,e,c⟩:=x;exact⟨ob,es,ep,t,k _ _ (.inl rfl) e,c⟩
 |ins C dx fs =>
  obtain⟨d,z,ne,e,mA,⟨od,es,ep,e2,c⟩,r⟩:=x;exact⟨ho _ d,z,ne,k _ _ (.inl rfl) e,mA,⟨od,es,ep,k _ _ (.inr d) e2,c⟩,r⟩
 |own y=>obtain⟨ob,e⟩:=x;exact⟨ob,k _ _ (.inl rfl) e⟩
 |xd fs=>obtain⟨mA,⟨od,es,ep,e,c⟩,r⟩:=x;exact⟨mA,⟨od,es,ep,k _ _ (.inl rfl) e,c⟩,r⟩
 |rng lo hi=>obtain⟨t,u,v,e⟩:=x;exact⟨t,u,v,k _ _ (.inl rfl) e⟩
 |frz ob u ih=>obtain⟨e,q⟩:=x;exact⟨k _ _ (.inl rfl) e,ih q⟩
 |tbl ps =>
  have e:h.get? a=some { cls:=.none,data:=.fields ps }:=x;show h'.get? a=some { cls:=.none,data:=.fields ps };exact k a _ (.inl rfl) e
 |met f y =>
  have e:h.get? a=some (methodObj (.ref f) (.ref y)):=x;show h'.get? a=some (methodObj (.ref f) (.ref y));exact k a _ (.inl rfl) e
 |ext φ=>obtain⟨p,⟨o,e⟩,st⟩:=x;exact⟨st _ _ p λ o q=>k _ _ (.inl rfl) q,⟨o,k _ _ (.inl rfl) e⟩,st⟩
theorem HOk.lt(x:HOk P w H h)(e:H a=some o):a<h.objs.size:=(x a o e).lt
theorem HOk.fresh(x:HOk P w H h)(e:h.objs.size<=a):H a=none:=by
 cases q:H a with
 |none=>rfl
 |some u=>exact absurd (Nat.lt_of_lt_of_le (x.lt q) e) (Nat.lt_irrefl _)
theorem HOk.kept(x:HOk P w H h)(k:∀b u,h.get? b=some u->h'.get? b=some u):HOk P w H h':=λ a o e =>
 (x a o e).stay (λ b u _ q=>k b u q) (λ_ q=>q) λ_ _ q=>q
theorem HOk.laid(x:HOk P w H h)(k:∀b u,h.get? b=some u->h'.get? b=some u)(hp:h.objs.size<=a)(new:ObjOk P w (upd H a o) h' a o):HOk P w (upd H a o) h':=λ b u e=>by
 have hn:=x.fresh hp;by_cases hb:b=a
 .subst hb;rw[Ac]at e;cases e;exact new
 .rw[Ai hb]at e;exact(x b u e).stay (λ c v _ q=>k c v q) (λ c q=>by rw[Ai (Af q hn)];exact q) λ c xs q=>by rw[Ai (Af q hn)];exact q
end
def Rd(H:Hp)(a:Addr)(u:HO):Prop:=H a=some u\/∃o,H a=some (.frz o u)
theorem Rd.of{H:Hp}{a:Addr}{u:HO}(h:H a=some u):Rd H a u:=.inl h
theorem Rd.ok{P:Program}{w:World}{H:Hp}{h:Heap}{a:Addr}{u:HO}(r:Rd H a u)(x:HOk P w H h):ObjOk P w H h a u:=by
 rcases r with r|⟨o,r⟩
 .exact x a u r
 .obtain⟨_,q⟩:=x a _ r;exact q
def Mut:Option HO->Prop
 |some (.lst _)=>True
 |some (.dK _)=>True
 |some (.dT _)=>True
 |some (.set _ _)=>True
 |some (.ins _ _ _)=>True
 |some (.ext _)=>True
 |_=>False
section
variable{P:Program}{w:World}{H:Hp}{h h':Heap}{x e:Addr}{o':HO}
theorem HOk.write(ok:HOk P w H h)(mu:Mut (H x))(he:e=x\/H e=some (.own x))(k:∀b u,b≠e->h.get? b=some u->h'.get? b=some u)(heo:∃u,h'.get? e=some u)
  (new:ObjOk P w (upd H x o') h' x o'):HOk P w (upd H x o') h':=λ b u q=>by
 have nown:∀c y,H c=some (.own y)->c≠x:=λ c y r z=>by subst z;rw[r]at mu;exact mu
 have ntup:∀c xs,H c=some (.tup xs)->c≠x:=λ c xs r z=>by subst z;rw[r]at mu;exact mu
 by_cases hb:b=x
 .subst hb;rw[Ac]at q;cases q;exact new
 .rw[Ai hb]at q;by_cases hbe:b=e
  .have q':H b=some (.own x):=by
    rcases he with z|z
    .exact absurd (hbe.trans z) hb
    .rw[hbe];exact z
   rw[q]at q';cases q';obtain⟨v,hv⟩:=heo;exact⟨v,by rw[hbe];exact hv⟩
  .refine(ok b u q).stay (λ c v hc r=>k c v ?_ r) (λ c r=>by rw[Ai (nown c b r)];exact r) λ c xs r=>by rw[Ai (ntup c xs r)];exact r
   rcases hc with rfl|hc
   .exact hbe
   .rintro rfl;rcases he with z|z
    .exact nown c b hc z
    .rw[hc]at z;cases z;exact hb rfl
end
structure Un(fs ex:List Addr)(H H':Hp)(h h':Heap):Prop where
 keep:∀b o,h.get? b=some o->H b=none->b∉fs->b∉ex->h'.get? b=some o
 slot:∀b o,h.get? b=some o->H b=none->b∈fs->b∉ex->∃sl,h'.get? b=some { o with slots:=sl }
 free:∀b o,h.get? b=some o->H b=none->b∉ex->H' b=none
 there:∀b o,h.get? b=some o->b∉ex->∃o',h'.get? b=some o'
 tups:∀b xs,H b=some (.tup xs)->H' b=some (.tup xs)
 frzs:∀b o u,H b=some (.frz o u)->H' b=some (.frz o u)
 tbls:∀b ps,H b=some (.tbl ps)->∃more,H' b=some (.tbl (ps++more))
section
variable{fs fs' ex ex':List Addr}{H H1 H2:Hp}{h h1 h2 h':Heap}{a x e:Addr}{o:HO}
theorem Un.any(u:Un fs ex H H1 h h1){b:Addr}{ob:Obj}(q:h.get? b=some ob)(n:H b=none)(hx:b∉ex):∃sl,h1.get? b=some { ob with slots:=sl }:=by
 by_cases hb:b∈fs
 .exact u.slot b ob q n hb hx
 .exact⟨ob.slots,u.keep b ob q n hb hx⟩
theorem Un.kept(k:∀b u,h.get? b=some u->h'.get? b=some u):Un fs ex H H h h' :=
 ⟨λ b ob q _ _ _=>k b ob q,λ b ob q _ _ _=>⟨ob.slots,k b ob q⟩,λ_ _ _ n _=>n,λ b ob q _=>⟨ob,k b ob q⟩,λ_ _ q=>q,λ_ _ _ q=>q,λ_ ps q=>⟨#[],by rw[q];simp⟩⟩
theorem Un.refl:Un fs ex H H h h:=Un.kept λ_ _ q=>q
theorem Un.laid(k:∀b u,h.get? b=some u->h'.get? b=some u)(hp:h.objs.size<=a)(hn:H a=none):Un fs ex H (upd H a o) h h' where
 keep:=λ b u q _ _ _=>k b u q
 slot:=λ b u q _ _ _=>⟨u.slots,k b u q⟩
 free:=λ b u q n _=>by rw[Ai (Nat.ne_of_lt (Nat.lt_of_lt_of_le (Heap.lt_size q) hp))];exact n
 there:=λ b u q _=>⟨u,k b u q⟩
 tups:=λ b xs q=>by rw[Ai (Af q hn)];exact q
 frzs:=λ b u xs q=>by rw[Ai (Af q hn)];exact q
 tbls:=λ b ps q=>⟨#[],by rw[Ai (Af q hn),q];simp⟩
theorem Un.write(mu:Mut (H x))(he:e=x\/H e=some (.own x))(k:∀b u,b≠e->h.get? b=some u->h'.get? b=some u)(heo:∃u,h'.get? e=some u):Un fs ex H (upd H x o) h h':=by
 have hx:∀b,H b=none->b≠x:=λ b n z=>by subst z;rw[n]at mu;exact mu
 have hb:∀b,H b=none->b≠e:=λ b n z=>by
  subst z;rcases he with r|r
  .exact hx b n r
  .rw[n]at r;cases r
 have hm:∀b u,H b=some u->¬Mut (some u)->b≠x:=λ b u q nm z=>by subst z;rw[q]at mu;exact nm mu
 refine⟨λ b u q n _ _=>k b u (hb b n) q,λ b u q n _ _=>⟨u.slots,k b u (hb b n) q⟩,λ b u q n _=>by rw[Ai (hx b n)];exact n,λ b u q _=>?_,
  λ b xs q=>by rw[Ai (hm b _ q λ z=>z)];exact q,λ b u xs q=>by rw[Ai (hm b _ q λ z=>z)];exact q,λ b ps q=>⟨#[],by rw[Ai (hm b _ q λ z=>z),q];simp⟩⟩
 by_cases hbe:b=e
 .subst hbe;exact heo
 .exact⟨u,k b u hbe q⟩
end
def trk(h:Heap)(H:Hp):List Addr:=(List.range h.objs.size).filter λ a=>(H a).isSome
def Ku(h:Heap)(H:Hp):Heap:=hideAll h (trk h H)
theorem Ow(h:Heap)(H:Hp):(Ku h H).objs.size=h.objs.size:=hideAll_size _ _
theorem PK{h:Heap}{H:Hp}{b:Addr}{o:Obj}(e:h.get? b=some o)(n:H b=none):(Ku h H).get? b=some o :=
 hideAll_get _ e λ hm=>by
  have q:(H b).isSome=true:=(List.mem_filter.mp hm).2;rw[n]at q;simp at q
theorem QS{h:Heap}{H:Hp}{b:Addr}{o:Obj}(e:(Ku h H).get? b=some o):h.get? b=some o/\H b=none:=by
 have e':h.get? b=some o:=of_hideAll (trk h H) e;refine⟨e',?_⟩;cases q:H b with
 |none=>rfl
 |some x =>
  have hm:b∈trk h H:=List.mem_filter.mpr ⟨List.mem_range.mpr (Heap.lt_size e'),by simp[q]⟩;have z:(Ku h H).get? b=none:=hideAll_none (trk h H) hm;rw[z]at e;cases e
structure Mod(K:Frag)(mg:MGz)(base:Heap):Prop where
 kin:K.In base
 glob:base.Ns mainGlobals mg
 blt:∃mb,base.Ns builtinsNs mb/\∀x:Str,x≠"__name__"->mb x=bootBuiltins x
 nolimit:base.NoLimit
structure Cx where
 prog:Program
 w:World
 K:Frag
 mg:MGz
 base:Heap
 A:Around
 N:LSz
 s₀:Shared
 H₀:Hp
 env:Env
 outer:List Env
 stack:List Env
 ex:List Addr
 fn:Str->Bool
 calm:Bool
 pn:PNz
 xe:VPz
def frs(l:List Env):List Addr:=l.filterMap (·.frame)
abbrev Cx.fs(X:Cx):List Addr:=frs X.outer
def Vis(sc:Scope)(x:Str):Prop:=sc.names.lookup x=some .local\/sc.names.lookup x=some .cell\/sc.names.lookup x=some .free
def Loc(sc:Scope)(x:Str):Prop:=sc.names.lookup x=some .local\/sc.names.lookup x=some .cell
def U8(env:Env)(h:Heap)(m:MGz)(x:Str)(u:Value):Prop :=
 (env.kindOf x=some .local/\m x=some u)\/((env.kindOf x=some .cell\/env.kindOf x=some .free)/\∃c,env.cells.lookup x=some c/\h.IsCell c (some u))
structure Cx.Ok(X:Cx):Prop where
 mod:Mod X.K X.mg X.base
 kind:X.env.scope.kind=.function
 glob:X.env.globals=mainGlobals
 blt:X.env.builtins=builtinsNs
 above:X.s₀.heap.objs.size<=X.env.locals
 inj:∀x y c,X.env.cells.lookup x=some c->X.env.cells.lookup y=some c->x=y
 has:∀x,(X.env.kindOf x=some .cell\/X.env.kindOf x=some .free)->∃c,X.env.cells.lookup x=some c
 cab:∀x c,X.fn x=true->X.env.cells.lookup x=some c->X.s₀.heap.objs.size<=c
 hd:X.calm=true->X.A.handled=none
 frames:X.A.frames=some X.stack
 stk:X.stack=X.outer\/(X.stack=X.env::X.outer/\X.env.frame=some X.env.locals)
 exf:∀b∈X.ex,b≠X.env.locals/\∀x c,X.env.cells.lookup x=some c->c≠b
 bs:∀b o,X.base.get? b=some o->X.s₀.heap.get? b=some o/\X.H₀ b=none
 bsz:X.base.objs.size<=X.s₀.heap.objs.size
 noex:∀b o,X.base.get? b=some o->b∉X.ex
 exfs:∀b∈X.ex,b∉X.fs
 funs:X.s₀.heap.FunFrames X.base X.outer
 frf:∀b∈X.fs,X.H₀ b=none
structure Inv(X:Cx)(pins:PNz)(σ:List (Option V))(H:Hp)(s:Shared):Prop where
 ok:X.Ok
 os:s.os=X.s₀.os
 bare:AllBare s.gens
 base:Un X.fs X.ex X.H₀ H X.s₀.heap s.heap
 loc:∃m,s.heap.Ns X.env.locals m/\∀(i:Nat)(x:Str)(v:V),X.N[i]?=some x->σ[i]?=some (some v)->Vis X.env.scope x->∃u,RelV v u/\U8 X.env s.heap m x u
 cell:∀x c,X.env.cells.lookup x=some c->∃v,s.heap.IsCell c v
 free:H X.env.locals=none
 freeC:∀x c,X.env.cells.lookup x=some c->H c=none
 pin:∀p∈X.pn++pins,s.heap.get? p.1=some p.2/\H p.1=none/\p.1≠X.env.locals/\p.1∉X.fs/\∀v,p.2.data≠.cell v
 hok:HOk X.prog X.w H s.heap
 len:σ.length=X.N.length
section
variable{X:Cx}{pins:PNz}{σ:List (Option V)}{H H':Hp}{s:Shared}{h':Heap}
theorem Cx.Ok.nofr(ok:X.Ok){b:Addr}{o:Obj}(e:X.base.get? b=some o):b∉X.fs:=λ hb=>by
 have:=(ok.funs.mem hb).1;rw[e]at this;cases this
theorem Inv.bs(I:Inv X pins σ H s):∀b o,X.base.get? b=some o->s.heap.get? b=some o/\H b=none:=λ b o e =>
 ⟨I.base.keep b o (I.ok.bs b o e).1 (I.ok.bs b o e).2 (I.ok.nofr e) (I.ok.noex b o e),I.base.free b o (I.ok.bs b o e).1 (I.ok.bs b o e).2 (I.ok.noex b o e)⟩
theorem Inv.bk(I:Inv X pins σ H s):∀b o,X.base.get? b=some o->s.heap.get? b=some o:=λ b o e=>(I.bs b o e).1
theorem Inv.mod(I:Inv X pins σ H s):Mod X.K X.mg X.base:=I.ok.mod
theorem Inv.kIn(I:Inv X pins σ H s):X.K.In s.heap:=I.ok.mod.kin.keeps I.bk
theorem Inv.lt(I:Inv X pins σ H s):X.env.locals<s.heap.objs.size:=let ⟨_,hn,_⟩:=I.loc;hn.lt
theorem Inv.sz(I:Inv X pins σ H s):X.s₀.heap.objs.size<=s.heap.objs.size:=Nat.le_trans I.ok.above (Nat.le_of_lt I.lt)
theorem Inv.nofs(I:Inv X pins σ H s){a:Addr}(h:s.heap.objs.size<=a):a∉X.fs:=λ hb=>by
 obtain⟨_,o,ho,_⟩:=I.ok.funs.mem hb;exact absurd (Nat.lt_of_lt_of_le (Heap.lt_size ho) (Nat.le_trans I.sz h)) (Nat.lt_irrefl _)
theorem Inv.cne(I:Inv X pins σ H s):∀x c,X.env.cells.lookup x=some c->c≠X.env.locals:=λ x c e z=>by
 obtain⟨v,o,ho,hd⟩:=I.cell x c e;obtain⟨m,⟨o',es,ep,ho',hd',_⟩,_⟩:=I.loc;rw[z,ho']at ho;cases ho;rw[hd']at hd;cases hd
theorem Inv.funs(I:Inv X pins σ H s):s.heap.FunFrames X.base X.outer:=by
 have all:∀(l:List Env),(∀b∈frs l,b∈X.fs)->X.s₀.heap.FunFrames X.base l->s.heap.FunFrames X.base l:=by
  intro l
  induction l with
  |nil=>intro _ _;trivial
  |cons env r ih =>
   intro hs hl;obtain⟨hk,⟨L,o,hf,hn,ho,hd⟩,hr⟩:=hl;have hL:L∈X.fs:=hs L (by unfold frs;rw[List.filterMap_cons,hf];exact List.mem_cons_self);obtain⟨sl,e⟩:=I.base.slot L o ho (I.ok.frf L hL) hL λ z=>I.ok.exfs L z hL;exact⟨hk,⟨L,_,hf,hn,e,hd⟩,ih (λ b hb=>hs b (by unfold frs;rw[List.filterMap_cons,hf];exact List.mem_cons_of_mem _ hb)) hr⟩
 exact all X.outer (λ_ hb=>hb) I.ok.funs
theorem Inv.stack(I:Inv X pins σ H s):s.heap.FunFrames X.base X.stack:=by
 rcases I.ok.stk with e|⟨e,hf⟩
 .rw[e];exact I.funs
 .rw[e];obtain⟨m,hn,_⟩:=I.loc;refine .cons (by rw[I.ok.kind];decide) hf hn ?_ I.funs;exact Heap.get?_none_of_le (Nat.le_trans I.ok.bsz I.ok.above)
theorem Inv.stkSub(I:Inv X pins σ H s):∀b∈frs X.stack,b∈X.env.locals::X.fs:=λ b hb=>by
 rcases I.ok.stk with e|⟨e,hf⟩
 .rw[e]at hb;exact List.mem_cons_of_mem _ hb
 .rw[e]at hb;unfold frs at hb;rw[List.filterMap_cons,hf]at hb;exact hb
theorem Inv.stkFree(I:Inv X pins σ H s):∀b∈frs X.stack,H b=none:=λ b hb=>by
 rcases List.mem_cons.mp (I.stkSub b hb) with e|hb
 .rw[e];exact I.free
 .obtain⟨_,o,ho,_⟩:=I.ok.funs.mem hb;exact I.base.free b o ho (I.ok.frf b hb) λ z=>I.ok.exfs b z hb
theorem Inv.step{g':Array GenState}{t':Nat}{d':Drawn}{ch:List Addr}(I:Inv X pins σ H s)
  (hch:∀b∈ch,(b∈X.ex\/X.s₀.heap.objs.size<=b)/\b≠X.env.locals/\(∀x c,X.env.cells.lookup x=some c->c≠b)/\∀p∈X.pn++pins,p.1≠b)
  (keep:∀b o,b≠X.env.locals->b∉X.fs->b∉ch->s.heap.get? b=some o->H b=none->h'.get? b=some o)
  (slot:∀b o,b≠X.env.locals->b∈X.fs->b∉ch->s.heap.get? b=some o->H b=none->∃sl,h'.get? b=some { o with slots:=sl }) (free:∀b o,b∉ch->s.heap.get? b=some o->H b=none->H' b=none)
  (there:∀b o,b∉ch->s.heap.get? b=some o->∃o',h'.get? b=some o')
  (tups:∀b xs,H b=some (.tup xs)->H' b=some (.tup xs)) (frzs:∀b o u,H b=some (.frz o u)->H' b=some (.frz o u)) (tbls:∀b ps,H b=some (.tbl ps)->∃more,H' b=some (.tbl (ps++more)))
  (ns:∀m,s.heap.Ns X.env.locals m->h'.Ns X.env.locals m) (hok:HOk X.prog X.w H' h') (hg:AllBare g') :
  Inv X pins σ H' { s with heap:=h',gens:=g',drawn:=d',toks:=t' }:=by
 have neL:∀b o,X.s₀.heap.get? b=some o->b≠X.env.locals:=λ b o e=>Nat.ne_of_lt (Nat.lt_of_lt_of_le (Heap.lt_size e) I.ok.above);have neC:∀b o,X.s₀.heap.get? b=some o->b∉X.ex->b∉ch:=λ b o e hx hb=>by
  rcases(hch b hb).1 with z|z
  .exact hx z
  .exact absurd (Nat.lt_of_lt_of_le (Heap.lt_size e) z) (Nat.lt_irrefl _)
 have cellK:∀x c,X.env.cells.lookup x=some c->∀v,s.heap.IsCell c v->h'.IsCell c v:=λ x c e v ⟨o,ho,hd⟩=>by
  have nch:c∉ch:=λ z=>(hch c z).2.2.1 x c e rfl;by_cases hc:c∈X.fs
  .obtain⟨sl,q⟩:=slot c o (I.cne x c e) hc nch ho (I.freeC x c e);exact⟨_,q,hd⟩
  .exact⟨o,keep c o (I.cne x c e) hc nch ho (I.freeC x c e),hd⟩
 refine⟨I.ok,I.os,hg,⟨λ b o e n hb hx=>?_,λ b o e n hb hx=>?_,λ b o e n hx=>?_,λ b o e hx=>?_,λ b xs e=>tups b xs (I.base.tups b xs e),λ b o xs e=>frzs b o xs (I.base.frzs b o xs e),λ b ps e=>?_⟩,?_,λ x c e=>?_,?_,λ x c e=>?_,λ p hp=>?_,hok,I.len⟩
 .exact keep b o (neL b o e) hb (neC b o e hx) (I.base.keep b o e n hb hx) (I.base.free b o e n hx)
 .obtain⟨sl,e1⟩:=I.base.slot b o e n hb hx;obtain⟨sl',e2⟩:=slot b _ (neL b o e) hb (neC b o e hx) e1 (I.base.free b o e n hx);exact⟨sl',e2⟩
 .obtain⟨o',e1⟩:=I.base.there b o e hx;exact free b o' (neC b o e hx) e1 (I.base.free b o e n hx)
 .obtain⟨o',e1⟩:=I.base.there b o e hx;exact there b o' (neC b o e hx) e1
 .obtain⟨m1,e1⟩:=I.base.tbls b ps e;obtain⟨m2,e2⟩:=tbls b _ e1;exact⟨m1++m2,by rw[e2,Array.append_assoc]⟩
 .obtain⟨m,hn,hl⟩:=I.loc;refine⟨m,ns m hn,λ i x v e1 e2 e3=>?_⟩;obtain⟨u,r,l⟩:=hl i x v e1 e2 e3;refine⟨u,r,?_⟩;rcases l with l|⟨k,c,e,z⟩
  .exact .inl l
  .exact .inr ⟨k,c,e,cellK x c e _ z⟩
 .obtain⟨v,z⟩:=I.cell x c e;exact⟨v,cellK x c e v z⟩
 .obtain⟨m,⟨o,_,_,ho,_⟩,_⟩:=I.loc;exact free _ o (λ z=>(hch _ z).2.1 rfl) ho I.free
 .obtain⟨v,o,ho,hd⟩:=I.cell x c e;exact free c o (λ z=>(hch c z).2.2.1 x c e rfl) ho (I.freeC x c e)
 .obtain⟨e,n,ne,nf,d⟩:=I.pin p hp;have nch:p.1∉ch:=λ z=>(hch p.1 z).2.2.2 p hp rfl;exact⟨keep p.1 p.2 ne nf nch e n,free p.1 p.2 nch e n,ne,nf,d⟩
theorem Inv.un{t':Nat}(I:Inv X pins σ H s)(u:Un X.fs [] H H' s.heap h')(hok:HOk X.prog X.w H' h'):Inv X pins σ H' { s with heap:=h',toks:=t' }:=by
 obtain⟨m,⟨o,es,ep,ho,r⟩,_⟩:=id I.loc;obtain⟨sl,hL⟩:=u.any ho I.free (by simp);exact I.step (g':=s.gens) (d':=s.drawn) (ch:=[]) (λ_ z=>nomatch z) (λ b o _ hb _ e n=>u.keep b o e n hb (by simp)) (λ b o _ hb _ e n=>u.slot b o e n hb (by simp)) (λ b o _ e n=>u.free b o e n (by simp)) (λ b o _ e=>u.there b o e (by simp)) u.tups u.frzs u.tbls (λ m' hm=>by
  obtain⟨o',es',ep',ho',r'⟩:=hm;rw[ho]at ho';cases ho';exact⟨_,es',ep',hL,r'⟩) hok I.bare
theorem Inv.call{g':Array GenState}{t':Nat}{d':Drawn}{ch:List Addr}(I:Inv X pins σ H s)(u:Un (frs X.stack) ch H H' s.heap h')(hok:HOk X.prog X.w H' h')(hg:AllBare g')
  (hch:∀b∈ch,(b∈X.ex\/X.s₀.heap.objs.size<=b)/\b≠X.env.locals/\(∀x c,X.env.cells.lookup x=some c->c≠b)/\∀p∈X.pn++pins,p.1≠b) :
  Inv X pins σ H' { s with heap:=h',gens:=g',drawn:=d',toks:=t' }:=by
 obtain⟨m,⟨o,es,ep,ho,r⟩,_⟩:=id I.loc;obtain⟨sl,hL⟩:=u.any ho I.free λ z=>(hch _ z).2.1 rfl;exact I.step (ch:=ch) hch (λ b o hL hb hc e n=>u.keep b o e n (λ z=>(List.mem_cons.mp (I.stkSub b z)).elim hL hb) hc) (λ b o _ _ hc e n=>u.any e n hc) (λ b o hc e n=>u.free b o e n hc) (λ b o hc e=>u.there b o e hc) u.tups u.frzs u.tbls (λ m' hm=>by
  obtain⟨o',es',ep',ho',r'⟩:=hm;rw[ho]at ho';cases ho';exact⟨_,es',ep',hL,r'⟩) hok hg
theorem Inv.turned{t':Nat}{it:Addr}(I:Inv X pins σ H s)(k:∀b o,b≠it->s.heap.get? b=some o->h'.get? b=some o)(hn:H it=none)(hL:it≠X.env.locals)
  (h1:it∈X.ex\/X.s₀.heap.objs.size<=it) (h2:∀x c,X.env.cells.lookup x=some c->c≠it) (h3:∀p∈X.pn++pins,p.1≠it):Inv X pins σ H { s with heap:=h',toks:=t' }:=by
 have nit:∀b u,H b=some u->b≠it:=λ b u e z=>by rw[z,hn]at e;cases e
 refine I.step (g':=s.gens) (d':=s.drawn) (ch:=[it]) (λ b hb=>?_) (λ b o _ _ hc e _=>k b o (λ z=>hc (by simp[z])) e) (λ b o _ _ hc e _=>⟨o.slots,k b o (λ z=>hc (by simp[z])) e⟩) (λ_ _ _ _ n=>n)
  (λ b o hc e=>⟨o,k b o (λ z=>hc (by simp[z])) e⟩) (λ_ _ e=>e) (λ_ _ _ e=>e) (λ b ps e=>⟨#[],by rw[e];simp⟩) (λ m hm=>?_) (λ b u e=>?_) I.bare
 .have e:b=it:=by simpa using hb
  subst e;exact⟨h1,hL,h2,h3⟩
 .obtain⟨o,es,ep,ho,r⟩:=hm;exact⟨o,es,ep,k _ o (Ne.symm hL) ho,r⟩
 .refine(I.hok b u e).stay (λ c v hc q=>k c v ?_ q) (λ_ q=>q) λ_ _ q=>q;rcases hc with z|z
  .rw[z];exact nit b u e
  .exact nit c _ z
theorem Inv.tok(I:Inv X pins σ H s)(t:Nat):Inv X pins σ H { s with toks:=t }:=I.un (h':=s.heap) (t':=t) Un.refl I.hok
theorem Inv.kept{t':Nat}(I:Inv X pins σ H s)(k:∀b u,s.heap.get? b=some u->h'.get? b=some u):Inv X pins σ H { s with heap:=h',toks:=t' }:=I.un (Un.kept k) (I.hok.kept k)
theorem Inv.laid{a:Addr}{o:HO}{t':Nat}(I:Inv X pins σ H s)(k:∀b u,s.heap.get? b=some u->h'.get? b=some u)(hp:s.heap.objs.size<=a)(new:ObjOk X.prog X.w (upd H a o) h' a o) :
  Inv X pins σ (upd H a o) { s with heap:=h',toks:=t' }:=I.un (Un.laid k hp (I.hok.fresh hp)) (I.hok.laid k hp new)
theorem Inv.write{x e:Addr}{o:HO}{t':Nat}(I:Inv X pins σ H s)(mu:Mut (H x))(he:e=x\/H e=some (.own x))(k:∀b u,b≠e->s.heap.get? b=some u->h'.get? b=some u)(heo:∃u,h'.get? e=some u)
  (new:ObjOk X.prog X.w (upd H x o) h' x o):Inv X pins σ (upd H x o) { s with heap:=h',toks:=t' }:=I.un (Un.write mu he k heo) (I.hok.write mu he k heo new)
theorem Inv.pins_of{pins':PNz}(I:Inv X pins σ H s)(h:∀p∈pins',s.heap.get? p.1=some p.2/\H p.1=none/\p.1≠X.env.locals/\p.1∉X.fs/\∀v,p.2.data≠.cell v):Inv X pins' σ H s :=
 ⟨I.ok,I.os,I.bare,I.base,I.loc,I.cell,I.free,I.freeC,λ p hp=>(List.mem_append.mp hp).elim (λ z=>I.pin p (List.mem_append_left _ z)) (h p),I.hok,I.len⟩
theorem Lv{N:LSz}(hN:N.Nodup){i j:Nat}{x:Str}(a:N[i]?=some x)(b:N[j]?=some x):i=j:=by
 obtain⟨h1,e1⟩:=List.getElem?_eq_some_iff.mp a;obtain⟨h2,e2⟩:=List.getElem?_eq_some_iff.mp b;exact(List.getElem_inj hN).mp (e1.trans e2.symm)
theorem NV{M:Model}{A:Around}{E:VPz}{i:Nat}{x:Str}{v:V}{u:Value}{Q:Unit->Shared->Prop}(I:Inv X pins σ H s)(hN:X.N.Nodup)(hi:X.N[i]?=some x)(hx:Loc X.env.scope x)(r:RelV v u)
  (h:∀s',Inv X pins (σ.set i (some v)) H s'->(∃a,Heap.SameBut a s.heap s'.heap/\(a=X.env.locals\/X.env.cells.lookup x=some a))->Q () s') (hf:X.fn x=true\/X.env.scope.names.lookup x=some .local:=by first|exact .inl rfl|exact .inr rfl|assumption):wpAny M A (storeName X.env x u) Q E s:=by
 obtain⟨m,hn,hl⟩:=id I.loc;have hcls:(X.env.scope.kind==.class||(X.env.scope.kind==.module&&X.env.locals != X.env.globals))=false:=by rw[I.ok.kind];rfl
 have hiσ:i<σ.length:=by rw[I.len];exact(List.getElem?_eq_some_iff.mp hi).1
 have cne:=I.cne;have tracked:∀{a:Addr}{h':Heap},(∃o,s.heap.get? a=some o/\H a=none)->Heap.SameBut a s.heap h'->HOk X.prog X.w H h':=λ{a h'} ha hs b ob e=>by
  obtain⟨_,_,hfree⟩:=ha;refine(I.hok b ob e).stay (λ c w' hc q=>(hs.2 c ?_).trans q) (λ_ q=>q) λ_ _ q=>q;rintro rfl;rcases hc with rfl|hc
  .rw[hfree]at e;cases e
  .rw[hfree]at hc;cases hc
 rcases hx with hk|hk
 .refine wpAny_storeName_local hk hn (λ h' hn' hs=>?_) hcls;obtain⟨oL,_,_,hoL,_⟩:=id hn;refine h _ ⟨I.ok,I.os,I.bare,⟨λ b o e n hb hx=>?_,λ b o e n hb hx=>?_,I.base.free,λ b o e hx=>?_,I.base.tups,I.base.frzs,I.base.tbls⟩,⟨_,hn',λ j y v' e1 e2 e3=>?_⟩,λ y c e=>?_,I.free,I.freeC,λ p hp=>?_,tracked ⟨oL,hoL,I.free⟩ hs,by simpa using I.len⟩ ⟨_,hs,.inl rfl⟩
  .exact(hs.2 b (Nat.ne_of_lt (Nat.lt_of_lt_of_le (Heap.lt_size e) I.ok.above))).trans (I.base.keep b o e n hb hx)
  .obtain⟨sl,e1⟩:=I.base.slot b o e n hb hx;exact⟨sl,(hs.2 b (Nat.ne_of_lt (Nat.lt_of_lt_of_le (Heap.lt_size e) I.ok.above))).trans e1⟩
  .obtain⟨o',e1⟩:=I.base.there b o e hx;exact⟨o',(hs.2 b (Nat.ne_of_lt (Nat.lt_of_lt_of_le (Heap.lt_size e) I.ok.above))).trans e1⟩
  .by_cases hj:j=i
   .subst hj;rw[hi]at e1;cases e1;rw[List.getElem?_set_self hiσ]at e2;cases e2;exact⟨u,r,.inl ⟨hk,by simp⟩⟩
   .rw[List.getElem?_set_ne (Ne.symm hj)]at e2;obtain⟨u',r',q⟩:=hl j y v' e1 e2 e3;refine⟨u',r',?_⟩;rcases q with ⟨k,e⟩|⟨k,c,e,z⟩
    .refine .inl ⟨k,?_⟩;have:y≠x:=λ e=>hj (Lv hN e1 (e ▸ hi));simp[this,e]
    .exact .inr ⟨k,c,e,z.sameBut hs (cne y c e)⟩
  .obtain⟨w',z⟩:=I.cell y c e;exact⟨w',z.sameBut hs (cne y c e)⟩
  .obtain⟨e,n,ne,nf,d⟩:=I.pin p hp;exact⟨(hs.2 p.1 ne).trans e,n,ne,nf,d⟩
 .have hfn:X.fn x=true:=by
   rcases hf with z|z
   .exact z
   .rw[z]at hk;cases hk
  obtain⟨c,hc⟩:=I.ok.has x (.inl hk);obtain⟨w',z⟩:=I.cell x c hc;refine wpAny_storeName_cell I.ok.kind hk hc z (λ h' hc' hs=>?_);obtain⟨oc,hoc,hocd⟩:=id z;refine h { s with heap:=h' } ⟨I.ok,I.os,I.bare,⟨λ b o e n hb hx=>?_,λ b o e n hb hx=>?_,I.base.free,λ b o e hx=>?_,I.base.tups,I.base.frzs,I.base.tbls⟩,⟨m,hn.sameBut hs (Ne.symm (cne x c hc)),λ j y v' e1 e2 e3=>?_⟩,λ y c' e=>?_,I.free,I.freeC,λ p hp=>?_,tracked ⟨oc,hoc,I.freeC x c hc⟩ hs,by simpa using I.len⟩ ⟨c,hs,.inr hc⟩
  .exact(hs.2 b (Nat.ne_of_lt (Nat.lt_of_lt_of_le (Heap.lt_size e) (I.ok.cab x c hfn hc)))).trans (I.base.keep b o e n hb hx)
  .obtain⟨sl,e1⟩:=I.base.slot b o e n hb hx;exact⟨sl,(hs.2 b (Nat.ne_of_lt (Nat.lt_of_lt_of_le (Heap.lt_size e) (I.ok.cab x c hfn hc)))).trans e1⟩
  .obtain⟨o',e1⟩:=I.base.there b o e hx;exact⟨o',(hs.2 b (Nat.ne_of_lt (Nat.lt_of_lt_of_le (Heap.lt_size e) (I.ok.cab x c hfn hc)))).trans e1⟩
  .by_cases hj:j=i
   .subst hj;rw[hi]at e1;cases e1;rw[List.getElem?_set_self hiσ]at e2;cases e2;exact⟨u,r,.inr ⟨.inl hk,c,hc,hc'⟩⟩
   .rw[List.getElem?_set_ne (Ne.symm hj)]at e2;obtain⟨u',r',q⟩:=hl j y v' e1 e2 e3;refine⟨u',r',?_⟩;rcases q with q|⟨k,c',e,z'⟩
    .exact .inl q
    .refine .inr ⟨k,c',e,z'.sameBut hs ?_⟩;rintro rfl;exact hj (Lv hN e1 (I.ok.inj _ _ _ e hc ▸ hi))
  .by_cases hcc:c'=c
   .subst hcc;exact⟨_,hc'⟩
   .obtain⟨w2,z2⟩:=I.cell y c' e;exact⟨w2,z2.sameBut hs hcc⟩
  .obtain⟨e,n,ne,nf,d⟩:=I.pin p hp;refine⟨(hs.2 p.1 ?_).trans e,n,ne,nf,d⟩;intro q;rw[q,hoc]at e;have q':oc=p.2:=Option.some.inj e;exact d w' (by rw[<-q'];exact hocd)
theorem Gr{M:Model}{A:Around}{E:VPz}{i:Nat}{x:Str}{v:V}{u:Value}{Q:Unit->Shared->Prop}(I:Inv X pins σ H s)(hN:X.N.Nodup)(hi:X.N[i]?=some x)(hx:Loc X.env.scope x)(r:RelV v u)
  (h:∀s',Inv X pins (σ.set i (some v)) H s'->Q () s') (hf:X.fn x=true\/X.env.scope.names.lookup x=some .local:=by first|exact .inl rfl|exact .inr rfl|assumption):wpAny M A (storeName X.env x u) Q E s :=
 NV I hN hi hx r (λ s' I' _=>h s' I') hf
theorem Inv.call'{s':Shared}{ch:List Addr}(I:Inv X pins σ H s)(ho:s'.os=s.os)(u:Un (frs X.stack) ch H H' s.heap s'.heap)(hok:HOk X.prog X.w H' s'.heap)(hg:AllBare s'.gens)
  (hch:∀b∈ch,(b∈X.ex\/X.s₀.heap.objs.size<=b)/\b≠X.env.locals/\(∀x c,X.env.cells.lookup x=some c->c≠b)/\∀p∈X.pn++pins,p.1≠b):Inv X pins σ H' s':=by
 obtain⟨h',g',d',t',o'⟩:=s';have e:o'=s.os:=ho;subst e;exact I.call (g':=g') (t':=t') (d':=d') u hok hg hch
end
abbrev XK:=Value->Option Addr->Hp->Prop
abbrev St:=List (Option V)
abbrev VK:=V->Hp->Prop
abbrev TE:=St->Hp->VK->Prop
abbrev TT:=St->Hp->(Bool->Hp->Prop)->Prop
abbrev TA:=St->Hp->(LUz->Hp->Prop)->Prop
structure IL where
 nx:St->Hp->Prop
 rt:VK
 bk:St->Hp->Prop:=λ_ _=>False
 ct:St->Hp->Prop:=λ_ _=>False
abbrev TS:=IL->St->Hp->Prop
def EP(X:Cx)(pins:PNz)(σ:St)(Q:VK)(u:Value)(s':Shared):Prop:=∃v H',Inv X pins σ H' s'/\RelV v u/\Q v H'
def TP(X:Cx)(pins:PNz)(σ:St)(Q:Bool->Hp->Prop)(b:Bool)(s':Shared):Prop:=∃H',Inv X pins σ H' s'/\Q b H'
def AP(X:Cx)(pins:PNz)(σ:St)(Q:LUz->Hp->Prop)(us:LWz)(s':Shared):Prop:=∃vs H',Inv X pins σ H' s'/\Vals vs us/\Q vs H'
def SP(X:Cx)(pins:PNz)(D:IL)(f:Flow)(s':Shared):Prop :=
 match f with
 |.next=>∃σ' H',Inv X pins σ' H' s'/\D.nx σ' H'
 |.brk=>∃σ' H',Inv X pins σ' H' s'/\D.bk σ' H'
 |.cont=>∃σ' H',Inv X pins σ' H' s'/\D.ct σ' H'
 |.ret u=>∃v σ' H',Inv X pins σ' H' s'/\RelV v u/\D.rt v H'
def PE(X:Cx)(e:Expr)(t:TE):Prop :=
 ∀(pins:PNz)(s:Shared)(σ:St)(H:Hp)(Q:VK),Inv X pins σ H s->t σ H Q->wpAny (model X.prog X.w) X.A (eval e X.env) (EP X pins σ Q) X.xe s
def PT(X:Cx)(e:Expr)(t:TT):Prop :=
 ∀(pins:PNz)(s:Shared)(σ:St)(H:Hp)(Q:Bool->Hp->Prop),Inv X pins σ H s->t σ H Q->wpAny (model X.prog X.w) X.A (isTrue e X.env (eval e X.env)) (TP X pins σ Q) X.xe s
def PW(X:Cx)(e:Expr)(t:TT):Prop :=
 ∀(whole:Sem Value)(pins:PNz)(s:Shared)(σ:St)(H:Hp)(Q:Bool->Hp->Prop),Inv X pins σ H s->t σ H Q->wpAny (model X.prog X.w) X.A (isTrue e X.env whole) (TP X pins σ Q) X.xe s
theorem PW.pt{X:Cx}{e:Expr}{t:TT}(h:PW X e t):PT X e t:=h _
def PA(X:Cx)(es:List Expr)(t:TA):Prop :=
 ∀(pos:Pos)(pins:PNz)(s:Shared)(σ:St)(H:Hp)(Q:LUz->Hp->Prop),Inv X pins σ H s->t σ H Q->wpAny (model X.prog X.w) X.A (spliced (backTo pos (starEach es X.env))) (AP X pins σ Q) X.xe s
def PS(X:Cx)(st:Stmt)(t:TS):Prop :=
 ∀(pins:PNz)(s:Shared)(σ:St)(H:Hp)(D:IL),Inv X pins σ H s->t D σ H->wpAny (model X.prog X.w) X.A (exec st X.env) (SP X pins D) X.xe s
def PSs(X:Cx)(st:List Stmt)(t:TS):Prop :=
 ∀(pins:PNz)(s:Shared)(σ:St)(H:Hp)(D:IL),Inv X pins σ H s->t D σ H->wpAny (model X.prog X.w) X.A (execs st X.env) (SP X pins D) X.xe s
theorem thn{α:Type}{t:Sem α}{Q Q':α->Shared->Prop}{M:Model}{A:Around}{E:VPz}{s:Shared}(h:wpAny M A t Q E s)(hQ:∀a s,Q a s->Q' a s):wpAny M A t Q' E s:=wpAny_mono h hQ λ_ _ x=>x
section
variable{X:Cx}
inductive TZ(i:Nat)(σ:St)(H:Hp)(Q:VK):Prop
 |mk (v:V) (e:σ[i]?=some (some v)) (q:Q v H):TZ i σ H Q
def FG(i:Nat):TE:=λ σ H Q=>TZ i σ H Q
inductive IBl(x:V)(Q:Bool->Prop):Prop
 |mk (c:Bool) (e:x=.bl c) (q:Q c):IBl x Q
def tC(v:V):TE:=λ_ H Q=>Q v H
theorem Sg{i:Nat}{x:Str}{pos:Pos}(hN:X.N[i]?=some x)(hv:Vis X.env.scope x)(hd:(x==("__debug__":Str))=false:=by decide)(hcd:(x==("__classdict__":Str))=false:=by decide):PE X (.Name x pos) (FG i):=by
 intro pins s σ H Q I h;obtain⟨v,e,h⟩:=h;obtain⟨m,hn,hl⟩:=I.loc;obtain⟨u,r,l⟩:=hl i x v hN e hv;have fin:EP X pins σ Q u s:=⟨v,H,I,r,h⟩;rcases l with ⟨hk,hm⟩|⟨hk,c,hc,hcell⟩
 .exact wpAny_Name (wpAny_loadName_local I.ok.kind hk hn hm fin) hd
 .rcases hk with hk|hk
  .exact wpAny_Name (wpAny_loadName_cell I.ok.kind hk hc hcell fin) hd
  .exact wpAny_Name (wpAny_loadName_free I.ok.kind hk hc hcell fin hcd) hd
theorem Ae{i j pos}:PE X (.Constant (.int i) j pos) (tC (.int i)):=λ_ _ _ H _ I h=>wpAny_Constant_int ⟨.int i,H,I.tok _,⟨_,rfl⟩,h⟩
theorem CS{b j pos}:PE X (.Constant (.bool b) j pos) (tC (.bl b)):=λ_ _ _ H _ I h=>Constant_bool ⟨.bl b,H,I,rfl,h⟩
theorem Bt{j pos}:PE X (.Constant .none j pos) (tC .non):=λ_ _ _ H _ I h=>Constant_none ⟨.non,H,I,rfl,h⟩
theorem AK{x j pos}:PE X (.Constant (.str x) j pos) (tC (.str x)):=λ_ _ _ H _ I h=>Calls.Constant_str ⟨.str x,H,I.tok _,⟨_,rfl⟩,h⟩
def Gl(X:Cx)(x:Str):Prop:=X.env.kindOf x=some .globalImplicit
theorem DU{E:VPz}{pins:PNz}{s:Shared}{σ:St}{H:Hp}{x:Str}{u:Value}{pos:Pos}{Q:VPz}(I:Inv X pins σ H s)(hg:Gl X x)(hm:X.mg x=some u)(h:Q u s)
  (hd:(x==("__debug__":Str))=false:=by decide):wpAny (model X.prog X.w) X.A (eval (.Name x pos) X.env) Q E s :=
 Calls.Name_function_global I.ok.kind hg (Calls.loadGlobal_global (by rw[I.ok.glob];exact I.mod.glob.keeps I.bk) hm h) hd
theorem D9{E:VPz}{pins:PNz}{s:Shared}{σ:St}{H:Hp}{x:Str}{u:Value}{pos:Pos}{Q:VPz}(I:Inv X pins σ H s)(hg:Gl X x)(hm:X.mg x=none)(hv:bootBuiltins x=some u)(h:Q u s)
  (hn:x≠"__name__":=by decide) (hd:(x==("__debug__":Str))=false:=by decide):wpAny (model X.prog X.w) X.A (eval (.Name x pos) X.env) Q E s:=by
 obtain⟨mb,h1,h2⟩:=I.mod.blt;exact Calls.Name_function_global I.ok.kind hg (Calls.loadGlobal_builtin (by rw[I.ok.glob];exact I.mod.glob.keeps I.bk) hm (by rw[I.ok.blt];exact h1.keeps I.bk) ((h2 x hn).trans hv) h) hd
theorem A7{x:Str}{v:V}{u:Value}{pos:Pos}(hg:Gl X x)(hm:X.mg x=some u)(r:RelV v u)(hd:(x==("__debug__":Str))=false:=by decide):PE X (.Name x pos) (tC v) :=
 λ_ _ _ H _ I h=>DU I hg hm ⟨v,H,I,r,h⟩ hd
theorem EC{x:Str}{v:V}{u:Value}{pos:Pos}(hg:Gl X x)(hm:X.mg x=none)(hv:bootBuiltins x=some u)(r:RelV v u)(hn:x≠"__name__":=by decide)(hd:(x==("__debug__":Str))=false:=by decide):PE X (.Name x pos) (tC v) :=
 λ_ _ _ H _ I h=>D9 I hg hm hv ⟨v,H,I,r,h⟩ hn hd
variable{a b:Expr}{ta tb:TE}{pos:Pos}
def PC(X:Cx)(op:CmpOp)(a b:Expr)(t:TE):Prop :=
 ∀(pins:PNz)(s:Shared)(σ:St)(H:Hp)(Q:VK),Inv X pins σ H s->t σ H Q ->
  wpAny (model X.prog X.w) X.A (eval a X.env) (λ v s₁=>wpAny (model X.prog X.w) X.A (eval b X.env) (λ u s₂=>wpAny (model X.prog X.w) X.A (compareOp op v u) (EP X pins σ Q) X.xe s₂) X.xe s₁) X.xe s
theorem P3(b:Expr){op:CmpOp}(h:op≠.In)(h2:op≠.NotIn):behindInMarks op b=false:=by
 have e1:(op==CmpOp.In)=false:=by cases op<;>first|rfl|exact absurd rfl h
 have e2:(op==CmpOp.NotIn)=false:=by cases op<;>first|rfl|exact absurd rfl h2
 cases b<;>simp[behindInMarks,e1,e2]
def tB(t:TE):TT:=λ σ H Q=>t σ H λ x H1=>IBl x λ c=>Q c H1
theorem Mm{op:CmpOp}{t:TE}(h:PC X op a b t)(h1:behindInMarks op b=false:=by first|exact P3 _ (by decide) (by decide)|rfl):PT X (.Compare a [op] [b] pos) (tB t):=by
 intro pins s σ H Q I hw;refine wpAny_isTrue_Compare1 (thn (h pins s σ H _ I hw) λ v s1 h1=>thn h1 λ u s2 h2=>thn h2 λ c s3 hz_=>?_) h1;obtain⟨x,H1,I1,r1,q1⟩:=hz_;obtain⟨d,rfl,q⟩:=q1;cases r1;exact wpAny_truthy_bool ⟨H1,I1,q⟩
theorem BO{e:Expr}{t:TE}(h:PE X e t)(he:∀whole,isTrue e X.env whole=(do let v <-whole;standAt e.pos;holding [v] (truthy v)):=by intro _;rfl):PT X e (tB t):=by
  intro pins s σ H Q I hw;refine isTrue_plain (thn (h pins s σ H _ I hw) λ v s1 hz_=>?_) (he _);obtain⟨x,H1,I1,r1,q1⟩:=hz_;obtain⟨d,rfl,q⟩:=q1;cases r1;exact wpAny_truthy_bool ⟨H1,I1,q⟩
variable{tA tB':TT}{rest:List Expr}
def Uq(t u:TT):TT:=λ σ H Q=>t σ H λ c H1=>if c=true then u σ H1 Q else Q false H1
def tOr(t u:TT):TT:=λ σ H Q=>t σ H λ c H1=>if c=true then Q true H1 else u σ H1 Q
def Uh(t:TT):TT:=λ σ H Q=>t σ H λ c H1=>Q (!c) H1
theorem E9(ha:PT X a tA):PW X (.BoolOp .And [a] pos) tA:=by
 intro wh pins s σ H Q I h;refine isTrue_and (thn (ha pins s σ H Q I h) λ c s1 e=>?_);cases c with
 |true=>exact isTrue_and_nil e
 |false=>exact e
theorem Cg(ha:PT X a tA):PW X (.BoolOp .Or [a] pos) tA:=by
 intro wh pins s σ H Q I h;refine isTrue_or (thn (ha pins s σ H Q I h) λ c s1 e=>?_);cases c with
 |false=>exact isTrue_or_nil e
 |true=>exact e
theorem Ek(ha:PT X a tA)(hb:PW X (.BoolOp .And (b::rest) pos) tB'):PW X (.BoolOp .And (a::b::rest) pos) (Uq tA tB'):=by
 intro wh pins s σ H Q I h;refine isTrue_and (thn (ha pins s σ H _ I h) λ c s1 hz_=>?_);obtain⟨H1,I1,q1⟩:=hz_;cases c with
 |true=>exact hb wh pins s1 σ H1 Q I1 q1
 |false=>exact⟨H1,I1,q1⟩
theorem Ca(ha:PT X a tA)(hb:PW X (.BoolOp .Or (b::rest) pos) tB'):PW X (.BoolOp .Or (a::b::rest) pos) (tOr tA tB'):=by
 intro wh pins s σ H Q I h;refine isTrue_or (thn (ha pins s σ H _ I h) λ c s1 hz_=>?_);obtain⟨H1,I1,q1⟩:=hz_;cases c with
 |true=>exact⟨H1,I1,q1⟩
 |false=>exact hb wh pins s1 σ H1 Q I1 q1
theorem BG(ha:PT X a tA):PT X (.UnaryOp .Not a pos) (Uh tA):=by
 intro pins s σ H Q I h;exact isTrue_not (ha pins s σ H (λ c H1=>Q (!c) H1) I h)
def Tg(ta tb:TE):TE:=λ σ H Q=>ta σ H λ x H1=>IBl x λ c=>if c=true then tb σ H1 Q else Q (.bl false) H1
def Tb(ta:TE):TE:=λ σ H Q=>ta σ H λ x H1=>IBl x λ c=>Q (.bl (!c)) H1
theorem G8{op}{t:TE}(h:PE X a t):PE X (.BoolOp op [a] pos) t:=λ pins s σ H Q I hw=>BoolOp_one (h pins s σ H Q I hw)
theorem Fi(ha:PE X a ta)(hb:PE X (.BoolOp .And (b::rest) pos) tb):PE X (.BoolOp .And (a::b::rest) pos) (Tg ta tb):=by
 intro pins s σ H Q I h;refine BoolOp_and (thn (ha pins s σ H _ I h) λ v s1 hz_=>?_);obtain⟨x,H1,I1,r1,q1⟩:=hz_;obtain⟨c,rfl,q1⟩:=q1;cases r1;refine wpAny_truthy_bool ?_;cases c with
 |true=>exact hb pins s1 σ H1 Q I1 q1
 |false=>exact⟨.bl false,H1,I1,rfl,q1⟩
theorem Sh(ha:PE X a ta):PE X (.UnaryOp .Not a pos) (Tb ta):=by
 intro pins s σ H Q I h;refine UnaryOp_ (thn (ha pins s σ H _ I h) λ v s1 hz_=>?_);obtain⟨x,H1,I1,r1,q1⟩:=hz_;obtain⟨c,rfl,q1⟩:=q1;cases r1;exact not_of (wpAny_truthy_bool ⟨.bl (!c),H1,I1,rfl,q1⟩)
def tIf(t:TT)(ta tb:TE):TE:=λ σ H Q=>t σ H λ c H1=>if c=true then ta σ H1 Q else tb σ H1 Q
theorem AY{c:Expr}(hc:PT X c tA)(ha:PE X a ta)(hb:PE X b tb):PE X (.IfExp c a b pos) (tIf tA ta tb):=by
 intro pins s σ H Q I h;refine wpAny_IfExp (thn (hc pins s σ H _ I h) λ d s1 hz_=>?_);obtain⟨H1,I1,q1⟩:=hz_;cases d with
 |true=>exact ha pins s1 σ H1 Q I1 q1
 |false=>exact hb pins s1 σ H1 Q I1 q1
end
def SqL(K:Frag)(H:Hp)(a:Addr)(xs:LUz):Prop :=
 Rd H a (.lst xs) \/
  ∃(o:Obj)(its:Array Value)(n:Nat),K.lookup a=some o/\o.cls=.type "list"/\o.dict=none/\o.data=.seq its n/\its.size<=sizeLine/\Vals xs its.toList
def SqT(K:Frag)(H:Hp)(a:Addr)(xs:LUz):Prop :=
 Rd H a (.tup xs) \/
  ∃(o:Obj)(its:Array Value)(n:Nat),K.lookup a=some o/\o.cls=.type "tuple"/\o.data=.seq its n/\its.size<=sizeLine/\Vals xs its.toList
def U6:Value->Option V
 |.none=>some .non
 |.bool b=>some (.bl b)
 |.int i _=>some (.int i)
 |.str x _=>some (.str x)
 |.bytes b _=>some (.byt b)
 |.float b _=>some (.flt b)
 |.ref a=>some (.ref a)
 |.type n=>some (.ty n)
 |_=>none
theorem RelV.abs{x:V}{u:Value}(r:RelV x u):U6 u=some x:=by
 cases x with
 |non=>cases r;rfl
 |bl _=>cases r;rfl
 |int _=>obtain⟨t,rfl⟩:=r;rfl
 |str _=>obtain⟨t,rfl⟩:=r;rfl
 |byt _=>obtain⟨t,rfl⟩:=r;rfl
 |flt _=>obtain⟨t,rfl⟩:=r;rfl
 |ref _=>cases r;rfl
 |ty _=>cases r;rfl
theorem RelV.inj{x y:V}{u:Value}(r:RelV x u)(q:RelV y u):x=y:=Option.some.inj (r.abs.symm.trans q.abs)
theorem Vals.inj:∀{xs ys:LUz}{us:LWz},Vals xs us->Vals ys us->xs=ys
 |_,_,_,.nil,.nil=>rfl
 |_,_,_,.cons r t,.cons r' t'=>by rw[r.inj r',Vals.inj t t']
section
variable{X:Cx}{pins:PNz}{σ:St}{H:Hp}{s:Shared}{a:Addr}{xs ys:LUz}
theorem SqL.of{K:Frag}(h:H a=some (.lst xs)):SqL K H a xs:=.inl (.inl h)
theorem SqT.of{K:Frag}(h:H a=some (.tup xs)):SqT K H a xs:=.inl (.inl h)
theorem Inv.list(I:Inv X pins σ H s)(h:SqL X.K H a xs):∃its:LWz,Vals xs its/\PlainL s.heap a its.toArray/\xs.length<=sizeLine:=by
 rcases h with h|⟨o,its,n,hk,hc,hd,hs,hz,r⟩
 .obtain⟨z,its,n,r,e⟩:=h.ok I.hok;exact⟨its,r,⟨_,n,e,rfl,rfl,rfl⟩,z⟩
 .refine⟨its.toList,r,⟨o,n,I.kIn a o hk,hc,hd,by simpa using hs⟩,?_⟩;have e:=r.length;simp only[Array.length_toList]at e;lia
theorem Inv.tuple(I:Inv X pins σ H s)(h:SqT X.K H a xs):∃its:LWz,Vals xs its/\IsTup s.heap a its.toArray/\xs.length<=sizeLine:=by
 rcases h with h|⟨o,its,n,hk,hc,hs,hz,r⟩
 .obtain⟨z,its,r,p⟩:=h.ok I.hok;exact⟨its,r,p,z⟩
 .refine⟨its.toList,r,⟨o,I.kIn a o hk,hc,n,by simpa using hs⟩,?_⟩;have e:=r.length;simp only[Array.length_toList]at e;lia
theorem Inv.list_inj(I:Inv X pins σ H s)(h:SqL X.K H a xs)(h':SqL X.K H a ys):xs=ys:=by
 obtain⟨its,r,⟨o,n,e,_,_,d⟩,_⟩:=I.list h;obtain⟨its',r',⟨o',n',e',_,_,d'⟩,_⟩:=I.list h';rw[e]at e';cases e';rw[d]at d';injection d' with d1 _;have:its=its':=by simpa using congrArg Array.toList d1
 subst this;exact r.inj r'
theorem Inv.tuple_inj(I:Inv X pins σ H s)(h:SqT X.K H a xs)(h':SqT X.K H a ys):xs=ys:=by
 obtain⟨its,r,⟨o,e,_,n,d⟩,_⟩:=I.tuple h;obtain⟨its',r',⟨o',e',_,n',d'⟩,_⟩:=I.tuple h';rw[e]at e';cases e';rw[d]at d';injection d' with d1 _;have:its=its':=by simpa using congrArg Array.toList d1
 subst this;exact r.inj r'
end
abbrev Cx.wish(X:Cx)(E:VPz):Cx:={ X with xe:=E }
abbrev Cx.nox(X:Cx):Cx:=X.wish λ_ _=>False
theorem Cx.Ok.wish{X:Cx}(ok:X.Ok)(E:VPz):(X.wish E).Ok :=
 ⟨ok.mod,ok.kind,ok.glob,ok.blt,ok.above,ok.inj,ok.has,ok.cab,ok.hd,ok.frames,ok.stk,ok.exf,ok.bs,ok.bsz,ok.noex,ok.exfs,ok.funs,ok.frf⟩
theorem Cx.Ok.unwish{X:Cx}{E:VPz}(ok:(X.wish E).Ok):X.Ok :=
 ⟨ok.mod,ok.kind,ok.glob,ok.blt,ok.above,ok.inj,ok.has,ok.cab,ok.hd,ok.frames,ok.stk,ok.exf,ok.bs,ok.bsz,ok.noex,ok.exfs,ok.funs,ok.frf⟩
section
variable{X:Cx}{pins:PNz}{σ:St}{H:Hp}{s:Shared}{E:VPz}
theorem Inv.wish(I:Inv X pins σ H s)(E:VPz):Inv (X.wish E) pins σ H s:=⟨I.ok.wish E,I.os,I.bare,I.base,I.loc,I.cell,I.free,I.freeC,I.pin,I.hok,I.len⟩
theorem Inv.unwish(I:Inv (X.wish E) pins σ H s):Inv X pins σ H s:=⟨I.ok.unwish,I.os,I.bare,I.base,I.loc,I.cell,I.free,I.freeC,I.pin,I.hok,I.len⟩
theorem SP.unwish{D:IL}{f:Flow}{s':Shared}(h:SP (X.wish E) pins D f s'):SP X pins D f s':=by
 cases f with
 |next=>obtain⟨σ',H',I,q⟩:=h;exact⟨σ',H',I.unwish,q⟩
 |brk=>obtain⟨σ',H',I,q⟩:=h;exact⟨σ',H',I.unwish,q⟩
 |cont=>obtain⟨σ',H',I,q⟩:=h;exact⟨σ',H',I.unwish,q⟩
 |ret u=>obtain⟨v,σ',H',I,r,q⟩:=h;exact⟨v,σ',H',I.unwish,r,q⟩
theorem PSs.nox{st:List Stmt}{t:TS}(h:PSs X.nox st t):PSs X st t:=λ pins s σ H D I hw =>
 wpAny_mono (h pins s σ H D (I.wish _) hw) (λ_ _ q=>q.unwish) λ_ _ z=>False.elim z
end
section
variable{X:Cx}{st:Stmt}{rest:List Stmt}{t u:TS}{e:Expr}{te:TE}{pos:Pos}
def Tc:TS:=λ D σ H=>D.nx σ H
def Ug(t u:TS):TS:=λ D σ H=>t { D with nx:=u D } σ H
theorem Ao:PSs X [] Tc:=λ_ _ σ H _ I h=>wpAny_execs_nil ⟨σ,H,I,h⟩
theorem Ad(h1:PS X st t)(h2:PSs X rest u):PSs X (st::rest) (Ug t u):=by
 intro pins s σ H D I h;refine wpAny_execs_cons (thn (h1 pins s σ H { D with nx:=u D } I h) λ f s1 q=>?_);cases f with
 |next =>
  obtain⟨σ',H',I',q⟩:=q;exact h2 pins s1 σ' H' D I' q
 |ret v=>exact q
 |brk=>exact q
 |cont=>exact q
theorem Ag(h1:PS X st t):PSs X [st] t:=by
 intro pins s σ H D I h;refine wpAny_execs_cons (thn (h1 pins s σ H D I h) λ f s1 q=>?_);cases f with
 |next=>exact wpAny_execs_nil q
 |ret v=>exact q
 |brk=>exact q
 |cont=>exact q
theorem Inv.quiet{pins:PNz}{σ:St}{H:Hp}{s:Shared}(I:Inv X pins σ H s):interactive X.env=false:=by simp[interactive,I.ok.kind]
def Te(te:TE):TS:=λ D σ H=>te σ H λ_ H1=>D.nx σ H1
theorem Bo(he:PE X e te)(hs:swapsWith e none pos.line X.env=pure false:=by rfl):PS X (.Expr e pos) (Te te):=by
 intro pins s σ H D I h;exact wpAny_Expr_any (thn (he pins s σ H _ I h) λ v s1 ⟨x,H1,I1,r1,q1⟩=>⟨σ,H1,I1,q1⟩) I.quiet hs
def SZ(te:TE):TS:=λ D σ H=>te σ H D.rt
theorem An(he:PE X e te):PS X (.Return (some e) pos) (SZ te):=by
 intro pins s σ H D I h;exact wpAny_Return_some (thn (he pins s σ H _ I h) λ v s1 ⟨x,H1,I1,r1,q1⟩=>⟨x,σ,H1,I1,r1,q1⟩)
def Uj(c:TT)(t u:TS):TS:=λ D σ H=>c σ H λ b H1=>if b=true then t D σ H1 else u D σ H1
theorem A6{c:Expr}{a b:List Stmt}{tc:TT}(hc:PT X c tc)(ha:PSs X a t)(hb:PSs X b u):PS X (.If c a b pos) (Uj tc t u):=by
 intro pins s σ H D I h;refine wpAny_If (thn (hc pins s σ H _ I h) λ d s1 hz_=>?_);obtain⟨H1,I1,q1⟩:=hz_;cases d with
 |true=>exact ha pins s1 σ H1 D I1 q1
 |false=>exact hb pins s1 σ H1 D I1 q1
def RS:TS:=λ_ _ _=>False
theorem D6:PS X st RS:=λ_ _ _ _ _ _ h=>h.elim
end
abbrev TG:=V->St->Hp->(St->Hp->Prop)->Prop
abbrev TGs:=LUz->St->Hp->(St->Hp->Prop)->Prop
def PG(X:Cx)(target:Expr)(t:TG):Prop :=
 ∀(pins:PNz)(s:Shared)(σ:St)(H:Hp)(v:V)(u:Value)(Q:St->Hp->Prop),Inv X pins σ H s->RelV v u->t v σ H Q ->
  wpAny (model X.prog X.w) X.A (assign target X.env u) (λ_ s'=>∃σ' H',Inv X pins σ' H' s'/\Q σ' H') X.xe s
def PGs(X:Cx)(ts:List Expr)(t:TGs):Prop :=
 ∀(pins:PNz)(s:Shared)(σ:St)(H:Hp)(vs:LUz)(us:LWz)(Q:St->Hp->Prop),Inv X pins σ H s->Vals vs us->t vs σ H Q ->
  wpAny (model X.prog X.w) X.A (assignInOrder ((assignEach ts X.env).map (·.2)) us) (λ_ s'=>∃σ' H',Inv X pins σ' H' s'/\Q σ' H') X.xe s
abbrev TIp:=V->V->Hp->VK->Prop
def PIp(X:Cx)(op:Operator)(t:TIp):Prop :=
 ∀(pins:PNz)(s:Shared)(σ:St)(H:Hp)(x y:V)(v u:Value)(Q:VK),Inv X pins σ H s->RelV x v->RelV y u->t x y H Q ->
  wpAny (model X.prog X.w) X.A (inplaceOp op v u) (EP X pins σ Q) X.xe s
section
variable{X:Cx}{pos:Pos}
def RC(i:Nat):TG:=λ v σ H Q=>Q (σ.set i (some v)) H
theorem Aq{i:Nat}{x:Str}(hN:X.N.Nodup)(hi:X.N[i]?=some x)(hx:Loc X.env.scope x)(hf:X.fn x=true\/X.env.scope.names.lookup x=some .local:=by first|exact .inl rfl|exact .inr rfl|assumption):PG X (.Name x pos) (RC i):=by
 intro pins s σ H v u Q I r h;exact wpAny_assign_Name (Gr I hN hi hx r (λ s' I'=>⟨_,H,I',h⟩) hf)
def U3:TGs:=λ vs σ H Q=>vs=[]/\Q σ H
def TF(t:TG)(u:TGs):TGs:=λ vs σ H Q=>∃v r,vs=v::r/\t v σ H λ σ' H'=>u r σ' H' Q
theorem Bf:PGs X [] U3:=by
 intro pins s σ H vs us Q I r h;obtain⟨e,h⟩:=h;subst e;cases r;exact assignInOrder_nil ⟨σ,H,I,h⟩
theorem Aw{e:Expr}{es:List Expr}{t:TG}{u:TGs}(h1:PG X e t)(h2:PGs X es u)
  (hs:(assignEach (e::es) X.env).map (·.2)=assign e X.env::(assignEach es X.env).map (·.2):=by rfl):PGs X (e::es) (TF t u):=by
 intro pins s σ H vs us Q I r h;obtain⟨v,vr,e1,h⟩:=h;subst e1;cases r with
 |cons r rr =>
  rw[hs];refine assignInOrder_cons (thn (h1 pins s σ H _ _ _ I r h) λ_ s1 hz_=>?_);obtain⟨σ1,H1,I1,q1⟩:=hz_;exact h2 pins s1 σ1 H1 _ _ Q I1 rr q1
inductive RE(K:Frag)(n:Nat)(t:TGs)(v:V)(σ:St)(H:Hp)(Q:St->Hp->Prop):Prop
 |mk (a:Addr) (xs:LUz) (e:v=.ref a) (s:SqT K H a xs) (l:xs.length=n) (q:t xs σ H Q):RE K n t v σ H Q
def TD(K:Frag)(n:Nat)(t:TGs):TG:=λ v σ H Q=>RE K n t v σ H Q
theorem CG{es:List Expr}{k:Nat}{t:TGs}{n:Nat}(hc:X.calm=true)(h:PGs X es t)
  (hn:(assignEach es X.env).length=n:=by rfl) (hst:(assignEach es X.env).findIdx? (·.1)=none:=by rfl):PG X (.Tuple es k pos) (TD X.K n t):=by
 intro pins s σ H v u Q I r hw;obtain⟨a,xs,e1,hq,hl,hw⟩:=hw;subst e1;cases r;obtain⟨its,rv,ht,hz⟩:=I.tuple hq;refine assign_Tuple_tuple (I.ok.hd hc) ht (by simp[hn,<-hl,rv.length]) hst λ h' hx=>?_;have I1:Inv X pins σ H { s with heap:=h' }:=I.kept (t':=s.toks) λ b o e=>hx b o (Nat.ne_of_lt (Heap.lt_size e)) e;exact h pins _ σ H xs _ Q I1 (by simpa using rv) hw
def RW(te:TE)(g:TG):TS:=λ D σ H=>te σ H λ x H1=>g x σ H1 D.nx
theorem Mp{tg e:Expr}{te:TE}{g:TG}(he:PE X e te)(hg:PG X tg g)(hs:swapsWithSole [tg] e pos.line X.env=pure false:=by rfl)(hw:swappedStores [tg] e X.env=pure none:=by rfl)
  (h1:(assignEach [tg] X.env).map (·.2)=[assign tg X.env]:=by rfl):PS X (.Assign [tg] e pos) (RW te g):=by
 intro pins s σ H D I h;refine wpAny_Assign_stores (thn (he pins s σ H _ I h) λ v s1 hz_=>?_) hs hw;obtain⟨x,H1,I1,r1,q1⟩:=hz_;rw[h1];exact thn (hg pins s1 σ H1 x v _ I1 r1 q1) λ_ s2 q=>q
theorem As{i:Nat}{x:Str}{e:Expr}{te:TE}{pos':Pos}(hN:X.N.Nodup)(hi:X.N[i]?=some x)(hx:Loc X.env.scope x)(he:PE X e te)(hs:swapsWith e (some (.Name x pos')) pos.line X.env=pure false:=by rfl)(hf:X.fn x=true\/X.env.scope.names.lookup x=some .local:=by first|exact .inl rfl|exact .inr rfl|assumption) :
  PS X (.Assign [.Name x pos'] e pos) (RW te (RC i)):=by
 intro pins s σ H D I h;refine wpAny_Assign_Name (thn (he pins s σ H _ I h) λ v s1 hz_=>?_) hs;obtain⟨y,H1,I1,r1,q1⟩:=hz_;exact Gr I1 hN hi hx r1 (λ s2 I2=>⟨_,H1,I2,q1⟩) hf
def Up(i:Nat)(te:TE)(ti:TIp):TS:=λ D σ H=>∃x,σ[i]?=some (some x)/\te σ H λ y H1=>ti x y H1 λ z H2=>D.nx (σ.set i (some z)) H2
theorem Sf{i:Nat}{x:Str}{e:Expr}{te:TE}{op:Operator}{ti:TIp}{pos':Pos}(hN:X.N.Nodup)(hi:X.N[i]?=some x)(hx:Loc X.env.scope x)(he:PE X e te)(ho:PIp X op ti)(hf:X.fn x=true\/X.env.scope.names.lookup x=some .local:=by first|exact .inl rfl|exact .inr rfl|assumption) :
  PS X (.AugAssign (.Name x pos') op e pos) (Up i te ti):=by
 intro pins s σ H D I h;obtain⟨v,e1,h⟩:=h;obtain⟨m,hn,hl⟩:=I.loc;have vis:Vis X.env.scope x:=by rcases hx with k|k;exact .inl k;exact .inr (.inl k)
 obtain⟨u,r,l⟩:=hl i x v hi e1 vis;refine wpAny_AugAssign_Name ?_;have go:wpAny (model X.prog X.w) X.A (eval e X.env) (λ w s₂=>wpAny (model X.prog X.w) X.A (inplaceOp op u w) (λ r s₃=>wpAny (model X.prog X.w) X.A (storeName X.env x r) (λ_=>SP X pins D .next) X.xe s₃) X.xe s₂) X.xe s:=by
  refine thn (he pins s σ H _ I h) λ w s1 hz_=>?_;obtain⟨y,H1,I1,r1,q1⟩:=hz_;refine thn (ho pins s1 σ H1 v y u w _ I1 r r1 q1) λ z s2 hz_=>?_;obtain⟨zv,H2,I2,r2,q2⟩:=hz_;exact Gr I2 hN hi hx r2 (λ s3 I3=>⟨_,H2,I3,q2⟩) hf
 rcases l with ⟨hk,hm⟩|⟨hk,c,hc,hcell⟩
 .exact wpAny_loadName_local I.ok.kind hk hn hm go
 .rcases hk with hk|hk
  .exact wpAny_loadName_cell I.ok.kind hk hc hcell go
  .rcases hx with k|k
   .have:X.env.scope.names.lookup x=some .free:=hk;rw[k]at this;cases this
   .have:X.env.scope.names.lookup x=some .free:=hk;rw[k]at this;cases this
def ipI(f:Int->Int->Int):TIp:=λ x y H Q=>∃i j,x=.int i/\y=.int j/\Q (.int (f i j)) H
theorem SD:PIp X .Add (ipI λ i j=>i+j):=by
 intro pins s σ H x y v u Q I r1 r2 h;obtain⟨i,j,e1,e2,q⟩:=h;subst e1;subst e2;obtain⟨t,rfl⟩:=r1;obtain⟨t',rfl⟩:=r2;exact iadd_int ⟨.int _,H,I.tok _,⟨_,rfl⟩,q⟩
def RR(c:TT)(tb:TS):TS:=λ D σ H=>∃W:Nat->St->Hp->Prop,(∃m,W m σ H)/\∀m σ H,W m σ H ->
 c σ H λ b H1=>if b=true then ∃N:St->Hp->Prop,(∀σ' H',N σ' H'->∃m',m'<m/\W m' σ' H')/\tb { D with nx:=N,ct:=N,bk:=D.nx } σ H1 else D.nx σ H1
theorem Po{c:Expr}{body:List Stmt}{tc:TT}{tb:TS}(hp:PassesOwn (model X.prog X.w) X.A X.env X.xe)(hc:PT X c tc)(hb:PSs X body tb):PS X (.While c body [] pos) (RR tc tb):=by
 intro pins s σ H D I h;obtain⟨W,⟨m0,w0⟩,turn⟩:=h;refine wpAny_While (codeAny_whileLoop (λ n s'=>∃σ' H',Inv X pins σ' H' s'/\W n σ' H') ?_ m0 ⟨σ,H,I,w0⟩);rintro n s1 ⟨σ1,H1,I1,w1⟩;refine wpAny_passesOwn hp (thn (hc pins s1 σ1 H1 _ I1 (turn n σ1 H1 w1)) λ b s2 hz_=>?_);obtain⟨H2,I2,q2⟩:=hz_;cases b with
 |true =>
  obtain⟨N,hN,q2⟩:=q2;rw[if_pos rfl];refine wpAny_passesOwn hp (thn (hb pins s2 σ1 H2 _ I2 q2) λ f s3 q3=>?_);cases f with
  |next =>
   obtain⟨σ3,H3,I3,n3⟩:=q3;obtain⟨m',hm,w3⟩:=hN σ3 H3 n3;exact⟨m',hm,σ3,H3,I3,w3⟩
  |cont =>
   obtain⟨σ3,H3,I3,n3⟩:=q3;obtain⟨m',hm,w3⟩:=hN σ3 H3 n3;exact⟨m',hm,σ3,H3,I3,w3⟩
  |brk=>exact q3
  |ret v=>exact q3
 |false =>
  rw[if_neg Bool.false_ne_true];exact wpAny_execs_nil ⟨σ1,H2,I2,q2⟩
end
structure It where
 go:Nat->Hp->Prop
 yld:Nat->Hp->V->Hp->Prop
 stop:Nat->Hp->Prop
def Ew(X:Cx)(pins:PNz)(H:Hp)(b:Addr):Prop :=
 H b=none/\b≠X.env.locals/\b∉X.fs/\(b∈X.ex\/X.s₀.heap.objs.size<=b)/\(∀x c,X.env.cells.lookup x=some c->c≠b)/\∀p∈X.pn++pins,p.1≠b
theorem Inv.fpOk{X:Cx}{pins:PNz}{σ:St}{H H':Hp}{s:Shared}{b:Addr}(I:Inv X pins σ H s)(hb:s.heap.objs.size<=b)(hn:H' b=none):Ew X pins H' b:=by
 refine⟨hn,Nat.ne_of_gt (Nat.lt_of_lt_of_le I.lt hb),I.nofs hb,.inr (Nat.le_trans I.sz hb),λ x c e z=>?_,λ p hp z=>?_⟩
 .obtain⟨v,q⟩:=I.cell x c e;exact absurd (Nat.lt_of_lt_of_le q.lt (by rw[z];exact hb)) (Nat.lt_irrefl _)
 .exact absurd (Nat.lt_of_lt_of_le (Heap.lt_size (I.pin p hp).1) (by rw[z];exact hb)) (Nat.lt_irrefl _)
structure LH(P:Program)(w:World)(K:Frag)(tg:Expr)(J:It)(fp:List Addr)(it:Addr)(tn:Nat->Heap->Prop):Prop where
 mem:it∈fp
 obj:∀i h,tn i h->∀b∈fp,∃o,h.get? b=some o/\∀v,o.data≠.cell v
 keep:∀i h h',tn i h->(∀b∈fp,∀o,h.get? b=some o->h'.get? b=some o)->tn i h'
 item:∀(X:Cx),X.prog=P->X.w=w->X.K=K->X.calm=true->∀(i:Nat)(pins:PNz)(s:Shared)(σ:St)(H:Hp)(E:VPz),Inv X pins σ H s->(∀b∈fp,Ew X pins H b)->tn i s.heap->J.go i H ->
  wpAny (model P w) X.A (pyNext (.ref it)) (λ r s1=>∃u,r=some u /\
   wpAny (model P w) X.A (letOwnedTupleGo tg (.ref it) u) (λ_ s2=>∃x H',Inv X pins σ H' s2/\RelV x u/\J.yld i H x H'/\tn (i+1) s2.heap/\∀b∈fp,H' b=none) E s1) E s
 done:∀(X:Cx),X.prog=P->X.w=w->X.K=K->X.calm=true->∀(i:Nat)(pins:PNz)(s:Shared)(σ:St)(H:Hp)(E:VPz),Inv X pins σ H s->(∀b∈fp,Ew X pins H b)->tn i s.heap->J.stop i H ->
  wpAny (model P w) X.A (pyNext (.ref it)) (λ r s1=>r=none/\Inv X pins σ H s1) E s
 self:∀(A:Around)(i:Nat)(s:Shared)(Q:VPz)(E:VPz),tn i s.heap->Q (.ref it) s->wpAny (model P w) A (pyIter (.ref it)) Q E s
abbrev TI:=St->Hp->(It->Hp->Prop)->Prop
def PIE(X:Cx)(pins:PNz)(σ:St)(tg:Expr)(R:It->Hp->Prop)(itv:Value)(s2:Shared):Prop :=
 ∃(it:Addr)(fp:List Addr)(tn:Nat->Heap->Prop)(J:It)(H':Hp),itv=.ref it/\Inv X pins σ H' s2/\LH X.prog X.w X.K tg J fp it tn/\tn 0 s2.heap/\(∀b∈fp,Ew X pins H' b)/\R J H'
def PI(X:Cx)(tg iter:Expr)(wi:TI):Prop :=
 ∀(pins:PNz)(s:Shared)(σ:St)(H:Hp)(R:It->Hp->Prop),Inv X pins σ H s->wi σ H R ->
  wpAny (model X.prog X.w) X.A (eval iter X.env) (λ v s1=>wpAny (model X.prog X.w) X.A (pyIter v) (PIE X pins σ tg R) X.xe s1) X.xe s
theorem LA{M:Model}{A:Around}{E:VPz}{s:Shared}{tg:Expr}{it:Addr}{u:Value}{o:Obj}{n:String}{vs:Array Value}{Q:Unit->Shared->Prop}(ho:s.heap.get? it=some o)(hc:o.cls=.type n)(hd:o.data=.fields vs)
    (hn:["enumerate","zip","dict_itemiterator","dict_reverseitemiterator","odict_iterator","itertools.zip_longest","itertools.pairwise"].contains n=false) (hQ:Q () s):wpAny M A (letOwnedTupleGo tg (.ref it) u) Q E s:=by
  unfold letOwnedTupleGo;cases tg<;>first
    |exact wpAny_pure hQ
    | (cases u<;>first
        |exact wpAny_pure hQ
        | (refine wpAny_bind (wpAny_load ho ?_)
           rw[hc,hd];show wpAny M A (if (["enumerate","zip","dict_itemiterator","dict_reverseitemiterator","odict_iterator","itertools.zip_longest","itertools.pairwise"].contains n&&vs[0]?==some (rawInt _))=true then _ else _) Q E s;rw[if_neg (by intro h;rw[hn,Bool.false_and]at h;cases h)];exact wpAny_pure hQ))
def Itl(K:Frag)(a:Addr):It :=
 ⟨λ i H=>∃xs x,SqL K H a xs/\xs[i]?=some x,λ i H x H'=>H'=H/\∀xs,SqL K H a xs->xs[i]?=some x,λ i H=>∃xs,SqL K H a xs/\xs.length<=i⟩
def Itt(K:Frag)(a:Addr):It :=
 ⟨λ i H=>∃xs x,SqT K H a xs/\xs[i]?=some x,λ i H x H'=>H'=H/\∀xs,SqT K H a xs->xs[i]?=some x,λ i H=>∃xs,SqT K H a xs/\xs.length<=i⟩
def Itr(lo:Int)(n:Nat):It:=⟨λ i _=>i<n,λ i H x H'=>H'=H/\x=.int (lo+i),λ i _=>n<=i⟩
theorem NS{P:Program}{w:World}{K:Frag}{tg:Expr}(a it:Addr):LH P w K tg (Itl K a) [it] it (λ i h=>h.IsListIter it a i) where
 mem:=by simp
 obj:=λ i h st b hb=>by
  have e:b=it:=by simpa using hb
  subst e;obtain⟨o,e,c,d⟩:=st;exact⟨o,e,λ v z=>by rw[d]at z;cases z⟩
 keep:=λ i h h' st k=>st.at λ o e=>k it (by simp) o e
 item:=by
  intro X hP hw hK hc i pins s σ H E I hf st hg;subst hP hw hK;obtain⟨xs,x,hq,hx⟩:=hg;obtain⟨its,rv,p,hz⟩:=I.list hq;obtain⟨u,hu,ru⟩:=rv.get hx;obtain⟨f0,f1,f2,f3,f4,f5⟩:=hf it (by simp);refine wpAny_pyNext_list_item st p.isList (x:=u) (by simpa using hu) λ h' st' sb=>?_;have I1:Inv X pins σ H { s with heap:=h' }:=I.turned (t':=s.toks) (λ b o hb e=>(sb.2 b hb).trans e) f0 f1 f3 f4 f5;obtain⟨o,e,c,d⟩:=id st';exact⟨u,rfl,LA (s:={ s with heap:=h' }) e c d (by decide) ⟨x,H,I1,ru,⟨rfl,λ ys hy=>by rw[I.list_inj hy hq];exact hx⟩,st',λ b hb=>(hf b hb).1⟩⟩
 done:=by
  intro X hP hw hK hc i pins s σ H E I hf st hg;subst hP hw hK;obtain⟨xs,hq,hx⟩:=hg;obtain⟨its,rv,p,hz⟩:=I.list hq;obtain⟨f0,f1,f2,f3,f4,f5⟩:=hf it (by simp);have hl:=rv.length;exact wpAny_pyNext_list_end (I.ok.hd hc) st p.isList (by simp;lia) λ h' eb=>⟨rfl,I.turned (t':=s.toks) (λ b o hb e=>eb b o hb e) f0 f1 f3 f4 f5⟩
 self:=λ_ _ _ _ _ st h=>wpAny_pyIter_listiter st h
theorem Mb{P:Program}{w:World}{K:Frag}{tg:Expr}(a it:Addr):LH P w K tg (Itt K a) [it] it (λ i h=>h.IsTupleIter it a i) where
 mem:=by simp
 obj:=λ i h st b hb=>by
  have e:b=it:=by simpa using hb
  subst e;obtain⟨o,e,c,d⟩:=st;exact⟨o,e,λ v z=>by rw[d]at z;cases z⟩
 keep:=λ i h h' st k=>st.at λ o e=>k it (by simp) o e
 item:=by
  intro X hP hw hK hc i pins s σ H E I hf st hg;subst hP hw hK;obtain⟨xs,x,hq,hx⟩:=hg;obtain⟨its,rv,p,hz⟩:=I.tuple hq;obtain⟨u,hu,ru⟩:=rv.get hx;obtain⟨f0,f1,f2,f3,f4,f5⟩:=hf it (by simp);refine wpAny_pyNext_tuple_item st (show s.heap.IsTuple a its.toArray from p) (x:=u) (by simpa using hu) λ h' st' sb=>?_;have I1:Inv X pins σ H { s with heap:=h' }:=I.turned (t':=s.toks) (λ b o hb e=>(sb.2 b hb).trans e) f0 f1 f3 f4 f5;obtain⟨o,e,c,d⟩:=id st';exact⟨u,rfl,LA (s:={ s with heap:=h' }) e c d (by decide) ⟨x,H,I1,ru,⟨rfl,λ ys hy=>by rw[I.tuple_inj hy hq];exact hx⟩,st',λ b hb=>(hf b hb).1⟩⟩
 done:=by
  intro X hP hw hK hc i pins s σ H E I hf st hg;subst hP hw hK;obtain⟨xs,hq,hx⟩:=hg;obtain⟨its,rv,p,hz⟩:=I.tuple hq;obtain⟨f0,f1,f2,f3,f4,f5⟩:=hf it (by simp);have hl:=rv.length;exact wpAny_pyNext_tuple_end (I.ok.hd hc) st (show s.heap.IsTuple a its.toArray from p) (by simp;lia) λ h' eb=>⟨rfl,I.turned (t':=s.toks) (λ b o hb e=>eb b o hb e) f0 f1 f3 f4 f5⟩
 self:=λ_ _ _ _ _ st h=>wpAny_pyIter_tupleiter st h
theorem Mc{P:Program}{w:World}{K:Frag}{tg:Expr}(it:Addr)(lo:Int)(n:Nat):LH P w K tg (Itr lo n) [it] it (λ i h=>IsRangeIter h it (lo+(i:Nat)*1) ((n:Int)-(i:Nat)) 1) where
 mem:=by simp
 obj:=λ i h st b hb=>by
  have e:b=it:=by simpa using hb
  subst e;exact⟨_,st,λ v z=>by
   have z':Data.fields _=Data.cell v:=z;cases z'⟩
 keep:=λ i h h' st k=>k it (by simp) _ st
 item:=by
  intro X hP hw hK hc i pins s σ H E I hf st hg;subst hP hw hK;obtain⟨f0,f1,f2,f3,f4,f5⟩:=hf it (by simp);have W:=Walks.range (prog:=X.prog) (w:=X.w) (I.ok.hd hc) it lo 1 n;refine W.item i s _ _ hg st λ v h' tk hv st' kk=>?_;obtain⟨t,rfl⟩:=hv;have I1:Inv X pins σ H { s with heap:=h',toks:=tk }:=I.turned (λ b o hb e=>kk b o (by simpa using hb) e) f0 f1 f3 f4 f5;refine⟨_,rfl,LA (s:={ s with heap:=h',toks:=tk }) (n:="range_iterator") st' rfl rfl (by decide) ⟨.int (lo+i),H,I1,⟨t,?_⟩,⟨rfl,rfl⟩,st',λ b hb=>(hf b hb).1⟩⟩;rw[Int.mul_one]
 done:=by
  intro X hP hw hK hc i pins s σ H E I hf st hg;subst hP hw hK;obtain⟨f0,f1,f2,f3,f4,f5⟩:=hf it (by simp);exact wpAny_pyNext_range_end (I.ok.hd hc) st (by have:n<=i:=hg;lia) λ h' eb=>⟨rfl,I.turned (t':=s.toks) (λ b o hb e=>eb b o hb e) f0 f1 f3 f4 f5⟩
 self:=λ_ _ _ _ _ st h=>wpAny_pyIter_rangeiter st h
section
variable{X:Cx}{tg:Expr}
inductive SS(x:V)(S Q:Addr->Prop):Prop
 |mk (a:Addr) (e:x=.ref a) (s:S a) (q:Q a):SS x S Q
def TB(K:Frag)(tl:TE):TI:=λ σ H R=>tl σ H λ x H1=>SS x (λ a=>∃xs,SqL K H1 a xs) λ a=>R (Itl K a) H1
def U1(K:Frag)(tl:TE):TI:=λ σ H R=>tl σ H λ x H1=>SS x (λ a=>∃xs,SqT K H1 a xs) λ a=>R (Itt K a) H1
theorem BH{l:Expr}{tl:TE}(hl:PE X l tl):PI X tg l (TB X.K tl):=by
 intro pins s σ H R I h;refine thn (hl pins s σ H _ I h) λ v s1 hz_=>?_;obtain⟨x,H1,I1,r1,q1⟩:=hz_;obtain⟨a,e,⟨xs,hq⟩,q⟩:=q1;subst e;cases r1;obtain⟨its,rv,p,hz⟩:=I1.list hq;refine wpAny_pyIter_list p.isList ?_;refine⟨s1.heap.objs.size,[s1.heap.objs.size],_,_,H1,rfl,I1.kept (t':=s1.toks) λ b o e=>Heap.get?_push_of_some _ e,NS a _,⟨_,Heap.get?_push_size _ rfl,rfl,rfl⟩,λ b hb=>?_,q⟩;have e:b=s1.heap.objs.size:=by simpa using hb
 subst e;exact I1.fpOk (Nat.le_refl _) (I1.hok.fresh (Nat.le_refl _))
theorem Pq{l:Expr}{tl:TE}(hl:PE X l tl):PI X tg l (U1 X.K tl):=by
 intro pins s σ H R I h;refine thn (hl pins s σ H _ I h) λ v s1 hz_=>?_;obtain⟨x,H1,I1,r1,q1⟩:=hz_;obtain⟨a,e,⟨xs,hq⟩,q⟩:=q1;subst e;cases r1;obtain⟨its,rv,p,hz⟩:=I1.tuple hq;refine wpAny_pyIter_tuple (show s1.heap.IsTuple a its.toArray from p) ?_;refine⟨s1.heap.objs.size,[s1.heap.objs.size],_,_,H1,rfl,I1.kept (t':=s1.toks) λ b o e=>Heap.get?_push_of_some _ e,Mb a _,⟨_,Heap.get?_push_size _ rfl,rfl,rfl⟩,λ b hb=>?_,q⟩;have e:b=s1.heap.objs.size:=by simpa using hb
 subst e;exact I1.fpOk (Nat.le_refl _) (I1.hok.fresh (Nat.le_refl _))
theorem Lf{pins:PNz}{σ:St}{H:Hp}{s:Shared}{R:It->Hp->Prop}{E:VPz}{lo hi:Int}{t u v:Tok}{tk:Nat}(I:Inv X pins σ H s)(h1:-(2^62)<=lo)(h2:lo<2^62)(h3:-(2^62)<=hi)(h4:hi<2^62)
  (q:R (Itr lo (hi-lo).toNat) H):wpAny (model X.prog X.w) X.A (pyIter (.ref s.heap.objs.size)) (PIE X pins σ tg R) E { s with heap:=s.heap.push { cls:=.type "range",data:=.fields #[.int lo t,.int hi u,.int 1 v] },toks:=tk }:=by
 refine wpAny_pyIter_range (IsRange.new ..) (small_one h1 h2 h3 h4) ?_;have I1:Inv X pins σ H { s with heap:=s.heap.push { cls:=.type "range",data:=.fields #[.int lo t,.int hi u,.int 1 v] },toks:=tk }:=I.kept λ b o e=>Heap.get?_push_of_some _ e;refine⟨(s.heap.push { cls:=.type "range",data:=.fields #[.int lo t,.int hi u,.int 1 v] }).objs.size,[(s.heap.push { cls:=.type "range",data:=.fields #[.int lo t,.int hi u,.int 1 v] }).objs.size],_,_,H,rfl,
  I1.kept (t':=tk) λ b o e=>Heap.get?_push_of_some _ e,Mc _ lo (hi-lo).toNat,?_,λ b hb=>?_,q⟩
 .have e1:lo+((0:Nat):Int)*1=lo:=by simp
  have e2:(((hi-lo).toNat:Nat):Int)-((0:Nat):Int)=Builtin.Range.rangeSize lo hi 1:=by rw[rangeSize_one];split<;>lia
  show IsRangeIter _ _ (lo+((0:Nat):Int)*1) ((((hi-lo).toNat:Nat):Int)-((0:Nat):Int)) 1;rw[e1,e2];exact Heap.get?_push_size _ rfl
 .have e:b=(s.heap.push { cls:=.type "range",data:=.fields #[.int lo t,.int hi u,.int 1 v] }).objs.size:=by simpa using hb
  subst e;exact I1.fpOk (Nat.le_refl _) (I1.hok.fresh (Nat.le_refl _))
inductive RF(vs:LUz)(R:Int->Prop):Prop
 |mk (j:Int) (e:vs=[.int j]) (l:-(2^62)<=j) (h:j<2^62) (q:R j):RF vs R
def T9(ta:TA):TI:=λ σ H R=>ta σ H λ vs H1=>RF vs λ j=>R (Itr 0 j.toNat) H1
def T8(ta:TA):TI:=λ σ H R=>ta σ H λ vs H1=>∃i j:Int,vs=[.int i,.int j]/\(-(2^62)<=i/\i<2^62/\-(2^62)<=j/\j<2^62)/\R (Itr i (j-i).toNat) H1
theorem Ff{a:Expr}{ta:TA}{p pos:Pos}(hg:Gl X "range")(hm:X.mg "range"=none)(ha:PA X [a] ta)(hs:starEach [a] X.env=[(false,eval a X.env)]:=by rfl):PI X tg (.Call (.Name "range" p) [a] [] pos) (T9 ta):=by
 intro pins s σ H R I h;refine Call_ (D9 I hg hm boot_range (PyProof.Rows.callWith_type1 (thn (ha pos pins s σ H _ I h) λ us s1 hz_=>?_) hs rfl));obtain⟨vs,H1,I1,r1,q1⟩:=hz_;obtain⟨j,e,q1,q2,q⟩:=q1;subst e;cases r1 with
 |cons r rr =>
  cases rr;obtain⟨t,rfl⟩:=r;exact call_range_1 (Lf I1 (by lia) (by lia) q1 q2 (by simpa using q))
theorem DP{a b:Expr}{ta:TA}{p pos:Pos}(hg:Gl X "range")(hm:X.mg "range"=none)(ha:PA X [a,b] ta)(hs:starEach [a,b] X.env=[(false,eval a X.env),(false,eval b X.env)]:=by rfl)(hs2:starEach [b] X.env=[(false,eval b X.env)]:=by rfl) :
  PI X tg (.Call (.Name "range" p) [a,b] [] pos) (T8 ta):=by
 intro pins s σ H R I h;refine Call_ (D9 I hg hm boot_range (PyProof.Rows.callWith_type1 (thn (ha pos pins s σ H _ I h) λ us s1 hz_=>?_) (by rw[hs,hs2]) (by rw[hs2];rfl)));obtain⟨vs,H1,I1,r1,q1⟩:=hz_;obtain⟨i,j,e,⟨q1,q2,q3,q4⟩,q⟩:=q1;subst e;cases r1 with
 |cons r rr =>
  cases rr with
  |cons r' rr =>
   cases rr;obtain⟨t,rfl⟩:=r;obtain⟨t',rfl⟩:=r';exact call_range_2 (Lf I1 q1 q2 q3 q4 q)
def Uk(wi:TI)(g:TG)(tb:TS):TS:=λ D σ H=>wi σ H λ J H1=>∃W:Nat->Nat->St->Hp->Prop,(∃m,W 0 m σ H1)/\∀i m σ H,W i m σ H ->
 (J.stop i H/\D.nx σ H)\/(J.go i H/\∃N:St->Hp->Prop,(∀σ' H',N σ' H'->∃m',m'<m/\W (i+1) m' σ' H')/\∀x H',J.yld i H x H'->g x σ H' λ σ2 H2=>tb { D with nx:=N,ct:=N,bk:=D.nx } σ2 H2)
def JX(fp:List Addr)(h:Heap):PNz:=fp.filterMap λ b=>(h.get? b).map λ o=>(b,o)
theorem Bg{fp:List Addr}{h:Heap}{b:Addr}{o:Obj}(hb:b∈fp)(e:h.get? b=some o):(b,o)∈JX fp h:=List.mem_filterMap.mpr ⟨b,hb,by rw[e];rfl⟩
theorem Oj{fp:List Addr}{h:Heap}{p:Addr×Obj}(hp:p∈JX fp h):p.1∈fp/\h.get? p.1=some p.2:=by
 obtain⟨b,hb,e⟩:=List.mem_filterMap.mp hp;cases q:h.get? b with
 |none=>rw[q]at e;cases e
 |some o =>
  rw[q]at e;have e':(b,o)=p:=Option.some.inj e;subst e';exact⟨hb,q⟩
theorem Inv.pinned{pins:PNz}{σ:St}{H:Hp}{s:Shared}{fp:List Addr}(I:Inv X pins σ H s)(hf:∀b∈fp,Ew X pins H b)(ho:∀b∈fp,∃o,s.heap.get? b=some o/\∀v,o.data≠.cell v):Inv X (pins++JX fp s.heap) σ H s :=
 I.pins_of λ p hp=>(List.mem_append.mp hp).elim (λ z=>I.pin p (List.mem_append_right _ z)) λ z=>by
  obtain⟨hb,e⟩:=Oj z;obtain⟨f0,f1,f2,_⟩:=hf p.1 hb;obtain⟨o,e',d⟩:=ho p.1 hb;rw[e]at e';cases e';exact⟨e,f0,f1,f2,d⟩
theorem Inv.unpinned{pins pl:PNz}{σ:St}{H:Hp}{s:Shared}(I:Inv X (pins++pl) σ H s):Inv X pins σ H s:=I.pins_of λ p hp=>I.pin p (List.mem_append_right _ (List.mem_append_left _ hp))
theorem B7{iter:Expr}{body:List Stmt}{wi:TI}{g:TG}{tb:TS}{pos:Pos}(hp:PassesOwn (model X.prog X.w) X.A X.env X.xe)(hc:X.calm=true)(hi:PI X tg iter wi)(hg:PG X tg g)(hb:PSs X body tb)
  (hs:∀x,foldedSetIterable iter X.env x=pure x:=by intro _;rfl):PS X (.For tg iter body [] pos) (Uk wi g tb):=by
 intro pins s σ H D I h;refine wpAny_For (thn (hi pins s σ H _ I h) λ v s1 h1=>thn h1 λ itv s2 h2=>?_) hs;obtain⟨it,fp,tn,J,H2,e,I2,T,st2,f2,W,⟨m0,w0⟩,turn⟩:=h2;subst e;have stat:∀{H':Hp},(∀b∈fp,H' b=none)->∀b∈fp,Ew X pins H' b:=λ hn b hb=>⟨hn b hb,(f2 b hb).2⟩;refine codeAny_forLoop_any (λ n s'=>∃i σ' H',Inv X pins σ' H' s'/\tn i s'.heap/\(∀b∈fp,H' b=none)/\W i n σ' H') ?_ m0 ⟨0,σ,H2,I2,st2,λ b hb=>(f2 b hb).1,w0⟩;rintro n s3 ⟨i,σ3,H3,I3,st3,fr3,w3⟩;rcases turn i n σ3 H3 w3 with ⟨stop,qn⟩|⟨go,N,hN,step⟩
 .refine wpAny_passesOwn hp (thn (T.done X rfl rfl rfl hc i pins s3 σ3 H3 X.xe I3 (stat fr3) st3 stop) λ r s4 hz_=>?_);obtain⟨hr,I4⟩:=hz_;subst hr;exact wpAny_execs_nil ⟨σ3,H3,I4,qn⟩
 .refine wpAny_passesOwn hp (thn (T.item X rfl rfl rfl hc i pins s3 σ3 H3 X.xe I3 (stat fr3) st3 go) λ r s4 hz_=>?_);obtain⟨u,hr,h4⟩:=hz_;subst hr;refine wpAny_passesOwn hp (thn h4 λ_ s5 hz_=>?_);obtain⟨x,H5,I5,r5,y5,st5,fr5⟩:=hz_;have I5':=I5.pinned (stat fr5) (T.obj _ _ st5);refine wpAny_passesOwn hp (thn (hg _ s5 σ3 H5 x u _ I5' r5 (step x H5 y5)) λ_ s6 hz_=>?_);obtain⟨σ6,H6,I6,q6⟩:=hz_;refine wpAny_passesOwn hp (thn (hb _ s6 σ6 H6 _ I6 q6) λ f s7 q7=>?_);have again:∀{σ7:St}{H7:Hp},Inv X (pins++JX fp s5.heap) σ7 H7 s7->N σ7 H7->∃m,m<n/\∃i σ' H',Inv X pins σ' H' s7/\tn i s7.heap/\(∀b∈fp,H' b=none)/\W i m σ' H':=λ{σ7 H7} I7 n7=>by
   obtain⟨m',hm,w7⟩:=hN σ7 H7 n7;refine⟨m',hm,i+1,σ7,H7,I7.unpinned,T.keep _ _ _ st5 λ b hb o e=>(I7.pin (b,o) (List.mem_append_right _ (List.mem_append_right _ (Bg hb e)))).1,λ b hb=>?_,w7⟩;obtain⟨o,e,d⟩:=T.obj _ _ st5 b hb;exact(I7.pin (b,o) (List.mem_append_right _ (List.mem_append_right _ (Bg hb e)))).2.1
  cases f with
  |next=>obtain⟨σ7,H7,I7,n7⟩:=q7;exact again I7 n7
  |cont=>obtain⟨σ7,H7,I7,n7⟩:=q7;exact again I7 n7
  |brk=>obtain⟨σ7,H7,I7,q7⟩:=q7;exact⟨σ7,H7,I7.unpinned,q7⟩
  |ret v=>obtain⟨x7,σ7,H7,I7,r7,q7⟩:=q7;exact⟨x7,σ7,H7,I7.unpinned,r7,q7⟩
end
theorem EF{K:Frag}{a:Addr}{xs:LUz}{g:TG}{tb:TS}{D:IL}{σ:St}{H:Hp}(Pv:Nat->St->Hp->Prop)(h0:Pv 0 σ H)(hl:∀i σ H,i<=xs.length->Pv i σ H->SqL K H a xs)
  (hs:∀i x σ H,xs[i]?=some x->Pv i σ H->g x σ H λ σ2 H2=>tb { D with nx:=Pv (i+1),ct:=Pv (i+1),bk:=D.nx } σ2 H2) (hd:∀σ H,Pv xs.length σ H->D.nx σ H) :
  ∃W:Nat->Nat->St->Hp->Prop,(∃m,W 0 m σ H)/\∀i m σ H,W i m σ H ->
   ((Itl K a).stop i H/\D.nx σ H)\/((Itl K a).go i H/\∃N:St->Hp->Prop,(∀σ' H',N σ' H'->∃m',m'<m/\W (i+1) m' σ' H')/\∀x H',(Itl K a).yld i H x H'->g x σ H' λ σ2 H2=>tb { D with nx:=N,ct:=N,bk:=D.nx } σ2 H2):=by
 refine⟨λ i m σ H=>m=xs.length-i/\i<=xs.length/\Pv i σ H,⟨xs.length,by simp,Nat.zero_le _,h0⟩,?_⟩;rintro i m σ H ⟨rfl,hi,p⟩;have q:=hl i σ H hi p;by_cases hlt:i<xs.length
 .refine .inr ⟨⟨xs,xs[i],q,by simp[hlt]⟩,Pv (i+1),λ σ' H' p'=>⟨xs.length-(i+1),by lia,rfl,hlt,p'⟩,λ x H' y=>?_⟩;obtain⟨e,y⟩:=y;subst e;exact hs i x σ _ (y xs q) p
 .have e:i=xs.length:=by lia
  subst e;exact .inl ⟨⟨xs,q,Nat.le_refl _⟩,hd σ H p⟩
theorem Rm{K:Frag}{a:Addr}{xs:LUz}{g:TG}{tb:TS}{D:IL}{σ:St}{H:Hp}(Pv:Nat->St->Hp->Prop)(h0:Pv 0 σ H)(hl:∀i σ H,i<=xs.length->Pv i σ H->SqT K H a xs)
  (hs:∀i x σ H,xs[i]?=some x->Pv i σ H->g x σ H λ σ2 H2=>tb { D with nx:=Pv (i+1),ct:=Pv (i+1),bk:=D.nx } σ2 H2) (hd:∀σ H,Pv xs.length σ H->D.nx σ H) :
  ∃W:Nat->Nat->St->Hp->Prop,(∃m,W 0 m σ H)/\∀i m σ H,W i m σ H ->
   ((Itt K a).stop i H/\D.nx σ H)\/((Itt K a).go i H/\∃N:St->Hp->Prop,(∀σ' H',N σ' H'->∃m',m'<m/\W (i+1) m' σ' H')/\∀x H',(Itt K a).yld i H x H'->g x σ H' λ σ2 H2=>tb { D with nx:=N,ct:=N,bk:=D.nx } σ2 H2):=by
 refine⟨λ i m σ H=>m=xs.length-i/\i<=xs.length/\Pv i σ H,⟨xs.length,by simp,Nat.zero_le _,h0⟩,?_⟩;rintro i m σ H ⟨rfl,hi,p⟩;have q:=hl i σ H hi p;by_cases hlt:i<xs.length
 .refine .inr ⟨⟨xs,xs[i],q,by simp[hlt]⟩,Pv (i+1),λ σ' H' p'=>⟨xs.length-(i+1),by lia,rfl,hlt,p'⟩,λ x H' y=>?_⟩;obtain⟨e,y⟩:=y;subst e;exact hs i x σ _ (y xs q) p
 .have e:i=xs.length:=by lia
  subst e;exact .inl ⟨⟨xs,q,Nat.le_refl _⟩,hd σ H p⟩
theorem BP{lo:Int}{n:Nat}{g:TG}{tb:TS}{D:IL}{σ:St}{H:Hp}(Pv:Nat->St->Hp->Prop)(h0:Pv 0 σ H)
  (hs:∀i σ H,i<n->Pv i σ H->g (.int (lo+i)) σ H λ σ2 H2=>tb { D with nx:=Pv (i+1),ct:=Pv (i+1),bk:=D.nx } σ2 H2) (hd:∀σ H,Pv n σ H->D.nx σ H) :
  ∃W:Nat->Nat->St->Hp->Prop,(∃m,W 0 m σ H)/\∀i m σ H,W i m σ H ->
   ((Itr lo n).stop i H/\D.nx σ H)\/((Itr lo n).go i H/\∃N:St->Hp->Prop,(∀σ' H',N σ' H'->∃m',m'<m/\W (i+1) m' σ' H')/\∀x H',(Itr lo n).yld i H x H'->g x σ H' λ σ2 H2=>tb { D with nx:=N,ct:=N,bk:=D.nx } σ2 H2):=by
 refine⟨λ i m σ H=>m=n-i/\i<=n/\Pv i σ H,⟨n,by simp,Nat.zero_le _,h0⟩,?_⟩;rintro i m σ H ⟨rfl,hi,p⟩;by_cases hlt:i<n
 .refine .inr ⟨hlt,Pv (i+1),λ σ' H' p'=>⟨n-(i+1),by lia,rfl,hlt,p'⟩,λ x H' y=>?_⟩;obtain⟨e,y⟩:=y;subst e y;exact hs i σ _ hlt p
 .have e:i=n:=by lia
  subst e;exact .inl ⟨Nat.le_refl _,hd σ H p⟩
abbrev R2:=V->V->Hp->VK->Prop
def OpR(X:Cx)(f:Value->Value->Sem Value)(r:R2):Prop :=
 ∀(pins:PNz)(s:Shared)(σ:St)(H:Hp)(x y:V)(v u:Value)(Q:VK),Inv X pins σ H s->RelV x v->RelV y u->r x y H Q ->
  wpAny (model X.prog X.w) X.A (f v u) (EP X pins σ Q) X.xe s
def UnR(X:Cx)(f:Value->Sem Value)(r:V->Hp->VK->Prop):Prop :=
 ∀(pins:PNz)(s:Shared)(σ:St)(H:Hp)(x:V)(v:Value)(Q:VK),Inv X pins σ H s->RelV x v->r x H Q ->
  wpAny (model X.prog X.w) X.A (f v) (EP X pins σ Q) X.xe s
def Ck(X:Cx)(f:Value)(r:LUz->Hp->VK->Prop):Prop :=
 ∀(pins:PNz)(s:Shared)(σ:St)(H:Hp)(xs:LUz)(us:LWz)(Q:VK),Inv X pins σ H s->Vals xs us->r xs H Q ->
  wpAny (model X.prog X.w) X.A (call f us) (EP X pins σ Q) X.xe s
def U7(X:Cx)(r:V->Hp->(Bool->Hp->Prop)->Prop):Prop :=
 ∀(pins:PNz)(s:Shared)(σ:St)(H:Hp)(x:V)(v:Value)(Q:Bool->Hp->Prop),Inv X pins σ H s->RelV x v->r x H Q ->
  wpAny (model X.prog X.w) X.A (truthy v) (TP X pins σ Q) X.xe s
def tOp(r:R2)(ta tb:TE):TE:=λ σ H Q=>ta σ H λ x H1=>tb σ H1 λ y H2=>r x y H2 Q
def tUn(r:V->Hp->VK->Prop)(ta:TE):TE:=λ σ H Q=>ta σ H λ x H1=>r x H1 Q
inductive II1(C:Int->Int->Prop)(g:Int->Int->V)(x y:V)(H:Hp)(Q:VK):Prop
 |mk (i j:Int) (e1:x=.int i) (e2:y=.int j) (c:C i j) (q:Q (g i j) H):II1 C g x y H Q
inductive II0(g:Int->Int->V)(x y:V)(H:Hp)(Q:VK):Prop
 |mk (i j:Int) (e1:x=.int i) (e2:y=.int j) (q:Q (g i j) H):II0 g x y H Q
inductive IU(g:Int->V)(x:V)(H:Hp)(Q:VK):Prop
 |mk (i:Int) (e:x=.int i) (q:Q (g i) H):IU g x H Q
def rI(C:Int->Int->Prop)(g:Int->Int->V):R2:=λ x y H Q=>II1 C g x y H Q
def rI0(g:Int->Int->V):R2:=λ x y H Q=>II0 g x y H Q
def rU(g:Int->V):V->Hp->VK->Prop:=λ x H Q=>IU g x H Q
section
variable{X:Cx}{a b c:Expr}{ta tb tc:TE}{pos:Pos}
theorem Rx(ha:PE X a ta)(hb:PE X b tb){pins:PNz}{s:Shared}{σ:St}{H:Hp}{R:V->V->Hp->Prop}(I:Inv X pins σ H s)
  (h:ta σ H λ x H1=>tb σ H1 λ y H2=>R x y H2) {Q:VPz} {f:Value->Value->Sem Value}
  (hf:∀v u s2 x y H2,Inv X pins σ H2 s2->RelV x v->RelV y u->R x y H2->wpAny (model X.prog X.w) X.A (f v u) Q X.xe s2) :
  wpAny (model X.prog X.w) X.A (eval a X.env) (λ v s₁=>wpAny (model X.prog X.w) X.A (eval b X.env) (λ u s₂=>wpAny (model X.prog X.w) X.A (f v u) Q X.xe s₂) X.xe s₁) X.xe s:=by
 refine thn (ha pins s σ H _ I h) λ v s1 hz_=>?_;obtain⟨x,H1,I1,r1,q1⟩:=hz_;refine thn (hb pins s1 σ H1 _ I1 q1) λ u s2 hz_=>?_;obtain⟨y,H2,I2,r2,q2⟩:=hz_;exact hf v u s2 x y H2 I2 r1 r2 q2
theorem Av{op:Operator}{r:R2}(ho:OpR X (binaryOp op) r)(ha:PE X a ta)(hb:PE X b tb):PE X (.BinOp a op b pos) (tOp r ta tb):=by
 intro pins s σ H Q I h;exact wpAny_BinOp (Rx ha hb I h λ v u s2 x y H2 I2 rx ry q=>ho pins s2 σ H2 x y v u Q I2 rx ry q)
theorem Lg{op:UnaryOp}{r:V->Hp->VK->Prop}(ho:UnR X (unaryOp op) r)(ha:PE X a ta):PE X (.UnaryOp op a pos) (tUn r ta):=by
 intro pins s σ H Q I h;exact UnaryOp_ (thn (ha pins s σ H _ I h) λ v s1 ⟨x,H1,I1,r1,q1⟩=>ho pins s1 σ H1 x v Q I1 r1 q1)
theorem opI{f:Value->Value->Sem Value}{C:Int->Int->Prop}{g:Int->Int->Int}
  (rule:∀(i j:Int)(t u:Tok)(s:Shared)(Q:VPz)(E:VPz),C i j->Q (.int (g i j) s.toks) { s with toks:=s.toks+1 }->wpAny (model X.prog X.w) X.A (f (.int i t) (.int j u)) Q E s) :
  OpR X f (rI C λ i j=>.int (g i j)):=by
 intro pins s σ H x y v u Q I rx ry h;obtain⟨i,j,rfl,rfl,hc,q⟩:=h;obtain⟨t,rfl⟩:=rx;obtain⟨t',rfl⟩:=ry;exact rule i j t t' s _ _ hc ⟨.int (g i j),H,I.tok _,⟨_,rfl⟩,q⟩
theorem Tu{f:Value->Value->Sem Value}{g:Int->Int->Int}
  (rule:∀(i j:Int)(t u:Tok)(s:Shared)(Q:VPz)(E:VPz),Q (.int (g i j) s.toks) { s with toks:=s.toks+1 }->wpAny (model X.prog X.w) X.A (f (.int i t) (.int j u)) Q E s) :
  OpR X f (rI0 λ i j=>.int (g i j)):=by
 intro pins s σ H x y v u Q I rx ry h;obtain⟨i,j,rfl,rfl,q⟩:=h;obtain⟨t,rfl⟩:=rx;obtain⟨t',rfl⟩:=ry;exact rule i j t t' s _ _ ⟨.int (g i j),H,I.tok _,⟨_,rfl⟩,q⟩
theorem QR{f:Value->Value->Sem Value}{g:Int->Int->Bool}
  (rule:∀(i j:Int)(t u:Tok)(s:Shared)(Q:VPz)(E:VPz),Q (.bool (g i j)) s->wpAny (model X.prog X.w) X.A (f (.int i t) (.int j u)) Q E s) :
  OpR X f (rI0 λ i j=>.bl (g i j)):=by
 intro pins s σ H x y v u Q I rx ry h;obtain⟨i,j,rfl,rfl,q⟩:=h;obtain⟨t,rfl⟩:=rx;obtain⟨t',rfl⟩:=ry;exact rule i j t t' s _ _ ⟨.bl (g i j),H,I,rfl,q⟩
def Uf(i j:Int):Prop:=0<=j/\j<=1000000/\i.natAbs<2^64
theorem AQ:OpR X (binaryOp .Add) (rI0 λ i j=>.int (i+j)):=Tu λ_ _ _ _ _ _ _ q=>add_int q
theorem GF:OpR X (binaryOp .Sub) (rI0 λ i j=>.int (i-j)):=Tu λ_ _ _ _ _ _ _ q=>sub_int q
theorem AZ:OpR X (binaryOp .Mod) (rI (λ_ j=>0<j) λ i j=>.int (i % j)):=opI λ i j _ _ _ _ _ hc q=>by
 have h1:(0:Int)<j:=hc;exact mod_int' (by lia) (by rw[Int.fmod_eq_emod_of_nonneg i (by lia)];exact q)
theorem Sn:OpR X (binaryOp .Pow) (rI Uf λ i j=>.int (i^j.toNat)):=opI λ_ _ _ _ _ _ _ hc q=>pow_int_small hc.1 hc.2.1 hc.2.2 q
theorem unI{f:Value->Sem Value}{g:Int->Int}
  (rule:∀(i:Int)(t:Tok)(s:Shared)(Q:VPz)(E:VPz),Q (.int (g i) s.toks) { s with toks:=s.toks+1 }->wpAny (model X.prog X.w) X.A (f (.int i t)) Q E s) :
  UnR X f (rU λ i=>.int (g i)):=by
 intro pins s σ H x v Q I rx h;obtain⟨i,rfl,q⟩:=h;obtain⟨t,rfl⟩:=rx;exact rule i t s _ _ ⟨.int (g i),H,I.tok _,⟨_,rfl⟩,q⟩
theorem Gm:UnR X (unaryOp .USub) (rU λ i=>.int (-i)):=unI λ_ _ _ _ _ q=>neg_int q
end
def Ti:V->V->Bool
 |.non,.non=>true|.non,.int _=>true|.int _,.non=>true|.non,.bl _=>true|.bl _,.non=>true|.non,.str _=>true|.str _,.non=>true
 |.int _,.int _=>true|.bl _,.bl _=>true|.str _,.str _=>true|.byt _,.byt _=>true
 |.int _,.str _=>true|.str _,.int _=>true|.bl _,.str _=>true|.str _,.bl _=>true
 |_,_=>false
def rEq:R2:=λ x y H Q=>Ti x y=true/\Q (.bl (decide (x=y))) H
def rNe:R2:=λ x y H Q=>Ti x y=true/\Q (.bl (!decide (x=y))) H
theorem NB{i j:Int}:decide (V.int i=V.int j)=(i==j):=by
 rw[Bool.eq_iff_iff];simp
theorem Qa{i j:Bool}:decide (V.bl i=V.bl j)=(i==j):=by
 rw[Bool.eq_iff_iff];simp
theorem Kw{i j:Str}:decide (V.str i=V.str j)=(i==j):=by
 rw[Bool.eq_iff_iff];simp
theorem NC{i j:Array UInt8}:decide (V.byt i=V.byt j)=(i.toList==j.toList):=by
 rw[Bool.eq_iff_iff];cases i;cases j;simp
section
variable{X:Cx}{a b c:Expr}{ta tb tc:TE}{pos:Pos}
theorem AE{pins:PNz}{σ:St}{H:Hp}{s:Shared}{Q:VK}{k k':Bool}(I:Inv X pins σ H s)(q:Q (.bl k) H)(e:k=k'):EP X pins σ Q (.bool k') s:=by
 subst e;exact⟨.bl k,H,I,rfl,q⟩
theorem AO:OpR X (compareOp .Eq) rEq:=by
 intro pins s σ H x y v u Q I rx ry h;obtain⟨hs,q⟩:=h;cases x with
 |non =>
  cases rx;cases y with
  |non=>cases ry;exact PySem.EqNone.eq_none_none (AE I q (by simp))
  |bl j=>cases ry;exact PySem.EqNone.eq_none_bool (AE I q (by simp))
  |int j=>obtain⟨t',rfl⟩:=ry;exact PySem.EqNone.eq_none_int (AE I q (by simp))
  |str j=>obtain⟨t',rfl⟩:=ry;exact PySem.EqNone.eq_none_str (AE I q (by simp))
  |_=>exact absurd (show false=true from hs) Bool.false_ne_true
 |bl i =>
  cases rx;cases y with
  |non=>cases ry;exact PySem.EqNone.eq_bool_none (AE I q (by simp))
  |bl j=>cases ry;exact eq_bool (AE I q Qa)
  |str j=>obtain⟨t',rfl⟩:=ry;exact PySem.EqMixed.eq_bool_str (AE I q (by simp))
  |_=>exact absurd (show false=true from hs) Bool.false_ne_true
 |int i =>
  obtain⟨t,rfl⟩:=rx;cases y with
  |non=>cases ry;exact PySem.EqNone.eq_int_none (AE I q (by simp))
  |int j=>obtain⟨t',rfl⟩:=ry;exact eq_int (AE I q NB)
  |str j=>obtain⟨t',rfl⟩:=ry;exact PySem.EqMixed.eq_int_str (AE I q (by simp))
  |_=>exact absurd (show false=true from hs) Bool.false_ne_true
 |str i =>
  obtain⟨t,rfl⟩:=rx;cases y with
  |non=>cases ry;exact PySem.EqNone.eq_str_none (AE I q (by simp))
  |bl j=>cases ry;exact PySem.EqMixed.eq_str_bool (AE I q (by simp))
  |int j=>obtain⟨t',rfl⟩:=ry;exact PySem.EqMixed.eq_str_int (AE I q (by simp))
  |str j=>obtain⟨t',rfl⟩:=ry;exact eq_str (AE I q Kw)
  |_=>exact absurd (show false=true from hs) Bool.false_ne_true
 |byt i =>
  obtain⟨t,rfl⟩:=rx;cases y with
  |byt j=>obtain⟨t',rfl⟩:=ry;exact eq_bytes (AE I q NC)
  |_=>exact absurd (show false=true from hs) Bool.false_ne_true
 |_=>cases y<;>exact absurd (show false=true from hs) Bool.false_ne_true
theorem Fy:OpR X (compareOp .NotEq) rNe:=by
 intro pins s σ H x y v u Q I rx ry h;obtain⟨hs,q⟩:=h;cases x with
 |non =>
  cases rx;cases y with
  |non=>cases ry;exact PySem.EqNone.ne_none_none (AE I q (by simp))
  |bl j=>cases ry;exact PySem.EqNone.ne_none_bool (AE I q (by simp))
  |int j=>obtain⟨t',rfl⟩:=ry;exact PySem.EqNone.ne_none_int (AE I q (by simp))
  |str j=>obtain⟨t',rfl⟩:=ry;exact PySem.EqNone.ne_none_str (AE I q (by simp))
  |_=>exact absurd (show false=true from hs) Bool.false_ne_true
 |bl i =>
  cases rx;cases y with
  |non=>cases ry;exact PySem.EqNone.ne_bool_none (AE I q (by simp))
  |bl j=>cases ry;exact ne_bool (AE I q (congrArg not Qa))
  |str j=>obtain⟨t',rfl⟩:=ry;exact PySem.EqMixed.ne_bool_str (AE I q (by simp))
  |_=>exact absurd (show false=true from hs) Bool.false_ne_true
 |int i =>
  obtain⟨t,rfl⟩:=rx;cases y with
  |non=>cases ry;exact PySem.EqNone.ne_int_none (AE I q (by simp))
  |int j=>obtain⟨t',rfl⟩:=ry;exact ne_int (AE I q (congrArg not NB))
  |str j=>obtain⟨t',rfl⟩:=ry;exact PySem.EqMixed.ne_int_str (AE I q (by simp))
  |_=>exact absurd (show false=true from hs) Bool.false_ne_true
 |str i =>
  obtain⟨t,rfl⟩:=rx;cases y with
  |non=>cases ry;exact PySem.EqNone.ne_str_none (AE I q (by simp))
  |bl j=>cases ry;exact PySem.EqMixed.ne_str_bool (AE I q (by simp))
  |int j=>obtain⟨t',rfl⟩:=ry;exact PySem.EqMixed.ne_str_int (AE I q (by simp))
  |str j=>obtain⟨t',rfl⟩:=ry;exact ne_str (AE I q (congrArg not Kw))
  |_=>exact absurd (show false=true from hs) Bool.false_ne_true
 |byt i =>
  obtain⟨t,rfl⟩:=rx;cases y with
  |byt j=>obtain⟨t',rfl⟩:=ry;exact ne_bytes (AE I q (congrArg not NC))
  |_=>exact absurd (show false=true from hs) Bool.false_ne_true
 |_=>cases y<;>exact absurd (show false=true from hs) Bool.false_ne_true
theorem ED:OpR X (compareOp .Lt) (rI0 λ i j=>.bl (decide (i<j))):=QR λ_ _ _ _ _ _ _ q=>lt_int q
theorem Cj:OpR X (compareOp .LtE) (rI0 λ i j=>.bl (decide (i<=j))):=QR λ_ _ _ _ _ _ _ q=>le_int q
theorem Fz:OpR X (compareOp .Gt) (rI0 λ i j=>.bl (decide (j<i))):=QR λ_ _ _ _ _ _ _ q=>gt_int q
theorem P1:OpR X (compareOp .GtE) (rI0 λ i j=>.bl (decide (j<=i))):=QR λ_ _ _ _ _ _ _ q=>ge_int q
theorem Jm:OpR X (compareOp .In) (λ x y H Q=>∃i j,x=.str i/\y=.str j/\Q (.bl (!(Builtin.Str.occurrences j i 0 j.length 1).isEmpty)) H):=by
 intro pins s σ H x y v u Q I rx ry h;obtain⟨i,j,rfl,rfl,q⟩:=h;obtain⟨t,rfl⟩:=rx;obtain⟨t',rfl⟩:=ry;exact in_str (AE I q rfl)
theorem GG:OpR X (compareOp .Is) (λ x y H Q=>y=.non/\Q (.bl (decide (x=.non))) H):=by
 intro pins s σ H x y v u Q I rx ry h;obtain⟨rfl,q⟩:=h;cases ry;refine is_none_gen (AE I q ?_);cases x<;>first
  | (cases rx;rfl)
  | (obtain⟨t,rfl⟩:=rx;rfl)
theorem Ka:OpR X (compareOp .NotIn) (λ x y H Q=>∃i j,x=.str i/\y=.str j/\Q (.bl (!(!(Builtin.Str.occurrences j i 0 j.length 1).isEmpty))) H):=by
 intro pins s σ H x y v u Q I rx ry h;obtain⟨i,j,rfl,rfl,q⟩:=h;obtain⟨t,rfl⟩:=rx;obtain⟨t',rfl⟩:=ry;exact notIn_str (AE I q rfl)
theorem Am(b:Expr){op:CmpOp}(h:op≠.In:=by decide)(h2:op≠.NotIn:=by decide):behindInMarks op b=false:=by
 have e1:(op==CmpOp.In)=false:=by cases op<;>first|rfl|exact absurd rfl h
 have e2:(op==CmpOp.NotIn)=false:=by cases op<;>first|rfl|exact absurd rfl h2
 cases b<;>simp[behindInMarks,e1,e2]
theorem BU{op:CmpOp}{r:R2}(ho:OpR X (compareOp op) r)(ha:PE X a ta)(hb:PE X b tb)(hm:behindInMarks op b=false):PE X (.Compare a [op] [b] pos) (tOp r ta tb):=by
 intro pins s σ H Q I h;exact wpAny_Compare1 (Rx ha hb I h λ v u s2 x y H2 I2 rx ry q=>ho pins s2 σ H2 x y v u Q I2 rx ry q) hm
def R5(t:TE):TT:=λ σ H Q=>t σ H λ x H'=>IBl x λ k=>Q k H'
theorem Ak{op:CmpOp}{r:R2}(ho:OpR X (compareOp op) r)(ha:PE X a ta)(hb:PE X b tb)(hm:behindInMarks op b=false):PT X (.Compare a [op] [b] pos) (R5 (tOp r ta tb)):=by
 intro pins s σ H Q I h;refine wpAny_isTrue_Compare1 (thn (ha pins s σ H _ I h) λ v s1 ⟨x,H1,I1,r1,q1⟩=>thn (hb pins s1 σ H1 _ I1 q1) λ u s2 ⟨y,H2,I2,r2,q2⟩ =>
  thn (ho pins s2 σ H2 x y v u _ I2 r1 r2 q2) λ c s3 ⟨z,H3,I3,r3,k,e,q3⟩=>?_) hm
 subst e;cases r3;exact wpAny_truthy_bool ⟨H3,I3,q3⟩
def OW(r r':R2)(ta tb tc:TE):TE:=λ σ H Q=>ta σ H λ x H1=>tb σ H1 λ y H2=>r x y H2 λ z H3=>IBl z λ k =>
 (if k=true then tc σ H3 λ w' H4=>r' y w' H4 Q else Q (.bl false) H3)
theorem G9{op op':CmpOp}{r r':R2}(ho:OpR X (compareOp op) r)(ho':OpR X (compareOp op') r')(ha:PE X a ta)(hb:PE X b tb)(hc:PE X c tc)
  (hm:lastMarks [op,op'] [b,c]=false:=by with_unfolding_all rfl):PE X (.Compare a [op,op'] [b,c] pos) (OW r r' ta tb tc):=by
 intro pins s σ H Q I h;refine Compare_chain (thn (ha pins s σ H _ I h) λ v s1 ⟨x,H1,I1,r1,q1⟩=>chain_link (thn (hb pins s1 σ H1 _ I1 q1) λ u s2 ⟨y,H2,I2,r2,q2⟩ =>
  thn (ho pins s2 σ H2 x y v u _ I2 r1 r2 q2) λ d s3 ⟨z,H3,I3,r3,k,e,q3⟩=>?_)) hm
 subst e;cases r3;refine wpAny_truthy_bool ?_;cases k with
 |false=>exact ite_ff ⟨.bl false,H3,I3,rfl,q3⟩
 |true=>exact ite_tt (chain_last (thn (hc pins s3 σ H3 _ I3 q3) λ w' s4 ⟨z',H4,I4,r4,q4⟩=>ho' pins s4 σ H4 y z' u w' Q I4 r2 r4 q4))
theorem G5{op op':CmpOp}{r r':R2}(ho:OpR X (compareOp op) r)(ho':OpR X (compareOp op') r')(ha:PE X a ta)(hb:PE X b tb)(hc:PE X c tc)
  (hm:lastMarks [op,op'] [b,c]=false:=by with_unfolding_all rfl):PT X (.Compare a [op,op'] [b,c] pos) (R5 (OW r r' ta tb tc)):=by
 intro pins s σ H Q I h;refine isTrue_chain (thn (ha pins s σ H _ I h) λ v s1 ⟨x,H1,I1,r1,q1⟩=>test_link (thn (hb pins s1 σ H1 _ I1 q1) λ u s2 ⟨y,H2,I2,r2,q2⟩ =>
  thn (ho pins s2 σ H2 x y v u _ I2 r1 r2 q2) λ d s3 ⟨z,H3,I3,r3,k,e,q3⟩=>?_)) hm
 subst e;cases r3;refine wpAny_truthy_bool ?_;cases k with
 |false =>
  obtain⟨k',e',q'⟩:=q3;cases e';exact ite_ff ⟨H3,I3,q'⟩
 |true =>
  refine ite_tt (test_last (thn (hc pins s3 σ H3 _ I3 q3) λ w' s4 ⟨z',H4,I4,r4,q4⟩=>thn (ho' pins s4 σ H4 y z' u w' _ I4 r2 r4 q4) λ d' s5 ⟨z2,H5,I5,r5,k2,e2,q5⟩=>?_));subst e2;cases r5;exact wpAny_truthy_bool ⟨H5,I5,q5⟩
def TQ(K:Frag)(x:V)(H:Hp)(k:Bool):Prop :=
 match x with
 |.non=>k=false
 |.bl b=>k=b
 |.int i=>k=(i != 0)
 |.str y=>y.length<=sizeLine/\k=((y.length:Int) != 0)
 |.byt y=>y.size<=sizeLine/\k=((y.size:Int) != 0)
 |.ref p=>(∃xs,SqL K H p xs/\k=!xs.isEmpty)\/(∃xs,SqT K H p xs/\k=!xs.isEmpty)\/∃kvs,H p=some (.dK kvs)/\k=!kvs.isEmpty
 |_=>False
theorem MG{κ:Type}{kvs:List (κ×V)}{vs:List (κ×Value)}(r:KV kvs vs):(!vs.isEmpty)=!kvs.isEmpty:=by
 cases r<;>rfl
theorem GZ{xs:LUz}{its:LWz}(r:Vals xs its):(!its.toArray.isEmpty)=!xs.isEmpty:=by
 cases r<;>simp
theorem GV:(sizeLine:Nat)<2^63:=by rw[sizeLine_eq];decide
theorem RQ:U7 X (λ x H Q=>∃k,TQ X.K x H k/\Q k H):=by
 intro pins s σ H x v Q I rx h;obtain⟨k,e,q⟩:=h;have hl:=GV;have hs:sizeLine=16777216:=sizeLine_eq;cases x with
 |non =>
  cases rx;have e':k=false:=e;subst e';exact truthy_none ⟨H,I,q⟩
 |bl b =>
  cases rx;have e':k=b:=e;subst e';exact wpAny_truthy_bool ⟨H,I,q⟩
 |int i =>
  obtain⟨t,rfl⟩:=rx;have e':k=(i != 0):=e;subst e';exact PySem.P.truthy_int ⟨H,I,q⟩
 |str y =>
  obtain⟨t,rfl⟩:=rx;obtain⟨hy,e'⟩:y.length<=sizeLine/\k=((y.length:Int) != 0):=e;subst e';exact PySem.P.truthy_str (by lia) ⟨H,I.tok _,q⟩
 |byt y =>
  obtain⟨t,rfl⟩:=rx;obtain⟨hy,e'⟩:y.size<=sizeLine/\k=((y.size:Int) != 0):=e;subst e';exact truthy_bytes (by lia) ⟨H,I.tok _,q⟩
 |ref p =>
  cases rx;have e':(∃xs,SqL X.K H p xs/\k=!xs.isEmpty)\/(∃xs,SqT X.K H p xs/\k=!xs.isEmpty)\/∃kvs,H p=some (.dK kvs)/\k=!kvs.isEmpty:=e;rcases e' with ⟨xs,hx,e'⟩|⟨xs,hx,e'⟩|⟨kvs,hx,e'⟩
  .subst e';obtain⟨its,r,pl,hz⟩:=I.list hx;have hlen:=r.length;exact wpAny_truthy_list pl.isList (by simp only[List.size_toArray];lia) ⟨H,I.tok _,by rw[GZ r];exact q⟩
  .subst e';obtain⟨its,r,pl,hz⟩:=I.tuple hx;have hlen:=r.length;exact truthy_tuple pl (by simp only[List.size_toArray];lia) ⟨H,I.tok _,by rw[GZ r];exact q⟩
  .subst e';obtain⟨hz,hS,vs,r,m⟩:kvs.length<=sizeLine/\(p==sysModules)=false/\∃vs,KV kvs vs/\s.heap.DictOf (AW X.prog X.w) p vs:=I.hok p _ hx;have hlen:kvs.length=vs.length:=Paired.length r;exact wpAny_truthy_dict hS m (by lia) ⟨H,I.tok _,by rw[MG r];exact q⟩
 |_=>exact(show False from e).elim
theorem D5(ha:PE X a ta)(he:∀whole,isTrue a X.env whole=(do let v <-whole;standAt a.pos;holding [v] (truthy v))) :
    PT X a (λ σ H Q=>ta σ H λ x H'=>∃k,TQ X.K x H' k/\Q k H'):=by
  intro pins s σ H Q I h;exact isTrue_plain (thn (ha pins s σ H _ I h) λ v s1 ⟨x,H1,I1,r1,q1⟩=>RQ pins s1 σ H1 x v Q I1 r1 q1) (he _)
theorem GH:OpR X (binaryOp .Add) (λ x y H Q=>∃i j,x=.str i/\y=.str j/\i.length+j.length<=sizeLine/\Q (.str (i++j)) H):=by
 intro pins s σ H x y v u Q I rx ry h;obtain⟨i,j,rfl,rfl,hz,q⟩:=h;obtain⟨t,rfl⟩:=rx;obtain⟨t',rfl⟩:=ry;exact add_str (λ t' tk=>⟨.str (i++j),H,I.tok _,⟨_,rfl⟩,q⟩) hz
def Qq(b:Expr):Prop:=∀o i,subscripted b false o i=operate [o,i] (getItem o i)
theorem BA(ha:PE X a ta)(hb:PE X b tb)(hs:Qq b) :
  PE X (.Subscript a b pos) (tOp (λ x y H Q=>∃z i c,x=.str z/\y=.int i/\0<=i/\i<2^63/\i<z.length/\z.cps[i.toNat]?=some c/\Q (.str ⟨#[c]⟩) H) ta tb):=by
 intro pins s σ H Q I h;refine Subscript_ (Rx ha hb I h λ v u s2 x y H2 I2 rx ry q=>?_);obtain⟨z,i,c,rfl,rfl,h0,h63,h1,hc,q⟩:=q;obtain⟨t,rfl⟩:=rx;obtain⟨t',rfl⟩:=ry;have e:seqIndex? i z.length=some i.toNat:=PySem.StrLaws.seqIndex_nonneg h0 h1;exact tail_any (typeIs_str s2 z t) slot_str_getitem.lookup (getItem_str (c:=c) (by
  have e1:decide (i < -(2^63:Int))=false:=decide_eq_false (by lia);have e2:decide (i>=2^63)=false:=decide_eq_false (by lia);rw[e1,e2]<;>rfl) (by rw[e];exact hc) ⟨.str ⟨#[c]⟩,H2,I2.tok _,⟨_,rfl⟩,q⟩) (hs _ _)
theorem CL{x:V}{us:LWz}(r:Vals [x] us):∃u,us=[u]/\RelV x u:=by
 cases r with
 |cons r1 r2=>cases r2;exact⟨_,rfl,r1⟩
theorem R4{x y:V}{us:LWz}(r:Vals [x,y] us):∃u w',us=[u,w']/\RelV x u/\RelV y w':=by
 cases r with
 |cons r1 r2 =>
  cases r2 with
  |cons r3 r4=>cases r4;exact⟨_,_,rfl,r1,r3⟩
theorem Qh:Ck X (.builtin "abs") (λ xs H Q=>∃i,xs=[.int i]/\Q (.int (if i<0 then -i else i)) H):=by
 intro pins s σ H xs us Q I r h;obtain⟨i,rfl,q⟩:=h;obtain⟨u,rfl,t,rfl⟩:=CL r;exact call_abs_int λ u tk=>⟨.int (if i<0 then -i else i),H,I.tok _,⟨_,rfl⟩,q⟩
theorem J9:Ck X (.type "int") (λ xs H Q=>(∃i,xs=[.int i]/\Q (.int i) H)\/∃k,xs=[.bl k]/\Q (.int (if k then 1 else 0)) H):=by
 intro pins s σ H xs us Q I r h;rcases h with ⟨i,rfl,q⟩|⟨k,rfl,q⟩
 .obtain⟨u,rfl,t,rfl⟩:=CL r;exact call_int_int ⟨.int i,H,I,⟨_,rfl⟩,q⟩
 .obtain⟨u,rfl,r1⟩:=CL r;cases r1;exact call_int_bool ⟨.int (if k then 1 else 0),H,I.tok _,⟨_,rfl⟩,q⟩
theorem EK:Ck X (.type "str") (λ xs H Q=>∃i,xs=[.int i]/\i.natAbs.log2<1920/\Q (.str (toString i)) H):=by
 intro pins s σ H xs us Q I r h;obtain⟨i,rfl,hz,q⟩:=h;obtain⟨u,rfl,t,rfl⟩:=CL r;exact PySem.P.str_of_int hz ⟨.str _,H,I.tok _,⟨_,rfl⟩,q⟩
end
structure ObjM(h:Heap)(x dx C:Addr)(mA:MGz):Prop where
 obj:h.get? x=some (instObj C dx)
 ns:h.Ns1 dx mA
 ne:dx≠x
theorem Oo{h:Heap}{dx:Addr}{mA:MGz}(n:h.Ns1 dx mA):∃od,h.get? dx=some od/\∀name,lookIn name od=some (mA name):=by
 obtain⟨o,es,ep,ho,hd,hk,_,hm⟩:=n;refine⟨o,ho,λ name=>?_⟩;have e:=hm name;unfold nsFind findBy at e;rw[<-Array.find?_toList]at e;unfold lookIn;rw[hd];dsimp only;split
 .rename_i y q;rw[q]at e;exact congrArg some e
 .rename_i q;rw[q]at e;have a:es.toList.any (·.refKey)=false:=by
   rw[List.any_eq_false];intro y hy;obtain⟨z,t,hkey⟩:=hk y (Array.mem_toList_iff.mp hy);simp[DictEntry.refKey,hkey]
  have a':¬es.toList.any (·.refKey)=true:=by rw[a];exact Bool.false_ne_true
  rw[if_neg a'];exact congrArg some e
theorem ObjM.look{h:Heap}{x dx C:Addr}{mA:MGz}(I:ObjM h x dx C mA):∃od,InstAt h x (instObj C dx) C (some od)/\∀name,lookIn name od=some (mA name) :=
 let ⟨od,ho,hl⟩:=Oo I.ns
 ⟨od,⟨I.obj,rfl,rfl,ho⟩,hl⟩
section
variable{prog:Program}{w:World}{A:Around}{E:VPz}{s:Shared}{K:Frag}{x dx C f:Addr}{mA:MGz}{name:Str}{v:Value}
theorem Rg{expr:Bool}{Q:VPz}(X:K.In s.heap)(I:ObjM s.heap x dx C mA)(hg:plainGet K C name=true)(hh:hasDictIn K C=true)
  (ha:findIn K (.ref C) name=some none) (hv:mA name=some v) (hv':handedIn v=true) (h:Q v { s with toks:=s.toks+1 }) :
  wpAny (model prog w) A (getAttr (.ref x) name expr) Q E s:=by
 obtain⟨od,J,hl⟩:=I.look;exact get_value X J (plainGet_of hg).1 (findObj_own hh ha rfl (by rw[hl,hv])) hv' h
theorem PM{pl:Sem Bool}{Q:Value×LWz->Shared->Prop}(X:K.In s.heap)(I:ObjM s.heap x dx C mA)(hg:plainGet K C name=true)
  (hf:findIn K (.ref C) name=some (some (.ref f))) (ht:isFn K (.ref f)=true) (hv:mA name=none) (h:Q (.ref f,[.ref x]) s) :
  wpAny (model prog w) A (getMethod (.ref x) name pl) Q E s:=by
 obtain⟨od,J,hl⟩:=I.look;exact method_fn X J (plainGet_of hg).1 (plainGet_of hg).2 hf (beq_iff_eq.mp ht) (by show(lookIn name od).map (·.isSome)=some false;rw[hl,hv];rfl) h
theorem QE{ns:LSz}{Q:Unit->Shared->Prop}(X:K.In s.heap)(I:ObjM s.heap x dx C mA)
  (hs:findIn K (.ref C) "__setattr__"=some (some (.builtin "object.__setattr__"))) (hp:plainOver K C=true) (ht:takerIn K C name=some none) (hh:hasDictIn K C=true)
  (hw:PySem.Within mA ns) (hsz:ns.length<=sizeLine)
  (h:∀h',ObjM h' x dx C (λ y=>if y=name then some v else mA y)->Heap.SameBut dx s.heap h'->Q () { s with heap:=h',toks:=s.toks+2 }) :
  wpAny (model prog w) A (setAttr (.ref x) name v) Q E s:=by
 obtain⟨od,J,hl⟩:=I.look;refine set_plain X J hs (osa_open (s:={ s with toks:=s.toks+1 }) (r:=none) X J hp ht λ b=>?_);obtain⟨cd,hc,hd'⟩:=any_some hh;have hx:s.heap.get? x=some ⟨.ref C,some dx,.plain,#[]⟩:=I.obj;refine wpAny_bind (wpAny_pure (wpAny_bind (wpAny_bind (wpAny_loadPart hx (wpAny_bind (Looks.here (s:={ s with toks:=s.toks+1 }) (looks_clsIn X hc) ?_))))));rw[hd'];refine wpAny_pure (a:=some dx) (wpAny_bind (wpAny_pure (wpAny_bind ?_)));refine wpAny_nsSet1 (s:={ s with toks:=s.toks+1 }) I.ns λ h' hn2 hs2=>?_;obtain⟨oD,esD,epD,hoD,hdD,hcD⟩:=hn2.count (PySem.Within.cons name v hw);refine wpAny_bind (wpAny_lookBehind hoD (by rw[hdD];exact pastItsLine_dict (Nat.le_trans hcD (by rw[List.length_cons];lia))) ?_);exact wpAny_pure (h _ ⟨(hs2.2 _ (Ne.symm I.ne)).trans I.obj,hn2,I.ne⟩ hs2)
theorem PF{R:Result->Shared->Prop}{vs:LWz}{kw:List (Str×Value)}(X:K.In s.heap)(hm:makesIn K C=true)
  (hi:findIn K (.ref C) "__init__"=some (some (.ref f))) (hf:typeIn K (.ref f)=some (.type "function"))
  (h:codeAny (model prog w) (A.under (.builtin "type.__call__" ⟨.ref C::vs,kw⟩)) (.call (.ref f) ⟨.ref (s.heap.objs.size+1)::vs,kw⟩) (InitBack (s.heap.objs.size+1) R)
   { s with heap:=(s.heap.push emptyDict).push (instObj C s.heap.objs.size) }) :
  codeAny (model prog w) A (.call (.ref C) ⟨vs,kw⟩) R s:=by
 obtain⟨hh,g,d,t,os⟩:=s;exact make_core (makes_of X hm) (looks_findIn X hi) (λ self=>bind_fn X self hf) (.inl rfl) h
end
def Be(f:Str)(v:V):LFz->LFz
 |[]=>[(f,v)]
 | (g,x)::r=>if g=f then (g,v)::r else (g,x)::Be f v r
theorem Ay(f g:Str)(v:V):∀fs:LFz,(Be f v fs).lookup g=if g=f then some v else fs.lookup g
 |[]=>by
  show List.lookup g [(f,v)]=_;by_cases h:g=f
  .have hb:(g==f)=true:=beq_iff_eq.mpr h;simp only[List.lookup,hb,if_pos h]
  .have hb:(g==f)=false:=beq_eq_false_iff_ne.mpr h;simp only[List.lookup,hb,if_neg h]
 | (k,x)::r=>by
  have ih:=Ay f g v r;rw[show Be f v ((k,x)::r)=(if k=f then (k,v)::r else (k,x)::Be f v r) from rfl];by_cases hk:k=f
  .rw[if_pos hk];by_cases h:g=k
   .have hb:(g==k)=true:=beq_iff_eq.mpr h;simp only[List.lookup,hb,if_pos (h.trans hk)]
   .have hb:(g==k)=false:=beq_eq_false_iff_ne.mpr h;simp only[List.lookup,hb,if_neg (λ e:g=f=>h (e.trans hk.symm))]
  .rw[if_neg hk];by_cases h:g=k
   .have hb:(g==k)=true:=beq_iff_eq.mpr h;simp only[List.lookup,hb,if_neg (λ e:g=f=>hk (h.symm.trans e))]
   .have hb:(g==k)=false:=beq_eq_false_iff_ne.mpr h;simp only[List.lookup,hb];exact ih
theorem CU(f:Str)(v:V):∀fs:LFz,f∈(Be f v fs).map (·.1)/\∀g,g∈fs.map (·.1)->g∈(Be f v fs).map (·.1)
 |[]=>⟨by simp[Be],λ g h=>by simp at h⟩
 | (k,x)::r=>by
  obtain⟨i1,i2⟩:=CU f v r;rw[show Be f v ((k,x)::r)=(if k=f then (k,v)::r else (k,x)::Be f v r) from rfl];by_cases hk:k=f
  .rw[if_pos hk];subst hk;exact⟨by simp,λ g h=>by simpa using h⟩
  .rw[if_neg hk];refine⟨?_,λ g h=>?_⟩
   .rw[List.map_cons];exact List.mem_cons_of_mem _ i1
   .rw[List.map_cons]at h |-;rcases List.mem_cons.mp h with e|e
    .exact List.mem_cons.mpr (.inl e)
    .exact List.mem_cons_of_mem _ (i2 g e)
theorem F2(f:Str)(v:V):∀fs:LFz,(Be f v fs).length<=fs.length+1
 |[]=>by simp[Be]
 | (k,x)::r=>by
  have ih:=F2 f v r;rw[show Be f v ((k,x)::r)=(if k=f then (k,v)::r else (k,x)::Be f v r) from rfl];by_cases hk:k=f
  .rw[if_pos hk,List.length_cons,List.length_cons];lia
  .rw[if_neg hk,List.length_cons,List.length_cons];lia
theorem RelO.some_of{v:V}{o:Option Value}(r:RelO (some v) o):∃u,o=some u/\RelV v u:=by
 cases o with
 |none=>exact(show False from r).elim
 |some u=>exact⟨u,rfl,r⟩
theorem RelO.none_of{o:Option Value}(r:RelO none o):o=none:=by
 cases o with
 |none=>rfl
 |some u=>exact(show False from r).elim
theorem Ox{v:V}{u:Value}(r:RelV v u):handedIn u=true:=by
 cases v with
 |non=>cases(show u=Value.none from r);rfl
 |bl b=>cases(show u=Value.bool b from r);rfl
 |int i=>obtain⟨t,e⟩:=(show ∃t,u=Value.int i t from r);cases e;rfl
 |str x=>obtain⟨t,e⟩:=(show ∃t,u=Value.str x t from r);cases e;rfl
 |byt b=>obtain⟨t,e⟩:=(show ∃t,u=Value.bytes b t from r);cases e;rfl
 |flt b=>obtain⟨t,e⟩:=(show ∃t,u=Value.float b t from r);cases e;rfl
 |ref a=>cases(show u=Value.ref a from r);rfl
 |ty n=>cases(show u=Value.type n from r);rfl
section
variable{P:Program}{w:World}{H H':Hp}{h h':Heap}{a C dx:Addr}{fs fs':LFz}
theorem Ga(hok:HOk P w H h)(e:H a=some (.ins C dx fs)):∃mA,ObjM h a dx C mA/\(∀f,RelO (fs.lookup f) (mA f))/\PySem.Within mA (fs.map (·.1))/\fs.length<=1000/\H dx=some (.own a):=by
 obtain⟨d,z,ne,ob,mA,n,r,q⟩:=(show ObjOk P w H h a (.ins C dx fs) from hok a _ e);exact⟨mA,⟨ob,n,ne⟩,r,q,z,d⟩
end
structure Cls(K:Frag)(C:Addr):Prop where
 pg:plainGet K C Str.empty=true
 hd:hasDictIn K C=true
 po:plainOver K C=true
 sa:findIn K (.ref C) "__setattr__"=some (some (.builtin "object.__setattr__"))
theorem Cls.get{K:Frag}{C:Addr}(c:Cls K C)(f:Str):plainGet K C f=true:=c.pg
def NoAttr(K:Frag)(C:Addr)(f:Str):Prop:=findIn K (.ref C) f=some none
theorem NoAttr.taker{K:Frag}{C:Addr}{f:Str}(n:NoAttr K C f):takerIn K C f=some none:=by
 unfold takerIn;rw[show findIn K (.ref C) f=some none from n];rfl
structure R3(K:Frag)(C:Addr)(m:Str)(f:Addr):Prop where
 at_:findIn K (.ref C) m=some (some (.ref f))
 fn:isFn K (.ref f)=true
 kp:keepIn K (.ref f)=true
section
variable{X:Cx}{pins:PNz}{σ:St}{H:Hp}{s:Shared}{a C dx:Addr}{fs:LFz}{f:Str}{v:V}{A:Around}{E:VPz}
theorem MK{b:Bool}{Q:VPz}(I:Inv X pins σ H s)(e:H a=some (.ins C dx fs))(c:Cls X.K C)(n:NoAttr X.K C f)(l:fs.lookup f=some v)
  (h:∀u s',Inv X pins σ H s'->RelV v u->Q u s'):wpAny (model X.prog X.w) A (getAttr (.ref a) f b) Q E s:=by
 obtain⟨mA,O,r,_,_,_⟩:=Ga I.hok e;obtain⟨u,hu,ru⟩:=RelO.some_of (v:=v) (o:=mA f) (by rw[<-l];exact r f);exact Rg I.kIn O (c.get f) c.hd n hu (Ox ru) (h u _ (I.tok _) ru)
theorem Dm{m:Str}{g:Addr}{pl:Sem Bool}{Q:Value×LWz->Shared->Prop}(I:Inv X pins σ H s)(e:H a=some (.ins C dx fs))(c:Cls X.K C)(k:R3 X.K C m g)(l:fs.lookup m=none)
  (h:Q (.ref g,[.ref a]) s):wpAny (model X.prog X.w) A (getMethod (.ref a) m pl) Q E s:=by
 obtain⟨mA,O,r,_,_,_⟩:=Ga I.hok e;have hn:mA m=none:=RelO.none_of (by rw[<-l];exact r m);exact PM I.kIn O (c.get m) k.at_ k.fn hn h
theorem Mh{y:V}{u:Value}{Q:Unit->Shared->Prop}(I:Inv X pins σ H s)(e:H a=some (.ins C dx fs))(c:Cls X.K C)(n:NoAttr X.K C f)(hl:fs.length<1000)(ry:RelV y u)
  (h:∀s',Inv X pins σ (upd H a (.ins C dx (Be f y fs))) s'->Q () s'):wpAny (model X.prog X.w) A (setAttr (.ref a) f u) Q E s:=by
 obtain⟨mA,O,r,wi,_,ho⟩:=Ga I.hok e;have hz:(fs.map (·.1)).length<=sizeLine:=by rw[List.length_map,sizeLine_eq];lia
 refine QE I.kIn O c.sa c.po n.taker c.hd wi hz λ h' O' sb=>h _ ?_;have hd:∃o,h'.get? dx=some o:=let ⟨o,_,_,e',_⟩:=O'.ns;⟨o,e'⟩;refine I.write (x:=a) (e:=dx) (by rw[e];exact True.intro) (.inr ho) (λ b q hb z=>(sb.2 b hb).trans z) hd ?_;refine⟨by rw[Ai O.ne];exact ho,?_,O.ne,O'.obj,_,O'.ns,λ g=>?_,λ g hg=>?_⟩
 .have:=F2 f y fs;lia
 .show RelO ((Be f y fs).lookup g) (if g=f then some u else mA g);rw[Ay];by_cases q:g=f
  .rw[if_pos q,if_pos q];exact ry
  .rw[if_neg q,if_neg q];exact r g
 .by_cases q:g=f
  .rw[q];exact(CU f y fs).1
  .refine(CU f y fs).2 g (wi g λ z=>hg ?_);show(if g=f then some u else mA g)=none;rw[if_neg q];exact z
theorem Inv.made(I:Inv X pins σ H s):Inv X pins σ (upd (upd H s.heap.objs.size (.own (s.heap.objs.size+1))) (s.heap.objs.size+1) (.ins C s.heap.objs.size []))
  { s with heap:=(s.heap.push emptyDict).push (instObj C s.heap.objs.size) }:=by
 have e1:(s.heap.push emptyDict).get? s.heap.objs.size=some emptyDict:=Heap.get?_push_size s.heap rfl;have e2:((s.heap.push emptyDict).push (instObj C s.heap.objs.size)).get? (s.heap.objs.size+1)=some (instObj C s.heap.objs.size):=by
  have:=Heap.get?_push_size (s.heap.push emptyDict) (o:=instObj C s.heap.objs.size) rfl;rwa [Heap.size_push]at this
 have e3:(s.heap.push emptyDict).Ns s.heap.objs.size (λ_=>none):=⟨emptyDict,#[],_,e1,rfl,(λ e he=>absurd he (by simp)),λ_=>rfl⟩;have I1:=I.laid (a:=s.heap.objs.size) (o:=.own (s.heap.objs.size+1)) (h':=s.heap.push emptyDict) (t':=s.toks) (λ b u q=>Heap.get?_push_of_some _ q) (Nat.le_refl _) ⟨_,e1⟩;refine I1.laid (a:=s.heap.objs.size+1) (o:=.ins C s.heap.objs.size []) (t':=s.toks) (λ b u q=>Heap.get?_push_of_some _ q) (Nat.le_of_eq (Heap.size_push _ _)) ?_;have ne:s.heap.objs.size≠s.heap.objs.size+1:=Nat.ne_of_lt (Nat.lt_succ_self _);refine⟨by rw[Ai ne,Ac],Nat.zero_le _,ne,e2,λ_=>none,(Heap.Ns1.of_empty e3).at λ o q=>Heap.get?_push_of_some _ q,λ_=>True.intro,λ y hy=>absurd rfl hy⟩
theorem Ry{prog:Program}{w:World}{env:Env}{e:Expr}{f:Str}{pos:Pos}{s:Shared}{Q:VPz}(hb:attributeBase e f env (eval e env)=eval e env)
  (h:wpAny (model prog w) A (eval e env) (λ o s₁=>wpAny (model prog w) A (getAttr o f true) Q E s₁) E s):wpAny (model prog w) A (eval (.Attribute e f pos) env) Q E s :=
 Attribute_any_ h (by rw[arm_eval_Attribute,hb])
end
inductive Uc(K:Frag)(f:Str)(x:V)(H:Hp)(Q:VK):Prop
 |mk (a C dx:Addr) (fs:LFz) (v:V) (e:x=.ref a) (h:H a=some (.ins C dx fs)) (c:Cls K C) (n:NoAttr K C f) (l:fs.lookup f=some v) (q:Q v H):Uc K f x H Q
def Ul(K:Frag)(ta:TE)(f:Str):TE:=λ σ H Q=>ta σ H λ x H1=>Uc K f x H1 Q
def Ur(K:Frag)(ta tv:TE)(f:Str):TS:=λ D σ H=>tv σ H λ y H1=>ta σ H1 λ x H2=>∃a C dx fs,x=.ref a/\H2 a=some (.ins C dx fs)/\Cls K C/\NoAttr K C f/\fs.length<1000 /\
 D.nx σ (upd H2 a (.ins C dx (Be f y fs)))
section
variable{X:Cx}{o e value:Expr}{f:Str}{pos pos' tpos:Pos}{ta tv:TE}
theorem Fg(he:PE X e ta)(hb:attributeBase e f X.env (eval e X.env)=eval e X.env):PE X (.Attribute e f pos) (Ul X.K ta f):=by
 intro pins s σ H Q I h;refine Ry hb (thn (he pins s σ H _ I h) λ u s1 hz_=>?_);obtain⟨x,H1,I1,rx,a,C,dx,fs,v,ex,ea,c,n,l,q⟩:=hz_;subst ex;obtain rfl:u=Value.ref a:=rx;exact MK I1 ea c n l λ u' s2 I2 ru=>⟨v,H1,I2,ru,q⟩
theorem Cs(ha:PE X o ta)(hv:PE X value tv)(hs:swapsWith value (some (.Attribute o f pos')) pos.line X.env=pure false):PS X (.Assign [.Attribute o f pos'] value pos) (Ur X.K ta tv f):=by
 intro pins s σ H D I h;refine plainObj_wpAny_Assign_Attribute (thn (hv pins s σ H _ I h) λ u s1 hz_=>?_) hs;obtain⟨y,H1,I1,ry,q⟩:=hz_;refine thn (ha pins s1 σ H1 _ I1 q) λ ov s2 hz_=>?_;obtain⟨x,H2,I2,rx,a,C,dx,fs,ex,ea,c,n,l,q2⟩:=hz_;subst ex;obtain rfl:ov=Value.ref a:=rx;exact Mh I2 ea c n l ry λ s3 I3=>⟨σ,_,I3,q2⟩
end
section
variable{X:Cx}{pins:PNz}{σ:St}{H:Hp}{s:Shared}{A:Around}{E:VPz}{Q:VPz}{c:Value}{b:Bool}
inductive Fu(K:Frag)(H:Hp):V->Value->Prop where
 |non:Fu K H .non (.type "NoneType")
 |bl (x:Bool):Fu K H (.bl x) (.type "bool")
 |int (i:Int):Fu K H (.int i) (.type "int")
 |str (x:Str):Fu K H (.str x) (.type "str")
 |flt (x:UInt64):Fu K H (.flt x) (.type "float")
 |lst {a:Addr} {xs:LUz} (e:H a=some (.lst xs)):Fu K H (.ref a) (.type "list")
 |frz {a:Addr} {o:Obj} {xs:LUz} (e:H a=some (.frz o (.lst xs))):Fu K H (.ref a) (.type "list")
 |tup {a:Addr} {xs:LUz} (e:H a=some (.tup xs)):Fu K H (.ref a) (.type "tuple")
 |dK {a:Addr} {kvs:List (Key×V)} (e:H a=some (.dK kvs)):Fu K H (.ref a) (.type "dict")
 |dT {a:Addr} {kvs:LKz} (e:H a=some (.dT kvs)):Fu K H (.ref a) (.type "dict")
 |ins {a C dx:Addr} {fs:LFz} (e:H a=some (.ins C dx fs)) (cl:Cls K C) (ha:findIn K (.ref C) "__class__"=some (some (.builtin "object.__class__")))
   (hn:specialIn K (.builtin "object.__class__") "__get__"=some (some (.builtin "getset_descriptor.__get__"))) (htk:takesIn K (.builtin "object.__class__")=some true)
   (hm:mroIn K C (.type "object")=some true):Fu K H (.ref a) (.ref C)
theorem Js{x:V}{u t:Value}(I:Inv X pins σ H s)(rx:RelV x u)(ty:Fu X.K H x t)(e:kitOne X.K t c=some b)(h:∀tk,Q (.bool b) { s with toks:=tk }) :
  wpAny (model X.prog X.w) A (call (.builtin "isinstance") [u,c]) Q E s:=by
 cases ty with
 |non=>cases(show u=Value.none from rx);exact kia_one kitx_none I.kIn True.intro e (λ z=>nomatch z) h
 |bl y=>cases(show u=Value.bool y from rx);exact kia_one kitx_bool I.kIn True.intro e (λ z=>nomatch z) h
 |int i=>obtain⟨t,q⟩:=(show ∃t,u=Value.int i t from rx);cases q;exact kia_one kitx_int I.kIn True.intro e (λ z=>nomatch z) h
 |str y=>obtain⟨t,q⟩:=(show ∃t,u=Value.str y t from rx);cases q;exact kia_one kitx_str I.kIn True.intro e (λ z=>nomatch z) h
 |flt y=>obtain⟨t,q⟩:=(show ∃t,u=Value.float y t from rx);cases q;exact kia_one kitx_float I.kIn True.intro e (λ z=>nomatch z) h
 |@lst a xs ea =>
  cases(show u=Value.ref a from rx);obtain⟨_,_,n,_,h1⟩:=(show ObjOk X.prog X.w H s.heap a (.lst xs) from I.hok a _ ea);exact kia_one kitx_list I.kIn ⟨_,h1,rfl⟩ e (λ z=>nomatch z) h
 |@frz a ob xs ea =>
  cases(show u=Value.ref a from rx);obtain⟨_,_,_,n,_,h1⟩:=(show ObjOk X.prog X.w H s.heap a (.frz ob (.lst xs)) from I.hok a _ ea);exact kia_one kitx_list I.kIn ⟨_,h1,rfl⟩ e (λ z=>nomatch z) h
 |@tup a xs ea =>
  cases(show u=Value.ref a from rx);obtain⟨_,_,_,p⟩:=(show ObjOk X.prog X.w H s.heap a (.tup xs) from I.hok a _ ea);obtain⟨o,h1,h2,_⟩:=p;exact kia_one kitx_tuple I.kIn ⟨o,h1,h2⟩ e (λ z=>nomatch z) h
 |@dK a kvs ea =>
  cases(show u=Value.ref a from rx);obtain⟨_,_,vs,_,p⟩:=(show ObjOk X.prog X.w H s.heap a (.dK kvs) from I.hok a _ ea);obtain⟨o,es,ep,h1,h2,_⟩:=p;exact kia_one kitx_dict I.kIn ⟨o,h1,h2.1⟩ e (λ z=>nomatch z) h
 |@dT a kvs ea =>
  cases(show u=Value.ref a from rx);obtain⟨_,_,xs,_,o,es,ep,h1,h2,_⟩:=(show ObjOk X.prog X.w H s.heap a (.dT kvs) from I.hok a _ ea);exact kia_one kitx_dict I.kIn ⟨o,h1,h2.1⟩ e (λ z=>nomatch z) h
 |@ins a C dx fs ea cl ha hn htk hm =>
  cases(show u=Value.ref a from rx);obtain⟨mA,O,_⟩:=Ga I.hok ea;obtain⟨od,J,_⟩:=O.look;exact kia_one (kitx_own (cl.get _) cl.hd ha hn htk hm) I.kIn J e (λ z=>nomatch z) h
end
structure Room(k:Nat)(A:Around):Prop where
 hd:A.handled=none
 dp:A.depth+3*k+5<recursionLimit
 un:A.units+16*k+200<cLine
theorem Room.mono{j k:Nat}{A:Around}(r:Room k A)(h:j<=k):Room j A:=⟨r.hd,by have:=r.dp;lia,by have:=r.un;lia⟩
theorem Room.deeper{k:Nat}{A:Around}(r:Room (k+1) A)(env:Env):Room k (A.deeper env) :=
 ⟨r.hd,by have:=r.dp;show A.depth+1+3*k+5<_;lia,by have:=r.un;show A.units+3+16*k+200<_;lia⟩
theorem Room.in1{k:Nat}{A:Around}(r:Room (k+1) A):Room k A.in1 :=
 ⟨r.hd,by have:=r.dp;show A.depth+3*k+5<_;lia,by have:=r.un;show A.units+1+16*k+200<_;lia⟩
theorem MA{A:Around}{C:Addr}{us:LWz}{kw:List (Str×Value)}:(A.under (.builtin "type.__call__" ⟨.ref C::us,kw⟩)).depth=A.depth+1:=by
 first|rfl|simp[Around.under,Code.weight,Code.isCreation,Code.isGuard,Code.isCaller,Code.frames,Code.isFrame,guardIds]
theorem M9{A:Around}{C:Addr}{us:LWz}{kw:List (Str×Value)}:(A.under (.builtin "type.__call__" ⟨.ref C::us,kw⟩)).units=A.units+1:=by
 first|rfl|simp[Around.under,Code.cUnits,Code.frames,Code.isFrame]
theorem Room.make{k:Nat}{A:Around}(r:Room (k+1) A)(C:Addr)(us:LWz)(kw:List (Str×Value)):Room k (A.under (.builtin "type.__call__" ⟨.ref C::us,kw⟩)) :=
 ⟨r.hd,by have:=r.dp;rw[MA];lia,by have:=r.un;rw[M9];lia⟩
theorem Room.depth{k:Nat}{A:Around}(r:Room k A):A.depth<recursionLimit:=by have:=r.dp;lia
theorem Room.units{k:Nat}{A:Around}(r:Room k A):A.units+64<cLine:=by have:=r.un;lia
def KS:TA:=λ_ H Q=>Q [] H
def Dw(ta:TE)(tr:TA):TA:=λ σ H Q=>ta σ H λ x H1=>tr σ H1 λ xs H2=>Q (x::xs) H2
section
variable{X:Cx}{e:Expr}{es:List Expr}{te:TE}{t:TA}{pos:Pos}
theorem Ab:PA X [] KS:=λ_ _ _ _ H Q I h=>Calls.spliced_nil ⟨[],H,I,.nil,h⟩
theorem Aa(ha:PE X e te)(hr:PA X es t)(hs:starEach (e::es) X.env=(false,eval e X.env)::starEach es X.env:=by rfl):PA X (e::es) (Dw te t):=by
 intro pos pins s σ H Q I h;rw[hs];show wpAny _ _ (spliced ((false,eval e X.env)::backTo pos (starEach es X.env))) _ _ s;refine Calls.spliced_cons (thn (ha pins s σ H _ I h) λ u s1 hz_=>?_);obtain⟨x,H1,I1,r1,q1⟩:=hz_;exact thn (hr pos pins s1 σ H1 _ I1 q1) λ us s2 ⟨xs,H2,I2,r2,q2⟩=>⟨x::xs,H2,I2,.cons r1 r2,q2⟩
def SY(t:TA):TE:=λ σ H Q=>t σ H λ xs H1=>xs.length<=sizeLine/\∀p,H1 p=none->Q (.ref p) (upd H1 p (.tup xs))
def Ui(t:TA):TE:=λ σ H Q=>t σ H λ xs H1=>xs.length<=sizeLine/\∀p,H1 p=none->Q (.ref p) (upd H1 p (.lst xs))
theorem AF{x1}(h:PA X es t):PE X (.Tuple es x1 pos) (SY t):=by
 intro pins s σ H Q I hq;refine wpAny_Tuple_spliced (thn (h pos pins s σ H _ I hq) λ us s1 ⟨xs,H1,I1,r,z,q⟩=>⟨by rw[<-r.length];exact z,?_⟩);have hf:H1 s1.heap.objs.size=none:=I1.hok.fresh (Nat.le_refl _);refine⟨.ref s1.heap.objs.size,upd H1 s1.heap.objs.size (.tup xs),I1.laid (t':=s1.toks) (λ b u e=>Heap.get?_push_of_some _ e) (Nat.le_refl _) ?_,rfl,q _ hf⟩;exact⟨z,us,r,⟨_,Heap.get?_push_size _ rfl,rfl,_,rfl⟩⟩
theorem AV(h:PA X es t):PE X (.List es pos) (Ui t):=by
 intro pins s σ H Q I hq;refine wpAny_List_spliced (thn (h pos pins s σ H _ I hq) λ us s1 ⟨xs,H1,I1,r,z,q⟩=>⟨by rw[<-r.length];exact z,?_⟩);have hf:H1 s1.heap.objs.size=none:=I1.hok.fresh (Nat.le_refl _);refine⟨.ref s1.heap.objs.size,upd H1 s1.heap.objs.size (.lst xs),I1.laid (t':=s1.toks) (λ b u e=>Heap.get?_push_of_some _ e) (Nat.le_refl _) ?_,rfl,q _ hf⟩;exact⟨z,us,0,r,Heap.get?_push_size _ rfl⟩
end
abbrev Sp:=LUz->Hp->VK->XK->Prop
abbrev CXT:=List Env->Hp->Shared->XK->Value->Shared->Prop
structure Env0(P:Program)(w:World)(K:Frag)(mg:MGz)(base:Heap)(A:Around)(outer:List Env)(s:Shared)(H:Hp):Prop where
 frames:A.frames=some outer
 mod:Mod K mg base
 bs:∀b o,base.get? b=some o->s.heap.get? b=some o/\H b=none
 bsz:base.objs.size<=s.heap.objs.size
 funs:s.heap.FunFrames base outer
 frf:∀b∈frs outer,H b=none
 hok:HOk P w H s.heap
 bare:AllBare s.gens
def CE(outer:List Env)(P:Program)(w:World)(H:Hp)(s:Shared)(Q:VK)(u:Value)(s':Shared):Prop :=
 ∃v H',s'.os=s.os/\AllBare s'.gens/\Un (frs outer) [] H H' s.heap s'.heap/\HOk P w H' s'.heap/\RelV v u/\Q v H'
def CR(CX:CXT)(outer:List Env)(P:Program)(w:World)(H:Hp)(s:Shared)(Q:VK)(E:XK)(r:Result)(s':Shared):Prop :=
 match r with
 |.ok (.ret u)=>CE outer P w H s Q u s'
 |.ok _=>False
 |.error e=>CX outer H s E e s'
structure A9(P:Program)(w:World)(K:Frag)(mg:MGz)(base:Heap)(CX:CXT)(k:Nat)(f:Addr)(fd:FuncData)(ps:LSz)(sp:Sp):Prop where
 len:∀vs H Q E,sp vs H Q E->vs.length=ps.length
 run:∀(A:Around)(outer:List Env)(s:Shared)(H:Hp)(args:Args)(us:LWz)(vs:LUz)(Q:VK)(E:XK),Room k A->Env0 P w K mg base A outer s H->BindsTo s fd args (ps.zip us)->Vals vs us->sp vs H Q E ->
  codeAny (model P w) A (.call (.ref f) args) (CR CX outer P w H s Q E) s
theorem Env0.make{P:Program}{w:World}{K:Frag}{mg:MGz}{base:Heap}{A:Around}{outer:List Env}{s:Shared}{H:Hp}(e:Env0 P w K mg base A outer s H)(C:Addr)(us:LWz)(kw:List (Str×Value)) :
  Env0 P w K mg base (A.under (.builtin "type.__call__" ⟨.ref C::us,kw⟩)) outer s H:=⟨by first|exact e.frames|(simpa [Around.under,Code.envs,Code.isFrame,pushEnvs] using e.frames),e.mod,e.bs,e.bsz,e.funs,e.frf,e.hok,e.bare⟩
theorem Env0.in1{P:Program}{w:World}{K:Frag}{mg:MGz}{base:Heap}{A:Around}{outer:List Env}{s:Shared}{H:Hp}(e:Env0 P w K mg base A outer s H) :
  Env0 P w K mg base A.in1 outer s H:=⟨e.frames,e.mod,e.bs,e.bsz,e.funs,e.frf,e.hok,e.bare⟩
section
variable{X:Cx}{pins:PNz}{σ:St}{H:Hp}{s s':Shared}
theorem Inv.env0(I:Inv X pins σ H s):Env0 X.prog X.w X.K X.mg X.base X.A X.stack s H :=
 ⟨I.ok.frames,I.ok.mod,I.bs,Nat.le_trans I.ok.bsz I.sz,I.stack,I.stkFree,I.hok,I.bare⟩
theorem Inv.after{Q:VK}{u:Value}(I:Inv X pins σ H s)(h:CE X.stack X.prog X.w H s Q u s'):EP X pins σ Q u s':=by
 obtain⟨v,H',os,bare,un,hok,r,q⟩:=h;obtain⟨hh,g,d,t,os'⟩:=s';obtain rfl:os'=s.os:=os;exact⟨v,H',I.call (h':=hh) (g':=g) (d':=d) (t':=t) (ch:=[]) un hok bare (λ b z=>absurd z (by simp)),r,q⟩
end
def IX(sp:Sp)(dvs:LUz)(E:XK)(t:TA):TE:=λ σ H Q=>t σ H λ vs H1=>sp (vs++dvs) H1 Q E
def Nf(C:Addr)(m:Str)(sp:Sp)(dvs:LUz)(E:XK)(ta:TE)(t:TA):TE:=λ σ H Q=>ta σ H λ x H1=>∃a dx fs,x=.ref a/\H1 a=some (.ins C dx fs)/\fs.lookup m=none /\
 t σ H1 λ vs H2=>sp (x::(vs++dvs)) H2 Q E
def OT(C:Addr)(sp:Sp)(dvs:LUz)(E:XK)(t:TA):TE:=λ σ H Q=>t σ H λ vs H1=>∀x dx,H1 x=none->H1 dx=none->dx≠x ->
 sp (.ref x::(vs++dvs)) (upd (upd H1 dx (.own x)) x (.ins C dx [])) (λ v H2=>v=.non/\Q (.ref x) H2) E
def Binds(K:Frag)(fd:FuncData)(ps:LSz)(ds:LWz):Prop :=
 ∀(s:Shared)(us:LWz),K.In s.heap->(us++ds).length=ps.length->BindsTo s fd ⟨us,[]⟩ (ps.zip (us++ds))
theorem Binds.all{K:Frag}{fd:FuncData}{ps:LSz}(h:∀us:LWz,us.length=ps.length->bindArgs fd ⟨us,[]⟩=pure (ps.zip us)):Binds K fd ps []:=λ s us _ hl=>by
 rw[List.append_nil]at hl |-;exact .of_eq (h us hl)
def Ci(CX:CXT)(X:Cx)(E:XK):Prop:=∀(pins:PNz)(σ:St)(H:Hp)(s:Shared)(e:Value)(s':Shared),Inv X pins σ H s->CX X.stack H s E e s'->X.xe e s'
section
variable{X:Cx}{CX:CXT}{k:Nat}{f C:Addr}{fd:FuncData}{ps:LSz}{sp:Sp}{dvs:LUz}{ds:LWz}{E:XK}{x m:Str}{p pos apos:Pos}{e o:Expr}{es:List Expr}{ta:TE}{t:TA}
theorem G0{pins:PNz}{σ:St}{H:Hp}{s:Shared}{Q:VK}{us:LWz}{vs:LUz}(F:A9 X.prog X.w X.K X.mg X.base CX k f fd ps sp)(hr:Room k X.A)(hb:Binds X.K fd ps ds)(hd:Vals dvs ds)(hx:Ci CX X E)
  (I:Inv X pins σ H s) (r:Vals vs us) (h:sp (vs++dvs) H Q E):wpAny (model X.prog X.w) X.A (call (.ref f) us) (EP X pins σ Q) X.xe s:=by
 have r2:Vals (vs++dvs) (us++ds):=r.append hd;have hl:(us++ds).length=ps.length:=by rw[<-r2.length];exact F.len _ _ _ _ h
 refine wpAny_call (codeAny_mono (F.run X.A X.stack s H ⟨us,[]⟩ (us++ds) (vs++dvs) Q E hr I.env0 (hb s us I.kIn hl) r2 h) λ r s' hq=>?_);cases r with
 |error e=>exact hx pins σ H s e s' I hq
 |ok fl =>
  cases fl with
  |ret u=>exact I.after hq
  |next=>exact False.elim hq
  |brk=>exact False.elim hq
  |cont=>exact False.elim hq
theorem Nz(F:A9 X.prog X.w X.K X.mg X.base CX k f fd ps sp)(hr:Room k X.A)(hg:Gl X x)(hm:X.mg x=some (.ref f))(hk:keepIn X.K (.ref f)=true)(hb:Binds X.K fd ps ds)(hd:Vals dvs ds)(hx:Ci CX X E)
  (ha:PA X (e::es) t) (hdb:(x==("__debug__":Str))=false:=by decide) (he:starEach (e::es) X.env=(false,eval e X.env)::starEach es X.env:=by rfl) (hpl:(backTo pos (starEach es X.env)).any (·.1)=false:=by rfl) :
  PE X (.Call (.Name x p) (e::es) [] pos) (IX sp dvs E t):=by
 intro pins s σ H Q I h;refine wpAny_Call_Name_kw (DU I hg hm ?_ hdb);refine callWith_K (h₀:=X.base) I.ok.mod.kin hk (thn (ha pos pins s σ H _ I h) λ us s1 ⟨vs,H1,I1,r,q⟩=>⟨I1.kIn,?_⟩) he hpl;exact G0 F hr hb hd hx I1 r q
theorem QO{pl:Sem Bool}(he:PE X o ta)(c:Cls X.K C)(hm:R3 X.K C m f)(F:A9 X.prog X.w X.K X.mg X.base CX k f fd ps sp)(hr:Room k X.A)(hb:Binds X.K fd ps ds)(hd:Vals dvs ds)(hx:Ci CX X E)(ha:PA X (e::es) t)
    (hst:starEach (e::es) X.env=(false,eval e X.env)::starEach es X.env:=by rfl) (hpl:(backTo pos (starEach es X.env)).any (·.1)=false:=by rfl)
    (ht:eval (.Call (.Attribute o m apos) (e::es) [] pos) X.env=(do
      let ov <-eval o X.env
      standAt apos.atName
      let (f,first) <-holding [ov] (getMethod ov m pl)
      callWith pos f first (backTo pos (starEach (e::es) X.env)) (backToKw pos (keywordEach [] X.env))):=by rfl) :
    PE X (.Call (.Attribute o m apos) (e::es) [] pos) (Nf C m sp dvs E ta t):=by
  intro pins s σ H Q I h;refine methodCall_KW (pl:=pl) (thn (he pins s σ H _ I h) λ u s1 hz_=>?_) ht;obtain⟨x,H1,I1,rx,a,dx,fs,ex,ea,l,q⟩:=hz_;subst ex;obtain rfl:u=Value.ref a:=rx;refine Dm I1 ea c hm l ?_;refine callWith_K (first:=[.ref a]) (h₀:=X.base) I.ok.mod.kin hm.kp (thn (ha pos pins s1 σ H1 _ I1 q) λ us s2 ⟨vs,H2,I2,r,q2⟩=>⟨I2.kIn,?_⟩) hst hpl;exact G0 (us:=.ref a::us) (vs:=.ref a::vs) F hr hb hd hx I2 (.cons rfl r) q2
theorem Pw{pl:Sem Bool}(he:PE X o ta)(c:Cls X.K C)(hm:R3 X.K C m f)(F:A9 X.prog X.w X.K X.mg X.base CX k f fd ps sp)(hr:Room k X.A)(hb:Binds X.K fd ps ds)(hd:Vals dvs ds)(hx:Ci CX X E)
    (ht:eval (.Call (.Attribute o m apos) [] [] pos) X.env=(do
      let ov <-eval o X.env
      standAt apos.atName
      let (f,first) <-holding [ov] (getMethod ov m pl)
      callWith pos f first (backTo pos (starEach [] X.env)) (backToKw pos (keywordEach [] X.env))):=by rfl) :
    PE X (.Call (.Attribute o m apos) [] [] pos) (Nf C m sp dvs E ta KS):=by
  intro pins s σ H Q I h;refine methodCall_KW (pl:=pl) (thn (he pins s σ H _ I h) λ u s1 hz_=>?_) ht;obtain⟨x,H1,I1,rx,a,dx,fs,ex,ea,l,q⟩:=hz_;subst ex;obtain rfl:u=Value.ref a:=rx;refine Dm I1 ea c hm l ?_;exact callWith_K0 (first:=[.ref a]) I1.kIn hm.kp (G0 (us:=[.ref a]) (vs:=[.ref a]) F hr hb hd hx I1 (.cons rfl .nil) q)
structure Mk(K:Frag)(C f:Addr):Prop where
 makes:makesIn K C=true
 init:findIn K (.ref C) "__init__"=some (some (.ref f))
 fn:isFn K (.ref f)=true
 kp:keepIn K (.ref C)=true
theorem Pg{pins:PNz}{σ:St}{H:Hp}{s:Shared}{Q:VK}{us:LWz}{vs:LUz}(M:Mk X.K C f)(F:A9 X.prog X.w X.K X.mg X.base CX k f fd ps sp)(hr:Room (k+1) X.A)(hb:Binds X.K fd ps ds)(hd:Vals dvs ds)
  (hx:Ci CX X E) (I:Inv X pins σ H s) (r:Vals vs us)
  (h:∀x dx,H x=none->H dx=none->dx≠x->sp (.ref x::(vs++dvs)) (upd (upd H dx (.own x)) x (.ins C dx [])) (λ v H2=>v=.non/\Q (.ref x) H2) E) :
  wpAny (model X.prog X.w) X.A (call (.ref C) us) (EP X pins σ Q) X.xe s:=by
 have hq:=h (s.heap.objs.size+1) s.heap.objs.size (I.hok.fresh (Nat.le_succ _)) (I.hok.fresh (Nat.le_refl _)) (Nat.ne_of_lt (Nat.lt_succ_self _));have I2:=Inv.made (C:=C) I;have r2:Vals (V.ref (s.heap.objs.size+1)::(vs++dvs)) (Value.ref (s.heap.objs.size+1)::(us++ds)):=.cons rfl (r.append hd);have hl:(Value.ref (s.heap.objs.size+1)::us++ds).length=ps.length:=by
  have e:=r2.length;rw[F.len _ _ _ _ hq]at e;exact e.symm
 refine wpAny_call (PF (f:=f) I.kIn M.makes M.init (beq_iff_eq.mp M.fn) (codeAny_mono (F.run _ X.stack _ _ ⟨Value.ref (s.heap.objs.size+1)::us,[]⟩ (Value.ref (s.heap.objs.size+1)::(us++ds)) _ _ E (hr.make C us [])
  (I2.env0.make C us []) (hb _ (Value.ref (s.heap.objs.size+1)::us) I2.kIn hl) r2 hq) λ r s' hq'=>?_))
 cases r with
 |error e=>exact hx pins σ _ _ e s' I2 hq'
 |ok fl =>
  cases fl with
  |ret u =>
   obtain⟨v,H',I3,rv,ev,q3⟩:=I2.after hq';subst ev;exact⟨rv,⟨V.ref (s.heap.objs.size+1),H',I3,rfl,q3⟩⟩
  |next=>exact False.elim hq'
  |brk=>exact False.elim hq'
  |cont=>exact False.elim hq'
theorem Nx(M:Mk X.K C f)(F:A9 X.prog X.w X.K X.mg X.base CX k f fd ps sp)(hr:Room (k+1) X.A)(hg:Gl X x)(hm:X.mg x=some (.ref C))(hb:Binds X.K fd ps ds)(hd:Vals dvs ds)(hx:Ci CX X E)
  (ha:PA X (e::es) t) (hdb:(x==("__debug__":Str))=false:=by decide) (he:starEach (e::es) X.env=(false,eval e X.env)::starEach es X.env:=by rfl) (hpl:(backTo pos (starEach es X.env)).any (·.1)=false:=by rfl) :
  PE X (.Call (.Name x p) (e::es) [] pos) (OT C sp dvs E t):=by
 intro pins s σ H Q I h;refine wpAny_Call_Name_kw (DU I hg hm ?_ hdb);refine callWith_K (h₀:=X.base) I.ok.mod.kin M.kp (thn (ha pos pins s σ H _ I h) λ us s1 ⟨vs,H1,I1,r,q⟩=>⟨I1.kIn,?_⟩) he hpl;exact Pg M F hr hb hd hx I1 r q
end
structure Al(N P:LSz)(sc:Scope):Prop where
 kind:sc.kind=.function
 co:sc.isCoroutine=false
 gen:sc.isGenerator=false
 nd:N.Nodup
 pre:N.take P.length=P
 par:∀x∈P,sc.names.lookup x=some .local\/sc.names.lookup x=some .cell
 nofree:∀y∈sc.names,y.2≠.free
theorem fsc{N P:List Str}{sc:Scope}(a:sc.kind=.function:=by rfl)(b:sc.isCoroutine=false:=by rfl)(c:sc.isGenerator=false:=by rfl)(d:N.Nodup:=by decide +kernel)(e:N.take P.length=P:=by rfl)(f:∀x∈P,sc.names.lookup x=some .local\/sc.names.lookup x=some .cell:=by decide +kernel)(g:∀y∈sc.names,y.2≠.free:=by decide +kernel):Al N P sc:=⟨a,b,c,d,e,f,g⟩
theorem JA{kindOf:Str->Option NameKind}{x:Str}:∀{binds:List (Str×Value)}{m:MGz},(∀v,(x,v)∉binds)->bindL kindOf binds m x=m x
 |[],_,_=>rfl
 | (n,v)::r,m,h=>by
  unfold bindL;rw[JA λ w hw=>h w (List.mem_cons_of_mem _ hw)];split
  .have:x≠n:=by rintro rfl;exact h v List.mem_cons_self
   simp[this]
  .rfl
theorem JC{kindOf:Str->Option NameKind}{x:Str}:∀{binds:List (Str×Value)}{m:MGz},(∀v,(x,v)∉binds)->bindC kindOf binds m x=m x
 |[],_,_=>rfl
 | (n,v)::r,m,h=>by
  unfold bindC;rw[JC λ w hw=>h w (List.mem_cons_of_mem _ hw)];split
  .rfl
  .have:x≠n:=by rintro rfl;exact h v List.mem_cons_self
   simp[this]
theorem JB{kindOf:Str->Option NameKind}{x:Str}{v:Value}:∀{P:LSz}{vs:LWz}{i:Nat}{m:MGz},P.Nodup->P[i]?=some x->vs[i]?=some v->kindOf x=some .local ->
  bindL kindOf (P.zip vs) m x=some v
 |[],_,_,_,_,h,_,_=>by simp at h
 |_::_,[],_,_,_,_,h,_=>by simp at h
 |p::P,w::vs,0,m,nd,h1,h2,hk=>by
  simp at h1 h2;subst h1;subst h2;show bindL kindOf ((p,w)::P.zip vs) m p=_;unfold bindL;rw[JA λ v hv=>(List.nodup_cons.mp nd).1 (List.of_mem_zip hv).1,if_pos hk];simp
 |p::P,w::vs,i+1,m,nd,h1,h2,hk=>by
  show bindL kindOf ((p,w)::P.zip vs) m x=_;unfold bindL;exact JB (i:=i) (List.nodup_cons.mp nd).2 (by simpa using h1) (by simpa using h2) hk
theorem JD{kindOf:Str->Option NameKind}{x:Str}{v:Value}:∀{P:LSz}{vs:LWz}{i:Nat}{m:MGz},P.Nodup->P[i]?=some x->vs[i]?=some v->kindOf x≠some .local ->
  bindC kindOf (P.zip vs) m x=some v
 |[],_,_,_,_,h,_,_=>by simp at h
 |_::_,[],_,_,_,_,h,_=>by simp at h
 |p::P,w::vs,0,m,nd,h1,h2,hk=>by
  simp at h1 h2;subst h1;subst h2;show bindC kindOf ((p,w)::P.zip vs) m p=_;unfold bindC;rw[JC λ v hv=>(List.nodup_cons.mp nd).1 (List.of_mem_zip hv).1,if_neg hk];simp
 |p::P,w::vs,i+1,m,nd,h1,h2,hk=>by
  show bindC kindOf ((p,w)::P.zip vs) m x=_;unfold bindC;exact JD (i:=i) (List.nodup_cons.mp nd).2 (by simpa using h1) (by simpa using h2) hk
def start(N:LSz)(vs:LUz):St:=vs.map some++List.replicate (N.length-vs.length) none
def Bv(CX:CXT)(P:Program)(w:World)(K:Frag)(mg:MGz)(base:Heap)(N:LSz)(qual:Str)(scope:Scope)(f:Addr)(cd:Value)(A:Around)(outer:List Env)(s:Shared)(H:Hp)(E:XK):Cx where
 prog:=P
 w:=w
 K:=K
 mg:=mg
 base:=base
 A:=A.deeper (envOfC qual scope s.heap.objs.size f cd)
 N:=N
 s₀:=s
 H₀:=H
 env:=envOfC qual scope s.heap.objs.size f cd
 outer:=outer
 stack:=envOfC qual scope s.heap.objs.size f cd::outer
 ex:=[]
 calm:=true
 fn:=λ_=>true
 pn:=[]
 xe:=λ e s'=>wpAny (model P w) (A.deeper (envOfC qual scope s.heap.objs.size f cd)) (leaving (envOfC qual scope s.heap.objs.size f cd) e) (λ_ s''=>CX outer H s E e s'') (λ e' s''=>CX outer H s E e' s'') s'
theorem LF{sc:Scope}{n:Nat}{x:Str}(h:sc.names.lookup x=some .cell):∃c,(cellsFrom n sc.names []).lookup x=some c:=by
 have q:=cellsFrom_some sc.names n [] (.inl h);exact Option.isSome_iff_exists.mp q
theorem Jt{CX:CXT}{P:Program}{w:World}{K:Frag}{mg:MGz}{base:Heap}{N ps:LSz}{qual:Str}{scope:Scope}{f:Addr}{cd:Value}{A:Around}{outer:List Env}{s s1:Shared}{H:Hp}{E:XK}{us:LWz}{vs:LUz}
  (S:Al N ps scope) (hd:A.handled=none) (e0:Env0 P w K mg base A outer s H) (hl:vs.length=ps.length) (r:Vals vs us)
  (x:InCallC s s.heap.objs.size (bindL (envOfC qual scope s.heap.objs.size f cd).kindOf (ps.zip us) λ_=>none) (cellsFrom (s.heap.objs.size+1) scope.names []) (bindC (envOfC qual scope s.heap.objs.size f cd).kindOf (ps.zip us) λ_=>none) s1) :
  Inv (Bv CX P w K mg base N qual scope f cd A outer s H E) [] (start N vs) H s1:=by
 have hpl:ps.length<=N.length:=by have:=congrArg List.length S.pre;rw[List.length_take]at this;lia
 obtain⟨h1,tk,rfl,hk⟩:=x.done;have noA:∀b:Addr,b∉(Bv CX P w K mg base N qual scope f cd A outer s H E).ex:=λ b z=>absurd (show b∈([]:List Addr) from z) (by simp);refine⟨⟨e0.mod,S.kind,rfl,rfl,Nat.le_refl _,λ y z c h1 h2=>?_,λ y hy=>?_,λ y c _ h=>?_,λ_=>hd,Around.frames_deeper e0.frames,.inr ⟨rfl,rfl⟩,λ b z=>absurd z (noA b),e0.bs,e0.bsz,λ b _ _=>noA b,λ b z=>absurd z (noA b),e0.funs,e0.frf⟩,
  rfl,e0.bare,Un.kept hk,⟨_,x.toInCall.ns,λ i y v h1 h2 h3=>?_⟩,λ y c h=>⟨_,x.cell y c h⟩,e0.hok.fresh (Nat.le_refl _),λ y c h=>?_,λ p hp=>absurd (show p∈([]:PNz) from hp) (by simp),e0.hok.kept hk,?_⟩
 .exact name_of_addr x.apart (PySem.mem_of_lookup h1) (PySem.mem_of_lookup h2)
 .have hy:scope.names.lookup y=some .cell\/scope.names.lookup y=some .free:=hy;rcases hy with hy|hy
  .exact LF hy
  .exact absurd rfl (S.nofree _ (PySem.mem_of_lookup hy))
 .exact Nat.le_of_lt (x.above y c (PySem.mem_of_lookup h))
 .have hi:i<vs.length:=by
   unfold start at h2;by_cases hi:i<vs.length
   .exact hi
   .rw[List.getElem?_append_right (by simpa using hi)]at h2;rw[List.getElem?_replicate]at h2;split at h2<;>cases h2
  have ha:vs[i]?=some v:=by
   unfold start at h2;rw[List.getElem?_append_left (by simpa using hi),List.getElem?_map]at h2;cases e:vs[i]? with
   |none=>rw[e]at h2;cases h2
   |some a=>rw[e]at h2;cases h2;rfl
  obtain⟨u,hu,rv⟩:=r.get ha;have hp:ps[i]?=some y:=by
   rw[<-S.pre,List.getElem?_take_of_lt (by lia)];exact h1
  have ndP:ps.Nodup:=by rw[<-S.pre];exact S.nd.sublist (List.take_sublist _ _)
  refine⟨u,rv,?_⟩;rcases S.par y (List.mem_of_getElem? hp) with k|k
  .exact .inl ⟨k,JB ndP hp hu k⟩
  .obtain⟨c,e⟩:=LF (n:=s.heap.objs.size+1) k;refine .inr ⟨.inl k,c,e,?_⟩;have q:=x.cell y c e;rw[JD ndP hp hu (by show scope.names.lookup y≠_;rw[k];decide)]at q;exact q
 .exact e0.hok.fresh (Nat.le_of_lt (x.above y c (PySem.mem_of_lookup h)))
 .unfold start;show _=N.length;rw[List.length_append,List.length_map,List.length_replicate];lia
theorem N7{CX:CXT}{P:Program}{w:World}{K:Frag}{mg:MGz}{base:Heap}{k:Nat}{f:Addr}{name qual:Str}{params:Arguments}{body:List Stmt}{scope:Scope}{dV kV doc pm cdv ct oc:Value}{an od:Option Addr}
  {osl:AOz} {N ps:LSz} {sp:Sp} (lk:K.lookup f=some ⟨oc,od,.func (fnOf name qual params body scope dV kV doc pm an cdv ct),osl⟩) (hcd:codeIn K cdv qual=true) (S:Al N ps scope)
  (len:∀vs H Q E,sp vs H Q E->vs.length=ps.length)
  (hbody:∀(A:Around)(outer:List Env)(s:Shared)(H:Hp)(vs:LUz)(Q:VK)(E:XK),Room k (A.deeper (envOfC qual scope s.heap.objs.size f cdv))->sp vs H Q E ->
   ∃t,PSs (Bv CX P w K mg base N qual scope f cdv A outer s H E) body t/\t { nx:=λ_ H'=>Q .non H',rt:=Q } (start N vs) H) :
  A9 P w K mg base CX (k+1) f (fnOf name qual params body scope dV kV doc pm an cdv ct) ps sp:=by
 refine⟨len,λ A outer s H args us vs Q E hr e0 hb r hsp=>?_⟩;have hl:=len _ _ _ _ hsp;have KX:K.In s.heap:=e0.mod.kin.keeps λ b o e=>(e0.bs b o e).1;have lim:s.heap.NoLimit:=e0.mod.nolimit.keeps λ b o e=>(e0.bs b o e).1;have hkind:∀y∈ps.zip us,scope.names.lookup y.1=some .local\/(scope.names.lookup y.1=some .cell/\((cellsFrom (s.heap.objs.size+1) scope.names []).lookup y.1).isSome=true):=λ⟨n,v⟩ hy=>by
  rcases S.par n (List.of_mem_zip hy).1 with q|q
  .exact .inl q
  .exact .inr ⟨q,cellsFrom_some _ _ _ (.inl q)⟩
 refine codeAny_call_function hr.depth (KX _ _ lk) rfl S.co S.gen rfl (codeRec_of KX hcd) (hb _ _ _ _ ?_);refine wpAny_newFunctionEnv_cells S.kind hkind λ env he s1 x=>?_;subst he;refine⟨lim.keeps x.toInCall.keep,codeAny_func ?_⟩;obtain⟨t,ht,hq⟩:=hbody A outer s H vs Q E (hr.deeper _) hsp;have I:Inv (Bv CX P w K mg base N qual scope f cdv A outer s H E) [] (start N vs) H s1:=Jt S hr.hd e0 hl r x;refine wpAny_mono (ht [] s1 (start N vs) H _ I hq) (λ fl s' hs=>?_) λ e s' hs=>hs;have fin:∀{σ':St}{H':Hp}{v:V}{u:Value},Inv (Bv CX P w K mg base N qual scope f cdv A outer s H E) [] σ' H' s'->RelV v u->Q v H'->CE outer P w H s Q u s' :=
  λ{σ' H' v u} J rv q=>⟨v,H',J.os,J.bare,J.base,J.hok,rv,q⟩
 cases fl with
 |ret u =>
  obtain⟨v,σ',H',J,rv,q⟩:=hs;exact fin J rv q
 |next =>
  obtain⟨σ',H',J,q⟩:=hs;exact fin (v:=V.non) (u:=Value.none) J rfl q
 |brk =>
  obtain⟨_,_,_,q⟩:=hs;exact False.elim q
 |cont =>
  obtain⟨_,_,_,q⟩:=hs;exact False.elim q
section
variable{X:Cx}{x:Str}{p pos:Pos}{e:Expr}{es:List Expr}{t:TA}{id T:String}{r:LUz->Hp->VK->Prop}
def tCB(r:LUz->Hp->VK->Prop)(t:TA):TE:=λ σ H Q=>t σ H λ vs H1=>r vs H1 Q
theorem A3(hc:Ck X (.builtin id) r)(hg:Gl X x)(hm:X.mg x=none)(hv:bootBuiltins x=some (.builtin id))(ha:PA X (e::es) t)(hn:x≠"__name__":=by decide)(hdb:(x==("__debug__":Str))=false:=by decide)
  (he:starEach (e::es) X.env=(false,eval e X.env)::starEach es X.env:=by rfl) (hpl:(backTo pos (starEach es X.env)).any (·.1)=false:=by rfl):PE X (.Call (.Name x p) (e::es) [] pos) (tCB r t):=by
 intro pins s σ H Q I h;refine wpAny_Call_Name_kw (D9 I hg hm hv ?_ hn hdb);exact PyProof.Rows.callWith_builtin1 (thn (ha pos pins s σ H _ I h) λ us s1 ⟨vs,H1,I1,r1,q1⟩=>hc pins s1 σ H1 vs us Q I1 r1 q1) he hpl
theorem Bk(hc:Ck X (.type T) r)(hg:Gl X x)(hm:X.mg x=none)(hv:bootBuiltins x=some (.type T))(ha:PA X (e::es) t)(hn:x≠"__name__":=by decide)(hdb:(x==("__debug__":Str))=false:=by decide)
  (he:starEach (e::es) X.env=(false,eval e X.env)::starEach es X.env:=by rfl) (hpl:(backTo pos (starEach es X.env)).any (·.1)=false:=by rfl):PE X (.Call (.Name x p) (e::es) [] pos) (tCB r t):=by
 intro pins s σ H Q I h;refine wpAny_Call_Name_kw (D9 I hg hm hv ?_ hn hdb);exact PyProof.Rows.callWith_type1 (thn (ha pos pins s σ H _ I h) λ us s1 ⟨vs,H1,I1,r1,q1⟩=>hc pins s1 σ H1 vs us Q I1 r1 q1) he hpl
end
end L2
namespace HT
open PySem.W
open PySem PyProof.Rows
def lexLt:List Int->List Int->Bool
 |[],[]=>false
 |[],_::_=>true
 |_::_,[]=>false
 |x::xs,y::ys=>if x=y then lexLt xs ys else decide (x<y)
theorem lexLt_cons(x y:Int)(xs ys:List Int):lexLt (x::xs) (y::ys)=if x=y then lexLt xs ys else decide (x<y):=rfl
theorem lexLt_nil_nil:lexLt [] []=false:=rfl
end HT
namespace L2
open PySem.W
open PySem PySem.Spec PyProof.Rows
abbrev TO:=St->Hp->(Option Int->Hp->Prop)->Prop
def PO(X:Cx)(e:Option Expr)(t:TO):Prop :=
 ∀(pins:PNz)(s:Shared)(σ:St)(H:Hp)(Q:Option Int->Hp->Prop),Inv X pins σ H s->t σ H Q ->
  wpAny (model X.prog X.w) X.A (evalPart e X.env) (λ u s'=>∃o H',Inv X pins σ H' s'/\IsPart u o/\Q o H') X.xe s
def Q7:TO:=λ_ H Q=>Q none H
def Ta(t:TE):TO:=λ σ H Q=>t σ H λ x H1=>∃i,x=.int i/\Q (some i) H1
theorem Hg{ns:List Int}:∀{us:LWz},Vals (ns.map V.int) us->IntsAre us ns:=by
 induction ns with
 |nil=>intro us r;rw[List.map_nil]at r;cases r;exact .nil
 |cons n ns ih =>
  intro us r;rw[List.map_cons]at r;cases r with
  |cons r1 r2 =>
   obtain⟨t,e⟩:=r1;subst e;exact .cons n t (ih r2)
section
variable{X:Cx}{e:Expr}{te:TE}{lo hi:Option Expr}{tl th:TO}{pos p2:Pos}
theorem JW:PO X none Q7:=by
 intro pins s σ H Q I h;rw[evalPart_none];exact wpAny_pure ⟨none,H,I,.none,h⟩
theorem JV(h:PE X e te):PO X (some e) (Ta te):=by
 intro pins s σ H Q I hw;rw[evalPart_some];refine thn (h pins s σ H _ I hw) λ u s1 hz_=>?_;obtain⟨x,H1,I1,r1,q1⟩:=hz_;obtain⟨i,rfl,q⟩:=q1;obtain⟨t,rfl⟩:=r1;exact⟨some i,H1,I1,.int i t,q⟩
def SlR(X:Cx)(r:V->Option Int->Option Int->Hp->VK->Prop):Prop :=
 ∀(pins:PNz)(s:Shared)(σ:St)(H:Hp)(x:V)(v vl vu:Value)(lo hi:Option Int)(sl:Addr)(Q:VK),Inv X pins σ H s->RelV x v->s.heap.IsSliceOf sl vl vu .none->IsPart vl lo->IsPart vu hi->r x lo hi H Q ->
  ∃T id,typeLookup (.type T) "__getitem__"=pure (some (.builtin id))/\s.TypeIs v T/\wpAny (model X.prog X.w) X.A (getItem v (.ref sl)) (EP X pins σ Q) X.xe s
def tSl(r:V->Option Int->Option Int->Hp->VK->Prop)(te:TE)(tl th:TO):TE:=λ σ H Q=>te σ H λ x H1=>tl σ H1 λ l H2=>th σ H2 λ u H3=>r x l u H3 Q
theorem G7{r:V->Option Int->Option Int->Hp->VK->Prop}(hr:SlR X r)(he:PE X e te)(hl:PO X lo tl)(hu:PO X hi th):PE X (.Subscript e (.Slice lo hi none p2) pos) (tSl r te tl th):=by
 intro pins s σ H Q I h;refine Subscript_ (thn (he pins s σ H _ I h) λ v s1 hz_=>?_);obtain⟨x,H1,I1,r1,q1⟩:=hz_;refine wpAny_Slice (thn (hl pins s1 σ H1 _ I1 q1) λ vl s2 hz_=>?_);obtain⟨l,H2,I2,pl,q2⟩:=hz_;refine thn (hu pins s2 σ H2 _ I2 q2) λ vu s3 hz_=>?_;obtain⟨u,H3,I3,pu,q3⟩:=hz_;rw[evalPart_none];refine wpAny_pure ?_;have I4:Inv X pins σ H3 { s3 with heap:=s3.heap.push { cls:=.type "slice",data:=.fields #[vl,vu,.none] } }:=I3.kept (t':=s3.toks) λ b ob q=>Heap.get?_push_of_some _ q;obtain⟨T,id,hT,ht,hg⟩:=hr pins { s3 with heap:=s3.heap.push { cls:=.type "slice",data:=.fields #[vl,vu,.none] } } σ H3 x v vl vu l u s3.heap.objs.size Q I4 r1 (Heap.IsSliceOf.new ..) pl pu q3;show wpAny (model X.prog X.w) X.A (subscriptTail e (.Slice lo hi none p2) v (.ref s3.heap.objs.size)) (EP X pins σ Q) X.xe { s3 with heap:=s3.heap.push { cls:=.type "slice",data:=.fields #[vl,vu,.none] } };exact tail_any (ops:=[.ref s3.heap.objs.size,v]) ht hT hg (by with_unfolding_all rfl)
end
def ixN(n:Nat)(i:Int):Option Nat:=if 0<=i then (if i<n then some i.toNat else none) else if -(n:Int)<=i then some (i+n).toNat else none
def atI{α:Type}(xs:List α)(i:Int):Option α:=(ixN xs.length i).bind λ j=>xs[j]?
theorem QZ{n:Nat}{i:Int}{j:Nat}(h:ixN n i=some j):seqIndex? i n=some j/\j<n/\-(n:Int)<=i/\i<n:=by
 unfold ixN at h;by_cases h0:0<=i
 .rw[if_pos h0]at h;by_cases h1:i<n
  .rw[if_pos h1]at h;have e:i.toNat=j:=Option.some.inj h;exact⟨by rw[seqIndex_of h0 h1,e],by lia,by lia,h1⟩
  .rw[if_neg h1]at h;cases h
 .rw[if_neg h0]at h;by_cases h1:-(n:Int)<=i
  .rw[if_pos h1]at h;have e:(i+n).toNat=j:=Option.some.inj h;exact⟨by rw[seqIndex_neg (by lia) h1,e],by lia,h1,by lia⟩
  .rw[if_neg h1]at h;cases h
theorem NF{α:Type}{xs:List α}{i:Int}{v:α}(h:atI xs i=some v):∃j,seqIndex? i xs.length=some j/\xs[j]?=some v/\j<xs.length/\-(xs.length:Int)<=i/\i<xs.length:=by
 unfold atI at h;cases e:ixN xs.length i with
 |none=>rw[e]at h;cases h
 |some j =>
  rw[e]at h;obtain⟨h1,h2,h3,h4⟩:=QZ e;exact⟨j,h1,h,h2,h3,h4⟩
theorem K5{α:Type}{xs:List α}{j:Nat}{v:α}(h:xs[j]?=some v):atI xs (j:Int)=some v:=by
 have hj:j<xs.length:=(List.getElem?_eq_some_iff.mp h).1;have e:ixN xs.length (j:Int)=some j:=by
  unfold ixN;rw[if_pos (by lia),if_pos (by lia)];simp
 unfold atI;rw[e];exact h
def Rz(b:Expr):Prop:=∀o i,subscripted b false o i=operate [o,i] (getItem o i)
def IxR(X:Cx)(r:R2):Prop :=
 ∀(value slice:Expr)(pins:PNz)(s:Shared)(σ:St)(H:Hp)(x y:V)(v u:Value)(Q:VK),Inv X pins σ H s->RelV x v->RelV y u->r x y H Q ->
  subscripted slice false v u=operate [v,u] (getItem v u)->wpAny (model X.prog X.w) X.A (subscriptTail value slice v u) (EP X pins σ Q) X.xe s
def MtR(X:Cx)(id:String)(r:V->LUz->Hp->VK->Prop):Prop :=
 ∀(pins:PNz)(s:Shared)(σ:St)(H:Hp)(x:V)(xs:LUz)(v:Value)(us:LWz)(Q:VK),Inv X pins σ H s->RelV x v->Vals xs us->r x xs H Q ->
  wpAny (model X.prog X.w) X.A (call (.builtin id) (v::us)) (EP X pins σ Q) X.xe s
section
variable{X:Cx}{a b:Expr}{ta tb:TE}{pos:Pos}
theorem Ap{r:R2}(hr:IxR X r)(ha:PE X a ta)(hb:PE X b tb)(hs:Rz b):PE X (.Subscript a b pos) (tOp r ta tb):=by
 intro pins s σ H Q I h;exact Subscript_ (Rx ha hb I h λ v u s2 x y H2 I2 rx ry q=>hr a b pins s2 σ H2 x y v u Q I2 rx ry q (hs _ _))
inductive Ub(K:Frag)(x y:V)(H:Hp)(Q:VK):Prop
 |mk (p:Addr) (xs:LUz) (i:Int) (v:V) (e1:x=.ref p) (e2:y=.int i) (s:SqL K H p xs) (a:atI xs i=some v) (q:Q v H):Ub K x y H Q
inductive Ua(K:Frag)(x y:V)(H:Hp)(Q:VK):Prop
 |mk (p:Addr) (xs:LUz) (i:Int) (v:V) (e1:x=.ref p) (e2:y=.int i) (s:SqT K H p xs) (a:atI xs i=some v) (q:Q v H):Ua K x y H Q
def Sd(K:Frag):R2:=λ x y H Q=>Ub K x y H Q
def Ob(K:Frag):R2:=λ x y H Q=>Ua K x y H Q
theorem Bh:IxR X (Sd X.K):=by
 intro value slice pins s σ H x y v u Q I rx ry h hs;obtain⟨p,xs,i,z,rfl,rfl,hq,he,q⟩:=h;cases rx;obtain⟨t,rfl⟩:=ry;obtain⟨its,r,pl,hz⟩:=I.list hq;obtain⟨j,h1,h2,h3,h4,h5⟩:=NF he;obtain⟨w,ew,rw'⟩:=r.get h2;have hl:=r.length;have hn:=GV;have fin:EP X pins σ Q w s:=⟨z,H,I,rw',q⟩;by_cases h0:0<=i
 .have hj:i.toNat=j:=by
   rw[seqIndex_of h0 h5]at h1;exact Option.some.inj h1
  exact item_listR pl.isList h0 (by lia) (by rw[hj];simpa using ew) fin hs
 .have hj:(i+(its.toArray.size:Int)).toNat=j:=by
   rw[seqIndex_neg (by lia) h4]at h1;rw[List.size_toArray,<-hl];exact Option.some.inj h1
  exact subscriptTail_builtinR (x:=w) pl.isList.typeIs slot_list_getitem.lookup
   (wpAny_getItem_list_neg (Q:=λ r s'=>r=w/\EP X pins σ Q r s') pl.isList (by lia) (by rw[List.size_toArray]<;>lia) (by lia) (by rw[hj];simpa using ew) ⟨rfl,fin⟩) hs
theorem Ar:IxR X (Ob X.K):=by
 intro value slice pins s σ H x y v u Q I rx ry h hs;obtain⟨p,xs,i,z,rfl,rfl,hq,he,q⟩:=h;cases rx;obtain⟨t,rfl⟩:=ry;obtain⟨its,r,pl,hz⟩:=I.tuple hq;obtain⟨j,h1,h2,h3,h4,h5⟩:=NF he;obtain⟨w,ew,rw'⟩:=r.get h2;have hl:=r.length;have hn:=GV;have fin:EP X pins σ Q w s:=⟨z,H,I,rw',q⟩;exact subscriptTail_builtinR (x:=w) pl.typeIs slot_tuple_getitem.lookup
  (getItem_tuple (j:=j) (Q:=λ r s'=>r=w/\EP X pins σ Q r s') pl (by lia) (by lia) (by rw[List.size_toArray,<-hl];exact h1) (by simpa using ew) ⟨rfl,fin⟩) hs
theorem Inv.lst{pins:PNz}{σ:St}{H:Hp}{s:Shared}{p:Addr}{xs:LUz}(I:Inv X pins σ H s)(h:H p=some (.lst xs)) :
  ∃(its:LWz)(n:Nat),Vals xs its/\s.heap.get? p=some { cls:=.type "list",data:=.seq its.toArray n }/\xs.length<=sizeLine:=by
 obtain⟨z,its,n,r,e⟩:=I.hok p _ h;exact⟨its,n,r,e,z⟩
def EG:V->Bool
 |.non=>true
 |.bl _=>true
 |.int _=>true
 |.str _=>true
 |_=>false
def eqV:V->V->Bool
 |.non,.non=>true
 |.bl a,.bl b=>a==b
 |.bl a,.int b=>(if a then 1 else 0)==b
 |.int a,.bl b=>a==(if b then 1 else 0)
 |.int a,.int b=>a==b
 |.str a,.str b=>a==b
 |_,_=>false
theorem PY{A:Around}{s:Shared}{y x:V}{u v:Value}(ry:RelV y u)(rx:RelV x v)(fy:EG y=true)(fx:EG x=true):SeqAt.EqAt A s u v (eqV y x):=by
 cases y with
 |non =>
  cases ry;cases x with
  |non=>cases rx;exact SeqAt.EqAt.same _
  |bl b=>cases rx;exact SeqAt.EqAt.none_bool b
  |int b=>obtain⟨t,rfl⟩:=rx;exact SeqAt.EqAt.none_int b t
  |str b=>obtain⟨t,rfl⟩:=rx;exact SeqAt.EqAt.none_str b t
  |_=>exact absurd (show false=true from fx) Bool.false_ne_true
 |bl a =>
  cases ry;cases x with
  |non=>cases rx;exact SeqAt.EqAt.bool_none a
  |bl b=>cases rx;exact SeqAt.EqAt.bool_bool a b
  |int b=>obtain⟨t,rfl⟩:=rx;exact SeqAt.EqAt.bool_int a b t
  |str b=>obtain⟨t,rfl⟩:=rx;exact SeqAt.EqAt.bool_str a b t
  |_=>exact absurd (show false=true from fx) Bool.false_ne_true
 |int a =>
  obtain⟨t',rfl⟩:=ry;cases x with
  |non=>cases rx;exact SeqAt.EqAt.int_none a t'
  |bl b=>cases rx;exact SeqAt.EqAt.int_bool a t' b
  |int b=>obtain⟨t,rfl⟩:=rx;exact SeqAt.EqAt.int_int a t' b t
  |str b=>obtain⟨t,rfl⟩:=rx;exact SeqAt.EqAt.int_str a t' b t
  |_=>exact absurd (show false=true from fx) Bool.false_ne_true
 |str a =>
  obtain⟨t',rfl⟩:=ry;cases x with
  |non=>cases rx;exact SeqAt.EqAt.str_none a t'
  |bl b=>cases rx;exact SeqAt.EqAt.str_bool a t' b
  |int b=>obtain⟨t,rfl⟩:=rx;exact SeqAt.EqAt.str_int a t' b t
  |str b=>obtain⟨t,rfl⟩:=rx;exact SeqAt.EqAt.str_str a t' b t
  |_=>exact absurd (show false=true from fx) Bool.false_ne_true
 |_=>exact absurd (show false=true from fy) Bool.false_ne_true
theorem AD:Ck X (.builtin "len") (λ xs H Q=>∃p ys,xs=[.ref p]/\(SqL X.K H p ys\/SqT X.K H p ys)/\Q (.int ys.length) H):=by
 intro pins s σ H xs us Q I r h;obtain⟨p,ys,rfl,hq,q⟩:=h;obtain⟨u,rfl,rx⟩:=CL r;cases rx;have hn:=GV;rcases hq with hq|hq
 .obtain⟨its,r',pl,hz⟩:=I.list hq;have hlen:=r'.length;exact Calls.call_len_list pl.isList (by simp only[List.size_toArray]<;>lia) ⟨.int ys.length,H,I.tok _,⟨s.toks+1,by rw[List.size_toArray,hlen]⟩,q⟩
 .obtain⟨its,r',pl,hz⟩:=I.tuple hq;have hlen:=r'.length;exact len_tuple pl (by simp only[List.size_toArray]<;>lia) ⟨.int ys.length,H,I.tok _,⟨s.toks+1,by rw[List.size_toArray,hlen]⟩,q⟩
theorem K4:Ck X (.builtin "len") (λ xs H Q=>∃z,xs=[.str z]/\z.length<=sizeLine/\Q (.int z.length) H):=by
 intro pins s σ H xs us Q I r h;obtain⟨z,rfl,hz,q⟩:=h;obtain⟨u,rfl,t,rfl⟩:=CL r;have hn:=GV;exact len_str (by lia) ⟨.int z.length,H,I.tok _,⟨_,rfl⟩,q⟩
theorem EL:Ck X (.type "list") (λ xs H Q=>∃p ys,xs=[.ref p]/\(SqL X.K H p ys\/SqT X.K H p ys)/\∀l,H l=none->Q (.ref l) (upd H l (.lst ys))):=by
 intro pins s σ H xs us Q I r h;obtain⟨p,ys,rfl,hq,q⟩:=h;obtain⟨u,rfl,rx⟩:=CL r;cases rx;have fin:∀(its:LWz),Vals ys its->ys.length<=sizeLine->∀(h':Heap)(c':Nat),(∀b o',s.heap.get? b=some o'->h'.get? b=some o') ->
   h'.get? s.heap.objs.size=some { cls:=.type "list",dict:=none,data:=.seq its.toArray c',slots:=#[] }->EP X pins σ Q (.ref s.heap.objs.size) { s with heap:=h' }:=λ its r' hz h' c' kp e =>
  ⟨.ref s.heap.objs.size,_,I.laid (t':=s.toks) kp (Nat.le_refl _) (show ObjOk X.prog X.w _ h' _ (.lst ys) from ⟨hz,its,c',r',e⟩),rfl,q _ (I.hok.fresh (Nat.le_refl _))⟩
 rcases hq with hq|hq
 .obtain⟨its,r',pl,hz⟩:=I.list hq;have hlen:=r'.length;obtain⟨o,ho,hc,n,hd⟩:=pl.isList;exact call_list_seq p (.inl rfl) ho hc hd (λ h' c' kp e=>fin its r' hz h' c' kp e) (by simp only[List.size_toArray]<;>lia)
 .obtain⟨its,r',pl,hz⟩:=I.tuple hq;have hlen:=r'.length;obtain⟨o,ho,hc,n,hd⟩:=pl;exact call_list_seq p (.inr rfl) ho hc hd (λ h' c' kp e=>fin its r' hz h' c' kp e) (by simp only[List.size_toArray]<;>lia)
theorem Iz:Ck X (.type "tuple") (λ xs H Q=>∃p ys,xs=[.ref p]/\((SqL X.K H p ys/\∀l,H l=none->Q (.ref l) (upd H l (.tup ys)))\/(SqT X.K H p ys/\Q (.ref p) H))):=by
 intro pins s σ H xs us Q I r h;obtain⟨p,ys,rfl,h⟩:=h;obtain⟨u,rfl,rx⟩:=CL r;cases rx;rcases h with ⟨hq,q⟩|⟨hq,q⟩
 .obtain⟨its,r',pl,hz⟩:=I.list hq;have hlen:=r'.length;refine call_tuple_list pl.isList (λ h' kp=>?_) (by simp only[List.size_toArray]<;>lia);have I1:Inv X pins σ H { s with heap:=h' }:=I.kept (t':=s.toks) kp;have I2:Inv X pins σ (upd H h'.objs.size (.tup ys)) { s with heap:=h'.push { cls:=.type "tuple",data:=.seq its.toArray } } :=
   I1.laid (t':=s.toks) (λ b o e=>Heap.get?_push_of_some _ e) (Nat.le_refl _) (show ObjOk X.prog X.w _ _ _ (.tup ys) from ⟨hz,its,r',IsTup.new _ _⟩)
  exact⟨.ref h'.objs.size,_,I2,rfl,q _ (I1.hok.fresh (Nat.le_refl _))⟩
 .obtain⟨its,r',pl,hz⟩:=I.tuple hq;exact call_tuple_same pl ⟨.ref p,H,I,rfl,q⟩
def tyV(K:Frag)(T:String)(x:V)(H:Hp):Prop:=match x with
 |.str _=>T="str"
 |.int _=>T="int"
 |.ref p=>(T="list"/\∃xs,SqL K H p xs)\/(T="tuple"/\∃o,K.lookup p=some o/\o.cls=.type "tuple"/\o.dict=none) \/
   (T="dict"/\((∃kvs,H p=some (.dK kvs))\/∃kvs,H p=some (.dT kvs)))\/(T="set"/\∃S n,H p=some (.set S n))
 |_=>False
theorem OL{pins:PNz}{σ:St}{H:Hp}{s:Shared}{T:String}{x:V}{v:Value}(I:Inv X pins σ H s)(r:RelV x v)(ty:tyV X.K T x H) :
  s.TypeIs v T/\∀a,v=.ref a->∃ob,s.heap.get? a=some ob/\ob.dict=none:=by
 cases x with
 |str z =>
  obtain⟨t,rfl⟩:=r;cases(show T="str" from ty);exact⟨typeIs_str s z t,λ_ e=>nomatch e⟩
 |int i =>
  obtain⟨t,rfl⟩:=r;cases(show T="int" from ty);exact⟨typeIs_int s i t,λ_ e=>nomatch e⟩
 |ref p =>
  cases r;rcases ty with ⟨rfl,xs,hq⟩|⟨rfl,o,hk,hc,hd⟩|⟨rfl,hk⟩|⟨rfl,S,n,hk⟩
  .obtain⟨its,_,pl,_⟩:=I.list hq;refine⟨pl.isList.typeIs,λ a e=>?_⟩;cases e;obtain⟨o,n,e,c,hd,_⟩:=pl;exact⟨o,e,hd⟩
  .refine⟨⟨o,I.kIn p o hk,hc⟩,λ a e=>?_⟩;cases e;exact⟨o,I.kIn _ o hk,hd⟩
  .have z:∃o,s.heap.get? p=some o/\o.ExactDict:=by
    rcases hk with ⟨kvs,hk⟩|⟨kvs,hk⟩
    .obtain⟨_,_,_,_,o,_,_,e,ex,_⟩:=I.hok p _ hk;exact⟨o,e,ex⟩
    .obtain⟨_,_,_,_,o,_,_,e,ex,_⟩:=I.hok p _ hk;exact⟨o,e,ex⟩
   obtain⟨o,e,ex⟩:=z;refine⟨⟨o,e,ex.1⟩,λ a e2=>?_⟩;cases e2;exact⟨o,e,ex.2.1⟩
  .obtain⟨o,_,_,_,e,ex,_⟩:=I.hok p _ hk;refine⟨⟨o,e,ex.1⟩,λ a e2=>?_⟩;cases e2;exact⟨o,e,ex.2.1⟩
 |_=>exact False.elim ty
def Uo(K:Frag)(T:String)(r:V->LUz->Hp->VK->Prop)(to:TE):TE:=λ σ H Q=>to σ H λ x H1=>tyV K T x H1/\r x [] H1 Q
def tBM(K:Frag)(T:String)(r:V->LUz->Hp->VK->Prop)(to:TE)(t:TA):TE:=λ σ H Q=>to σ H λ x H1=>tyV K T x H1/\t σ H1 λ xs H2=>r x xs H2 Q
variable{o e:Expr}{es:List Expr}{to:TE}{t:TA}{name:Str}{apos cpos:Pos}{T id:String}{r:V->LUz->Hp->VK->Prop}
theorem Fh(pa:PlainAttrs T)(slot:Slot T name id)(hty:typeOf (.builtin id)=pure (.type "method_descriptor"))(hm:MtR X id r)(ho:PE X o to)
  (hbase:attributeBase o name X.env (eval o X.env)=eval o X.env:=by rfl) (hline:(apos.endLine==cpos.line)=true:=by rfl):PE X (.Call (.Attribute o name apos) [] [] cpos) (Uo X.K T r to):=by
 intro pins s σ H Q I h;refine wpAny_Call_method0_late hbase hline (thn (ho pins s σ H _ I h) λ v s1 hz_=>?_);obtain⟨x,H1,I1,r1,ty,q1⟩:=hz_;obtain⟨h1,h2⟩:=OL I1 r1 ty;exact⟨T,id,pa,slot,hty,h1,h2,Calls.callWith_builtin rfl (PySem.evalArgs_none (hm pins s1 σ H1 x [] v [] Q I1 r1 .nil q1))⟩
theorem Cz(pa:PlainAttrs T)(slot:Slot T name id)(hty:typeOf (.builtin id)=pure (.type "method_descriptor"))(hm:MtR X id r)(ho:PE X o to)(ha:PA X (e::es) t)
  (hbase:attributeBase o name X.env (eval o X.env)=eval o X.env:=by rfl)
  (hfew:((backTo cpos (starEach (e::es) X.env)).all (λ x=>!x.1)&&(backToKw cpos (keywordEach [] X.env)).all (λ x=>x.1.isSome)
  &&decide ((e::es).length+([]:List Keyword).length+(if ([]:List Keyword).isEmpty then 0 else 1)<30))=true:=by rfl)
  (hline:(apos.endLine==cpos.line)=true:=by rfl) (hs:starEach (e::es) X.env=(false,eval e X.env)::starEach es X.env:=by rfl) (hplain:(backTo cpos (starEach es X.env)).any (·.1)=false:=by rfl) :
  PE X (.Call (.Attribute o name apos) (e::es) [] cpos) (tBM X.K T r to t):=by
 intro pins s σ H Q I h;refine wpAny_Call_method_late hbase hfew hline rfl (thn (ho pins s σ H _ I h) λ v s1 hz_=>?_);obtain⟨x,H1,I1,r1,ty,q1⟩:=hz_;obtain⟨h1,h2⟩:=OL I1 r1 ty;refine⟨T,id,pa,slot,hty,h1,h2,?_⟩;have hA:=ha cpos pins s1 σ H1 _ I1 q1;rw[hs]at hA |-;refine Calls.callWith_builtin (by show(false||(backTo cpos (starEach es X.env)).any (·.1))=false;rw[hplain]<;>rfl) (Calls.evalArgs_plain ?_);exact thn hA λ us s2 ⟨vs,H2,I2,r2,q2⟩=>hm pins s2 σ H2 x vs v us Q I2 r1 r2 q2
/- xs.append(e),list.index on a module's tuple .. are MtR facts of 06m -/
end
def MtM(X:Cx)(id:String)(r:V->LUz->Hp->VK->Prop):Prop :=
 ∀(pins:PNz)(s:Shared)(σ:St)(H:Hp)(x:V)(xs:LUz)(v:Value)(us:LWz)(Q:VK),Inv X pins σ H s->RelV x v->Vals xs us->r x xs H Q ->
  wpAny (model X.prog X.w) X.A (call (.builtin id) (v::us)) (EP X pins σ Q) X.xe s
theorem Vals.one:∀{x:V}{us:LWz},Vals [x] us->∃u,us=[u]/\RelV x u
 |_,_,.cons r .nil=>⟨_,rfl,r⟩
theorem Vals.zero:∀{us:LWz},Vals [] us->us=[]
 |_,.nil=>rfl
theorem Vals.dropLast{xs:LUz}{us:LWz}(h:Vals xs us):Vals xs.dropLast us.dropLast:=by
 induction h with
 |nil=>exact .nil
 |cons r t ih =>
  cases t with
  |nil=>exact .nil
  |cons q t'=>exact .cons r ih
theorem Vals.rep{xs:LUz}{us:LWz}(h:Vals xs us):∀k:Nat,Vals (List.replicate k xs).flatten (List.replicate k us).flatten
 |0=>.nil
 |k+1=>by
  rw[List.replicate_succ,List.replicate_succ,List.flatten_cons,List.flatten_cons];exact Vals.append h (Vals.rep h k)
theorem ML{α:Type}(l:List α):l.eraseIdx (l.length-1)=l.dropLast:=by
 induction l with
 |nil=>rfl
 |cons a r ih =>
  cases r with
  |nil=>rfl
  |cons b r =>
   have e:(a::b::r).length-1=((b::r).length-1)+1:=by
    have h1:(a::b::r).length=r.length+2:=rfl;have h2:(b::r).length=r.length+1:=rfl;lia
   rw[e,List.eraseIdx_cons_succ,ih]
   all_goals rfl
theorem Jx(its:LWz):∀(k:Nat)(acc:LWz),
  List.foldl (λ x1 x2=>x1++x2) acc.toArray (List.replicate k its.toArray)=(acc++(List.replicate k its).flatten).toArray
 |0,acc=>by simp
 |k+1,acc=>by
  have e:acc.toArray++its.toArray=(acc++its).toArray:=by simp
  have e2:(acc++its)++(List.replicate k its).flatten=acc++(List.replicate (k+1) its).flatten:=by
   rw[List.replicate_succ,List.flatten_cons,List.append_assoc]
  rw[<-e2,<-Jx its k (acc++its),<-e,List.replicate_succ,List.foldl_cons]
section
variable{X:Cx}{pins:PNz}{σ:St}{H:Hp}{s:Shared}{l b:Addr}{xs ys zs:LUz}
theorem Inv.lset{its its':LWz}{n:Nat}{f:Array Value->Array Value}{t':Nat}(I:Inv X pins σ H s)(hH:H l=some (.lst xs))
  (e:s.heap.get? l=some { cls:=.type "list",data:=.seq its.toArray n }) (hf:f its.toArray=its'.toArray) (hv:Vals ys its') (hz:ys.length<=sizeLine) :
  Inv X pins σ (upd H l (.lst ys)) { s with heap:=s.heap.update l (Obj.mapSeq f),toks:=t' }:=by
 have q:=PySem.IsL.update e f;rw[hf]at q;refine I.write (x:=l) (e:=l) (by rw[hH];exact trivial) (.inl rfl) (λ b' u hb hu=>(Heap.get?_update_other s.heap (Obj.mapSeq f) (Ne.symm hb)).trans hu) ⟨_,q⟩ ?_;exact⟨hz,its',_,hv,q⟩
theorem Inv.lnew{its:LWz}{t':Nat}(I:Inv X pins σ H s)(hv:Vals ys its)(hz:ys.length<=sizeLine) :
  Inv X pins σ (upd H s.heap.objs.size (.lst ys)) { s with heap:=s.heap.push { cls:=.type "list",data:=.seq its.toArray },toks:=t' } :=
 I.laid (λ_ _ q=>Heap.get?_push_of_some _ q) (Nat.le_refl _) ⟨hz,its,0,hv,Heap.get?_push_size _ rfl⟩
theorem Inv.fresh(I:Inv X pins σ H s):H s.heap.objs.size=none:=I.hok.fresh (Nat.le_refl _)
theorem Inv.lstM(I:Inv X pins σ H s)(hH:H l=some (.lst xs)):xs.length<=sizeLine/\∃(its:LWz)(n:Nat),Vals xs its/\xs.length=its.length/\s.heap.get? l=some { cls:=.type "list",data:=.seq its.toArray n }:=by
 obtain⟨z,its,n,r,e⟩:=I.hok l _ hH;exact⟨z,its,n,r,r.length,e⟩
theorem Lu{n:Nat}(h:n<=sizeLine):Builtin.List.listTooLong n=false:=by
 unfold Builtin.List.listTooLong;exact decide_eq_false (by lia)
end
section
variable{X:Cx}
def QL:V->LUz->Hp->VK->Prop:=λ x vs H Q=>∃l xs y,x=.ref l/\vs=[y]/\H l=some (.lst xs)/\xs.length<sizeLine/\Q .non (upd H l (.lst (xs++[y])))
theorem Bl:MtM X "list.append" QL:=by
 intro pins s σ H x vs v us Q I rx rv h;obtain⟨l,xs,y,rfl,rfl,hH,hz,q⟩:=h;cases rx;obtain⟨u,rfl,ru⟩:=rv.one;obtain⟨z,its,n,r,hl,e⟩:=I.lstM hH;refine call_meets F.slot_list_append ⟨_,e,rfl⟩ F.entry_list_append (F.args_list_append_2 _ _) (PySem.list_append l its.toArray n u (by rw[List.size_toArray];lia)) ⟨e,?_⟩;refine⟨.non,_,I.lset (its':=its++[u]) hH e (by simp) (r.append (.cons ru .nil)) ?_,rfl,q⟩;rw[List.length_append,List.length_singleton];lia
def QK:V->LUz->Hp->VK->Prop:=λ x vs H Q=>∃l b xs zs,x=.ref l/\vs=[.ref b]/\H l=some (.lst xs)/\H b=some (.lst zs)/\xs.length+zs.length<=sizeLine/\Q .non (upd H l (.lst (xs++zs)))
theorem Om:MtM X "list.extend" QK:=by
 intro pins s σ H x vs v us Q I rx rv h;obtain⟨l,b,xs,zs,rfl,rfl,hH,hB,hz,q⟩:=h;cases rx;obtain⟨u,rfl,ru⟩:=rv.one;cases ru;obtain⟨z,its,n,r,hl,e⟩:=I.lstM hH;obtain⟨z2,its2,n2,r2,hl2,e2⟩:=I.lstM hB;have hsz:its.toArray.size+its2.toArray.size<=sizeLine:=by rw[List.size_toArray,List.size_toArray];lia
 have hlong:¬(!its.toArray.isEmpty&&Builtin.List.listTooLong (its.toArray.size+its2.toArray.size))=true:=by
  rw[Lu hsz,Bool.and_false];exact Bool.false_ne_true
 refine call_meets F.slot_list_extend ⟨_,e,rfl⟩ F.entry_list_extend (F.args_list_extend_2 _ _)
  (AutoSeq1.list_extend_list_list_0 l its.toArray n b its2.toArray n2 hlong (by rw[List.size_toArray];lia) (by lia)) ⟨e,e2,?_⟩
 refine⟨.non,_,I.lset (its':=its++its2) hH e (by simp) (r.append r2) ?_,rfl,q⟩;rw[List.length_append];lia
def Ux:V->LUz->Hp->VK->Prop:=λ x vs H Q=>∃l xs y,x=.ref l/\vs=[]/\H l=some (.lst xs)/\xs[xs.length-1]?=some y/\Q y (upd H l (.lst xs.dropLast))
theorem Fm:MtM X "list.pop" Ux:=by
 intro pins s σ H x vs v us Q I rx rv h;obtain⟨l,xs,y,rfl,rfl,hH,hy,q⟩:=h;cases rx;have hus:=rv.zero;subst hus;obtain⟨z,its,n,r,hl,e⟩:=I.lstM hH;obtain⟨u,hu,ru⟩:=r.get hy;have hy':its.toArray[its.toArray.size-1]?=some u:=by
  show its.toArray[its.length-1]?=some u;rw[<-Array.getElem?_toList,<-hl];exact hu
 refine call_meets F.slot_list_pop ⟨_,e,rfl⟩ F.entry_list_pop (F.args_list_pop_1 _) (MeetsSeq.list_pop_last l its.toArray n u hy' (by rw[List.size_toArray];lia)) ⟨e,?_⟩;refine⟨y,_,I.lset (its':=its.dropLast) hH e ?_ r.dropLast ?_,ru,q⟩
 .show its.toArray.eraseIdxIfInBounds (its.toArray.size-1)=its.dropLast.toArray;rw[List.size_toArray,List.eraseIdxIfInBounds_toArray,ML]
 .rw[List.length_dropLast];lia
inductive Ud(x y:V)(H:Hp)(Q:VK):Prop
 |mk (l b:Addr) (xs zs:LUz) (e1:x=.ref l) (e2:y=.ref b) (h1:H l=some (.lst xs)) (h2:H b=some (.lst zs)) (n:xs.length+zs.length<=sizeLine) (q:∀p,H p=none->Q (.ref p) (upd H p (.lst (xs++zs)))):Ud x y H Q
def Uy:R2:=λ x y H Q=>Ud x y H Q
theorem Mu:OpR X (binaryOp .Add) Uy:=by
 intro pins s σ H x y v u Q I rx ry h;obtain⟨l,b,xs,zs,rfl,rfl,hH,hB,hz,q⟩:=h;cases rx;cases ry;obtain⟨z,its,n,r,hl,e⟩:=I.lstM hH;obtain⟨z2,its2,n2,r2,hl2,e2⟩:=I.lstM hB;refine PySem.P.add_list e e2 ?_ (by rw[List.size_toArray,List.size_toArray];lia);have ea:its.toArray++its2.toArray=(its++its2).toArray:=by simp
 rw[ea];exact⟨.ref _,_,I.lnew (t':=s.toks) (r.append r2) (by rw[List.length_append];lia),rfl,q _ I.fresh⟩
def Uw:R2:=λ x y H Q=>∃l k xs,x=.ref l/\y=.int k/\H l=some (.lst xs)/\-(2^63)<=k/\k<2^63/\xs.length*k.toNat<=sizeLine /\
 ∀p,H p=none->Q (.ref p) (upd H p (.lst (List.replicate k.toNat xs).flatten))
theorem Kn{α:Type}(xs:List α)(k:Nat):(List.replicate k xs).flatten.length=k*xs.length:=by
 induction k with
 |zero=>simp
 |succ k ih=>rw[List.replicate_succ,List.flatten_cons,List.length_append,ih,Nat.succ_mul,Nat.add_comm]
theorem P0:OpR X (binaryOp .Mult) Uw:=by
 intro pins s σ H x y v u Q I rx ry h;obtain⟨l,k,xs,rfl,rfl,hH,h1,h2,hz,q⟩:=h;cases rx;obtain⟨t,rfl⟩:=ry;obtain⟨z,its,n,r,hl,e⟩:=I.lstM hH;have hlen:its.toArray.size*k.toNat<=sizeLine:=by rw[List.size_toArray,<-hl];exact hz
 have hcap:¬its.toArray.size*k.toNat>(2^63-1) / 8:=by
  have:(sizeLine:Nat)<=(2^63-1) / 8:=by decide
  lia
 have hfit:¬(!Builtin.List.listFitsIndex k)=true:=by
  rw[fitsIndex_both h1 h2];exact Bool.false_ne_true
 have hlong:¬Builtin.List.listTooLong (its.toArray.size*k.toNat)=true:=by
  rw[Lu hlen];exact Bool.false_ne_true
 have hnew:List.foldl (λ x1 x2=>x1++x2) #[] (List.replicate (if its.toArray.isEmpty=true then 0 else k.toNat) its.toArray)=(List.replicate k.toNat its).flatten.toArray:=by
  have f0:∀m:Nat,List.foldl (λ x1 x2=>x1++x2) #[] (List.replicate m its.toArray)=(List.replicate m its).flatten.toArray:=λ m=>by
   have:=Jx its m [];rw[List.nil_append]at this;exact this
  rw[f0];cases its with
  |nil=>simp
  |cons a r'=>rw[if_neg (by simp)]
 refine wpAny_binaryOp_repeat_ref (T:="list") (U:="int") (by decide) ⟨_,e,rfl⟩ (λ s'=>typeIs_int s' k t) noFill_list_mul F.fills_int_mul F.slot_int_rmul repeat_list F.slot_int_index.lookup
  (call_meets F.slot_int_rmul (typeIs_int s k t) F.entry_int_rmul (F.args_int_rmul_2 _ _) (int___rmul___int_list k t l its.toArray n)
   ⟨e,rfl,⟨_,e,rfl⟩,call_meets F.slot_list_mul ⟨_,e,rfl⟩ F.entry_list_mul (F.args_list_mul_2 _ _) (AutoListH.list___mul___list_int_3 l its.toArray n k t hfit hcap hlong) ⟨e,?_⟩⟩)
 rw[hnew];exact⟨.ref _,_,I.lnew (t':=s.toks) (r.rep k.toNat) (by rw[Kn,Nat.mul_comm];exact hz),rfl,q _ I.fresh⟩
end
end L2
namespace Att
open PySem.W
open PySem PySem.Calls PyProof.Rows
theorem FN{P:Params}{h:Heap}:∀(ns:List Int)(vs:LWz),WellAll P h vs (ns.map WData.int)->IntsAre vs ns:=by
 intro ns
 induction ns with
 |nil =>
  intro vs w;rw[List.map_nil]at w;cases w;exact .nil
 |cons n ns ih =>
  intro vs w;rw[List.map_cons]at w;cases w with
  |cons a b =>
   cases a;exact .cons _ _ (ih _ b)
theorem NZ{l:OpenLaw}{n:Nat}(hn:l.most=some n){P:Params}{h:Heap}{args:List WData}{vals:LWz}
  (hpre:l.row.toRowW.claim.pre args=true) (hwl:WellAll P h vals args) :
  ∃a vs ns,vals=[Value.ref a]/\args=[WData.list (ns.map WData.int)]/\h.get? a=some { cls:=.type "list",data:=.seq vs.toArray }/\IntsAre vs ns/\ns.length<=n:=by
 have hsh:WShape.hasAll [] args [.list .int]=true:=(pre_splitW hpre).1;have hc:l.pre.holds [] { args:=args }=true:=(pre_splitW hpre).2;obtain⟨d,r,rfl,h1,h2⟩:=hasAllW_cons hsh;obtain rfl:=hasAllW_nil h2;obtain⟨xs,rfl,h3⟩:=hasW_list h1;obtain⟨ns,rfl⟩:=items_int h3;have hlen:ns.length<=n:=by
  unfold OpenLaw.pre at hc;have h4:(WTm.not (.lt (.lit (.int (n:Int))) (.len (.arg 0)))).holds [] { args:=[.list (ns.map .int)] }=true:=by
   have h4:=(holds_andW hc).1;rw[hn]at h4;exact h4
  have h5:=condW_of h4 (w_not (w_lt w_lit (w_len_list (w_arg rfl))));rw[List.length_map]at h5;refine Nat.le_of_not_lt λ q=>?_;have q':(n:Int)<((ns.length:Nat):Int):=by lia
  first
   | (rw[decide_eq_true q']at h5;exact absurd h5 (by decide))
   | (simp at h5;lia)
 cases hwl with
 |cons w1 w2 =>
  cases w2;cases w1 with
  |list ho hall=>exact⟨_,_,ns,rfl,rfl,ho,FN ns _ hall,hlen⟩
theorem Oc(l:OpenLaw)(args:List WData):l.row.toRowW.claim.post args (.bool true) args=true :=
 postW_of (r:=l.row.toRowW) (X:=(true==true))
  (show WShape.has [] (.bool true) .bool=true by first|rfl|decide|simp[WShape.has,WShape.arms,WShape.armsAll])
  (show(WTm.eq .res (.lit (.bool true))).value [] { args:=args,res:=some (.bool true),after:=args }=some (.bool (true==true)) from w_eq_bool (w_res rfl) w_lit) rfl
theorem attach_call{l:OpenLaw}{n:Nat}{q:Program}{loose:LSz}{XP:(MGz)->Heap->Prop}{YP:World->Heap->Prop}{d:DefRec}
  (hn:l.most=some n) (hdf:d.params.defaults=[])
  (call:∀(w:World)(s₀ s₁:Shared)(mg mb:MGz)(fa:Addr)(o:Obj)(pm cd doc:Value)(a:Addr)(vs:LWz)(ns:List Int),
   Ground q loose [] XP w s₀ mg mb s₁.heap->YP w s₁.heap ->
   s₁.heap.get? fa=some o->o.data=.func (docDef d.name d.params d.body d.scope pm cd doc)->s₁.heap.CodeRec cd d.name->mg d.name=some (.ref fa) ->
   s₁.heap.get? a=some { cls:=.type "list",data:=.seq vs.toArray }->IntsAre vs ns->ns.length<=n->s₁.gens=#[] ->
   codeAny (model l.prog w) callerA (.call (.ref fa) ⟨[.ref a],[]⟩) (λ r s'=>r=.ok (.ret (.bool true))/\OldK s₁.heap s'.heap/\s'.os=s₁.os/\AllBare s'.gens) s₁) :
  WalkO q loose XP YP l.row.toRowW d [] (λ f vs=>PySem.call f vs):=by
 intro w s₀ s₁ mg mb G Y fa o pm cd doc dV kV ho hd hcd hD hmg hg args vals as hpre hlay hrd hwl hlo;obtain rfl:dV=.none:=Dflts.none hD hdf;obtain rfl:kV=.none:=Dflts.noKw hD;obtain⟨a,vs,ns,rfl,rfl,hobj,hints,hlen⟩:=NZ hn hpre hwl;refine enter_call (codeAny_mono (call w s₀ s₁ mg mb fa o pm cd doc a vs ns G Y ho (fd_plain hd) hcd hmg hobj hints hlen hg) λ r s' hq=>?_);obtain⟨rfl,h2,h3,h4⟩:=hq;exact⟨.inl ⟨.bool true,.bool true,[],rfl,λ_=>rfl,.bool true,Oc l _,λ_=>⟨List.Pairwise.nil,λ_ hm=>(nomatch hm)⟩⟩,h2,h3,h4⟩
end Att
namespace L2
open PySem.W
open PySem PySem.Spec PyProof.Rows
theorem IT:∀{vs:LWz}{ns:List Int},IntsAre vs ns->Vals (ns.map V.int) vs
 |_,_,.nil=>.nil
 |_,_,.cons n t h=>.cons ⟨t,rfl⟩ (IT h)
end L2
/- THE LAST THEOREM (shape;LID,My.* are yours):
  My.Adr: a structure of the addresses that your layer names (classes,functions);My.Txt K t: a structure (Prop) of the equations over K;
  My.txt_mk:{K} {implicit addresses ..} (e1:nsIn K mainGlobals "law"=some (some (.ref f))) (e2:K.lookup f=some ⟨oc,od,.func (fnOf "law" "law" params body scope dV kV doc pm an cdv ct),sl⟩) (e3:codeIn K cdv "law"=true) ..:∃t,My.Txt K t
set_option maxRecDepth 100000 in
set_option maxHeartbeats 0 in
theorem PySem.Challenge.cw_LID_holds:PySem.Challenge.rw_LID.Holds:=by
 w_on;o_law;k_head;(case hw=>w_witness2)
 k_fill
 refine L2.walk_of (l:=PySem.Challenge.rw_LID) (n:=63) (k:=40) (x:="script") (CX:=λ w=>..) (sp:=λ_=>My.sp_law) rfl (by decide) rfl ⟨rfl,by decide,by decide⟩ (λ w h Y=>kIn_of Y) ?F ?S ?C
 case F =>
  intro w mg fa h KX G hmg;have T:∃t,My.Txt (L2.KOf KX) t:=by
   dsimp only[L2.KOf]                          -- K must stand as «<heap const> w.params» for k_is;refine' My.txt_mk ?e1 ?e2 ?e3 ..
   (case e1=>k_is)                    -- in the order: a name -> its address -> its object -> its parts
   (case e2=>k_is)
   ..
  obtain⟨t,T⟩:=T;have e0:=hmg.symm.trans (mg_of KX G T.law);cases e0                                       -- fa is the law's own address;exact⟨_,λ s u=>.of_eq rfl,λ base kb nb=>My.law_fn T kb nb⟩     -- if «.of_eq rfl» comes too early: refine'⟨_,?b,λ base kb nb=>My.law_fn T kb nb⟩;exact λ s u=>.of_eq rfl
 case S=>exact λ w H a ns hl hO hS=>..
 case C=>exact ..
(the tactic k_is has no namespace: write k_is) -/
namespace L2
open PySem.W
open PySem PySem.Spec PyProof.Rows
def A8(s:Stmt)(j:Nat):Stmt:=match s with
 |.ClassDef _ _ _ body _ _ _ _ _ _ _=>body.getD j (.Pass ⟨0,0,0,0⟩)
 |_=>.Pass ⟨0,0,0,0⟩
def By(s:Stmt):Arguments:=match s with
 |.FunctionDef _ a _ _ _ _ _ _ _ _=>a
 |_=>{ posonlyargs:=[],args:=[],vararg:=none,kwonlyargs:=[],kw_defaults:=[],kwarg:=none,defaults:=[] }
def AB(s:Stmt):List Stmt:=match s with
 |.FunctionDef _ _ b _ _ _ _ _ _ _=>b
 |_=>[]
def Ah(s:Stmt):Scope:=match s with
 |.FunctionDef _ _ _ _ _ _ sc _ _ _=>sc
 |_=>{ kind:=.function,names:=[],isGenerator:=false,isCoroutine:=false }
abbrev CX0:CXT:=λ_ _ _ _ _ _=>False
abbrev E0:XK:=λ_ _ _=>False
theorem GC{X:Cx}:Ci CX0 X E0:=λ_ _ _ _ _ _ _ h=>h.elim
structure Fun(K:Frag)(x qual:Str)(st:Stmt)(f:Addr)(fd:FuncData):Prop where
 ex:∃(oc:Value)(od:Option Addr)(kV doc pm:Value)(an:Option Addr)(cdv ct:Value)(osl:AOz),
  fd=fnOf x qual (By st) (AB st) (Ah st) .none kV doc pm an cdv ct/\K.lookup f=some ⟨oc,od,.func fd,osl⟩/\codeIn K cdv qual=true
 kp:keepIn K (.ref f)=true
section
variable{P:Program}{w:World}{K:Frag}{mg:MGz}{base:Heap}
theorem Fun.ok{x qual:Str}{st:Stmt}{f:Addr}{fd:FuncData}{N ps:LSz}{k:Nat}{sp:Sp}(F:Fun K x qual st f fd)(S:Al N ps (Ah st))(len:∀vs H Q E,sp vs H Q E->vs.length=ps.length)
  (hbody:∀(cdv:Value)(A:Around)(outer:List Env)(s:Shared)(H:Hp)(vs:LUz)(Q:VK)(E:XK),Room k (A.deeper (envOfC qual (Ah st) s.heap.objs.size f cdv))->sp vs H Q E ->
   ∃t,PSs (Bv CX0 P w K mg base N qual (Ah st) f cdv A outer s H E).nox (AB st) t/\t { nx:=λ_ H'=>Q .non H',rt:=Q } (start N vs) H):A9 P w K mg base CX0 (k+1) f fd ps sp:=by
 obtain⟨oc,od,kV,doc,pm,an,cdv,ct,osl,rfl,lk,hcd⟩:=F.ex;refine N7 lk hcd S len λ A outer s H vs Q E hr hsp=>?_;obtain⟨t,h,q⟩:=hbody cdv A outer s H vs Q E hr hsp;exact⟨t,h.nox,q⟩
theorem Fun.binds{x qual:Str}{st:Stmt}{f:Addr}{fd:FuncData}{ps:LSz}(F:Fun K x qual st f fd)
  (h:∀(kV doc pm:Value)(an:Option Addr)(cdv ct:Value)(us:LWz),us.length=ps.length->bindArgs (fnOf x qual (By st) (AB st) (Ah st) .none kV doc pm an cdv ct) ⟨us,[]⟩=pure (ps.zip us)):Binds K fd ps []:=by
 obtain⟨oc,od,kV,doc,pm,an,cdv,ct,osl,rfl,lk,hcd⟩:=F.ex;exact .all (h kV doc pm an cdv ct)
end
theorem L8{A:Around}{k:Nat}(hr:Room k A):A.units+1<cLine:=Nat.lt_of_le_of_lt (Nat.add_le_add_left (by decide:1<=64) _) hr.units
theorem Au{n:Nat}(h:n<=1000):n<sizeLine:=Nat.lt_of_le_of_lt h (by decide)
section
variable{X:Cx}
theorem pv(i:Nat){x:Str}{pos:Pos}(hN:X.N[i]?=some x:=by rfl)(hv:Vis X.env.scope x:=by first|exact Or.inl rfl|exact Or.inr (Or.inl rfl)|exact Or.inr (Or.inr rfl))(hd:(x==("__debug__":Str))=false:=by decide)
  (hcd:(x==("__classdict__":Str))=false:=by decide):PE X (.Name x pos) (FG i):=Sg hN hv hd hcd
end
theorem MF{A B:Prop}(h:B):if false=true then A else B:=by
 rw[if_neg Bool.false_ne_true];exact h
theorem Ra{A B:Prop}(h:A):if true=true then A else B:=by
 rw[if_pos rfl];exact h
def Same(H H':Hp):Prop:=∀b o,H b=some o->H' b=some o
theorem Same.refl(H:Hp):Same H H:=λ_ _ h=>h
theorem Same.trans{H H1 H2:Hp}(a:Same H H1)(b:Same H1 H2):Same H H2:=λ c o h=>b c o (a c o h)
theorem Same.free{H H':Hp}(e:Same H H'){l:Addr}(h:H' l=Option.none):H l=Option.none:=by
 cases q:H l with
 |none=>rfl
 |some o =>
  rw[e l o q]at h;cases h
theorem Same.seq{K:Frag}{H H':Hp}{a:Addr}{xs:LUz}(e:Same H H')(h:SqL K H a xs):SqL K H' a xs:=by
 rcases h with (h|⟨o,h⟩)|h
 .exact .inl (.inl (e _ _ h))
 .exact .inl (.inr ⟨o,e _ _ h⟩)
 .exact .inr h
end L2
set_option maxHeartbeats 4000000
namespace L2
open PySem.W
open PySem PyProof.Rows
def Jo{α β:Type}(oS:Program->LSz->LSz->(Shared->Bool)->Bool->Shared->α)(ms:LSz)(p q:Program)(lo:LSz)(Xt:Shared->Bool)(Yf:Shared->β)(h0:Heap)(s:Shared):Bool×α×β :=
 ((((staticsOk ms h0 s.heap&&namesBound p s.heap)&&gensDone s)&&laidKept h0 s.heap),oS q lo ms Xt true s,Yf s)
noncomputable abbrev DG(P:Params)(os:OsState):Shared:=Shared.mk (boot_heap P) (Array.mk []) boot_drawn boot_toks os
theorem Oq{p q:Program}{lo:LSz}{Xt:Shared->Bool}{β:Type}{Yf:Shared->β}{Ya:World->β}{N m:Nat}{an:Option Value}
  (bo:∀w:World,Option.map (λ s=>(s.heap,s.gens,s.drawn,s.toks)) (fencedOpening treeTable p w N)=some (boot_heap w.params,Array.mk [],boot_drawn,boot_toks))
  (sz:∀w:World,((boot_heap w.params).isNs mainGlobals,(boot_heap w.params).objs.size,(boot_heap w.params).nsMap mainGlobals "__annotations__")=(true,m,an))
  (rn:∀(w:World)(os:OsState),Option.map (Jo openSeen (importedModules p.main.body) p q lo Xt Yf (boot_heap w.params)) (topRun treeTable p w m an N (DG w.params os) (topStub p))=some (true,openGood q lo,Ya w)) :
  LeftO p q lo Xt Yf Ya N:=by
 intro w;obtain⟨s0,e0,e1⟩:=Option.map_eq_some_iff.mp (bo w);obtain⟨hp,gs,dr,tk,os⟩:=s0;simp only[Prod.mk.injEq]at e1;obtain⟨rfl,rfl,rfl,rfl⟩:=e1;have z:=sz w;simp only[Prod.mk.injEq]at z;obtain⟨z1,z2,z3⟩:=z;obtain⟨s1,r1,r2⟩:=Option.map_eq_some_iff.mp (rn w os);unfold Jo at r2;simp only[Prod.mk.injEq]at r2;obtain⟨l1,l2,l3⟩:=r2;have tf:topFrom treeTable p w N (DG w.params os)=some s1:=by
  unfold topFrom;dsimp only;rw[z1,z2,z3];show Option.bind (topRun treeTable p w m an N (DG w.params os) (topStub p)) _=_;rw[r1];show(match (((staticsOk (importedModules p.main.body) (boot_heap w.params) s1.heap&&namesBound p s1.heap)&&gensDone s1)&&laidKept (boot_heap w.params) s1.heap) with|true=>some s1|false=>none)=_;rw[l1]
 unfold openEnds;rw[e0];show Option.map _ (topFrom treeTable p w N (DG w.params os))=_;rw[tf];exact congrArg some (Prod.ext l2 l3)
def OO:List Obj->Nat->BT->BT
 |[],_,t=>t
 |o::r,i,t=>OO r (i+1) (t.ins i o)
def Db(ok:Thread->Bool)(stp:SharedT->Thread->Option (SharedT×Thread)):Nat->SharedT->Thread->Option SharedT
 |0,_,_=>none
 |n+1,s,t=>match through t with
  |true=>some s
  |false=>match ok t with
   |false=>none
   |true=>match stp s t with
    |some (s1,t1)=>Db ok stp n s1 t1
    |none=>none
theorem Gq{tb:String->Option Builtin}{p:Program}{w:World}{m:Nat}{an:Option Value}:∀{n:Nat}{s s1:SharedT}{t:Thread},Db (stepOk m an) (stepT (denote tb) p w) n s t=some s1->topRun tb p w m an n s.abs t=some s1.abs
 |0,_,_,_,h=>by cases h
 |n+1,s,s1,t,h=>by
  rw[Db]at h;rw[topRun];cases ht:through t with
  |true=>rw[ht]at h;cases h;rfl
  |false =>
   rw[ht]at h;cases hk:stepOk m an t with
   |false=>rw[hk]at h;cases h
   |true =>
    rw[hk]at h;cases hs:stepT (denote tb) p w s t with
    |none=>rw[hs]at h;cases h
    |some r =>
     obtain⟨s2,t2⟩:=r;rw[hs]at h;rw[stepT_spec hs];exact Gq h
noncomputable def TM(P:Params):BT:=OO (boot_heap P).objs.toList 0 .nil
noncomputable def EM(P:Params)(os:OsState):SharedT:=SharedT.mk (TM P) 11 (boot_heap P).life (Array.mk []) boot_drawn boot_toks os
theorem Qi(P:Params)(os:OsState):(EM P os).abs=DG P os:=by kernel_rfl
theorem Sb{p q:Program}{lo ms:LSz}{Xt:Shared->Bool}{α β:Type}{Yf:Shared->β}{N m:Nat}{an:Option Value}{w:World}{os:OsState}{r:Bool×α×β}{oS:Program->LSz->LSz->(Shared->Bool)->Bool->Shared->α}
  (h:Option.map (λ s=>Jo oS ms p q lo Xt Yf (boot_heap w.params) (SharedT.abs s)) (Db (stepOk m an) (stepT (denote treeTable) p w) N (EM w.params os) (topStub p))=some r) :
  Option.map (Jo oS ms p q lo Xt Yf (boot_heap w.params)) (topRun treeTable p w m an N (DG w.params os) (topStub p))=some r:=by
 obtain⟨s,e,z⟩:=Option.map_eq_some_iff.mp h;have e:=Gq e;rw[Qi]at e;rw[e];exact congrArg some z
theorem T0{σ α β:Type}{r:Option σ}{f:σ->Bool}{g:σ->α}{k:σ->β}{a:α}{b:β}(h1:r.map f=some true)(h2:r.map g=some a)(h3:r.map k=some b):r.map (λ s=>(f s,g s,k s))=some (true,a,b):=by
 cases r with
 |none=>cases h1
 |some s =>
  have e1:=Option.some.inj h1;have e2:=Option.some.inj h2;have e3:=Option.some.inj h3;exact congrArg some (Prod.ext e1 (Prod.ext e2 e3))
def Tz(ms:LSz)(p:Program)(h0:Heap)(s:Shared):Bool:=(((staticsOk ms h0 s.heap&&namesBound p s.heap)&&gensDone s)&&laidKept h0 s.heap)
def TX(N m:Nat)(an:Option Value){p p':Program}{sT:(Code->Sem Fin)->Program->World->SharedT->Thread->Option (SharedT×Thread)}{dn:(String->Option Builtin)->Code->Sem Fin}{tT:String->Option Builtin}{iM:List Stmt->LSz}{oS:∀(q:Program)(lo ms:LSz)(Xt:Shared->Bool)(g0:Bool)(s:Shared),_}(h1:@stepT=sT)(h0:@denote=dn)(h2:treeTable=tT)(h3:@importedModules=iM)(h4:@openSeen=oS)(h5:p=p'):Prop:=∀(w:World)(os:OsState),Option.map (λ s=>Tz (iM p'.main.body) p' (boot_heap w.params) (SharedT.abs s)) (Db (stepOk m an) (sT (dn tT) p' w) N (EM w.params os) (topStub p'))=some true
def TW(N m:Nat)(an:Option Value)(q:Program->Program)(lo:LSz)(Xt:Program->Shared->Bool){p p':Program}{sT:(Code->Sem Fin)->Program->World->SharedT->Thread->Option (SharedT×Thread)}{dn:(String->Option Builtin)->Code->Sem Fin}{tT:String->Option Builtin}{iM:List Stmt->LSz}{oS:∀(q:Program)(lo ms:LSz)(Xt:Shared->Bool)(g0:Bool)(s:Shared),_}(h1:@stepT=sT)(h0:@denote=dn)(h2:treeTable=tT)(h3:@importedModules=iM)(h4:@openSeen=oS)(h5:p=p'):Prop:=∀(w:World)(os:OsState),Option.map (λ s=>oS (q p') lo (iM p'.main.body) (Xt p') true (SharedT.abs s)) (Db (stepOk m an) (sT (dn tT) p' w) N (EM w.params os) (topStub p'))=some (openGood (q p') lo)
def TV(N m:Nat)(an:Option Value){β:Type}(Yf:Shared->β)(Ya:World->β){p p':Program}{sT:(Code->Sem Fin)->Program->World->SharedT->Thread->Option (SharedT×Thread)}{dn:(String->Option Builtin)->Code->Sem Fin}{tT:String->Option Builtin}{iM:List Stmt->LSz}{oS:∀(q:Program)(lo ms:LSz)(Xt:Shared->Bool)(g0:Bool)(s:Shared),_}(h1:@stepT=sT)(h0:@denote=dn)(h2:treeTable=tT)(h3:@importedModules=iM)(h4:@openSeen=oS)(h5:p=p'):Prop:=∀(w:World)(os:OsState),Option.map (λ s=>Yf (SharedT.abs s)) (Db (stepOk m an) (sT (dn tT) p' w) N (EM w.params os) (topStub p'))=some (Ya w)
theorem QJ{q:Program->Program}{lo:LSz}{Xt:Program->Shared->Bool}{β:Type}{Yf:Shared->β}{Ya:World->β}{N m:Nat}{an:Option Value}{p p':Program}{sT:(Code->Sem Fin)->Program->World->SharedT->Thread->Option (SharedT×Thread)}{dn:(String->Option Builtin)->Code->Sem Fin}{tT:String->Option Builtin}{iM:List Stmt->LSz}{oS:∀(q:Program)(lo ms:LSz)(Xt:Shared->Bool)(g0:Bool)(s:Shared),_}{h1:@stepT=sT}{h0:@denote=dn}{h2:treeTable=tT}{h3:@importedModules=iM}{h4:@openSeen=oS}{h5:p=p'}
  (rA:TX N m an h1 h0 h2 h3 h4 h5) (rB:TW N m an q lo Xt h1 h0 h2 h3 h4 h5) (rC:TV N m an Yf Ya h1 h0 h2 h3 h4 h5) :
  ∀(w:World)(os:OsState),Option.map (Jo openSeen (importedModules p.main.body) p (q p) lo (Xt p) Yf (boot_heap w.params)) (topRun treeTable p w m an N (DG w.params os) (topStub p))=some (true,openGood (q p) lo,Ya w):=by
 subst h1 h0 h2 h3 h4 h5;exact λ w os=>Sb (T0 (rA w os) (rB w os) (rC w os))
open PySem.Spec
def hookT(K:Hook)(Ts:List Addr):Hook :=
 ⟨K.α×List (Option Obj),λ s=>(K.obs s,Ts.map λ T=>s.heap.get? T),λ w=>(K.val w,Ts.map λ_=>some (tabObj #[])),λ w h=>K.says w h/\∀T∈Ts,h.get? T=some (tabObj #[]),
  λ w s e=>⟨K.of w s (Prod.mk.inj e).1,λ T hT=>by
   have e2:=(Prod.mk.inj e).2;have:=List.map_eq_map_iff.mp e2 T hT;exact this⟩,λ w h h' x k=>⟨K.keeps w h h' x.1 k,λ T hT=>k _ _ (x.2 T hT)⟩⟩
end L2
namespace KH
open PySem.W
open PySem PyProof.Rows L2
noncomputable def top(i:Nat):Stmt:=PySem.Challenge.pw_glazebench_k15_whole_cut_and_told.main.body.getD i (.Pass ⟨0,0,0,0⟩)
noncomputable def kE(P:Params)(x:Str)(t:Tok)(v:Value):DictEntry:=⟨PyData.keyHash P x,.str x t,v⟩
noncomputable abbrev fo(a b:Str)(e:Stmt)(d m:Value)(c:Addr):Obj:=⟨(.type "function"),none,(.func (fnOf a b (By e) (AB e) (Ah e) d .none .none m none (.ref c) .none)),#[]⟩
noncomputable abbrev cp(a b:Str)(t u v:Tok)(l n:Int)(r:Addr)(i:Int)(p:Addr)(q x y:Value)(j k:Int)(z:Tok):Obj:=⟨(.type "code"),none,(.fields #[(.str a t),(.str b u),(.str "/claim/cut.py" v),(.int l 0),(.int n 0),(.int (0) 0),(.int (0) 0),(.int (3) 0),(.ref r),(.bool true),(.int i 0),(.ref p),.none,q,x,y,(.int j 0),(.int k 0),(.str "/claim/cut.py" z)]),#[]⟩
noncomputable abbrev co(a b:Str)(t u v:Tok)(l n:Int)(r:Addr)(i:Int)(p q x y:Addr)(j k:Int)(z:Tok):Obj:=⟨(.type "code"),none,(.fields #[(.str a t),(.str b u),(.str "/claim/cut.py" v),(.int l 0),(.int n 0),(.int (0) 0),(.int (0) 0),(.int (3) 0),(.ref r),(.bool true),(.int i 0),(.ref p),.none,(.ref q),(.ref x),(.ref y),(.int j 0),(.int k 0),(.str "/claim/cut.py" z)]),#[]⟩
noncomputable def KK:Params->Frag:=λ P=>(nat_lit 2,⟨.none,none,(.dict #[] 0),#[]⟩)::(nat_lit 3,⟨(.type "dict"),none,(.dict #[kE P "__name__" 165 (.str "law_glazebench_k15_whole_cut_and_told" 838),kE P "__doc__" 166 .none,kE P "__package__" 167 .none,kE P "__loader__" 168 (.builtin "__main__.__loader__#opaque"),kE P "__spec__" 169 .none,kE P "__annotations__" 170 (.ref 6),kE P "__builtins__" 171 (.ref 4),kE P "__file__" 173 (.str "/claim/cut.py" 172),kE P "__cached__" 174 .none,kE P "_wall" 193 (.ref 21),kE P "GlassError" 213 (.ref 31),kE P "NoSide" 238 (.ref 51),kE P "TooMany" 263 (.ref 70),kE P "NoPane" 288 (.ref 89),kE P "Overlap" 313 (.ref 108),kE P "Bare" 338 (.ref 127),kE P "NoCut" 363 (.ref 146),kE P "NoTree" 388 (.ref 165),kE P "LONGEST_SIDE" 392 (.int (12) 391),kE P "MOST_PANES" 394 (.int (52) 393),kE P "is_whole" 401 (.ref 174),kE P "is_side" 408 (.ref 181),kE P "is_rectangle" 414 (.ref 186),kE P "inside" 423 (.ref 193),kE P "squares_of" 433 (.ref 200),kE P "check_sides" 442 (.ref 207),kE P "check_panes" 452 (.ref 214),kE P "panes_by_square" 463 (.ref 221),kE P "check_covered" 472 (.ref 228),kE P "Panel" 524 (.ref 262),kE P "WHOLE" 528 (.str "whole" 527),kE P "UPRIGHT" 530 (.str "upright" 529),kE P "LEVEL" 532 (.str "level" 531),kE P "Tree" 588 (.ref 307),kE P "Whole" 613 (.ref 329),kE P "Upright" 642 (.ref 348),kE P "Level" 671 (.ref 367),kE P "kind_of" 678 (.ref 376),kE P "entry_of" 686 (.ref 383),kE P "entries_of" 696 (.ref 390),kE P "cut_from" 706 (.ref 397),kE P "tree_from" 718 (.ref 404),kE P "turned_word" 725 (.ref 411),kE P "check_cut" 735 (.ref 418),kE P "first_piece" 744 (.ref 425),kE P "other_piece" 753 (.ref 432),kE P "cut_out" 767 (.ref 439),kE P "pieces" 776 (.ref 446),kE P "panel_of" 782 (.ref 451),kE P "FIGURES" 786 (.str "0123456789" 785),kE P "MARK_FIGURES" 788 (.int (3) 787),kE P "MOST_WORDS" 790 (.int (103) 789),kE P "word_of" 798 (.ref 458),kE P "written" 804 (.ref 463),kE P "number_in" 810 (.ref 468),kE P "entry_in" 818 (.ref 475),kE P "entries_in" 830 (.ref 482),kE P "read_tree" 837 (.ref 489),kE P "_law_at" 848 (.ref 496),kE P "_law_more" 854 (.ref 501),kE P "_law_knead" 865 (.ref 508),kE P "_law_mark" 872 (.ref 515),kE P "_law_drawn" 889 (.ref 522),kE P "_law_made" 899 (.ref 529),kE P "_law_words" 907 (.ref 536),kE P "_law_filled" 925 (.ref 543),kE P "_law_side" 931 (.ref 548),kE P "_law_walked" 951 (.ref 555),kE P "law" 957 (.ref 560)] 69),#[]⟩)::(nat_lit 20,co "_wall" "_wall" 187 188 189 1 1 15 181 16 17 18 19 191 1 192)::(nat_lit 21,fo "_wall" "_wall" (top 0) .none (.str "__main__" 164) 20)::(nat_lit 30,⟨(.type "dict"),none,(.dict #[kE P "__module__" 203 (.str "glazebench.errors" 194),kE P "__firstlineno__" 207 (.int (5) 206),kE P "__static_attributes__" 208 (.ref 29),kE P "__weakref__" 210 (.ref 32),kE P "__doc__" 211 .none] 3),#[]⟩)::(nat_lit 31,⟨(.type "type"),none,(.cls { name:="GlassError",bases:=[(.type "ValueError")],mro:=[(.ref 31),(.type "ValueError"),(.type "Exception"),(.type "BaseException"),(.type "object")],ns:=30,qualname:="GlassError",hasDict:=true,slotNames:=[],subclasses:=[(.ref 51),(.ref 70),(.ref 89),(.ref 108),(.ref 127),(.ref 146),(.ref 165)],abstract:=false,collection:=none,hasDel:=false }),#[some (.ref 22),none,some (.str "GlassError" 196),some (.str "GlassError" 204),some (.builtin "ValueError.__new__"),some (.bool true)]⟩)::(nat_lit 32,⟨(.type "getset_descriptor"),none,(.fields #[(.str "__weakref__" 209),(.ref 31),(.builtin "ExceptionGroup.__weakref__"),.none]),#[]⟩)::(nat_lit 47,co "__init__" "NoSide.__init__" 226 227 228 9 2 42 181 43 44 45 46 231 9 232)::(nat_lit 48,fo "__init__" "NoSide.__init__" (A8 (top 3) 0) .none (.str "glazebench.errors" 194) 47)::(nat_lit 50,⟨(.type "dict"),none,(.dict #[kE P "__module__" 221 (.str "glazebench.errors" 194),kE P "__firstlineno__" 225 (.int (7) 224),kE P "__init__" 233 (.ref 48),kE P "__static_attributes__" 235 (.ref 49),kE P "__doc__" 236 .none] 2),#[]⟩)::(nat_lit 51,⟨(.type "type"),none,(.cls { name:="NoSide",bases:=[(.ref 31)],mro:=[(.ref 51),(.ref 31),(.type "ValueError"),(.type "Exception"),(.type "BaseException"),(.type "object")],ns:=50,qualname:="NoSide",hasDict:=true,slotNames:=[],subclasses:=[],abstract:=false,collection:=none,hasDel:=false }),#[some (.ref 35),none,some (.str "NoSide" 214),some (.str "NoSide" 222),some (.builtin "ValueError.__new__"),some (.bool true)]⟩)::(nat_lit 66,co "__init__" "TooMany.__init__" 251 252 253 13 2 61 181 62 63 64 65 256 13 257)::(nat_lit 67,fo "__init__" "TooMany.__init__" (A8 (top 4) 0) .none (.str "glazebench.errors" 194) 66)::(nat_lit 69,⟨(.type "dict"),none,(.dict #[kE P "__module__" 246 (.str "glazebench.errors" 194),kE P "__firstlineno__" 250 (.int (11) 249),kE P "__init__" 258 (.ref 67),kE P "__static_attributes__" 260 (.ref 68),kE P "__doc__" 261 .none] 2),#[]⟩)::(nat_lit 70,⟨(.type "type"),none,(.cls { name:="TooMany",bases:=[(.ref 31)],mro:=[(.ref 70),(.ref 31),(.type "ValueError"),(.type "Exception"),(.type "BaseException"),(.type "object")],ns:=69,qualname:="TooMany",hasDict:=true,slotNames:=[],subclasses:=[],abstract:=false,collection:=none,hasDel:=false }),#[some (.ref 54),none,some (.str "TooMany" 239),some (.str "TooMany" 247),some (.builtin "ValueError.__new__"),some (.bool true)]⟩)::(nat_lit 85,co "__init__" "NoPane.__init__" 276 277 278 17 2 80 181 81 82 83 84 281 17 282)::(nat_lit 86,fo "__init__" "NoPane.__init__" (A8 (top 5) 0) .none (.str "glazebench.errors" 194) 85)::(nat_lit 88,⟨(.type "dict"),none,(.dict #[kE P "__module__" 271 (.str "glazebench.errors" 194),kE P "__firstlineno__" 275 (.int (15) 274),kE P "__init__" 283 (.ref 86),kE P "__static_attributes__" 285 (.ref 87),kE P "__doc__" 286 .none] 2),#[]⟩)::(nat_lit 89,⟨(.type "type"),none,(.cls { name:="NoPane",bases:=[(.ref 31)],mro:=[(.ref 89),(.ref 31),(.type "ValueError"),(.type "Exception"),(.type "BaseException"),(.type "object")],ns:=88,qualname:="NoPane",hasDict:=true,slotNames:=[],subclasses:=[],abstract:=false,collection:=none,hasDel:=false }),#[some (.ref 73),none,some (.str "NoPane" 264),some (.str "NoPane" 272),some (.builtin "ValueError.__new__"),some (.bool true)]⟩)::(nat_lit 104,co "__init__" "Overlap.__init__" 301 302 303 21 2 99 181 100 101 102 103 306 21 307)::(nat_lit 105,fo "__init__" "Overlap.__init__" (A8 (top 6) 0) .none (.str "glazebench.errors" 194) 104)::(nat_lit 107,⟨(.type "dict"),none,(.dict #[kE P "__module__" 296 (.str "glazebench.errors" 194),kE P "__firstlineno__" 300 (.int (19) 299),kE P "__init__" 308 (.ref 105),kE P "__static_attributes__" 310 (.ref 106),kE P "__doc__" 311 .none] 2),#[]⟩)::(nat_lit 108,⟨(.type "type"),none,(.cls { name:="Overlap",bases:=[(.ref 31)],mro:=[(.ref 108),(.ref 31),(.type "ValueError"),(.type "Exception"),(.type "BaseException"),(.type "object")],ns:=107,qualname:="Overlap",hasDict:=true,slotNames:=[],subclasses:=[],abstract:=false,collection:=none,hasDel:=false }),#[some (.ref 92),none,some (.str "Overlap" 289),some (.str "Overlap" 297),some (.builtin "ValueError.__new__"),some (.bool true)]⟩)::(nat_lit 123,co "__init__" "Bare.__init__" 326 327 328 25 2 118 181 119 120 121 122 331 25 332)::(nat_lit 124,fo "__init__" "Bare.__init__" (A8 (top 7) 0) .none (.str "glazebench.errors" 194) 123)::(nat_lit 126,⟨(.type "dict"),none,(.dict #[kE P "__module__" 321 (.str "glazebench.errors" 194),kE P "__firstlineno__" 325 (.int (23) 324),kE P "__init__" 333 (.ref 124),kE P "__static_attributes__" 335 (.ref 125),kE P "__doc__" 336 .none] 2),#[]⟩)::(nat_lit 127,⟨(.type "type"),none,(.cls { name:="Bare",bases:=[(.ref 31)],mro:=[(.ref 127),(.ref 31),(.type "ValueError"),(.type "Exception"),(.type "BaseException"),(.type "object")],ns:=126,qualname:="Bare",hasDict:=true,slotNames:=[],subclasses:=[],abstract:=false,collection:=none,hasDel:=false }),#[some (.ref 111),none,some (.str "Bare" 314),some (.str "Bare" 322),some (.builtin "ValueError.__new__"),some (.bool true)]⟩)::(nat_lit 142,co "__init__" "NoCut.__init__" 351 352 353 29 2 137 181 138 139 140 141 356 29 357)::(nat_lit 143,fo "__init__" "NoCut.__init__" (A8 (top 8) 0) .none (.str "glazebench.errors" 194) 142)::(nat_lit 145,⟨(.type "dict"),none,(.dict #[kE P "__module__" 346 (.str "glazebench.errors" 194),kE P "__firstlineno__" 350 (.int (27) 349),kE P "__init__" 358 (.ref 143),kE P "__static_attributes__" 360 (.ref 144),kE P "__doc__" 361 .none] 2),#[]⟩)::(nat_lit 146,⟨(.type "type"),none,(.cls { name:="NoCut",bases:=[(.ref 31)],mro:=[(.ref 146),(.ref 31),(.type "ValueError"),(.type "Exception"),(.type "BaseException"),(.type "object")],ns:=145,qualname:="NoCut",hasDict:=true,slotNames:=[],subclasses:=[],abstract:=false,collection:=none,hasDel:=false }),#[some (.ref 130),none,some (.str "NoCut" 339),some (.str "NoCut" 347),some (.builtin "ValueError.__new__"),some (.bool true)]⟩)::(nat_lit 161,co "__init__" "NoTree.__init__" 376 377 378 33 2 156 181 157 158 159 160 381 33 382)::(nat_lit 162,fo "__init__" "NoTree.__init__" (A8 (top 9) 0) .none (.str "glazebench.errors" 194) 161)::(nat_lit 164,⟨(.type "dict"),none,(.dict #[kE P "__module__" 371 (.str "glazebench.errors" 194),kE P "__firstlineno__" 375 (.int (31) 374),kE P "__init__" 383 (.ref 162),kE P "__static_attributes__" 385 (.ref 163),kE P "__doc__" 386 .none] 2),#[]⟩)::(nat_lit 165,⟨(.type "type"),none,(.cls { name:="NoTree",bases:=[(.ref 31)],mro:=[(.ref 165),(.ref 31),(.type "ValueError"),(.type "Exception"),(.type "BaseException"),(.type "object")],ns:=164,qualname:="NoTree",hasDict:=true,slotNames:=[],subclasses:=[],abstract:=false,collection:=none,hasDel:=false }),#[some (.ref 149),none,some (.str "NoTree" 364),some (.str "NoTree" 372),some (.builtin "ValueError.__new__"),some (.bool true)]⟩)::(nat_lit 173,co "is_whole" "is_whole" 395 396 397 38 1 168 181 169 170 171 172 399 38 400)::(nat_lit 174,fo "is_whole" "is_whole" (top 13) .none (.str "glazebench.panels" 389) 173)::(nat_lit 180,co "is_side" "is_side" 402 403 404 40 1 175 181 176 177 178 179 406 40 407)::(nat_lit 181,fo "is_side" "is_side" (top 14) .none (.str "glazebench.panels" 389) 180)::(nat_lit 185,cp "is_rectangle" "is_rectangle" 409 410 411 42 1 182 181 183 .none .none (.ref 184) 412 42 413)::(nat_lit 186,fo "is_rectangle" "is_rectangle" (top 15) .none (.str "glazebench.panels" 389) 185)::(nat_lit 192,co "inside" "inside" 415 416 417 48 2 187 181 188 189 190 191 421 48 422)::(nat_lit 193,fo "inside" "inside" (top 16) .none (.str "glazebench.panels" 389) 192)::(nat_lit 199,co "squares_of" "squares_of" 424 425 426 51 1 194 181 195 196 197 198 431 51 432)::(nat_lit 200,fo "squares_of" "squares_of" (top 17) .none (.str "glazebench.panels" 389) 199)::(nat_lit 206,co "check_sides" "check_sides" 434 435 436 57 2 201 181 202 203 204 205 440 57 441)::(nat_lit 207,fo "check_sides" "check_sides" (top 18) .none (.str "glazebench.panels" 389) 206)::(nat_lit 213,co "check_panes" "check_panes" 443 444 445 61 2 208 181 209 210 211 212 450 61 451)::(nat_lit 214,fo "check_panes" "check_panes" (top 19) .none (.str "glazebench.panels" 389) 213)::(nat_lit 220,co "panes_by_square" "panes_by_square" 453 454 455 67 1 215 181 216 217 218 219 461 67 462)::(nat_lit 221,fo "panes_by_square" "panes_by_square" (top 20) .none (.str "glazebench.panels" 389) 220)::(nat_lit 227,co "check_covered" "check_covered" 464 465 466 75 2 222 181 223 224 225 226 470 75 471)::(nat_lit 228,fo "check_covered" "check_covered" (top 21) .none (.str "glazebench.panels" 389) 227)::(nat_lit 239,cp "__init__" "Panel.__init__" 485 486 487 81 4 236 181 237 .none .none (.ref 238) 488 81 489)::(nat_lit 240,fo "__init__" "Panel.__init__" (A8 (top 22) 0) .none (.str "glazebench.panels" 389) 239)::(nat_lit 246,co "panes" "Panel.panes" 491 492 493 93 1 241 181 242 243 244 245 495 93 496)::(nat_lit 247,fo "panes" "Panel.panes" (A8 (top 22) 1) .none (.str "glazebench.panels" 389) 246)::(nat_lit 253,co "pane_at" "Panel.pane_at" 498 499 500 96 3 248 181 249 250 251 252 504 96 505)::(nat_lit 254,fo "pane_at" "Panel.pane_at" (A8 (top 22) 2) .none (.str "glazebench.panels" 389) 253)::(nat_lit 258,cp "turned" "Panel.turned" 507 508 509 99 1 255 181 256 .none .none (.ref 257) 510 99 511)::(nat_lit 259,fo "turned" "Panel.turned" (A8 (top 22) 3) .none (.str "glazebench.panels" 389) 258)::(nat_lit 261,⟨(.type "dict"),none,(.dict #[kE P "__module__" 480 (.str "glazebench.panels" 389),kE P "__firstlineno__" 484 (.int (79) 483),kE P "__init__" 490 (.ref 240),kE P "panes" 497 (.ref 247),kE P "pane_at" 506 (.ref 254),kE P "turned" 512 (.ref 259),kE P "__static_attributes__" 517 (.ref 260),kE P "__dict__" 519 (.ref 263),kE P "__weakref__" 521 (.ref 264),kE P "__doc__" 522 .none] 4),#[]⟩)::(nat_lit 262,⟨(.type "type"),none,(.cls { name:="Panel",bases:=[(.type "object")],mro:=[(.ref 262),(.type "object")],ns:=261,qualname:="Panel",hasDict:=true,slotNames:=[],subclasses:=[],abstract:=false,collection:=none,hasDel:=false }),#[none,none,some (.str "Panel" 473),some (.str "Panel" 481),some (.builtin "object.__new__"),some (.bool true)]⟩)::(nat_lit 263,⟨(.type "getset_descriptor"),none,(.fields #[(.str "__dict__" 518),(.ref 262),(.builtin "function.__dict__"),(.builtin "function.__dict__#set")]),#[]⟩)::(nat_lit 264,⟨(.type "getset_descriptor"),none,(.fields #[(.str "__weakref__" 520),(.ref 262),(.builtin "ExceptionGroup.__weakref__"),.none]),#[]⟩)::(nat_lit 277,cp "leaves" "Tree.leaves" 545 546 547 108 1 274 181 275 .none .none (.ref 276) 548 108 549)::(nat_lit 278,fo "leaves" "Tree.leaves" (A8 (top 27) 0) .none (.str "glazebench.cuts" 525) 277)::(nat_lit 284,co "depth" "Tree.depth" 551 552 553 111 1 279 181 280 281 282 283 555 111 556)::(nat_lit 285,fo "depth" "Tree.depth" (A8 (top 27) 1) .none (.str "glazebench.cuts" 525) 284)::(nat_lit 289,cp "turned" "Tree.turned" 558 559 560 114 1 286 181 287 .none .none (.ref 288) 561 114 562)::(nat_lit 290,fo "turned" "Tree.turned" (A8 (top 27) 2) .none (.str "glazebench.cuts" 525) 289)::(nat_lit 296,co "fits" "Tree.fits" 564 565 566 117 3 291 181 292 293 294 295 570 117 571)::(nat_lit 297,fo "fits" "Tree.fits" (A8 (top 27) 3) .none (.str "glazebench.cuts" 525) 296)::(nat_lit 303,co "same" "Tree.same" 573 574 575 124 2 298 181 299 300 301 302 578 124 579)::(nat_lit 304,fo "same" "Tree.same" (A8 (top 27) 4) .none (.str "glazebench.cuts" 525) 303)::(nat_lit 306,⟨(.type "dict"),none,(.dict #[kE P "__module__" 540 (.str "glazebench.cuts" 525),kE P "__firstlineno__" 544 (.int (106) 543),kE P "leaves" 550 (.ref 278),kE P "depth" 557 (.ref 285),kE P "turned" 563 (.ref 290),kE P "fits" 572 (.ref 297),kE P "same" 580 (.ref 304),kE P "__static_attributes__" 581 (.ref 305),kE P "__dict__" 583 (.ref 308),kE P "__weakref__" 585 (.ref 309),kE P "__doc__" 586 .none] 4),#[]⟩)::(nat_lit 307,⟨(.type "type"),none,(.cls { name:="Tree",bases:=[(.type "object")],mro:=[(.ref 307),(.type "object")],ns:=306,qualname:="Tree",hasDict:=true,slotNames:=[],subclasses:=[(.ref 329),(.ref 348),(.ref 367)],abstract:=false,collection:=none,hasDel:=false }),#[none,none,some (.str "Tree" 533),some (.str "Tree" 541),some (.builtin "object.__new__"),some (.bool true)]⟩)::(nat_lit 308,⟨(.type "getset_descriptor"),none,(.fields #[(.str "__dict__" 582),(.ref 307),(.builtin "function.__dict__"),(.builtin "function.__dict__#set")]),#[]⟩)::(nat_lit 309,⟨(.type "getset_descriptor"),none,(.fields #[(.str "__weakref__" 584),(.ref 307),(.builtin "ExceptionGroup.__weakref__"),.none]),#[]⟩)::(nat_lit 319,⟨(.type "tuple"),none,(.seq #[.none] 0),#[]⟩)::(nat_lit 325,co "__init__" "Whole.__init__" 601 602 603 128 2 320 181 321 322 323 324 606 128 607)::(nat_lit 326,fo "__init__" "Whole.__init__" (A8 (top 28) 0) (.ref 319) (.str "glazebench.cuts" 525) 325)::(nat_lit 328,⟨(.type "dict"),none,(.dict #[kE P "__module__" 596 (.str "glazebench.cuts" 525),kE P "__firstlineno__" 600 (.int (126) 599),kE P "__init__" 608 (.ref 326),kE P "__static_attributes__" 610 (.ref 327),kE P "__doc__" 611 .none] 2),#[]⟩)::(nat_lit 329,⟨(.type "type"),none,(.cls { name:="Whole",bases:=[(.ref 307)],mro:=[(.ref 329),(.ref 307),(.type "object")],ns:=328,qualname:="Whole",hasDict:=true,slotNames:=[],subclasses:=[],abstract:=false,collection:=none,hasDel:=false }),#[some (.ref 312),none,some (.str "Whole" 589),some (.str "Whole" 597),some (.builtin "object.__new__"),some (.bool true)]⟩)::(nat_lit 344,co "__init__" "Upright.__init__" 626 627 628 132 4 339 181 340 341 342 343 633 132 634)::(nat_lit 345,fo "__init__" "Upright.__init__" (A8 (top 29) 0) .none (.str "glazebench.cuts" 525) 344)::(nat_lit 347,⟨(.type "dict"),none,(.dict #[kE P "__module__" 621 (.str "glazebench.cuts" 525),kE P "__firstlineno__" 625 (.int (130) 624),kE P "__init__" 635 (.ref 345),kE P "__static_attributes__" 639 (.ref 346),kE P "__doc__" 640 .none] 2),#[]⟩)::(nat_lit 348,⟨(.type "type"),none,(.cls { name:="Upright",bases:=[(.ref 307)],mro:=[(.ref 348),(.ref 307),(.type "object")],ns:=347,qualname:="Upright",hasDict:=true,slotNames:=[],subclasses:=[],abstract:=false,collection:=none,hasDel:=false }),#[some (.ref 332),none,some (.str "Upright" 614),some (.str "Upright" 622),some (.builtin "object.__new__"),some (.bool true)]⟩)::(nat_lit 363,co "__init__" "Level.__init__" 655 656 657 138 4 358 181 359 360 361 362 662 138 663)::(nat_lit 364,fo "__init__" "Level.__init__" (A8 (top 30) 0) .none (.str "glazebench.cuts" 525) 363)::(nat_lit 366,⟨(.type "dict"),none,(.dict #[kE P "__module__" 650 (.str "glazebench.cuts" 525),kE P "__firstlineno__" 654 (.int (136) 653),kE P "__init__" 664 (.ref 364),kE P "__static_attributes__" 668 (.ref 365),kE P "__doc__" 669 .none] 2),#[]⟩)::(nat_lit 367,⟨(.type "type"),none,(.cls { name:="Level",bases:=[(.ref 307)],mro:=[(.ref 367),(.ref 307),(.type "object")],ns:=366,qualname:="Level",hasDict:=true,slotNames:=[],subclasses:=[],abstract:=false,collection:=none,hasDel:=false }),#[some (.ref 351),none,some (.str "Level" 643),some (.str "Level" 651),some (.builtin "object.__new__"),some (.bool true)]⟩)::(nat_lit 375,co "kind_of" "kind_of" 672 673 674 142 1 370 181 371 372 373 374 676 142 677)::(nat_lit 376,fo "kind_of" "kind_of" (top 31) .none (.str "glazebench.cuts" 525) 375)::(nat_lit 382,co "entry_of" "entry_of" 679 680 681 146 1 377 181 378 379 380 381 684 146 685)::(nat_lit 383,fo "entry_of" "entry_of" (top 32) .none (.str "glazebench.cuts" 525) 382)::(nat_lit 389,co "entries_of" "entries_of" 687 688 689 149 1 384 181 385 386 387 388 694 149 695)::(nat_lit 390,fo "entries_of" "entries_of" (top 33) .none (.str "glazebench.cuts" 525) 389)::(nat_lit 396,co "cut_from" "cut_from" 697 698 699 158 4 391 181 392 393 394 395 704 158 705)::(nat_lit 397,fo "cut_from" "cut_from" (top 34) .none (.str "glazebench.cuts" 525) 396)::(nat_lit 403,co "tree_from" "tree_from" 707 708 709 162 1 398 181 399 400 401 402 716 162 717)::(nat_lit 404,fo "tree_from" "tree_from" (top 35) .none (.str "glazebench.cuts" 525) 403)::(nat_lit 410,co "turned_word" "turned_word" 719 720 721 172 1 405 181 406 407 408 409 723 172 724)::(nat_lit 411,fo "turned_word" "turned_word" (top 36) .none (.str "glazebench.cuts" 525) 410)::(nat_lit 417,co "check_cut" "check_cut" 726 727 728 176 3 412 181 413 414 415 416 733 176 734)::(nat_lit 418,fo "check_cut" "check_cut" (top 37) .none (.str "glazebench.cuts" 525) 417)::(nat_lit 424,co "first_piece" "first_piece" 736 737 738 180 3 419 181 420 421 422 423 742 180 743)::(nat_lit 425,fo "first_piece" "first_piece" (top 38) .none (.str "glazebench.cuts" 525) 424)::(nat_lit 431,co "other_piece" "other_piece" 745 746 747 184 3 426 181 427 428 429 430 751 184 752)::(nat_lit 432,fo "other_piece" "other_piece" (top 39) .none (.str "glazebench.cuts" 525) 431)::(nat_lit 438,co "cut_out" "cut_out" 754 755 756 188 3 433 181 434 435 436 437 765 188 766)::(nat_lit 439,fo "cut_out" "cut_out" (top 40) .none (.str "glazebench.cuts" 525) 438)::(nat_lit 445,co "pieces" "pieces" 768 769 770 200 3 440 181 441 442 443 444 774 200 775)::(nat_lit 446,fo "pieces" "pieces" (top 41) .none (.str "glazebench.cuts" 525) 445)::(nat_lit 450,cp "panel_of" "panel_of" 777 778 779 203 3 447 181 448 .none .none (.ref 449) 780 203 781)::(nat_lit 451,fo "panel_of" "panel_of" (top 42) .none (.str "glazebench.cuts" 525) 450)::(nat_lit 457,co "word_of" "word_of" 791 792 793 209 2 452 181 453 454 455 456 796 209 797)::(nat_lit 458,fo "word_of" "word_of" (top 47) .none (.str "glazebench.cuttexts" 783) 457)::(nat_lit 462,cp "written" "written" 799 800 801 213 1 459 181 460 .none .none (.ref 461) 802 213 803)::(nat_lit 463,fo "written" "written" (top 48) .none (.str "glazebench.cuttexts" 783) 462)::(nat_lit 467,cp "number_in" "number_in" 805 806 807 215 2 464 181 465 .none .none (.ref 466) 808 215 809)::(nat_lit 468,fo "number_in" "number_in" (top 49) .none (.str "glazebench.cuttexts" 783) 467)::(nat_lit 474,co "entry_in" "entry_in" 811 812 813 221 1 469 181 470 471 472 473 816 221 817)::(nat_lit 475,fo "entry_in" "entry_in" (top 50) .none (.str "glazebench.cuttexts" 783) 474)::(nat_lit 481,co "entries_in" "entries_in" 819 820 821 232 1 476 181 477 478 479 480 828 232 829)::(nat_lit 482,fo "entries_in" "entries_in" (top 51) .none (.str "glazebench.cuttexts" 783) 481)::(nat_lit 488,co "read_tree" "read_tree" 831 832 833 244 1 483 181 484 485 486 487 835 244 836)::(nat_lit 489,fo "read_tree" "read_tree" (top 52) .none (.str "glazebench.cuttexts" 783) 488)::(nat_lit 495,co "_law_at" "_law_at" 840 841 842 249 2 490 181 491 492 493 494 846 249 847)::(nat_lit 496,fo "_law_at" "_law_at" (top 54) .none (.str "law_glazebench_k15_whole_cut_and_told" 838) 495)::(nat_lit 500,cp "_law_more" "_law_more" 849 850 851 256 3 497 181 498 .none .none (.ref 499) 852 256 853)::(nat_lit 501,fo "_law_more" "_law_more" (top 55) .none (.str "law_glazebench_k15_whole_cut_and_told" 838) 500)::(nat_lit 507,co "_law_knead" "_law_knead" 855 856 857 258 2 502 181 503 504 505 506 863 258 864)::(nat_lit 508,fo "_law_knead" "_law_knead" (top 56) .none (.str "law_glazebench_k15_whole_cut_and_told" 838) 507)::(nat_lit 514,co "_law_mark" "_law_mark" 866 867 868 272 1 509 181 510 511 512 513 870 272 871)::(nat_lit 515,fo "_law_mark" "_law_mark" (top 57) .none (.str "law_glazebench_k15_whole_cut_and_told" 838) 514)::(nat_lit 521,co "_law_drawn" "_law_drawn" 873 874 875 274 4 516 181 517 518 519 520 887 274 888)::(nat_lit 522,fo "_law_drawn" "_law_drawn" (top 58) .none (.str "law_glazebench_k15_whole_cut_and_told" 838) 521)::(nat_lit 528,co "_law_made" "_law_made" 890 891 892 290 2 523 181 524 525 526 527 897 290 898)::(nat_lit 529,fo "_law_made" "_law_made" (top 59) .none (.str "law_glazebench_k15_whole_cut_and_told" 838) 528)::(nat_lit 535,co "_law_words" "_law_words" 900 901 902 298 1 530 181 531 532 533 534 905 298 906)::(nat_lit 536,fo "_law_words" "_law_words" (top 60) .none (.str "law_glazebench_k15_whole_cut_and_told" 838) 535)::(nat_lit 542,co "_law_filled" "_law_filled" 908 909 910 305 3 537 181 538 539 540 541 923 305 924)::(nat_lit 543,fo "_law_filled" "_law_filled" (top 61) .none (.str "law_glazebench_k15_whole_cut_and_told" 838) 542)::(nat_lit 547,cp "_law_side" "_law_side" 926 927 928 319 2 544 181 545 .none .none (.ref 546) 929 319 930)::(nat_lit 548,fo "_law_side" "_law_side" (top 62) .none (.str "law_glazebench_k15_whole_cut_and_told" 838) 547)::(nat_lit 554,co "_law_walked" "_law_walked" 932 933 934 321 4 549 181 550 551 552 553 949 321 950)::(nat_lit 555,fo "_law_walked" "_law_walked" (top 63) .none (.str "law_glazebench_k15_whole_cut_and_told" 838) 554)::(nat_lit 559,cp "law" "law" 952 953 954 340 1 556 181 557 .none .none (.ref 558) 955 340 956)::(nat_lit 560,fo "law" "law" (top 64) .none (.str "law_glazebench_k15_whole_cut_and_told" 838) 559)::(nat_lit 4,⟨(.type "module"),(some 0),.plain,#[]⟩)::[]
noncomputable def kas:List Addr:=nat_lit 2::nat_lit 3::nat_lit 20::nat_lit 21::nat_lit 30::nat_lit 31::nat_lit 32::nat_lit 47::nat_lit 48::nat_lit 50::nat_lit 51::nat_lit 66::nat_lit 67::nat_lit 69::nat_lit 70::nat_lit 85::nat_lit 86::nat_lit 88::nat_lit 89::nat_lit 104::nat_lit 105::nat_lit 107::nat_lit 108::nat_lit 123::nat_lit 124::nat_lit 126::nat_lit 127::nat_lit 142::nat_lit 143::nat_lit 145::nat_lit 146::nat_lit 161::nat_lit 162::nat_lit 164::nat_lit 165::nat_lit 173::nat_lit 174::nat_lit 180::nat_lit 181::nat_lit 185::nat_lit 186::nat_lit 192::nat_lit 193::nat_lit 199::nat_lit 200::nat_lit 206::nat_lit 207::nat_lit 213::nat_lit 214::nat_lit 220::nat_lit 221::nat_lit 227::nat_lit 228::nat_lit 239::nat_lit 240::nat_lit 246::nat_lit 247::nat_lit 253::nat_lit 254::nat_lit 258::nat_lit 259::nat_lit 261::nat_lit 262::nat_lit 263::nat_lit 264::nat_lit 277::nat_lit 278::nat_lit 284::nat_lit 285::nat_lit 289::nat_lit 290::nat_lit 296::nat_lit 297::nat_lit 303::nat_lit 304::nat_lit 306::nat_lit 307::nat_lit 308::nat_lit 309::nat_lit 319::nat_lit 325::nat_lit 326::nat_lit 328::nat_lit 329::nat_lit 344::nat_lit 345::nat_lit 347::nat_lit 348::nat_lit 363::nat_lit 364::nat_lit 366::nat_lit 367::nat_lit 375::nat_lit 376::nat_lit 382::nat_lit 383::nat_lit 389::nat_lit 390::nat_lit 396::nat_lit 397::nat_lit 403::nat_lit 404::nat_lit 410::nat_lit 411::nat_lit 417::nat_lit 418::nat_lit 424::nat_lit 425::nat_lit 431::nat_lit 432::nat_lit 438::nat_lit 439::nat_lit 445::nat_lit 446::nat_lit 450::nat_lit 451::nat_lit 457::nat_lit 458::nat_lit 462::nat_lit 463::nat_lit 467::nat_lit 468::nat_lit 474::nat_lit 475::nat_lit 481::nat_lit 482::nat_lit 488::nat_lit 489::nat_lit 495::nat_lit 496::nat_lit 500::nat_lit 501::nat_lit 507::nat_lit 508::nat_lit 514::nat_lit 515::nat_lit 521::nat_lit 522::nat_lit 528::nat_lit 529::nat_lit 535::nat_lit 536::nat_lit 542::nat_lit 543::nat_lit 547::nat_lit 548::nat_lit 554::nat_lit 555::nat_lit 559::nat_lit 560::nat_lit 4::[]
noncomputable def keeps:List Nat:=0::2::3::4::5::6::7::8::9::11::12::13::14::15::16::17::18::19::20::21::22::24::25::26::27::28::29::30::31::32::33::34::35::36::37::38::39::40::41::42::44::45::46::47::48::49::50::51::52::54::55::56::57::58::59::60::61::62::63::64::[]
noncomputable def lo:LSz:=["Whole"]
noncomputable def Ts:List Addr:=nat_lit 441::[]
theorem prep(h:PySem.Challenge.rw_glazebench_k15_whole_cut_and_told.row.wellSaid=true->PySem.Challenge.rw_glazebench_k15_whole_cut_and_told.row.Holds):PySem.Challenge.rw_glazebench_k15_whole_cut_and_told.Holds:=by
 w_on
 o_law
 exact h (by assumption)
noncomputable def qv(p:Program):Program:=view p keeps
noncomputable def Xp(p:Program)(s:Shared):Bool:=xlAt (qv p) [] s&&recOk (RowW.records (OpenRow.toRowW PySem.Challenge.rw_glazebench_k15_whole_cut_and_told.row)) s
theorem kas_is(P:Params):kas=(KK P).map (λ x=>x.1):=by kernel_rfl
theorem Tt:opening PySem.Challenge.pw_glazebench_k15_whole_cut_and_told=plainProg PySem.Challenge.pw_glazebench_k15_whole_cut_and_told.main.scope.names:=by kernel_rfl
theorem PP(s:Shared):fenceModules? PySem.Challenge.pw_glazebench_k15_whole_cut_and_told s=some s:=by kernel_rfl
theorem Rw(w:World):((boot_heap w.params).isNs mainGlobals,(boot_heap w.params).objs.size,(boot_heap w.params).nsMap mainGlobals "__annotations__")=(true,11,(some (.ref 6))):=by kernel_rfl
theorem Uu:TX 9368 11 (some (.ref 6)) Fast.te10156331382660048174 Fast.te11892475500146522536 Fast.te14364793385576792824 Fast.te5923862056798008813 Fast.te4187177175401517315 Fast.te11733368050251875776:=λ w os=>by kernel_rfl
theorem Ut:TW 9368 11 (some (.ref 6)) qv lo Xp Fast.te10156331382660048174 Fast.te11892475500146522536 Fast.te14364793385576792824 Fast.te5923862056798008813 Fast.te4187177175401517315 Fast.te11733368050251875776:=λ w os=>by kernel_rfl
theorem Us:TV 9368 11 (some (.ref 6)) (hookT (kHook KK kas kas_is) Ts).obs (hookT (kHook KK kas kas_is) Ts).val Fast.te10156331382660048174 Fast.te11892475500146522536 Fast.te14364793385576792824 Fast.te5923862056798008813 Fast.te4187177175401517315 Fast.te11733368050251875776:=λ w os=>by kernel_rfl
theorem ran:∀(w:World)(os:OsState),Option.map (Jo openSeen (importedModules PySem.Challenge.pw_glazebench_k15_whole_cut_and_told.main.body) PySem.Challenge.pw_glazebench_k15_whole_cut_and_told (qv PySem.Challenge.pw_glazebench_k15_whole_cut_and_told) lo (Xp PySem.Challenge.pw_glazebench_k15_whole_cut_and_told) (hookT (kHook KK kas kas_is) Ts).obs (boot_heap w.params)) (topRun treeTable PySem.Challenge.pw_glazebench_k15_whole_cut_and_told w 11 (some (.ref 6)) 9368 (DG w.params os) (topStub PySem.Challenge.pw_glazebench_k15_whole_cut_and_told))=some (true,openGood (qv PySem.Challenge.pw_glazebench_k15_whole_cut_and_told) lo,(hookT (kHook KK kas kas_is) Ts).val w):=QJ Uu Ut Us
theorem left:LeftO PySem.Challenge.pw_glazebench_k15_whole_cut_and_told (qv PySem.Challenge.pw_glazebench_k15_whole_cut_and_told) lo (Xp PySem.Challenge.pw_glazebench_k15_whole_cut_and_told) (hookT (kHook KK kas kas_is) Ts).obs (hookT (kHook KK kas kas_is) Ts).val 9368:=Oq (boot_open Tt (by decide) PP) Rw ran
end KH
namespace L2
open PySem.W
open PySem PySem.Spec PyProof.Rows
section
variable{M:Model}{A:Around}{E:VPz}{s:Shared}
def Rh:Bool->Keyed->Array Keyed->Nat->Nat->Nat->StateT SortSt Sem (Option Nat):=sortPriv% PySem.Builtin.gallop
def SU(M:Model)(A:Around)(E:VPz)(s:Shared)(left:Bool)(key:Keyed)(arr:Array Keyed)(base n:Nat)(kd:SortKind)(B:Nat->Bool):Prop :=
 ∀i,i<n->∀(st:SortSt)(Q:Option Bool->SortSt->Prop),kindOf st=kd->Q (some (B i)) st->wpS M A E s (elem' arr (base+i) >>= λ x=>if left=true then lt' x key else lt' key x >>= λ r=>pure (r.map (!·))) Q st
theorem RB{n:Nat}{B:Nat->Bool}{f:Nat->Option (Option Nat)×Nat×Nat->StateT SortSt Sem (ForInStep (Option (Option Nat)×Nat×Nat))}{g:Option (Option Nat)×Nat×Nat->StateT SortSt Sem (Option Nat)}{lo hi:Nat}{st:SortSt}{Q:Option Nat->SortSt->Prop}(mono:∀i j,i<=j->j<n->B j=true->B i=true)
  (hf:∀x lo hi (Q':ForInStep (Option (Option Nat)×Nat×Nat)->SortSt->Prop),hi<=n->(lo>=hi->Q' (.done (none,lo,hi)) st)->(lo<hi->B (lo+(hi-lo) / 2)=true->Q' (.yield (none,lo+(hi-lo) / 2+1,hi)) st)->(lo<hi->B (lo+(hi-lo) / 2)=false->Q' (.yield (none,lo,lo+(hi-lo) / 2)) st)->wpS M A E s (f x (none,lo,hi)) Q' st)
  (hg:∀lo hi,g (none,lo,hi)=pure (some hi)) (h1:lo<=hi) (h2:hi<=n) (h3:∀i,i<lo->B i=true) (h4:∀i,hi<=i->i<n->B i=false)
  (h:∀k,k<=n->(∀i,i<k->B i=true)->(∀i,k<=i->i<n->B i=false)->Q (some k) st):wpS M A E s (forIn [0:n] (none,lo,hi) f >>= g) Q st:=by
 have anti:∀i j,i<=j->j<n->B i=false->B j=false:=λ i j hij hj hi=>by
  cases e:B j with
  |false=>rfl
  |true=>rw[mono i j hij hj e]at hi;cases hi
 refine wpS_bind (wpS_mono (wpS_forRange (I:=λ x (c:Option (Option Nat)×Nat×Nat) st'=>st'=st/\c.1=none/\c.2.1<=c.2.2/\c.2.2<=n/\(c.2.2-c.2.1)+x<=n/\(∀i,i<c.2.1->B i=true)/\(∀i,c.2.2<=i->i<n->B i=false))
  (Q:=λ(c:Option (Option Nat)×Nat×Nat) st'=>st'=st/\c.1=none/\c.2.2<=n/\(∀i,i<c.2.2->B i=true)/\(∀i,c.2.2<=i->i<n->B i=false)) ?step ?fin (And.intro rfl ⟨rfl,h1,h2,by show hi-lo+0<=n;lia,h3,h4⟩)) ?post)
 case fin =>
  rintro⟨r,lo,hi⟩ st' ⟨e,e1,c1,c2,c3,c4,c5⟩;have:lo=hi:=by
   have c3:hi-lo+max 0 n<=n:=c3;have c1:lo<=hi:=c1;lia
  subst this;exact And.intro e ⟨e1,c2,c4,c5⟩
 case step =>
  rintro x ⟨r,lo,hi⟩ st' _ hx ⟨e,e1,c1,c2,c3,c4,c5⟩;have e1:r=none:=e1;subst e1;subst e;have c1:lo<=hi:=c1;have c2:hi<=n:=c2;have c3:hi-lo+x<=n:=c3;have c4:∀i,i<lo->B i=true:=c4;have c5:∀i,hi<=i->i<n->B i=false:=c5;refine hf x lo hi _ c2 (λ hl=>?_) (λ hl hb=>?_) (λ hl hb=>?_)
  .have:lo=hi:=by lia
   subst this;exact And.intro rfl ⟨rfl,c2,c4,c5⟩
  .refine And.intro rfl ⟨rfl,by show lo+(hi-lo) / 2+1<=hi;lia,c2,by show hi-(lo+(hi-lo) / 2+1)+(x+1)<=n;lia,λ i hi'=>?_,c5⟩;exact mono i _ (by have:i<lo+(hi-lo) / 2+1:=hi';lia) (by lia) hb
  .refine And.intro rfl ⟨rfl,by show lo<=lo+(hi-lo) / 2;lia,by show lo+(hi-lo) / 2<=n;lia,by show lo+(hi-lo) / 2-lo+(x+1)<=n;lia,c4,λ i h1 h2=>?_⟩;exact anti _ i h1 h2 hb
 case post =>
  rintro⟨r,lo,hi⟩ st' ⟨e,e1,c1,c2,c3⟩;have e1:r=none:=e1;subst e1;subst e;rw[hg];exact wpS_pure (h hi c1 c2 c3)
theorem OY{n mx:Nat}{C:Nat->Bool}{f:Nat->Option (Option Nat)×Nat×Nat->StateT SortSt Sem (ForInStep (Option (Option Nat)×Nat×Nat))}{g:Option (Option Nat)×Nat×Nat->StateT SortSt Sem (Option Nat)}{st:SortSt}{Q:Option Nat->SortSt->Prop}(hmx:mx<=n)(h1:1<=mx)(c0:C 0=true)
  (hf:∀x la of (Q':ForInStep (Option (Option Nat)×Nat×Nat)->SortSt->Prop),(of>=mx->Q' (.done (none,la,of)) st)->(of<mx->C of=false->Q' (.done (none,la,of)) st)->(of<mx->C of=true->Q' (.yield (none,of,2*of+1)) st)->wpS M A E s (f x (none,la,of)) Q' st)
  (hg:∀la of,la<of->la<mx->C la=true->(of>=mx\/(of<mx/\C of=false))->wpS M A E s (g (none,la,of)) Q st):wpS M A E s (forIn [0:n] (none,0,1) f >>= g) Q st:=by
 refine wpS_bind (wpS_mono (wpS_forRange (I:=λ x (c:Option (Option Nat)×Nat×Nat) st'=>st'=st/\c.1=none/\c.2.1<c.2.2/\c.2.1<mx/\x+1<=c.2.2/\C c.2.1=true)
  (Q:=λ(c:Option (Option Nat)×Nat×Nat) st'=>st'=st/\c.1=none/\c.2.1<c.2.2/\c.2.1<mx/\C c.2.1=true/\(c.2.2>=mx\/(c.2.2<mx/\C c.2.2=false))) ?step ?fin (And.intro rfl ⟨rfl,by show 0<1;lia,by show 0<mx;lia,by show 0+1<=1;lia,c0⟩)) ?post)
 case fin =>
  rintro⟨r,la,of⟩ st' ⟨e,e1,c1,c2,c3,c4⟩;have c3:max 0 n+1<=of:=c3;exact And.intro e ⟨e1,c1,c2,c4,.inl (by show of>=mx;lia)⟩
 case step =>
  rintro x ⟨r,la,of⟩ st' _ hx ⟨e,e1,c1,c2,c3,c4⟩;have e1:r=none:=e1;subst e1;subst e;have c1:la<of:=c1;have c2:la<mx:=c2;have c3:x+1<=of:=c3;refine hf x la of _ (λ hl=>?_) (λ hl hb=>?_) (λ hl hb=>?_)
  .exact And.intro rfl ⟨rfl,c1,c2,c4,.inl hl⟩
  .exact And.intro rfl ⟨rfl,c1,c2,c4,.inr ⟨hl,hb⟩⟩
  .exact And.intro rfl ⟨rfl,by show of<2*of+1;lia,hl,by show x+1+1<=2*of+1;lia,hb⟩
 case post =>
  rintro⟨r,la,of⟩ st' ⟨e,e1,c1,c2,c3,c4⟩;have e1:r=none:=e1;subst e1;subst e;exact hg la of c1 c2 c3 c4
theorem AH{left:Bool}{key:Keyed}{arr:Array Keyed}{base n hint:Nat}{kd:SortKind}{B:Nat->Bool}{st:SortSt}{Q:Option Nat->SortSt->Prop}(hk:kindOf st=kd)(ask:SU M A E s left key arr base n kd B)(mono:∀i j,i<=j->j<n->B j=true->B i=true)(hh:hint<n)
  (h:∀k,k<=n->(∀i,i<k->B i=true)->(∀i,k<=i->i<n->B i=false)->Q (some k) st):wpS M A E s (Rh left key arr base n hint) Q st:=by
 have anti:∀i j,i<=j->j<n->B i=false->B j=false:=λ i j hij hj hi=>by
  cases e:B j with
  |false=>rfl
  |true=>rw[mono i j hij hj e]at hi;cases hi
 refine wpS_bind (ask hint hh st _ hk ?_);dsimp only;cases hr:B hint with
 |true =>
  rw[if_pos rfl];refine OY (mx:=n-hint) (C:=λ o=>B (hint+o)) (by lia) (by lia) hr (λ x la of Q' k1 k2 k3=>?_) (λ la of d1 d2 d3 d4=>?_)
  .dsimp only;by_cases hl:of>=n-hint
   .rw[if_pos hl];exact wpS_pure (k1 hl)
   .rw[if_neg hl];refine wpS_bind (ask (hint+of) (by lia) st _ hk ?_);dsimp only;cases hb:B (hint+of) with
    |true=>exact wpS_pure (k3 (by lia) hb)
    |false=>exact wpS_pure (k2 (by lia) hb)
  .dsimp only;refine RB mono (λ x lo hi Q' hn k1 k2 k3=>?_) (λ lo hi=>rfl) (by lia) (by lia) (λ i hi=>mono i (hint+la) (by lia) (by lia) d3) (λ i hi hi2=>?_) h
   .dsimp only;by_cases hl:lo>=hi
    .rw[if_pos hl];exact wpS_pure (k1 hl)
    .rw[if_neg hl];refine wpS_bind (ask (lo+(hi-lo) / 2) (by lia) st _ hk ?_);dsimp only;cases hb:B (lo+(hi-lo) / 2) with
     |true=>exact wpS_pure (k2 (by lia) hb)
     |false=>exact wpS_pure (k3 (by lia) hb)
   .rcases d4 with d4|⟨d4,d5⟩
    .lia
    .exact anti (hint+of) i (by lia) hi2 d5
 |false =>
  rw[if_neg Bool.false_ne_true];refine OY (mx:=hint+1) (C:=λ o=>!B (hint-o)) (by lia) (by lia) (by show(!B hint)=true;rw[hr];rfl) (λ x la of Q' k1 k2 k3=>?_) (λ la of d1 d2 d3 d4=>?_)
  .dsimp only;by_cases hl:of>=hint+1
   .rw[if_pos hl];exact wpS_pure (k1 hl)
   .rw[if_neg hl];refine wpS_bind (ask (hint-of) (by lia) st _ hk ?_);dsimp only;cases hb:B (hint-of) with
    |true=>exact wpS_pure (k2 (by lia) (by rw[hb];rfl))
    |false=>exact wpS_pure (k3 (by lia) (by rw[hb];rfl))
  .dsimp only;have d3:B (hint-la)=false:=by simpa using d3
   refine RB mono (λ x lo hi Q' hn k1 k2 k3=>?_) (λ lo hi=>rfl) (by lia) (by lia) (λ i hi=>?_) (λ i hi hi2=>anti (hint-la) i (by lia) hi2 d3) h
   .dsimp only;by_cases hl:lo>=hi
    .rw[if_pos hl];exact wpS_pure (k1 hl)
    .rw[if_neg hl];refine wpS_bind (ask (lo+(hi-lo) / 2) (by lia) st _ hk ?_);dsimp only;cases hb:B (lo+(hi-lo) / 2) with
     |true=>exact wpS_pure (k2 (by lia) hb)
     |false=>exact wpS_pure (k3 (by lia) hb)
   .rcases d4 with d4|⟨d4,d5⟩
    .lia
    .have d5:B (hint-of)=true:=by simpa using d5
     exact mono i (hint-of) (by lia) (by lia) d5
def LtG(M:Model)(A:Around)(E:VPz)(s:Shared)(kd:SortKind)(κ:Keyed->Int)(S:Keyed->Prop):Prop :=
 ∀x y,S x->S y->∀(st:SortSt)(Q:Option Bool->SortSt->Prop),kindOf st=kd->Q (some (decide (κ x<κ y))) st->wpS M A E s (lt' x y) Q st
theorem Aj{arr:Array Keyed}{i:Nat}{x:Keyed}{st:SortSt}{Q:Keyed->SortSt->Prop}(hx:arr[i]?=some x)(h:Q x st):wpS M A E s (elem' arr i) Q st:=by
 rw[elem'_eq,hx];exact wpS_pure h
theorem Dp{kd:SortKind}{κ:Keyed->Int}{S:Keyed->Prop}(L:LtG M A E s kd κ S){key:Keyed}{arr:Array Keyed}{base n:Nat}(hk:S key)(ha:∀i,i<n->∃x,arr[base+i]?=some x/\S x) :
  SU M A E s true key arr base n kd (λ i=>decide (κ (arr.getD (base+i) default)<κ key)):=λ i hi st Q hs hq=>by
 obtain⟨x,hx,sx⟩:=ha i hi;refine wpS_bind (Aj hx ?_);rw[if_pos rfl];refine L x key sx hk st Q hs ?_;have e:arr.getD (base+i) default=x:=by rw[Array.getD_eq_getD_getElem?,hx];rfl
 dsimp only at hq;rw[e]at hq;exact hq
theorem HH{kd:SortKind}{κ:Keyed->Int}{S:Keyed->Prop}(L:LtG M A E s kd κ S){key:Keyed}{arr:Array Keyed}{base n:Nat}(hk:S key)(ha:∀i,i<n->∃x,arr[base+i]?=some x/\S x) :
  SU M A E s false key arr base n kd (λ i=>!decide (κ key<κ (arr.getD (base+i) default))):=λ i hi st Q hs hq=>by
 obtain⟨x,hx,sx⟩:=ha i hi;refine wpS_bind (Aj hx ?_);rw[if_neg Bool.false_ne_true];refine wpS_bind (L key x hk sx st _ hs ?_);have e:arr.getD (base+i) default=x:=by rw[Array.getD_eq_getD_getElem?,hx];rfl
 dsimp only at hq;rw[e]at hq;exact wpS_pure hq
end
section
variable{α:Type}{κ:α->Int}
def Rise(κ:α->Int)(xs:List α):Prop:=xs.Pairwise λ x y=>κ x<=κ y
structure MI(κ:α->Int)(a b out:List α)(ia ib:Nat):Prop where
 pm:(out++(a.drop ia++b.drop ib)).Perm (a++b)
 so:Rise κ out
 le:∀x∈out,∀y∈a.drop ia++b.drop ib,κ x<=κ y
 la:ia<=a.length
 lb:ib<=b.length
theorem Rise.drop{xs:List α}(h:Rise κ xs)(n:Nat):Rise κ (xs.drop n):=List.Pairwise.sublist (List.drop_sublist n xs) h
theorem Rise.app{xs ys:List α}(h1:Rise κ xs)(h2:Rise κ ys)(h:∀x∈xs,∀y∈ys,κ x<=κ y):Rise κ (xs++ys):=List.pairwise_append.mpr ⟨h1,h2,h⟩
theorem B8(xs:List α)(i k:Nat):xs.drop i=(xs.drop i).take k++xs.drop (i+k):=by
 rw[<-List.drop_drop];exact(List.take_append_drop k _).symm
theorem MI.start(a b:List α):MI κ a b [] 0 0:=⟨by simp,List.Pairwise.nil,λ x h=>absurd h List.not_mem_nil,Nat.zero_le _,Nat.zero_le _⟩
theorem MI.takeA{a b out:List α}{ia ib k:Nat}(m:MI κ a b out ia ib)(sa:Rise κ a)(hk:ia+k<=a.length)(h:∀x∈(a.drop ia).take k,∀y∈b.drop ib,κ x<=κ y):MI κ a b (out++(a.drop ia).take k) (ia+k) ib:=by
 have e:=B8 a ia k;have sd:=sa.drop ia;rw[e]at sd;obtain⟨s1,s2,s3⟩:=List.pairwise_append.mp sd;refine⟨?_,m.so.app s1 λ x hx y hy=>m.le x hx y (List.mem_append_left _ (by rw[e];exact List.mem_append_left _ hy)),λ x hx y hy=>?_,hk,m.lb⟩
 .refine List.Perm.trans ?_ m.pm;rw[List.append_assoc,<-List.append_assoc ((a.drop ia).take k),<-e]
 .rcases List.mem_append.mp hx with hx|hx
  .rcases List.mem_append.mp hy with hy|hy
   .exact m.le x hx y (List.mem_append_left _ (by rw[e];exact List.mem_append_right _ hy))
   .exact m.le x hx y (List.mem_append_right _ hy)
  .rcases List.mem_append.mp hy with hy|hy
   .exact s3 x hx y hy
   .exact h x hx y hy
theorem MI.takeB{a b out:List α}{ia ib k:Nat}(m:MI κ a b out ia ib)(sb:Rise κ b)(hk:ib+k<=b.length)(h:∀x∈(b.drop ib).take k,∀y∈a.drop ia,κ x<=κ y):MI κ a b (out++(b.drop ib).take k) ia (ib+k):=by
 have e:=B8 b ib k;have sd:=sb.drop ib;rw[e]at sd;obtain⟨s1,s2,s3⟩:=List.pairwise_append.mp sd;refine⟨?_,m.so.app s1 λ x hx y hy=>m.le x hx y (List.mem_append_right _ (by rw[e];exact List.mem_append_left _ hy)),λ x hx y hy=>?_,m.la,hk⟩
 .refine List.Perm.trans ?_ m.pm;rw[List.append_assoc];refine List.Perm.append_left out ?_;have e2:a.drop ia++b.drop ib=a.drop ia++((b.drop ib).take k++b.drop (ib+k)):=by rw[<-e]
  rw[e2,<-List.append_assoc,<-List.append_assoc];exact List.Perm.append_right _ List.perm_append_comm
 .rcases List.mem_append.mp hx with hx|hx
  .rcases List.mem_append.mp hy with hy|hy
   .exact m.le x hx y (List.mem_append_left _ hy)
   .exact m.le x hx y (List.mem_append_right _ (by rw[e];exact List.mem_append_right _ hy))
  .rcases List.mem_append.mp hy with hy|hy
   .exact h x hx y hy
   .exact s3 x hx y hy
theorem MI.done{a b out:List α}{ia ib:Nat}(m:MI κ a b out ia ib)(sa:Rise κ a)(sb:Rise κ b)(h:ib=b.length\/ia=a.length):Rise κ (out++a.drop ia++b.drop ib)/\(out++a.drop ia++b.drop ib).Perm (a++b):=by
 refine⟨?_,by rw[List.append_assoc];exact m.pm⟩;rw[List.append_assoc];refine m.so.app ?_ m.le;refine(sa.drop ia).app (sb.drop ib) λ x hx y hy=>?_;rcases h with h|h
 .rw[h,List.drop_length]at hy;exact absurd hy List.not_mem_nil
 .rw[h,List.drop_length]at hx;exact absurd hx List.not_mem_nil
theorem MI.lastA{a b out:List α}{ia ib:Nat}(m:MI κ a b out ia ib)(sa:Rise κ a)(sb:Rise κ b)(h:∀x∈b,∀y∈a.drop ia,κ x<=κ y):Rise κ (out++b.drop ib++a.drop ia)/\(out++b.drop ib++a.drop ia).Perm (a++b):=by
 refine⟨?_,?_⟩
 .rw[List.append_assoc];refine m.so.app ((sb.drop ib).app (sa.drop ia) λ x hx y hy=>h x (List.mem_of_mem_drop hx) y hy) λ x hx y hy=>m.le x hx y ?_;rcases List.mem_append.mp hy with hy|hy
  .exact List.mem_append_right _ hy
  .exact List.mem_append_left _ hy
 .refine List.Perm.trans ?_ m.pm;rw[List.append_assoc];exact List.Perm.append_left out List.perm_append_comm
end
section
variable{M:Model}{A:Around}{E:VPz}{s:Shared}
def PB:Array Keyed->Array Keyed->StateT SortSt Sem (Array Keyed):=sortPriv% PySem.Builtin.mergeLo
theorem Gd{α:Type}(a:Array α)(i:Nat):(a.extract i a.size).toList=a.toList.drop i:=by
 rw[Array.toList_extract,List.extract_eq_drop_take];exact List.take_of_length_le (by rw[List.length_drop,Array.length_toList];lia)
theorem PU{α:Type}(a:Array α)(i k:Nat):(a.extract i (i+k)).toList=(a.toList.drop i).take k:=by
 rw[Array.toList_extract,List.extract_eq_drop_take];congr 1;lia
theorem CI{α:Type}{a:Array α}{i:Nat}(h:i<a.size):∃x,a[i]?=some x/\x∈a.toList/\a.toList.drop i=x::a.toList.drop (i+1):=by
 refine⟨a[i],by simp[h],by simp,?_⟩;have h':i<a.toList.length:=by rw[Array.length_toList];exact h
 rw[List.drop_eq_getElem_cons h'];simp
theorem B9{α:Type}{κ:α->Int}{xs:List α}(h:Rise κ xs){i:Nat}{x:α}(e:xs.drop i=x::xs.drop (i+1)):∀y∈xs.drop i,κ x<=κ y:=λ y hy=>by
 have hd:=h.drop i;rw[e]at hd hy;rcases List.mem_cons.mp hy with rfl|hy
 .exact Int.le_refl _
 .exact(List.pairwise_cons.mp hd).1 y hy
theorem Bj{α:Type}[Inhabited α]{κ:α->Int}{a:Array α}(h:Rise κ a.toList){i j:Nat}(hij:i<=j)(hj:j<a.size):κ (a.getD i default)<=κ (a.getD j default):=by
 have hi:i<a.size:=by lia
 have ei:a.getD i default=a.toList[i]'(by simpa using hi):=by simp[Array.getD,hi]
 have ej:a.getD j default=a.toList[j]'(by simpa using hj):=by simp[Array.getD,hj]
 rw[ei,ej];rcases Nat.lt_or_ge i j with h'|h'
 .exact List.pairwise_iff_getElem.mp h i j _ _ h'
 .have:i=j:=by lia
  subst this;exact Int.le_refl _
structure CK(st st':SortSt):Prop where
 kd:kindOf st'=kindOf st
 ar:arrOf st'=arrOf st
 pe:pendingOf st'=pendingOf st
 fa:failedOf st'=failedOf st
structure GoL(κ:Keyed->Int)(a b out:Array Keyed)(ia ib:Nat):Prop where
 mi:MI κ a.toList b.toList out.toList ia ib
 la:ia+1<a.size
 lb:ib<b.size
def AU(κ:Keyed->Int)(a b r:Array Keyed):Prop:=Rise κ r.toList/\r.toList.Perm (a.toList++b.toList)
theorem AJ{κ:Keyed->Int}{a b out:Array Keyed}{ia ib:Nat}(m:MI κ a.toList b.toList out.toList ia ib)(sa:Rise κ a.toList)(sb:Rise κ b.toList)(h:ib=b.size\/ia=a.size):AU κ a b (out++a.extract ia a.size++b.extract ib b.size):=by
 have:=m.done sa sb (by rw[Array.length_toList,Array.length_toList];exact h);unfold AU;rw[Array.toList_append,Array.toList_append,Gd,Gd];exact this
theorem AI{κ:Keyed->Int}{a b out:Array Keyed}{ia ib:Nat}(m:MI κ a.toList b.toList out.toList ia ib)(sa:Rise κ a.toList)(sb:Rise κ b.toList)(h:∀x∈b.toList,∀y∈a.toList.drop ia,κ x<=κ y):AU κ a b (out++b.extract ib b.size++a.extract ia a.size):=by
 have:=m.lastA sa sb h;unfold AU;rw[Array.toList_append,Array.toList_append,Gd,Gd];exact this
theorem GoL.stepB{κ:Keyed->Int}{a b out:Array Keyed}{ia ib:Nat}{x y:Keyed}(g:GoL κ a b out ia ib)(sa:Rise κ a.toList)(sb:Rise κ b.toList)(db:b.toList.drop ib=x::b.toList.drop (ib+1))(da:a.toList.drop ia=y::a.toList.drop (ia+1))(h:κ x<=κ y):MI κ a.toList b.toList (out.push x).toList ia (ib+1):=by
 have:=g.mi.takeB sb (k:=1) (by rw[Array.length_toList];have:=g.lb;lia) (λ z hz w hw=>?_)
 .rw[db]at this;rw[Array.toList_push]
  simpa using this
 .rw[db]at hz;have:z=x:=by simpa using hz
  rw[this];exact Int.le_trans h (B9 sa da w hw)
theorem GoL.stepA{κ:Keyed->Int}{a b out:Array Keyed}{ia ib:Nat}{x y:Keyed}(g:GoL κ a b out ia ib)(sa:Rise κ a.toList)(sb:Rise κ b.toList)(db:b.toList.drop ib=x::b.toList.drop (ib+1))(da:a.toList.drop ia=y::a.toList.drop (ia+1))(h:κ y<=κ x):MI κ a.toList b.toList (out.push y).toList (ia+1) ib:=by
 have:=g.mi.takeA sa (k:=1) (by rw[Array.length_toList];have:=g.la;lia) (λ z hz w hw=>?_)
 .rw[da]at this;rw[Array.toList_push]
  simpa using this
 .rw[da]at hz;have:z=y:=by simpa using hz
  rw[this];exact Int.le_trans h (B9 sb db w hw)
theorem MI.pushB{κ:Keyed->Int}{a b out:Array Keyed}{ia ib:Nat}{x:Keyed}(m:MI κ a.toList b.toList out.toList ia ib)(sb:Rise κ b.toList)(lb:ib<b.size)(db:b.toList.drop ib=x::b.toList.drop (ib+1))(h:∀w∈a.toList.drop ia,κ x<=κ w):MI κ a.toList b.toList (out.push x).toList ia (ib+1):=by
 have:=m.takeB sb (k:=1) (by rw[Array.length_toList];lia) (λ z hz w hw=>?_)
 .rw[db]at this;rw[Array.toList_push]
  simpa using this
 .rw[db]at hz;have:z=x:=by simpa using hz
  rw[this];exact h w hw
theorem MI.pushA{κ:Keyed->Int}{a b out:Array Keyed}{ia ib:Nat}{x:Keyed}(m:MI κ a.toList b.toList out.toList ia ib)(sa:Rise κ a.toList)(la:ia<a.size)(da:a.toList.drop ia=x::a.toList.drop (ia+1))(h:∀w∈b.toList.drop ib,κ x<=κ w):MI κ a.toList b.toList (out.push x).toList (ia+1) ib:=by
 have:=m.takeA sa (k:=1) (by rw[Array.length_toList];lia) (λ z hz w hw=>?_)
 .rw[da]at this;rw[Array.toList_push]
  simpa using this
 .rw[da]at hz;have:z=x:=by simpa using hz
  rw[this];exact h w hw
theorem MI.extA{κ:Keyed->Int}{a b out:Array Keyed}{ia ib k:Nat}(m:MI κ a.toList b.toList out.toList ia ib)(sa:Rise κ a.toList)(hk:ia+k<=a.size)(h:∀x∈(a.toList.drop ia).take k,∀y∈b.toList.drop ib,κ x<=κ y):MI κ a.toList b.toList (out++a.extract ia (ia+k)).toList (ia+k) ib:=by
 rw[Array.toList_append,PU];exact m.takeA sa (by rw[Array.length_toList];exact hk) h
theorem MI.extB{κ:Keyed->Int}{a b out:Array Keyed}{ia ib k:Nat}(m:MI κ a.toList b.toList out.toList ia ib)(sb:Rise κ b.toList)(hk:ib+k<=b.size)(h:∀x∈(b.toList.drop ib).take k,∀y∈a.toList.drop ia,κ x<=κ y):MI κ a.toList b.toList (out++b.extract ib (ib+k)).toList ia (ib+k):=by
 rw[Array.toList_append,PU];exact m.takeB sb (by rw[Array.length_toList];exact hk) h
theorem Cn{a:Array Keyed}{i:Nat}{x:Keyed}(h:x∈a.toList.drop i):∃j,i+j<a.size/\x=a.getD (i+j) default:=by
 obtain⟨j,hj,e⟩:=List.getElem_of_mem h;rw[List.length_drop,Array.length_toList]at hj;refine⟨j,by lia,?_⟩;rw[List.getElem_drop]at e;rw[<-e];have:i+j<a.size:=by lia
 simp[Array.getD,this]
theorem AM{a:Array Keyed}{i k:Nat}{x:Keyed}(h:x∈(a.toList.drop i).take k):∃j,j<k/\i+j<a.size/\x=a.getD (i+j) default:=by
 obtain⟨j,hj,e⟩:=List.getElem_of_mem h;rw[List.length_take,List.length_drop,Array.length_toList]at hj;refine⟨j,by lia,by lia,?_⟩;rw[List.getElem_take,List.getElem_drop]at e;rw[<-e];have:i+j<a.size:=by lia
 simp[Array.getD,this]
theorem Gb{a:Array Keyed}{i:Nat}{x:Keyed}(h:a[i]?=some x):a.getD i default=x:=by rw[Array.getD_eq_getD_getElem?,h];rfl
theorem KI{kd:SortKind}{κ:Keyed->Int}{S:Keyed->Prop}{a b:Array Keyed}{st:SortSt}{Q:Array Keyed->SortSt->Prop}(L:LtG M A E s kd κ S)(hk:kindOf st=kd)(ha:0<a.size)(hb:0<b.size)(hSa:∀x∈a.toList,S x)(hSb:∀x∈b.toList,S x)
  (sa:Rise κ a.toList) (sb:Rise κ b.toList) (hf:∀x∈b.toList.take 1,∀y∈a.toList,κ x<=κ y) (hl:∀x∈b.toList,∀y∈a.toList.drop (a.size-1),κ x<=κ y)
  (h:∀r st',AU κ a b r->CK st st'->Q r st'):wpS M A E s (PB a b) Q st:=by
 refine wpS_bind (wpS_lift (wpAny_rule ⟨rfl,?_⟩));obtain⟨b0,eb0,mb0,db0⟩:=CI hb;have lk0:CK st st:=⟨rfl,rfl,rfl,rfl⟩;have m0:MI κ a.toList b.toList (#[b0]:Array Keyed).toList 0 1:=by
  have:=(MI.start (κ:=κ) a.toList b.toList).takeB sb (k:=1) (by rw[Array.length_toList];lia) (λ x hx y hy=>hf x (by simpa using hx) y (by simpa using hy));rw[db0]at this
  simpa using this
 refine wpS_bind (Aj eb0 ?_);dsimp only;by_cases h1:1=b.size
 .rw[if_pos (beq_iff_eq.mpr h1)];exact wpS_pure (h _ _ (AJ m0 sa sb (.inl h1)) lk0)
 rw[if_neg (λ z=>h1 (beq_iff_eq.mp z))];by_cases h2:0+1=a.size
 .rw[if_pos (beq_iff_eq.mpr h2)];exact wpS_pure (h _ _ (AI m0 sa sb (by rw[show(0:Nat)=a.size-1 by lia];exact hl)) lk0)
 rw[if_neg (λ z=>h2 (beq_iff_eq.mp z))];refine wpS_bind (wpS_get ?_);refine wpS_bind (wpS_mono (wpS_forRange (I:=λ x (c:Option (Array Keyed)×Array Keyed×Nat×Nat×Nat) st'=>c.1=none/\GoL κ a b c.2.1 c.2.2.1 c.2.2.2.1/\x+1<=c.2.2.1+c.2.2.2.1/\CK st st')
  (Q:=λ(c:Option (Array Keyed)×Array Keyed×Nat×Nat×Nat) st'=>CK st st'/\∃r,c.1=some r/\AU κ a b r) ?ostep ?ofin (And.intro rfl ⟨⟨m0,by show 0+1<a.size;lia,by show 1<b.size;lia⟩,by show 0+1<=0+1;lia,lk0⟩)) ?opost)
 case ofin =>
  rintro⟨r,out,ia,ib,mg⟩ st1 ⟨e1,go,hge,lk⟩;have hge:max 0 (a.size+b.size)+1<=ia+ib:=hge;have l1:ia+1<a.size:=go.la;have l2:ib<b.size:=go.lb;lia
 case opost =>
  rintro⟨r,out,ia,ib,mg⟩ st1 ⟨lk,r',e1,mr⟩;have e1:r=some r':=e1;subst e1;exact wpS_pure (h _ _ mr lk)
 case ostep =>
  rintro x ⟨r,out,ia,ib,mg⟩ st1 _ hx ⟨e1,go,hge,lk⟩;have e1:r=none:=e1;subst e1;have hge:x+1<=ia+ib:=hge;dsimp only;refine wpS_bind (wpS_mono (wpS_forRange (I:=λ y (c:Option (Array Keyed)×Array Keyed×Nat×Nat×Nat×Nat) st'=>c.1=none/\GoL κ a b c.2.1 c.2.2.1 c.2.2.2.1/\c.2.2.1+c.2.2.2.1=ia+ib+y/\CK st st')
   (Q:=λ(c:Option (Array Keyed)×Array Keyed×Nat×Nat×Nat×Nat) st'=>CK st st'/\((∃r,c.1=some r/\AU κ a b r)\/(c.1=none/\GoL κ a b c.2.1 c.2.2.1 c.2.2.2.1/\ia+ib+1<=c.2.2.1+c.2.2.2.1))) ?istep ?ifin (And.intro rfl ⟨go,rfl,lk⟩)) ?ipost)
  case ifin =>
   rintro⟨r,out,ia',ib',ac,bc⟩ st2 ⟨e1,go',hs,lk'⟩;have hs:ia'+ib'=ia+ib+max 0 (a.size+b.size):=hs;exact And.intro lk' (.inr ⟨e1,go',by show ia+ib+1<=ia'+ib';lia⟩)
  case istep =>
   rintro y ⟨r,out',ia',ib',ac,bc⟩ st2 _ hy ⟨e1,go',hs,lk'⟩;have e1:r=none:=e1;subst e1;have go':GoL κ a b out' ia' ib':=go';have hs:ia'+ib'=ia+ib+y:=hs;have l1:=go'.la;have l2:=go'.lb;dsimp only;obtain⟨xb,exb,mb,db⟩:=CI l2;obtain⟨xa,exa,ma,da⟩:=CI (show ia'<a.size by lia);refine wpS_bind (Aj exb (wpS_bind (Aj exa (wpS_bind (L xb xa (hSb _ mb) (hSa _ ma) st2 _ (lk'.kd.trans hk) ?_)))));dsimp only;by_cases hlt:κ xb<κ xa
   .rw[decide_eq_true hlt,if_pos rfl];refine wpS_bind (Aj exb ?_);have mi':=go'.stepB sa sb db da (Int.le_of_lt hlt);by_cases q1:ib'+1=b.size
    .rw[if_pos (beq_iff_eq.mpr q1)];exact wpS_pure (And.intro lk' (.inl ⟨_,rfl,AJ mi' sa sb (.inl q1)⟩))
    .rw[if_neg (λ z=>q1 (beq_iff_eq.mp z))];have gn:GoL κ a b (out'.push xb) ia' (ib'+1):=⟨mi',l1,by lia⟩;split
     .exact wpS_pure (And.intro lk' (.inr ⟨rfl,gn,by show ia+ib+1<=ia'+(ib'+1);lia⟩))
     .exact wpS_pure (And.intro rfl ⟨gn,by show ia'+(ib'+1)=ia+ib+(y+1);lia,lk'⟩)
   .rw[decide_eq_false hlt,if_neg Bool.false_ne_true];refine wpS_bind (Aj exa ?_);have mi':=go'.stepA sa sb db da (by lia);by_cases q1:ia'+1+1=a.size
    .rw[if_pos (beq_iff_eq.mpr q1)];exact wpS_pure (And.intro lk' (.inl ⟨_,rfl,AI mi' sa sb (by rw[show ia'+1=a.size-1 by lia];exact hl)⟩))
    .rw[if_neg (λ z=>q1 (beq_iff_eq.mp z))];have gn:GoL κ a b (out'.push xa) (ia'+1) ib':=⟨mi',by lia,l2⟩;split
     .exact wpS_pure (And.intro lk' (.inr ⟨rfl,gn,by show ia+ib+1<=ia'+1+ib';lia⟩))
     .exact wpS_pure (And.intro rfl ⟨gn,by show ia'+1+ib'=ia+ib+(y+1);lia,lk'⟩)
  case ipost =>
   rintro⟨r,out',ia',ib',ac,bc⟩ st2 ⟨lk',hh⟩;rcases hh with ⟨r',e1,mr⟩|⟨e1,go',hs⟩
   .have e1:r=some r':=e1;subst e1;exact wpS_pure (And.intro lk' ⟨_,rfl,mr⟩)
   .have e1:r=none:=e1;subst e1;have go':GoL κ a b out' ia' ib':=go';have hs:ia+ib+1<=ia'+ib':=hs;dsimp only;refine wpS_bind (wpS_lift (wpAny_rule ⟨rfl,?_⟩));refine wpS_bind (wpS_mono (wpS_forRange (I:=λ y (c:Option (Array Keyed)×Array Keyed×Nat×Nat×Nat×Nat×Nat) st'=>c.1=none/\GoL κ a b c.2.1 c.2.2.1 c.2.2.2.1/\ia+ib+1<=c.2.2.1+c.2.2.2.1/\CK st st')
     (Q:=λ(c:Option (Array Keyed)×Array Keyed×Nat×Nat×Nat×Nat×Nat) st'=>CK st st'/\((∃r,c.1=some r/\AU κ a b r)\/(c.1=none/\GoL κ a b c.2.1 c.2.2.1 c.2.2.2.1/\ia+ib+1<=c.2.2.1+c.2.2.2.1))) ?gstep ?gfin (And.intro rfl ⟨go',hs,lk'⟩)) ?gpost)
    case gfin =>
     rintro⟨r,out,ia2,ib2,mg2,ac,bc⟩ st3 ⟨e1,go2,hs2,lk2⟩;exact And.intro lk2 (.inr ⟨e1,go2,hs2⟩)
    case gpost =>
     rintro⟨r,out,ia2,ib2,mg2,ac,bc⟩ st3 ⟨lk2,hh2⟩;rcases hh2 with ⟨r',e1,mr⟩|⟨e1,go2,hs2⟩
     .have e1:r=some r':=e1;subst e1;exact wpS_pure (And.intro lk2 ⟨_,rfl,mr⟩)
     .have e1:r=none:=e1;subst e1;have hs2:ia+ib+1<=ia2+ib2:=hs2;refine wpS_bind (wpS_modify ?_);exact wpS_pure (And.intro rfl ⟨go2,by show x+1+1<=ia2+ib2;lia,⟨lk2.kd,lk2.ar,lk2.pe,lk2.fa⟩⟩)
    case gstep =>
     rintro y ⟨r,out2,ia2,ib2,mg2,ac,bc⟩ st3 _ hy ⟨e1,go2,hs2,lk2⟩;have e1:r=none:=e1;subst e1;have go2:GoL κ a b out2 ia2 ib2:=go2;have hs2:ia+ib+1<=ia2+ib2:=hs2;dsimp only;have l1:=go2.la;have l2:=go2.lb;have inA:∀i,i<a.size->∃x,a[i]?=some x/\S x:=λ i hi=>by
      obtain⟨x,e,m,_⟩:=CI hi;exact⟨x,e,hSa x m⟩
     have inB:∀i,i<b.size->∃x,b[i]?=some x/\S x:=λ i hi=>by
      obtain⟨x,e,m,_⟩:=CI hi;exact⟨x,e,hSb x m⟩
     by_cases hm:mg2>1
     .rw[if_pos hm];refine wpS_bind (wpS_modify ?_);have lkN:CK st (SortSt.mk' (kindOf st3) (arrOf st3) (pendingOf st3) (mg2-1) (failedOf st3)):=⟨lk2.kd,lk2.ar,lk2.pe,lk2.fa⟩;obtain⟨xb,exb,mb,db⟩:=CI l2;refine wpS_bind (Aj exb (wpS_bind (AH (B:=λ i=>!decide (κ xb<κ (a.getD (ia2+i) default))) (lkN.kd.trans hk) (HH L (hSb _ mb) (λ i hi=>inA _ (by lia))) (λ i j hij hj hB=>?_) (by lia) λ k hk' f1 f2=>?_)))
      .have h3:=Bj sa (i:=ia2+i) (j:=ia2+j) (by lia) (by lia);simp only[Bool.not_eq_true',decide_eq_false_iff_not]at hB |-;lia
      have u1:∀z∈(a.toList.drop ia2).take k,∀w∈b.toList.drop ib2,κ z<=κ w:=λ z hz w hw=>by
       obtain⟨j,j1,j2,rfl⟩:=AM hz;have h3:=f1 j j1;simp only[Bool.not_eq_true',decide_eq_false_iff_not]at h3;have h4:=B9 sb db w hw;lia
      have u2:∀w∈a.toList.drop (ia2+k),κ xb<=κ w:=λ w hw=>by
       obtain⟨j,j1,rfl⟩:=Cn hw;have h3:=f2 (k+j) (by lia) (by lia);simp only[Bool.not_eq_false',decide_eq_true_eq]at h3;rw[<-Nat.add_assoc]at h3;lia
      dsimp only;by_cases p0:k>0
      .rw[if_pos p0];have m2:=go2.mi.extA sa (k:=k) (by lia) u1;by_cases q1:ia2+k+1=a.size
       .rw[if_pos (beq_iff_eq.mpr q1)];exact wpS_pure (And.intro lkN (.inl ⟨_,rfl,AI m2 sa sb (by rw[show ia2+k=a.size-1 by lia];exact hl)⟩))
       .rw[if_neg (λ z=>q1 (beq_iff_eq.mp z))];by_cases q2:ia2+k=a.size
        .rw[if_pos (beq_iff_eq.mpr q2)];exact wpS_pure (And.intro lkN (.inl ⟨_,rfl,AJ m2 sa sb (.inr q2)⟩))
        .rw[if_neg (λ z=>q2 (beq_iff_eq.mp z))];have kB:=u2;refine wpS_bind (Aj exb ?_);have m3:=m2.pushB sb l2 db kB;by_cases q3:ib2+1=b.size
         .rw[if_pos (beq_iff_eq.mpr q3)];exact wpS_pure (And.intro lkN (.inl ⟨_,rfl,AJ m3 sa sb (.inl q3)⟩))
         .rw[if_neg (λ z=>q3 (beq_iff_eq.mp z))];obtain⟨xa,exa,ma,da⟩:=CI (show ia2+k<a.size by lia);refine wpS_bind (Aj exa (wpS_bind (AH (B:=λ i=>decide (κ (b.getD (ib2+1+i) default)<κ xa)) (lkN.kd.trans hk) (Dp L (hSa _ ma) (λ i hi=>inB _ (by lia))) (λ i j hij hj hB=>decide_eq_true (Int.lt_of_le_of_lt (Bj sb (by lia) (by lia)) (of_decide_eq_true hB))) (by lia) λ k1 hk1 g1 g2=>?_)));have t1:∀z∈(b.toList.drop (ib2+1)).take k1,∀w∈a.toList.drop (ia2+k),κ z<=κ w:=λ z hz w hw=>by
           obtain⟨j,j1,j2,rfl⟩:=AM hz;exact Int.le_trans (Int.le_of_lt (of_decide_eq_true (g1 j j1))) (B9 sa da w hw)
          have t2:∀w∈b.toList.drop (ib2+1+k1),κ xa<=κ w:=λ w hw=>by
           obtain⟨j,j1,rfl⟩:=Cn hw;have:=of_decide_eq_false (g2 (k1+j) (by lia) (by lia));rw[<-Nat.add_assoc]at this;lia
          dsimp only;by_cases p1:k1>0
          .rw[if_pos p1];have m4:=m3.extB sb (k:=k1) (by lia) t1;by_cases q4:ib2+1+k1=b.size
           .rw[if_pos (beq_iff_eq.mpr q4)];exact wpS_pure (And.intro lkN (.inl ⟨_,rfl,AJ m4 sa sb (.inl q4)⟩))
           .rw[if_neg (λ z=>q4 (beq_iff_eq.mp z))];have kA:=t2;refine wpS_bind (Aj exa ?_);have m5:=m4.pushA sa (by lia) da kA;by_cases q5:ia2+k+1+1=a.size
            .rw[if_pos (beq_iff_eq.mpr q5)];exact wpS_pure (And.intro lkN (.inl ⟨_,rfl,AI m5 sa sb (by rw[show ia2+k+1=a.size-1 by lia];exact hl)⟩))
            .rw[if_neg (λ z=>q5 (beq_iff_eq.mp z))];have gn:GoL κ a b _ (ia2+k+1) (ib2+1+k1):=⟨m5,by lia,by lia⟩;split
             .exact wpS_pure (And.intro lkN (.inr ⟨rfl,gn,by show ia+ib+1<=ia2+k+1+(ib2+1+k1);lia⟩))
             .exact wpS_pure (And.intro rfl ⟨gn,by show ia+ib+1<=ia2+k+1+(ib2+1+k1);lia,lkN⟩)
          .rw[if_neg p1];have k10:k1=0:=by lia
           subst k10;have kA:∀w∈b.toList.drop (ib2+1),κ xa<=κ w:=t2;refine wpS_bind (Aj exa ?_);have m5:=m3.pushA sa (by lia) da kA;by_cases q5:ia2+k+1+1=a.size
           .rw[if_pos (beq_iff_eq.mpr q5)];exact wpS_pure (And.intro lkN (.inl ⟨_,rfl,AI m5 sa sb (by rw[show ia2+k+1=a.size-1 by lia];exact hl)⟩))
           .rw[if_neg (λ z=>q5 (beq_iff_eq.mp z))];have gn:GoL κ a b _ (ia2+k+1) (ib2+1):=⟨m5,by lia,by lia⟩;split
            .exact wpS_pure (And.intro lkN (.inr ⟨rfl,gn,by show ia+ib+1<=ia2+k+1+(ib2+1);lia⟩))
            .exact wpS_pure (And.intro rfl ⟨gn,by show ia+ib+1<=ia2+k+1+(ib2+1);lia,lkN⟩)
      .rw[if_neg p0];have k00:k=0:=by lia
       subst k00;have kB:∀w∈a.toList.drop ia2,κ xb<=κ w:=u2;have mi2:=go2.mi;refine wpS_bind (Aj exb ?_);have m3:=mi2.pushB sb l2 db kB;by_cases q3:ib2+1=b.size
       .rw[if_pos (beq_iff_eq.mpr q3)];exact wpS_pure (And.intro lkN (.inl ⟨_,rfl,AJ m3 sa sb (.inl q3)⟩))
       .rw[if_neg (λ z=>q3 (beq_iff_eq.mp z))];obtain⟨xa,exa,ma,da⟩:=CI (show ia2<a.size by lia);refine wpS_bind (Aj exa (wpS_bind (AH (B:=λ i=>decide (κ (b.getD (ib2+1+i) default)<κ xa)) (lkN.kd.trans hk) (Dp L (hSa _ ma) (λ i hi=>inB _ (by lia))) (λ i j hij hj hB=>decide_eq_true (Int.lt_of_le_of_lt (Bj sb (by lia) (by lia)) (of_decide_eq_true hB))) (by lia) λ k1 hk1 g1 g2=>?_)));have t1:∀z∈(b.toList.drop (ib2+1)).take k1,∀w∈a.toList.drop (ia2),κ z<=κ w:=λ z hz w hw=>by
         obtain⟨j,j1,j2,rfl⟩:=AM hz;exact Int.le_trans (Int.le_of_lt (of_decide_eq_true (g1 j j1))) (B9 sa da w hw)
        have t2:∀w∈b.toList.drop (ib2+1+k1),κ xa<=κ w:=λ w hw=>by
         obtain⟨j,j1,rfl⟩:=Cn hw;have:=of_decide_eq_false (g2 (k1+j) (by lia) (by lia));rw[<-Nat.add_assoc]at this;lia
        dsimp only;by_cases p1:k1>0
        .rw[if_pos p1];have m4:=m3.extB sb (k:=k1) (by lia) t1;by_cases q4:ib2+1+k1=b.size
         .rw[if_pos (beq_iff_eq.mpr q4)];exact wpS_pure (And.intro lkN (.inl ⟨_,rfl,AJ m4 sa sb (.inl q4)⟩))
         .rw[if_neg (λ z=>q4 (beq_iff_eq.mp z))];have kA:=t2;refine wpS_bind (Aj exa ?_);have m5:=m4.pushA sa (by lia) da kA;by_cases q5:ia2+1+1=a.size
          .rw[if_pos (beq_iff_eq.mpr q5)];exact wpS_pure (And.intro lkN (.inl ⟨_,rfl,AI m5 sa sb (by rw[show ia2+1=a.size-1 by lia];exact hl)⟩))
          .rw[if_neg (λ z=>q5 (beq_iff_eq.mp z))];have gn:GoL κ a b _ (ia2+1) (ib2+1+k1):=⟨m5,by lia,by lia⟩;split
           .exact wpS_pure (And.intro lkN (.inr ⟨rfl,gn,by show ia+ib+1<=ia2+1+(ib2+1+k1);lia⟩))
           .exact wpS_pure (And.intro rfl ⟨gn,by show ia+ib+1<=ia2+1+(ib2+1+k1);lia,lkN⟩)
        .rw[if_neg p1];have k10:k1=0:=by lia
         subst k10;have kA:∀w∈b.toList.drop (ib2+1),κ xa<=κ w:=t2;refine wpS_bind (Aj exa ?_);have m5:=m3.pushA sa (by lia) da kA;by_cases q5:ia2+1+1=a.size
         .rw[if_pos (beq_iff_eq.mpr q5)];exact wpS_pure (And.intro lkN (.inl ⟨_,rfl,AI m5 sa sb (by rw[show ia2+1=a.size-1 by lia];exact hl)⟩))
         .rw[if_neg (λ z=>q5 (beq_iff_eq.mp z))];have gn:GoL κ a b _ (ia2+1) (ib2+1):=⟨m5,by lia,by lia⟩;split
          .exact wpS_pure (And.intro lkN (.inr ⟨rfl,gn,by show ia+ib+1<=ia2+1+(ib2+1);lia⟩))
          .exact wpS_pure (And.intro rfl ⟨gn,by show ia+ib+1<=ia2+1+(ib2+1);lia,lkN⟩)
     .rw[if_neg hm];refine wpS_bind (wpS_modify ?_);have lkN:CK st (SortSt.mk' (kindOf st3) (arrOf st3) (pendingOf st3) mg2 (failedOf st3)):=⟨lk2.kd,lk2.ar,lk2.pe,lk2.fa⟩;obtain⟨xb,exb,mb,db⟩:=CI l2;refine wpS_bind (Aj exb (wpS_bind (AH (B:=λ i=>!decide (κ xb<κ (a.getD (ia2+i) default))) (lkN.kd.trans hk) (HH L (hSb _ mb) (λ i hi=>inA _ (by lia))) (λ i j hij hj hB=>?_) (by lia) λ k hk' f1 f2=>?_)))
      .have h3:=Bj sa (i:=ia2+i) (j:=ia2+j) (by lia) (by lia);simp only[Bool.not_eq_true',decide_eq_false_iff_not]at hB |-;lia
      have u1:∀z∈(a.toList.drop ia2).take k,∀w∈b.toList.drop ib2,κ z<=κ w:=λ z hz w hw=>by
       obtain⟨j,j1,j2,rfl⟩:=AM hz;have h3:=f1 j j1;simp only[Bool.not_eq_true',decide_eq_false_iff_not]at h3;have h4:=B9 sb db w hw;lia
      have u2:∀w∈a.toList.drop (ia2+k),κ xb<=κ w:=λ w hw=>by
       obtain⟨j,j1,rfl⟩:=Cn hw;have h3:=f2 (k+j) (by lia) (by lia);simp only[Bool.not_eq_false',decide_eq_true_eq]at h3;rw[<-Nat.add_assoc]at h3;lia
      dsimp only;by_cases p0:k>0
      .rw[if_pos p0];have m2:=go2.mi.extA sa (k:=k) (by lia) u1;by_cases q1:ia2+k+1=a.size
       .rw[if_pos (beq_iff_eq.mpr q1)];exact wpS_pure (And.intro lkN (.inl ⟨_,rfl,AI m2 sa sb (by rw[show ia2+k=a.size-1 by lia];exact hl)⟩))
       .rw[if_neg (λ z=>q1 (beq_iff_eq.mp z))];by_cases q2:ia2+k=a.size
        .rw[if_pos (beq_iff_eq.mpr q2)];exact wpS_pure (And.intro lkN (.inl ⟨_,rfl,AJ m2 sa sb (.inr q2)⟩))
        .rw[if_neg (λ z=>q2 (beq_iff_eq.mp z))];have kB:=u2;refine wpS_bind (Aj exb ?_);have m3:=m2.pushB sb l2 db kB;by_cases q3:ib2+1=b.size
         .rw[if_pos (beq_iff_eq.mpr q3)];exact wpS_pure (And.intro lkN (.inl ⟨_,rfl,AJ m3 sa sb (.inl q3)⟩))
         .rw[if_neg (λ z=>q3 (beq_iff_eq.mp z))];obtain⟨xa,exa,ma,da⟩:=CI (show ia2+k<a.size by lia);refine wpS_bind (Aj exa (wpS_bind (AH (B:=λ i=>decide (κ (b.getD (ib2+1+i) default)<κ xa)) (lkN.kd.trans hk) (Dp L (hSa _ ma) (λ i hi=>inB _ (by lia))) (λ i j hij hj hB=>decide_eq_true (Int.lt_of_le_of_lt (Bj sb (by lia) (by lia)) (of_decide_eq_true hB))) (by lia) λ k1 hk1 g1 g2=>?_)));have t1:∀z∈(b.toList.drop (ib2+1)).take k1,∀w∈a.toList.drop (ia2+k),κ z<=κ w:=λ z hz w hw=>by
           obtain⟨j,j1,j2,rfl⟩:=AM hz;exact Int.le_trans (Int.le_of_lt (of_decide_eq_true (g1 j j1))) (B9 sa da w hw)
          have t2:∀w∈b.toList.drop (ib2+1+k1),κ xa<=κ w:=λ w hw=>by
           obtain⟨j,j1,rfl⟩:=Cn hw;have:=of_decide_eq_false (g2 (k1+j) (by lia) (by lia));rw[<-Nat.add_assoc]at this;lia
          dsimp only;by_cases p1:k1>0
          .rw[if_pos p1];have m4:=m3.extB sb (k:=k1) (by lia) t1;by_cases q4:ib2+1+k1=b.size
           .rw[if_pos (beq_iff_eq.mpr q4)];exact wpS_pure (And.intro lkN (.inl ⟨_,rfl,AJ m4 sa sb (.inl q4)⟩))
           .rw[if_neg (λ z=>q4 (beq_iff_eq.mp z))];have kA:=t2;refine wpS_bind (Aj exa ?_);have m5:=m4.pushA sa (by lia) da kA;by_cases q5:ia2+k+1+1=a.size
            .rw[if_pos (beq_iff_eq.mpr q5)];exact wpS_pure (And.intro lkN (.inl ⟨_,rfl,AI m5 sa sb (by rw[show ia2+k+1=a.size-1 by lia];exact hl)⟩))
            .rw[if_neg (λ z=>q5 (beq_iff_eq.mp z))];have gn:GoL κ a b _ (ia2+k+1) (ib2+1+k1):=⟨m5,by lia,by lia⟩;split
             .exact wpS_pure (And.intro lkN (.inr ⟨rfl,gn,by show ia+ib+1<=ia2+k+1+(ib2+1+k1);lia⟩))
             .exact wpS_pure (And.intro rfl ⟨gn,by show ia+ib+1<=ia2+k+1+(ib2+1+k1);lia,lkN⟩)
          .rw[if_neg p1];have k10:k1=0:=by lia
           subst k10;have kA:∀w∈b.toList.drop (ib2+1),κ xa<=κ w:=t2;refine wpS_bind (Aj exa ?_);have m5:=m3.pushA sa (by lia) da kA;by_cases q5:ia2+k+1+1=a.size
           .rw[if_pos (beq_iff_eq.mpr q5)];exact wpS_pure (And.intro lkN (.inl ⟨_,rfl,AI m5 sa sb (by rw[show ia2+k+1=a.size-1 by lia];exact hl)⟩))
           .rw[if_neg (λ z=>q5 (beq_iff_eq.mp z))];have gn:GoL κ a b _ (ia2+k+1) (ib2+1):=⟨m5,by lia,by lia⟩;split
            .exact wpS_pure (And.intro lkN (.inr ⟨rfl,gn,by show ia+ib+1<=ia2+k+1+(ib2+1);lia⟩))
            .exact wpS_pure (And.intro rfl ⟨gn,by show ia+ib+1<=ia2+k+1+(ib2+1);lia,lkN⟩)
      .rw[if_neg p0];have k00:k=0:=by lia
       subst k00;have kB:∀w∈a.toList.drop ia2,κ xb<=κ w:=u2;have mi2:=go2.mi;refine wpS_bind (Aj exb ?_);have m3:=mi2.pushB sb l2 db kB;by_cases q3:ib2+1=b.size
       .rw[if_pos (beq_iff_eq.mpr q3)];exact wpS_pure (And.intro lkN (.inl ⟨_,rfl,AJ m3 sa sb (.inl q3)⟩))
       .rw[if_neg (λ z=>q3 (beq_iff_eq.mp z))];obtain⟨xa,exa,ma,da⟩:=CI (show ia2<a.size by lia);refine wpS_bind (Aj exa (wpS_bind (AH (B:=λ i=>decide (κ (b.getD (ib2+1+i) default)<κ xa)) (lkN.kd.trans hk) (Dp L (hSa _ ma) (λ i hi=>inB _ (by lia))) (λ i j hij hj hB=>decide_eq_true (Int.lt_of_le_of_lt (Bj sb (by lia) (by lia)) (of_decide_eq_true hB))) (by lia) λ k1 hk1 g1 g2=>?_)));have t1:∀z∈(b.toList.drop (ib2+1)).take k1,∀w∈a.toList.drop (ia2),κ z<=κ w:=λ z hz w hw=>by
         obtain⟨j,j1,j2,rfl⟩:=AM hz;exact Int.le_trans (Int.le_of_lt (of_decide_eq_true (g1 j j1))) (B9 sa da w hw)
        have t2:∀w∈b.toList.drop (ib2+1+k1),κ xa<=κ w:=λ w hw=>by
         obtain⟨j,j1,rfl⟩:=Cn hw;have:=of_decide_eq_false (g2 (k1+j) (by lia) (by lia));rw[<-Nat.add_assoc]at this;lia
        dsimp only;by_cases p1:k1>0
        .rw[if_pos p1];have m4:=m3.extB sb (k:=k1) (by lia) t1;by_cases q4:ib2+1+k1=b.size
         .rw[if_pos (beq_iff_eq.mpr q4)];exact wpS_pure (And.intro lkN (.inl ⟨_,rfl,AJ m4 sa sb (.inl q4)⟩))
         .rw[if_neg (λ z=>q4 (beq_iff_eq.mp z))];have kA:=t2;refine wpS_bind (Aj exa ?_);have m5:=m4.pushA sa (by lia) da kA;by_cases q5:ia2+1+1=a.size
          .rw[if_pos (beq_iff_eq.mpr q5)];exact wpS_pure (And.intro lkN (.inl ⟨_,rfl,AI m5 sa sb (by rw[show ia2+1=a.size-1 by lia];exact hl)⟩))
          .rw[if_neg (λ z=>q5 (beq_iff_eq.mp z))];have gn:GoL κ a b _ (ia2+1) (ib2+1+k1):=⟨m5,by lia,by lia⟩;split
           .exact wpS_pure (And.intro lkN (.inr ⟨rfl,gn,by show ia+ib+1<=ia2+1+(ib2+1+k1);lia⟩))
           .exact wpS_pure (And.intro rfl ⟨gn,by show ia+ib+1<=ia2+1+(ib2+1+k1);lia,lkN⟩)
        .rw[if_neg p1];have k10:k1=0:=by lia
         subst k10;have kA:∀w∈b.toList.drop (ib2+1),κ xa<=κ w:=t2;refine wpS_bind (Aj exa ?_);have m5:=m3.pushA sa (by lia) da kA;by_cases q5:ia2+1+1=a.size
         .rw[if_pos (beq_iff_eq.mpr q5)];exact wpS_pure (And.intro lkN (.inl ⟨_,rfl,AI m5 sa sb (by rw[show ia2+1=a.size-1 by lia];exact hl)⟩))
         .rw[if_neg (λ z=>q5 (beq_iff_eq.mp z))];have gn:GoL κ a b _ (ia2+1) (ib2+1):=⟨m5,by lia,by lia⟩;split
          .exact wpS_pure (And.intro lkN (.inr ⟨rfl,gn,by show ia+ib+1<=ia2+1+(ib2+1);lia⟩))
          .exact wpS_pure (And.intro rfl ⟨gn,by show ia+ib+1<=ia2+1+(ib2+1);lia,lkN⟩)
end
section
variable{α:Type}{κ:α->Int}
structure MH(κ:α->Int)(a b out:List α)(na nb:Nat):Prop where
 pm:(a.take na++b.take nb++out).Perm (a++b)
 so:Rise κ out
 le:∀x∈a.take na++b.take nb,∀y∈out,κ x<=κ y
 la:na<=a.length
 lb:nb<=b.length
theorem Rise.take{xs:List α}(h:Rise κ xs)(n:Nat):Rise κ (xs.take n):=List.Pairwise.sublist (List.take_sublist n xs) h
theorem DX(xs:List α){m n:Nat}(h:m<=n):xs.take n=xs.take m++(xs.take n).drop m:=by
 have:=(List.take_append_drop m (xs.take n)).symm;rw[List.take_take,Nat.min_eq_left h]at this;exact this
theorem MH.start(a b:List α):MH κ a b [] a.length b.length:=⟨by simp,List.Pairwise.nil,λ x _ y h=>absurd h List.not_mem_nil,Nat.le_refl _,Nat.le_refl _⟩
theorem MH.takeA{a b out:List α}{na nb m:Nat}(q:MH κ a b out na nb)(sa:Rise κ a)(hm:m<=na)(h:∀x∈b.take nb,∀y∈(a.take na).drop m,κ x<=κ y):MH κ a b ((a.take na).drop m++out) m nb:=by
 have e:=DX a hm;have sd:=sa.take na;rw[e]at sd;obtain⟨s1,s2,s3⟩:=List.pairwise_append.mp sd;have inn:∀y∈(a.take na).drop m,y∈a.take na:=λ y hy=>List.mem_of_mem_drop hy;have in1:∀y∈a.take m,y∈a.take na:=λ y hy=>by rw[e];exact List.mem_append_left _ hy
 refine⟨?_,Rise.app s2 q.so λ x hx y hy=>q.le x (List.mem_append_left _ (inn x hx)) y hy,λ x hx y hy=>?_,by have:=q.la;lia,q.lb⟩
 .refine List.Perm.trans ?_ q.pm;rw[<-List.append_assoc];refine List.Perm.append_right out ?_;have e2:a.take na++b.take nb=a.take m++(a.take na).drop m++b.take nb:=by rw[<-e]
  rw[e2,List.append_assoc,List.append_assoc];exact List.Perm.append_left _ List.perm_append_comm
 .rcases List.mem_append.mp hy with hy|hy
  .rcases List.mem_append.mp hx with hx|hx
   .exact s3 x hx y hy
   .exact h x hx y hy
  .rcases List.mem_append.mp hx with hx|hx
   .exact q.le x (List.mem_append_left _ (in1 x hx)) y hy
   .exact q.le x (List.mem_append_right _ hx) y hy
theorem MH.takeB{a b out:List α}{na nb m:Nat}(q:MH κ a b out na nb)(sb:Rise κ b)(hm:m<=nb)(h:∀x∈a.take na,∀y∈(b.take nb).drop m,κ x<=κ y):MH κ a b ((b.take nb).drop m++out) na m:=by
 have e:=DX b hm;have sd:=sb.take nb;rw[e]at sd;obtain⟨s1,s2,s3⟩:=List.pairwise_append.mp sd;have inn:∀y∈(b.take nb).drop m,y∈b.take nb:=λ y hy=>List.mem_of_mem_drop hy;have in1:∀y∈b.take m,y∈b.take nb:=λ y hy=>by rw[e];exact List.mem_append_left _ hy
 refine⟨?_,Rise.app s2 q.so λ x hx y hy=>q.le x (List.mem_append_right _ (inn x hx)) y hy,λ x hx y hy=>?_,q.la,by have:=q.lb;lia⟩
 .refine List.Perm.trans ?_ q.pm;rw[<-List.append_assoc];refine List.Perm.append_right out ?_;rw[List.append_assoc,<-e]
 .rcases List.mem_append.mp hy with hy|hy
  .rcases List.mem_append.mp hx with hx|hx
   .exact h x hx y hy
   .exact s3 x hx y hy
  .rcases List.mem_append.mp hx with hx|hx
   .exact q.le x (List.mem_append_left _ hx) y hy
   .exact q.le x (List.mem_append_right _ (in1 x hx)) y hy
theorem MH.done{a b out:List α}{na nb:Nat}(q:MH κ a b out na nb)(sa:Rise κ a)(sb:Rise κ b)(h:na=0\/nb=0):Rise κ (a.take na++b.take nb++out)/\(a.take na++b.take nb++out).Perm (a++b):=by
 refine⟨?_,q.pm⟩;refine Rise.app ((sa.take na).app (sb.take nb) λ x hx y hy=>?_) q.so q.le;rcases h with h|h
 .rw[h,List.take_zero]at hx;exact absurd hx List.not_mem_nil
 .rw[h,List.take_zero]at hy;exact absurd hy List.not_mem_nil
theorem MH.firstB{a b out:List α}{na nb:Nat}(q:MH κ a b out na nb)(sa:Rise κ a)(sb:Rise κ b)(h:∀x∈b.take nb,∀y∈a,κ x<=κ y):Rise κ (b.take nb++a.take na++out)/\(b.take nb++a.take na++out).Perm (a++b):=by
 refine⟨?_,?_⟩
 .refine Rise.app ((sb.take nb).app (sa.take na) λ x hx y hy=>h x hx y (List.mem_of_mem_take hy)) q.so λ x hx y hy=>q.le x ?_ y hy;rcases List.mem_append.mp hx with hx|hx
  .exact List.mem_append_right _ hx
  .exact List.mem_append_left _ hx
 .exact(List.Perm.append_right out List.perm_append_comm).trans q.pm
end
section
variable{M:Model}{A:Around}{E:VPz}{s:Shared}
def PD:Array Keyed->Array Keyed->StateT SortSt Sem (Array Keyed):=sortPriv% PySem.Builtin.mergeHi
theorem Es{α:Type}(a:Array α)(m n:Nat):(a.extract m n).toList=(a.toList.take n).drop m:=by
 rw[Array.toList_extract,List.extract_eq_drop_take,List.drop_take]
theorem Kv{κ:Keyed->Int}{a:Array Keyed}(sa:Rise κ a.toList){n:Nat}(h0:0<n)(h:n<=a.size):∃x,a[n-1]?=some x/\x∈a.toList/\(a.toList.take n).drop (n-1)=[x]/\∀y∈a.toList.take n,κ y<=κ x:=by
 obtain⟨x,e,m,d⟩:=CI (show n-1<a.size by lia);have e2:(a.toList.take n).drop (n-1)=[x]:=by
  rw[List.drop_take,d,show n-(n-1)=1 by lia];rfl
 refine⟨x,e,m,e2,λ y hy=>?_⟩;have e3:=DX a.toList (show n-1<=n by lia);have sd:=sa.take n;rw[e3]at sd hy;rw[e2]at sd hy;rcases List.mem_append.mp hy with hy|hy
 .exact(List.pairwise_append.mp sd).2.2 y hy x (by simp)
 .rw[List.mem_singleton.mp hy];exact Int.le_refl _
theorem MH.pushA{κ:Keyed->Int}{a b out:Array Keyed}{na nb:Nat}{x:Keyed}(m:MH κ a.toList b.toList out.toList.reverse na nb)(sa:Rise κ a.toList)(da:(a.toList.take na).drop (na-1)=[x])(h:∀w∈b.toList.take nb,κ w<=κ x):MH κ a.toList b.toList (out.push x).toList.reverse (na-1) nb:=by
 have:=m.takeA sa (m:=na-1) (by lia) (λ z hz w hw=>?_)
 .rw[da]at this;rw[Array.toList_push,List.reverse_append];exact this
 .rw[da]at hw;rw[List.mem_singleton.mp hw];exact h z hz
theorem MH.pushB{κ:Keyed->Int}{a b out:Array Keyed}{na nb:Nat}{x:Keyed}(m:MH κ a.toList b.toList out.toList.reverse na nb)(sb:Rise κ b.toList)(db:(b.toList.take nb).drop (nb-1)=[x])(h:∀w∈a.toList.take na,κ w<=κ x):MH κ a.toList b.toList (out.push x).toList.reverse na (nb-1):=by
 have:=m.takeB sb (m:=nb-1) (by lia) (λ z hz w hw=>?_)
 .rw[db]at this;rw[Array.toList_push,List.reverse_append];exact this
 .rw[db]at hw;rw[List.mem_singleton.mp hw];exact h z hz
theorem MH.extA{κ:Keyed->Int}{a b out:Array Keyed}{na nb m:Nat}(q:MH κ a.toList b.toList out.toList.reverse na nb)(sa:Rise κ a.toList)(hm:m<=na)(h:∀x∈b.toList.take nb,∀y∈(a.toList.take na).drop m,κ x<=κ y):MH κ a.toList b.toList (out++(a.extract m na).reverse).toList.reverse m nb:=by
 have:=q.takeA sa hm h;rw[Array.toList_append,List.reverse_append,Array.toList_reverse,List.reverse_reverse,Es];exact this
theorem MH.extB{κ:Keyed->Int}{a b out:Array Keyed}{na nb m:Nat}(q:MH κ a.toList b.toList out.toList.reverse na nb)(sb:Rise κ b.toList)(hm:m<=nb)(h:∀x∈a.toList.take na,∀y∈(b.toList.take nb).drop m,κ x<=κ y):MH κ a.toList b.toList (out++(b.extract m nb).reverse).toList.reverse na m:=by
 have:=q.takeB sb hm h;rw[Array.toList_append,List.reverse_append,Array.toList_reverse,List.reverse_reverse,Es];exact this
theorem Cm{a:Array Keyed}{n:Nat}{x:Keyed}(h:x∈a.toList.take n):∃j,j<n/\j<a.size/\x=a.getD (0+j) default:=by
 have h':x∈(a.toList.drop 0).take n:=by simpa using h
 obtain⟨j,h1,h2,h3⟩:=AM h';exact⟨j,h1,by lia,h3⟩
theorem DT{a:Array Keyed}{m n:Nat}{x:Keyed}(hmn:m<=n)(h:x∈(a.toList.take n).drop m):∃j,m<=j/\j<n/\j<a.size/\x=a.getD (0+j) default:=by
 rw[List.drop_take]at h;obtain⟨j,h1,h2,h3⟩:=AM h;exact⟨m+j,by lia,by lia,h2,by rw[Nat.zero_add];exact h3⟩
structure GoH(κ:Keyed->Int)(a b out:Array Keyed)(na nb:Nat):Prop where
 mi:MH κ a.toList b.toList out.toList.reverse na nb
 la:0<na
 lb:1<nb
theorem A4{κ:Keyed->Int}{a b out:Array Keyed}{na nb:Nat}(m:MH κ a.toList b.toList out.toList.reverse na nb)(sa:Rise κ a.toList)(sb:Rise κ b.toList)(h:na=0\/nb=0):AU κ a b (a.extract 0 na++b.extract 0 nb++out.reverse):=by
 have:=m.done sa sb h;unfold AU;rw[Array.toList_append,Array.toList_append,Es,Es,Array.toList_reverse,List.drop_zero,List.drop_zero];exact this
theorem AG{κ:Keyed->Int}{a b out:Array Keyed}{na nb:Nat}(m:MH κ a.toList b.toList out.toList.reverse na nb)(sa:Rise κ a.toList)(sb:Rise κ b.toList)(h1:nb=1)(h:∀x∈b.toList.take 1,∀y∈a.toList,κ x<=κ y):AU κ a b (b.extract 0 nb++a.extract 0 na++out.reverse):=by
 have:=m.firstB sa sb (by rw[h1];exact h);unfold AU;rw[Array.toList_append,Array.toList_append,Es,Es,Array.toList_reverse,List.drop_zero,List.drop_zero];exact this
theorem KJ{kd:SortKind}{κ:Keyed->Int}{S:Keyed->Prop}{a b:Array Keyed}{st:SortSt}{Q:Array Keyed->SortSt->Prop}(L:LtG M A E s kd κ S)(hk:kindOf st=kd)(ha:0<a.size)(hb:0<b.size)(hSa:∀x∈a.toList,S x)(hSb:∀x∈b.toList,S x)
  (sa:Rise κ a.toList) (sb:Rise κ b.toList) (hf:∀x∈b.toList.take 1,∀y∈a.toList,κ x<=κ y) (hl:∀x∈b.toList,∀y∈a.toList.drop (a.size-1),κ x<=κ y)
  (h:∀r st',AU κ a b r->CK st st'->Q r st'):wpS M A E s (PD a b) Q st:=by
 refine wpS_bind (wpS_lift (wpAny_rule ⟨rfl,?_⟩));obtain⟨a0,ea0,ma0,da0,ra0⟩:=Kv sa ha (Nat.le_refl _);have lk0:CK st st:=⟨rfl,rfl,rfl,rfl⟩;have m0:MH κ a.toList b.toList (#[a0]:Array Keyed).toList.reverse (a.size-1) b.size:=by
  have:=(MH.start (κ:=κ) a.toList b.toList).takeA sa (m:=a.size-1) (by rw[Array.length_toList];lia) (λ x hx y hy=>hl x (List.mem_of_mem_take hx) y (by rw[List.take_length]at hy;exact hy));rw[Array.length_toList,Array.length_toList,da0]at this;exact this
 refine wpS_bind (Aj ea0 ?_);dsimp only;by_cases h1:a.size-1=0
 .rw[if_pos (beq_iff_eq.mpr h1)];exact wpS_pure (h _ _ (A4 m0 sa sb (.inl h1)) lk0)
 rw[if_neg (λ z=>h1 (beq_iff_eq.mp z))];by_cases h2:b.size=1
 .rw[if_pos (beq_iff_eq.mpr h2)];exact wpS_pure (h _ _ (AG m0 sa sb h2 hf) lk0)
 rw[if_neg (λ z=>h2 (beq_iff_eq.mp z))];refine wpS_bind (wpS_get ?_);refine wpS_bind (wpS_mono (wpS_forRange (I:=λ x (c:Option (Array Keyed)×Nat×Nat×Array Keyed×Nat) st'=>c.1=none/\GoH κ a b c.2.2.2.1 c.2.1 c.2.2.1/\c.2.1+c.2.2.1+x+1<=a.size+b.size/\CK st st')
  (Q:=λ(c:Option (Array Keyed)×Nat×Nat×Array Keyed×Nat) st'=>CK st st'/\∃r,c.1=some r/\AU κ a b r) ?ostep ?ofin (And.intro rfl ⟨⟨m0,by show 0<a.size-1;lia,by show 1<b.size;lia⟩,by show a.size-1+b.size+0+1<=a.size+b.size;lia,lk0⟩)) ?opost)
 case ofin =>
  rintro⟨r,na,nb,out,mg⟩ st1 ⟨e1,go,hge,lk⟩;have hge:na+nb+max 0 (a.size+b.size)+1<=a.size+b.size:=hge;lia
 case opost =>
  rintro⟨r,na,nb,out,mg⟩ st1 ⟨lk,r',e1,mr⟩;have e1:r=some r':=e1;subst e1;exact wpS_pure (h _ _ mr lk)
 case ostep =>
  rintro x ⟨r,na,nb,out,mg⟩ st1 _ hx ⟨e1,go,hge,lk⟩;have e1:r=none:=e1;subst e1;have hge:na+nb+x+1<=a.size+b.size:=hge;dsimp only;refine wpS_bind (wpS_mono (wpS_forRange (I:=λ y (c:Option (Array Keyed)×Nat×Nat×Array Keyed×Nat×Nat) st'=>c.1=none/\GoH κ a b c.2.2.2.1 c.2.1 c.2.2.1/\c.2.1+c.2.2.1+y=na+nb/\CK st st')
   (Q:=λ(c:Option (Array Keyed)×Nat×Nat×Array Keyed×Nat×Nat) st'=>CK st st'/\((∃r,c.1=some r/\AU κ a b r)\/(c.1=none/\GoH κ a b c.2.2.2.1 c.2.1 c.2.2.1/\c.2.1+c.2.2.1+1<=na+nb))) ?istep ?ifin (And.intro rfl ⟨go,rfl,lk⟩)) ?ipost)
  case ifin =>
   rintro⟨r,na',nb',out,ac,bc⟩ st2 ⟨e1,go',hs,lk'⟩;have hs:na'+nb'+max 0 (a.size+b.size)=na+nb:=hs;exact And.intro lk' (.inr ⟨e1,go',by show na'+nb'+1<=na+nb;lia⟩)
  case istep =>
   rintro y ⟨r,na',nb',out',ac,bc⟩ st2 _ hy ⟨e1,go',hs,lk'⟩;have e1:r=none:=e1;subst e1;have go':GoH κ a b out' na' nb':=go';have hs:na'+nb'+y=na+nb:=hs;have l1:=go'.la;have l2:=go'.lb;have l3:na'<=a.size:=by have:=go'.mi.la;rwa [Array.length_toList]at this
   have l4:nb'<=b.size:=by have:=go'.mi.lb;rwa [Array.length_toList]at this
   dsimp only;obtain⟨xb,exb,mb,db,rb⟩:=Kv sb (show 0<nb' by lia) l4;obtain⟨xa,exa,ma,da,ra⟩:=Kv sa l1 l3;refine wpS_bind (Aj exb (wpS_bind (Aj exa (wpS_bind (L xb xa (hSb _ mb) (hSa _ ma) st2 _ (lk'.kd.trans hk) ?_)))));dsimp only;by_cases hlt:κ xb<κ xa
   .rw[decide_eq_true hlt,if_pos rfl];refine wpS_bind (Aj exa ?_);have mi':=go'.mi.pushA sa da (λ w hw=>by have:=rb w hw;lia);by_cases q1:na'-1=0
    .rw[if_pos (beq_iff_eq.mpr q1)];exact wpS_pure (And.intro lk' (.inl ⟨_,rfl,A4 mi' sa sb (.inl q1)⟩))
    .rw[if_neg (λ z=>q1 (beq_iff_eq.mp z))];have gn:GoH κ a b (out'.push xa) (na'-1) nb':=⟨mi',by lia,l2⟩;split
     .exact wpS_pure (And.intro lk' (.inr ⟨rfl,gn,by show na'-1+nb'+1<=na+nb;lia⟩))
     .exact wpS_pure (And.intro rfl ⟨gn,by show na'-1+nb'+(y+1)=na+nb;lia,lk'⟩)
   .rw[decide_eq_false hlt,if_neg Bool.false_ne_true];refine wpS_bind (Aj exb ?_);have mi':=go'.mi.pushB sb db (λ w hw=>by have:=ra w hw;lia);by_cases q1:nb'-1=1
    .rw[if_pos (beq_iff_eq.mpr q1)];exact wpS_pure (And.intro lk' (.inl ⟨_,rfl,AG mi' sa sb q1 hf⟩))
    .rw[if_neg (λ z=>q1 (beq_iff_eq.mp z))];have gn:GoH κ a b (out'.push xb) na' (nb'-1):=⟨mi',l1,by lia⟩;split
     .exact wpS_pure (And.intro lk' (.inr ⟨rfl,gn,by show na'+(nb'-1)+1<=na+nb;lia⟩))
     .exact wpS_pure (And.intro rfl ⟨gn,by show na'+(nb'-1)+(y+1)=na+nb;lia,lk'⟩)
  case ipost =>
   rintro⟨r,na',nb',out',ac,bc⟩ st2 ⟨lk',hh⟩;rcases hh with ⟨r',e1,mr⟩|⟨e1,go',hs⟩
   .have e1:r=some r':=e1;subst e1;exact wpS_pure (And.intro lk' ⟨_,rfl,mr⟩)
   .have e1:r=none:=e1;subst e1;have go':GoH κ a b out' na' nb':=go';have hs:na'+nb'+1<=na+nb:=hs;dsimp only;refine wpS_bind (wpS_lift (wpAny_rule ⟨rfl,?_⟩));refine wpS_bind (wpS_mono (wpS_forRange (I:=λ y (c:Option (Array Keyed)×Nat×Nat×Array Keyed×Nat×Nat×Nat) st'=>c.1=none/\GoH κ a b c.2.2.2.1 c.2.1 c.2.2.1/\c.2.1+c.2.2.1+1<=na+nb/\CK st st')
     (Q:=λ(c:Option (Array Keyed)×Nat×Nat×Array Keyed×Nat×Nat×Nat) st'=>CK st st'/\((∃r,c.1=some r/\AU κ a b r)\/(c.1=none/\GoH κ a b c.2.2.2.1 c.2.1 c.2.2.1/\c.2.1+c.2.2.1+1<=na+nb))) ?gstep ?gfin (And.intro rfl ⟨go',hs,lk'⟩)) ?gpost)
    case gfin =>
     rintro⟨r,na2,nb2,out,mg2,ac,bc⟩ st3 ⟨e1,go2,hs2,lk2⟩;exact And.intro lk2 (.inr ⟨e1,go2,hs2⟩)
    case gpost =>
     rintro⟨r,na2,nb2,out,mg2,ac,bc⟩ st3 ⟨lk2,hh2⟩;rcases hh2 with ⟨r',e1,mr⟩|⟨e1,go2,hs2⟩
     .have e1:r=some r':=e1;subst e1;exact wpS_pure (And.intro lk2 ⟨_,rfl,mr⟩)
     .have e1:r=none:=e1;subst e1;have hs2:na2+nb2+1<=na+nb:=hs2;refine wpS_bind (wpS_modify ?_);exact wpS_pure (And.intro rfl ⟨go2,by show na2+nb2+(x+1)+1<=a.size+b.size;lia,⟨lk2.kd,lk2.ar,lk2.pe,lk2.fa⟩⟩)
    case gstep =>
     rintro y ⟨r,na2,nb2,out2,mg2,ac,bc⟩ st3 _ hy ⟨e1,go2,hs2,lk2⟩;have e1:r=none:=e1;subst e1;have go2:GoH κ a b out2 na2 nb2:=go2;have hs2:na2+nb2+1<=na+nb:=hs2;dsimp only;have l1:=go2.la;have l2:=go2.lb;have l3:na2<=a.size:=by have:=go2.mi.la;rwa [Array.length_toList]at this
     have l4:nb2<=b.size:=by have:=go2.mi.lb;rwa [Array.length_toList]at this
     have inA:∀i,i<a.size->∃x,a[i]?=some x/\S x:=λ i hi=>by
      obtain⟨x,e,m,_⟩:=CI hi;exact⟨x,e,hSa x m⟩
     have inB:∀i,i<b.size->∃x,b[i]?=some x/\S x:=λ i hi=>by
      obtain⟨x,e,m,_⟩:=CI hi;exact⟨x,e,hSb x m⟩
     by_cases hm:mg2>1
     .rw[if_pos hm];refine wpS_bind (wpS_modify ?_);have lkN:CK st (SortSt.mk' (kindOf st3) (arrOf st3) (pendingOf st3) (mg2-1) (failedOf st3)):=⟨lk2.kd,lk2.ar,lk2.pe,lk2.fa⟩;obtain⟨xb,exb,mb,db,rb⟩:=Kv sb (show 0<nb2 by lia) l4;refine wpS_bind (Aj exb (wpS_bind (AH (B:=λ i=>!decide (κ xb<κ (a.getD (0+i) default))) (lkN.kd.trans hk) (HH L (hSb _ mb) (λ i hi=>inA _ (by lia))) (λ i j hij hj hB=>?_) (by lia) λ k hk' f1 f2=>?_)))
      .have h3:=Bj sa (i:=0+i) (j:=0+j) (by lia) (by lia);simp only[Bool.not_eq_true',decide_eq_false_iff_not]at hB |-;lia
      have u1:∀z∈b.toList.take nb2,∀w∈(a.toList.take na2).drop k,κ z<=κ w:=λ z hz w hw=>by
       obtain⟨j,j1,j2,j3,rfl⟩:=DT hk' hw;have h3:=f2 j j1 j2;simp only[Bool.not_eq_false',decide_eq_true_eq]at h3;have h4:=rb z hz;lia
      have u2:∀w∈a.toList.take k,κ w<=κ xb:=λ w hw=>by
       obtain⟨j,j1,j2,rfl⟩:=Cm hw;have h3:=f1 j j1;simp only[Bool.not_eq_true',decide_eq_false_iff_not]at h3;lia
      dsimp only;by_cases p0:na2-k>0
      .rw[if_pos p0];have m2:=go2.mi.extA sa (m:=k) hk' u1;by_cases q1:k=0
       .rw[if_pos (beq_iff_eq.mpr q1)];exact wpS_pure (And.intro lkN (.inl ⟨_,rfl,A4 m2 sa sb (.inl q1)⟩))
       .rw[if_neg (λ z=>q1 (beq_iff_eq.mp z))];have kB:=u2;refine wpS_bind (Aj exb ?_);have m3:=m2.pushB sb db kB;by_cases q3:nb2-1=1
        .rw[if_pos (beq_iff_eq.mpr q3)];exact wpS_pure (And.intro lkN (.inl ⟨_,rfl,AG m3 sa sb q3 hf⟩))
        .rw[if_neg (λ z=>q3 (beq_iff_eq.mp z))];obtain⟨xa,exa,ma,da,ra⟩:=Kv sa (show 0<k by lia) (by lia);refine wpS_bind (Aj exa (wpS_bind (AH (B:=λ i=>decide (κ (b.getD (0+i) default)<κ xa)) (lkN.kd.trans hk) (Dp L (hSa _ ma) (λ i hi=>inB _ (by lia))) (λ i j hij hj hB=>decide_eq_true (Int.lt_of_le_of_lt (Bj sb (by lia) (by lia)) (of_decide_eq_true hB))) (by lia) λ k1 hk1 g1 g2=>?_)));have t1:∀z∈a.toList.take (k),∀w∈(b.toList.take (nb2-1)).drop k1,κ z<=κ w:=λ z hz w hw=>by
          obtain⟨j,j1,j2,j3,rfl⟩:=DT hk1 hw;have h3:=of_decide_eq_false (g2 j j1 j2);have h4:=ra z hz;lia
         have t2:∀w∈b.toList.take k1,κ w<=κ xa:=λ w hw=>by
          obtain⟨j,j1,j2,rfl⟩:=Cm hw;exact Int.le_of_lt (of_decide_eq_true (g1 j j1))
         dsimp only;by_cases p1:nb2-1-k1>0
         .rw[if_pos p1];have m4:=m3.extB sb (m:=k1) hk1 t1;by_cases q4:k1=1
          .rw[if_pos (beq_iff_eq.mpr q4)];exact wpS_pure (And.intro lkN (.inl ⟨_,rfl,AG m4 sa sb q4 hf⟩))
          .rw[if_neg (λ z=>q4 (beq_iff_eq.mp z))];by_cases q6:k1=0
           .rw[if_pos (beq_iff_eq.mpr q6)];exact wpS_pure (And.intro lkN (.inl ⟨_,rfl,A4 m4 sa sb (.inr q6)⟩))
           .rw[if_neg (λ z=>q6 (beq_iff_eq.mp z))];have kA:=t2;refine wpS_bind (Aj exa ?_);have m5:=m4.pushA sa da kA;by_cases q5:k-1=0
            .rw[if_pos (beq_iff_eq.mpr q5)];exact wpS_pure (And.intro lkN (.inl ⟨_,rfl,A4 m5 sa sb (.inl q5)⟩))
            .rw[if_neg (λ z=>q5 (beq_iff_eq.mp z))];have gn:GoH κ a b _ (k-1) (k1):=⟨m5,by lia,by lia⟩;split
             .exact wpS_pure (And.intro lkN (.inr ⟨rfl,gn,by show k-1+(k1)+1<=na+nb;lia⟩))
             .exact wpS_pure (And.intro rfl ⟨gn,by show k-1+(k1)+1<=na+nb;lia,lkN⟩)
         .rw[if_neg p1];have k10:k1=nb2-1:=by lia
          subst k10;have kA:=t2;refine wpS_bind (Aj exa ?_);have m5:=m3.pushA sa da kA;by_cases q5:k-1=0
          .rw[if_pos (beq_iff_eq.mpr q5)];exact wpS_pure (And.intro lkN (.inl ⟨_,rfl,A4 m5 sa sb (.inl q5)⟩))
          .rw[if_neg (λ z=>q5 (beq_iff_eq.mp z))];have gn:GoH κ a b _ (k-1) (nb2-1):=⟨m5,by lia,by lia⟩;split
           .exact wpS_pure (And.intro lkN (.inr ⟨rfl,gn,by show k-1+(nb2-1)+1<=na+nb;lia⟩))
           .exact wpS_pure (And.intro rfl ⟨gn,by show k-1+(nb2-1)+1<=na+nb;lia,lkN⟩)
      .rw[if_neg p0];have k00:k=na2:=by lia
       subst k00;have kB:=u2;have mi2:=go2.mi;refine wpS_bind (Aj exb ?_);have m3:=mi2.pushB sb db kB;by_cases q3:nb2-1=1
       .rw[if_pos (beq_iff_eq.mpr q3)];exact wpS_pure (And.intro lkN (.inl ⟨_,rfl,AG m3 sa sb q3 hf⟩))
       .rw[if_neg (λ z=>q3 (beq_iff_eq.mp z))];obtain⟨xa,exa,ma,da,ra⟩:=Kv sa (show 0<k by lia) (by lia);refine wpS_bind (Aj exa (wpS_bind (AH (B:=λ i=>decide (κ (b.getD (0+i) default)<κ xa)) (lkN.kd.trans hk) (Dp L (hSa _ ma) (λ i hi=>inB _ (by lia))) (λ i j hij hj hB=>decide_eq_true (Int.lt_of_le_of_lt (Bj sb (by lia) (by lia)) (of_decide_eq_true hB))) (by lia) λ k1 hk1 g1 g2=>?_)));have t1:∀z∈a.toList.take (k),∀w∈(b.toList.take (nb2-1)).drop k1,κ z<=κ w:=λ z hz w hw=>by
         obtain⟨j,j1,j2,j3,rfl⟩:=DT hk1 hw;have h3:=of_decide_eq_false (g2 j j1 j2);have h4:=ra z hz;lia
        have t2:∀w∈b.toList.take k1,κ w<=κ xa:=λ w hw=>by
         obtain⟨j,j1,j2,rfl⟩:=Cm hw;exact Int.le_of_lt (of_decide_eq_true (g1 j j1))
        dsimp only;by_cases p1:nb2-1-k1>0
        .rw[if_pos p1];have m4:=m3.extB sb (m:=k1) hk1 t1;by_cases q4:k1=1
         .rw[if_pos (beq_iff_eq.mpr q4)];exact wpS_pure (And.intro lkN (.inl ⟨_,rfl,AG m4 sa sb q4 hf⟩))
         .rw[if_neg (λ z=>q4 (beq_iff_eq.mp z))];by_cases q6:k1=0
          .rw[if_pos (beq_iff_eq.mpr q6)];exact wpS_pure (And.intro lkN (.inl ⟨_,rfl,A4 m4 sa sb (.inr q6)⟩))
          .rw[if_neg (λ z=>q6 (beq_iff_eq.mp z))];have kA:=t2;refine wpS_bind (Aj exa ?_);have m5:=m4.pushA sa da kA;by_cases q5:k-1=0
           .rw[if_pos (beq_iff_eq.mpr q5)];exact wpS_pure (And.intro lkN (.inl ⟨_,rfl,A4 m5 sa sb (.inl q5)⟩))
           .rw[if_neg (λ z=>q5 (beq_iff_eq.mp z))];have gn:GoH κ a b _ (k-1) (k1):=⟨m5,by lia,by lia⟩;split
            .exact wpS_pure (And.intro lkN (.inr ⟨rfl,gn,by show k-1+(k1)+1<=na+nb;lia⟩))
            .exact wpS_pure (And.intro rfl ⟨gn,by show k-1+(k1)+1<=na+nb;lia,lkN⟩)
        .rw[if_neg p1];have k10:k1=nb2-1:=by lia
         subst k10;have kA:=t2;refine wpS_bind (Aj exa ?_);have m5:=m3.pushA sa da kA;by_cases q5:k-1=0
         .rw[if_pos (beq_iff_eq.mpr q5)];exact wpS_pure (And.intro lkN (.inl ⟨_,rfl,A4 m5 sa sb (.inl q5)⟩))
         .rw[if_neg (λ z=>q5 (beq_iff_eq.mp z))];have gn:GoH κ a b _ (k-1) (nb2-1):=⟨m5,by lia,by lia⟩;split
          .exact wpS_pure (And.intro lkN (.inr ⟨rfl,gn,by show k-1+(nb2-1)+1<=na+nb;lia⟩))
          .exact wpS_pure (And.intro rfl ⟨gn,by show k-1+(nb2-1)+1<=na+nb;lia,lkN⟩)
     .rw[if_neg hm];refine wpS_bind (wpS_modify ?_);have lkN:CK st (SortSt.mk' (kindOf st3) (arrOf st3) (pendingOf st3) mg2 (failedOf st3)):=⟨lk2.kd,lk2.ar,lk2.pe,lk2.fa⟩;obtain⟨xb,exb,mb,db,rb⟩:=Kv sb (show 0<nb2 by lia) l4;refine wpS_bind (Aj exb (wpS_bind (AH (B:=λ i=>!decide (κ xb<κ (a.getD (0+i) default))) (lkN.kd.trans hk) (HH L (hSb _ mb) (λ i hi=>inA _ (by lia))) (λ i j hij hj hB=>?_) (by lia) λ k hk' f1 f2=>?_)))
      .have h3:=Bj sa (i:=0+i) (j:=0+j) (by lia) (by lia);simp only[Bool.not_eq_true',decide_eq_false_iff_not]at hB |-;lia
      have u1:∀z∈b.toList.take nb2,∀w∈(a.toList.take na2).drop k,κ z<=κ w:=λ z hz w hw=>by
       obtain⟨j,j1,j2,j3,rfl⟩:=DT hk' hw;have h3:=f2 j j1 j2;simp only[Bool.not_eq_false',decide_eq_true_eq]at h3;have h4:=rb z hz;lia
      have u2:∀w∈a.toList.take k,κ w<=κ xb:=λ w hw=>by
       obtain⟨j,j1,j2,rfl⟩:=Cm hw;have h3:=f1 j j1;simp only[Bool.not_eq_true',decide_eq_false_iff_not]at h3;lia
      dsimp only;by_cases p0:na2-k>0
      .rw[if_pos p0];have m2:=go2.mi.extA sa (m:=k) hk' u1;by_cases q1:k=0
       .rw[if_pos (beq_iff_eq.mpr q1)];exact wpS_pure (And.intro lkN (.inl ⟨_,rfl,A4 m2 sa sb (.inl q1)⟩))
       .rw[if_neg (λ z=>q1 (beq_iff_eq.mp z))];have kB:=u2;refine wpS_bind (Aj exb ?_);have m3:=m2.pushB sb db kB;by_cases q3:nb2-1=1
        .rw[if_pos (beq_iff_eq.mpr q3)];exact wpS_pure (And.intro lkN (.inl ⟨_,rfl,AG m3 sa sb q3 hf⟩))
        .rw[if_neg (λ z=>q3 (beq_iff_eq.mp z))];obtain⟨xa,exa,ma,da,ra⟩:=Kv sa (show 0<k by lia) (by lia);refine wpS_bind (Aj exa (wpS_bind (AH (B:=λ i=>decide (κ (b.getD (0+i) default)<κ xa)) (lkN.kd.trans hk) (Dp L (hSa _ ma) (λ i hi=>inB _ (by lia))) (λ i j hij hj hB=>decide_eq_true (Int.lt_of_le_of_lt (Bj sb (by lia) (by lia)) (of_decide_eq_true hB))) (by lia) λ k1 hk1 g1 g2=>?_)));have t1:∀z∈a.toList.take (k),∀w∈(b.toList.take (nb2-1)).drop k1,κ z<=κ w:=λ z hz w hw=>by
          obtain⟨j,j1,j2,j3,rfl⟩:=DT hk1 hw;have h3:=of_decide_eq_false (g2 j j1 j2);have h4:=ra z hz;lia
         have t2:∀w∈b.toList.take k1,κ w<=κ xa:=λ w hw=>by
          obtain⟨j,j1,j2,rfl⟩:=Cm hw;exact Int.le_of_lt (of_decide_eq_true (g1 j j1))
         dsimp only;by_cases p1:nb2-1-k1>0
         .rw[if_pos p1];have m4:=m3.extB sb (m:=k1) hk1 t1;by_cases q4:k1=1
          .rw[if_pos (beq_iff_eq.mpr q4)];exact wpS_pure (And.intro lkN (.inl ⟨_,rfl,AG m4 sa sb q4 hf⟩))
          .rw[if_neg (λ z=>q4 (beq_iff_eq.mp z))];by_cases q6:k1=0
           .rw[if_pos (beq_iff_eq.mpr q6)];exact wpS_pure (And.intro lkN (.inl ⟨_,rfl,A4 m4 sa sb (.inr q6)⟩))
           .rw[if_neg (λ z=>q6 (beq_iff_eq.mp z))];have kA:=t2;refine wpS_bind (Aj exa ?_);have m5:=m4.pushA sa da kA;by_cases q5:k-1=0
            .rw[if_pos (beq_iff_eq.mpr q5)];exact wpS_pure (And.intro lkN (.inl ⟨_,rfl,A4 m5 sa sb (.inl q5)⟩))
            .rw[if_neg (λ z=>q5 (beq_iff_eq.mp z))];have gn:GoH κ a b _ (k-1) (k1):=⟨m5,by lia,by lia⟩;split
             .exact wpS_pure (And.intro lkN (.inr ⟨rfl,gn,by show k-1+(k1)+1<=na+nb;lia⟩))
             .exact wpS_pure (And.intro rfl ⟨gn,by show k-1+(k1)+1<=na+nb;lia,lkN⟩)
         .rw[if_neg p1];have k10:k1=nb2-1:=by lia
          subst k10;have kA:=t2;refine wpS_bind (Aj exa ?_);have m5:=m3.pushA sa da kA;by_cases q5:k-1=0
          .rw[if_pos (beq_iff_eq.mpr q5)];exact wpS_pure (And.intro lkN (.inl ⟨_,rfl,A4 m5 sa sb (.inl q5)⟩))
          .rw[if_neg (λ z=>q5 (beq_iff_eq.mp z))];have gn:GoH κ a b _ (k-1) (nb2-1):=⟨m5,by lia,by lia⟩;split
           .exact wpS_pure (And.intro lkN (.inr ⟨rfl,gn,by show k-1+(nb2-1)+1<=na+nb;lia⟩))
           .exact wpS_pure (And.intro rfl ⟨gn,by show k-1+(nb2-1)+1<=na+nb;lia,lkN⟩)
      .rw[if_neg p0];have k00:k=na2:=by lia
       subst k00;have kB:=u2;have mi2:=go2.mi;refine wpS_bind (Aj exb ?_);have m3:=mi2.pushB sb db kB;by_cases q3:nb2-1=1
       .rw[if_pos (beq_iff_eq.mpr q3)];exact wpS_pure (And.intro lkN (.inl ⟨_,rfl,AG m3 sa sb q3 hf⟩))
       .rw[if_neg (λ z=>q3 (beq_iff_eq.mp z))];obtain⟨xa,exa,ma,da,ra⟩:=Kv sa (show 0<k by lia) (by lia);refine wpS_bind (Aj exa (wpS_bind (AH (B:=λ i=>decide (κ (b.getD (0+i) default)<κ xa)) (lkN.kd.trans hk) (Dp L (hSa _ ma) (λ i hi=>inB _ (by lia))) (λ i j hij hj hB=>decide_eq_true (Int.lt_of_le_of_lt (Bj sb (by lia) (by lia)) (of_decide_eq_true hB))) (by lia) λ k1 hk1 g1 g2=>?_)));have t1:∀z∈a.toList.take (k),∀w∈(b.toList.take (nb2-1)).drop k1,κ z<=κ w:=λ z hz w hw=>by
         obtain⟨j,j1,j2,j3,rfl⟩:=DT hk1 hw;have h3:=of_decide_eq_false (g2 j j1 j2);have h4:=ra z hz;lia
        have t2:∀w∈b.toList.take k1,κ w<=κ xa:=λ w hw=>by
         obtain⟨j,j1,j2,rfl⟩:=Cm hw;exact Int.le_of_lt (of_decide_eq_true (g1 j j1))
        dsimp only;by_cases p1:nb2-1-k1>0
        .rw[if_pos p1];have m4:=m3.extB sb (m:=k1) hk1 t1;by_cases q4:k1=1
         .rw[if_pos (beq_iff_eq.mpr q4)];exact wpS_pure (And.intro lkN (.inl ⟨_,rfl,AG m4 sa sb q4 hf⟩))
         .rw[if_neg (λ z=>q4 (beq_iff_eq.mp z))];by_cases q6:k1=0
          .rw[if_pos (beq_iff_eq.mpr q6)];exact wpS_pure (And.intro lkN (.inl ⟨_,rfl,A4 m4 sa sb (.inr q6)⟩))
          .rw[if_neg (λ z=>q6 (beq_iff_eq.mp z))];have kA:=t2;refine wpS_bind (Aj exa ?_);have m5:=m4.pushA sa da kA;by_cases q5:k-1=0
           .rw[if_pos (beq_iff_eq.mpr q5)];exact wpS_pure (And.intro lkN (.inl ⟨_,rfl,A4 m5 sa sb (.inl q5)⟩))
           .rw[if_neg (λ z=>q5 (beq_iff_eq.mp z))];have gn:GoH κ a b _ (k-1) (k1):=⟨m5,by lia,by lia⟩;split
            .exact wpS_pure (And.intro lkN (.inr ⟨rfl,gn,by show k-1+(k1)+1<=na+nb;lia⟩))
            .exact wpS_pure (And.intro rfl ⟨gn,by show k-1+(k1)+1<=na+nb;lia,lkN⟩)
        .rw[if_neg p1];have k10:k1=nb2-1:=by lia
         subst k10;have kA:=t2;refine wpS_bind (Aj exa ?_);have m5:=m3.pushA sa da kA;by_cases q5:k-1=0
         .rw[if_pos (beq_iff_eq.mpr q5)];exact wpS_pure (And.intro lkN (.inl ⟨_,rfl,A4 m5 sa sb (.inl q5)⟩))
         .rw[if_neg (λ z=>q5 (beq_iff_eq.mp z))];have gn:GoH κ a b _ (k-1) (nb2-1):=⟨m5,by lia,by lia⟩;split
          .exact wpS_pure (And.intro lkN (.inr ⟨rfl,gn,by show k-1+(nb2-1)+1<=na+nb;lia⟩))
          .exact wpS_pure (And.intro rfl ⟨gn,by show k-1+(nb2-1)+1<=na+nb;lia,lkN⟩)
def Ly:Nat->StateT SortSt Sem Bool:=sortPriv% PySem.Builtin.mergeAt
theorem Nc{α:Type}:∀(ms:List α)(n base:Nat)(xs:Array α),base+n+ms.length<=xs.size ->
  ((ms.zipIdx n).foldl (λ a p=>a.setIfInBounds (base+p.2) p.1) xs).toList=xs.toList.take (base+n)++ms++xs.toList.drop (base+n+ms.length)
 |[],n,base,xs,h=>by simp
 |m::ms,n,base,xs,h=>by
  rw[List.zipIdx_cons,List.foldl_cons];have hl:base+n+(ms.length+1)<=xs.size:=h;rw[Nc ms (n+1) base (xs.setIfInBounds (base+n) m) (by rw[Array.size_setIfInBounds];lia)];rw[Array.toList_setIfInBounds];have h1:base+n<xs.toList.length:=by rw[Array.length_toList];lia
  rw[show base+(n+1)=base+n+1 by lia];rw[List.take_set,List.drop_set,if_pos (by lia)];have e1:(xs.toList.take (base+n+1)).set (base+n) m=xs.toList.take (base+n)++[m]:=by
   rw[List.take_succ_eq_append_getElem h1,List.set_append_right _ _ (by rw[List.length_take];lia)];rw[List.length_take,Nat.min_eq_left (by lia),Nat.sub_self];rfl
  rw[e1,show base+n+1+ms.length=base+n+(m::ms).length by simp;lia];simp
theorem Q2{σ:Type}{st st':σ}{Q:PUnit->σ->Prop}(h:Q ⟨⟩ st'):wpS M A E s (set st':StateT σ Sem PUnit) Q st:=by
 unfold wpS;rw[StateT.run_set];exact wpAny_pure ⟨rfl,h⟩
theorem FV{κ:Keyed->Int}{a:Array Keyed}{lo n:Nat}(h:Rise κ ((a.toList.drop lo).take n))(hn:lo+n<=a.size){i j:Nat}(hij:i<=j)(hj:j<n):κ (a.getD (lo+i) default)<=κ (a.getD (lo+j) default):=by
 have ei:a.getD (lo+i) default=a.toList[lo+i]'(by simp;lia):=by
  have:lo+i<a.size:=by lia
  simp[Array.getD,this]
 have ej:a.getD (lo+j) default=a.toList[lo+j]'(by simp;lia):=by
  have:lo+j<a.size:=by lia
  simp[Array.getD,this]
 rw[ei,ej];rcases Nat.lt_or_ge i j with h'|h'
 .have:=List.pairwise_iff_getElem.mp h i j (by simp;lia) (by simp;lia) h';rwa [List.getElem_take,List.getElem_take,List.getElem_drop,List.getElem_drop]at this
 .have:i=j:=by lia
  subst this;exact Int.le_refl _
theorem SX{α:Type}{κ:α->Int}{A1 A2 B1 B2 ms:List α}(sA:Rise κ (A1++A2))(sB:Rise κ (B1++B2))(hm:Rise κ ms)(pm:ms.Perm (A2++B1))(h1:∀x∈A1,∀y∈B1++B2,κ x<=κ y)(h2:∀x∈A1++A2,∀y∈B2,κ x<=κ y):Rise κ (A1++ms++B2):=by
 obtain⟨a1,a2,a3⟩:=List.pairwise_append.mp sA;obtain⟨b1,b2,b3⟩:=List.pairwise_append.mp sB;refine Rise.app (Rise.app a1 hm λ x hx y hy=>?_) b2 λ x hx y hy=>?_
 .rcases List.mem_append.mp (pm.mem_iff.mp hy) with hy|hy
  .exact a3 x hx y hy
  .exact h1 x hx y (List.mem_append_left _ hy)
 .rcases List.mem_append.mp hx with hx|hx
  .exact h2 x (List.mem_append_left _ hx) y hy
  .rcases List.mem_append.mp (pm.mem_iff.mp hx) with hx|hx
   .exact h2 x (List.mem_append_right _ hx) y hy
   .exact b3 x hx y hy
theorem KL{kd:SortKind}{κ:Keyed->Int}{S:Keyed->Prop}{st:SortSt}{i sa na pw nb pw':Nat}{Q:Bool->SortSt->Prop}(L:LtG M A E s kd κ S)(hk:kindOf st=kd)(hfa:failedOf st=none)(p1:(pendingOf st)[i]?=some (sa,na,pw))(p2:(pendingOf st)[i+1]?=some (sa+na,nb,pw'))
  (hS:∀x∈(arrOf st).toList,S x) (ha:0<na) (hb:0<nb) (hn:sa+na+nb<=(arrOf st).size) (r1:Rise κ (((arrOf st).toList.drop sa).take na)) (r2:Rise κ (((arrOf st).toList.drop (sa+na)).take nb))
  (h:∀(arr':Array Keyed)(g:Nat)(seg:List Keyed),arr'.toList=(arrOf st).toList.take sa++seg++(arrOf st).toList.drop (sa+na+nb)->Rise κ seg->seg.Perm (((arrOf st).toList.drop sa).take na++((arrOf st).toList.drop (sa+na)).take nb) ->
   Q true (SortSt.mk' kd arr' (((pendingOf st).setIfInBounds i (sa,na+nb,pw)).eraseIdxIfInBounds (i+1)) g none)):wpS M A E s (Ly i) Q st:=by
 refine wpS_bind (wpS_get ?_);have inn:∀i,i<(arrOf st).size->∃x,(arrOf st)[i]?=some x/\S x:=λ i hi=>by
  obtain⟨x,e,m,_⟩:=CI hi;exact⟨x,e,hS x m⟩
 have split:(arrOf st).toList=(arrOf st).toList.take sa++(((arrOf st).toList.drop sa).take na++((arrOf st).toList.drop (sa+na)).take nb)++(arrOf st).toList.drop (sa+na+nb):=by
  rw[List.append_assoc,List.append_assoc,<-B8 _ (sa+na) nb,<-B8 _ sa na,List.take_append_drop]
 rw[p1,p2];dsimp only;refine wpS_bind (Q2 ?_);subst hk;obtain⟨x0,ex0,mx0,dx0⟩:=CI (show sa+na<(arrOf st).size by lia);have x0B:∀y∈((arrOf st).toList.drop (sa+na)).take nb,κ x0<=κ y:=λ y hy=>by
  obtain⟨j,j1,j2,rfl⟩:=AM hy;have:=FV r2 hn (i:=0) (j:=j) (by lia) j1;rwa [Nat.add_zero,Gb ex0]at this
 have same:∀g:Nat,∀f:Option Value,f=none->∀(arr':Array Keyed)(seg:List Keyed),arr'.toList=(arrOf st).toList.take sa++seg++(arrOf st).toList.drop (sa+na+nb)->Rise κ seg->seg.Perm (((arrOf st).toList.drop sa).take na++((arrOf st).toList.drop (sa+na)).take nb)->Q true (SortSt.mk' (kindOf st) arr' (((pendingOf st).setIfInBounds i (sa,na+nb,pw)).eraseIdxIfInBounds (i+1)) g f):=λ g f hf arr' seg e1 e2 e3=>by
  rw[hf];exact h arr' g seg e1 e2 e3
 refine wpS_bind (Aj ex0 (wpS_bind (AH (B:=λ i=>!decide (κ x0<κ ((arrOf st).getD (sa+i) default))) rfl (HH L (hS _ mx0) (λ i hi=>inn _ (by lia))) (λ i j hij hj hB=>?_) (by lia) λ k hk' f1 f2=>?_)))
 .have h3:=FV r1 (by lia) hij hj;simp only[Bool.not_eq_true',decide_eq_false_iff_not]at hB |-;lia
 have u1:∀z∈((arrOf st).toList.drop sa).take k,κ z<=κ x0:=λ z hz=>by
  obtain⟨j,j1,j2,rfl⟩:=AM hz;have h3:=f1 j j1;simp only[Bool.not_eq_true',decide_eq_false_iff_not]at h3;lia
 dsimp only;by_cases q1:na-k=0
 .rw[if_pos (beq_iff_eq.mpr q1)];have:k=na:=by lia
  subst this;exact wpS_pure (same _ _ hfa _ _ split (Rise.app r1 r2 λ x hx y hy=>Int.le_trans (u1 x hx) (x0B y hy)) (List.Perm.refl _))
 rw[if_neg (λ z=>q1 (beq_iff_eq.mp z))];have eA:((arrOf st).toList.drop sa).take na=((arrOf st).toList.drop sa).take k++((arrOf st).toList.drop (sa+k)).take (na-k):=by
  conv=>lhs;rw[show na=k+(na-k) by lia]
  rw[List.take_add,List.drop_drop]
 obtain⟨x1,ex1,mx1,dx1⟩:=CI (show sa+k+(na-k)-1<(arrOf st).size by lia);have x1A:∀y∈((arrOf st).toList.drop sa).take na,κ y<=κ x1:=λ y hy=>by
  obtain⟨j,j1,j2,rfl⟩:=AM hy;have:=FV r1 (by lia) (i:=j) (j:=na-1) (by lia) (by lia);rwa [show sa+(na-1)=sa+k+(na-k)-1 by lia,Gb ex1]at this
 refine wpS_bind (Aj ex1 (wpS_bind (AH (B:=λ i=>decide (κ ((arrOf st).getD (sa+na+i) default)<κ x1)) rfl (Dp L (hS _ mx1) (λ i hi=>inn _ (by lia))) (λ i j hij hj hB=>decide_eq_true (Int.lt_of_le_of_lt (FV r2 hn hij hj) (of_decide_eq_true hB))) (by lia) λ k1 hk1 g1 g2=>?_)));have eB:((arrOf st).toList.drop (sa+na)).take nb=((arrOf st).toList.drop (sa+na)).take k1++((arrOf st).toList.drop (sa+na+k1)).take (nb-k1):=by
  conv=>lhs;rw[show nb=k1+(nb-k1) by lia]
  rw[List.take_add,List.drop_drop]
 have v1:∀z∈((arrOf st).toList.drop (sa+na)).take k1,κ z<=κ x1:=λ z hz=>by
  obtain⟨j,j1,j2,rfl⟩:=AM hz;exact Int.le_of_lt (of_decide_eq_true (g1 j j1))
 have v2:∀z∈((arrOf st).toList.drop (sa+na+k1)).take (nb-k1),κ x1<=κ z:=λ z hz=>by
  obtain⟨j,j1,j2,rfl⟩:=AM hz;have:=of_decide_eq_false (g2 (k1+j) (by lia) (by lia));rw[<-Nat.add_assoc]at this;lia
 dsimp only;by_cases q2:k1=0
 .rw[if_pos (beq_iff_eq.mpr q2)];subst q2;exact wpS_pure (same _ _ hfa _ _ split (Rise.app r1 r2 λ x hx y hy=>Int.le_trans (x1A x hx) (v2 y (by simpa using hy))) (List.Perm.refl _))
 rw[if_neg (λ z=>q2 (beq_iff_eq.mp z))];have ex:((arrOf st).extract (sa+k) (sa+na)).toList=((arrOf st).toList.drop (sa+k)).take (na-k):=by
  rw[Es,List.drop_take,show sa+na-(sa+k)=na-k by lia]
 have ey:((arrOf st).extract (sa+na) (sa+na+k1)).toList=((arrOf st).toList.drop (sa+na)).take k1:=PU _ _ _;have subx:∀x∈((arrOf st).extract (sa+k) (sa+na)).toList,x∈(arrOf st).toList:=λ x hx=>by rw[ex]at hx;exact List.mem_of_mem_drop (List.mem_of_mem_take hx)
 have suby:∀x∈((arrOf st).extract (sa+na) (sa+na+k1)).toList,x∈(arrOf st).toList:=λ x hx=>by rw[ey]at hx;exact List.mem_of_mem_drop (List.mem_of_mem_take hx)
 have rA:=r1;rw[eA]at rA;have rB:=r2;rw[eB]at rB;have rx:Rise κ ((arrOf st).extract (sa+k) (sa+na)).toList:=by rw[ex];exact(List.pairwise_append.mp rA).2.1
 have ry:Rise κ ((arrOf st).extract (sa+na) (sa+na+k1)).toList:=by rw[ey];exact(List.pairwise_append.mp rB).1
 have hfx:∀x∈((arrOf st).extract (sa+na) (sa+na+k1)).toList.take 1,∀y∈((arrOf st).extract (sa+k) (sa+na)).toList,κ x<=κ y:=λ x hx y hy=>by
  rw[ey,List.take_take,Nat.min_eq_left (by lia),dx0]at hx;have:x=x0:=by simpa using hx
  rw[this];rw[ex]at hy;obtain⟨j,j1,j2,rfl⟩:=AM hy;have h3:=f2 (k+j) (by lia) (by lia);simp only[Bool.not_eq_false',decide_eq_true_eq]at h3;rw[<-Nat.add_assoc]at h3;lia
 have hlx:∀x∈((arrOf st).extract (sa+na) (sa+na+k1)).toList,∀y∈((arrOf st).extract (sa+k) (sa+na)).toList.drop (((arrOf st).extract (sa+k) (sa+na)).size-1),κ x<=κ y:=λ x hx y hy=>by
  rw[ey]at hx;have sz:((arrOf st).extract (sa+k) (sa+na)).size=na-k:=by rw[Array.size_extract];lia
  rw[sz,ex,List.drop_take,List.drop_drop,show sa+k+(na-k-1)=sa+k+(na-k)-1 by lia,dx1,show na-k-(na-k-1)=1 by lia]at hy;have:y=x1:=by simpa using hy
  rw[this];exact v1 x hx
 have fin:∀(r:Array Keyed)(st2:SortSt),AU κ ((arrOf st).extract (sa+k) (sa+na)) ((arrOf st).extract (sa+na) (sa+na+k1)) r->CK (SortSt.mk' (kindOf st) (arrOf st) (((pendingOf st).setIfInBounds i (sa,na+nb,pw)).eraseIdxIfInBounds (i+1)) (gallopOf st) (failedOf st)) st2 ->
   ∀arr':Array Keyed,arr'=(r.toList.zipIdx 0).foldl (λ a p=>a.setIfInBounds (sa+k+p.2) p.1) (arrOf st2)->Q true (SortSt.mk' (kindOf st2) arr' (pendingOf st2) (gallopOf st2) (failedOf st2)):=λ r st2 mr lk arr' earr=>by
  have rl:r.toList.length=na-k+k1:=by
   rw[mr.2.length_eq,List.length_append,ex,ey,List.length_take,List.length_take,List.length_drop,List.length_drop,Array.length_toList];lia
  rw[lk.kd,lk.pe];have la:arrOf st2=arrOf st:=lk.ar;have w:=Nc r.toList 0 (sa+k) (arrOf st) (by lia);refine same _ _ (lk.fa.trans hfa) arr' (((arrOf st).toList.drop sa).take k++r.toList++((arrOf st).toList.drop (sa+na+k1)).take (nb-k1)) ?_ ?_ ?_
  .rw[earr,la,w,rl,Nat.add_zero,show sa+k+(na-k+k1)=sa+na+k1 by lia];have e1:(arrOf st).toList.take (sa+k)=(arrOf st).toList.take sa++((arrOf st).toList.drop sa).take k:=List.take_add;have e2:=B8 (arrOf st).toList (sa+na+k1) (nb-k1);rw[show sa+na+k1+(nb-k1)=sa+na+nb by lia]at e2;rw[e1]
   conv=>lhs;rw[e2]
   simp only[List.append_assoc]
  .refine SX rA rB mr.1 (by rw[<-ex,<-ey];exact mr.2) (λ x hx y hy=>Int.le_trans (u1 x hx) (x0B y (by rw[eB];exact hy))) λ x hx y hy=>Int.le_trans (x1A x (by rw[eA];exact hx)) (v2 y hy)
  .have pm:=mr.2;rw[ex,ey]at pm;rw[eA,eB];refine(List.Perm.append_right _ (List.Perm.append_left _ pm)).trans ?_;simp only[List.append_assoc];exact List.Perm.refl _
 have sx:0<((arrOf st).extract (sa+k) (sa+na)).size:=by rw[Array.size_extract];lia
 have sy:0<((arrOf st).extract (sa+na) (sa+na+k1)).size:=by rw[Array.size_extract];lia
 by_cases q3:na-k<=k1
 .rw[if_pos q3];refine wpS_bind (KI L rfl sx sy (λ x hx=>hS x (subx x hx)) (λ x hx=>hS x (suby x hx)) rx ry hfx hlx λ r st2 mr lk=>?_);refine wpS_bind (wpS_modify (wpS_bind (wpS_get ?_)));have fl:failedOf st2=none:=lk.fa.trans hfa;have:=fin r st2 mr lk _ rfl;refine wpS_pure ?_;have e:(failedOf st2).isNone=true:=by rw[fl];rfl
  show Q (failedOf st2).isNone _;rw[e];exact this
 .rw[if_neg q3];refine wpS_bind (KJ L rfl sx sy (λ x hx=>hS x (subx x hx)) (λ x hx=>hS x (suby x hx)) rx ry hfx hlx λ r st2 mr lk=>?_);refine wpS_bind (wpS_modify (wpS_bind (wpS_get ?_)));have fl:failedOf st2=none:=lk.fa.trans hfa;have:=fin r st2 mr lk _ rfl;refine wpS_pure ?_;have e:(failedOf st2).isNone=true:=by rw[fl];rfl
  show Q (failedOf st2).isNone _;rw[e];exact this
def LG:Nat->Nat->Nat->StateT SortSt Sem Bool:=sortPriv% PySem.Builtin.binarySort
theorem NP{kd:SortKind}{κ:Keyed->Int}{S:Keyed->Prop}(L:LtG M A E s kd κ S){st:SortSt}{i j:Nat}{x y:Keyed}{Q:Option Bool->SortSt->Prop}(hk:kindOf st=kd)(hx:(arrOf st)[i]?=some x)(hy:(arrOf st)[j]?=some y)(sx:S x)(sy:S y)(h:Q (some (decide (κ x<κ y))) st):wpS M A E s (ltAt' i j) Q st:=by
 rw[ltAt'_eq];refine wpS_bind (wpS_get ?_);exact wpS_bind (Aj hx (wpS_bind (Aj hy (L x y sx sy st Q hk h))))
end
section
variable{M:Model}{A:Around}{E:VPz}{s:Shared}{κ:Keyed->Int}{S:Keyed->Prop}{kd:SortKind}
def KG(κ:Keyed->Int)(xs:Array Keyed)(i:Nat):Int:=κ (xs.getD i default)
theorem EQ{xs ys:Array Keyed}{i j:Nat}(h:xs[i]?=ys[j]?):KG κ xs i=KG κ ys j:=by
 unfold KG;rw[Array.getD_eq_getD_getElem?,Array.getD_eq_getD_getElem?,h]
structure Amid(st0:SortSt)(lo n:Nat)(st:SortSt):Prop where
 kd:kindOf st=kindOf st0
 fa:failedOf st=failedOf st0
 pe:pendingOf st=pendingOf st0
 pm:(arrOf st).Perm (arrOf st0)
 out:∀i,i<lo\/lo+n<=i->(arrOf st)[i]?=(arrOf st0)[i]?
theorem Amid.refl(st:SortSt)(lo n:Nat):Amid st lo n st:=⟨rfl,rfl,rfl,Array.Perm.refl _,λ_ _=>rfl⟩
theorem Amid.sz{st0 st:SortSt}{lo n:Nat}(h:Amid st0 lo n st):(arrOf st).size=(arrOf st0).size:=h.pm.size_eq
theorem Amid.mem{st0 st:SortSt}{lo n:Nat}(h:Amid st0 lo n st){x:Keyed}(m:x∈(arrOf st).toList):x∈(arrOf st0).toList:=(Array.perm_iff_toList_perm.mp h.pm).mem_iff.mp m
theorem Amid.set{st0 st:SortSt}{lo n:Nat}(h:Amid st0 lo n st){xs:Array Keyed}(hp:xs.Perm (arrOf st))(ho:∀i,i<lo\/lo+n<=i->xs[i]?=(arrOf st)[i]?):Amid st0 lo n (setArr st xs) :=
 ⟨h.kd,h.fa,h.pe,hp.trans h.pm,λ i hi=>(ho i hi).trans (h.out i hi)⟩
def UpG(κ:Keyed->Int)(xs:Array Keyed)(lo k:Nat):Prop:=∀i j,i<=j->j<k->KG κ xs (lo+i)<=KG κ xs (lo+j)
def DownG(κ:Keyed->Int)(xs:Array Keyed)(lo k:Nat):Prop:=∀i j,i<=j->j<k->KG κ xs (lo+j)<=KG κ xs (lo+i)
theorem Ez(L:LtG M A E s kd κ S){st0 st:SortSt}{lo n i j:Nat}{Q:Option Bool->SortSt->Prop}(hk:kindOf st0=kd)(hS:∀x∈(arrOf st0).toList,S x)(B:Amid st0 lo n st)(hi:i<(arrOf st0).size)(hj:j<(arrOf st0).size)
  (h:Q (some (decide (KG κ (arrOf st) i<KG κ (arrOf st) j))) st):wpS M A E s (ltAt' i j) Q st:=by
 obtain⟨x,ex,mx,_⟩:=CI (show i<(arrOf st).size by rw[B.sz];exact hi);obtain⟨y,ey,my,_⟩:=CI (show j<(arrOf st).size by rw[B.sz];exact hj);refine NP L (B.kd.trans hk) ex ey (hS x (B.mem mx)) (hS y (B.mem my)) ?_;unfold KG at h;rwa [Gb ex,Gb ey]at h
theorem JG{xs:Array Keyed}{src d:Nat}(hs:src<xs.size)(hd:d<=src)(k:Nat) :
  KG κ (bubble xs src d) k=if k=src-d then KG κ xs src else if src-d<k/\k<=src then KG κ xs (k-1) else KG κ xs k:=by
 have e:=getElem?_bubble hs d hd k;split
 .next h1=>rw[if_pos h1]at e;exact EQ e
 .next h1 =>
  rw[if_neg h1]at e;split
  .next h2=>rw[if_pos h2]at e;exact EQ e
  .next h2=>rw[if_neg h2]at e;exact EQ e
theorem Fx{xs:Array Keyed}{i j:Nat}(hj:j<=xs.size)(k:Nat):KG κ (mirror xs i j ((j-i) / 2)) k=if i<=k/\k<j then KG κ xs (i+j-1-k) else KG κ xs k:=by
 have e:=getElem?_mirror_all (i:=i) hj k;split
 .next h1=>rw[if_pos h1]at e;exact EQ e
 .next h1=>rw[if_neg h1]at e;exact EQ e
theorem ER{xs:Array Keyed}{i j:Nat}(hj:j<=xs.size)(heq:∀k,i<=k->k<j->KG κ xs k=KG κ xs (j-1))(k:Nat):KG κ (mirror xs i j ((j-i) / 2)) k=KG κ xs k:=by
 rw[Fx hj];split
 .rw[heq _ (by lia) (by lia),heq k (by lia) (by lia)]
 .rfl
theorem Amid.mir{st0 st:SortSt}{lo n:Nat}(h:Amid st0 lo n st){i j:Nat}(hi:lo<=i)(hj:j<=lo+n)(hn:lo+n<=(arrOf st0).size):Amid st0 lo n (setArr st (mirror (arrOf st) i j ((j-i) / 2))) :=
 h.set (mirror_perm _ _ _ _) λ k hk=>by rw[getElem?_mirror_all (by rw[h.sz];lia),if_neg (by lia)]
theorem Amid.bub{st0 st:SortSt}{lo n:Nat}(h:Amid st0 lo n st){k l:Nat}(hk:k<n)(hl:l<=k)(hn:lo+n<=(arrOf st0).size):Amid st0 lo n (setArr st (bubble (arrOf st) (lo+k) (k-l))) :=
 h.set (bubble_perm _ _ _) λ i hi=>by
  rw[getElem?_bubble (by rw[h.sz];lia) _ (by lia)];rw[if_neg (by lia),if_neg (by lia)]
theorem DL{st:SortSt}{i j:Nat}{Q:Unit->SortSt->Prop}(h:Q () (setArr st (mirror (arrOf st) i j ((j-i) / 2)))):wpS M A E s (reverseSlice' i j) Q st:=by
 rw[reverseSlice'_eq];exact wpS_modify h
theorem OH{st:SortSt}{i j:Nat}{Q:Unit->SortSt->Prop}(h:Q () (setArr st (bubble (arrOf st) i (i-j)))):wpS M A E s (moveDown' i j) Q st:=by
 rw[moveDown'_eq];exact wpS_modify h
theorem FF(L:LtG M A E s kd κ S){st0 st:SortSt}{lo n ok:Nat}{Q:Bool->SortSt->Prop}(hk:kindOf st0=kd)(hS:∀x∈(arrOf st0).toList,S x)(hn:lo+n<=(arrOf st0).size)(hok:ok<=n)(B:Amid st0 lo n st)(up:UpG κ (arrOf st) lo ok)
  (h:∀u,Amid st0 lo n u->UpG κ (arrOf u) lo n->Q true u):wpS M A E s (LG lo n ok) Q st:=by
 refine wpS_bind (wpS_mono (wpS_forRange (I:=λ k (c:Option Bool×Unit) u=>c=(none,())/\Amid st0 lo n u/\UpG κ (arrOf u) lo (min k n))
  (Q:=λ(c:Option Bool×Unit) u=>c=(none,())/\Amid st0 lo n u/\UpG κ (arrOf u) lo n) ?step ?fin ?init) ?post)
 case post =>
  rintro c u ⟨rfl,B1,up1⟩;exact wpS_pure (h u B1 up1)
 case init =>
  refine⟨rfl,B,λ i j hij hj=>?_⟩;rcases Nat.eq_zero_or_pos ok with h1|h1
  .have:i=j:=by lia
   subst this;exact Int.le_refl _
  .exact up i j hij (by lia)
 case fin =>
  rintro c u ⟨hc,B1,up1⟩;refine⟨hc,B1,?_⟩;rwa [show min (max (max ok 1) n) n=n by lia]at up1
 case step =>
  rintro k c u hak hkn ⟨rfl,B1,up1⟩;rw[show min k n=k by lia]at up1;refine wpS_bind (wpS_mono (wpS_forRange (I:=λ x (c:Option Bool×Nat×Nat) v=>v=u/\∃l r,c=(none,l,r)/\l<=r/\r<=k/\r-l<=k-x /\
    (∀i,i<l->KG κ (arrOf u) (lo+i)<=KG κ (arrOf u) (lo+k))/\(∀i,r<=i->i<k->KG κ (arrOf u) (lo+k)<KG κ (arrOf u) (lo+i)))
   (Q:=λ(c:Option Bool×Nat×Nat) v=>v=u/\∃l r,c=(none,l,r)/\l<=k /\
    (∀i,i<l->KG κ (arrOf u) (lo+i)<=KG κ (arrOf u) (lo+k))/\(∀i,l<=i->i<k->KG κ (arrOf u) (lo+k)<KG κ (arrOf u) (lo+i))) ?istep ?ifin ?iinit) ?ipost)
  case iinit=>exact⟨rfl,0,k,rfl,Nat.zero_le _,Nat.le_refl _,Nat.le_refl _,λ i hi=>absurd hi (Nat.not_lt_zero i),λ i g1 g2=>by lia⟩
  case ifin =>
   rintro c v ⟨rfl,l,r,rfl,hlr,hrk,hm,g1,g2⟩;have:l=r:=by lia
   subst this;exact⟨rfl,l,l,rfl,hrk,g1,g2⟩
  case istep =>
   rintro x c v _ hxk ⟨rfl,l,r,rfl,hlr,hrk,hm,g1,g2⟩;dsimp only;rcases Nat.lt_or_ge l r with hge|hge
   .rw[if_neg (by lia)];refine wpS_bind (Ez L hk hS B1 (by lia) (by lia) ?_);by_cases hless:KG κ (arrOf v) (lo+k)<KG κ (arrOf v) (lo+(l+r) / 2)
    .simp only[hless,decide_true,if_true];refine wpS_pure ⟨rfl,l,(l+r) / 2,rfl,by lia,by lia,by lia,g1,λ i i1 i2=>?_⟩;exact Int.lt_of_lt_of_le hless (up1 _ _ i1 i2)
    .simp only[hless,decide_false,Bool.false_eq_true,if_false];refine wpS_pure ⟨rfl,(l+r) / 2+1,r,rfl,by lia,by lia,by lia,λ i i1=>?_,g2⟩;exact Int.le_trans (up1 i ((l+r) / 2) (by lia) (by lia)) (Int.not_lt.mp hless)
   .rw[if_pos hge];have:l=r:=by lia
    subst this;exact wpS_pure ⟨rfl,l,l,rfl,hrk,g1,g2⟩
  case ipost =>
   rintro c v ⟨rfl,l,r,rfl,hlk,g1,g2⟩;have hks:lo+k<(arrOf v).size:=by rw[B1.sz];lia
   refine wpS_bind (OH (wpS_pure ⟨rfl,?_,?_⟩))
   .rw[show lo+k-(lo+l)=k-l by lia];exact B1.bub hkn hlk hn
   rw[show min (k+1) n=k+1 by lia];intro i j hij hj;show KG κ (bubble (arrOf v) (lo+k) (lo+k-(lo+l))) (lo+i)<=KG κ (bubble (arrOf v) (lo+k) (lo+k-(lo+l))) (lo+j);rw[show lo+k-(lo+l)=k-l by lia];rw[JG hks (by lia),JG hks (by lia),show lo+k-(k-l)=lo+l by lia];have at1:∀i,i≠0->lo+i-1=lo+(i-1):=λ i hi=>by lia
   repeat' split
   all_goals first
    | (exfalso;lia)
    |exact Int.le_refl _
    | (rw[at1 _ (by lia)];exact Int.le_of_lt (g2 _ (by lia) (by lia)))
    | (rw[at1 i (by lia),at1 j (by lia)];exact up1 _ _ (by lia) (by lia))
    | (rw[at1 j (by lia)];exact up1 _ _ (by lia) (by lia))
    |exact g1 _ (by lia)
    |exact up1 _ _ (by lia) (by lia)
def O3:Nat->Nat->StateT SortSt Sem (Option Nat):=sortPriv% PySem.Builtin.countRun
def SV(M:Model)(A:Around)(E:VPz)(s:Shared)(lo:Nat)(f:Nat->Option (Option Nat)×Nat->StateT SortSt Sem (ForInStep (Option (Option Nat)×Nat))):Prop :=
 ∀x n u (R:ForInStep (Option (Option Nat)×Nat)->SortSt->Prop),wpS M A E s (ltAt' (lo+n) (lo+n-1)) (λ r v=>∃b,r=some b/\(b=true->R (.done (none,n)) v)/\(b=false->R (.yield (none,n+1)) v)) u->wpS M A E s (f x (none,n)) R u
theorem UpG.more{xs:Array Keyed}{lo x:Nat}(up:UpG κ xs lo x)(hx:1<=x)(g:¬KG κ xs (lo+x)<KG κ xs (lo+x-1)):UpG κ xs lo (x+1):=λ i j hij hj=>by
 rcases Nat.lt_or_ge j x with hjx|hjx
 .exact up i j hij hjx
 .have e:j=x:=by lia
  subst e;rcases Nat.lt_or_ge i j with hi|hi
  .have:=up i (j-1) (by lia) (by lia);rw[show lo+(j-1)=lo+j-1 by lia]at this;lia
  .rw[show i=j by lia];exact Int.le_refl _
theorem DownG.more{xs:Array Keyed}{lo x:Nat}(up:DownG κ xs lo x)(hx:1<=x)(g:KG κ xs (lo+x)<=KG κ xs (lo+x-1)):DownG κ xs lo (x+1):=λ i j hij hj=>by
 rcases Nat.lt_or_ge j x with hjx|hjx
 .exact up i j hij hjx
 .have e:j=x:=by lia
  subst e;rcases Nat.lt_or_ge i j with hi|hi
  .have:=up i (j-1) (by lia) (by lia);rw[show lo+(j-1)=lo+j-1 by lia]at this;lia
  .rw[show i=j by lia];exact Int.le_refl _
theorem TN(L:LtG M A E s kd κ S){st0 st:SortSt}{lo a nrem:Nat}{f:Nat->Option (Option Nat)×Nat->StateT SortSt Sem (ForInStep (Option (Option Nat)×Nat))}{Q:Option (Option Nat)×Nat->SortSt->Prop}(hk:kindOf st0=kd)(hS:∀x∈(arrOf st0).toList,S x)(hn:lo+nrem<=(arrOf st0).size)(B:Amid st0 lo nrem st)
  (hf:SV M A E s lo f) (ha:1<=a) (han:a<=nrem) (up:UpG κ (arrOf st) lo a)
  (h:∀n,a<=n->n<=nrem->UpG κ (arrOf st) lo n->(n=nrem\/KG κ (arrOf st) (lo+n)<KG κ (arrOf st) (lo+n-1))->Q (none,n) st):wpS M A E s (forIn [a:nrem] (none,a) f) Q st:=by
 refine wpS_forRange (I:=λ x c u=>u=st/\c=(none,x)/\UpG κ (arrOf st) lo x) ?_ ?_ ⟨rfl,rfl,up⟩
 .rintro x c u hax hxn ⟨rfl,rfl,up1⟩;refine hf _ _ _ _ (Ez L hk hS B (by lia) (by lia) ⟨_,rfl,λ e=>?_,λ e=>?_⟩)
  .exact h x hax (by lia) up1 (.inr (of_decide_eq_true e))
  .exact⟨rfl,rfl,up1.more (by lia) (of_decide_eq_false e)⟩
 .rintro c u ⟨rfl,rfl,up1⟩;rw[show max a nrem=nrem by lia]at up1 |-;exact h nrem han (Nat.le_refl _) up1 (.inl rfl)
theorem Nd(L:LtG M A E s kd κ S){st0 st:SortSt}{lo m nrem:Nat}{f:Nat->Option (Option Nat)×Nat->StateT SortSt Sem (ForInStep (Option (Option Nat)×Nat))}{g:Option (Option Nat)×Nat->StateT SortSt Sem (Option Nat)}{Q:Option Nat->SortSt->Prop}(hk:kindOf st0=kd)(hS:∀x∈(arrOf st0).toList,S x)(hn:lo+nrem<=(arrOf st0).size)(B:Amid st0 lo nrem st)
  (hf:SV M A E s lo f) (hg:∀n,g (none,n)=pure (some n)) (ha:1<=m) (han:m<=nrem) (dn:DownG κ (arrOf st) lo m)
  (h:∀n u,Amid st0 lo nrem u->1<=n->n<=nrem->UpG κ (arrOf u) lo n->Q (some n) u):wpS M A E s (reverseSlice' lo (lo+m) >>= λ_=>(forIn [m:nrem] (none,m) f >>= g)) Q st:=by
 refine wpS_bind (DL ?_);have B1:=B.mir (i:=lo) (j:=lo+m) (Nat.le_refl _) (by lia) hn;have sz:lo+m<=(arrOf st).size:=by rw[B.sz];lia
 refine wpS_bind (TN L hk hS hn B1 hf ha han (λ i j hij hj=>?_) λ n h1 h2 h3 _=>?_)
 .show KG κ (mirror (arrOf st) lo (lo+m) _) (lo+i)<=KG κ (mirror (arrOf st) lo (lo+m) _) (lo+j);rw[Fx sz,Fx sz,if_pos (by lia),if_pos (by lia)];rw[show lo+(lo+m)-1-(lo+i)=lo+(m-1-i) by lia,show lo+(lo+m)-1-(lo+j)=lo+(m-1-j) by lia];exact dn _ _ (by lia) (by lia)
 .rw[hg];exact wpS_pure (h n _ B1 (by lia) h2 h3)
def U9(M:Model)(A:Around)(E:VPz)(s:Shared)(lo:Nat)(f:Nat->Option (Option Nat)×Nat×Nat->StateT SortSt Sem (ForInStep (Option (Option Nat)×Nat×Nat))):Prop :=
 ∀x n q u (R:ForInStep (Option (Option Nat)×Nat×Nat)->SortSt->Prop),wpS M A E s (ltAt' (lo+n) (lo+n-1)) (λ r v=>∃b,r=some b/\(b=true->q>0->R (.yield (none,n+1,0)) (setArr v (mirror (arrOf v) (lo+n-(q+1)) (lo+n) ((lo+n-(lo+n-(q+1))) / 2))))/\(b=true->q=0->R (.yield (none,n+1,0)) v) /\
  (b=false->wpS M A E s (ltAt' (lo+n-1) (lo+n)) (λ r w=>∃b,r=some b/\(b=true->R (.done (none,n,q)) w)/\(b=false->R (.yield (none,n+1,q+1)) w)) v)) u->wpS M A E s (f x (none,n,q)) R u
theorem RD(L:LtG M A E s kd κ S){st0 st:SortSt}{lo n nrem:Nat}{f:Nat->Option (Option Nat)×Nat×Nat->StateT SortSt Sem (ForInStep (Option (Option Nat)×Nat×Nat))}{Q:Option (Option Nat)×Nat×Nat->SortSt->Prop}(hk:kindOf st0=kd)(hS:∀x∈(arrOf st0).toList,S x)(hn:lo+nrem<=(arrOf st0).size)(B:Amid st0 lo nrem st)
  (hf:U9 M A E s lo f) (ha:1<=n) (han:n<=nrem) (dn:DownG κ (arrOf st) lo n)
  (h:∀m q u,Amid st0 lo nrem u->n<=m->m<=nrem->DownG κ (arrOf u) lo m->q+1<=m->(∀i,lo+m-(q+1)<=i->i<lo+m->KG κ (arrOf u) i=KG κ (arrOf u) (lo+m-1))->Q (none,m,q) u):wpS M A E s (forIn [n:nrem] (none,n,0) f) Q st:=by
 refine wpS_forRange (I:=λ x c u=>∃q,c=(none,x,q)/\Amid st0 lo nrem u/\DownG κ (arrOf u) lo x/\q+1<=x/\(∀i,lo+x-(q+1)<=i->i<lo+x->KG κ (arrOf u) i=KG κ (arrOf u) (lo+x-1))) ?_ ?_ ⟨0,rfl,B,dn,ha,λ i h1 h2=>by rw[show i=lo+n-1 by lia]⟩
 .rintro x c u hax hxn ⟨q,rfl,B1,dn1,hq,he⟩;have sz:lo+x<=(arrOf u).size:=by rw[B1.sz];lia
  refine hf _ _ _ _ _ (Ez L hk hS B1 (by lia) (by lia) ⟨_,rfl,λ e q0=>?_,λ e q0=>?_,λ e=>?_⟩)
  .have e:=of_decide_eq_true e;have lv:=ER sz he;refine⟨0,rfl,B1.mir (by lia) (by lia) hn,?_,by lia,λ i h1 h2=>by rw[show i=lo+(x+1)-1 by lia]⟩;have d2:DownG κ (mirror (arrOf u) (lo+x-(q+1)) (lo+x) ((lo+x-(lo+x-(q+1))) / 2)) lo x:=λ i j hij hj=>by
    rw[lv,lv];exact dn1 i j hij hj
   exact d2.more (by lia) (by rw[lv,lv];exact Int.le_of_lt e)
  .have e:=of_decide_eq_true e;exact⟨0,rfl,B1,dn1.more (by lia) (Int.le_of_lt e),by lia,λ i h1 h2=>by rw[show i=lo+(x+1)-1 by lia]⟩
  .have e:=of_decide_eq_false e;refine Ez L hk hS B1 (by lia) (by lia) ⟨_,rfl,λ e2=>?_,λ e2=>?_⟩
   .exact h x q u B1 hax (by lia) dn1 hq he
   .have e2:=of_decide_eq_false e2;refine⟨q+1,rfl,B1,dn1.more (by lia) (by lia),by lia,λ i h1 h2=>?_⟩;rcases Nat.lt_or_ge i (lo+x) with hi|hi
    .rw[he i (by lia) hi,show lo+(x+1)-1=lo+x by lia];lia
    .rw[show i=lo+(x+1)-1 by lia]
 .rintro c u ⟨q,rfl,B1,dn1,hq,he⟩;rw[show max n nrem=nrem by lia]at dn1 hq he |-;exact h nrem q u B1 han (Nat.le_refl _) dn1 hq he
theorem Ie(L:LtG M A E s kd κ S){st:SortSt}{lo nrem:Nat}{Q:Option Nat->SortSt->Prop}(hk:kindOf st=kd)(hS:∀x∈(arrOf st).toList,S x)(hn:lo+nrem<=(arrOf st).size)(h1:1<=nrem)
  (h:∀m u,Amid st lo nrem u->1<=m->m<=nrem->UpG κ (arrOf u) lo m->Q (some m) u):wpS M A E s (O3 lo nrem) Q st:=by
 have B:=Amid.refl st lo nrem;have sure:∀(f:Nat->Option (Option Nat)×Nat->StateT SortSt Sem (ForInStep (Option (Option Nat)×Nat))),(∀x n u (R:ForInStep (Option (Option Nat)×Nat)->SortSt->Prop),wpS M A E s (ltAt' (lo+n) (lo+n-1)) (λ r v=>∃b,r=some b/\(b=true->R (.done (none,n)) v)/\(b=false->R (.yield (none,n+1)) v)) u->wpS M A E s (f x (none,n)) R u)->SV M A E s lo f:=λ f h=>h;refine wpS_bind (TN L hk hS hn B (λ x n u R g=>wpS_bind (wpS_mono g ?_)) (Nat.le_refl 1) h1 (λ i j hij hj=>by rw[show i=j by lia];exact Int.le_refl _) λ n hn1 hn2 up hor=>?_)
 .rintro r v ⟨b,rfl,g1,g2⟩;cases b with
  |true=>exact wpS_pure (g1 rfl)
  |false=>exact wpS_pure (g2 rfl)
 dsimp only;by_cases hnn:n=nrem
 .rw[if_pos (beq_iff_eq.mpr hnn)];exact wpS_pure (h n st B hn1 hn2 up)
 rw[if_neg (λ z=>hnn (beq_iff_eq.mp z))];have hlt:=hor.resolve_left hnn;have sz:lo+n<=(arrOf st).size:=by lia
 rcases Nat.lt_or_ge 1 n with hgt|hgt
 .rw[if_pos hgt];refine wpS_bind (Ez L hk hS B (by lia) (by lia) ?_);by_cases rose:KG κ (arrOf st) lo<KG κ (arrOf st) (lo+n-1)
  .rw[decide_eq_true rose];exact wpS_pure (h n st B hn1 hn2 up)
  rw[decide_eq_false rose];have all:∀k,lo<=k->k<lo+n->KG κ (arrOf st) k=KG κ (arrOf st) (lo+n-1):=λ k k1 k2=>by
   have a1:=up 0 (k-lo) (by lia) (by lia);have a2:=up (k-lo) (n-1) (by lia) (by lia);rw[Nat.add_zero]at a1;rw[show lo+(k-lo)=k by lia]at a1 a2;rw[show lo+(n-1)=lo+n-1 by lia]at a2;lia
  refine wpS_bind (DL ?_);have lv:=ER sz all;have B1:=B.mir (i:=lo) (j:=lo+n) (Nat.le_refl _) (by lia) hn;have dn:DownG κ (mirror (arrOf st) lo (lo+n) ((lo+n-lo) / 2)) lo (n+1):=by
   refine DownG.more (λ i j hij hj=>?_) hn1 (by rw[lv,lv];exact Int.le_of_lt hlt);rw[lv,lv,all _ (by lia) (by lia),all (lo+i) (by lia) (by lia)];exact Int.le_refl _
  replace dn:DownG κ (arrOf (setArr st (mirror (arrOf st) lo (lo+n) ((lo+n-lo) / 2)))) lo (n+1):=dn
  generalize setArr st (mirror (arrOf st) lo (lo+n) ((lo+n-lo) / 2))=w at B1 dn |-;clear rose all lv;refine wpS_bind (wpS_lift (wpAny_rule ⟨rfl,?_⟩));refine wpS_bind (RD L hk hS hn B1 (λ x n q u R g=>wpS_bind (wpS_mono g ?_)) (by lia) (by lia) dn λ m q u B2 m1 m2 dn2 q1 he=>?_)
  .rintro r v ⟨b,rfl,g1,g2,g3⟩;cases b with
   |true =>
    rcases Nat.eq_zero_or_pos q with q0|q0
    .subst q0;exact wpS_pure (g2 rfl rfl)
    .dsimp only;rw[if_pos rfl,if_pos q0];exact wpS_bind (DL (wpS_pure (g1 rfl q0)))
   |false =>
    refine wpS_bind (wpS_mono (g3 rfl) ?_);rintro r v ⟨b,rfl,g1,g2⟩;cases b with
    |true=>exact wpS_pure (g1 rfl)
    |false=>exact wpS_pure (g2 rfl)
  dsimp only;have sz2:lo+m<=(arrOf u).size:=by rw[B2.sz];lia
  rcases Nat.eq_zero_or_pos q with q0|q0
  .rw[if_neg (by lia)];refine Nd L hk hS hn B2 (λ x n u R g=>wpS_bind (wpS_mono g ?_)) (λ n=>rfl) (by lia) m2 dn2 h;rintro r v ⟨b,rfl,g1,g2⟩;cases b with
   |true=>exact wpS_pure (g1 rfl)
   |false=>exact wpS_pure (g2 rfl)
  .rw[if_pos q0];refine wpS_bind (DL ?_);have lv:=ER sz2 he;refine Nd L hk hS hn (B2.mir (by lia) (by lia) hn) (λ x n u R g=>wpS_bind (wpS_mono g ?_)) (λ n=>rfl) (by lia) m2 (λ i j hij hj=>?_) h
   .rintro r v ⟨b,rfl,g1,g2⟩;cases b with
    |true=>exact wpS_pure (g1 rfl)
    |false=>exact wpS_pure (g2 rfl)
   .show KG κ (mirror _ _ _ _) _<=KG κ (mirror _ _ _ _) _;rw[lv,lv];exact dn2 i j hij hj
 .rw[if_neg (by lia)];have e1:n=1:=by lia
  have dn:DownG κ (arrOf st) lo (n+1):=DownG.more (λ i j hij hj=>by rw[show i=j by lia];exact Int.le_refl _) hn1 (Int.le_of_lt hlt);refine wpS_bind (wpS_lift (wpAny_rule ⟨rfl,?_⟩));refine wpS_bind (RD L hk hS hn B (λ x n q u R g=>wpS_bind (wpS_mono g ?_)) (by lia) (by lia) dn λ m q u B2 m1 m2 dn2 q1 he=>?_)
  .rintro r v ⟨b,rfl,g1,g2,g3⟩;cases b with
   |true =>
    rcases Nat.eq_zero_or_pos q with q0|q0
    .subst q0;exact wpS_pure (g2 rfl rfl)
    .dsimp only;rw[if_pos rfl,if_pos q0];exact wpS_bind (DL (wpS_pure (g1 rfl q0)))
   |false =>
    refine wpS_bind (wpS_mono (g3 rfl) ?_);rintro r v ⟨b,rfl,g1,g2⟩;cases b with
    |true=>exact wpS_pure (g1 rfl)
    |false=>exact wpS_pure (g2 rfl)
  dsimp only;have sz2:lo+m<=(arrOf u).size:=by rw[B2.sz];lia
  rcases Nat.eq_zero_or_pos q with q0|q0
  .rw[if_neg (by lia)];refine Nd L hk hS hn B2 (λ x n u R g=>wpS_bind (wpS_mono g ?_)) (λ n=>rfl) (by lia) m2 dn2 h;rintro r v ⟨b,rfl,g1,g2⟩;cases b with
   |true=>exact wpS_pure (g1 rfl)
   |false=>exact wpS_pure (g2 rfl)
  .rw[if_pos q0];refine wpS_bind (DL ?_);have lv:=ER sz2 he;refine Nd L hk hS hn (B2.mir (by lia) (by lia) hn) (λ x n u R g=>wpS_bind (wpS_mono g ?_)) (λ n=>rfl) (by lia) m2 (λ i j hij hj=>?_) h
   .rintro r v ⟨b,rfl,g1,g2⟩;cases b with
    |true=>exact wpS_pure (g1 rfl)
    |false=>exact wpS_pure (g2 rfl)
   .show KG κ (mirror _ _ _ _) _<=KG κ (mirror _ _ _ _) _;rw[lv,lv];exact dn2 i j hij hj
def Tiles(κ:Keyed->Int)(xs:List Keyed):Nat->List (Nat×Nat×Nat)->Nat->Prop
 |a,[],b=>a=b
 |a,p::ps,b=>p.1=a/\0<p.2.1/\Rise κ ((xs.drop a).take p.2.1)/\Tiles κ xs (a+p.2.1) ps b
theorem Tiles.len{xs:List Keyed}:∀{ps:List (Nat×Nat×Nat)}{a b:Nat},Tiles κ xs a ps b->a+ps.length<=b
 |[],a,b,h=>Nat.le_of_eq h
 |p::ps,a,b,h=>by
  have:=Tiles.len h.2.2.2;have:=h.2.1;rw[List.length_cons];lia
theorem Tiles.app{xs:List Keyed}:∀{ps qs:List (Nat×Nat×Nat)}{a b:Nat},Tiles κ xs a (ps++qs) b↔∃c,Tiles κ xs a ps c/\Tiles κ xs c qs b
 |[],qs,a,b=>⟨λ h=>⟨a,rfl,h⟩,λ⟨c,h1,h2⟩=>by cases h1;exact h2⟩
 |p::ps,qs,a,b=>by
  constructor
  .rintro⟨h1,h2,h3,h4⟩;obtain⟨c,g1,g2⟩:=Tiles.app.mp h4;exact⟨c,⟨h1,h2,h3,g1⟩,g2⟩
  .rintro⟨c,⟨h1,h2,h3,g1⟩,g2⟩;exact⟨h1,h2,h3,Tiles.app.mpr ⟨c,g1,g2⟩⟩
theorem Gy{α:Type}{xs ys:List α}{a n:Nat}(h:∀i,a<=i->i<a+n->ys[i]?=xs[i]?):(ys.drop a).take n=(xs.drop a).take n:=by
 apply List.ext_getElem?;intro i;rw[List.getElem?_take,List.getElem?_take];split
 .rw[List.getElem?_drop,List.getElem?_drop];exact h _ (by lia) (by lia)
 .rfl
theorem Tiles.same{xs ys:List Keyed}:∀{ps:List (Nat×Nat×Nat)}{a b:Nat},Tiles κ xs a ps b->(∀i,a<=i->i<b->ys[i]?=xs[i]?)->Tiles κ ys a ps b
 |[],a,b,h,_=>h
 |p::ps,a,b,h,g=>by
  have l:=Tiles.len h.2.2.2;refine⟨h.1,h.2.1,?_,Tiles.same h.2.2.2 λ i i1 i2=>g i (by lia) i2⟩;rw[Gy λ i i1 i2=>g i i1 (by lia)];exact h.2.2.1
theorem Tiles.words{xs:List Keyed}:∀{ps qs:List (Nat×Nat×Nat)}{a b:Nat},Tiles κ xs a ps b->qs.map (λ p=>(p.1,p.2.1))=ps.map (λ p=>(p.1,p.2.1))->Tiles κ xs a qs b
 |[],[],a,b,h,_=>h
 |[],_::_,a,b,h,e=>by simp at e
 |_::_,[],a,b,h,e=>by simp at e
 |p::ps,q::qs,a,b,h,e=>by
  obtain⟨e1,e2⟩:=List.cons.inj e;obtain⟨e3,e4⟩:=Prod.mk.inj e1;have t:=Tiles.words h.2.2.2 e2;rw[<-e4]at t;exact⟨e3.trans h.1,by rw[e4];exact h.2.1,by rw[e4];exact h.2.2.1,t⟩
theorem RP{α:Type}{p:Array α}{i:Nat}(h:i+1<p.size):∃P a b R,p.toList=P++a::b::R/\P.length=i/\p[i]?=some a/\p[i+1]?=some b:=by
 obtain⟨a,e1,_,d1⟩:=CI (show i<p.size by lia);obtain⟨b,e2,_,d2⟩:=CI h;refine⟨p.toList.take i,a,b,p.toList.drop (i+1+1),?_,by rw[List.length_take,Array.length_toList];lia,e1,e2⟩;rw[<-d2,<-d1,List.take_append_drop]
theorem Q4{α:Type}{p:Array α}{P R:List α}{a b v:α}(h:p.toList=P++a::b::R):((p.setIfInBounds P.length v).eraseIdxIfInBounds (P.length+1)).toList=P++v::R:=by
 have hs:p.size=P.length+(R.length+2):=by rw[<-Array.length_toList,h];simp
 have h1:P.length+1<(p.setIfInBounds P.length v).size:=by rw[Array.size_setIfInBounds];lia
 rw[Array.eraseIdxIfInBounds,dif_pos h1,Array.toList_eraseIdx,Array.toList_setIfInBounds,h];rw[List.set_append_right _ _ (Nat.le_refl _),Nat.sub_self,List.set_cons_zero,List.eraseIdx_append_of_length_le (by lia),Nat.add_sub_cancel_left];rfl
structure RunI(κ:Keyed->Int)(kd:SortKind)(a0:Array Keyed)(b:Nat)(st:SortSt):Prop where
 kd:kindOf st=kd
 fa:failedOf st=none
 pm:(arrOf st).Perm a0
 tl:Tiles κ (arrOf st).toList 0 (pendingOf st).toList b
theorem M7(L:LtG M A E s kd κ S){a0:Array Keyed}{b i:Nat}{st:SortSt}{Q:Bool->SortSt->Prop}(hS:∀x∈a0.toList,S x)(hb:b<=a0.size)(I:RunI κ kd a0 b st)(hi:i+1<(pendingOf st).size)
  (h:∀u,RunI κ kd a0 b u->(pendingOf u).size+1=(pendingOf st).size->(∀i,b<=i->(arrOf u).toList[i]?=(arrOf st).toList[i]?)->Q true u):wpS M A E s (Ly i) Q st:=by
 obtain⟨P,p,q,R,e,rfl,e1,e2⟩:=RP hi;have tl:=I.tl;rw[e]at tl;obtain⟨c,t1,t2⟩:=Tiles.app.mp tl;obtain⟨sa,na,pw⟩:=p;obtain⟨sb,nb,pw'⟩:=q;obtain⟨x1,x2,x3,y1,y2,y3,t3⟩:=t2;simp only at x1 x2 x3 y1 y2 y3 t3;subst x1;subst y1;have l3:=Tiles.len t3;have szz:(arrOf st).size=a0.size:=I.pm.size_eq;refine KL L I.kd I.fa e1 e2 (λ x hx=>hS x ((Array.perm_iff_toList_perm.mp I.pm).mem_iff.mp hx)) x2 y2 (by lia) x3 y3 λ arr' g seg ea r pm=>?_;have two:=Q4 (v:=(sa,na+nb,pw)) e;have sl:seg.length=na+nb:=by
  rw[pm.length_eq,List.length_append,List.length_take,List.length_take,List.length_drop,List.length_drop,Array.length_toList];lia
 have le:((arrOf st).toList.take sa).length=sa:=by rw[List.length_take,Array.length_toList];lia
 have all:(arrOf st).toList=(arrOf st).toList.take sa++(((arrOf st).toList.drop sa).take na++((arrOf st).toList.drop (sa+na)).take nb)++(arrOf st).toList.drop (sa+na+nb):=by
  rw[List.append_assoc,List.append_assoc,<-B8 _ (sa+na) nb,<-B8 _ sa na,List.take_append_drop]
 refine h _ ⟨rfl,rfl,?_,?_⟩ ?_ (λ i hi=>?_)
 .refine Array.Perm.trans ?_ I.pm;rw[Array.perm_iff_toList_perm];show arr'.toList.Perm _;rw[ea]
  conv=>rhs;rw[all]
  exact List.Perm.append_right _ (List.Perm.append_left _ pm)
 .show Tiles κ arr'.toList 0 (((pendingOf st).setIfInBounds P.length (sa,na+nb,pw)).eraseIdxIfInBounds (P.length+1)).toList b;rw[two];refine Tiles.app.mpr ⟨sa,t1.same λ i _ i2=>?_,rfl,by show 0<na+nb;lia,?_,?_⟩
  .rw[ea,List.append_assoc,List.getElem?_append_left (by lia),List.getElem?_take,if_pos i2]
  .show Rise κ ((arr'.toList.drop sa).take (na+nb));rw[ea,List.append_assoc,List.drop_append_of_le_length (by lia),List.drop_of_length_le (by lia),List.nil_append,List.take_append_of_le_length (by lia),List.take_of_length_le (by lia)];exact r
  .show Tiles κ arr'.toList (sa+(na+nb)) R b;rw[<-Nat.add_assoc];refine t3.same λ i i1 i2=>?_;rw[ea,List.getElem?_append_right (by rw[List.length_append];lia),List.getElem?_drop,List.length_append,le,sl];congr 1;lia
 .show(((pendingOf st).setIfInBounds P.length (sa,na+nb,pw)).eraseIdxIfInBounds (P.length+1)).size+1=(pendingOf st).size;rw[<-Array.length_toList,two,<-Array.length_toList,e];simp;lia
 .show arr'.toList[i]?=_;rw[ea,List.getElem?_append_right (by rw[List.length_append];lia),List.getElem?_drop,List.length_append,le,sl];congr 1;lia
theorem Np{xs:Array Keyed}{lo n:Nat}(h:UpG κ xs lo n)(hn:lo+n<=xs.size):Rise κ ((xs.toList.drop lo).take n):=by
 refine List.pairwise_iff_getElem.mpr λ i j hi hj hij=>?_;rw[List.length_take,List.length_drop,Array.length_toList]at hi hj;rw[List.getElem_take,List.getElem_take,List.getElem_drop,List.getElem_drop];have:=h i j (by lia) (by lia);unfold KG at this;rw[Array.getD_eq_getD_getElem?,Array.getD_eq_getD_getElem?,getElem?_pos xs (lo+i) (by lia),getElem?_pos xs (lo+j) (by lia)]at this
 simpa using this
theorem RunI.amid{a0:Array Keyed}{lo n:Nat}{st u:SortSt}(I:RunI κ kd a0 lo st)(B:Amid st lo n u):RunI κ kd a0 lo u :=
 ⟨B.kd.trans I.kd,B.fa.trans I.fa,B.pm.trans I.pm,by
  rw[B.pe];exact I.tl.same λ i _ i2=>by rw[Array.getElem?_toList,Array.getElem?_toList];exact B.out i (.inl i2)⟩
def NX:StateT SortSt Sem Unit:=sortPriv% PySem.Builtin.sortRuns
def DS:Nat->Nat->Nat->Nat:=sortPriv% PySem.Builtin.minRun
theorem F1:∀f n r,1<=n->1<=DS f n r
 |0,n,r,h=>by show 1<=n+r;lia
 |f+1,n,r,h=>by
  show 1<=if n<64 then n+r else DS f (n / 2) (max r (n % 2));split
  .lia
  .exact F1 f _ _ (by lia)
theorem RunI.add{a0:Array Keyed}{lo n pw:Nat}{st:SortSt}{p:Array (Nat×Nat×Nat)}{g:Nat}(I:RunI κ kd a0 lo st)(hp:p.toList.map (λ p=>(p.1,p.2.1))=(pendingOf st).toList.map (λ p=>(p.1,p.2.1)))(hn:0<n)(r:Rise κ (((arrOf st).toList.drop lo).take n)):RunI κ kd a0 (lo+n) (SortSt.mk' (kindOf st) (arrOf st) (p.push (lo,n,pw)) g (failedOf st)) :=
 ⟨I.kd,I.fa,I.pm,by
  show Tiles κ (arrOf st).toList 0 (p.push (lo,n,pw)).toList (lo+n);rw[Array.toList_push];exact Tiles.app.mpr ⟨lo,I.tl.words hp,rfl,hn,r,rfl⟩⟩
theorem IN{p:Array (Nat×Nat×Nat)}{i pw:Nat}:(p.modify i λ x=>(x.1,x.2.1,pw)).toList.map (λ p=>(p.1,p.2.1))=p.toList.map (λ p=>(p.1,p.2.1)):=by
 apply List.ext_getElem?;intro j;simp only[List.getElem?_map,Array.getElem?_toList,Array.getElem?_modify];split
 .next h=>subst h;cases p[i]?<;>rfl
 .rfl
theorem Ic(L:LtG M A E s kd κ S){st:SortSt}{Q:Unit->SortSt->Prop}(hk:kindOf st=kd)(hfa:failedOf st=none)(hpe:pendingOf st=#[])(hS:∀x∈(arrOf st).toList,S x)
  (h:∀u,(arrOf u).Perm (arrOf st)->failedOf u=none->Rise κ (arrOf u).toList->Q () u):wpS M A E s NX Q st:=by
 have I0:RunI κ kd (arrOf st) 0 st:=⟨hk,hfa,Array.Perm.refl _,by rw[hpe];rfl⟩;refine wpS_bind (wpS_get ?_);dsimp only;generalize hsz:(arrOf st).size=N;refine wpS_bind (wpS_mono (wpS_forRange
  (I:=λ x (c:Option Unit×Nat) u=>c.1=none/\x<=c.2/\c.2<=N/\RunI κ kd (arrOf st) c.2 u)
  (Q:=λ(c:Option Unit×Nat) u=>c=(none,N)/\RunI κ kd (arrOf st) N u) ?step ?fin ⟨rfl,Nat.le_refl _,Nat.zero_le _,I0⟩) ?post)
 case fin =>
  rintro⟨r,lo⟩ u ⟨e,h1,h2,I⟩;have h1:max 0 N<=lo:=h1;have h2:lo<=N:=h2;have:lo=N:=by lia
  subst this;have e:r=none:=e;subst e;exact⟨rfl,I⟩
 case step =>
  rintro x ⟨r,lo⟩ u _ hx ⟨e,h1,h2,I⟩;have h1:x<=lo:=h1;have h2:lo<=N:=h2;have e:r=none:=e;subst e;dsimp only at I |-;have us:(arrOf u).size=N:=I.pm.size_eq.trans hsz;have uS:∀x∈(arrOf u).toList,S x:=λ x hx=>hS x ((Array.perm_iff_toList_perm.mp I.pm).mem_iff.mp hx);rcases Nat.lt_or_ge lo N with hlo|hlo
  .rw[if_neg (by lia)];refine wpS_bind (Ie L I.kd uS (by lia) (by lia) λ m u1 B1 m1 m2 up1=>?_);dsimp only;have mr:1<=DS N N 0:=F1 _ _ _ (by lia);have back:∀(n:Nat)(v:SortSt),RunI κ kd (arrOf st) lo v->0<n->lo+n<=N->Rise κ (((arrOf v).toList.drop lo).take n) ->
     RunI κ kd (arrOf st) lo v/\0<n/\lo+n<=N/\Rise κ (((arrOf v).toList.drop lo).take n):=λ n v a b c d=>⟨a,b,c,d⟩
   have I1:=I.amid B1;rcases Nat.lt_or_ge m (DS N N 0) with hm|hm
   .rw[if_pos (show m<(sortPriv% PySem.Builtin.minRun) N N 0 from hm)];refine wpS_bind (wpS_lift (wpAny_rule ⟨rfl,?_⟩));have hf1:min (N-lo) (DS N N 0)<=N-lo:=Nat.min_le_left _ _;have hf2:m<=min (N-lo) (DS N N 0):=Nat.le_min.mpr ⟨m2,Nat.le_of_lt hm⟩
    replace hf1:min (N-lo) ((sortPriv% PySem.Builtin.minRun) N N 0)<=N-lo:=hf1
    replace hf2:m<=min (N-lo) ((sortPriv% PySem.Builtin.minRun) N N 0):=hf2
    generalize min (N-lo) ((sortPriv% PySem.Builtin.minRun) N N 0)=n at hf1 hf2 |-;have u1S:∀x∈(arrOf u1).toList,S x:=λ x hx=>uS x (B1.mem hx);refine wpS_bind (FF L I1.kd u1S (by rw[B1.sz];lia) hf2 (Amid.refl u1 lo n) up1 λ v B2 up2=>?_);have ff:∀{α:Type}(a b:α),(if (!true)=true then a else b)=b:=λ a b=>rfl;rw[ff];have Iv:=I1.amid B2;have rv:=Np up2 (by rw[B2.sz,B1.sz];lia);refine wpS_bind (wpS_get ?_);cases hb:(pendingOf v).back? with
    |none =>
     dsimp only;exact wpS_bind (wpS_modify (wpS_pure ⟨rfl,by show x+1<=lo+n;lia,by show lo+n<=N;lia,Iv.add rfl (by lia) rv⟩))
    |some p =>
     obtain⟨s1,n1,q⟩:=p;dsimp only;refine wpS_bind (wpS_mono (wpS_forRange (I:=λ_ (c:Option Unit×Unit) w=>c=(none,())/\RunI κ kd (arrOf st) lo w/\Rise κ (((arrOf w).toList.drop lo).take n)) (Q:=λ(c:Option Unit×Unit) w=>c=(none,())/\RunI κ kd (arrOf st) lo w/\Rise κ (((arrOf w).toList.drop lo).take n)) ?_ (λ_ _ z=>z) ⟨rfl,Iv,rv⟩) ?_)
     .rintro y c w _ _ ⟨rfl,Iw,rw'⟩;refine wpS_bind (wpS_get ?_);split
      .next fst fst1 older hq =>
       split
       .exact wpS_pure ⟨rfl,Iw,rw'⟩
       .refine wpS_bind (M7 L hS (by lia) Iw ?_ λ v2 I2 _ ou=>?_)
        .split at hq
         .next h2 =>
          have h2:1<(pendingOf w).size:=h2;show(pendingOf w).size-2+1<(pendingOf w).size;lia
         .nomatch hq
        .refine wpS_pure ⟨rfl,I2,?_⟩;rw[Gy λ i i1 _=>ou i i1];exact rw'
      .exact wpS_pure ⟨rfl,Iw,rw'⟩
     .rintro c w ⟨rfl,Iw,rw'⟩;dsimp only;exact wpS_bind (wpS_modify (wpS_bind (wpS_modify (wpS_pure ⟨rfl,by show x+1<=lo+n;lia,by show lo+n<=N;lia,Iw.add IN (by lia) rw'⟩))))
   .rw[if_neg (show ¬m<(sortPriv% PySem.Builtin.minRun) N N 0 from Nat.not_lt.mpr hm)];have Iv:=I1;have rv:=Np up1 (by rw[B1.sz];lia);refine wpS_bind (wpS_get ?_);cases hb:(pendingOf u1).back? with
    |none =>
     dsimp only;exact wpS_bind (wpS_modify (wpS_pure ⟨rfl,by show x+1<=lo+m;lia,by show lo+m<=N;lia,Iv.add rfl (by lia) rv⟩))
    |some p =>
     obtain⟨s1,n1,q⟩:=p;dsimp only;refine wpS_bind (wpS_mono (wpS_forRange (I:=λ_ (c:Option Unit×Unit) w=>c=(none,())/\RunI κ kd (arrOf st) lo w/\Rise κ (((arrOf w).toList.drop lo).take m)) (Q:=λ(c:Option Unit×Unit) w=>c=(none,())/\RunI κ kd (arrOf st) lo w/\Rise κ (((arrOf w).toList.drop lo).take m)) ?_ (λ_ _ z=>z) ⟨rfl,Iv,rv⟩) ?_)
     .rintro y c w _ _ ⟨rfl,Iw,rw'⟩;refine wpS_bind (wpS_get ?_);split
      .next fst fst1 older hq =>
       split
       .exact wpS_pure ⟨rfl,Iw,rw'⟩
       .refine wpS_bind (M7 L hS (by lia) Iw ?_ λ v2 I2 _ ou=>?_)
        .split at hq
         .next h2 =>
          have h2:1<(pendingOf w).size:=h2;show(pendingOf w).size-2+1<(pendingOf w).size;lia
         .nomatch hq
        .refine wpS_pure ⟨rfl,I2,?_⟩;rw[Gy λ i i1 _=>ou i i1];exact rw'
      .exact wpS_pure ⟨rfl,Iw,rw'⟩
     .rintro c w ⟨rfl,Iw,rw'⟩;dsimp only;exact wpS_bind (wpS_modify (wpS_bind (wpS_modify (wpS_pure ⟨rfl,by show x+1<=lo+m;lia,by show lo+m<=N;lia,Iw.add IN (by lia) rw'⟩))))
  .rw[if_pos hlo];have:lo=N:=by lia
   subst this;exact wpS_pure ⟨rfl,I⟩
 case post =>
  rintro c u ⟨rfl,I⟩;dsimp only;refine wpS_bind (wpS_mono (wpS_forRange (I:=λ x (c:Option Unit×Unit) v=>c=(none,())/\RunI κ kd (arrOf st) N v/\((pendingOf v).size+x<=N\/(pendingOf v).size<=1)) (Q:=λ(c:Option Unit×Unit) v=>c=(none,())/\RunI κ kd (arrOf st) N v/\(pendingOf v).size<=1) ?_ ?_ ⟨rfl,I,?_⟩) ?_)
  .rintro x c v _ hx ⟨rfl,Iv,hv⟩;refine wpS_bind (wpS_get ?_);rcases Nat.lt_or_ge 1 (pendingOf v).size with h1|h1
   .rw[if_neg (show ¬(pendingOf v).size<=1 by lia)];have ix:∀(b:Prop)[Decidable b],(if b then (pendingOf v).size-2-1 else (pendingOf v).size-2)+1<(pendingOf v).size:=λ b _=>by
     split<;>lia
    refine wpS_bind (M7 L hS (by lia) Iv (ix _) λ v2 I2 s2 _=>?_);exact wpS_pure ⟨rfl,I2,by rcases hv with hv|hv<;>lia⟩
   .rw[if_pos h1];exact wpS_pure ⟨rfl,Iv,h1⟩
  .rintro c v ⟨rfl,Iv,hv⟩;exact⟨rfl,Iv,by rcases hv with hv|hv<;>lia⟩
  .have:=Tiles.len I.tl;rw[Array.length_toList]at this;exact .inl (by lia)
  .rintro c v ⟨rfl,Iv,hv⟩;dsimp only;refine wpS_pure (h v Iv.pm Iv.fa ?_);have tl:=Iv.tl;have le:(pendingOf v).toList.length<=1:=by rw[Array.length_toList];exact hv
   have vs:(arrOf v).toList.length=N:=by rw[Array.length_toList];exact Iv.pm.size_eq.trans hsz
   generalize (pendingOf v).toList=ps at tl le
   match ps,tl,le with
   |[],tl,_ =>
    have e:0=N:=tl;rw[List.length_eq_zero_iff.mp (vs.trans e.symm)];exact List.Pairwise.nil
   |[p],tl,_ =>
    obtain⟨_,_,r,e⟩:=tl;have e:0+p.2.1=N:=e;rwa [List.drop_zero,List.take_of_length_le (by lia)]at r
end
def PJ:Option NameKind->Bool
 |some .cell=>true
 |some .free=>true
 |_=>false
theorem N4{o:Option NameKind}(h:PJ o=true):o=some .cell\/o=some .free:=by
 match o,h with
 |some .cell,_=>exact .inl rfl
 |some .free,_=>exact .inr rfl
theorem Eu(env:Env):∀(l:List (Str×NameKind))(acc:List (Str×Addr)),(∀y∈l,y.2=.free->∃c,env.cells.lookup y.1=some c) ->
  (∀x c,acc.lookup x=some c->env.cells.lookup x=some c) ->
  ∃cl,(forIn l acc (λ(x:Str×NameKind)(r:List (Str×Addr))=>if (x.2==.free)=true then (cellOf env x.1 >>= λ c=>pure (ForInStep.yield ((x.1,c)::r))) else pure (ForInStep.yield r)):Sem (List (Str×Addr)))=pure cl /\
   (∀x c,cl.lookup x=some c->env.cells.lookup x=some c)/\(∀x,((∃c,acc.lookup x=some c)\/(x,NameKind.free)∈l)->∃c,cl.lookup x=some c)
 |[],acc,_,ha=>⟨acc,by rfl,ha,λ x h=>h.elim id λ z=>nomatch z⟩
 | (n,k)::l,acc,hl,ha=>by
  have hl':∀y∈l,y.2=.free->∃c,env.cells.lookup y.1=some c:=λ y hy=>hl y (List.mem_cons_of_mem _ hy);by_cases hk:k=.free
  .subst hk;obtain⟨c,hc⟩:=hl (n,.free) List.mem_cons_self rfl;have hc':env.cells.lookup n=some c:=hc;have look:∀x,((n,c)::acc).lookup x=if x=n then some c else acc.lookup x:=λ x=>by
    rw[List.lookup_cons];by_cases e:x=n
    .subst e;simp
    .rw[if_neg e,show(x==n)=false by simpa using e]
   have ha':∀x d,((n,c)::acc).lookup x=some d->env.cells.lookup x=some d:=λ x d e=>by
    rw[look]at e;split at e
    .rename_i q;subst q;rw[hc'];exact e
    .exact ha x d e
   obtain⟨cl,e,h1,h2⟩:=Eu env l ((n,c)::acc) hl' ha';refine⟨cl,?_,h1,λ x h=>h2 x ?_⟩
   .rw[<-e,List.forIn_cons];have ec:cellOf env n=pure c:=by unfold cellOf;rw[hc']
    show((cellOf env n >>= λ c=>pure (ForInStep.yield ((n,c)::acc))) >>= _:Sem (List (Str×Addr)))=_;rw[ec];rfl
   .rcases h with ⟨d,q⟩|h
    .left
     rw[look];by_cases z:x=n
     .exact⟨c,by rw[if_pos z]⟩
     .exact⟨d,by rw[if_neg z];exact q⟩
    .rcases List.mem_cons.mp h with z|z
     .left
      rw[look];exact⟨c,by rw[if_pos (congrArg Prod.fst z)]⟩
     .exact .inr z
  .obtain⟨cl,e,h1,h2⟩:=Eu env l acc hl' ha;refine⟨cl,?_,h1,λ x h=>h2 x ?_⟩
   .rw[<-e,List.forIn_cons];have hb:(k==NameKind.free)=false:=by simpa using hk
    show((if (k==NameKind.free)=true then _ else pure (ForInStep.yield acc)) >>= _:Sem (List (Str×Addr)))=_;rw[hb];rfl
   .rcases h with h|h
    .exact .inl h
    .rcases List.mem_cons.mp h with z|z
     .exact absurd (congrArg Prod.snd z).symm hk
     .exact .inr z
theorem MP{scope:Scope}{env:Env}(h:∀y∈scope.names,y.2=.free->∃c,env.cells.lookup y.1=some c) :
  ∃cl,closureFor scope env=pure cl/\(∀x c,cl.lookup x=some c->env.cells.lookup x=some c)/\(∀x,(x,NameKind.free)∈scope.names->∃c,cl.lookup x=some c):=by
 obtain⟨cl,e,h1,h2⟩:=Eu env scope.names [] h (λ x c e=>by simp at e);refine⟨cl,?_,h1,λ x hx=>h2 x (.inr hx)⟩;have e2:closureFor scope env=(forIn scope.names [] (λ(x:Str×NameKind)(r:List (Str×Addr))=>if (x.2==.free)=true then (cellOf env x.1 >>= λ c=>pure (ForInStep.yield ((x.1,c)::r))) else pure (ForInStep.yield r)) >>= λ r=>pure r:Sem (List (Str×Addr))):=by
  rfl
 rw[e2,e];rfl
abbrev AN(X:Cx)(scope:Scope)(cl:List (Str×Addr))(N:LSz)(C:Addr)(s:Shared)(H:Hp)(ex:List Addr):Cx :=
 { X with N:=N,s₀:=s,H₀:=H,env:=compEnvC scope cl C X.env,outer:=X.stack,ex:=ex,fn:=λ_=>false,pn:=[],xe:=λ_ _=>False }
def EI(osc:Scope)(oN:LSz)(sc:Scope)(N:LSz)(fr:List (Option Nat)):Bool :=
 decide (sc.kind=.function)&&sc.names.all (λ y=>decide (y.2≠.cell))&&sc.names.all (λ y=>decide (y.2≠.free)||PJ (osc.names.lookup y.1)) &&
 sc.names.all (λ y=>decide (y.2≠.local)||decide (sc.names.lookup y.1=some .local)) &&
 (N.zip fr).all (λ y=>match y.2 with
  |none=>true
  |some i=>decide (oN[i]?=some y.1)&&PJ (osc.names.lookup y.1)&&decide (sc.names.lookup y.1=some .free))&&decide (N.length=fr.length)
structure ES(osc:Scope)(oN:LSz)(sc:Scope)(N:LSz)(fr:List (Option Nat)):Prop where
 kind:sc.kind=.function
 nocell:∀y∈sc.names,y.2≠.cell
 free:∀y∈sc.names,y.2=.free->PJ (osc.names.lookup y.1)=true
 loc:∀y∈sc.names,y.2=.local->sc.names.lookup y.1=some .local
 slots:∀(j:Nat)(x:Str)(i:Nat),N[j]?=some x->fr[j]?=some (some i)->oN[i]?=some x/\PJ (osc.names.lookup x)=true/\sc.names.lookup x=some .free
 len:N.length=fr.length
theorem Et{osc:Scope}{oN:LSz}{sc:Scope}{N:LSz}{fr:List (Option Nat)}(h:EI osc oN sc N fr=true):ES osc oN sc N fr:=by
 unfold EI at h;simp only[Bool.and_eq_true,List.all_eq_true,decide_eq_true_eq,Bool.or_eq_true]at h;obtain⟨⟨⟨⟨⟨h1,h2⟩,h3⟩,h4⟩,h5⟩,h6⟩:=h;refine⟨h1,h2,λ y hy e=>(h3 y hy).resolve_left λ z=>z e,λ y hy e=>(h4 y hy).resolve_left λ z=>z e,λ j x i e1 e2=>?_,h6⟩;have hm:(x,some i)∈N.zip fr:=by
  have:(N.zip fr)[j]?=some (x,some i):=by rw[List.getElem?_zip_eq_some];exact⟨e1,e2⟩
  exact List.mem_of_getElem? this
 have:=h5 _ hm;simp only[Bool.and_eq_true,decide_eq_true_eq]at this;exact⟨this.1.1,this.1.2,this.2⟩
def stC(fr:List (Option Nat))(σ:St):St:=fr.map λ o=>o.bind λ i=>(σ[i]?).join
def OV(wi:TI)(g:TG)(te:TE)(fr:List (Option Nat)):TE:=λ σ H Q=>wi σ H λ J H1=>∀acc,H1 acc=none->∃W:Nat->Nat->St->Hp->Prop,(∃m,W 0 m (stC fr σ) (upd H1 acc (.lst [])))/\∀i m σ1 H2,W i m σ1 H2 ->
 (J.stop i H2/\Q (.ref acc) H2)\/(J.go i H2/\∀x H3,J.yld i H2 x H3->g x σ1 H3 λ σ4 H4=>te σ4 H4 λ v H5=>∃xs,H5 acc=some (.lst xs)/\xs.length<sizeLine/\∃m',m'<m/\W (i+1) m' σ4 (upd H5 acc (.lst (xs++[v]))))
section
variable{prog:Program}{w:World}{A:Around}{R:Result->Shared->Prop}{s:Shared}
theorem Kz{elt target iter:Expr}{scope:Scope}{pos:Pos}{it acc:Value}{env:Env}(I:Nat->Shared->Prop)
    (turn:∀n s,I n s->wpAny (model prog w) A (pyNext it) (λ r s₁=>match r with
      |none=>R (.ok .next) s₁
      |some v=>wpAny (model prog w) A (letOwnedTupleGo target it v) (λ_ s₁=>wpAny (model prog w) A (assign target env v) (λ_ s₂=>wpAny (model prog w) A (eval elt env) (λ x s₃ =>
          wpAny (model prog w) A (call (.builtin "list.append") [acc,x]) (λ_ s₄=>∃m,m<n/\I m s₄) (notedBy (model prog w) A env λ e s'=>R (.error e) s') s₃)
          (notedBy (model prog w) A env λ e s'=>R (.error e) s') s₂) (notedBy (model prog w) A env λ e s'=>R (.error e) s') s₁) (notedBy (model prog w) A env λ e s'=>R (.error e) s') s₁) (notedBy (model prog w) A env λ e s'=>R (.error e) s') s)
    (n:Nat) (h:I n s) :
    codeAny (model prog w) A (.compLoop (.ListComp elt [⟨target,iter,[],0⟩] scope pos) 0 it acc env) R s:=by
  refine codeAny_loop rfl I (λ n s hI=>?_) n h;show wpAny _ _ ((compTurn (.ListComp elt [⟨target,iter,[],0⟩] scope pos) 0 it acc env).onRaise (λ x=>do noteFrame x env;theTreesLotGoes x)) _ _ s;refine wpAny_noted ?_;rw[compTurn_list1];refine wpAny_bind (wpAny_standAt (wpAny_bind (wpAny_mono (turn n s hI) (λ r s₁ h₁=>?_) λ_ _ h'=>h')));cases r with
  |none=>exact wpAny_pure h₁
  |some v =>
    refine wpAny_bind (wpAny_mono h₁ (λ_ s₁ h₁=>?_) λ_ _ h'=>h');exact wpAny_bind (wpAny_mono h₁ (λ_ s₂ h₂=>wpAny_bind (wpAny_bind (wpAny_mono h₂ (λ x s₃ h₃=>wpAny_bind (wpAny_mono h₃
      (λ_ s₄ h₄=>wpAny_pure (wpAny_pure ⟨rfl,h₄⟩)) λ_ _ h'=>h')) λ_ _ h'=>h'))) λ_ _ h'=>h')
end
theorem Bw{α:Type}{M:Model}{A:Around}{t:Sem α}{Q:α->Shared->Prop}{E:VPz}{s:Shared}(h:wpAny M A t Q (λ_ _=>False) s):wpAny M A t Q E s :=
 wpAny_mono h (λ_ _ q=>q) λ_ _ z=>z.elim
theorem Mj{scope:Scope}{env:Env}(hc:∀y∈scope.names,y.2≠.cell){x:Str}(h:(relabel scope env).names.lookup x=some .cell\/(relabel scope env).names.lookup x=some .free):(x,NameKind.free)∈scope.names:=by
 have key:∀(l:List (Str×NameKind)),(∀y∈l,y.2≠.cell)->((l.map λ(n,k)=>if (k==NameKind.free&&env.scope.kind==.function&&env.kindOf n==some .cell) then (n,NameKind.cell) else (n,k)).lookup x=some .cell \/
   (l.map λ(n,k)=>if (k==NameKind.free&&env.scope.kind==.function&&env.kindOf n==some .cell) then (n,NameKind.cell) else (n,k)).lookup x=some .free)->(x,NameKind.free)∈l:=by
  intro l
  induction l with
  |nil=>intro _ h;simp at h
  |cons y r ih =>
   obtain⟨n,k⟩:=y;intro hc h;have hr:∀y∈r,y.2≠.cell:=λ y hy=>hc y (List.mem_cons_of_mem _ hy);have hk:k≠.cell:=hc (n,k) List.mem_cons_self;rw[List.map_cons]at h;by_cases hxn:x=n
   .subst hxn;have hkf:k=.free:=by
     by_cases hb:(k==NameKind.free&&env.scope.kind==.function&&env.kindOf x==some .cell)=true
     .simp only[Bool.and_eq_true,beq_iff_eq]at hb;exact hb.1.1
     .simp only[hb,if_neg,Bool.false_eq_true,if_false]at h;simp only[List.lookup_cons,beq_self_eq_true]at h;rcases h with h|h
      .exact absurd (Option.some.inj h) hk
      .exact Option.some.inj h
    rw[hkf];exact List.mem_cons_self
   .have hb:(x==n)=false:=by simpa using hxn
    refine List.mem_cons_of_mem _ (ih hr ?_);by_cases hq:(k==NameKind.free&&env.scope.kind==.function&&env.kindOf n==some .cell)=true
    .simp only[hq,if_true,List.lookup_cons,hb]at h;exact h
    .simp only[hq,Bool.false_eq_true,if_false,List.lookup_cons,hb]at h;exact h
 exact key scope.names hc h
theorem E8{env:Env}{x:Str}:∀{l:List (Str×NameKind)},l.lookup x=some .free ->
  ((l.map λ(n,k)=>if (k==NameKind.free&&env.scope.kind==.function&&env.kindOf n==some .cell) then (n,NameKind.cell) else (n,k)).lookup x=some .cell \/
   (l.map λ(n,k)=>if (k==NameKind.free&&env.scope.kind==.function&&env.kindOf n==some .cell) then (n,NameKind.cell) else (n,k)).lookup x=some .free)
 |[],h=>by simp at h
 | (n,k)::r,h=>by
  rw[List.map_cons];by_cases hxn:x=n
  .subst hxn;simp only[List.lookup_cons,beq_self_eq_true]at h;have hk:=Option.some.inj h;subst hk;by_cases hq:(NameKind.free==NameKind.free&&env.scope.kind==.function&&env.kindOf x==some .cell)=true
   .left
    show List.lookup x ((if (NameKind.free==NameKind.free&&env.scope.kind==.function&&env.kindOf x==some .cell)=true then (x,NameKind.cell) else (x,NameKind.free))::_)=_;rw[if_pos hq,List.lookup_cons,beq_self_eq_true]
   .right
    show List.lookup x ((if (NameKind.free==NameKind.free&&env.scope.kind==.function&&env.kindOf x==some .cell)=true then (x,NameKind.cell) else (x,NameKind.free))::_)=_;rw[if_neg hq,List.lookup_cons,beq_self_eq_true]
  .have hb:(x==n)=false:=by simpa using hxn
   simp only[List.lookup_cons,hb]at h;have ih:=E8 (env:=env) h;by_cases hq:(k==NameKind.free&&env.scope.kind==.function&&env.kindOf n==some .cell)=true
   .simp only[hq,if_true,List.lookup_cons,hb];exact ih
   .simp only[hq,Bool.false_eq_true,if_false,List.lookup_cons,hb];exact ih
theorem Lz{x:Str}{k:NameKind}:∀{l:List (Str×NameKind)},l.lookup x=some k->(x,k)∈l
 |[],h=>by simp at h
 | (n,j)::r,h=>by
  by_cases e:x=n
  .subst e;simp only[List.lookup_cons,beq_self_eq_true]at h;rw[<-Option.some.inj h];exact List.mem_cons_self
  .have hb:(x==n)=false:=by simpa using e
   simp only[List.lookup_cons,hb]at h;exact List.mem_cons_of_mem _ (Lz h)
section
variable{X:Cx}{elt tg iter:Expr}{scope:Scope}{pos:Pos}{wi:TI}{g:TG}{te:TE}{N:LSz}{fr:List (Option Nat)}
theorem HF{pins:PNz}{σ:St}{H:Hp}{s s1:Shared}{cl:List (Str×Addr)}{ex:List Addr}{C:Addr}{m:MGz}(I:Inv X pins σ H s)(ck:ES X.env.scope X.N scope N fr)
    (c1:∀x c,cl.lookup x=some c->X.env.cells.lookup x=some c) (c2:∀x,(x,NameKind.free)∈scope.names->∃c,cl.lookup x=some c) (hex:∀b∈ex,Ew X pins H b/\b<s.heap.objs.size) (hC:s.heap.objs.size<=C)
    (hn:s1.heap.Ns C m) (k:∀b o,s.heap.get? b=some o->s1.heap.get? b=some o) (ho:s1.os=s.os) (hg:s1.gens=s.gens) :
    Inv (AN X scope cl N C s H ex) [] (stC fr σ) H s1:=by
  have lt_ne:∀{b:Addr}{o:Obj},s.heap.get? b=some o->b≠C:=λ e=>Nat.ne_of_lt (Nat.lt_of_lt_of_le (Heap.lt_size e) hC);have ok:(AN X scope cl N C s H ex).Ok :=
    { mod:=I.ok.mod
      kind:=ck.kind
      glob:=I.ok.glob
      blt:=I.ok.blt
      above:=hC
      inj:=λ x y c e1 e2=>I.ok.inj x y c (c1 x c e1) (c1 y c e2)
      has:=λ x h=>c2 x (Mj ck.nocell h)
      cab:=λ x c z=>by cases z
      hd:=I.ok.hd
      frames:=I.ok.frames
      stk:=.inl rfl
      exf:=λ b hb=>⟨Nat.ne_of_lt (Nat.lt_of_lt_of_le (hex b hb).2 hC),λ x c e=>(hex b hb).1.2.2.2.2.1 x c (c1 x c e)⟩
      bs:=I.bs
      bsz:=Nat.le_trans I.ok.bsz I.sz
      noex:=λ b o e hb=>by
        rcases(hex b hb).1.2.2.2.1 with z|z
        · exact I.ok.noex b o e z
        · exact absurd (Nat.lt_of_lt_of_le (Heap.lt_size e) (Nat.le_trans I.ok.bsz z)) (Nat.lt_irrefl _)
      exfs:=λ b hb hz=>by
        rcases List.mem_cons.mp (I.stkSub b hz) with z|z
        · exact(hex b hb).1.2.1 z
        · exact(hex b hb).1.2.2.1 z
      funs:=I.stack
      frf:=I.stkFree }
  refine⟨ok,ho,by rw[hg];exact I.bare,Un.kept k,⟨m,hn,λ j x v e1 e2 e3=>?_⟩,λ x c e=>?_,I.hok.fresh hC,λ x c e=>I.freeC x c (c1 x c e),λ p hp=>by simp at hp,I.hok.kept k,?_⟩
  · have e1':N[j]?=some x:=e1
    unfold stC at e2;rw[List.getElem?_map]at e2;cases q:fr[j]? with
    |none=>rw[q]at e2;cases e2
    |some o =>
      rw[q]at e2;cases o with
      |none =>
        have:(none:Option V)=some v:=Option.some.inj e2;cases this
      |some i =>
        have e2':(σ[i]?).join=some v:=Option.some.inj e2;obtain⟨s1',s2',s3'⟩:=ck.slots j x i e1' q;have hσ:σ[i]?=some (some v):=by
          cases z:σ[i]? with
          |none=>rw[z]at e2';cases e2'
          |some y=>rw[z]at e2';exact congrArg some e2'
        have hcf:=N4 s2';obtain⟨m0,hn0,hl⟩:=I.loc;obtain⟨u,r,lk⟩:=hl i x v s1' hσ (Or.inr hcf);refine⟨u,r,Or.inr ⟨E8 s3',?_⟩⟩;obtain⟨c,hc⟩:=c2 x (Lz s3');refine⟨c,hc,?_⟩;rcases lk with ⟨z,_⟩|⟨_,c',hc',hv⟩
        · rcases hcf with y|y
          · have z':X.env.scope.names.lookup x=some .local:=z
            rw[y]at z';cases z'
          · have z':X.env.scope.names.lookup x=some .local:=z
            rw[y]at z';cases z'
        · have:=c1 x c hc
          rw[hc']at this;cases this;exact hv.keeps k
  · obtain⟨v,z⟩:=I.cell x c (c1 x c e)
    exact⟨v,z.keeps k⟩
  · unfold stC
    rw[List.length_map];exact ck.len.symm
theorem J1{pins:PNz}{σ:St}{H:Hp}{s:Shared}{Q:VK}{cl:List (Str×Addr)}{R:Value->Addr->Result->Shared->Prop}(hc:X.calm=true)(I:Inv X pins σ H s)(hi:PI X tg iter wi)
  (hg:∀cl C s H ex,PG (AN X scope cl N C s H ex) tg g) (he:∀cl C s H ex,PE (AN X scope cl N C s H ex) elt te) (ck:ES X.env.scope X.N scope N fr)
  (c1:∀x c,cl.lookup x=some c->X.env.cells.lookup x=some c) (c2:∀x,(x,NameKind.free)∈scope.names->∃c,cl.lookup x=some c)
  (h:OV wi g te fr σ H Q)
  (hR:∀acc C s' H' m,s'.heap.Ns C m->Ew X pins H' C->Inv X pins σ H' s'->Q (.ref acc) H'->R (.ref acc) C (.ok .next) s') :
  wpAny (model X.prog X.w) X.A (eval iter X.env) (λ x s₁=>wpAny (model X.prog X.w) X.A (pyIter x) (λ it s₂=>wpAny (model X.prog X.w) X.A (newList []) (λ acc s₃ =>
   wpAny (model X.prog X.w) X.A (newFunctionEnv scope X.env.globals cl [] X.env.qual none .none (some X.env)) (λ cenv s₄ =>
    codeAny (model X.prog X.w) X.A (.compStart (.ListComp elt [⟨tg,iter,[],0⟩] scope pos) 0 it acc { cenv with scope:=relabel scope X.env }) (R acc cenv.locals) s₄) X.xe s₃) X.xe s₂) X.xe s₁) X.xe s:=by
 refine thn (hi pins s σ H _ I h) λ v s1 h1=>thn h1 λ itv s2 h2=>?_;obtain⟨it,fp,tn,J,H2,e,I2,T,st2,f2,q2⟩:=h2;subst e;refine wpAny_newObj_type (wpAny_newFunctionEnv ck.nocell (by intro y hy;simp at hy) (λ h₁ hns₁ hsb₁=>?_) ck.kind);dsimp only at hns₁ hsb₁ |-;have I3:Inv X pins σ (upd H2 s2.heap.objs.size (.lst [])) { s2 with heap:=s2.heap.push { cls:=.type "list",dict:=none,data:=.seq ([]:LWz).toArray } }:=I2.lnew (t':=s2.toks) (its:=[]) .nil (Nat.zero_le _);have acc0:H2 s2.heap.objs.size=none:=I2.fresh;obtain⟨W,⟨m0,w0⟩,turn⟩:=q2 s2.heap.objs.size acc0;generalize hH3:s2.heap.push { cls:=.type "list",dict:=none,data:=.seq ([]:LWz).toArray }=h3 at hns₁ hsb₁ I3 |-;have hz3:h3.objs.size=s2.heap.objs.size+1:=by rw[<-hH3,Heap.size_push]
 have k23:∀b o,s2.heap.get? b=some o->h3.get? b=some o:=λ b o e=>by rw[<-hH3];exact Heap.get?_push_of_some _ e
 have k34:∀b o,h3.get? b=some o->h₁.get? b=some o:=λ b o e=>hsb₁.extBut b o (Nat.ne_of_lt (Heap.lt_size e)) (Heap.get?_push_of_some _ e);have fpo:∀b∈fp,∃o,s2.heap.get? b=some o/\∀v,o.data≠.cell v:=T.obj 0 _ st2;have hex:∀b∈fp,Ew X pins (upd H2 s2.heap.objs.size (.lst [])) b/\b<h3.objs.size:=λ b hb=>by
  obtain⟨o,eo,_⟩:=fpo b hb;have lt:=Heap.lt_size eo;obtain⟨f0,fr'⟩:=f2 b hb;exact⟨⟨by rw[Ai (Nat.ne_of_lt lt)];exact f0,fr'⟩,by rw[hz3];exact Nat.lt_succ_of_lt lt⟩
 have I4:Inv (AN X scope cl N h3.objs.size { s2 with heap:=h3 } (upd H2 s2.heap.objs.size (.lst [])) fp) [] (stC fr σ) (upd H2 s2.heap.objs.size (.lst [])) { s2 with heap:=h₁,toks:=s2.toks+([]:List (Str×Value)).length } :=
  HF I3 ck c1 c2 hex (Nat.le_refl _) hns₁ k34 rfl rfl
 have stat:∀{H':Hp},(∀b∈fp,H' b=none)->∀b∈fp,Ew (AN X scope cl N h3.objs.size { s2 with heap:=h3 } (upd H2 s2.heap.objs.size (.lst [])) fp) [] H' b:=λ hn b hb =>
  ⟨hn b hb,(I4.ok.exf b hb).1,I4.ok.exfs b hb,.inl hb,(I4.ok.exf b hb).2,λ p hp=>by simp at hp⟩
 have stn:∀i h h',tn i h->(∀b o,h.get? b=some o->h'.get? b=some o)->tn i h':=λ i h h' st kk=>T.keep i h h' st λ b _ o e=>kk b o e;have loop:codeAny (model X.prog X.w) X.A (.compLoop (.ListComp elt [⟨tg,iter,[],0⟩] scope pos) 0 (.ref it) (.ref s2.heap.objs.size) (compEnvC scope cl h3.objs.size X.env)) (R (.ref s2.heap.objs.size) h3.objs.size)
   { s2 with heap:=h₁,toks:=s2.toks+([]:List (Str×Value)).length }:=by
  refine Kz (λ n s'=>∃i σ' H',Inv (AN X scope cl N h3.objs.size { s2 with heap:=h3 } (upd H2 s2.heap.objs.size (.lst [])) fp) [] σ' H' s'/\tn i s'.heap/\(∀b∈fp,H' b=none)/\W i n σ' H') ?_ m0
   ⟨0,_,_,I4,stn _ _ _ st2 λ b o e=>k34 b o (k23 b o e),λ b hb=>(hex b hb).1.1,w0⟩
  rintro n s3 ⟨i,σ3,H3,J3,st3,fr3,w3⟩;rcases turn i n σ3 H3 w3 with ⟨stop,qn⟩|⟨go,step⟩
  .refine Bw (thn (T.done (AN X scope cl N h3.objs.size { s2 with heap:=h3 } (upd H2 s2.heap.objs.size (.lst [])) fp) rfl rfl rfl hc i [] s3 σ3 H3 (λ_ _=>False) J3 (stat fr3) st3 stop) λ r s4 hz_=>?_);obtain⟨hr,J4⟩:=hz_;subst hr;obtain⟨mc,hmc,_⟩:=J4.loc;have I5:Inv X pins σ H3 s4:=I3.call' (ch:=fp) J4.os J4.base J4.hok J4.bare λ b hb=>⟨(hex b hb).1.2.2.2.1,(hex b hb).1.2.1,(hex b hb).1.2.2.2.2.1,(hex b hb).1.2.2.2.2.2⟩;exact hR _ _ s4 H3 mc hmc (I3.fpOk (Nat.le_refl _) J4.free) I5 qn
  .refine Bw (thn (T.item (AN X scope cl N h3.objs.size { s2 with heap:=h3 } (upd H2 s2.heap.objs.size (.lst [])) fp) rfl rfl rfl hc i [] s3 σ3 H3 (λ_ _=>False) J3 (stat fr3) st3 go) λ r s4 hz_=>?_);obtain⟨u,hr,h4⟩:=hz_;subst hr;refine Bw (thn h4 λ_ s5 hz_=>?_);obtain⟨x,H5,J5,r5,y5,st5,fr5⟩:=hz_;have J5':=J5.pinned (stat fr5) (T.obj _ _ st5);refine Bw (thn (hg _ _ _ _ _ _ s5 σ3 H5 x u _ J5' r5 (step x H5 y5)) λ_ s6 hz_=>?_);obtain⟨σ6,H6,J6,q6⟩:=hz_;refine Bw (thn (he _ _ _ _ _ _ s6 σ6 H6 _ J6 q6) λ y s7 hz_=>?_);obtain⟨v7,H7,J7,r7,xs,hx,hz,m',hm',w7⟩:=hz_;refine Bw (thn (Bl _ s7 σ6 H7 (.ref s2.heap.objs.size) [v7] (.ref s2.heap.objs.size) [y] (λ v H8=>H8=upd H7 s2.heap.objs.size (.lst (xs++[v7]))) J7 rfl (.cons r7 .nil) ⟨_,xs,v7,rfl,rfl,hx,hz,rfl⟩) λ_ s8 hz_=>?_);obtain⟨_,H8,J8,_,e8⟩:=hz_;subst e8;refine⟨m',hm',i+1,σ6,_,J8.unpinned,T.keep _ _ _ st5 λ b hb o e=>(J8.pin (b,o) (List.mem_append_right _ (List.mem_append_right _ (Bg hb e)))).1,λ b hb=>?_,w7⟩;obtain⟨o,e,d⟩:=T.obj _ _ st5 b hb;exact(J8.pin (b,o) (List.mem_append_right _ (List.mem_append_right _ (Bg hb e)))).2.1
 exact codeAny_compStart_list loop (T.self _ 0 _ _ _ (stn _ _ _ st2 λ b o e=>k34 b o (k23 b o e)) loop)
theorem Ky(I:X.Ok)(ck:ES X.env.scope X.N scope N fr):∃cl,closureFor scope X.env=pure cl/\(∀x c,cl.lookup x=some c->X.env.cells.lookup x=some c)/\(∀x,(x,NameKind.free)∈scope.names->∃c,cl.lookup x=some c) :=
 MP λ y hy e=>I.has y.1 (N4 (ck.free y hy e))
theorem Cy(hc:X.calm=true)(hi:PI X tg iter wi)(hg:∀cl C s H ex,PG (AN X scope cl N C s H ex) tg g)(he:∀cl C s H ex,PE (AN X scope cl N C s H ex) elt te)
  (hk:EI X.env.scope X.N scope N fr=true:=by rfl) (hs:∀x,foldedSetIterable iter X.env x=pure x:=by intro _;rfl):PE X (.ListComp elt [⟨tg,iter,[],0⟩] scope pos) (OV wi g te fr):=by
 intro pins s σ H Q I h;have ck:=Et hk;obtain⟨cl,e1,c1,c2⟩:=Ky I.ok ck;rw[eval_ListComp];refine wpAny_comprehension_free (use:=none) (Q:=EP X pins σ Q) rfl hs e1 ck.kind ck.loc (J1 (R:=λ acc C=>compPost (model X.prog X.w) X.A X.xe none (EP X pins σ Q) acc C) hc I hi hg he ck c1 c2 h λ acc C s' H' m hn f I' q=>?_);obtain⟨f0,f1,f2,f3,f4,f5⟩:=f;exact⟨m,hn,λ h' hs'=>⟨.ref acc,H',I'.turned (t':=s'.toks) (λ b o hb e=>hs'.extBut b o hb e) f0 f1 f3 f4 f5,rfl,q⟩⟩
theorem Mo{y:Str}{py spos:Pos}{gy:TG}(hc:X.calm=true)(hy:PG X (.Name y py) gy)(hi:PI X tg iter wi)(hg:∀cl C s H ex,PG (AN X scope cl N C s H ex) tg g)(he:∀cl C s H ex,PE (AN X scope cl N C s H ex) elt te)
    (hk:EI X.env.scope X.N scope N fr=true:=by rfl) (hsw:swapsWith (.ListComp elt [⟨tg,iter,[],0⟩] scope pos) (some (.Name y py)) spos.line X.env=pure true:=by rfl) (hs:∀x,foldedSetIterable iter X.env x=pure x:=by intro _;rfl) :
    PS X (.Assign [.Name y py] (.ListComp elt [⟨tg,iter,[],0⟩] scope pos) spos) (RW (OV wi g te fr) gy):=by
  intro pins s σ H D I h;have ck:=Et hk;obtain⟨cl,e1,c1,c2⟩:=Ky I.ok ck;rw[exec_Assign_Name_used _ _ _ _ hsw];refine wpAny_bind (wpAny_standAt (wpAny_bind ?_));show wpAny _ X.A (do let _ <-comprehension (.ListComp elt [⟨tg,iter,[],0⟩] scope pos) scope X.env _ (newList []) false (eval iter X.env) (some (assign (.Name y py) X.env))) _ _ s;refine wpAny_bind (wpAny_mono (wpAny_comprehension_free (use:=some (assign (.Name y py) X.env)) (Q:=λ_ s'=>SP X pins D .next s') rfl hs e1 ck.kind ck.loc
    (J1 (R:=λ acc C=>compPost (model X.prog X.w) X.A X.xe (some (assign (.Name y py) X.env)) (λ_ s'=>SP X pins D .next s') acc C) hc I hi hg he ck c1 c2 h λ acc C s' H' m hn f I' q=>?_)) (λ_ s' hq=>wpAny_pure (wpAny_pure hq)) λ_ _ e=>e)
  show wpAny _ X.A (assign (.Name y py) X.env (.ref acc)) _ _ _;obtain⟨oC,es,ep,hoC,hdC,hrC⟩:=id hn;have IP:=I'.pinned (fp:=[C]) (λ b hb=>by rw[List.mem_singleton.mp hb];exact f) (λ b hb=>by rw[List.mem_singleton.mp hb];exact⟨oC,hoC,λ v z=>by rw[hdC]at z;cases z⟩);refine thn (hy _ s' σ H' (.ref acc) (.ref acc) _ IP rfl q) λ_ s'' ⟨σ6,H6,I6,q6⟩=>?_;have pC:=I6.pin (C,oC) (List.mem_append_right _ (List.mem_append_right _ (Bg (List.mem_singleton.mpr rfl) hoC)));obtain⟨f0,f1,f2,f3,f4,f5⟩:=f;exact⟨m,⟨oC,es,ep,pC.1,hdC,hrC⟩,λ h' hs'=>⟨σ6,H6,I6.unpinned.turned (t':=s''.toks) (λ b o hb e=>hs'.extBut b o hb e) pC.2.1 f1 f3 f4 f5,q6⟩⟩
end
section
variable{X:Cx}
def RH(_ j:Int):Prop:=0<j/\j.natAbs.log2<9000
theorem Cb:OpR X (binaryOp .FloorDiv) (rI RH λ i j=>.int (i / j)):=opI λ i j _ _ _ _ _ hc q=>by
 have h1:(0:Int)<j:=hc.1;exact floordiv_int (by lia) (by rw[Int.fdiv_eq_ediv_of_nonneg i (by lia)];exact q) (.inl (PyProof.noPylong_of_log2 hc.2))
theorem DR:OpR X (binaryOp .Mult) (rI IntMulOk λ i j=>.int (i*j)):=opI λ_ _ _ _ _ _ _ hc q=>mul_int q hc
theorem Ep{n k:Nat}(hk:0<k)(h:n<2^k):n.log2<k:=by
 rcases Nat.eq_zero_or_pos n with h0|hp
 .rw[h0];simpa using hk
 .exact(Nat.log2_lt (Nat.ne_of_gt hp)).mpr h
theorem Hh{z:Int}{k:Nat}(hk:0<k)(h:z.natAbs<2^k):Builtin.Int.intBits z<=k:=by
 unfold Builtin.Int.intBits;split
 .exact Nat.zero_le _
 .exact Ep hk h
theorem P7{a b:Int}(h1:a.natAbs<2^128)(h2:b.natAbs<2^128):IntMulOk a b:=by
 have e1:=Hh (by decide) h1;have e2:=Hh (by decide) h2;unfold IntMulOk Builtin.Int.intTooBig;intro h;simp only[Bool.and_eq_true,decide_eq_true_eq]at h;have h3:=h.2;have hb:(256:Int)<=(bitsLine:Int):=by decide +kernel
 lia
def tyO:Option HO->Option String
 |some (.lst _)=>some "list"
 |some (.frz _ (.lst _))=>some "list"
 |some (.tup _)=>some "tuple"
 |some (.dK _)=>some "dict"
 |some (.dT _)=>some "dict"
 |_=>none
def tyS(H:Hp):V->Option String
 |.non=>some "NoneType"
 |.bl _=>some "bool"
 |.int _=>some "int"
 |.str _=>some "str"
 |.ref a=>tyO (H a)
 |_=>none
theorem RO{K:Frag}{H:Hp}{x:V}{T:String}(h:tyS H x=some T):Fu K H x (.type T)/\(T="NoneType"\/T="bool"\/T="int"\/T="str"\/T="list"\/T="tuple"\/T="dict"):=by
 unfold tyS at h;split at h
 .cases h;exact⟨.non,by simp⟩
 .cases h;exact⟨.bl _,by simp⟩
 .cases h;exact⟨.int _,by simp⟩
 .cases h;exact⟨.str _,by simp⟩
 .unfold tyO at h;split at h
  .rename_i e;cases h;exact⟨.lst e,by simp⟩
  .rename_i e;cases h;exact⟨.frz e,by simp⟩
  .rename_i e;cases h;exact⟨.tup e,by simp⟩
  .rename_i e;cases h;exact⟨.dK e,by simp⟩
  .rename_i e;cases h;exact⟨.dT e,by simp⟩
  .cases h
 .cases h
def isB(T c:String):Bool:=decide (T=c)||(decide (T="bool")&&decide (c="int"))
theorem SB:isB "tuple" "tuple"=true:=by decide
theorem QX{K:Frag}{T c:String}(h:T="NoneType"\/T="bool"\/T="int"\/T="str"\/T="list"\/T="tuple"\/T="dict")(hc:c="int"\/c="bool"\/c="tuple"\/c="list"\/c="str") :
  kitOne K (.type T) (.type c)=some (isB T c):=by
 rcases h with rfl|rfl|rfl|rfl|rfl|rfl|rfl<;>rcases hc with rfl|rfl|rfl|rfl|rfl<;>rfl
inductive RG(xs:LUz)(H:Hp)(Q:VK):Prop
 |mk (x:V) (T c:String) (e:xs=[x,.ty c]) (t:tyS H x=some T) (h:c="int"\/c="bool"\/c="tuple"\/c="list"\/c="str") (q:Q (.bl (isB T c)) H):RG xs H Q
theorem CY:Ck X (.builtin "isinstance") (λ xs H Q=>RG xs H Q):=by
 intro pins s σ H xs us Q I r h;obtain⟨x,T,c,rfl,hT,hc,q⟩:=h;obtain⟨u,w',rfl,rx,ry⟩:=R4 r;cases(show w'=Value.type c from ry);obtain⟨ty,hl⟩:=RO (K:=X.K) hT;exact Js I rx ty (QX hl hc) λ tk=>⟨.bl (isB T c),H,I.tok tk,rfl,q⟩
theorem O9{bs:List Bool}{its:LWz}(r:Vals (bs.map V.bl) its){i:Nat}{v:Value}(h:its.toArray[i]?=some v):v=.bool (bs.getD i false):=by
 have hl:=r.length;have hi:i<its.length:=by
  have:=(Array.getElem?_eq_some_iff.mp h).1
  simpa using this
 have hb:bs[i]?=some (bs.getD i false):=by
  have:i<bs.length:=by rw[List.length_map]at hl;lia
  rw[List.getD_eq_getElem?_getD,List.getElem?_eq_getElem this];rfl
 obtain⟨u,hu,ru⟩:=r.get (i:=i) (x:=.bl (bs.getD i false)) (by rw[List.getElem?_map,hb];rfl);have h':its[i]?=some v:=by simpa using h
 rw[h']at hu;cases hu;exact ru
theorem Oa{α:Type}(bs:List Bool):(List.range bs.length).all (λ i=>bs.getD i false)=bs.all id:=by
 have e:(List.range bs.length).map (λ i=>bs.getD i false)=bs:=by
  apply List.ext_getElem?;intro i;rw[List.getElem?_map];by_cases h:i<bs.length
  .rw[List.getElem?_range h,List.getElem?_eq_getElem h,Option.map_some,List.getD_eq_getElem?_getD,List.getElem?_eq_getElem h];rfl
  .rw[List.getElem?_eq_none (by simpa using h),List.getElem?_eq_none (by lia)];rfl
 conv=>rhs;rw[<-e]
 rw[List.all_map];rfl
theorem KQ{prog:Program}{w:World}{A:Around}{bs:List Bool}{its:LWz}(r:Vals (bs.map V.bl) its):TruthOf prog w A (λ i v=>its.toArray[i]?=some v) (λ i=>bs.getD i false):=by
 intro i v s Q E hv hq;have e:=O9 r hv;subst e;exact wpAny_truthy_bool hq
theorem HG:Ck X (.builtin "all") (λ xs H Q=>∃(p:Addr)(bs:List Bool),xs=[.ref p]/\SqL X.K H p (bs.map V.bl)/\X.calm=true/\Q (.bl (bs.all id)) H):=by
 intro pins s σ H xs us Q I r h;obtain⟨p,bs,rfl,hp,hc,q⟩:=h;obtain⟨u,rfl,ru⟩:=CL r;cases ru;obtain⟨its,rv,pl,hz⟩:=I.list hp;have hl:=rv.length;rw[List.length_map]at hl;refine call_all_walk (wpAny_pyIter_list pl.isList ?_);have hlt:p<s.heap.objs.size:=by obtain⟨o,ho,_⟩:=pl.isList;exact Heap.lt_size ho
 refine⟨s.heap.objs.size,_,_,_,_,_,_,rfl,Walks.list (show X.A.in1.handled=none from I.ok.hd hc) s.heap.objs.size p (Nat.ne_of_lt hlt) its.toArray,⟨⟨_,Heap.get?_push_size _ rfl,rfl,rfl⟩,let ⟨o,ho,r⟩:=pl.isList;⟨o,Heap.get?_push_of_some _ ho,r⟩⟩,KQ rv,λ h' tk k=>?_⟩;refine⟨.bl (bs.all id),H,I.kept (t':=tk) λ b o e=>k b o (λ z=>?_) (Heap.get?_push_of_some _ e),?_,q⟩
 .have:b=s.heap.objs.size:=by simpa using z
  exact absurd (this ▸ Heap.lt_size e) (Nat.lt_irrefl _)
 .show Value.bool _=Value.bool _;rw[List.size_toArray,<-hl,Oa (α:=Nat)]
end
structure AC(P:Program)(w:World)(K:Frag)(mg:MGz)(base:Heap)(k:Nat)(x:Str)(ps:LSz)(sp:Sp):Prop where
 ex:∃(f:Addr)(fd:FuncData),A9 P w K mg base CX0 k f fd ps sp/\mg x=some (.ref f)/\keepIn K (.ref f)=true/\Binds K fd ps []
section
variable{X:Cx}{k j:Nat}{x:Str}{ps:LSz}{sp:Sp}{p pos:Pos}{e:Expr}{es:List Expr}{t:TA}
theorem A0(D:AC X.prog X.w X.K X.mg X.base k x ps sp)(hr:Room j X.A)(ha:PA X (e::es) t)(hj:k<=j:=by decide)(hg:Gl X x:=by rfl)(hdb:(x==("__debug__":Str))=false:=by decide)
  (he:starEach (e::es) X.env=(false,eval e X.env)::starEach es X.env:=by rfl) (hpl:(backTo pos (starEach es X.env)).any (·.1)=false:=by rfl):PE X (.Call (.Name x p) (e::es) [] pos) (IX sp [] E0 t):=by
 obtain⟨f,fd,F,hm,hk,hb⟩:=D.ex;exact Nz F (hr.mono hj) hg hm hk hb .nil GC ha hdb he hpl
end
theorem Az{xs:LUz}(n:Nat)(h:xs.length=n:=by rfl)(h2:n<=1000:=by decide):xs.length<=sizeLine:=by rw[h];exact Nat.le_of_lt (Au h2)
theorem AT{c:Bool}{A B:Prop}(h:c=true)(a:A):if c=true then A else B:=by rw[if_pos h];exact a
theorem A5{c:Bool}{A B:Prop}(h:c=false)(b:B):if c=true then A else B:=by rw[if_neg (by rw[h];exact Bool.false_ne_true)];exact b
theorem BB{c:Bool}{A B:Prop}(h1:c=true->A)(h2:c=false->B):if c=true then A else B:=by
 cases c with
 |true=>exact Ra (h1 rfl)
 |false=>exact MF (h2 rfl)
theorem decI{i j:Int}:decide (V.int i=V.int j)=true↔i=j:=by
 rw[decide_eq_true_eq];exact⟨λ h=>by injection h,λ h=>by rw[h]⟩
def SameX(p:Addr)(H H':Hp):Prop:=∀b o,b≠p->H b=some o->H' b=some o
theorem SameX.refl{p:Addr}{H:Hp}:SameX p H H:=λ_ _ _ h=>h
theorem SameX.trans{p:Addr}{H H1 H2:Hp}(a:SameX p H H1)(b:SameX p H1 H2):SameX p H H2:=λ c o n h=>b c o n (a c o n h)
theorem SameX.upd{p:Addr}{H:Hp}{o:HO}:SameX p H (upd H p o):=λ b u n h=>by rw[Ai n];exact h
theorem SameX.new{p l:Addr}{H:Hp}{o:HO}(h:H l=none):SameX p H (L2.upd H l o):=λ b u _ e=>by rw[Ai (Af e h)];exact e
theorem Same.new{l:Addr}{H:Hp}{o:HO}(h:H l=none):Same H (L2.upd H l o):=λ b u e=>by rw[Ai (Af e h)];exact e
theorem SameX.same{p:Addr}{H H0 H':Hp}(a:SameX p H H')(s:Same H0 H)(h:H0 p=none):Same H0 H':=λ b o e=>a b o (Af e h) (s b o e)
theorem Same.x{p:Addr}{H H':Hp}(a:Same H H'):SameX p H H':=λ b o _ e=>a b o e
def cW(acc:Addr)(n:Nat)(Pv:Nat->LUz->St->Hp->Prop)(i m:Nat)(σ:St)(H:Hp):Prop:=i<=n/\m=n-i/\∃xs,xs.length=i/\H acc=some (.lst xs)/\Pv i xs σ H
def cNx(acc:Addr)(n:Nat)(Pv:Nat->LUz->St->Hp->Prop)(i:Nat)(σ:St)(v:V)(H:Hp):Prop:=∃xs,H acc=some (.lst xs)/\xs.length<sizeLine/\∃m',m'<n-i/\cW acc n Pv (i+1) m' σ (upd H acc (.lst (xs++[v])))
theorem cNx.mk{acc:Addr}{n:Nat}{Pv:Nat->LUz->St->Hp->Prop}{i:Nat}{σ:St}{v:V}{H:Hp}{xs:LUz}(hn:n<=sizeLine)(hi:i<n)(hl:xs.length=i)(ha:H acc=some (.lst xs))(hp:Pv (i+1) (xs++[v]) σ (upd H acc (.lst (xs++[v])))) :
  cNx acc n Pv i σ v H:=⟨xs,ha,by lia,n-(i+1),by lia,hi,rfl,xs++[v],by rw[List.length_append,hl];rfl,Ac,hp⟩
theorem MM{lo:Int}{n:Nat}{g:TG}{te:TE}{σ:St}{H1:Hp}{acc:Addr}{Qr:Hp->Prop}(Pv:Nat->LUz->St->Hp->Prop)(h0:Pv 0 [] σ (upd H1 acc (.lst [])))
  (hs:∀i xs σ H,i<n->xs.length=i->H acc=some (.lst xs)->Pv i xs σ H->g (.int (lo+i)) σ H λ σ2 H2=>te σ2 H2 λ v H3=>cNx acc n Pv i σ2 v H3)
  (hd:∀xs σ H,xs.length=n->H acc=some (.lst xs)->Pv n xs σ H->Qr H) :
  ∃W:Nat->Nat->St->Hp->Prop,(∃m,W 0 m σ (upd H1 acc (.lst [])))/\∀i m σ1 H2,W i m σ1 H2 ->
   ((Itr lo n).stop i H2/\Qr H2)\/((Itr lo n).go i H2/\∀x H3,(Itr lo n).yld i H2 x H3->g x σ1 H3 λ σ4 H4=>te σ4 H4 λ v H5=>∃xs,H5 acc=some (.lst xs)/\xs.length<sizeLine/\∃m',m'<m/\W (i+1) m' σ4 (upd H5 acc (.lst (xs++[v])))):=by
 refine⟨cW acc n Pv,⟨n,Nat.zero_le _,rfl,[],rfl,Ac,h0⟩,?_⟩;rintro i m σ1 H2 ⟨hi,rfl,xs,hl,ha,hp⟩;rcases Nat.lt_or_ge i n with h|h
 .refine .inr ⟨h,?_⟩;rintro x H3 ⟨rfl,rfl⟩;exact hs i xs σ1 H3 h hl ha hp
 .have e:i=n:=Nat.le_antisymm hi h;subst e;exact .inl ⟨Nat.le_refl _,hd xs σ1 H2 hl ha hp⟩
theorem CW{K:Frag}{a:Addr}{ys:LUz}{g:TG}{te:TE}{σ:St}{H1:Hp}{acc:Addr}{Qr:Hp->Prop}(Pv:Nat->LUz->St->Hp->Prop)(h0:Pv 0 [] σ (upd H1 acc (.lst [])))
  (hq:∀i xs σ H,i<=ys.length->H acc=some (.lst xs)->Pv i xs σ H->SqL K H a ys)
  (hs:∀i x xs σ H,ys[i]?=some x->i<ys.length->xs.length=i->H acc=some (.lst xs)->Pv i xs σ H->g x σ H λ σ2 H2=>te σ2 H2 λ v H3=>cNx acc ys.length Pv i σ2 v H3)
  (hd:∀xs σ H,xs.length=ys.length->H acc=some (.lst xs)->Pv ys.length xs σ H->Qr H) :
  ∃W:Nat->Nat->St->Hp->Prop,(∃m,W 0 m σ (upd H1 acc (.lst [])))/\∀i m σ1 H2,W i m σ1 H2 ->
   ((Itl K a).stop i H2/\Qr H2)\/((Itl K a).go i H2/\∀x H3,(Itl K a).yld i H2 x H3->g x σ1 H3 λ σ4 H4=>te σ4 H4 λ v H5=>∃xs,H5 acc=some (.lst xs)/\xs.length<sizeLine/\∃m',m'<m/\W (i+1) m' σ4 (upd H5 acc (.lst (xs++[v])))):=by
 refine⟨cW acc ys.length Pv,⟨ys.length,Nat.zero_le _,rfl,[],rfl,Ac,h0⟩,?_⟩;rintro i m σ1 H2 ⟨hi,rfl,xs,hl,ha,hp⟩;have hsq:=hq i xs σ1 H2 hi ha hp;rcases Nat.lt_or_ge i ys.length with h|h
 .refine .inr ⟨⟨ys,ys[i],hsq,List.getElem?_eq_getElem h⟩,?_⟩;rintro x H3 ⟨rfl,hx⟩;exact hs i x xs σ1 H3 (hx ys hsq) h hl ha hp
 .have e:i=ys.length:=Nat.le_antisymm hi h;subst e;exact .inl ⟨⟨ys,hsq,Nat.le_refl _⟩,hd xs σ1 H2 hl ha hp⟩
theorem Qf{K:Frag}{a:Addr}{ys:LUz}{g:TG}{te:TE}{σ:St}{H1:Hp}{acc:Addr}{Qr:Hp->Prop}(Pv:Nat->LUz->St->Hp->Prop)(h0:Pv 0 [] σ (upd H1 acc (.lst [])))
  (hq:∀i xs σ H,i<=ys.length->H acc=some (.lst xs)->Pv i xs σ H->SqT K H a ys)
  (hs:∀i x xs σ H,ys[i]?=some x->i<ys.length->xs.length=i->H acc=some (.lst xs)->Pv i xs σ H->g x σ H λ σ2 H2=>te σ2 H2 λ v H3=>cNx acc ys.length Pv i σ2 v H3)
  (hd:∀xs σ H,xs.length=ys.length->H acc=some (.lst xs)->Pv ys.length xs σ H->Qr H) :
  ∃W:Nat->Nat->St->Hp->Prop,(∃m,W 0 m σ (upd H1 acc (.lst [])))/\∀i m σ1 H2,W i m σ1 H2 ->
   ((Itt K a).stop i H2/\Qr H2)\/((Itt K a).go i H2/\∀x H3,(Itt K a).yld i H2 x H3->g x σ1 H3 λ σ4 H4=>te σ4 H4 λ v H5=>∃xs,H5 acc=some (.lst xs)/\xs.length<sizeLine/\∃m',m'<m/\W (i+1) m' σ4 (upd H5 acc (.lst (xs++[v])))):=by
 refine⟨cW acc ys.length Pv,⟨ys.length,Nat.zero_le _,rfl,[],rfl,Ac,h0⟩,?_⟩;rintro i m σ1 H2 ⟨hi,rfl,xs,hl,ha,hp⟩;have hsq:=hq i xs σ1 H2 hi ha hp;rcases Nat.lt_or_ge i ys.length with h|h
 .refine .inr ⟨⟨ys,ys[i],hsq,List.getElem?_eq_getElem h⟩,?_⟩;rintro x H3 ⟨rfl,hx⟩;exact hs i x xs σ1 H3 (hx ys hsq) h hl ha hp
 .have e:i=ys.length:=Nat.le_antisymm hi h;subst e;exact .inl ⟨⟨ys,hsq,Nat.le_refl _⟩,hd xs σ1 H2 hl ha hp⟩
section
variable{cmp:Nat->Nat->(Bool->Shared->Prop)->Shared->Prop}{key:Nat->Int}{N:Nat}{s:Shared}
def KP(key:Nat->Int)(p:Array Nat)(i:Nat):Int:=key (p.getD i 0)
def PermN(N:Nat)(p:Array Nat):Prop:=p.toList.Perm (List.range N)
theorem PermN.size{p:Array Nat}(h:PermN N p):p.size=N:=by
 have:=List.Perm.length_eq h;rw[List.length_range]at this
 simpa using this
theorem PermN.lt{p:Array Nat}(h:PermN N p){i:Nat}(hi:i<N):p.getD i 0<N:=by
 have hs:=h.size;have hi':i<p.size:=by lia
 have e:p.getD i 0=p[i]:=by simp[Array.getD,hi']
 rw[e];have hm:p[i]∈p.toList:=by simp
 exact List.mem_range.mp ((List.Perm.mem_iff h).mp hm)
theorem PermN.of{p q:Array Nat}(h:PermN N p)(hq:q.Perm p):PermN N q:=(Array.perm_iff_toList_perm.mp hq).trans h
def HJ(key:Nat->Int)(p:Array Nat)(k:Nat):Prop:=∀i j,i<=j->j<k->KP key p i<=KP key p j
def Na(key:Nat->Int)(p:Array Nat)(k:Nat):Prop:=∀i j,i<=j->j<k->KP key p j<=KP key p i
theorem DI{p q:Array Nat}{i j:Nat}(h:p[i]?=q[j]?):KP key p i=KP key q j:=by
 unfold KP;rw[Array.getD_eq_getD_getElem?,Array.getD_eq_getD_getElem?,h]
theorem HR{p:Array Nat}{i j:Nat}(hj:j<=p.size)(k:Nat):KP key (kas_rev p i j) k=if i<=k/\k<j then KP key p (i+j-1-k) else KP key p k:=by
 have e:=getElem?_mirror_all (i:=i) hj k;by_cases h:i<=k/\k<j
 .rw[if_pos h]at e |-;exact DI e
 .rw[if_neg h]at e |-;exact DI e
theorem JF{p:Array Nat}{src d:Nat}(hs:src<p.size)(hd:d<=src)(k:Nat) :
  KP key (bubble p src d) k=if k=src-d then KP key p src else if src-d<k/\k<=src then KP key p (k-1) else KP key p k:=by
 have e:=getElem?_bubble hs d hd k;by_cases h1:k=src-d
 .rw[if_pos h1]at e |-;exact DI e
 .rw[if_neg h1]at e |-;by_cases h2:src-d<k/\k<=src
  .rw[if_pos h2]at e |-;exact DI e
  .rw[if_neg h2]at e |-;exact DI e
theorem PermN.rev{p:Array Nat}(h:PermN N p)(i j:Nat):PermN N (kas_rev p i j):=h.of (mirror_perm _ _ _ _)
theorem PermN.bub{p:Array Nat}(h:PermN N p)(i j:Nat):PermN N (bubble p i j):=h.of (bubble_perm _ _ _)
theorem QB{p:Array Nat}{n:Nat}(h:HJ key p n)(hn:1<=n)(hc:KP key p (n-1)<=KP key p n):HJ key p (n+1):=λ i j hij hj=>by
 by_cases e:j=n
 .subst e;by_cases e2:i=j
  .subst e2;exact Int.le_refl _
  .exact Int.le_trans (h i (j-1) (by lia) (by lia)) hc
 .exact h i j hij (by lia)
theorem FX{p:Array Nat}{n:Nat}(h:Na key p n)(hn:1<=n)(hc:KP key p n<=KP key p (n-1)):Na key p (n+1):=λ i j hij hj=>by
 by_cases e:j=n
 .subst e;by_cases e2:i=j
  .subst e2;exact Int.le_refl _
  .exact Int.le_trans hc (h i (j-1) (by lia) (by lia))
 .exact h i j hij (by lia)
variable(hcmp:∀i j (C:Bool->Shared->Prop),i<N->j<N->C (decide (key i<key j)) s->cmp i j C s)
include hcmp
theorem MQ{p:Array Nat}(hp:PermN N p){G:Nat->Shared->Prop}:∀(f n:Nat),1<=n->n+f<=N->HJ key p n->(∀m,n<=m->m<=n+f->HJ key p m->(m<n+f->KP key p m<KP key p (m-1))->G m s)->(kas_asc p f n).kasWp cmp G s
 |0,n,h1,hn,hs,hG=>hG n (Nat.le_refl _) (by lia) hs (λ h=>absurd h (by lia))
 |f+1,n,h1,hn,hs,hG=>by
  show cmp _ _ _ s;refine hcmp _ _ _ (hp.lt (by lia)) (hp.lt (by lia)) ?_;by_cases h:key (p.getD n 0)<key (p.getD (n-1) 0)
  .rw[decide_eq_true h];simp only[if_true];exact hG n (Nat.le_refl _) (by lia) hs λ_=>h
  .rw[decide_eq_false h];simp only[Bool.false_eq_true,if_false];exact MQ hp f (n+1) (by lia) (by lia) (QB hs h1 (by unfold KP;lia)) λ m a b c d=>hG m (by lia) (by lia) c λ z=>d (by lia)
theorem KR{p:Array Nat}(hp:PermN N p){n:Nat}(h1:1<=n)(hn:n<=N)(hs:Na key p n){G:Nat×Array Nat->Shared->Prop}(hG:∀m q,1<=m->m<=N->PermN N q->HJ key q m->G (m,q) s):(kas_tail3 n N p).kasWp cmp G s:=by
 unfold kas_tail3;rw[KasT.kasWp_bind];have hz:=hp.size;refine MQ hcmp (hp.rev 0 n) (N-n) n h1 (by lia) (λ i j hij hj=>?_) λ m a b c _=>hG m _ (by lia) (by lia) (hp.rev 0 n) c;rw[HR (by lia),HR (by lia),if_pos (by lia),if_pos (by lia)];exact hs _ _ (by lia) (by lia)
theorem Gf{G:Array Nat×Nat×Nat->Shared->Prop}:∀(f:Nat)(p:Array Nat)(n q:Nat),PermN N p->1<=n->n+f<=N->q<n->Na key p n->(∀i,n-1-q<=i->i<n->KP key p i=KP key p (n-1)) ->
  (∀p' m r,PermN N p'->1<=m->m<=N->r<m->Na key p' m->(∀i,m-1-r<=i->i<m->KP key p' i=KP key p' (m-1))->G (p',m,r) s)->(kas_desc f p n q).kasWp cmp G s
 |0,p,n,q,hp,h1,hn,hq,hs,he,hG=>hG p n q hp h1 (by lia) hq hs he
 |f+1,p,n,q,hp,h1,hn,hq,hs,he,hG=>by
  have hz:=hp.size;show cmp _ _ _ s;refine hcmp _ _ _ (hp.lt (by lia)) (hp.lt (by lia)) ?_;by_cases h:key (p.getD n 0)<key (p.getD (n-1) 0)
  .rw[decide_eq_true h];simp only[if_true];have h':KP key p n<KP key p (n-1):=h;have key1:Na key p (n+1):=FX hs h1 (by lia);by_cases hq0:q>0
   .rw[if_pos hq0];have same:∀k,KP key (kas_rev p (n-(q+1)) n) k=KP key p k:=λ k=>by
     rw[HR (by lia)];split
     .rw[he _ (by lia) (by lia),he k (by lia) (by lia)]
     .rfl
    refine Gf f _ (n+1) 0 (hp.rev _ _) (by lia) (by lia) (by lia) (λ i j hij hj=>?_) (λ i a b=>?_) hG
    .rw[same,same];exact key1 i j hij hj
    .rw[show i=n+1-1 by lia]
   .rw[if_neg hq0];exact Gf f _ (n+1) 0 hp (by lia) (by lia) (by lia) key1 (λ i a b=>by rw[show i=n+1-1 by lia]) hG
  .rw[decide_eq_false h];simp only[Bool.false_eq_true,if_false];show cmp _ _ _ s;refine hcmp _ _ _ (hp.lt (by lia)) (hp.lt (by lia)) ?_;by_cases h2:key (p.getD (n-1) 0)<key (p.getD n 0)
   .rw[decide_eq_true h2];simp only[if_true];exact hG p n q hp h1 (by lia) hq hs he
   .rw[decide_eq_false h2];simp only[Bool.false_eq_true,if_false];have e:KP key p n=KP key p (n-1):=by unfold KP;lia
    refine Gf f p (n+1) (q+1) hp (by lia) (by lia) (by lia) (FX hs h1 (by lia)) (λ i a b=>?_) hG;by_cases hi:i=n
    .subst hi;rfl
    .rw[he i (by lia) (by lia),<-e];rfl
theorem F4{p:Array Nat}(hp:PermN N p){n:Nat}(hn:n+1<=N)(hs:Na key p (n+1)){G:Nat×Array Nat->Shared->Prop}(hG:∀m q,1<=m->m<=N->PermN N q->HJ key q m->G (m,q) s):(kas_descPart n N p).kasWp cmp G s:=by
 unfold kas_descPart;rw[KasT.kasWp_bind];refine Gf hcmp (N-(n+1)) p (n+1) 0 hp (by lia) (by lia) (by lia) hs (λ i a b=>by rw[show i=n+1-1 by lia]) λ p' m r hp' h1 hm hr hs' he=>?_;dsimp only;have hz:=hp'.size;split
 .have same:∀k,KP key (kas_rev p' (m-(r+1)) m) k=KP key p' k:=λ k=>by
   rw[HR (by lia)];split
   .rw[he _ (by lia) (by lia),he k (by lia) (by lia)]
   .rfl
  exact KR hcmp (hp'.rev _ _) h1 hm (λ i j hij hj=>by rw[same,same];exact hs' i j hij hj) hG
 .exact KR hcmp hp' h1 hm hs' hG
theorem Qd{p:Array Nat}(hp:PermN N p)(h1:1<=N){G:Nat×Array Nat->Shared->Prop}(hG:∀m q,1<=m->m<=N->PermN N q->HJ key q m->G (m,q) s):(kas_count N p).kasWp cmp G s:=by
 unfold kas_count;rw[KasT.kasWp_bind];have hz:=hp.size;refine MQ hcmp hp (N-1) 1 (Nat.le_refl _) (by lia) (λ i j hij hj=>by rw[show i=j by lia];exact Int.le_refl _) λ m a b c d=>?_;split
 .exact hG m p a (by lia) hp c
 .rename_i hne;have hm:m<N:=by
   have:m≠N:=λ e=>hne (by rw[e];exact beq_self_eq_true _);lia
  have hd:=d (by lia);split
  .show cmp _ _ _ s;refine hcmp _ _ _ (hp.lt (by lia)) (hp.lt (by lia)) ?_;by_cases h:key (p.getD 0 0)<key (p.getD (m-1) 0)
   .rw[decide_eq_true h];simp only[if_true];exact hG m p a (by lia) hp c
   .rw[decide_eq_false h];simp only[Bool.false_eq_true,if_false];have h':KP key p (m-1)<=KP key p 0:=by unfold KP;lia
    have eqs:∀i,i<m->KP key p i=KP key p 0:=λ i hi=>Int.le_antisymm (Int.le_trans (c i (m-1) (by lia) (by lia)) h') (c 0 i (by lia) hi);have same:∀k,KP key (kas_rev p 0 m) k=KP key p k:=λ k=>by
     rw[HR (by lia)];split
     .rw[eqs _ (by lia),eqs k (by lia)]
     .rfl
    refine F4 hcmp (hp.rev 0 m) (by lia) (FX (λ i j hij hj=>?_) a ?_) hG
    .rw[same,same,eqs i (by lia),eqs j (by lia)];exact Int.le_refl _
    .rw[same,same];lia
  .have em:m=1:=by lia
   subst em;exact F4 hcmp hp (by lia) (FX (λ i j hij hj=>by rw[show i=j by lia];exact Int.le_refl _) (Nat.le_refl _) (by lia)) hG
theorem G6{p:Array Nat}(hp:PermN N p){k:Nat}(hk:k<N)(hs:HJ key p k){G:Nat->Shared->Prop}(hG:∀l,l<=k->(∀i,i<l->KP key p i<=KP key p k)->(∀i,l<=i->i<k->KP key p k<KP key p i)->G l s) :
  ∀(f l r:Nat),r-l<=f->l<=r->r<=k->(∀i,i<l->KP key p i<=KP key p k)->(∀i,r<=i->i<k->KP key p k<KP key p i)->(kas_place p k f l r).kasWp cmp G s
 |0,l,r,hf,hlr,hr,ha,hb=>hG l (by lia) ha λ i h1 h2=>hb i (by lia) h2
 |f+1,l,r,hf,hlr,hr,ha,hb=>by
  unfold kas_place;split
  .exact hG l (by lia) ha λ i h1 h2=>hb i (by lia) h2
  .show cmp _ _ _ s;refine hcmp _ _ _ (hp.lt hk) (hp.lt (by lia)) ?_;by_cases h:key (p.getD k 0)<key (p.getD ((l+r) / 2) 0)
   .rw[decide_eq_true h];simp only[if_true];refine G6 hp hk hs hG f l ((l+r) / 2) (by lia) (by lia) (by lia) ha λ i h1 h2=>?_;exact Int.lt_of_lt_of_le h (hs _ i h1 h2)
   .rw[decide_eq_false h];simp only[Bool.false_eq_true,if_false];refine G6 hp hk hs hG f ((l+r) / 2+1) r (by lia) (by lia) hr (λ i h1=>?_) hb;have h2:=hs i ((l+r) / 2) (by lia) (by lia);have h3:KP key p ((l+r) / 2)<=KP key p k:=by unfold KP;lia
    lia
theorem Qk{G:Array Nat->Shared->Prop}(hG:∀q,PermN N q->HJ key q N->G q s):∀(f:Nat)(p:Array Nat)(k:Nat),PermN N p->k+f=N->HJ key p k->(kas_bin f p k).kasWp cmp G s
 |0,p,k,hp,hk,hs=>hG p hp (by rw[<-hk];exact hs)
 |f+1,p,k,hp,hk,hs=>by
  unfold kas_bin;rw[KasT.kasWp_bind];have hz:=hp.size;refine G6 hcmp hp (by lia) hs (λ l hl ha hb=>?_) k 0 k (by lia) (by lia) (Nat.le_refl _) (λ i h=>absurd h (by lia)) λ i h1 h2=>absurd h1 (by lia);refine Qk hG f _ (k+1) (hp.bub _ _) (by lia) λ i j hij hj=>?_;rw[JF (by lia) (by lia),JF (by lia) (by lia),show k-(k-l)=l by lia];by_cases i1:i=l
  .rw[if_pos i1];by_cases j1:j=l
   .rw[if_pos j1];exact Int.le_refl _
   .rw[if_neg j1,if_pos (by lia)];exact Int.le_of_lt (hb _ (by lia) (by lia))
  .rw[if_neg i1];by_cases i2:l<i/\i<=k
   .rw[if_pos i2,if_neg (by lia),if_pos (by lia)];exact hs _ _ (by lia) (by lia)
   .rw[if_neg i2];by_cases j1:j=l
    .rw[if_pos j1];exact ha i (by lia)
    .rw[if_neg j1];by_cases j2:l<j/\j<=k
     .rw[if_pos j2];exact hs _ _ (by lia) (by lia)
     .rw[if_neg j2];exact hs _ _ hij (by lia)
theorem L0(h1:1<=N){G:Array Nat->Shared->Prop}(hG:∀q:Array Nat,PermN N q->(q.toList.map key).Pairwise (·<=·)->G q s):(kas_sort N).kasWp cmp G s:=by
 have p0:PermN N (List.toArray (List.range N)):=by show List.Perm _ _;simp
 have hG':∀q,PermN N q->HJ key q N->G q s:=λ q hq hs=>hG q hq (by
  have hz:=hq.size;rw[List.pairwise_iff_getElem];intro i j hi hj hij;have hi':i<q.size:=by simpa using hi
  have hj':j<q.size:=by simpa using hj
  have:=hs i j (by lia) (by lia);unfold KP at this;rw[show q.getD i 0=q[i] by simp[Array.getD,hi'],show q.getD j 0=q[j] by simp[Array.getD,hj']]at this
  simpa using this)
 unfold kas_sort;rw[KasT.kasWp_bind];refine Qd hcmp p0 h1 λ m q hm1 hm2 hq hs=>?_;dsimp only;split
 .exact Qk hcmp hG' _ q _ hq (by lia) (by rw[show max m 1=m by lia];exact hs)
 .exact hG' q hq (by rw[show N=m by lia];exact hs)
end
section
variable{prog:Program}{w:World}{A:Around}{E:VPz}{s:Shared}
def B5(h:Heap)(a:Addr)(vs:LWz):Heap:=((h.update a (Obj.mapSeq λ_=>#[])).push (seqObj "tuple" vs.toArray 0)).push (seqObj "list" #[] 0)
theorem Km{h:Heap}{a b:Addr}{vs:LWz}{o:Obj}(hb:b≠a)(e:h.get? b=some o):(B5 h a vs).get? b=some o:=by
 unfold B5;exact Heap.get?_push_of_some _ (Heap.get?_push_of_some _ (by rw[Heap.get?_update_ne _ _ _ _ hb];exact e))
theorem Pp(vs:LWz):(List.range vs.length).map (λ i=>vs.getD i Value.none)=vs:=by
 apply List.ext_getElem?;intro i;rw[List.getElem?_map];by_cases h:i<vs.length
 .rw[List.getElem?_range h,Option.map_some,List.getD_eq_getElem?_getD,List.getElem?_eq_getElem h];rfl
 .rw[List.getElem?_eq_none (by simpa using h),List.getElem?_eq_none (by lia)];rfl
theorem FL{a:Addr}{vs:LWz}{n:Nat}{P:PySem.Fin->Shared->Prop}{κ:SortKind}{key:Nat->Int}(ho:s.heap.get? a=some (seqObj "list" vs.toArray n))(h64:vs.length<64)
  (hK:∀(Q:SortKind->Shared->Prop)(E:VPz),2<=vs.length->Q κ { s with heap:=B5 s.heap a vs }->wpAny (model prog w) A (keyKind' vs.toArray) Q E { s with heap:=B5 s.heap a vs })
  (hL:∀i j (C:Bool->Shared->Prop),i<vs.length->j<vs.length->C (decide (key i<key j)) { s with heap:=B5 s.heap a vs } ->
   wpAny (model prog w) A (keyLt' κ (vs.getD i Value.none) (vs.getD j Value.none)) C (λ_ _=>False) { s with heap:=B5 s.heap a vs })
  (h:∀q:Array Nat,PermN vs.length q->(q.toList.map key).Pairwise (·<=·)->P (.done (.ret .none)) { s with heap:=sortedHeap s.heap a vs (List.toArray (q.toList.map λ i=>vs.getD i Value.none)) }) :
  wpAny (model prog w) A (Builtin.«list.sort» ⟨[.ref a],[]⟩) P E s:=by
 rw[list_sort_plain];have ha:a<s.heap.objs.size:=Heap.lt_size ho;refine wpAny_bind (listItems_at ho rfl ?_);refine wpAny_bind (listUpdate_at ho rfl ?_ (by rw[List.size_toArray,sizeLine_eq];lia) (Nat.zero_le _));obtain⟨e1,ho1⟩:∃e1,(s.heap.update a (Obj.mapSeq λ_=>#[])).get? a=some (seqObj "list" #[] e1):=⟨_,get?_update_seq ho (λ_=>#[])⟩;refine wpAny_bind (seqEpoch_at ho1 rfl ?_);refine wpAny_bind (wpAny_newTuple ?_ (by show vs.length<=_;rw[sizeLine_eq];lia));refine wpAny_bind (wpAny_newList ?_ (Nat.zero_le _));refine wpAny_holding ?_;have ho6:(B5 s.heap a vs).get? a=some (seqObj "list" #[] e1):=by
  unfold B5;rw[Heap.get?_push_ne _ _ _ (by rw[size_push',Heap.size_update];exact Nat.ne_of_lt (Nat.lt_succ_of_lt ha)),Heap.get?_push_ne _ _ _ (by rw[Heap.size_update];exact Nat.ne_of_lt ha)];exact ho1
 show wpAny (model prog w) A _ P E { s with heap:=B5 s.heap a vs };dsimp only;have hsz:vs.toArray.size=vs.length:=by simp
 by_cases h2:vs.toArray.size<2
 .rw[if_pos h2,if_pos h2];refine wpAny_bind (wpAny_pure ?_);rw[StateT.run_pure];refine wpAny_bind (wpAny_pure ?_);dsimp only;refine wpAny_bind (seqEpoch_at ho6 rfl ?_);refine wpAny_bind (listUpdate_at ho6 rfl ?_ (Nat.zero_le _) (by rw[Array.size_map];show(pairsOf vs).size<=_;rw[pairsOf_size,sizeLine_eq];lia));simp only[bne_self_eq_false,Bool.false_eq_true,if_false];have hh:=h (List.toArray (List.range vs.length)) (by show List.Perm _ _;simp) (by
   rw[hsz]at h2;rcases(by lia:vs.length=0\/vs.length=1) with e|e<;>rw[e]<;>simp[List.range_succ])
  have e3:List.map (λ i=>vs.getD i Value.none) (List.range vs.length).toArray.toList=vs:=Pp vs;rw[e3]at hh;have e2:(arrOf (SortSt.mk' general' (vs.toArray.zip vs.toArray) #[] 7 none)).map (·.2)=vs.toArray:=by
   show(vs.toArray.zip vs.toArray).map (·.2)=vs.toArray;apply Array.ext';simp[List.map_snd_zip]
  refine wpAny_pure ?_;rw[e2];exact hh
 .rw[if_neg h2,if_neg h2];have h2':2<=vs.length:=by lia
  refine wpAny_bind (hK _ _ h2' ?_);refine wpAny_bind (wpAny_mono (kat_run (ks:=vs) (vs:=vs) (Q:=λ st' s'=>s'={ s with heap:=B5 s.heap a vs }/\∃p:Array Nat,p.size=vs.length/\arrOf st'=p.map (kas_item (vs.toArray.zip vs.toArray))/\failedOf st'=none/\PermN vs.length p/\(p.toList.map key).Pairwise (·<=·))
   (G:=λ p s'=>s'={ s with heap:=B5 s.heap a vs }/\PermN vs.length p/\(p.toList.map key).Pairwise (·<=·)) rfl h2' h64 (λ p st' s' a1 a2 a3 a4=>⟨a4.1,p,a1,a2,a3,a4.2⟩)
   (L0 (λ i j C hi hj hC=>hL i j C hi hj hC) (by lia) λ q hq hp=>⟨rfl,hq,hp⟩)) ?_ λ_ _ e=>e)
  rintro⟨⟨⟩,st'⟩ s' ⟨rfl,p,hp,har,hf,pp,ps⟩;dsimp only;have hout:=kat_snds rfl har;have hsz2:(List.toArray (p.toList.map λ i=>vs.getD i Value.none)).size=vs.length:=by rw[List.size_toArray,List.length_map,Array.length_toList,hp]
  rw[hout];refine wpAny_bind (seqEpoch_at ho6 rfl ?_);refine wpAny_bind (listUpdate_at ho6 rfl ?_ (Nat.zero_le _) (Nat.le_trans (Nat.le_of_eq hsz2) (by rw[sizeLine_eq];lia)));rw[hf];simp only[bne_self_eq_false,Bool.false_eq_true,if_false];exact wpAny_pure (h p pp ps)
theorem QD{l:Addr}{vs:LWz}{κ:SortKind}{key:Nat->Int}{Q:VPz}(hl:s.heap.IsList l vs.toArray)(h64:vs.length<64)
  (hK:∀(h':Heap),(∀b o,s.heap.get? b=some o->h'.get? b=some o)->∀(A:Around)(Q:SortKind->Shared->Prop)(E:VPz),2<=vs.length->Q κ { s with heap:=h' }->wpAny (model prog w) A (keyKind' vs.toArray) Q E { s with heap:=h' })
  (hL:∀(h':Heap),(∀b o,s.heap.get? b=some o->h'.get? b=some o)->∀(A:Around) i j (C:Bool->Shared->Prop),i<vs.length->j<vs.length->C (decide (key i<key j)) { s with heap:=h' } ->
   wpAny (model prog w) A (keyLt' κ (vs.getD i Value.none) (vs.getD j Value.none)) C (λ_ _=>False) { s with heap:=h' })
  (h:∀q:Array Nat,PermN vs.length q->(q.toList.map key).Pairwise (·<=·)->Q (.ref (s.heap.objs.size+1)) { s with heap:=sortedAll s.heap vs (List.toArray (q.toList.map λ i=>vs.getD i Value.none)) }) :
  wpAny (model prog w) A (call (.builtin "sorted") [.ref l]) Q E s:=by
 refine Calls.call_function_entry kind_sorted plain_sorted entry_sorted (args_sorted1 _) ?_;unfold Builtin.«sorted»;refine wpAny_bind (m:=checkCount "sorted" 1 1 _) (wpAny_pure ?_);refine wpAny_bind (collect_list hl ?_ (by rw[sizeLine_eq];lia));refine wpAny_bind (wpAny_newList ?_ (by rw[sizeLine_eq];lia));have hsz:((s.heap.push (seqObj "list" #[] 0)).update s.heap.objs.size (Obj.mapSeq (·++vs.toArray))).objs.size=s.heap.objs.size+1:=by
  rw[Heap.size_update,size_push']
 have hoL:(((s.heap.push (seqObj "list" #[] 0)).update s.heap.objs.size (Obj.mapSeq (·++vs.toArray))).push (seqObj "list" vs.toArray 0)).get? (s.heap.objs.size+1)=some (seqObj "list" vs.toArray 0):=by
  rw[<-hsz];exact Heap.get?_push_size _ rfl
 have keep:∀b o,s.heap.get? b=some o->(((s.heap.push (seqObj "list" #[] 0)).update s.heap.objs.size (Obj.mapSeq (·++vs.toArray))).push (seqObj "list" vs.toArray 0)).get? b=some o:=λ b o q=>by
  have hlt:b<s.heap.objs.size:=Heap.lt_size q;rw[Heap.get?_push_ne _ _ _ (by rw[hsz];exact Nat.ne_of_lt (Nat.lt_succ_of_lt hlt)),Heap.get?_update_ne _ _ _ _ (Nat.ne_of_lt hlt),Heap.get?_push_ne _ _ _ (Nat.ne_of_lt hlt)];exact q
 show wpAny _ _ _ _ _ { s with heap:=((s.heap.push (seqObj "list" #[] 0)).update s.heap.objs.size (Obj.mapSeq (·++vs.toArray))).push (seqObj "list" vs.toArray 0) };rw[hsz];have mid:∀b o,s.heap.get? b=some o->(B5 (((s.heap.push (seqObj "list" #[] 0)).update s.heap.objs.size (Obj.mapSeq (·++vs.toArray))).push (seqObj "list" vs.toArray 0)) (s.heap.objs.size+1) vs).get? b=some o:=λ b o q =>
  Km (Nat.ne_of_lt (Nat.lt_succ_of_lt (Heap.lt_size q))) (keep b o q)
 refine wpAny_bind (wpAny_holding (wpAny_call_entry slot_list_sort ⟨_,hoL,rfl⟩ entry_list_sort (FL (κ:=κ) (key:=key) (s:={ s with heap:=((s.heap.push (seqObj "list" #[] 0)).update s.heap.objs.size (Obj.mapSeq (·++vs.toArray))).push (seqObj "list" vs.toArray 0) }) hoL h64 (λ Q E h2 hq=>hK _ mid _ Q E h2 hq) (λ i j C hi hj hc=>hL _ mid _ i j C hi hj hc) λ q a1 a2=>⟨_,rfl,?_⟩) (args_list_sort _)));exact wpAny_pure ⟨_,rfl,h q a1 a2⟩
theorem DA{fin:Bool}{Q:Bool->Shared->Prop}(hf:fin=false):∀{vs ws:LWz}{ns ms:List Int}(i:Nat),IntsAre vs ns->IntsAre ws ms->ns.length=ms.length->Q (HT.lexLt ns ms) s->KatLex prog w A true fin Q (vs.zip ws) i s
 |_,_,_,_,i,.nil,.nil,_,hq=>by rw[HT.lexLt_nil_nil]at hq;rw[hf];exact hq
 |_,_,_,_,i,.cons n t hn,.cons m u hm,hl,hq=>by
  rw[List.zip_cons_cons];rw[HT.lexLt_cons]at hq;refine kat_cons (wpAny_eqBool_int (kat_go (λ e=>kat_yes ?_) λ e=>kat_no ?_))
  .have e':n=m:=by simpa using e
   rw[if_pos e']at hq;exact DA hf (i+1) hn hm (by simpa using hl) hq
  .have e':¬n=m:=by simpa using e
   rw[if_neg e']at hq;by_cases hi:i=0
   .subst hi;exact oneLt_int hq
   .have hb:(true&&i==0)=false:=by simp[hi]
    rw[hb];exact kat_one _ _ (lt_int hq)
end
section
variable{X:Cx}
theorem DO:∀{ts:List Addr}{its:LWz},Vals (ts.map V.ref) its->its=ts.map Value.ref
 |[],_,.nil=>rfl
 |a::r,_,.cons h t=>by
  cases(show _=Value.ref a from h);rw[List.map_cons,DO t]
theorem Ej:∀(ts:List Addr),Vals (ts.map V.ref) (ts.map Value.ref)
 |[]=>.nil
 |a::r=>.cons rfl (Ej r)
theorem Er{h:Heap}{m:Nat}:∀{ts:List (Addr×List Int)},(∀t∈ts,t.2.length=m+1/\∃items,IsTup h t.1 items/\IntsAre items.toList t.2)->∃fs,KatTups h (ts.map λ t=>Value.ref t.1) fs/\fs.length=ts.length/\∀v∈fs,∃n tk,v=Value.int n tk
 |[],_=>⟨[],KatTups.nil,rfl,λ v hv=>nomatch hv⟩
 |t::r,hh=>by
  obtain⟨fs,h1,h2,h3⟩:=Er (ts:=r) λ u hu=>hh u (List.mem_cons_of_mem _ hu);obtain⟨hl,items,⟨o,ho,hc,n,hd⟩,hi⟩:=hh t List.mem_cons_self;obtain⟨x,tk,z,e⟩:∃(n:Int)(tk:Tok)(zs:LWz),items.toList=Value.int n tk::zs:=by
   generalize items.toList=vs at hi;generalize t.2=ns at hi hl;cases hi with
   |nil=>simp at hl
   |cons n tk hz=>exact⟨n,tk,_,rfl⟩
  have hf:items[0]?=some (Value.int x tk):=by
   rw[<-Array.getElem?_toList,e];rfl
  exact⟨_,KatTups.cons ho hc hd hf h1,by simp[h2],λ v hv=>by
   rcases List.mem_cons.mp hv with rfl|hv
   .exact⟨x,tk,rfl⟩
   .exact h3 v hv⟩
theorem K3:Ck X (.builtin "sorted") (λ xs H Q=>∃(p:Addr)(ts:List (Addr×List Int))(m:Nat)(key:List Int->Int),xs=[.ref p]/\SqL X.K H p (ts.map λ t=>V.ref t.1)/\ts.length<64 /\
  (∀t∈ts,t.2.length=m+1/\H t.1=some (.tup (t.2.map V.int)))/\(∀t∈ts,∀u∈ts,HT.lexLt t.2 u.2=decide (key t.2<key u.2)) /\
  ∀l (ts':List (Addr×List Int)),H l=none->ts'.Perm ts->(ts'.map λ t=>key t.2).Pairwise (·<=·)->Q (.ref l) (upd H l (.lst (ts'.map λ t=>V.ref t.1)))):=by
 intro pins s σ H xs us Q I r h;obtain⟨p,ts,m,key,rfl,hp,h64,ht,hkey,q⟩:=h;obtain⟨u,rfl,ru⟩:=CL r;cases ru;obtain⟨its,rv,pl,hz⟩:=I.list hp;have hits:its=ts.map λ t=>Value.ref t.1:=by
  have:=DO (ts:=ts.map (·.1)) (its:=its) (by rw[List.map_map];exact rv);rw[this,List.map_map];rfl
 have hlen:its.length=ts.length:=by rw[hits,List.length_map]
 have tup:∀t∈ts,t.2.length=m+1/\∃items,IsTup s.heap t.1 items/\IntsAre items.toList t.2:=λ t htm=>by
  obtain⟨h1,h2⟩:=ht t htm;obtain⟨_,zs,rz,tz⟩:=(show ObjOk X.prog X.w H s.heap t.1 (.tup (t.2.map V.int)) from I.hok _ _ h2);exact⟨h1,_,tz,by simpa using Hg rz⟩
 have tupK:∀(h':Heap),(∀b o,s.heap.get? b=some o->h'.get? b=some o)->∀t∈ts,t.2.length=m+1/\∃items,IsTup h' t.1 items/\IntsAre items.toList t.2:=λ h' k t htm=>by
  obtain⟨h1,items,⟨o,e,c⟩,h3⟩:=tup t htm;exact⟨h1,items,⟨o,k _ _ e,c⟩,h3⟩
 refine QD (κ:=tuples' true) (key:=λ i=>key ((ts.map (·.2)).getD i [])) pl.isList (by lia) (λ h' k A' Q' E' h2 hq=>?_) (λ h' k A' i j C hi hj hc=>?_) λ qq pq sq=>?_
 .obtain⟨fs,f1,f2,f3⟩:=Er (tupK h' k);rw[hits];refine kat_kind (s:={ s with heap:=h' }) (T:=Value.type "int") f1 (by lia) (λ v hv=>?_) (by decide) hq;obtain⟨n,tk,rfl⟩:=f3 v hv;exact .now
 .have hi':i<ts.length:=by lia
  have hj':j<ts.length:=by lia
  obtain⟨l1,x1,⟨o1,e1,c1,n1,d1⟩,z1⟩:=tupK h' k _ (List.getElem_mem hi');obtain⟨l2,x2,⟨o2,e2,c2,n2,d2⟩,z2⟩:=tupK h' k _ (List.getElem_mem hj');have g1:its.getD i Value.none=Value.ref ts[i].1:=by rw[hits];simp[List.getD,hi']
  have g2:its.getD j Value.none=Value.ref ts[j].1:=by rw[hits];simp[List.getD,hj']
  have k1:(ts.map (·.2)).getD i []=ts[i].2:=by simp[List.getD,hi']
  have k2:(ts.map (·.2)).getD j []=ts[j].2:=by simp[List.getD,hj']
  simp only[k1,k2]at hc;rw[<-hkey _ (List.getElem_mem hi') _ (List.getElem_mem hj')]at hc;rw[g1,g2];have s1:=z1.length;have s2:=z2.length;exact kat_lt (s:={ s with heap:=h' }) e1 d1 e2 d2 (DA (by rw[decide_eq_false];simp at s1 s2;lia) 0 z1 z2 (by lia) hc)
 .obtain⟨e,he⟩:=sortedAll_at s.heap its (List.toArray (qq.toList.map λ i=>its.getD i Value.none));have hn:H (s.heap.objs.size+1)=none:=I.hok.fresh (Nat.le_succ _);have pq':qq.toList.Perm (List.range ts.length):=by rw[<-hlen];exact pq
  have pick:ts.Perm (qq.toList.map λ i=>ts.getD i (0,[])):=by
   have:=(pq'.map λ i=>ts.getD i ((0:Addr),([]:List Int))).symm;have e2:(List.range ts.length).map (λ i=>ts.getD i ((0:Addr),([]:List Int)))=ts:=by
    apply List.ext_getElem?;intro i;rw[List.getElem?_map];by_cases h:i<ts.length
    .rw[List.getElem?_range h,Option.map_some,List.getD_eq_getElem?_getD,List.getElem?_eq_getElem h];rfl
    .rw[List.getElem?_eq_none (by simpa using h),List.getElem?_eq_none (by lia)];rfl
   rw[e2]at this;exact this
  have inR:∀i∈qq.toList,i<ts.length:=λ i hi=>List.mem_range.mp (pq'.mem_iff.mp hi);have eV:qq.toList.map (λ i=>its.getD i Value.none)=(qq.toList.map λ i=>ts.getD i (0,[])).map λ t=>Value.ref t.1:=by
   rw[List.map_map];refine List.map_congr_left λ i hi=>?_;have:=inR i hi;rw[hits];simp[List.getD,this]
  refine⟨.ref (s.heap.objs.size+1),_,I.laid (o:=.lst ((qq.toList.map λ i=>ts.getD i (0,[])).map λ t=>V.ref t.1)) (t':=s.toks) (λ b o z=>sortedAll_old z) (Nat.le_succ _) ⟨?_,_,e,?_,he⟩,rfl,q _ _ hn pick.symm ?_⟩
  .rw[List.length_map,List.length_map,Array.length_toList,pq.size,sizeLine_eq];lia
  .rw[eV];generalize (qq.toList.map λ i=>ts.getD i ((0:Addr),([]:List Int)))=zs;have:=Ej (zs.map (·.1));rw[List.map_map,List.map_map]at this;exact this
  .rw[List.map_map];have e4:qq.toList.map ((λ t:Addr×List Int=>key t.2)∘λ i=>ts.getD i (0,[]))=qq.toList.map λ i=>key ((ts.map (·.2)).getD i []):=by
    refine List.map_congr_left λ i hi=>?_;have:=inR i hi;simp[List.getD,this]
   rw[e4];exact sq
end
section
variable{κ:Type}[DecidableEq κ]
def Bd(kvs:List (κ×V))(k:κ):Option V:=(kvs.find? λ kv=>decide (kv.1=k)).map (·.2)
def El(kvs:List (κ×V))(k:κ)(v:V):List (κ×V) :=
 if (kvs.any λ kv=>decide (kv.1=k))=true then kvs.map (λ kv=>if kv.1=k then (kv.1,v) else kv) else kvs++[(k,v)]
theorem Bi{p:κ×V}{r:List (κ×V)}{k:κ}(e:p.1=k):Bd (p::r) k=some p.2:=by simp[Bd,List.find?_cons,e]
theorem AX{p:κ×V}{r:List (κ×V)}{k:κ}(e:¬p.1=k):Bd (p::r) k=Bd r k:=by simp[Bd,List.find?_cons,e]
theorem Dv(k:κ):∀kvs:List (κ×V),(kvs.any λ kv=>decide (kv.1=k))=(Bd kvs k).isSome
 |[]=>rfl
 |p::r=>by
  rw[List.any_cons];by_cases e:p.1=k
  .simp only[Bi e,decide_eq_true e,Bool.true_or,Option.isSome_some]
  .rw[AX e,decide_eq_false e,Bool.false_or];exact Dv k r
theorem KO(k j:κ)(y:V):∀kvs:List (κ×V),Bd (kvs.map λ kv=>if kv.1=k then (kv.1,y) else kv) j=(Bd kvs j).map λ x=>if j=k then y else x
 |[]=>rfl
 |p::r=>by
  have ih:=KO k j y r;rw[List.map_cons];by_cases h:p.1=k
  .rw[if_pos h];by_cases e:p.1=j
   .rw[Bi (p:=(p.1,y)) e,Bi e,Option.map_some,if_pos (e.symm.trans h)]
   .rw[AX (p:=(p.1,y)) e,AX e,ih]
  .rw[if_neg h];by_cases e:p.1=j
   .rw[Bi (p:=p) e,Bi e,Option.map_some,if_neg (λ z=>h (e.trans z))]
   .rw[AX (p:=p) e,AX e,ih]
theorem IV(k j:κ)(y:V):∀kvs:List (κ×V),Bd kvs k=none->Bd (kvs++[(k,y)]) j=if j=k then some y else Bd kvs j
 |[],_=>by
  by_cases e:k=j
  .rw[if_pos e.symm];exact Bi (p:=(k,y)) e
  .rw[if_neg (λ z=>e z.symm)];exact AX (p:=(k,y)) e
 |p::r,hn=>by
  rw[List.cons_append];have hk:¬p.1=k:=λ z=>by rw[Bi z]at hn;cases hn
  rw[AX hk]at hn;have ih:=IV k j y r hn;by_cases e:p.1=j
  .rw[Bi e,Bi e,if_neg (λ z=>hk (e.trans z))]
  .rw[AX e,AX e,ih]
theorem Gk(kvs:List (κ×V))(k j:κ)(y:V):Bd (El kvs k y) j=if j=k then some y else Bd kvs j:=by
 unfold El;by_cases a:(kvs.any λ kv=>decide (kv.1=k))=true
 .rw[if_pos a,KO];rw[Dv]at a;by_cases e:j=k
  .obtain⟨x,hx⟩:=Option.isSome_iff_exists.mp a;rw[if_pos e,e,hx,Option.map_some,if_pos rfl]
  .rw[if_neg e];cases Bd kvs j with
   |none=>rfl
   |some x=>rw[Option.map_some,if_neg e]
 .rw[if_neg a];refine IV k j y kvs ?_;rw[Dv]at a;cases q:Bd kvs k with
  |none=>rfl
  |some x=>rw[q]at a;exact(a rfl).elim
theorem D8(kvs:List (κ×V))(k:κ)(v:V):(El kvs k v).length<=kvs.length+1:=by
 unfold El;split
 .rw[List.length_map];lia
 .rw[List.length_append,List.length_cons,List.length_nil];lia
theorem Pn{kvs:List (κ×V)}{k:κ}(v:V)(h:Bd kvs k=none):El kvs k v=kvs++[(k,v)]:=by
 unfold El;rw[Dv,h];exact if_neg (by decide)
theorem RelO.isSome_eq{o:Option V}{u:Option Value}(r:RelO o u):o.isSome=u.isSome:=by
 cases o with
 |none=>cases u with
  |none=>rfl
  |some _=>exact(show False from r).elim
 |some _=>cases u with
  |none=>exact(show False from r).elim
  |some _=>rfl
theorem KV.val{kvs:List (κ×V)}{vs:List (κ×Value)}(r:KV kvs vs)(k:κ):RelO (Bd kvs k) (valueAt vs k):=by
 unfold KV at r
 induction r with
 |nil=>exact True.intro
 |@cons p q ps qs h t ih =>
  obtain⟨h1,h2⟩:=h;by_cases e:p.1=k
  .have e':q.1=k:=h1.symm.trans e;have b:valueAt (q::qs) k=some q.2:=by simp[valueAt,List.find?_cons,e']
   rw[Bi e,b];exact h2
  .have e':¬q.1=k:=λ z=>e (h1.trans z);have b:valueAt (q::qs) k=valueAt qs k:=by simp[valueAt,List.find?_cons,e']
   rw[AX e,b];exact ih
theorem KV.any{kvs:List (κ×V)}{vs:List (κ×Value)}(r:KV kvs vs)(k:κ):(kvs.any λ kv=>decide (kv.1=k))=vs.any λ kv=>decide (kv.1=k):=by
 unfold KV at r
 induction r with
 |nil=>rfl
 |cons h t ih=>rw[List.any_cons,List.any_cons,ih,h.1]
theorem KV.repl{kvs:List (κ×V)}{vs:List (κ×Value)}(r:KV kvs vs)(k:κ){y:V}{u:Value}(ry:RelV y u) :
  KV (kvs.map λ kv=>if kv.1=k then (kv.1,y) else kv) (vs.map λ kv=>if kv.1=k then (kv.1,u) else kv):=by
 unfold KV at r |-
 induction r with
 |nil=>exact .nil
 |@cons p q ps qs h t ih =>
  rw[List.map_cons,List.map_cons];refine .cons ?_ ih;obtain⟨h1,h2⟩:=h;by_cases e:p.1=k
  .rw[if_pos e,if_pos (h1.symm.trans e)];exact⟨h1,ry⟩
  .rw[if_neg e,if_neg (λ z=>e (h1.trans z))];exact⟨h1,h2⟩
theorem KV.put{kvs:List (κ×V)}{vs:List (κ×Value)}(r:KV kvs vs)(k:κ){y:V}{u:Value}(ry:RelV y u):KV (El kvs k y) (stored vs k u):=by
 unfold El stored;rw[r.any k];by_cases e:(vs.any λ kv=>decide (kv.1=k))=true
 .rw[if_pos e,if_pos e];exact r.repl k ry
 .rw[if_neg e,if_neg e];exact Paired.snoc r ⟨rfl,ry⟩
theorem KV.length{kvs:List (κ×V)}{vs:List (κ×Value)}(r:KV kvs vs):kvs.length=vs.length:=Paired.length r
end
theorem L1{P:Program}{w:World}{k:Key}{u:Value}(r:RelV (kV k) u):(AW P w).is k u=true:=by
 cases k with
 |inl i=>obtain⟨t,e⟩:=(show ∃t,u=Value.int i t from r);subst e;exact Lx P w i t
 |inr x=>obtain⟨t,e⟩:=(show ∃t,u=Value.str x t from r);subst e;exact Lw P w x t
theorem Jr{P:Program}{w:World}:∀{ks:List Key}{us:LWz},Vals (ks.map kV) us->ItemsAre (AW P w) ks us
 |[],_,r=>by rw[List.map_nil]at r;cases r;exact .nil
 |k::ks,_,r=>by
  rw[List.map_cons]at r;cases r with
  |cons h t=>exact .cons (L1 h) (Jr t)
abbrev KT(H:Hp):LKz->List (List Key×Addr×Value)->Prop:=Paired λ p q=>p.1=q.1/\H q.2.1=some (.tup (p.1.map kV))/\RelV p.2 q.2.2
theorem KT.val{H:Hp}{kvs:LKz}{xs:List (List Key×Addr×Value)}(r:KT H kvs xs)(k:List Key):RelO (Bd kvs k) ((atKey xs k).map (·.2)):=by
 induction r with
 |nil=>exact True.intro
 |@cons p q ps qs h t ih =>
  obtain⟨h1,_,h2⟩:=h;by_cases e:p.1=k
  .have e':q.1=k:=h1.symm.trans e;have b:atKey (q::qs) k=some q.2:=by simp[atKey,List.find?_cons,e']
   rw[Bi e,b];exact h2
  .have e':¬q.1=k:=λ z=>e (h1.trans z);have b:atKey (q::qs) k=atKey qs k:=by simp[atKey,List.find?_cons,e']
   rw[AX e,b];exact ih
theorem KT.repl{H:Hp}{kvs:LKz}{xs:List (List Key×Addr×Value)}(r:KT H kvs xs)(k:List Key){y:V}{u:Value}(ry:RelV y u) :
  KT H (kvs.map λ kv=>if kv.1=k then (kv.1,y) else kv) (xs.map (putAt k u)):=by
 induction r with
 |nil=>exact .nil
 |@cons p q ps qs h t ih =>
  rw[List.map_cons,List.map_cons];refine .cons ?_ ih;obtain⟨h1,h2,h3⟩:=h;unfold putAt;by_cases e:p.1=k
  .rw[if_pos e,if_pos (h1.symm.trans e)];exact⟨h1,h2,ry⟩
  .rw[if_neg e,if_neg (λ z=>e (h1.trans z))];exact⟨h1,h2,h3⟩
theorem KT.put{H:Hp}{kvs:LKz}{xs:List (List Key×Addr×Value)}(r:KT H kvs xs)(k:List Key){b:Addr}{y:V}{u:Value}(hb:H b=some (.tup (k.map kV)))(ry:RelV y u) :
  KT H (El kvs k y) (storedH xs k b u):=by
 have e:(kvs.any λ kv=>decide (kv.1=k))=(atKey xs k).isSome:=by
  rw[Dv,(r.val k).isSome_eq,Option.isSome_map]
 unfold El storedH;rw[e];by_cases q:(atKey xs k).isSome=true
 .rw[if_pos q,if_pos q];exact r.repl k ry
 .rw[if_neg q,if_neg q];exact Paired.snoc r ⟨rfl,hb,ry⟩
theorem KT.keeps{H H':Hp}{kvs:LKz}{xs:List (List Key×Addr×Value)}(r:KT H kvs xs)(ht:∀b ys,H b=some (.tup ys)->H' b=some (.tup ys)):KT H' kvs xs :=
 Paired.mapP r λ_ _ z=>⟨z.1,ht _ _ z.2.1,z.2.2⟩
section
variable{P:Program}{w:World}{H:Hp}{h:Heap}{a:Addr}
theorem R6{u:HO}(ok:HOk P w H h)(e:Rd H a u):ObjOk P w H h a u:=e.ok ok
theorem J0{kvs:List (Key×V)}(ok:HOk P w H h)(e:Rd H a (.dK kvs)):kvs.length<=sizeLine/\(a==sysModules)=false/\∃vs,KV kvs vs/\h.DictOf (AW P w) a vs :=
 show ObjOk P w H h a (.dK kvs) from R6 ok e
theorem TK{kvs:List (Key×V)}(ok:HOk P w H h)(e:H a=some (.dK kvs)):kvs.length<=sizeLine/\(a==sysModules)=false/\∃vs,KV kvs vs/\h.DictOf (AW P w) a vs:=J0 ok (.inl e)
theorem GY{ks:List Key}(ok:HOk P w H h)(e:H a=some (.tup (ks.map kV))):(tupleKind (AW P w)).is h ks a:=by
 obtain⟨_,its,r,o,h1,h2,n,h3⟩:=(show ObjOk P w H h a (.tup (ks.map kV)) from ok a _ e);exact⟨o,its.toArray,n,h1,h2,h3,by simpa using Jr r⟩
theorem Jy{kvs:LKz}(ok:HOk P w H h)(e:Rd H a (.dT kvs)):kvs.length<=sizeLine/\(a==sysModules)=false /\
  ∃xs,KT H kvs xs/\h.DictOfH (tupleKind (AW P w)) a xs:=by
 obtain⟨z,y,xs,r,o,es,ep,h1,h2,h3,h4,h5⟩:=(show ObjOk P w H h a (.dT kvs) from R6 ok e);refine⟨z,y,xs,r,o,es,ep,h1,h2,h3,h4,λ x hx=>?_,h5⟩;have all:∀{l:LKz}{m:List (List Key×Addr×Value)},KT H l m->∀x∈m,(tupleKind (AW P w)).is h x.1 x.2.1:=by
  intro l m q
  induction q with
  |nil=>intro x hx;exact nomatch hx
  |@cons p q ps qs hq t ih =>
   intro x hx;rcases List.mem_cons.mp hx with e|hx
   .subst e;exact GY ok (by rw[<-hq.1];exact hq.2.1)
   .exact ih x hx
 exact all r x hx
theorem TJ{kvs:LKz}(ok:HOk P w H h)(e:H a=some (.dT kvs)):kvs.length<=sizeLine/\(a==sysModules)=false /\
  ∃xs,KT H kvs xs/\h.DictOfH (tupleKind (AW P w)) a xs:=Jy ok (.inl e)
end
def DGet(H:Hp)(a:Addr)(y:V)(r:Option V):Prop :=
 (∃kvs k,Rd H a (.dK kvs)/\y=kV k/\r=Bd kvs k)\/∃kvs k b,Rd H a (.dT kvs)/\y=.ref b/\H b=some (.tup (k.map kV))/\r=Bd kvs k
def DPut(H:Hp)(a:Addr)(y v:V)(H':Hp):Prop :=
 (∃kvs k,H a=some (.dK kvs)/\y=kV k/\kvs.length<sizeLine/\H'=upd H a (.dK (El kvs k v))) \/
 ∃kvs k b,H a=some (.dT kvs)/\y=.ref b/\H b=some (.tup (k.map kV))/\kvs.length<sizeLine/\H'=upd H a (.dT (El kvs k v))
theorem DGet.t{H:Hp}{a b:Addr}{kvs:LKz}{k:List Key}(e:H a=some (.dT kvs))(eb:H b=some (.tup (k.map kV))):DGet H a (.ref b) (Bd kvs k):=.inr ⟨kvs,k,b,.inl e,rfl,eb,rfl⟩
theorem DPut.t{H:Hp}{a b:Addr}{kvs:LKz}{k:List Key}{v:V}(e:H a=some (.dT kvs))(eb:H b=some (.tup (k.map kV)))(hl:kvs.length<sizeLine) :
  DPut H a (.ref b) v (upd H a (.dT (El kvs k v))):=.inr ⟨kvs,k,b,e,rfl,eb,hl,rfl⟩
section
variable{X:Cx}{pins:PNz}{σ:St}{H:Hp}{s:Shared}{a:Addr}{y v:V}{u r:Value}{o:Option V}{A:Around}{E:VPz}
theorem Inv.big(I:Inv X pins σ H s):sysModules<s.heap.objs.size:=by
 have h:mainGlobals<s.heap.objs.size:=(I.mod.glob.keeps I.bk).lt;exact Nat.lt_trans (by decide) h
theorem O1{Q:VPz}(hu:A.units+1<cLine)(I:Inv X pins σ H s)(g:DGet H a y (some v))(ry:RelV y u)(h:∀w' s',Inv X pins σ H s'->RelV v w'->Q w' s') :
  wpAny (model X.prog X.w) A (getItem (.ref a) u) Q E s:=by
 rcases g with ⟨kvs,k,e,ey,l⟩|⟨kvs,k,b,e,ey,eb,l⟩
 .subst ey;obtain⟨z,hd,vs,rel,dd⟩:=J0 I.hok e;obtain⟨w',hw,rw'⟩:=RelO.some_of (v:=v) (o:=valueAt vs k) (by rw[l];exact rel.val k);exact wpAny_getItem_of (L1 ry) dd.mapOf hw (h w' _ (I.tok _) rw')
 .subst ey;cases(show u=Value.ref b from ry);obtain⟨z,hd,xs,rel,dd⟩:=Jy I.hok e;obtain⟨w',hw,rw'⟩:=RelO.some_of (v:=v) (o:=(atKey xs k).map (·.2)) (by rw[l];exact rel.val k);obtain⟨p,hp,hp2⟩:=Option.map_eq_some_iff.mp hw;refine wpAny_getItem_heap (tupleKind_room_in1 hu) (GY I.hok eb) dd hp ?_;rw[hp2];exact h w' _ (I.tok _) rw'
theorem U5{Q:VPz}(hu:A.units+1<cLine)(I:Inv X pins σ H s)(g:DGet H a y o)(ry:RelV y u)(h:∀s',Inv X pins σ H s'->Q (.bool o.isSome) s') :
  wpAny (model X.prog X.w) A (compareOp .In u (.ref a)) Q E s:=by
 rcases g with ⟨kvs,k,e,ey,l⟩|⟨kvs,k,b,e,ey,eb,l⟩
 .subst ey;obtain⟨z,hd,vs,rel,dd⟩:=J0 I.hok e;refine wpAny_in_of (L1 ry) hd dd.mapOf ?_;rw[<-(rel.val k).isSome_eq,<-l];exact h _ (I.tok _)
 .subst ey;cases(show u=Value.ref b from ry);obtain⟨z,hd,xs,rel,dd⟩:=Jy I.hok e;refine wpAny_in_heap (tupleKind_room_in1 hu) (GY I.hok eb) hd dd ?_;have q:=(rel.val k).isSome_eq;rw[Option.isSome_map]at q;rw[<-q,<-l];exact h _ (I.tok _)
theorem Ru{Q:VPz}(hu:A.units+1<cLine)(I:Inv X pins σ H s)(g:DGet H a y o)(ry:RelV y u)(h:∀s',Inv X pins σ H s'->Q (.bool (!o.isSome)) s') :
  wpAny (model X.prog X.w) A (compareOp .NotIn u (.ref a)) Q E s:=by
 rcases g with ⟨kvs,k,e,ey,l⟩|⟨kvs,k,b,e,ey,eb,l⟩
 .subst ey;obtain⟨z,hd,vs,rel,dd⟩:=J0 I.hok e;refine wpAny_notIn_of (L1 ry) hd dd.mapOf ?_;rw[<-(rel.val k).isSome_eq,<-l];exact h _ (I.tok _)
 .subst ey;cases(show u=Value.ref b from ry);obtain⟨z,hd,xs,rel,dd⟩:=Jy I.hok e;refine wpAny_notIn_heap (tupleKind_room_in1 hu) (GY I.hok eb) hd dd ?_;have q:=(rel.val k).isSome_eq;rw[Option.isSome_map]at q;rw[<-q,<-l];exact h _ (I.tok _)
theorem ND{h':Heap}{t':Nat}{ob:HO}(I:Inv X pins σ H s)(mu:Mut (H a))(hs:Heap.SameBut a s.heap h')(he:∃q,h'.get? a=some q)(new:ObjOk X.prog X.w (upd H a ob) h' a ob) :
  Inv X pins σ (upd H a ob) { s with heap:=h',toks:=t' } :=
 I.write (x:=a) (e:=a) mu (.inl rfl) (λ b q hb z=>(hs.2 b hb).trans z) he new
theorem SM{P:Program}{w:World}{H':Hp}{h':Heap}{kvs:List (Key×V)}{vs:List (Key×Value)}(z:kvs.length<=sizeLine)(hd:(a==sysModules)=false)(rel:KV kvs vs)(dd:h'.DictOf (AW P w) a vs) :
  ObjOk P w H' h' a (.dK kvs):=⟨z,hd,vs,rel,dd⟩
theorem O0{H':Hp}{Q:Unit->Shared->Prop}(hu:A.units+1<cLine)(I:Inv X pins σ H s)(g:DPut H a y v H')(ry:RelV y u)(rv:RelV v r)(h:∀s',Inv X pins σ H' s'->Q () s') :
  wpAny (model X.prog X.w) A (setItem (.ref a) u r) Q E s:=by
 rcases g with ⟨kvs,k,e,ey,l,eH⟩|⟨kvs,k,b,e,ey,eb,l,eH⟩
 .subst ey eH;obtain⟨z,hd,vs,rel,dd⟩:=TK I.hok e;have hz:vs.length<=sizeLine:=by rw[<-rel.length];exact z
  have hl:(El kvs k v).length<=sizeLine:=by have:=D8 kvs k v;lia
  refine wpAny_setItem_pairs (hsz:=hz) (L1 ry) dd λ h' dd' hs=>h _ ?_;have he:∃q,h'.get? a=some q:=let ⟨q,_,_,hq,_⟩:=dd';⟨q,hq⟩;exact ND I (by rw[e];exact True.intro) hs he (SM hl hd (rel.put k rv) dd')
 .subst ey eH;cases(show u=Value.ref b from ry);obtain⟨z,hd,xs,rel,dd⟩:=TJ I.hok e;have hz:xs.length<=sizeLine:=by rw[<-Paired.length rel];exact z
  have hl:(El kvs k v).length<=sizeLine:=by have:=D8 kvs k v;lia
  refine wpAny_setItem_heap (hsz:=hz) (tupleKind_room_in1 hu) (GY I.hok eb) dd λ h' dd' hs=>h _ ?_;obtain⟨q,es,ep,hq,h2,h3,h4,_,h5⟩:=dd';refine ND I (by rw[e];exact True.intro) hs ⟨q,hq⟩ ⟨hl,hd,_,(rel.put k eb rv).keeps λ c ys ec=>?_,q,es,ep,hq,h2,h3,h4,h5⟩;rw[Ai (CT ec e (λ z=>nomatch z))];exact ec
end
def TY(i:Expr):Prop:=∀ov iv,subscripted i false ov iv=operate [ov,iv] (getItem ov iv)
theorem QA{prog:Program}{w:World}{A:Around}{E:VPz}{s:Shared}{env:Env}{value slice:Expr}{pos:Pos}{T id:String}{Q:VPz}
  (hl:typeLookup (.type T) "__getitem__"=pure (some (.builtin id))) (hs:TY slice)
  (h:wpAny (model prog w) A (eval value env) (λ o s₁=>wpAny (model prog w) A (eval slice env) (λ i s₂=>s₂.TypeIs o T/\wpAny (model prog w) A (getItem o i) Q E s₂) E s₁) E s) :
  wpAny (model prog w) A (eval (.Subscript value slice pos) env) Q E s:=by
 refine Subscript_ (wpAny_mono h (λ o s₁ h₁=>wpAny_mono h₁ (λ i s₂ h₂=>?_) λ_ _ x=>x) λ_ _ x=>x);obtain⟨hT,h₂⟩:=h₂;unfold subscriptTail;refine wpAny_bind ?_;rw[getitemInPython_of_ne hT.not_modules];refine wpAny_bind (wpAny_specialOf hT hl ?_);have fin:wpAny (model prog w) A (subscripted slice false o i) (λ r s₃=>wpAny (model prog w) A (letTemporaryGo value o r >>= λ_=>pure r) Q E s₃) E s₂:=by
  rw[hs o i];exact wpAny_operating (wpAny_mono h₂ (λ r s₃ h₃=>wpAny_bind (wpAny_letTemporaryGo (wpAny_pure h₃))) λ_ _ x=>x)
 first
  |exact wpAny_pure (wpAny_bind fin)
  |exact wpAny_bind (wpAny_pure (wpAny_bind fin))
  |exact wpAny_bind fin
theorem LD{X:Cx}{pins:PNz}{σ:St}{H:Hp}{s:Shared}{a:Addr}{y:V}{o:Option V}(I:Inv X pins σ H s)(g:DGet H a y o):s.TypeIs (.ref a) "dict":=by
 rcases g with ⟨kvs,k,e,_,_⟩|⟨kvs,k,b,e,_,_,_⟩
 .obtain⟨_,_,vs,_,dd⟩:=J0 I.hok e;exact dd.typeIs
 .obtain⟨_,_,xs,_,dd⟩:=Jy I.hok e;exact dd.typeIs
def Tf(td ty:TE):TE:=λ σ H Q=>td σ H λ x H1=>ty σ H1 λ y H2=>∃a v,x=.ref a/\DGet H2 a y (some v)/\Q v H2
def Um(ty td:TE):TE:=λ σ H Q=>ty σ H λ y H1=>td σ H1 λ x H2=>∃a o,x=.ref a/\DGet H2 a y o/\Q (.bl o.isSome) H2
def Q9(ty td:TE):TE:=λ σ H Q=>ty σ H λ y H1=>td σ H1 λ x H2=>∃a o,x=.ref a/\DGet H2 a y o/\Q (.bl (!o.isSome)) H2
def Tl(td ty tv:TE):TS:=λ D σ H=>tv σ H λ v H1=>td σ H1 λ x H2=>ty σ H2 λ y H3=>∃a H4,x=.ref a/\DPut H3 a y v H4/\D.nx σ H4
section
variable{X:Cx}{o i e value:Expr}{pos pos' tpos:Pos}{td ty tv:TE}
theorem Ny(hu:X.A.units+1<cLine)(ho:PE X o td)(hi:PE X i ty)(hs:TY i):PE X (.Subscript o i pos) (Tf td ty):=by
 intro pins s σ H Q I h;refine QA PySem.F.slot_dict_getitem.lookup hs (thn (ho pins s σ H _ I h) λ u s1 hz_=>?_);obtain⟨x,H1,I1,rx,q1⟩:=hz_;refine thn (hi pins s1 σ H1 _ I1 q1) λ iv s2 hz_=>?_;obtain⟨y,H2,I2,ry,a,v,ex,g,q2⟩:=hz_;subst ex;obtain rfl:u=Value.ref a:=rx;exact⟨LD I2 g,O1 hu I2 g ry λ w' s3 I3 rw'=>⟨v,H2,I3,rw',q2⟩⟩
theorem Pz(hu:X.A.units+1<cLine)(hi:PE X i ty)(ho:PE X o td):PC X .In i o (Um ty td):=by
 intro pins s σ H Q I h;refine thn (hi pins s σ H _ I h) λ iv s1 hz_=>?_;obtain⟨y,H1,I1,ry,q1⟩:=hz_;refine thn (ho pins s1 σ H1 _ I1 q1) λ u s2 hz_=>?_;obtain⟨x,H2,I2,rx,a,ov,ex,g,q2⟩:=hz_;subst ex;obtain rfl:u=Value.ref a:=rx;exact U5 hu I2 g ry λ s3 I3=>⟨.bl ov.isSome,H2,I3,rfl,q2⟩
theorem Oe(hu:X.A.units+1<cLine)(hi:PE X i ty)(ho:PE X o td):PC X .NotIn i o (Q9 ty td):=by
 intro pins s σ H Q I h;refine thn (hi pins s σ H _ I h) λ iv s1 hz_=>?_;obtain⟨y,H1,I1,ry,q1⟩:=hz_;refine thn (ho pins s1 σ H1 _ I1 q1) λ u s2 hz_=>?_;obtain⟨x,H2,I2,rx,a,ov,ex,g,q2⟩:=hz_;subst ex;obtain rfl:u=Value.ref a:=rx;exact Ru hu I2 g ry λ s3 I3=>⟨.bl (!ov.isSome),H2,I3,rfl,q2⟩
theorem Nw(hu:X.A.units+1<cLine)(ho:PE X o td)(hi:PE X i ty)(hv:PE X value tv)(hs:swapsWith value (some (.Subscript o i pos')) pos.line X.env=pure false) :
  PS X (.Assign [.Subscript o i pos'] value pos) (Tl td ty tv):=by
 intro pins s σ H D I h;refine wpAny_Assign_Subscript (thn (hv pins s σ H _ I h) λ r s1 hz_=>?_) hs;obtain⟨v,H1,I1,rv,q1⟩:=hz_;refine thn (ho pins s1 σ H1 _ I1 q1) λ u s2 hz_=>?_;obtain⟨x,H2,I2,rx,q2⟩:=hz_;refine thn (hi pins s2 σ H2 _ I2 q2) λ iv s3 hz_=>?_;obtain⟨y,H3,I3,ry,a,H4,ex,g,q3⟩:=hz_;subst ex;obtain rfl:u=Value.ref a:=rx;exact O0 hu I3 g ry rv λ s4 I4=>⟨σ,H4,I4,q3⟩
end
theorem PZ{P:Program}{w:World}{H:Hp}(h:Heap)(hb:sysModules<h.objs.size):ObjOk P w H (h.push { cls:=.type "dict",data:=.dict #[] }) h.objs.size (.dT []) :=
 ⟨Nat.zero_le _,beq_eq_false_iff_ne.mpr (Ne.symm (Nat.ne_of_lt hb)),[],.nil,_,#[],0,Heap.get?_push_size _ rfl,⟨rfl,rfl,rfl⟩,rfl,rfl,List.nodup_nil⟩
def RV:TE:=λ_ H Q=>∀p,H p=none->Q (.ref p) (upd H p (.dT []))
section
variable{X:Cx}{pos:Pos}
theorem Lh:PE X (.Dict [] [] pos) RV:=λ pins s σ H Q I h =>
 wpAny_Dict_empty ⟨.ref s.heap.objs.size,_,I.laid (a:=s.heap.objs.size) (o:=.dT []) (t':=s.toks) (λ_ _ q=>Heap.get?_push_of_some _ q) (Nat.le_refl _) (PZ s.heap I.big),rfl,h _ (I.hok.fresh (Nat.le_refl _))⟩
end
structure M2(X:Cx)(o:Expr)(m:Str)(apos:Pos)(e f:Expr)(cpos:Pos):Prop where
 base:attributeBase o m X.env (eval o X.env)=eval o X.env
 few:((backTo cpos (starEach [e,f] X.env)).all (λ x=>!x.1)&&(backToKw cpos (keywordEach [] X.env)).all (λ x=>x.1.isSome)
 &&decide (([e,f]:List Expr).length+([]:List Keyword).length+(if ([]:List Keyword).isEmpty then 0 else 1)<30))=true
 line:(apos.endLine==cpos.line)=true
 trees:backTo cpos (starEach [e,f] X.env)=[(false,eval e X.env),(false,eval f X.env)]
def IsD(H:Hp)(a:Addr):Prop:=(∃kvs,Rd H a (.dK kvs))\/∃kvs,Rd H a (.dT kvs)
theorem SA{X:Cx}{pins:PNz}{σ:St}{H:Hp}{s:Shared}{a:Addr}(I:Inv X pins σ H s)(d:IsD H a) :
  s.TypeIs (.ref a) "dict"/\(∀b,Value.ref a=.ref b->∃ob,s.heap.get? b=some ob/\ob.dict=none)/\(a==sysModules)=false:=by
 rcases d with ⟨kvs,e⟩|⟨kvs,e⟩
 .obtain⟨_,hd,vs,_,dd⟩:=J0 I.hok e;refine⟨dd.typeIs,λ b q=>?_,hd⟩;cases q;obtain⟨ob,_,_,h1,h2,_⟩:=dd;exact⟨ob,h1,h2.2.1⟩
 .obtain⟨_,hd,xs,_,dd⟩:=Jy I.hok e;refine⟨dd.typeIs,λ b q=>?_,hd⟩;cases q;obtain⟨ob,_,_,h1,h2,_⟩:=dd;exact⟨ob,h1,h2.2.1⟩
def Ite(K:Frag)(a:Addr):It :=
 ⟨λ i H=>∃xs x,SqL K H a xs/\xs[i]?=some x,λ i H y H'=>∃t x,(∀xs,SqL K H a xs->xs[i]?=some x)/\y=.ref t/\H t=none/\H'=upd H t (.tup [.int i,x]),λ i H=>∃xs,SqL K H a xs/\xs.length<=i⟩
theorem Oy{X:Cx}{pins:PNz}{σ:St}{H:Hp}{s:Shared}{h':Heap}{e it:Addr}{t':Nat}{ys:LUz}(I:Inv X pins σ H s)(fe:Ew X pins H e)(fi:Ew X pins H it)
  (k:∀b o,b≠e->b≠it->s.heap.get? b=some o->h'.get? b=some o) (he:∃o,h'.get? e=some o) (hi:∃o,h'.get? it=some o)
  (new:ObjOk X.prog X.w (upd H s.heap.objs.size (.tup ys)) h' s.heap.objs.size (.tup ys)) :
  Inv X pins σ (upd H s.heap.objs.size (.tup ys)) { s with heap:=h',toks:=t' }:=by
 have hn:H s.heap.objs.size=none:=I.hok.fresh (Nat.le_refl _);obtain⟨e0,e1,e2,e3,e4,e5⟩:=fe;obtain⟨i0,i1,i2,i3,i4,i5⟩:=fi;have nt:∀b u,H b=some u->b≠e/\b≠it:=λ b u q=>⟨λ z=>(by rw[z,e0]at q;cases q),λ z=>(by rw[z,i0]at q;cases q)⟩;have nc:∀b,b∉[e,it]->b≠e/\b≠it:=λ b hb=>⟨λ z=>hb (by simp[z]),λ z=>hb (by simp[z])⟩;have ne:∀b u,H b=some u->b≠s.heap.objs.size:=λ b u q=>Af q hn;refine I.step (g':=s.gens) (d':=s.drawn) (ch:=[e,it]) (λ b hb=>?_) (λ b o _ _ hc q _=>k b o (nc b hc).1 (nc b hc).2 q) (λ b o _ _ hc q _=>⟨o.slots,k b o (nc b hc).1 (nc b hc).2 q⟩)
  (λ b o _ q n=>by rw[Ai (Nat.ne_of_lt (Heap.lt_size q))];exact n) (λ b o hc q=>⟨o,k b o (nc b hc).1 (nc b hc).2 q⟩) (λ b xs q=>by rw[Ai (ne b _ q)];exact q) (λ b o u q=>by rw[Ai (ne b _ q)];exact q)
  (λ b ps q=>⟨#[],by rw[Ai (ne b _ q),q];simp⟩) (λ m hm=>?_) (λ b u q=>?_) I.bare
 .rcases List.mem_cons.mp hb with rfl|hb
  .exact⟨e3,e1,e4,e5⟩
  .rw[List.mem_singleton.mp hb];exact⟨i3,i1,i4,i5⟩
 .obtain⟨o,es,ep,ho,r⟩:=hm;exact⟨o,es,ep,k _ o (Ne.symm e1) (Ne.symm i1) ho,r⟩
 .by_cases hb:b=s.heap.objs.size
  .subst hb;rw[Ac]at q;cases q;exact new
  .rw[Ai hb]at q;refine(I.hok b u q).stay (λ c v hc z=>k c v ?_ ?_ z) (λ c z=>by rw[Ai (ne c _ z)];exact z) λ c xs z=>by rw[Ai (ne c _ z)];exact z
   .rcases hc with rfl|hc
    .exact(nt c u q).1
    .exact(nt c _ hc).1
   .rcases hc with rfl|hc
    .exact(nt c u q).2
    .exact(nt c _ hc).2
theorem NT{P:Program}{w:World}{K:Frag}{es:List Expr}{k:Nat}{pos:Pos}(a e it:Addr)(hei:e≠it) :
  LH P w K (.Tuple es k pos) (Ite K a) [e,it] e (λ i h=>(∃old,IsEnum h e it i old)/\h.IsListIter it a i) where
 mem:=by simp
 obj:=λ i h st b hb=>by
  obtain⟨⟨old,he⟩,⟨o,eo,c,d⟩⟩:=st;rcases List.mem_cons.mp hb with rfl|hb
  .exact⟨_,he,λ v z=>by
    have z':Data.fields _=Data.cell v:=z;cases z'⟩
  .rw[List.mem_singleton.mp hb];exact⟨o,eo,λ v z=>by rw[d]at z;cases z⟩
 keep:=λ i h h' st kk=>by
  obtain⟨⟨old,he⟩,st⟩:=st;exact⟨⟨old,kk e (by simp) _ he⟩,st.at λ o z=>kk it (by simp) o z⟩
 item:=by
  intro X hP hw hK hc i pins s σ H E I hf st hg;subst hP hw hK;obtain⟨⟨old,he⟩,st⟩:=st;obtain⟨xs,x,hq,hx⟩:=hg;obtain⟨its,rv,p,hz⟩:=I.list hq;obtain⟨u,hu,ru⟩:=rv.get hx;have fe:=hf e (by simp);have fi:=hf it (by simp);refine wpAny_pyNext_enum_item he st p.isList (x:=u) (by simpa using hu) hei λ h' he' st' ht hz' kk=>?_;refine⟨_,rfl,?_⟩;have ltE:e<s.heap.objs.size:=Heap.lt_size he;have hn:H s.heap.objs.size=none:=I.hok.fresh (Nat.le_refl _);have I1:Inv X pins σ (upd H s.heap.objs.size (.tup [.int i,x])) { s with heap:=h',toks:=s.toks+1 }:=by
   refine Oy I fe fi kk ⟨_,he'⟩ (let ⟨o,eo,_⟩:=st';⟨o,eo⟩) ⟨?_,[.int i s.toks,u],.cons ⟨_,rfl⟩ (.cons ru .nil),⟨_,ht,rfl,_,rfl⟩⟩;show 2<=sizeLine;decide
  refine wpAny_letOwnedTupleGo_enum (s:={ s with heap:=h',toks:=s.toks+1 }) he' λ h2 he2 sb=>?_;have neE:e≠s.heap.objs.size:=Nat.ne_of_lt ltE;have fe2:(upd H s.heap.objs.size (.tup [.int i,x])) e=none:=by rw[Ai neE];exact fe.1
  have I2:Inv X pins σ (upd H s.heap.objs.size (.tup [.int i,x])) { ({ s with heap:=h',toks:=s.toks+1 }:Shared) with heap:=h2,toks:=s.toks+1 } :=
   I1.turned (t':=s.toks+1) (it:=e) (λ b o hb z=>(sb.2 b hb).trans z) fe2 fe.2.1 fe.2.2.2.1 fe.2.2.2.2.1 fe.2.2.2.2.2
  obtain⟨oi,hoi,_⟩:=id st;have ltI:it<s.heap.objs.size:=Heap.lt_size hoi;refine⟨.ref s.heap.objs.size,_,I2,rfl,⟨_,x,λ ys hy=>by rw[I.list_inj hy hq];exact hx,rfl,hn,rfl⟩,⟨⟨u,?_⟩,?_⟩,λ b hb=>?_⟩
  .have e1:((i+1:Nat):Int)=(i:Int)+1:=by push_cast;rfl
   rw[e1];exact he2
  .exact st'.at λ o z=>(sb.2 it (Ne.symm hei)).trans z
  .rcases List.mem_cons.mp hb with rfl|hb
   .exact fe2
   .rw[List.mem_singleton.mp hb,Ai (Nat.ne_of_lt ltI)];exact fi.1
 done:=by
  intro X hP hw hK hc i pins s σ H E I hf st hg;subst hP hw hK;obtain⟨⟨old,he⟩,st⟩:=st;obtain⟨xs,hq,hx⟩:=hg;obtain⟨its,rv,p,hz⟩:=I.list hq;obtain⟨f0,f1,f2,f3,f4,f5⟩:=hf it (by simp);have hl:=rv.length;exact wpAny_pyNext_enum_end (I.ok.hd hc) he st p.isList (by simp;lia) λ h' eb=>⟨rfl,I.turned (t':=s.toks) (λ b o hb z=>eb b o hb z) f0 f1 f3 f4 f5⟩
 self:=λ_ _ _ _ _ st h=>by
  obtain⟨⟨old,he⟩,_⟩:=st;exact wpAny_pyIter_enum he h
def TC(K:Frag)(ta:TA):TI:=λ σ H R=>ta σ H λ vs H1=>∃a,vs=[.ref a]/\(∃xs,SqL K H1 a xs)/\R (Ite K a) H1
section
variable{X:Cx}
theorem JY{a:Expr}{es:List Expr}{k:Nat}{tpos:Pos}{ta:TA}{p pos:Pos}(hg:Gl X "enumerate")(hm:X.mg "enumerate"=none)(ha:PA X [a] ta)(hs:starEach [a] X.env=[(false,eval a X.env)]:=by rfl) :
  PI X (.Tuple es k tpos) (.Call (.Name "enumerate" p) [a] [] pos) (TC X.K ta):=by
 intro pins s σ H R I h;refine Call_ (D9 I hg hm boot_enumerate (PyProof.Rows.callWith_type1 (thn (ha pos pins s σ H _ I h) λ us s1 hz_=>?_) hs rfl));obtain⟨vs,H1,I1,r1,q1⟩:=hz_;obtain⟨b,e,⟨xs,hq⟩,q⟩:=q1;subst e;cases r1 with
 |cons r rr =>
  cases rr;cases r;obtain⟨its,rv,pl,hz⟩:=I1.list hq;refine call_enumerate_list pl.isList λ h' he hit hsz hk=>?_;have I2:Inv X pins σ H1 { s1 with heap:=h' }:=I1.kept (t':=s1.toks) hk;refine wpAny_pyIter_enum (s:={ s1 with heap:=h' }) he ?_;refine⟨s1.heap.objs.size+1,[s1.heap.objs.size+1,s1.heap.objs.size],_,_,H1,rfl,I2,NT b _ _ (Nat.succ_ne_self _),⟨⟨_,he⟩,hit⟩,λ c hc=>?_,q⟩;rcases List.mem_cons.mp hc with rfl|hc
  .exact I1.fpOk (Nat.le_succ _) (I1.hok.fresh (Nat.le_succ _))
  .rw[List.mem_singleton.mp hc];exact I1.fpOk (Nat.le_refl _) (I1.hok.fresh (Nat.le_refl _))
end
theorem Hl{K:Frag}{a:Addr}{xs:LUz}{g:TG}{tb:TS}{D:IL}{σ:St}{H:Hp}(Pv:Nat->St->Hp->Prop)(h0:Pv 0 σ H)(hl:∀i σ H,i<=xs.length->Pv i σ H->SqL K H a xs)
  (hs:∀i x σ H t,xs[i]?=some x->Pv i σ H->H t=none->g (.ref t) σ (upd H t (.tup [.int i,x])) λ σ2 H2=>tb { D with nx:=Pv (i+1),ct:=Pv (i+1),bk:=D.nx } σ2 H2) (hd:∀σ H,Pv xs.length σ H->D.nx σ H) :
  ∃W:Nat->Nat->St->Hp->Prop,(∃m,W 0 m σ H)/\∀i m σ H,W i m σ H ->
   ((Ite K a).stop i H/\D.nx σ H)\/((Ite K a).go i H/\∃N:St->Hp->Prop,(∀σ' H',N σ' H'->∃m',m'<m/\W (i+1) m' σ' H')/\∀x H',(Ite K a).yld i H x H'->g x σ H' λ σ2 H2=>tb { D with nx:=N,ct:=N,bk:=D.nx } σ2 H2):=by
 refine⟨λ i m σ H=>m=xs.length-i/\i<=xs.length/\Pv i σ H,⟨xs.length,by simp,Nat.zero_le _,h0⟩,?_⟩;rintro i m σ H ⟨rfl,hi,p⟩;have q:=hl i σ H hi p;by_cases hlt:i<xs.length
 .refine .inr ⟨⟨xs,xs[i],q,by simp[hlt]⟩,Pv (i+1),λ σ' H' p'=>⟨xs.length-(i+1),by lia,rfl,hlt,p'⟩,λ x H' y=>?_⟩;obtain⟨t,z,hz,rfl,ht,rfl⟩:=y;exact hs i z σ H t (hz xs q) p ht
 .have e:i=xs.length:=by lia
  subst e;exact .inl ⟨⟨xs,q,Nat.le_refl _⟩,hd σ H p⟩
open PySem.SeqAt
mutual
inductive D where
 |at (v:V)
 |tup (xs:Ds)
 |lst (xs:Ds)
inductive Ds where
 |nil
 |cons (d:D) (r:Ds)
end
mutual
def DIs(K:Frag)(H:Hp):D->V->Prop
 |.at u,v=>v=u/\EG u=true
 |.tup ds,v=>∃a xs,v=.ref a/\SqT K H a xs/\DIss K H ds xs
 |.lst ds,v=>∃a xs,v=.ref a/\SqL K H a xs/\DIss K H ds xs
def DIss(K:Frag)(H:Hp):Ds->LUz->Prop
 |.nil,xs=>xs=[]
 |.cons d r,xs=>∃x ys,xs=x::ys/\DIs K H d x/\DIss K H r ys
end
mutual
def dep:D->Nat
 |.at _=>0
 |.tup ds=>BL ds+1
 |.lst ds=>BL ds+1
def BL:Ds->Nat
 |.nil=>0
 |.cons d r=>max (dep d) (BL r)
end
mutual
def deq:D->D->Bool
 |.at u,.at v=>eqV u v
 |.tup xs,.tup ys=>BM xs ys
 |.lst xs,.lst ys=>BM xs ys
 |_,_=>false
def BM:Ds->Ds->Bool
 |.nil,.nil=>true
 |.cons d r,.cons e q=>deq d e&&BM r q
 |_,_=>false
end
def Ds.len:Ds->Nat
 |.nil=>0
 |.cons _ r=>r.len+1
def Ds.get:Ds->Nat->D
 |.nil,_=>.at .non
 |.cons d _,0=>d
 |.cons _ r,i+1=>r.get i
theorem BK:∀(ds es:Ds),((List.range (min ds.len es.len)).all (λ j=>deq (ds.get j) (es.get j))&&ds.len==es.len)=BM ds es
 |.nil,.nil=>rfl
 |.nil,.cons e q=>by simp[Ds.len,BM]
 |.cons d r,.nil=>by simp[Ds.len,BM]
 |.cons d r,.cons e q=>by
  have ih:=BK r q;rw[show BM (.cons d r) (.cons e q)=(deq d e&&BM r q) from by rw[BM],<-ih];show((List.range (min (r.len+1) (q.len+1))).all _&&(r.len+1==q.len+1))=_;rw[show min (r.len+1) (q.len+1)=min r.len q.len+1 by lia,List.range_succ_eq_map,List.all_cons,List.all_map,Bool.and_assoc];congr 1;rw[show(r.len+1==q.len+1)=(r.len==q.len) by simp];rfl
mutual
theorem CV:∀{K:Frag}{H:Hp}(d:D){v:V},DIs K H d v->deq d d=true
 |_,_,.at u,v,h=>by
  obtain⟨_,hf⟩:=(show v=u/\EG u=true by simpa [DIs] using h);rw[deq];cases u<;>simp_all [EG,eqV]
 |_,_,.tup ds,v,h=>by
  rw[DIs]at h;obtain⟨a,xs,_,_,q⟩:=h;rw[deq];exact Fs ds q
 |_,_,.lst ds,v,h=>by
  rw[DIs]at h;obtain⟨a,xs,_,_,q⟩:=h;rw[deq];exact Fs ds q
theorem Fs:∀{K:Frag}{H:Hp}(ds:Ds){xs:LUz},DIss K H ds xs->BM ds ds=true
 |_,_,.nil,_,_=>by rw[BM]
 |_,_,.cons d r,xs,h=>by
  rw[DIss]at h;obtain⟨x,ys,_,h1,h2⟩:=h;rw[BM,CV d h1,Fs r h2];rfl
end
theorem DIss.len{K:Frag}{H:Hp}:∀{ds:Ds}{xs:LUz},DIss K H ds xs->ds.len=xs.length
 |.nil,xs,h=>by rw[DIss]at h;rw[h];rfl
 |.cons d r,xs,h=>by
  rw[DIss]at h;obtain⟨x,ys,rfl,_,h2⟩:=h;show r.len+1=ys.length+1;rw[DIss.len h2]
theorem DIss.get{K:Frag}{H:Hp}:∀{ds:Ds}{xs:LUz}{i:Nat}{x:V},DIss K H ds xs->xs[i]?=some x->DIs K H (ds.get i) x
 |.nil,xs,i,x,h,e=>by rw[DIss]at h;rw[h]at e;simp at e
 |.cons d r,xs,i,x,h,e=>by
  rw[DIss]at h;obtain⟨y,ys,rfl,h1,h2⟩:=h;cases i with
  |zero=>simp at e;subst e;exact h1
  |succ i =>
   show DIs K H (r.get i) x;exact DIss.get h2 (by simpa using e)
theorem Gg:∀(ds:Ds)(i:Nat),i<ds.len->dep (ds.get i)<=BL ds
 |.nil,i,h=>absurd h (by simp[Ds.len])
 |.cons d r,0,_=>by show dep d<=_;rw[BL];lia
 |.cons d r,i+1,h=>by
  have:=Gg r i (by simpa [Ds.len] using h);show dep (r.get i)<=_;rw[BL];lia
section
variable{X:Cx}{pins:PNz}{σ:St}{H:Hp}{s:Shared}
mutual
theorem DIs.inj(I:Inv X pins σ H s):∀{d e:D}{v:V},DIs X.K H d v->DIs X.K H e v->d=e
 |.at u,.at w',v,h,h'=>by
  rw[DIs]at h;rw[DIs]at h';rw[<-h.1,<-h'.1]
 |.at u,.tup ds,v,h,h'=>by
  rw[DIs]at h;rw[DIs]at h';obtain⟨a,xs,e,_⟩:=h';have:=h.2;rw[<-h.1,e]at this;cases this
 |.at u,.lst ds,v,h,h'=>by
  rw[DIs]at h;rw[DIs]at h';obtain⟨a,xs,e,_⟩:=h';have:=h.2;rw[<-h.1,e]at this;cases this
 |.tup ds,.at u,v,h',h=>by
  rw[DIs]at h;rw[DIs]at h';obtain⟨a,xs,e,_⟩:=h';have:=h.2;rw[<-h.1,e]at this;cases this
 |.lst ds,.at u,v,h',h=>by
  rw[DIs]at h;rw[DIs]at h';obtain⟨a,xs,e,_⟩:=h';have:=h.2;rw[<-h.1,e]at this;cases this
 |.tup ds,.tup es,v,h,h'=>by
  rw[DIs]at h;rw[DIs]at h';obtain⟨a,xs,rfl,h1,h2⟩:=h;obtain⟨b,ys,e,k1,k2⟩:=h';cases e;have e:=I.tuple_inj h1 k1;subst e;rw[DIss.inj I h2 k2]
 |.lst ds,.lst es,v,h,h'=>by
  rw[DIs]at h;rw[DIs]at h';obtain⟨a,xs,rfl,h1,h2⟩:=h;obtain⟨b,ys,e,k1,k2⟩:=h';cases e;have e:=I.list_inj h1 k1;subst e;rw[DIss.inj I h2 k2]
 |.tup ds,.lst es,v,h,h'=>by
  rw[DIs]at h;rw[DIs]at h';obtain⟨a,xs,rfl,h1,h2⟩:=h;obtain⟨b,ys,e,k1,k2⟩:=h';cases e;obtain⟨_,_,t1,_⟩:=I.tuple h1;obtain⟨_,_,t2,_⟩:=I.list k1;exact absurd rfl (ne_of_list_tuple t2.isList (show s.heap.IsTuple a _ from t1))
 |.lst ds,.tup es,v,h,h'=>by
  rw[DIs]at h;rw[DIs]at h';obtain⟨a,xs,rfl,h1,h2⟩:=h;obtain⟨b,ys,e,k1,k2⟩:=h';cases e;obtain⟨_,_,t1,_⟩:=I.tuple k1;obtain⟨_,_,t2,_⟩:=I.list h1;exact absurd rfl (ne_of_list_tuple t2.isList (show s.heap.IsTuple a _ from t1))
theorem DIss.inj(I:Inv X pins σ H s):∀{ds es:Ds}{xs:LUz},DIss X.K H ds xs->DIss X.K H es xs->ds=es
 |.nil,.nil,xs,h,h'=>rfl
 |.nil,.cons d r,xs,h,h'=>by
  rw[DIss]at h;rw[DIss]at h';obtain⟨x,ys,e,_⟩:=h';rw[h]at e;cases e
 |.cons d r,.nil,xs,h',h=>by
  rw[DIss]at h;rw[DIss]at h';obtain⟨x,ys,e,_⟩:=h';rw[h]at e;cases e
 |.cons d r,.cons e q,xs,h,h'=>by
  rw[DIss]at h;rw[DIss]at h';obtain⟨x,ys,rfl,h1,h2⟩:=h;obtain⟨y,zs,e',k1,k2⟩:=h';cases e';rw[DIs.inj I h1 k1,DIss.inj I h2 k2]
end
theorem Ho{A:Around}{u:V}{x:Value}{l:Addr}{items:Array Value}(r:RelV u x)(f:EG u=true)(hl:s.heap.IsTuple l items)(hu:A.units<cLine):EqAt A s x (.ref l) false/\EqAt A s (.ref l) x false:=by
 cases u with
 |non=>cases r;exact⟨.none_tuple hl hu,.tuple_none hl hu⟩
 |bl b=>cases r;exact⟨.bool_tuple b hl hu,.tuple_bool b hl hu⟩
 |int b=>obtain⟨t,rfl⟩:=r;exact⟨.int_tuple b t hl hu,.tuple_int b t hl hu⟩
 |str b=>obtain⟨t,rfl⟩:=r;exact⟨.str_tuple b t hl hu,.tuple_str b t hl hu⟩
 |_=>exact absurd (show false=true from f) Bool.false_ne_true
theorem Hq{A:Around}{u:V}{x:Value}{l:Addr}{items:Array Value}(r:RelV u x)(f:EG u=true)(hl:s.heap.IsList l items)(hu:A.units<cLine):EqAt A s x (.ref l) false/\EqAt A s (.ref l) x false:=by
 cases u with
 |non=>cases r;exact⟨.none_list hl hu,.list_none hl hu⟩
 |bl b=>cases r;exact⟨.bool_list b hl hu,.list_bool b hl hu⟩
 |int b=>obtain⟨t,rfl⟩:=r;exact⟨.int_list b t hl hu,.list_int b t hl hu⟩
 |str b=>obtain⟨t,rfl⟩:=r;exact⟨.str_list b t hl hu,.list_str b t hl hu⟩
 |_=>exact absurd (show false=true from f) Bool.false_ne_true
theorem SJ(I:Inv X pins σ H s):∀(n:Nat)(A:Around)(d e:D)(x y:V)(u v:Value),dep d<=n->DIs X.K H d x->DIs X.K H e y->RelV x u->RelV y v->A.units+n<cLine->EqAt A s u v (deq d e):=by
 intro n
 induction n with
 |zero =>
  intro A d e x y u v hn hd he rx ry hu;cases d with
  |tup ds=>rw[dep]at hn;lia
  |lst ds=>rw[dep]at hn;lia
  | «at» p =>
   rw[DIs]at hd;obtain⟨rfl,hf⟩:=hd;cases e with
   | «at» q =>
    rw[DIs]at he;obtain⟨rfl,hg⟩:=he;rw[deq];exact PY rx ry hf hg
   |tup es =>
    rw[DIs]at he;obtain⟨b,ys,rfl,h1,_⟩:=he;obtain⟨_,_,t,_⟩:=I.tuple h1;cases ry;rw[deq]
    .exact(Ho rx hf (show s.heap.IsTuple b _ from t) hu).1
    all_goals (intros;simp_all)
   |lst es =>
    rw[DIs]at he;obtain⟨b,ys,rfl,h1,_⟩:=he;obtain⟨_,_,t,_⟩:=I.list h1;cases ry;rw[deq]
    .exact(Hq rx hf t.isList hu).1
    all_goals (intros;simp_all)
 |succ n ih =>
  intro A d e x y u v hn hd he rx ry hu;have hu1:A.in1.units+n<cLine:=by show A.units+1+n<cLine;lia
  cases d with
  | «at» p =>
   rw[DIs]at hd;obtain⟨rfl,hf⟩:=hd;cases e with
   | «at» q =>
    rw[DIs]at he;obtain⟨rfl,hg⟩:=he;rw[deq];exact PY rx ry hf hg
   |tup es =>
    rw[DIs]at he;obtain⟨b,ys,rfl,h1,_⟩:=he;obtain⟨_,_,t,_⟩:=I.tuple h1;cases ry;rw[deq]
    .exact(Ho rx hf (show s.heap.IsTuple b _ from t) (by lia)).1
    all_goals (intros;simp_all)
   |lst es =>
    rw[DIs]at he;obtain⟨b,ys,rfl,h1,_⟩:=he;obtain⟨_,_,t,_⟩:=I.list h1;cases ry;rw[deq]
    .exact(Hq rx hf t.isList (by lia)).1
    all_goals (intros;simp_all)
  |tup ds =>
   have hd0:=hd;rw[dep]at hn;rw[DIs]at hd;obtain⟨a,xs,rfl,h1,h2⟩:=hd;obtain⟨i1,r1,t1,_⟩:=I.tuple h1;cases rx;cases e with
   | «at» q =>
    rw[DIs]at he;obtain⟨rfl,hg⟩:=he;rw[deq]
    .exact(Ho ry hg (show s.heap.IsTuple a _ from t1) (by lia)).2
    all_goals (intros;simp_all)
   |lst es =>
    rw[DIs]at he;obtain⟨b,ys,rfl,k1,_⟩:=he;obtain⟨_,_,t2,_⟩:=I.list k1;cases ry;rw[deq]
    .exact EqAt.tuple_list (show s.heap.IsTuple a _ from t1) t2.isList (by lia)
    all_goals (intros;simp_all)
   |tup es =>
    have he0:=he;rw[DIs]at he;obtain⟨b,ys,rfl,k1,k2⟩:=he;obtain⟨i2,r2,t2,_⟩:=I.tuple k1;cases ry;by_cases hab:a=b
    .subst hab;rw[DIs.inj I he0 hd0,CV _ hd0];exact EqAt.same _
    .refine EqAt.of_refs hab ?_;have:=RcAt.tuples (A:=A) (e:=λ j=>deq (ds.get j) (es.get j)) (show s.heap.IsTuple a i1.toArray from t1) (show s.heap.IsTuple b i2.toArray from t2) (by lia) λ j g1 g2=>?_
     .have l1:=r1.length;have l2:=r2.length;have m1:=h2.len;have m2:=k2.len;rw[List.size_toArray,List.size_toArray,<-l1,<-l2,<-m1,<-m2,BK]at this;rw[deq];exact this
     .have l1:=r1.length;have l2:=r2.length;have m1:=h2.len;have g1':j<xs.length:=by simp at g1;lia
      have g2':j<ys.length:=by simp at g2;lia
      obtain⟨u1,e1,q1⟩:=r1.get (List.getElem?_eq_getElem g1');obtain⟨u2,e2,q2⟩:=r2.get (List.getElem?_eq_getElem g2');have d1:i1.toArray[j]=u1:=by
       have:i1[j]?=some i1.toArray[j]:=by simp
       rw[e1]at this;exact(Option.some.inj this).symm
      have d2:i2.toArray[j]=u2:=by
       have:i2[j]?=some i2.toArray[j]:=by simp
       rw[e2]at this;exact(Option.some.inj this).symm
      rw[d1,d2];exact ih _ _ _ _ _ _ _ (Nat.le_trans (Gg ds j (by lia)) (by lia)) (h2.get (List.getElem?_eq_getElem g1')) (k2.get (List.getElem?_eq_getElem g2')) q1 q2 hu1
  |lst ds =>
   have hd0:=hd;rw[dep]at hn;rw[DIs]at hd;obtain⟨a,xs,rfl,h1,h2⟩:=hd;obtain⟨i1,r1,t1,_⟩:=I.list h1;cases rx;cases e with
   | «at» q =>
    rw[DIs]at he;obtain⟨rfl,hg⟩:=he;rw[deq]
    .exact(Hq ry hg t1.isList (by lia)).2
    all_goals (intros;simp_all)
   |tup es =>
    rw[DIs]at he;obtain⟨b,ys,rfl,k1,_⟩:=he;obtain⟨_,_,t2,_⟩:=I.tuple k1;cases ry;rw[deq]
    .exact EqAt.list_tuple t1.isList (show s.heap.IsTuple b _ from t2) (by lia)
    all_goals (intros;simp_all)
   |lst es =>
    have he0:=he;rw[DIs]at he;obtain⟨b,ys,rfl,k1,k2⟩:=he;obtain⟨i2,r2,t2,_⟩:=I.list k1;cases ry;by_cases hab:a=b
    .subst hab;rw[DIs.inj I he0 hd0,CV _ hd0];exact EqAt.same _
    .refine EqAt.of_refs hab ?_;have l1:=r1.length;have l2:=r2.length;have m1:=h2.len;have m2:=k2.len;rw[deq];rw[<-BK];by_cases hz:ds.len=es.len
     .have:=RcAt.lists (A:=A) (e:=λ j=>deq (ds.get j) (es.get j)) t1.isList t2.isList (by simp;lia) (by lia) λ j g1 g2=>?_
      .rw[List.size_toArray,<-l1,<-m1]at this;rw[hz,Nat.min_self,beq_self_eq_true,Bool.and_true,<-hz];exact this
      .have g1':j<xs.length:=by simp at g1;lia
       have g2':j<ys.length:=by simp at g2;lia
       obtain⟨u1,e1,q1⟩:=r1.get (List.getElem?_eq_getElem g1');obtain⟨u2,e2,q2⟩:=r2.get (List.getElem?_eq_getElem g2');have d1:i1.toArray[j]=u1:=by
        have:i1[j]?=some i1.toArray[j]:=by simp
        rw[e1]at this;exact(Option.some.inj this).symm
       have d2:i2.toArray[j]=u2:=by
        have:i2[j]?=some i2.toArray[j]:=by simp
        rw[e2]at this;exact(Option.some.inj this).symm
       rw[d1,d2];exact ih _ _ _ _ _ _ _ (Nat.le_trans (Gg ds j (by lia)) (by lia)) (h2.get (List.getElem?_eq_getElem g1')) (k2.get (List.getElem?_eq_getElem g2')) q1 q2 hu1
     .have e0:(ds.len==es.len)=false:=by simpa using hz
      rw[e0,Bool.and_false];exact RcAt.lists_lengths t1.isList t2.isList (by simp;lia) (by lia)
end
section
variable{X:Cx}
theorem Ge{pins:PNz}{σ:St}{H:Hp}{s:Shared}(I:Inv X pins σ H s){A:Around}{ds es:Ds}{xs ys:LUz}{i1 i2:LWz}(h2:DIss X.K H ds xs)(k2:DIss X.K H es ys)(r1:Vals xs i1)(r2:Vals ys i2)
  (hu:A.units+60<cLine) (hd:BL ds<=50):∀j (g1:j<i1.toArray.size) (g2:j<i2.toArray.size),EqAt A.in1 s i1.toArray[j] i2.toArray[j] (deq (ds.get j) (es.get j)):=λ j g1 g2=>by
 have l1:=r1.length;have l2:=r2.length;have m1:=h2.len;have g1':j<xs.length:=by simp at g1;lia
 have g2':j<ys.length:=by simp at g2;lia
 obtain⟨u1,e1,q1⟩:=r1.get (List.getElem?_eq_getElem g1');obtain⟨u2,e2,q2⟩:=r2.get (List.getElem?_eq_getElem g2');have d1:i1.toArray[j]=u1:=by
  have:i1[j]?=some i1.toArray[j]:=by simp
  rw[e1]at this;exact(Option.some.inj this).symm
 have d2:i2.toArray[j]=u2:=by
  have:i2[j]?=some i2.toArray[j]:=by simp
  rw[e2]at this;exact(Option.some.inj this).symm
 rw[d1,d2];exact SJ I 50 _ _ _ _ _ _ _ (Nat.le_trans (Gg ds j (by lia)) hd) (h2.get (List.getElem?_eq_getElem g1')) (k2.get (List.getElem?_eq_getElem g2')) q1 q2 (by show A.units+1+50<cLine;lia)
def Se(K:Frag)(neg:Bool):R2:=λ x y H Q=>∃d e,DIs K H d x/\DIs K H e y/\(∃a,x=.ref a)/\(∃b,y=.ref b)/\dep d<=50/\Q (.bl (if neg then !deq d e else deq d e)) H
theorem Kb{k:Nat}(hr:Room k X.A):OpR X (compareOp .Eq) (Se X.K false):=by
 intro pins s σ H x y v u Q I rx ry h;obtain⟨d,e,hd,he,⟨a,rfl⟩,⟨b,rfl⟩,hn,q⟩:=h;cases rx;cases ry;have hu:=hr.units;cases d with
 | «at» p=>rw[DIs]at hd;obtain⟨rfl,hf⟩:=hd;cases hf
 |tup ds =>
  rw[dep]at hn;rw[DIs]at hd;obtain⟨a',xs,e',h1,h2⟩:=hd;cases e';obtain⟨i1,r1,t1,_⟩:=I.tuple h1;cases e with
  | «at» p=>rw[DIs]at he;obtain⟨rfl,hf⟩:=he;cases hf
  |tup es =>
   rw[DIs]at he;obtain⟨b',ys,e',k1,k2⟩:=he;cases e';obtain⟨i2,r2,t2,_⟩:=I.tuple k1;refine RcAt.tuples (show s.heap.IsTuple a i1.toArray from t1) (show s.heap.IsTuple b i2.toArray from t2) (by lia) (Ge I h2 k2 r1 r2 (by lia) (by lia)) _ _ _ _ ⟨.bl _,H,I,?_,q⟩;show Value.bool _=Value.bool _;rw[List.size_toArray,List.size_toArray,<-r1.length,<-r2.length,<-h2.len,<-k2.len,BK];simp only[Bool.false_eq_true,if_false];rw[deq]
  |lst es =>
   rw[DIs]at he;obtain⟨b',ys,e',k1,k2⟩:=he;cases e';obtain⟨i2,r2,t2,_⟩:=I.list k1;refine RcAt.tuple_list (show s.heap.IsTuple a _ from t1) t2.isList (by lia) _ _ _ _ ⟨.bl _,H,I,?_,q⟩;show Value.bool _=Value.bool _;simp only[Bool.false_eq_true,if_false];rw[deq]<;>(intros;simp_all)
 |lst ds =>
  rw[dep]at hn;rw[DIs]at hd;obtain⟨a',xs,e',h1,h2⟩:=hd;cases e';obtain⟨i1,r1,t1,_⟩:=I.list h1;cases e with
  | «at» p=>rw[DIs]at he;obtain⟨rfl,hf⟩:=he;cases hf
  |tup es =>
   rw[DIs]at he;obtain⟨b',ys,e',k1,k2⟩:=he;cases e';obtain⟨i2,r2,t2,_⟩:=I.tuple k1;refine RcAt.list_tuple t1.isList (show s.heap.IsTuple b _ from t2) (by lia) _ _ _ _ ⟨.bl _,H,I,?_,q⟩;show Value.bool _=Value.bool _;simp only[Bool.false_eq_true,if_false];rw[deq]<;>(intros;simp_all)
  |lst es =>
   rw[DIs]at he;obtain⟨b',ys,e',k1,k2⟩:=he;cases e';obtain⟨i2,r2,t2,_⟩:=I.list k1;have l1:=r1.length;have l2:=r2.length;have m1:=h2.len;have m2:=k2.len;by_cases hz:ds.len=es.len
   .refine RcAt.lists t1.isList t2.isList (by simp;lia) (by lia) (Ge I h2 k2 r1 r2 (by lia) (by lia)) _ _ _ _ ⟨.bl _,H,I,?_,q⟩;show Value.bool _=Value.bool _;simp only[Bool.false_eq_true,if_false];rw[deq,<-BK,List.size_toArray,<-l1,<-m1,hz,Nat.min_self,beq_self_eq_true,Bool.and_true]
   .refine RcAt.lists_lengths t1.isList t2.isList (by simp;lia) (by lia) _ _ _ _ ⟨.bl _,H,I,?_,q⟩;show Value.bool _=Value.bool _;have e0:(ds.len==es.len)=false:=by simpa using hz
    simp only[Bool.false_eq_true,if_false];rw[deq,<-BK,e0,Bool.and_false]
theorem Mt{k:Nat}(hr:Room k X.A):OpR X (compareOp .NotEq) (Se X.K true):=by
 intro pins s σ H x y v u Q I rx ry h;obtain⟨d,e,hd,he,⟨a,rfl⟩,⟨b,rfl⟩,hn,q⟩:=h;cases rx;cases ry;have hu:=hr.units;cases d with
 | «at» p=>rw[DIs]at hd;obtain⟨rfl,hf⟩:=hd;cases hf
 |tup ds =>
  rw[dep]at hn;rw[DIs]at hd;obtain⟨a',xs,e',h1,h2⟩:=hd;cases e';obtain⟨i1,r1,t1,_⟩:=I.tuple h1;cases e with
  | «at» p=>rw[DIs]at he;obtain⟨rfl,hf⟩:=he;cases hf
  |tup es =>
   rw[DIs]at he;obtain⟨b',ys,e',k1,k2⟩:=he;cases e';obtain⟨i2,r2,t2,_⟩:=I.tuple k1;refine RcNeAt.tuples (show s.heap.IsTuple a i1.toArray from t1) (show s.heap.IsTuple b i2.toArray from t2) (by lia) (Ge I h2 k2 r1 r2 (by lia) (by lia)) _ _ _ _ ⟨.bl _,H,I,?_,q⟩;show Value.bool _=Value.bool _;rw[List.size_toArray,List.size_toArray,<-r1.length,<-r2.length,<-h2.len,<-k2.len,BK];simp only[if_true];rw[deq]
  |lst es =>
   rw[DIs]at he;obtain⟨b',ys,e',k1,k2⟩:=he;cases e';obtain⟨i2,r2,t2,_⟩:=I.list k1;refine RcNeAt.tuple_list (show s.heap.IsTuple a _ from t1) t2.isList (by lia) _ _ _ _ ⟨.bl _,H,I,?_,q⟩;show Value.bool _=Value.bool _;simp only[if_true];rw[deq]<;>first|rfl|(intros;simp_all)
 |lst ds =>
  rw[dep]at hn;rw[DIs]at hd;obtain⟨a',xs,e',h1,h2⟩:=hd;cases e';obtain⟨i1,r1,t1,_⟩:=I.list h1;cases e with
  | «at» p=>rw[DIs]at he;obtain⟨rfl,hf⟩:=he;cases hf
  |tup es =>
   rw[DIs]at he;obtain⟨b',ys,e',k1,k2⟩:=he;cases e';obtain⟨i2,r2,t2,_⟩:=I.tuple k1;refine RcNeAt.list_tuple t1.isList (show s.heap.IsTuple b _ from t2) (by lia) _ _ _ _ ⟨.bl _,H,I,?_,q⟩;show Value.bool _=Value.bool _;simp only[if_true];rw[deq]<;>first|rfl|(intros;simp_all)
  |lst es =>
   rw[DIs]at he;obtain⟨b',ys,e',k1,k2⟩:=he;cases e';obtain⟨i2,r2,t2,_⟩:=I.list k1;have l1:=r1.length;have l2:=r2.length;have m1:=h2.len;have m2:=k2.len;by_cases hz:ds.len=es.len
   .refine RcNeAt.lists t1.isList t2.isList (by simp;lia) (by lia) (Ge I h2 k2 r1 r2 (by lia) (by lia)) _ _ _ _ ⟨.bl _,H,I,?_,q⟩;show Value.bool _=Value.bool _;simp only[if_true];rw[deq,<-BK,List.size_toArray,<-l1,<-m1,hz,Nat.min_self,beq_self_eq_true,Bool.and_true]
   .refine RcNeAt.lists_lengths t1.isList t2.isList (by simp;lia) (by lia) _ _ _ _ ⟨.bl _,H,I,?_,q⟩;show Value.bool _=Value.bool _;have e0:(ds.len==es.len)=false:=by simpa using hz
    simp only[if_true];rw[deq,<-BK,e0,Bool.and_false];rfl
end
structure KF(P:Program)(w:World)(K:Frag)(mg:MGz)(base:Heap)(k:Nat)(x:Str)(C:Addr)(ps:LSz)(sp:Sp):Prop where
 ex:∃(f:Addr)(fd:FuncData),Mk K C f/\A9 P w K mg base CX0 k f fd ps sp/\mg x=some (.ref C)/\Binds K fd ps []
structure Fw(P:Program)(w:World)(K:Frag)(mg:MGz)(base:Heap)(k:Nat)(C:Addr)(m:Str)(ps:LSz)(sp:Sp):Prop where
 cl:Cls K C
 ex:∃(f:Addr)(fd:FuncData),R3 K C m f/\A9 P w K mg base CX0 k f fd ps sp/\Binds K fd ps []
section
variable{X:Cx}{k j:Nat}{x m:Str}{C:Addr}{ps:LSz}{sp:Sp}{p pos apos:Pos}{e o:Expr}{es:List Expr}{t:TA}{ta:TE}
theorem Jk(D:KF X.prog X.w X.K X.mg X.base k x C ps sp)(hr:Room j X.A)(ha:PA X (e::es) t)(hj:k+1<=j:=by decide)(hg:Gl X x:=by rfl)(hdb:(x==("__debug__":Str))=false:=by decide)
  (he:starEach (e::es) X.env=(false,eval e X.env)::starEach es X.env:=by rfl) (hpl:(backTo pos (starEach es X.env)).any (·.1)=false:=by rfl):PE X (.Call (.Name x p) (e::es) [] pos) (OT C sp [] E0 t):=by
 obtain⟨f,fd,M,F,hm,hb⟩:=D.ex;exact Nx M F (hr.mono hj) hg hm hb .nil GC ha hdb he hpl
theorem Tq{pl:Sem Bool}(D:Fw X.prog X.w X.K X.mg X.base k C m ps sp)(hr:Room j X.A)(he:PE X o ta)(ha:PA X (e::es) t)(hj:k<=j:=by decide)
    (hst:starEach (e::es) X.env=(false,eval e X.env)::starEach es X.env:=by rfl) (hpl:(backTo pos (starEach es X.env)).any (·.1)=false:=by rfl)
    (ht:eval (.Call (.Attribute o m apos) (e::es) [] pos) X.env=(do
      let ov <-eval o X.env
      standAt apos.atName
      let (f,first) <-holding [ov] (getMethod ov m pl)
      callWith pos f first (backTo pos (starEach (e::es) X.env)) (backToKw pos (keywordEach [] X.env))):=by rfl):PE X (.Call (.Attribute o m apos) (e::es) [] pos) (Nf C m sp [] E0 ta t):=by
  obtain⟨f,fd,M,F,hb⟩:=D.ex;exact QO he D.cl M F (hr.mono hj) hb .nil GC ha hst hpl ht
theorem Sk{pl:Sem Bool}(D:Fw X.prog X.w X.K X.mg X.base k C m ps sp)(hr:Room j X.A)(he:PE X o ta)(hj:k<=j:=by decide)
    (ht:eval (.Call (.Attribute o m apos) [] [] pos) X.env=(do
      let ov <-eval o X.env
      standAt apos.atName
      let (f,first) <-holding [ov] (getMethod ov m pl)
      callWith pos f first (backTo pos (starEach [] X.env)) (backToKw pos (keywordEach [] X.env))):=by rfl):PE X (.Call (.Attribute o m apos) [] [] pos) (Nf C m sp [] E0 ta KS):=by
  obtain⟨f,fd,M,F,hb⟩:=D.ex;exact Pw he D.cl M F (hr.mono hj) hb .nil GC ht
end
section
variable{X:Cx}{K:Frag}{pos:Pos}
theorem DQ{es:List Expr}{k:Nat}{t:TGs}{n:Nat}(hc:X.calm=true)(h:PGs X es t)(hK:X.K=K:=by rfl)
  (hn:(assignEach es X.env).length=n:=by rfl) (hst:(assignEach es X.env).findIdx? (·.1)=none:=by rfl):PG X (.Tuple es k pos) (TD K n t):=by
 subst hK;exact CG hc h hn hst
def Pm(K:Frag):LUz->Hp->VK->Prop:=λ xs H Q=>∃p ys,xs=[V.ref p]/\((SqL K H p ys/\∀l,H l=none->Q (.ref l) (upd H l (.tup ys)))\/(SqT K H p ys/\Q (.ref p) H))
theorem K2(hK:X.K=K:=by rfl):Ck X (.type "tuple") (Pm K):=by subst hK;exact Iz
end
end L2
namespace GB
open PySem.W
open PySem L2
structure Rc where
 t:Int
 l:Int
 b:Int
 r:Int
 deriving DecidableEq
def Rc.ls(p:Rc):List Int:=[p.t,p.l,p.b,p.r]
def Rc.has(p:Rc)(r c:Int):Prop:=p.t<=r/\r<p.b/\p.l<=c/\c<p.r
def Rc.In(w h:Int)(p:Rc):Prop:=0<=p.t/\p.t<p.b/\p.b<=h/\0<=p.l/\p.l<p.r/\p.r<=w
def Apart(p q:Rc):Prop:=∀r c,p.has r c->q.has r c->False
theorem Apart.symm{p q:Rc}(h:Apart p q):Apart q p:=λ r c a b=>h r c b a
structure Tiles(w h:Int)(ps:List Rc):Prop where
 ins:∀p∈ps,p.In w h
 dis:ps.Pairwise Apart
 cov:∀r c,0<=r->r<h->0<=c->c<w->∃p∈ps,p.has r c
theorem MR{ps:List Rc}(h:ps.Pairwise Apart){p q:Rc}{r c:Int}(hp:p∈ps)(hq:q∈ps)(a:p.has r c)(b:q.has r c):p=q:=by
 obtain⟨i,hi,rfl⟩:=List.getElem_of_mem hp;obtain⟨j,hj,rfl⟩:=List.getElem_of_mem hq;rw[List.pairwise_iff_getElem]at h;rcases Nat.lt_trichotomy i j with e|e|e
 .exact(h i j hi hj e r c a b).elim
 .subst e;rfl
 .exact(h j i hj hi e r c b a).elim
theorem Tiles.perm{w h:Int}{ps qs:List Rc}(T:Tiles w h ps)(e:qs.Perm ps):Tiles w h qs :=
 ⟨λ p hp=>T.ins p (e.mem_iff.mp hp),(e.pairwise_iff (λ{a b} x=>Apart.symm x)).mpr T.dis,λ r c a b x y=>let ⟨p,hp,z⟩:=T.cov r c a b x y;⟨p,e.mem_iff.mpr hp,z⟩⟩
def key:List Int->Int
 |[a,b,c,d]=>((a*13+b)*13+c)*13+d
 |_=>0
theorem Kq(p:Rc):key p.ls=((p.t*13+p.l)*13+p.b)*13+p.r:=rfl
theorem key_lt{p q:Rc}{w h w' h':Int}(hp:p.In w h)(hq:q.In w' h')(b1:w<=12)(b2:h<=12)(b3:w'<=12)(b4:h'<=12):HT.lexLt p.ls q.ls=decide (key p.ls<key q.ls):=by
 obtain⟨a1,a2,a3,a4,a5,a6⟩:=hp;obtain⟨c1,c2,c3,c4,c5,c6⟩:=hq;rw[Kq,Kq];show(if p.t=q.t then (if p.l=q.l then (if p.b=q.b then (if p.r=q.r then false else decide (p.r<q.r)) else decide (p.b<q.b)) else decide (p.l<q.l)) else decide (p.t<q.t))=_
 repeat' split
 all_goals (first|(apply Eq.symm;rw[decide_eq_false_iff_not];lia)|(rw[decide_eq_decide];lia))
theorem QY{p q:Rc}{w h w' h':Int}(hp:p.In w h)(hq:q.In w' h')(b1:w<=12)(b2:h<=12)(b3:w'<=12)(b4:h'<=12)(e:key p.ls=key q.ls):p=q:=by
 obtain⟨a1,a2,a3,a4,a5,a6⟩:=hp;obtain⟨c1,c2,c3,c4,c5,c6⟩:=hq;rw[Kq,Kq]at e;obtain⟨pt,pl,pb,pr⟩:=p;obtain⟨qt,ql,qb,qr⟩:=q;simp only at *;have e1:pt=qt:=by lia
 subst e1;have e2:pl=ql:=by lia
 subst e2;have e3:pb=qb:=by lia
 subst e3;have e4:pr=qr:=by lia
 subst e4;rfl
def Srt(ps:List Rc):Prop:=(ps.map λ p=>key p.ls).Pairwise (·<=·)
theorem Lb{ps qs:List Rc}{w h:Int}(hp:∀p∈ps,p.In w h)(b1:w<=12)(b2:h<=12)(e:ps.Perm qs)(s1:Srt ps)(s2:Srt qs):ps=qs:=by
 have hq:∀p∈qs,p.In w h:=λ p x=>hp p (e.mem_iff.mpr x);have hm:=ksm_same (List.Perm.map (λ p:Rc=>key p.ls) e) s1 s2;have len:=e.length_eq;apply List.ext_getElem len;intro i h1 h2;have:=congrArg (λ l=>l[i]?) hm;simp only[List.getElem?_map,List.getElem?_eq_getElem h1,List.getElem?_eq_getElem h2,Option.map_some,Option.some.injEq]at this;exact QY (hp _ (List.getElem_mem h1)) (hq _ (List.getElem_mem h2)) b1 b2 b1 b2 this
def Dr(p:Rc)(i:Nat)(j:Nat):List (Int×Int):=(List.range j).map λ(k:Nat)=>(p.t+(i:Int),p.l+(k:Int))
def EV(p:Rc):Nat->List (Int×Int)
 |0=>[]
 |i+1=>EV p i++Dr p i (p.r-p.l).toNat
def sqs(p:Rc):List (Int×Int):=EV p (p.b-p.t).toNat
theorem mem_rowSq{p:Rc}{i j:Nat}{r c:Int}:(r,c)∈Dr p i j↔r=p.t+i/\p.l<=c/\c<p.l+j:=by
 unfold Dr;rw[List.mem_map]
 constructor
 .rintro⟨k,hk,e⟩;have:=List.mem_range.mp hk;cases e;lia
 .rintro⟨rfl,a,b⟩;exact⟨(c-p.l).toNat,List.mem_range.mpr (by lia),by rw[show((c-p.l).toNat:Int)=c-p.l by lia];congr 1;lia⟩
theorem GS{p:Rc}(h:p.l<=p.r){r c:Int}:∀{n:Nat},(r,c)∈EV p n↔p.t<=r/\r<p.t+n/\p.l<=c/\c<p.r
 |0=>by
  simp only[EV,List.not_mem_nil,false_iff];lia
 |n+1=>by
  rw[EV,List.mem_append,GS h,mem_rowSq];lia
theorem EE{p:Rc}(h:p.l<=p.r)(h2:p.t<=p.b){r c:Int}:(r,c)∈sqs p↔p.has r c:=by
 unfold sqs Rc.has;rw[GS h];lia
theorem Ld(p:Rc)(i j:Nat):(Dr p i j).Nodup:=by
 unfold Dr;rw[List.nodup_iff_pairwise_ne,List.pairwise_map];exact(List.nodup_range (n:=j)).imp λ{a b} h e=>h (by
  have:=congrArg Prod.snd e;simp only at this;lia)
theorem DY{p:Rc}(h:p.l<=p.r):∀n,(EV p n).Nodup
 |0=>List.nodup_nil
 |n+1=>by
  rw[EV,List.nodup_append];refine⟨DY h n,Ld p n _,λ a ha b hb e=>?_⟩;subst e;obtain⟨r,c⟩:=a;have h1:=(GS h).mp ha;have h2:=mem_rowSq.mp hb;lia
theorem E4(p:Rc):∀n,(EV p n).length=n*(p.r-p.l).toNat
 |0=>by simp[EV]
 |n+1=>by rw[EV,List.length_append,E4 p n,Dr,List.length_map,List.length_range,Nat.succ_mul]
theorem Mi(p:Rc)(i j:Nat):Dr p i (j+1)=Dr p i j++[(p.t+(i:Int),p.l+(j:Int))]:=by
 unfold Dr;rw[List.range_succ,List.map_append];rfl
end GB
namespace L2
open PySem.W
open PySem PySem.Spec PyProof.Rows
section
variable{prog:Program}{w:World}{A:Around}{E:VPz}{h:Heap}{g:Array GenState}{d:Drawn}{t:Nat}{os:OsState}
 {nm qn:Str} {C N:Addr} {bs bm bmB:LWz} {hdct:Bool} {sn:LSz} {sub:LWz} {ab:Bool} {col:Option Bool} {dd:Option Addr} {k0 k1 k2 k3 k5:Option Value} {B newId initId:String}
def Cf(h:Heap)(C:Addr)(rest:LWz):Heap:=(h.push { cls:=.type "tuple",data:=.seq rest.toArray }).push { cls:=.ref C,data:=.fields #[.ref h.objs.size,.none,.none,.none,.bool false,.none] }
theorem BZ{C:Addr}{rest:LWz}{b:Addr}{o:Obj}(e:h.get? b=some o):(Cf h C rest).get? b=some o:=Heap.get?_push_of_some _ (Heap.get?_push_of_some _ e)
theorem Ji(C:Addr)(rest:LWz):(Cf h C rest).get? (h.objs.size+1)=some { cls:=.ref C,data:=.fields #[.ref h.objs.size,.none,.none,.none,.bool false,.none] }:=by
 unfold Cf;heap_get
theorem Gn(F:ExcBaseFacts B newId initId bmB)(T:OwnTail h bmB bm){mN:MGz}{rest:LWz}{fI:Addr}{oI:Obj}{Q:Fin->Shared->Prop}
  (hC:h.get? C=some (excClassObj nm qn C N bs bm hdct sn sub ab col dd k0 k1 k2 k3 k5 newId)) (hn:h.Ns N mN) (hi:mN "__init__"=some (.ref fI)) (hfI:h.get? fI=some oI) (hfc:oI.cls=.type "function") (hrest:rest.length<=sizeLine)
  (hq:wpAny (model prog w) A (call (.ref fI) (.ref (h.objs.size+1)::rest)) (λ r s'=>r=.none/\Q (.done (.ret (.ref (h.objs.size+1)))) s') E ⟨Cf h C rest,g,d,t,os⟩) :
  wpAny (model prog w) A (Builtin.«type.__call__» ⟨.ref C::rest,[]⟩) Q E ⟨h,g,d,t,os⟩:=by
 repeat (first|with_reducible refine wpAny_loadPart_at hC ?_|with_reducible refine wpAny_madeBy_exc hC ?_|wp_step)
 refine codeAny_call_builtin_code (Code.quiet_builtin _ F.quiet) (wpAny_check_new_subT F T hC (codeAny_exc_new_subT F T hC ?_ hrest));show wpAny _ _ _ _ _ ⟨Cf h C rest,g,d,t,os⟩;have c1:(Cf h C rest).get? C=_:=BZ hC;have n1:(Cf h C rest).Ns N mN:=let ⟨o,es,ep,e,r⟩:=hn;⟨o,es,ep,BZ e,r⟩;have e1:=Ji (h:=h) C rest;have T1:OwnTail (Cf h C rest) bmB bm:=T.keeps λ_ _ e=>BZ e;have cc:(Value.ref C::bm).contains (.ref C)=true:=by simp
 unfold isInstance
 repeat (first|with_reducible refine wpAny_loadPart_at e1 ?_|(with_reducible refine wpAny_isSubtype_exc c1 ?_;rw[cc])|wp_step)
 show wpAny _ _ (typeLookup (.ref C) _) _ _ _;refine wpAny_typeLookup_tail c1 n1 T1 F.mroIs F.init.lookup ?_;rw[hi];refine wpAny_holding (wpAny_bind ?_);unfold bindSpecial;refine wpAny_bind (wpAny_typeOf (T:="function") ⟨_,BZ hfI,hfc⟩ ?_);rw[if_pos (by decide)];refine wpAny_pure (wpAny_bind (wpAny_mono hq (λ r s' hr=>?_) λ_ _ x=>x));obtain⟨rfl,hQ⟩:=hr
 wp_walk
 exact hQ
theorem O8(F:ExcBaseFacts B newId initId bmB)(T:OwnTail h bmB bm){mN:MGz}{rest:LWz}{fI:Addr}{oI:Obj}{Q:VPz}
  (hC:h.get? C=some (excClassObj nm qn C N bs bm hdct sn sub ab col dd k0 k1 k2 k3 k5 newId)) (hn:h.Ns N mN) (hi:mN "__init__"=some (.ref fI)) (hfI:h.get? fI=some oI) (hfc:oI.cls=.type "function") (hrest:rest.length<=sizeLine)
  (hq:wpAny (model prog w) (A.under (.builtin "type.__call__" ⟨.ref C::rest,[]⟩)) (call (.ref fI) (.ref (h.objs.size+1)::rest)) (λ r s'=>r=.none/\Q (.ref (h.objs.size+1)) s') E ⟨Cf h C rest,g,d,t,os⟩) :
  wpAny (model prog w) A (call (.ref C) rest) Q E ⟨h,g,d,t,os⟩:=by
 have l1:=tc_lookup;have l2:=tc_bind (.ref C);have ty:(⟨h,g,d,t,os⟩:Shared).TypeIs (.ref C) "type":=⟨_,hC,rfl⟩;refine wpAny_call (codeAny_of_tree ?_);show wpAny _ _ (callAny (.ref C) _) _ _ _
 repeat (any_goals (first|assumption|with_reducible refine wpAny_loadPart_at hC ?_|wp_step))
 exact⟨rfl,codeAny_call_builtin_at (Code.quiet_builtin _ (by decide +kernel)) entry_typeCall (wpAny_check_type_call_sub hC (Gn F T hC hn hi hfI hfc hrest hq))⟩
end
open PySem.Builtin PySem.Builtin.ObjectAttr
def vErr:LWz:=[.type "ValueError",.type "Exception",.type "BaseException",.type "object"]
def Fr:LWz->Bool
 |[]=>false
 |x::r=>(match x with|.ref _=>Fr r|_=>false)||(x::r==vErr)
theorem G1(self:Value):∀{l:LWz},Fr l=true->refuseLoop self "__setattr__" l=pure ()
 |[],e=>by cases e
 |x::r,e=>by
  unfold Fr at e;rw[Bool.or_eq_true]at e;rcases e with e|e
  .cases x<;>first|(rw[refuseLoop_ref];exact G1 self e)|cases e
  .rw[show x::r=vErr from beq_iff_eq.mp e];exact PySem.F.store_ValueError.passes self
theorem N9{T:String}(hT:vErr.contains (.type T)=true):∀{l:LWz},Fr l=true->l.contains (.type T)=true
 |[],e=>by cases e
 |x::r,e=>by
  unfold Fr at e;rw[Bool.or_eq_true]at e;rcases e with e|e
  .cases x<;>first|(rw[List.contains_cons,N9 hT e,Bool.or_true])|cases e
  .rw[show x::r=vErr from beq_iff_eq.mp e];exact hT
def excIn(K:Frag)(C:Addr):Bool:=(clsIn K C).any λ cd=>Fr cd.mro
section
variable{prog:Program}{w:World}{A:Around}{E:VPz}{R:Result->Shared->Prop}{s:Shared}{K:Frag}{x C:Addr}{ox:Obj}{od:Option Obj}{name:Str}{tk:Tok}{v:Value}
theorem N2(X:K.In s.heap)(I:InstAt s.heap x ox C od)(hp:excIn K C=true)(ht:findIn K (.ref C) name=some none)
  (h:wpAny (model prog w) A.in1 (storeInOwnDict (.ref x) (.ref C) (.str name tk) name v false)
   (λ fin s'=>match fin with|.done f=>R (.ok f) s'|.again c'=>c'.quiet=true/\codeAny (model prog w) A c' R s') (λ e s'=>R (.error e) s') s) :
  codeAny (model prog w) A (.call (.builtin "object.__setattr__") ⟨[.ref x,.str name tk,v],[]⟩) R s:=by
 have SF:=PySem.F.store_object;obtain⟨cd,hc,ho⟩:=any_some hp;have ne:cd.mro.isEmpty=false:=by cases q:cd.mro with|nil=>rw[q]at ho;cases ho|cons _ _=>rfl
 have tO:Looks (model prog w) s.heap (isInstance (.ref x) (.type "object")) true:=I.type.andThen (looks_mroIn X (by
  unfold mroIn;rw[hc,Option.bind_some,ne];show some (cd.mro.contains (.type "object"))=some true;rw[N9 (by decide +kernel) ho]))
 have tM:Looks (model prog w) s.heap (mroOf (.ref C)) cd.mro:=(looks_clsIn X hc).andThen .now;refine codeAny_call_builtin SF.slot.plain SF.entry (@check_slot (model prog w) _ _ s "object.__setattr__" "object" "__setattr__" (.ref x) [.str name tk,v] [] _ SF.kind SF.split tO (SF.args (.ref x) (.str name tk) v) ?_);rw[osa_eq,refuse_eq];refine wpAny_bind (wpAny_bind (I.type.here (wpAny_bind (tM.here ?_))));rw[G1 _ ho];exact wpAny_pure (wpAny_bind (I.type.here (wpAny_bind ((looks_findIn X ht).here (wpAny_bind (wpAny_pure h))))))
theorem Pe{vs:Array Value}{sl:AOz}{Q:Unit->Shared->Prop}(X:K.In s.heap)(hx:s.heap.get? x=some ⟨.ref C,none,.fields vs,sl⟩)(hs:findIn K (.ref C) "__setattr__"=some (some (.builtin "object.__setattr__")))
  (hp:excIn K C=true) (hh:hasDictIn K C=true) (ht:findIn K (.ref C) name=some none)
  (h:∀h',h'.get? x=some ⟨.ref C,some s.heap.objs.size,.fields vs,sl⟩->h'.Ns1 s.heap.objs.size (λ y=>if y=name then some v else none)->(∀b o,b≠x->s.heap.get? b=some o->h'.get? b=some o)->Q () { s with heap:=h',toks:=s.toks+2 }) :
  wpAny (model prog w) A (setAttr (.ref x) name v) Q E s:=by
 have I:InstAt s.heap x ⟨.ref C,none,.fields vs,sl⟩ C none:=⟨hx,rfl,rfl,trivial⟩;obtain⟨cd,hc,hd'⟩:=any_some hh;have nx:x≠s.heap.objs.size:=Nat.ne_of_lt (Heap.lt_size hx);refine set_plain X I hs (N2 (s:={ s with toks:=s.toks+1 }) X I hp ht ?_);refine wpAny_bind (wpAny_pure (wpAny_bind (wpAny_bind (wpAny_loadPart hx (wpAny_bind (Looks.here (s:={ s with toks:=s.toks+1 }) (looks_clsIn X hc) ?_))))));rw[hd'];refine wpAny_bind (wpAny_alloc (wpAny_bind (wpAny_update (Heap.get?_push_of_some _ hx) (wpAny_pure ?_))));generalize hH:(s.heap.push { cls:=.type "dict",data:=.dict #[] }).update x (λ o=>{ o with dict:=some s.heap.objs.size })=H1;have hx1:H1.get? x=some ⟨.ref C,some s.heap.objs.size,.fields vs,sl⟩:=by
  rw[<-hH];exact Heap.get?_update_self _ (Heap.get?_push_of_some _ hx) rfl
 have hd1:H1.get? s.heap.objs.size=some { cls:=.type "dict",data:=.dict #[] }:=by
  rw[<-hH,Heap.get?_update_ne _ _ _ _ (Ne.symm nx)];exact Heap.get?_push_size _ rfl
 have hk1:∀b o,b≠x->s.heap.get? b=some o->H1.get? b=some o:=λ b o hb e=>by
  rw[<-hH,Heap.get?_update_ne _ _ _ _ hb];exact Heap.get?_push_of_some _ e
 have hn1:H1.Ns1 s.heap.objs.size (λ_=>none):=Heap.Ns1.of_empty ⟨_,#[],_,hd1,rfl,λ e he=>absurd he (by simp),λ_=>rfl⟩;refine wpAny_bind (wpAny_pure (wpAny_bind (wpAny_nsSet1 (s:={ s with heap:=H1,toks:=s.toks+1 }) hn1 λ h' hn2 hs2=>?_)));obtain⟨oD,esD,epD,hoD,hdD,hcD⟩:=hn2.count (Within.cons name v Within.nil);refine wpAny_bind (wpAny_lookBehind hoD (by rw[hdD];exact pastItsLine_dict (Nat.le_trans hcD (by rw[List.length_cons,List.length_nil,sizeLine_eq];lia))) ?_);exact wpAny_pure (h _ ((hs2.2 _ nx).trans hx1) hn2 λ b o hb e=>(hs2.2 _ (Nat.ne_of_lt (Heap.lt_size e))).trans (hk1 b o hb e))
theorem QF{vs:Array Value}{sl:AOz}{dx:Addr}{mA:MGz}{ns:LSz}{Q:Unit->Shared->Prop}(X:K.In s.heap)(hx:s.heap.get? x=some ⟨.ref C,some dx,.fields vs,sl⟩)(hn:s.heap.Ns1 dx mA)(hne:dx≠x)
  (hs:findIn K (.ref C) "__setattr__"=some (some (.builtin "object.__setattr__"))) (hp:excIn K C=true) (hh:hasDictIn K C=true) (ht:findIn K (.ref C) name=some none) (hw:PySem.Within mA ns) (hsz:ns.length<=sizeLine)
  (h:∀h',h'.get? x=some ⟨.ref C,some dx,.fields vs,sl⟩->h'.Ns1 dx (λ y=>if y=name then some v else mA y)->Heap.SameBut dx s.heap h'->Q () { s with heap:=h',toks:=s.toks+2 }) :
  wpAny (model prog w) A (setAttr (.ref x) name v) Q E s:=by
 obtain⟨od,ho⟩:∃o,s.heap.get? dx=some o:=let ⟨o,_,_,e,_⟩:=hn;⟨o,e⟩;have I:InstAt s.heap x ⟨.ref C,some dx,.fields vs,sl⟩ C (some od):=⟨hx,rfl,rfl,ho⟩;obtain⟨cd,hc,hd'⟩:=any_some hh;refine set_plain X I hs (N2 (s:={ s with toks:=s.toks+1 }) X I hp ht ?_);refine wpAny_bind (wpAny_pure (wpAny_bind (wpAny_bind (wpAny_loadPart hx (wpAny_bind (Looks.here (s:={ s with toks:=s.toks+1 }) (looks_clsIn X hc) ?_))))));rw[hd'];refine wpAny_pure (a:=some dx) (wpAny_bind (wpAny_pure (wpAny_bind (wpAny_nsSet1 (s:={ s with toks:=s.toks+1 }) hn λ h' hn2 hs2=>?_))));obtain⟨oD,esD,epD,hoD,hdD,hcD⟩:=hn2.count (Within.cons name v hw);refine wpAny_bind (wpAny_lookBehind hoD (by rw[hdD];exact pastItsLine_dict (Nat.le_trans hcD (by rw[List.length_cons];lia))) ?_);exact wpAny_pure (h _ ((hs2.2 _ (Ne.symm hne)).trans hx) hn2 hs2)
end
def IK(C x:Addr):HO:=.ext λ h=>∃vs sl,h.get? x=some ⟨.ref C,none,.fields vs,sl⟩/\vs[1]?=some Value.none
def DJ(C dx x:Addr):HO:=.ext λ h=>∃vs sl,h.get? x=some ⟨.ref C,some dx,.fields vs,sl⟩/\vs[1]?=some Value.none
def IJ(C:Addr)(d:Option Addr)(x T:Addr):HO:=.ext λ h=>∃vs sl,h.get? x=some ⟨.ref C,d,.fields vs,sl⟩/\vs[1]?=some (.ref T)
def DK(dx:Addr)(fs:LFz):HO:=.ext λ h=>∃mA,h.Ns1 dx mA/\(∀f,RelO (fs.lookup f) (mA f))/\PySem.Within mA (fs.map (·.1))
section
variable{P:Program}{w:World}{H:Hp}{h:Heap}{x C dx:Addr}{fs:LFz}
theorem Rs{vs:Array Value}{sl:AOz}(e:h.get? x=some ⟨.ref C,none,.fields vs,sl⟩)(f:vs[1]?=some Value.none):ObjOk P w H h x (IK C x) :=
 ⟨⟨vs,sl,e,f⟩,⟨_,e⟩,λ_ _ ⟨vs,sl,e,f⟩ k=>⟨vs,sl,k _ e,f⟩⟩
theorem Rr{vs:Array Value}{sl:AOz}(e:h.get? x=some ⟨.ref C,some dx,.fields vs,sl⟩)(f:vs[1]?=some Value.none):ObjOk P w H h x (DJ C dx x) :=
 ⟨⟨vs,sl,e,f⟩,⟨_,e⟩,λ_ _ ⟨vs,sl,e,f⟩ k=>⟨vs,sl,k _ e,f⟩⟩
theorem Rq{d:Option Addr}{T:Addr}{vs:Array Value}{sl:AOz}(e:h.get? x=some ⟨.ref C,d,.fields vs,sl⟩)(f:vs[1]?=some (.ref T)):ObjOk P w H h x (IJ C d x T) :=
 ⟨⟨vs,sl,e,f⟩,⟨_,e⟩,λ_ _ ⟨vs,sl,e,f⟩ k=>⟨vs,sl,k _ e,f⟩⟩
theorem NA{mA:MGz}(n:h.Ns1 dx mA)(r:∀f,RelO (fs.lookup f) (mA f))(wi:PySem.Within mA (fs.map (·.1))):ObjOk P w H h dx (DK dx fs) :=
 ⟨⟨mA,n,r,wi⟩,let ⟨o,_,_,e,_⟩:=n;⟨o,e⟩,λ_ _ ⟨mA,n,r,wi⟩ k=>⟨mA,n.at k,r,wi⟩⟩
end
structure XCls(K:Frag)(C:Addr):Prop where
 ga:findIn K (.ref C) "__getattribute__"=some (some (.builtin "BaseException.__getattribute__"))
 gh:findIn K (.ref C) "__getattr__"=some none
 hd:hasDictIn K C=true
 sa:findIn K (.ref C) "__setattr__"=some (some (.builtin "object.__setattr__"))
 ex:L2.excIn K C=true
 ca:findIn K (.ref C) "__class__"=some (some (.builtin "object.__class__"))
 gn:specialIn K (.builtin "object.__class__") "__get__"=some (some (.builtin "getset_descriptor.__get__"))
 tk:takesIn K (.builtin "object.__class__")=some true
 mo:mroIn K C (.type "object")=some true
def Gh(K:Frag)(C:Addr):Bool:=(findIn K (.ref C) "__getattribute__"==some (some (.builtin "BaseException.__getattribute__")))&&(findIn K (.ref C) "__getattr__"==some none)&&hasDictIn K C&&(findIn K (.ref C) "__setattr__"==some (some (.builtin "object.__setattr__")))&&L2.excIn K C &&
 (findIn K (.ref C) "__class__"==some (some (.builtin "object.__class__")))&&(specialIn K (.builtin "object.__class__") "__get__"==some (some (.builtin "getset_descriptor.__get__"))) &&
 (takesIn K (.builtin "object.__class__")==some true)&&(mroIn K C (.type "object")==some true)
theorem XCls.of{K:Frag}{C:Addr}(h:Gh K C=true):XCls K C:=by
 unfold Gh at h;simp only[Bool.and_eq_true,beq_iff_eq]at h;obtain⟨⟨⟨⟨⟨⟨⟨⟨a,a'⟩,b⟩,c⟩,d⟩,e⟩,f⟩,g⟩,i⟩:=h;exact⟨a,a',b,c,d,e,f,g,i⟩
section
variable{X:Cx}{pins:PNz}{σ:St}{H:Hp}{s:Shared}{a C dx:Addr}{fs:LFz}{f:Str}{v:V}{A:Around}{E:VPz}
theorem Hu{φ:Heap->Prop}{b c:Addr}(h:H b=some (.ext φ)):H b≠some (.own c):=λ e=>by rw[h]at e;cases e
theorem Mg{y:V}{u:Value}{Q:Unit->Shared->Prop}(I:Inv X pins σ H s)(e:H a=some (IK C a))(c:XCls X.K C)(n:NoAttr X.K C f)(ry:RelV y u)
  (h:∀s' d,H d=none->Inv X pins σ (upd (upd H d (DK d [(f,y)])) a (DJ C d a)) s'->Q () s'):wpAny (model X.prog X.w) A (setAttr (.ref a) f u) Q E s:=by
 obtain⟨⟨vs,sl,hx,hv1⟩,_⟩:=(show ObjOk X.prog X.w H s.heap a (IK C a) from I.hok a _ e);refine Pe I.kIn hx c.sa c.ex c.hd n λ h' h1 h2 k=>?_;have hn:H s.heap.objs.size=none:=I.hok.fresh (Nat.le_refl _);have nea:s.heap.objs.size≠a:=Ne.symm (Af e hn);refine h _ s.heap.objs.size hn ?_;have e':∀b o,H b=some o->b≠s.heap.objs.size:=λ b o q=>Af q hn;have lt:∀b o,s.heap.get? b=some o->b≠s.heap.objs.size:=λ b o q=>Nat.ne_of_lt (Heap.lt_size q);have na:∀b o,H b=some o->(∀φ,o≠.ext φ)->b≠a:=λ b o q z t=>by subst t;rw[e]at q;cases q;exact z _ rfl
 refine I.un (h':=h') (t':=s.toks+2) ⟨λ b o q m _ _=>k b o (λ z=>by rw[z,e]at m;cases m) q,λ b o q m _ _=>⟨o.slots,k b o (λ z=>by rw[z,e]at m;cases m) q⟩,
  λ b o q m _=>by rw[Ai (λ z=>by rw[z,e]at m;cases m),Ai (lt b o q)];exact m,λ b o q _=>?_,λ b xs q=>by rw[Ai (na b _ q (λ φ z=>by cases z)),Ai (e' b _ q)];exact q,
  λ b o u q=>by rw[Ai (na b _ q (λ φ z=>by cases z)),Ai (e' b _ q)];exact q,λ b ps q=>⟨#[],by rw[Ai (na b _ q (λ φ z=>by cases z)),Ai (e' b _ q),q];simp⟩⟩ λ b o q=>?_
 .by_cases hb:b=a
  .subst hb;exact⟨_,h1⟩
  .exact⟨o,k b o hb q⟩
 .by_cases hb:b=a
  .subst hb;rw[Ac]at q;cases q;exact Rr h1 hv1
  .rw[Ai hb]at q;by_cases hd:b=s.heap.objs.size
   .subst hd;rw[Ac]at q;cases q;refine NA h2 (λ g=>?_) λ g hg=>?_
    .show RelO (List.lookup g [(f,y)]) (if g=f then some u else none);by_cases q:g=f
     .have hb:(g==f)=true:=beq_iff_eq.mpr q;rw[if_pos q];simp only[List.lookup,hb];exact ry
     .have hb:(g==f)=false:=beq_eq_false_iff_ne.mpr q;rw[if_neg q];simp only[List.lookup,hb];exact True.intro
    .by_cases q:g=f
     .rw[q];simp
     .exact absurd (if_neg q) hg
   .rw[Ai hd]at q;refine(I.hok b o q).stay (λ cc w' hc z=>k cc w' ?_ z) (λ cc z=>?_) λ cc xs z=>?_
    .rcases hc with rfl|hc
     .exact hb
     .exact λ t=>Hu e (t ▸ hc)
    .rw[Ai (λ t=>Hu e (t ▸ z)),Ai (e' cc _ z)];exact z
    .rw[Ai (na cc _ z (λ φ t=>by cases t)),Ai (e' cc _ z)];exact z
theorem NY{y:V}{u:Value}{Q:Unit->Shared->Prop}(I:Inv X pins σ H s)(e:H a=some (DJ C dx a))(ed:H dx=some (DK dx fs))(c:XCls X.K C)(n:NoAttr X.K C f)(hl:fs.length<1000)(ry:RelV y u)
  (h:∀s',Inv X pins σ (upd H dx (DK dx (Be f y fs))) s'->Q () s'):wpAny (model X.prog X.w) A (setAttr (.ref a) f u) Q E s:=by
 obtain⟨⟨vs,sl,hx,_⟩,_⟩:=(show ObjOk X.prog X.w H s.heap a (DJ C dx a) from I.hok a _ e);obtain⟨⟨mA,hn,r,wi⟩,_⟩:=(show ObjOk X.prog X.w H s.heap dx (DK dx fs) from I.hok dx _ ed);have hne:dx≠a:=λ z=>by
  subst z;obtain⟨o,es,ep,ho,hd,_⟩:=hn;rw[hx]at ho;cases ho;cases hd
 have hz:(fs.map (·.1)).length<=sizeLine:=by rw[List.length_map,sizeLine_eq];lia
 refine QF I.kIn hx hn hne c.sa c.ex c.hd n wi hz λ h' h1 h2 sb=>h _ ?_;have hd:∃o,h'.get? dx=some o:=let ⟨o,_,_,e',_⟩:=h2;⟨o,e'⟩;refine I.write (x:=dx) (e:=dx) (t':=s.toks+2) (by rw[ed];exact True.intro) (.inl rfl) (λ b q hb z=>(sb.2 b hb).trans z) hd (NA h2 (λ g=>?_) λ g hg=>?_)
 .show RelO ((Be f y fs).lookup g) (if g=f then some u else mA g);rw[Ay];by_cases q:g=f
  .rw[if_pos q,if_pos q];exact ry
  .rw[if_neg q,if_neg q];exact r g
 .by_cases q:g=f
  .rw[q];exact(CU f y fs).1
  .refine(CU f y fs).2 g (wi g λ z=>hg ?_);show(if g=f then some u else mA g)=none;rw[if_neg q];exact z
end
def Tj(K:Frag)(ta tv:TE)(f:Str):TS:=λ D σ H=>tv σ H λ y H1=>ta σ H1 λ x H2=>∃a C,x=.ref a/\XCls K C/\NoAttr K C f /\
 ((H2 a=some (IK C a)/\∀d,H2 d=none->D.nx σ (upd (upd H2 d (DK d [(f,y)])) a (DJ C d a)))\/∃dx fs,H2 a=some (DJ C dx a)/\H2 dx=some (DK dx fs)/\fs.length<1000/\D.nx σ (upd H2 dx (DK dx (Be f y fs))))
section
variable{X:Cx}{o e value:Expr}{f:Str}{pos pos':Pos}{ta tv:TE}
theorem FW(ha:PE X o ta)(hv:PE X value tv)(hs:swapsWith value (some (.Attribute o f pos')) pos.line X.env=pure false):PS X (.Assign [.Attribute o f pos'] value pos) (Tj X.K ta tv f):=by
 intro pins s σ H D I h;refine plainObj_wpAny_Assign_Attribute (thn (hv pins s σ H _ I h) λ u s1 hz_=>?_) hs;obtain⟨y,H1,I1,ry,q⟩:=hz_;refine thn (ha pins s1 σ H1 _ I1 q) λ ov s2 hz_=>?_;obtain⟨x,H2,I2,rx,a,C,ex,c,n,q2⟩:=hz_;subst ex;obtain rfl:ov=Value.ref a:=rx;rcases q2 with ⟨e0,q2⟩|⟨dx,fs,e1,e2,l,q2⟩
 .exact Mg I2 e0 c n ry λ s3 d hd I3=>⟨σ,_,I3,q2 d hd⟩
 .exact NY I2 e1 e2 c n l ry λ s3 I3=>⟨σ,_,I3,q2⟩
end
def Ch(K:Frag)(C:Addr)(fI:Addr):Bool:=match K.lookup C with
 |some ⟨.type "type",_,.cls cd,sl⟩=>(match cd.mro,sl.toList with
  |.ref C'::bm,[_,_,_,_,some (.builtin n),_]=>C'==C&&n=="ValueError.__new__"&&!cd.hasDel&&tailIn K vErr bm&&nsOkIn K cd.ns&&nsIn K cd.ns "__init__"==some (some (.ref fI))
  |_,_=>false)
 |_=>false
theorem M1{K:Frag}{h:Heap}{N:Addr}{mg:MGz}{n:Str}{v:Value}(X:K.In h)(G:h.Ns N mg)(e:nsIn K N n=some (some v)):mg n=some v:=by
 obtain⟨o,es,ep,ho,hd,_,hf⟩:=G;unfold nsIn at e;split at e
 .rename_i c d es' n' sl q;have:=X _ _ q;rw[ho]at this;cases this;cases hd;split at e
  .rename_i e' he;cases e;rw[<-hf];unfold nsFind findBy;rw[<-Array.find?_toList,he];rfl
  .split at e<;>cases e
 .cases e
structure XMk(K:Frag)(C fI:Addr):Prop where
 cl:XCls K C
 ei:Ch K C fI=true
 kp:keepIn K (.ref C)=true
 fn:isFn K (.ref fI)=true
theorem XMk.call{K:Frag}{C fI:Addr}(M:XMk K C fI){prog:Program}{w:World}{A:Around}{E:VPz}{s:Shared}{rest:LWz}{Q:VPz}(X:K.In s.heap)(hrest:rest.length<=sizeLine)
  (hq:wpAny (model prog w) (A.under (.builtin "type.__call__" ⟨.ref C::rest,[]⟩)) (call (.ref fI) (.ref (s.heap.objs.size+1)::rest)) (λ r s'=>r=.none/\Q (.ref (s.heap.objs.size+1)) s') E { s with heap:=Cf s.heap C rest }) :
  wpAny (model prog w) A (call (.ref C) rest) Q E s:=by
 obtain⟨hh,g,d,t,os⟩:=s;have q:=M.ei;have fnt:typeIn K (.ref fI)=some (.type "function"):=beq_iff_eq.mp M.fn;have hfI:∃oI:Obj,hh.get? fI=some oI/\oI.cls=.type "function":=by
  cases z:K.lookup fI with
  |none=>simp[typeIn,z]at fnt
  |some o=>exact⟨o,X _ _ z,by simpa [typeIn,z] using fnt⟩
 obtain⟨oI,hoI,hcI⟩:=hfI;unfold Ch at q;split at q
 .rename_i dd cd sl ho;split at q
  .rename_i C' bm k0 k1 k2 k3 n k5 hm hs;simp only[Bool.and_eq_true,beq_iff_eq,Bool.not_eq_true']at q;obtain⟨⟨⟨⟨⟨rfl,rfl⟩,hdel⟩,ht⟩,hok⟩,hni⟩:=q;obtain⟨nm,bs,mro,ns,qn,hd,sn,sub,ab,col,del⟩:=cd;dsimp only at hm hdel hok hni;subst hm hdel;have hsl:sl=#[k0,k1,k2,k3,some (.builtin "ValueError.__new__"),k5]:=by
    obtain⟨l⟩:=sl;simp only at hs;rw[hs]
   subst hsl;have G:hh.Ns ns (hh.nsMap ns):=.of_isNs (isNs_of_in X hok);exact O8 PySem.F.excBase_ValueError (tail_of_in X ht) (X _ _ ho) G (M1 X G hni) hoI hcI hrest hq
  .cases q
 .cases q
theorem ObjOk.there{P:Program}{w:World}{H:Hp}{h:Heap}{a:Addr}{o:HO}(x:ObjOk P w H h a o):∃u,h.get? a=some u:=by
 cases o with
 |lst xs=>obtain⟨_,_,_,_,e⟩:=x;exact⟨_,e⟩
 |tup xs=>obtain⟨_,_,_,p⟩:=x;obtain⟨_,e,_⟩:=p;exact⟨_,e⟩
 |dK kvs=>obtain⟨_,_,_,_,o,_,_,e,_⟩:=x;exact⟨_,e⟩
 |dT kvs=>obtain⟨_,_,_,_,o,_,_,e,_⟩:=x;exact⟨_,e⟩
 |set S n=>obtain⟨o,_,_,_,e,_⟩:=x;exact⟨_,e⟩
 |ins C dx fs=>obtain⟨_,_,_,e,_⟩:=x;exact⟨_,e⟩
 |own y=>obtain⟨_,e⟩:=x;exact⟨_,e⟩
 |xd fs=>obtain⟨_,⟨_,_,_,e,_⟩,_⟩:=x;exact⟨_,e⟩
 |rng lo hi=>obtain⟨_,_,_,e⟩:=x;exact⟨_,e⟩
 |frz ob u=>obtain⟨e,_⟩:=x;exact⟨_,e⟩
 |tbl ps=>exact⟨_,(show h.get? a=some _ from x)⟩
 |met f y=>exact⟨_,(show h.get? a=some _ from x)⟩
 |ext φ=>obtain⟨_,⟨_,e⟩,_⟩:=x;exact⟨_,e⟩
def NW(C:Addr)(names:LSz):Sp:=λ vs H Q _=>∃x ws,vs=.ref x::ws/\ws.length=names.length/\H x=some (IK C x) /\
 ∀d H',H d=none->H' x=some (DJ C d x)->H' d=some (DK d (names.zip ws))->(∀a o,a≠x->H a=some o->H' a=some o)->Q .non H'
structure JE(P:Program)(w:World)(K:Frag)(mg:MGz)(base:Heap)(k:Nat)(x:Str)(C:Addr)(ps names:LSz):Prop where
 few:names.length<=1000
 ex:∃(f:Addr)(fd:FuncData),XMk K C f/\A9 P w K mg base CX0 k f fd ps (NW C names)/\mg x=some (.ref C)/\Binds K fd ps []
section
variable{X:Cx}{CX:CXT}{k j:Nat}{f C:Addr}{fd:FuncData}{ps names:LSz}{sp:Sp}{E:XK}{x m:Str}{p pos apos:Pos}{e o:Expr}{es:List Expr}{ta:TE}{t:TA}
theorem QI{pins:PNz}{σ:St}{H:Hp}{s:Shared}{Q:VK}{us:LWz}{vs:LUz}(M:XMk X.K C f)(F:A9 X.prog X.w X.K X.mg X.base CX k f fd ps sp)(hr:Room (k+1) X.A)(hb:Binds X.K fd ps [])
  (hx:Ci CX X E) (I:Inv X pins σ H s) (r:Vals vs us) (hz:vs.length<=1000)
  (h:∀x,H x=none->sp (.ref x::vs) (upd H x (IK C x)) (λ v H2=>v=.non/\Q (.ref x) H2) E) :
  wpAny (model X.prog X.w) X.A (call (.ref C) us) (EP X pins σ Q) X.xe s:=by
 have hq:=h (s.heap.objs.size+1) (I.hok.fresh (Nat.le_succ _));have hus:us.length<=sizeLine:=by rw[<-r.length,sizeLine_eq];lia
 have I2:Inv X pins σ (upd H (s.heap.objs.size+1) (IK C (s.heap.objs.size+1))) { s with heap:=Cf s.heap C us } :=
  I.laid (t':=s.toks) (λ b u z=>BZ z) (Nat.le_succ _) (Rs (Ji C us) rfl)
 have r2:Vals (V.ref (s.heap.objs.size+1)::vs) (Value.ref (s.heap.objs.size+1)::us):=.cons rfl r;have hl:(Value.ref (s.heap.objs.size+1)::us++[]).length=ps.length:=by
  have e:=r2.length;rw[F.len _ _ _ _ hq]at e;rw[List.append_nil];exact e.symm
 have hb2:=hb { s with heap:=Cf s.heap C us } (Value.ref (s.heap.objs.size+1)::us) I2.kIn hl;rw[List.append_nil]at hb2;refine M.call I.kIn hus (wpAny_call (codeAny_mono (F.run _ X.stack _ _ ⟨Value.ref (s.heap.objs.size+1)::us,[]⟩ (Value.ref (s.heap.objs.size+1)::us) _ _ E (hr.make C us [])
  (I2.env0.make C us []) hb2 r2 hq) λ r s' hq'=>?_))
 cases r with
 |error e=>exact hx pins σ _ _ e s' I2 hq'
 |ok fl =>
  cases fl with
  |ret u =>
   obtain⟨v,H',I3,rv,ev,q3⟩:=I2.after hq';subst ev;exact⟨rv,⟨V.ref (s.heap.objs.size+1),H',I3,rfl,q3⟩⟩
  |next=>exact False.elim hq'
  |brk=>exact False.elim hq'
  |cont=>exact False.elim hq'
end
structure HQ(fr tt:List Addr)(e T:Addr)(fl cls:Value)(d:Option Addr)(h h':Heap):Prop where
 nT:h.get? T=none
 keep:∀b o,b≠e->b∉fr->b∉tt->h.get? b=some o->h'.get? b=some o
 slot:∀b o,b∈fr->h.get? b=some o->∃sl,h'.get? b=some { o with slots:=sl }
 exc:∃vs sl,h'.get? e=some ⟨cls,d,.fields vs,sl⟩/\vs[1]?=some (.ref T)
 tb:∃o ts,h'.get? T=some o/\o.data=.fields ts/\ts[3]?=some fl
 old:∀t o ts,t∈tt->t≠e->h.get? t=some o->o.data=.fields ts->3<ts.size->∃o' ts',h'.get? t=some o'/\o'.data=.fields ts'/\ts'[3]?=some Value.none
section
variable{M:Model}{A:Around}{E:VPz}{s:Shared}{base:Heap}{env:Env}{outer:List Env}{L e:Addr}{cls:Value}{d:Option Addr}{vs:Array Value}{sl:AOz}{Q:Unit->Shared->Prop}
theorem GQ{head:Value}{hadNext:Bool}(hfr:A.frames=some (env::outer))(hl:s.heap.FunFrames base (env::outer))(hf:env.frame=some L)(he:s.heap.get? e=some ⟨cls,d,.fields vs,sl⟩)(hsz:1<vs.size)
    (h:∀h' T,HQ (frs (env::outer)) [] e T (rawInt L) cls d s.heap h'->Q () { s with heap:=h' }) :
    wpAny M A (do
      let a <-frameOf env
      let pl <-entryPlaceOf L hadNext
      let b <-EntryCells.newEntry head a .none (rawInt L) .none pl
      setField (.ref e) 1 b) Q E s:=by
  have hne:e∉frs (env::outer):=λ hm=>by
    obtain⟨_,o,ho,hnf⟩:=hl.mem hm;rw[he]at ho;cases ho;exact hnf vs rfl
  refine wpAny_bind (wpAny_frameOf_fun hfr hl hf λ h₁ hs=>wpAny_bind (wpAny_entryPlaceOf λ pl hpl=>?_));unfold EntryCells.newEntry newFields;refine wpAny_bind (wpAny_newObj_type ?_ (hpl.sizeOk5 _ _ _ _ _));have e1:h₁.get? e=some ⟨cls,d,.fields vs,sl⟩:=(hs.2.1 e hne).trans he;generalize hob:({ cls:=.type "traceback",dict:=none,data:=.fields ([head,.ref L,.none,rawInt L,.none]++(if pl.isEmpty then List.replicate 6 Value.none else pl)).toArray }:Obj)=ob;have hfb:ob.isFreed=false:=by rw[<-hob];rfl
  have e2:=Heap.get?_push_of_some (h:=h₁) ob e1;refine wpAny_setField e2 rfl hsz (h _ h₁.objs.size ?_);have nTe:h₁.objs.size≠e:=Nat.ne_of_gt (Heap.lt_size e1);have kp:∀b o,b≠e->h₁.get? b=some o->((h₁.push ob).update e (Obj.mapFields (·.setIfInBounds 1 (Value.ref h₁.objs.size)))).get? b=some o:=λ b o nb hb=>by
    rw[Heap.get?_update_other _ _ (Ne.symm nb)];exact Heap.get?_push_of_some _ hb
  refine⟨Heap.get?_none_of_le (Nat.le_of_eq hs.1.symm),λ b o nb nf _ hb=>kp b o nb ((hs.2.1 b nf).trans hb),λ b o bf hb=>?_,⟨vs.setIfInBounds 1 (.ref h₁.objs.size),sl,?_,by simp[hsz]⟩,⟨ob,([head,.ref L,.none,rawInt L,.none]++(if pl.isEmpty then List.replicate 6 Value.none else pl)).toArray,?_,by rw[<-hob],?_⟩,λ_ _ _ z=>nomatch z⟩
  · obtain⟨sl',z⟩:=hs.2.2 b o hb
    exact⟨sl',kp b _ (λ q=>hne (q ▸ bf)) z⟩
  · exact Heap.get?_update_self _ e2 rfl
  · rw[Heap.get?_update_other _ _ (Ne.symm nTe)];exact Heap.get?_push_size _ hfb
  · simp
theorem Ls(hfr:A.frames=some (env::outer))(hl:s.heap.FunFrames base (env::outer))(hf:env.frame=some L)(he:s.heap.get? e=some ⟨cls,d,.fields vs,sl⟩)(h1:vs[1]?=some Value.none)
  (h:∀h' T,HQ (frs (env::outer)) [] e T (rawInt L) cls d s.heap h'->Q () { s with heap:=h' }):wpAny M A (noteFrame (.ref e) env) Q E s:=by
 unfold noteFrame;simp only[hf];refine wpAny_bind (wpAny_field he rfl h1 ?_);rw[if_neg (by decide)];exact GQ hfr hl hf he (Array.getElem?_eq_some_iff.mp h1).1 h
theorem Ol{T1:Addr}{oT:Obj}{ts:Array Value}(hfr:A.frames=some (env::outer))(hl:s.heap.FunFrames base (env::outer))(hf:env.frame=some L)(he:s.heap.get? e=some ⟨cls,d,.fields vs,sl⟩)(h1:vs[1]?=some (.ref T1))
  (hT:s.heap.get? T1=some oT) (hd:oT.data=.fields ts) (h3:ts[3]?=some Value.none) (ne:T1≠e)
  (h:∀h' T,HQ (frs (env::outer)) [T1] e T (rawInt L) cls d s.heap h'->Q () { s with heap:=h' }):wpAny M A (noteFrame (.ref e) env) Q E s:=by
 unfold noteFrame;simp only[hf];refine wpAny_bind (wpAny_field he rfl h1 ?_);rw[if_pos (show(Value.ref T1 != Value.none)=true from by simp)];refine wpAny_bind (wpAny_field hT hd h3 ?_);rw[if_neg (show ¬((Value.none==rawInt L)=true) from by simp[rawInt])];have hs3:3<ts.size:=(Array.getElem?_eq_some_iff.mp h3).1;refine wpAny_bind (wpAny_setField hT hd hs3 ?_);have oth:∀b,b≠T1->(s.heap.update T1 (Obj.mapFields (·.setIfInBounds 3 Value.none))).get? b=s.heap.get? b:=λ b hb=>Heap.get?_update_other _ _ (Ne.symm hb);have nT1:T1∉frs (env::outer):=λ hm=>by
  obtain⟨_,o,ho,hnf⟩:=hl.mem hm;rw[hT]at ho;cases ho;exact hnf ts hd
 have self:(s.heap.update T1 (Obj.mapFields (·.setIfInBounds 3 Value.none))).get? T1=some (Obj.mapFields (·.setIfInBounds 3 Value.none) oT):=Heap.get?_update_self _ hT (Obj.isFreed_of_fields (Obj.data_mapFields hd _));refine GQ (s:={ s with heap:=s.heap.update T1 (Obj.mapFields (·.setIfInBounds 3 Value.none)) }) hfr (hl.of_keeps λ b o hb hnf=>⟨o,(oth b λ q=>?_).trans hb,rfl⟩) hf ((oth e (Ne.symm ne)).trans he) (Array.getElem?_eq_some_iff.mp h1).1 λ h' T n=>h h' T ?_
 .rw[q,hT]at hb;cases hb;exact hnf ts hd
 .have nT':s.heap.get? T=none:=by
   by_cases q:T=T1
   .have:=n.nT;rw[q]at this;rw[self]at this;cases this
   .rw[<-oth T q];exact n.nT
  refine⟨nT',λ b o nb nf nt hb=>n.keep b o nb nf (by simp) ((oth b (by simpa using nt)).trans hb),λ b o bf hb=>n.slot b o bf ((oth b λ q=>nT1 (q ▸ bf)).trans hb),n.exc,n.tb,λ t o us ht hte hb hdo hsz=>?_⟩;obtain rfl:t=T1:=by simpa using ht
  rw[hT]at hb;cases hb;rw[hd]at hdo;cases hdo;exact⟨_,_,n.keep t _ hte nT1 (by simp) self,Obj.data_mapFields hd _,by simp[hs3]⟩
theorem Hm{T:Addr}{oT:Obj}{ts:Array Value}(he:s.heap.get? e=some ⟨cls,d,.fields vs,sl⟩)(h1:vs[1]?=some (.ref T))(hT:s.heap.get? T=some oT)(hd:oT.data=.fields ts)(hs3:3<ts.size)
  (h:∀h',(∀b,b≠T->h'.get? b=s.heap.get? b)->(∃o' ts',h'.get? T=some o'/\o'.data=.fields ts'/\ts'[3]?=some Value.none)->Q () { s with heap:=h' }):wpAny M A (setFlight (.ref e) none) Q E s:=by
 unfold setFlight;refine wpAny_bind (wpAny_field he rfl h1 ?_);rw[if_pos (show(Value.ref T != Value.none)=true from by simp)];refine wpAny_setField hT hd hs3 (h _ (λ b hb=>Heap.get?_update_other _ _ (Ne.symm hb)) ⟨_,_,Heap.get?_update_self _ hT (Obj.isFreed_of_fields (Obj.data_mapFields hd _)),Obj.data_mapFields hd _,by simp[hs3]⟩)
end
section
variable{prog:Program}{w:World}{A:Around}{E:VPz}{s:Shared}{K:Frag}{C fI e:Addr}{d:Option Addr}{env:Env}
theorem Ml{x:Sem Value}{Q:Flow->Shared->Prop}(M:XMk K C fI)(hh:A.handled=none)
  (h:wpAny (model prog w) A x (λ v s₁=>∃e d vs sl,v=.ref e/\K.In s₁.heap/\s₁.heap.get? e=some ⟨.ref C,d,.fields vs,sl⟩/\vs[1]?=some Value.none/\E (.ref e) s₁) E s) :
  wpAny (model prog w) A (raiseStmt env (some x) none) Q E s:=by
 unfold raiseStmt;refine wpAny_bind (wpAny_mono h (λ v s₁ h₁=>?_) λ_ _ x=>x);obtain⟨e,d,vs,sl',rfl,X,he,h1,hE⟩:=h₁;obtain⟨hp,g,dr,tk,os⟩:=s₁;have q:=M.ei;unfold Ch at q;split at q
 .rename_i dd cd sl ho;split at q
  .rename_i C' bm k0 k1 k2 k3 n k5 hm hs;simp only[Bool.and_eq_true,beq_iff_eq,Bool.not_eq_true']at q;obtain⟨⟨⟨⟨⟨rfl,rfl⟩,hdel⟩,ht⟩,hok⟩,hni⟩:=q;obtain⟨nm,bs,mro,ns,qn,hd,sn,sub,ab,col,del⟩:=cd;dsimp only at hm hdel hok hni;subst hm hdel;have hsl:sl=#[k0,k1,k2,k3,some (.builtin "ValueError.__new__"),k5]:=by
    obtain⟨l⟩:=sl;simp only at hs;rw[hs]
   subst hsl;have hC:hp.get? C'=some (excClassObj nm qn C' ns bs bm hd sn sub ab col dd k0 k1 k2 k3 k5 "ValueError.__new__"):=X _ _ ho;have hcB:(Value.ref C'::bm).contains (.type "BaseException")=true:=by
    rw[List.contains_cons,(tail_of_in X ht).hasType (show vErr.contains (.type "BaseException")=true by decide +kernel)];exact Bool.or_true _
   repeat (first|with_reducible refine wpAny_field he rfl h1 ?_|with_reducible refine wpAny_loadPart_at he ?_|with_reducible refine wpAny_loadPart_at hC ?_|(with_reducible refine wpAny_isSubtype_exc hC ?_;rw[hcB])|wp_step)
   exact wpAny_raiseNew_none hh hE
  .cases q
 .cases q
end
def TbO(T:Addr):HO:=.ext λ h=>∃o ts,h.get? T=some o/\o.data=.fields ts/\ts[3]?=some Value.none
theorem Me{P:Program}{w:World}{H:Hp}{h:Heap}{T:Addr}(t:∃o ts,h.get? T=some o/\o.data=.fields ts/\ts[3]?=some Value.none):ObjOk P w H h T (TbO T) :=
 ⟨t,let ⟨o,_,e,_⟩:=t;⟨o,e⟩,λ_ _ ⟨o,ts,e,r⟩ k=>⟨o,ts,k _ e,r⟩⟩
def NO(H:Hp)(x C:Addr)(d:Option Addr):Prop:=(d=none/\H x=some (IK C x))\/∃dx,d=some dx/\H x=some (DJ C dx x)
def CZ(H:Hp)(x C:Addr)(d:Option Addr)(T:Addr):Prop:=H x=some (IJ C d x T)/\H T=some (TbO T)/\T≠x
def thrown(H:Hp)(x C:Addr)(d:Option Addr)(T:Addr):Hp:=upd (upd H T (TbO T)) x (IJ C d x T)
theorem CM{H:Hp}{x C T:Addr}{d:Option Addr}:thrown H x C d T x=some (IJ C d x T):=Ac
theorem E3{H:Hp}{x C T:Addr}{d:Option Addr}(n:T≠x):thrown H x C d T T=some (TbO T):=by unfold thrown;rw[Ai n,Ac]
theorem AL{H:Hp}{x C T b:Addr}{d:Option Addr}(n:b≠x)(m:b≠T):thrown H x C d T b=H b:=by unfold thrown;rw[Ai n,Ai m]
section
variable{X:Cx}{pins:PNz}{σ:St}{H:Hp}{s:Shared}{x C T:Addr}{d:Option Addr}{h1 h2:Heap}{fl:Value}{tt:List Addr}
theorem QT(I:Inv X pins σ H s){φ:Heap->Prop}(hx:H x=some (.ext φ))(htt:∀t∈tt,H t=some (TbO t)/\t≠x)(n:HQ (frs X.stack) tt x T fl (.ref C) d s.heap h1)(k2:∀b,b≠T->h2.get? b=h1.get? b)
  (t2:∃o ts,h2.get? T=some o/\o.data=.fields ts/\ts[3]?=some Value.none):H T=none/\T≠x/\Un (frs X.stack) [] H (thrown H x C d T) s.heap h2/\HOk X.prog X.w (thrown H x C d T) h2:=by
 have hT:H T=none:=by
  cases q:H T with
  |none=>rfl
  |some u =>
   obtain⟨o,ho⟩:=(I.hok T u q).there;rw[n.nT]at ho;cases ho
 have nTx:T≠x:=λ z=>by rw[z,hx]at hT;cases hT
 have tn:∀b o,s.heap.get? b=some o->b≠T:=λ b o e z=>by rw[z,n.nT]at e;cases e
 have un:∀b,H b=none->b≠x:=λ b e z=>by rw[z,hx]at e;cases e
 have ut:∀b,H b=none->b∉tt:=λ b e z=>by rw[(htt b z).1]at e;cases e
 have hb:∀b u,H b=some u->b≠T:=λ b u e z=>by rw[z,hT]at e;cases e
 have old:∀t∈tt,∃o' ts',h2.get? t=some o'/\o'.data=.fields ts'/\ts'[3]?=some Value.none:=λ t ht=>by
  obtain⟨e,ne⟩:=htt t ht;obtain⟨⟨o,ts,e1,e2,e3⟩,_⟩:=(show ObjOk X.prog X.w H s.heap t (TbO t) from I.hok t _ e);obtain⟨o',ts',f1,f2,f3⟩:=n.old t o ts ht ne e1 e2 (Array.getElem?_eq_some_iff.mp e3).1;exact⟨o',ts',(k2 t (hb t _ e)).trans f1,f2,f3⟩
 have exc:∃vs sl,h2.get? x=some ⟨.ref C,d,.fields vs,sl⟩/\vs[1]?=some (.ref T):=by
  obtain⟨vs,sl,e1,e2⟩:=n.exc;exact⟨vs,sl,(k2 x (Ne.symm nTx)).trans e1,e2⟩
 have ne_ext:∀b u,H b=some u->(∀ψ,u≠.ext ψ)->b≠x:=λ b u e z q=>by rw[q,hx]at e;cases e;exact z _ rfl
 refine⟨hT,nTx,⟨λ b o q e nf _=>?_,λ b o q e bf _=>?_,λ b o q e _=>?_,λ b o q _=>?_,λ b xs e=>?_,λ b o u e=>?_,λ b ps e=>⟨#[],?_⟩⟩,λ b u e=>?_⟩
 .exact(k2 b (tn b o q)).trans (n.keep b o (un b e) nf (ut b e) q)
 .obtain⟨sl,z⟩:=n.slot b o bf q;exact⟨sl,(k2 b (tn b o q)).trans z⟩
 .rw[AL (un b e) (tn b o q)];exact e
 .by_cases z:b=x
  .obtain⟨vs,sl,e1,_⟩:=exc;exact⟨_,z ▸ e1⟩
  .by_cases zf:b∈frs X.stack
   .obtain⟨sl,z⟩:=n.slot b o zf q;exact⟨_,(k2 b (tn b o q)).trans z⟩
   .by_cases zt:b∈tt
    .obtain⟨o',_,e1,_⟩:=old b zt;exact⟨o',e1⟩
    .exact⟨o,(k2 b (tn b o q)).trans (n.keep b o z zf zt q)⟩
 .rw[AL (ne_ext b _ e λ ψ z=>by cases z) (hb b _ e)];exact e
 .rw[AL (ne_ext b _ e λ ψ z=>by cases z) (hb b _ e)];exact e
 .rw[AL (ne_ext b _ e λ ψ z=>by cases z) (hb b _ e),e];simp
 .by_cases z:b=x
  .subst z;rw[CM]at e;cases e;obtain⟨vs,sl,e1,e2⟩:=exc;exact Rq e1 e2
  .by_cases zT:b=T
   .subst zT;rw[E3 nTx]at e;cases e;exact Me t2
   .rw[AL z zT]at e;by_cases zt:b∈tt
    .rw[(htt b zt).1]at e;cases e;exact Me (old b zt)
    .have own_ne:∀c,H c=some (.own b)->c≠x/\c≠T:=λ c hc=>⟨ne_ext c _ hc (λ ψ z=>by cases z),hb c _ hc⟩;refine(I.hok b u e).stay (λ c v hc q=>?_) (λ c q=>?_) λ c xs q=>?_
     .have hcH:∃y,H c=some y:=by
       rcases hc with rfl|hc
       .exact⟨u,e⟩
       .exact⟨_,hc⟩
      obtain⟨y,hy⟩:=hcH;refine(k2 c (hb c y hy)).trans (n.keep c v ?_ (λ zf=>by rw[I.stkFree c zf]at hy;cases hy) (λ zt'=>?_) q)
      .rcases hc with rfl|hc
       .exact z
       .exact(own_ne c hc).1
      .rcases hc with rfl|hc
       .exact zt zt'
       .rw[(htt c zt').1]at hc;cases hc
     .rw[AL (own_ne c q).1 (own_ne c q).2];exact q
     .rw[AL (ne_ext c _ q λ ψ z=>by cases z) (hb c _ q)];exact q
theorem F0{E:VPz}{Q:Unit->Shared->Prop}(I:Inv X pins σ H s)(hst:X.stack=X.env::X.outer)(hfr:X.env.frame=some X.env.locals)(hf:NO H x C d\/∃T,CZ H x C d T)
  (h:∀h' T,H T=none->T≠x->Inv X pins σ (thrown H x C d T) { s with heap:=h' }->Q () { s with heap:=h' }) :
  wpAny (model X.prog X.w) X.A (noteFrame (.ref x) X.env) (λ_ s₂=>wpAny (model X.prog X.w) X.A (setFlight (.ref x) none) Q E s₂) E s:=by
 have fr:X.A.frames=some (X.env::X.outer):=hst ▸ I.ok.frames;have ff:s.heap.FunFrames X.base (X.env::X.outer):=hst ▸ I.stack;have rest:∀{φ:Heap->Prop}{tt:List Addr}(hx:H x=some (.ext φ))(htt:∀t∈tt,H t=some (TbO t)/\t≠x)(h1:Heap)(T:Addr),HQ (frs (X.env::X.outer)) tt x T (rawInt X.env.locals) (.ref C) d s.heap h1 ->
   wpAny (model X.prog X.w) X.A (setFlight (.ref x) none) Q E { s with heap:=h1 }:=λ{φ tt} hx htt h1 T n=>by
  obtain⟨vs,sl,e1,e2⟩:=n.exc;obtain⟨o,ts,f1,f2,f3⟩:=n.tb;refine Hm (s:={ s with heap:=h1 }) e1 e2 f1 f2 (Array.getElem?_eq_some_iff.mp f3).1 λ h2 k2 t2=>?_;obtain⟨hT,nT,un,ok⟩:=QT I hx htt (hst ▸ n) k2 t2;exact h h2 T hT nT (I.call (g':=s.gens) (d':=s.drawn) (t':=s.toks) (ch:=[]) un ok I.bare (λ b z=>absurd z (by simp)))
 rcases hf with (⟨rfl,hx⟩|⟨dx,rfl,hx⟩)|⟨T,hx,hT,ne⟩
 .obtain⟨⟨vs,sl,e1,e2⟩,_⟩:=(show ObjOk X.prog X.w H s.heap x (IK C x) from I.hok x _ hx);exact Ls fr ff hfr e1 e2 λ h1 T n=>rest (tt:=[]) hx (λ t z=>absurd z (by simp)) h1 T n
 .obtain⟨⟨vs,sl,e1,e2⟩,_⟩:=(show ObjOk X.prog X.w H s.heap x (DJ C dx x) from I.hok x _ hx);exact Ls fr ff hfr e1 e2 λ h1 T n=>rest (tt:=[]) hx (λ t z=>absurd z (by simp)) h1 T n
 .obtain⟨⟨vs,sl,e1,e2⟩,_⟩:=(show ObjOk X.prog X.w H s.heap x (IJ C d x T) from I.hok x _ hx);obtain⟨⟨o,ts,f1,f2,f3⟩,_⟩:=(show ObjOk X.prog X.w H s.heap T (TbO T) from I.hok T _ hT);exact Ol fr ff hfr e1 e2 f1 f2 f3 ne λ h1 T' n=>rest (tt:=[T]) hx (λ t z=>by rw[List.mem_singleton.mp z];exact⟨hT,ne⟩) h1 T' n
theorem Os{E:VPz}{Q:Unit->Shared->Prop}(I:Inv X pins σ H s)(hst:X.stack=X.env::X.outer)(hfr:X.env.frame=some X.env.locals)(hf:NO H x C d\/∃T,CZ H x C d T)
  (h:∀h' T,H T=none->T≠x->Inv X pins σ (thrown H x C d T) { s with heap:=h' }->Q () { s with heap:=h' }):wpAny (model X.prog X.w) X.A (leaving X.env (.ref x)) Q E s:=by
 unfold leaving;exact wpAny_bind (F0 I hst hfr hf h)
end
def CX1(P:Program)(w:World):CXT:=λ outer H s E e s'=>∃x T C d H',e=Value.ref x/\s'.os=s.os/\AllBare s'.gens/\Un (frs outer) [] H H' s.heap s'.heap/\HOk P w H' s'.heap/\CZ H' x C d T/\E (.ref x) d H'
def SQ(X:Cx)(E:XK):Prop:=∀(pins:PNz)(σ:St)(H:Hp)(s:Shared)(x C:Addr)(d:Option Addr),Inv X pins σ H s->(NO H x C d\/∃T,CZ H x C d T) ->
 (∀T,H T=none->T≠x->E (.ref x) d (thrown H x C d T))->X.xe (.ref x) s
section
variable{P:Program}{w:World}{K:Frag}{mg:MGz}{base:Heap}{N:LSz}{qual:Str}{scope:Scope}{f:Addr}{cd:Value}{A:Around}{outer:List Env}{s:Shared}{H:Hp}{E E₁:XK}
theorem BD:SQ (Bv (CX1 P w) P w K mg base N qual scope f cd A outer s H E) E:=by
 intro pins σ H1 s1 x C d I hf hE;exact Os I rfl rfl hf λ h' T hT nT I'=>⟨x,T,C,d,_,rfl,I'.os,I'.bare,I'.base,I'.hok,⟨CM,E3 nT,nT⟩,hE T hT nT⟩
theorem Ms:PassesOwn (model (Bv (CX1 P w) P w K mg base N qual scope f cd A outer s H E).prog (Bv (CX1 P w) P w K mg base N qual scope f cd A outer s H E).w) (Bv (CX1 P w) P w K mg base N qual scope f cd A outer s H E).A (Bv (CX1 P w) P w K mg base N qual scope f cd A outer s H E).env (Bv (CX1 P w) P w K mg base N qual scope f cd A outer s H E).xe:=PassesOwn.leaving
end
section
variable{X:Cx}{E E₁:XK}
theorem Em(hX:SQ X E)(h:∀x C d T T2 H',E₁ (.ref x) d H'->CZ H' x C d T->H' T2=none->T2≠x->E (.ref x) d (thrown H' x C d T2)):Ci (CX1 X.prog X.w) X E₁:=by
 rintro pins σ H s e s' I ⟨x,T,C,d,H',rfl,os,bare,un,hok,fl,q⟩;obtain⟨hh,g,dr,t,os'⟩:=s';obtain rfl:os'=s.os:=os;exact hX pins σ H' _ x C d (I.call (h':=hh) (g':=g) (d':=dr) (t':=t) (ch:=[]) un hok bare (λ b z=>absurd z (by simp))) (.inr ⟨T,fl⟩) λ T2 h2 n2=>h x C d T T2 H' q fl h2 n2
end
theorem Fun.okx{P:Program}{w:World}{K:Frag}{mg:MGz}{base:Heap}{x qual:Str}{st:Stmt}{f:Addr}{fd:FuncData}{N ps:LSz}{k:Nat}{sp:Sp}(F:Fun K x qual st f fd)(S:Al N ps (Ah st))(len:∀vs H Q E,sp vs H Q E->vs.length=ps.length)
  (hbody:∀(cdv:Value)(A:Around)(outer:List Env)(s:Shared)(H:Hp)(vs:LUz)(Q:VK)(E:XK),Room k (A.deeper (envOfC qual (Ah st) s.heap.objs.size f cdv))->sp vs H Q E ->
   ∃t,PSs (Bv (CX1 P w) P w K mg base N qual (Ah st) f cdv A outer s H E) (AB st) t/\t { nx:=λ_ H'=>Q .non H',rt:=Q } (start N vs) H):A9 P w K mg base (CX1 P w) (k+1) f fd ps sp:=by
 obtain⟨oc,od,kV,doc,pm,an,cdv,ct,osl,rfl,lk,hcd⟩:=F.ex;exact N7 lk hcd S len λ A outer s H vs Q E hr hsp=>hbody cdv A outer s H vs Q E hr hsp
structure BR(P:Program)(w:World)(K:Frag)(mg:MGz)(base:Heap)(k:Nat)(x:Str)(ps:LSz)(sp:Sp):Prop where
 ex:∃(f:Addr)(fd:FuncData),A9 P w K mg base (CX1 P w) k f fd ps sp/\mg x=some (.ref f)/\keepIn K (.ref f)=true/\Binds K fd ps []
structure Qx(P:Program)(w:World)(K:Frag)(mg:MGz)(base:Heap)(k:Nat)(x:Str)(C:Addr)(ps:LSz)(sp:Sp):Prop where
 ex:∃(f:Addr)(fd:FuncData),Mk K C f/\A9 P w K mg base (CX1 P w) k f fd ps sp/\mg x=some (.ref C)/\Binds K fd ps []
def Sa(C:Addr)(names:LSz)(E:XK)(t:TA):TS:=λ_ σ H=>t σ H λ vs H1=>vs.length=names.length /\
 ∀y dx T H2,H1 y=none->Same H1 H2->H2 y=some (DJ C dx y)->H2 dx=some (DK dx (names.zip vs))->dx≠y->H2 T=none->T≠y->E (.ref y) (some dx) (thrown H2 y C (some dx) T)
section
variable{X:Cx}{k j:Nat}{x:Str}{C:Addr}{ps names:LSz}{sp:Sp}{p pos cpos:Pos}{e:Expr}{es:List Expr}{t:TA}{E E₁:XK}
theorem D7(D:BR X.prog X.w X.K X.mg X.base k x ps sp)(hr:Room j X.A)(hx:Ci (CX1 X.prog X.w) X E₁)(ha:PA X (e::es) t)(hj:k<=j:=by decide)(hg:Gl X x:=by rfl)(hdb:(x==("__debug__":Str))=false:=by decide)
  (he:starEach (e::es) X.env=(false,eval e X.env)::starEach es X.env:=by rfl) (hpl:(backTo pos (starEach es X.env)).any (·.1)=false:=by rfl):PE X (.Call (.Name x p) (e::es) [] pos) (IX sp [] E₁ t):=by
 obtain⟨f,fd,F,hm,hk,hb⟩:=D.ex;exact Nz F (hr.mono hj) hg hm hk hb .nil hx ha hdb he hpl
theorem Si(D:Qx X.prog X.w X.K X.mg X.base k x C ps sp)(hr:Room j X.A)(hx:Ci (CX1 X.prog X.w) X E₁)(ha:PA X (e::es) t)(hj:k+1<=j:=by decide)(hg:Gl X x:=by rfl)(hdb:(x==("__debug__":Str))=false:=by decide)
  (he:starEach (e::es) X.env=(false,eval e X.env)::starEach es X.env:=by rfl) (hpl:(backTo pos (starEach es X.env)).any (·.1)=false:=by rfl):PE X (.Call (.Name x p) (e::es) [] pos) (OT C sp [] E₁ t):=by
 obtain⟨f,fd,M,F,hm,hb⟩:=D.ex;exact Nx M F (hr.mono hj) hg hm hb .nil hx ha hdb he hpl
theorem EA(hX:SQ X E)(D:JE X.prog X.w X.K X.mg X.base k x C ps names)(hr:Room j X.A)(ha:PA X (e::es) t)(hc:X.calm=true:=by rfl)(hj:k+1<=j:=by decide)(hg:Gl X x:=by rfl)(hdb:(x==("__debug__":Str))=false:=by decide)
  (he:starEach (e::es) X.env=(false,eval e X.env)::starEach es X.env:=by rfl) (hpl:(backTo cpos (starEach es X.env)).any (·.1)=false:=by rfl):PS X (.Raise (some (.Call (.Name x p) (e::es) [] cpos)) none pos) (Sa C names E t):=by
 intro pins s σ H Dd I h;obtain⟨f,fd,M,F,hm,hb⟩:=D.ex;have pe:wpAny (model X.prog X.w) X.A (eval (.Call (.Name x p) (e::es) [] cpos) X.env) (EP X pins σ λ v H2=>∃y d,v=V.ref y/\NO H2 y C d/\∀T,H2 T=none->T≠y->E (.ref y) d (thrown H2 y C d T)) X.xe s:=by
  refine wpAny_Call_Name_kw (DU I hg hm ?_ hdb);refine callWith_K (h₀:=X.base) I.ok.mod.kin M.kp (thn (ha cpos pins s σ H _ I h) λ us s1 ⟨vs,H1,I1,r,hl,q⟩=>⟨I1.kIn,?_⟩) he hpl;refine QI M F (hr.mono hj) hb GC I1 r (hl ▸ D.few) λ y hy=>⟨y,vs,rfl,hl,Ac,λ d H' hd h1 h2 hs=>⟨rfl,y,some d,rfl,.inr ⟨d,rfl,h1⟩,λ T hT nT=>?_⟩⟩;refine q y d T H' hy (λ a o ho=>hs a o (Af ho hy) ?_) h1 h2 (λ z=>by rw[z,Ac]at hd;cases hd) hT nT;rw[Ai (Af ho hy)];exact ho
 rw[arm_exec_Raise];simp only[evalOpt,Option.map];refine wpAny_bind (wpAny_standAt (Ml M (I.ok.hd hc) ?_));refine wpAny_bind (thn pe λ v s1 ⟨u,H2,I2,r,y,d,ey,fr,hE⟩=>wpAny_bind (wpAny_standAt (wpAny_pure ?_)));subst ey;obtain rfl:v=Value.ref y:=r;have ob:∃vs sl,s1.heap.get? y=some ⟨.ref C,d,.fields vs,sl⟩/\vs[1]?=some Value.none:=by
  rcases fr with ⟨rfl,hx⟩|⟨dx,rfl,hx⟩
  .exact(show ObjOk X.prog X.w H2 s1.heap y (IK C y) from I2.hok y _ hx).1
  .exact(show ObjOk X.prog X.w H2 s1.heap y (DJ C dx y) from I2.hok y _ hx).1
 obtain⟨vs,sl,e1,e2⟩:=ob;exact⟨y,d,vs,sl,rfl,I2.kIn,e1,e2,hX pins σ H2 s1 y C d I2 (.inl fr) hE⟩
end
def Do:Nat->Heap
 |0=>{}
 |n+1=>(Do n).push { cls:=.type "dict",data:=.dict #[] }
theorem Dn:∀n,(Do n).objs.size=n
 |0=>rfl
 |n+1=>by rw[Do,Heap.size_push,Dn n]
theorem LC{C C' x T T':Addr}{d d':Option Addr}(h:IJ C d x T=IJ C' d' x T'):C=C'/\d=d'/\T=T':=by
 have h:(HO.ext λ h=>∃vs sl,h.get? x=some ⟨.ref C,d,.fields vs,sl⟩/\vs[1]?=some (.ref T))=HO.ext λ h=>∃vs sl,h.get? x=some ⟨.ref C',d',.fields vs,sl⟩/\vs[1]?=some (.ref T'):=h;injection h with h;have e:=congrFun h ((Do x).push ⟨.ref C,d,.fields #[.none,.ref T],#[]⟩);have g:((Do x).push ⟨.ref C,d,.fields #[.none,.ref T],#[]⟩).get? x=some ⟨.ref C,d,.fields #[.none,.ref T],#[]⟩:=Heap.get?_push_at (Dn x).symm rfl;have q:=e.mp ⟨_,_,g,rfl⟩;obtain⟨vs,sl,e1,e2⟩:=q;rw[g]at e1;cases e1;cases e2;exact⟨rfl,rfl,rfl⟩
def XR(H:Hp)(x C:Addr)(d:Option Addr)(fs:LFz):Prop:=(∃dx,d=some dx/\dx≠x/\H dx=some (DK dx fs))/\∃T,H x=some (IJ C d x T)
theorem RJ{H1 H2:Hp}{y C dx T:Addr}{fs:LFz}(hy:H1 y=none)(s:Same H1 H2)(e:H2 y=some (DJ C dx y))(ed:H2 dx=some (DK dx fs))(hT:H2 T=none)(nd:dx≠y) :
  XR (thrown H2 y C (some dx) T) y C (some dx) fs/\Same H1 (thrown H2 y C (some dx) T) :=
 ⟨⟨⟨dx,rfl,nd,by rw[AL nd (Af ed hT)];exact ed⟩,T,CM⟩,λ a o ho=>by rw[AL (Af ho hy) (Af (s a o ho) hT)];exact s a o ho⟩
theorem SW{H H1:Hp}{x C C':Addr}{d:Option Addr}{T T2:Addr}{fs:LFz}(hx:H1 x=none)(s:Same H1 H)(r:XR H x C d fs)(fl:CZ H x C' d T)(hT:H T2=none) :
  C=C'/\XR (thrown H x C' d T2) x C d fs/\Same H1 (thrown H x C' d T2):=by
 obtain⟨⟨dx,rfl,nd,ed⟩,T',e⟩:=r;have q:C=C':=by
  have:=fl.1;rw[e]at this;exact(LC (Option.some.inj this)).1
 subst q;exact⟨rfl,⟨⟨dx,rfl,nd,by rw[AL nd (Af ed hT)];exact ed⟩,T2,CM⟩,λ a o ho=>by rw[AL (Af ho hx) (Af (s a o ho) hT)];exact s a o ho⟩
def Rf(H:Hp)(E:XK)(C:Addr)(P:LFz->Hp->Prop):Prop:=∀x d fs H',H x=none->Same H H'->XR H' x C (some d) fs->P fs H'->E (.ref x) (some d) H'
theorem Rf.raise{H H1 H2:Hp}{E:XK}{C y dx T:Addr}{P:LFz->Hp->Prop}{fs:LFz}(r:Rf H E C P)(s1:Same H H1)(hy:H1 y=none)(s:Same H1 H2)(e:H2 y=some (DJ C dx y))(ed:H2 dx=some (DK dx fs))(nd:dx≠y)
  (hT:H2 T=none) (p:P fs (thrown H2 y C (some dx) T)):E (.ref y) (some dx) (thrown H2 y C (some dx) T):=by
 obtain⟨a,b⟩:=RJ hy s e ed hT nd;have hy0:H y=none:=by
  cases q:H y with
  |none=>rfl
  |some o=>rw[s1 y o q]at hy;cases hy
 exact r y dx fs _ hy0 (s1.trans b) a p
def XE(H:Hp)(R:Addr->LFz->Hp->Prop):XK:=λ v d H'=>∃x C dx fs,v=.ref x/\d=some dx/\H x=none/\Same H H'/\XR H' x C (some dx) fs/\R C fs H'
theorem XE.on{H H0:Hp}{R:Addr->LFz->Hp->Prop}{E:XK}(s0:Same H0 H)(st:∀C fs H' x C' d T2,R C fs H'->(∃φ,H' x=some (.ext φ))->H' T2=none->R C fs (thrown H' x C' d T2))(hE:∀C,Rf H0 E C (R C)) :
  ∀x C d T T2 H',XE H R (.ref x) d H'->CZ H' x C d T->H' T2=none->T2≠x->E (.ref x) d (thrown H' x C d T2):=by
 rintro x C d T T2 H' ⟨x',C',dx,fs,ev,rfl,hx,s,r,p⟩ fl hT2 nT2;obtain rfl:x=x':=Value.ref.inj ev;have hx0:H0 x=none:=by
  cases q:H0 x with
  |none=>rfl
  |some o=>rw[s0 x o q]at hx;cases hx
 obtain⟨rfl,r2,s2⟩:=SW hx s r fl hT2;exact hE C' x dx fs _ hx0 (s0.trans s2) r2 (st C' fs H' x C' (some dx) T2 p ⟨_,fl.1⟩ hT2)
def Stb(P:LFz->Hp->Prop):Prop:=∀fs H' x C' d T2,P fs H'->(∃φ,H' x=some (.ext φ))->H' T2=none->P fs (thrown H' x C' d T2)
theorem Gs{l:LFz}:Stb λ fs _=>fs=l:=λ_ _ _ _ _ _ p _ _=>p
def RU(H:Hp)(E:XK):Addr->LFz->Hp->Prop:=λ C fs H'=>∃P,Rf H E C P/\P fs H'/\Stb P
theorem GA{H:Hp}{E:XK}:∀x C d T T2 H',XE H (RU H E) (.ref x) d H'->CZ H' x C d T->H' T2=none->T2≠x->E (.ref x) d (thrown H' x C d T2) :=
 XE.on (Same.refl H) (λ C fs H' x C' d T2 ⟨P,r,p,st⟩ hx hT=>⟨P,r,st fs H' x C' d T2 p hx hT,st⟩) λ C x d fs H' hx s r ⟨P,rf,p,_⟩=>rf x d fs H' hx s r p
theorem Pj{H H2:Hp}{E:XK}{C:Addr}{P:LFz->Hp->Prop}(s:Same H H2)(r:Rf H E C P)(st:Stb P):Rf H2 (XE H (RU H E)) C P:=λ x d fs H' hx s2 xr p=>by
 have hx0:H x=none:=by
  cases q:H x with
  |none=>rfl
  |some o=>rw[s x o q]at hx;cases hx
 exact⟨x,C,d,fs,rfl,rfl,hx0,s.trans s2,xr,P,r,p,st⟩
section
variable{X:Cx}{pins:PNz}{σ:St}{H:Hp}{s:Shared}
abbrev Cx.suite(X:Cx)(x:Addr):Cx:={ X with A:=X.A.mark (some (.ref x)),calm:=false,xe:=λ_ _=>False }
theorem Inv.suite(I:Inv X pins σ H s)(x:Addr):Inv (X.suite x) pins σ H s :=
 ⟨⟨I.ok.mod,I.ok.kind,I.ok.glob,I.ok.blt,I.ok.above,I.ok.inj,I.ok.has,I.ok.cab,(λ z=>nomatch z),I.ok.frames,I.ok.stk,I.ok.exf,I.ok.bs,I.ok.bsz,I.ok.noex,I.ok.exfs,I.ok.funs,I.ok.frf⟩,I.os,I.bare,I.base,I.loc,I.cell,I.free,I.freeC,I.pin,I.hok,I.len⟩
theorem Inv.unsuite{ok:X.Ok}{x:Addr}(I:Inv (X.suite x) pins σ H s):Inv X pins σ H s :=
 ⟨ok,I.os,I.bare,I.base,I.loc,I.cell,I.free,I.freeC,I.pin,I.hok,I.len⟩
end
def PX(X:Cx)(e:Expr)(t:TE)(E:XK):Prop:=∀(pins:PNz)(s:Shared)(σ:St)(H:Hp)(Q:VK)(Ex:VPz),Inv X pins σ H s->t σ H Q ->
 (∀x T C d H' s',Inv X pins σ H' s'->CZ H' x C d T->E (.ref x) d H'->Ex (.ref x) s')->wpAny (model X.prog X.w) X.A (eval e X.env) (EP X pins σ Q) Ex s
section
variable{X:Cx}{k j:Nat}{x:Str}{C:Addr}{ps:LSz}{sp:Sp}{p pos:Pos}{e:Expr}{es:List Expr}{t:TA}{E:XK}
theorem To(D:BR X.prog X.w X.K X.mg X.base k x ps sp)(hr:Room j X.A)(ha:PA X.nox (e::es) t)(hj:k<=j:=by decide)(hg:Gl X x:=by rfl)(hdb:(x==("__debug__":Str))=false:=by decide)
  (he:starEach (e::es) X.env=(false,eval e X.env)::starEach es X.env:=by rfl) (hpl:(backTo pos (starEach es X.env)).any (·.1)=false:=by rfl):PX X (.Call (.Name x p) (e::es) [] pos) (IX sp [] E t) E:=by
 obtain⟨f,fd,F,hm,hk,hb⟩:=D.ex;intro pins s σ H Q Ex I h hx;refine wpAny_Call_Name_kw (DU I hg hm ?_ hdb);refine callWith_K (h₀:=X.base) I.ok.mod.kin hk (wpAny_mono (ha pos pins s σ H _ (I.wish _) h) (λ us s1 ⟨vs,H1,I1',r,q⟩=>⟨I1'.unwish.kIn,?_⟩) λ_ _ z=>False.elim z) he hpl;have I1:Inv X pins σ H1 s1:=I1'.unwish;have q:sp (vs++[]) H1 Q E:=q;rw[List.append_nil]at q;have hl:us.length=ps.length:=by rw[<-r.length];exact F.len _ _ _ _ q
 have hb2:=hb s1 us I1.kIn (by rw[List.append_nil];exact hl);rw[List.append_nil]at hb2;refine wpAny_call (codeAny_mono (F.run X.A X.stack s1 H1 ⟨us,[]⟩ us vs Q E (hr.mono hj) I1.env0 hb2 r q) λ r s' hq=>?_);cases r with
 |error e =>
  obtain⟨x,T,C,d,H',rfl,os,bare,un,hok,fl,q'⟩:=hq;exact hx x T C d H' s' (I1.call' (ch:=[]) os un hok bare (λ b z=>absurd z (by simp))) fl q'
 |ok fl =>
  cases fl with
  |ret u=>exact I1.after hq
  |next=>exact False.elim hq
  |brk=>exact False.elim hq
  |cont=>exact False.elim hq
end
def OU(wi:TI)(g:TG)(tc:TT)(te:TE)(fr:List (Option Nat)):TE:=λ σ H Q=>wi σ H λ J H1=>∀acc,H1 acc=none->∃W:Nat->Nat->St->Hp->Prop,(∃m,W 0 m (stC fr σ) (upd H1 acc (.lst [])))/\∀i m σ1 H2,W i m σ1 H2 ->
 (J.stop i H2/\Q (.ref acc) H2)\/(J.go i H2/\∀x H3,J.yld i H2 x H3->g x σ1 H3 λ σ4 H4=>tc σ4 H4 λ b Hb=>match b with
  |true=>te σ4 Hb λ v H5=>∃xs,H5 acc=some (.lst xs)/\xs.length<sizeLine/\∃m',m'<m/\W (i+1) m' σ4 (upd H5 acc (.lst (xs++[v])))
  |false=>∃m',m'<m/\W (i+1) m' σ4 Hb)
section
variable{prog:Program}{w:World}{A:Around}{R:Result->Shared->Prop}{s:Shared}
theorem Iy{elt target iter cnd:Expr}{scope:Scope}{pos:Pos}{it acc:Value}{env:Env}(I:Nat->Shared->Prop)
    (turn:∀n s,I n s->wpAny (model prog w) A (pyNext it) (λ r s₁=>match r with
      |none=>R (.ok .next) s₁
      |some v=>wpAny (model prog w) A (letOwnedTupleGo target it v) (λ_ s₁=>wpAny (model prog w) A (assign target env v) (λ_ s₂ =>
          wpAny (model prog w) A (forIn [cnd] true λ c r=>if r=true then do let ok <-isTrue c env (eval c env);pure (ForInStep.yield ok) else pure (ForInStep.yield r)) (λ ok s₃ =>
            if ok=true then wpAny (model prog w) A (eval elt env) (λ x s₄=>wpAny (model prog w) A (call (.builtin "list.append") [acc,x]) (λ_ s₅=>∃m,m<n/\I m s₅) (notedBy (model prog w) A env λ e s'=>R (.error e) s') s₄)
              (notedBy (model prog w) A env λ e s'=>R (.error e) s') s₃
            else ∃m,m<n/\I m s₃) (notedBy (model prog w) A env λ e s'=>R (.error e) s') s₂)
          (notedBy (model prog w) A env λ e s'=>R (.error e) s') s₁) (notedBy (model prog w) A env λ e s'=>R (.error e) s') s₁) (notedBy (model prog w) A env λ e s'=>R (.error e) s') s)
    (n:Nat) (h:I n s) :
    codeAny (model prog w) A (.compLoop (.ListComp elt [⟨target,iter,[cnd],0⟩] scope pos) 0 it acc env) R s:=by
  refine codeAny_loop rfl I (λ n s hI=>?_) n h;show wpAny _ _ ((compTurn (.ListComp elt [⟨target,iter,[cnd],0⟩] scope pos) 0 it acc env).onRaise (λ x=>do noteFrame x env;theTreesLotGoes x)) _ _ s;refine wpAny_noted ?_;rw[compTurn_list];refine wpAny_bind (wpAny_standAt (wpAny_bind (wpAny_mono (turn n s hI) (λ r s₁ h₁=>?_) λ_ _ h'=>h')));cases r with
  |none=>exact wpAny_pure h₁
  |some v =>
    refine wpAny_bind (wpAny_mono h₁ (λ_ s₁ h₁=>?_) λ_ _ h'=>h');refine wpAny_bind (wpAny_mono h₁ (λ_ s₂ h₂=>wpAny_bind (wpAny_mono h₂ (λ ok s₃ h₃=>?_) λ_ _ h'=>h')) λ_ _ h'=>h');cases ok with
    |false=>exact wpAny_pure ⟨rfl,h₃⟩
    |true=>exact wpAny_bind (wpAny_bind (wpAny_mono h₃ (λ x s₄ h₄=>wpAny_bind (wpAny_mono h₄ (λ_ s₅ h₅=>wpAny_pure (wpAny_pure ⟨rfl,h₅⟩)) λ_ _ h'=>h')) λ_ _ h'=>h'))
end
section
variable{X:Cx}{elt tg iter:Expr}{scope:Scope}{pos:Pos}{wi:TI}{g:TG}{te:TE}{N:LSz}{fr:List (Option Nat)}
variable{cnd:Expr}{tc:TT}
theorem MO{pins:PNz}{σ:St}{H:Hp}{s:Shared}{Q:VK}{cl:List (Str×Addr)}{R:Value->Addr->Result->Shared->Prop}(hc:X.calm=true)(I:Inv X pins σ H s)(hi:PI X tg iter wi)
  (hg:∀cl C s H ex,PG (AN X scope cl N C s H ex) tg g) (hcn:∀cl C s H ex,PT (AN X scope cl N C s H ex) cnd tc) (he:∀cl C s H ex,PE (AN X scope cl N C s H ex) elt te) (ck:ES X.env.scope X.N scope N fr)
  (c1:∀x c,cl.lookup x=some c->X.env.cells.lookup x=some c) (c2:∀x,(x,NameKind.free)∈scope.names->∃c,cl.lookup x=some c)
  (h:OU wi g tc te fr σ H Q)
  (hR:∀acc C s' H' m,s'.heap.Ns C m->Ew X pins H' C->Inv X pins σ H' s'->Q (.ref acc) H'->R (.ref acc) C (.ok .next) s') :
  wpAny (model X.prog X.w) X.A (eval iter X.env) (λ x s₁=>wpAny (model X.prog X.w) X.A (pyIter x) (λ it s₂=>wpAny (model X.prog X.w) X.A (newList []) (λ acc s₃ =>
   wpAny (model X.prog X.w) X.A (newFunctionEnv scope X.env.globals cl [] X.env.qual none .none (some X.env)) (λ cenv s₄ =>
    codeAny (model X.prog X.w) X.A (.compStart (.ListComp elt [⟨tg,iter,[cnd],0⟩] scope pos) 0 it acc { cenv with scope:=relabel scope X.env }) (R acc cenv.locals) s₄) X.xe s₃) X.xe s₂) X.xe s₁) X.xe s:=by
 refine thn (hi pins s σ H _ I h) λ v s1 h1=>thn h1 λ itv s2 h2=>?_;obtain⟨it,fp,tn,J,H2,e,I2,T,st2,f2,q2⟩:=h2;subst e;refine wpAny_newObj_type (wpAny_newFunctionEnv ck.nocell (by intro y hy;simp at hy) (λ h₁ hns₁ hsb₁=>?_) ck.kind);dsimp only at hns₁ hsb₁ |-;have I3:Inv X pins σ (upd H2 s2.heap.objs.size (.lst [])) { s2 with heap:=s2.heap.push { cls:=.type "list",dict:=none,data:=.seq ([]:LWz).toArray } }:=I2.lnew (t':=s2.toks) (its:=[]) .nil (Nat.zero_le _);have acc0:H2 s2.heap.objs.size=none:=I2.fresh;obtain⟨W,⟨m0,w0⟩,turn⟩:=q2 s2.heap.objs.size acc0;generalize hH3:s2.heap.push { cls:=.type "list",dict:=none,data:=.seq ([]:LWz).toArray }=h3 at hns₁ hsb₁ I3 |-;have hz3:h3.objs.size=s2.heap.objs.size+1:=by rw[<-hH3,Heap.size_push]
 have k23:∀b o,s2.heap.get? b=some o->h3.get? b=some o:=λ b o e=>by rw[<-hH3];exact Heap.get?_push_of_some _ e
 have k34:∀b o,h3.get? b=some o->h₁.get? b=some o:=λ b o e=>hsb₁.extBut b o (Nat.ne_of_lt (Heap.lt_size e)) (Heap.get?_push_of_some _ e);have fpo:∀b∈fp,∃o,s2.heap.get? b=some o/\∀v,o.data≠.cell v:=T.obj 0 _ st2;have hex:∀b∈fp,Ew X pins (upd H2 s2.heap.objs.size (.lst [])) b/\b<h3.objs.size:=λ b hb=>by
  obtain⟨o,eo,_⟩:=fpo b hb;have lt:=Heap.lt_size eo;obtain⟨f0,fr'⟩:=f2 b hb;exact⟨⟨by rw[Ai (Nat.ne_of_lt lt)];exact f0,fr'⟩,by rw[hz3];exact Nat.lt_succ_of_lt lt⟩
 have I4:Inv (AN X scope cl N h3.objs.size { s2 with heap:=h3 } (upd H2 s2.heap.objs.size (.lst [])) fp) [] (stC fr σ) (upd H2 s2.heap.objs.size (.lst [])) { s2 with heap:=h₁,toks:=s2.toks+([]:List (Str×Value)).length } :=
  HF I3 ck c1 c2 hex (Nat.le_refl _) hns₁ k34 rfl rfl
 have stat:∀{H':Hp},(∀b∈fp,H' b=none)->∀b∈fp,Ew (AN X scope cl N h3.objs.size { s2 with heap:=h3 } (upd H2 s2.heap.objs.size (.lst [])) fp) [] H' b:=λ hn b hb =>
  ⟨hn b hb,(I4.ok.exf b hb).1,I4.ok.exfs b hb,.inl hb,(I4.ok.exf b hb).2,λ p hp=>by simp at hp⟩
 have stn:∀i h h',tn i h->(∀b o,h.get? b=some o->h'.get? b=some o)->tn i h':=λ i h h' st kk=>T.keep i h h' st λ b _ o e=>kk b o e;have loop:codeAny (model X.prog X.w) X.A (.compLoop (.ListComp elt [⟨tg,iter,[cnd],0⟩] scope pos) 0 (.ref it) (.ref s2.heap.objs.size) (compEnvC scope cl h3.objs.size X.env)) (R (.ref s2.heap.objs.size) h3.objs.size)
   { s2 with heap:=h₁,toks:=s2.toks+([]:List (Str×Value)).length }:=by
  refine Iy (λ n s'=>∃i σ' H',Inv (AN X scope cl N h3.objs.size { s2 with heap:=h3 } (upd H2 s2.heap.objs.size (.lst [])) fp) [] σ' H' s'/\tn i s'.heap/\(∀b∈fp,H' b=none)/\W i n σ' H') ?_ m0
   ⟨0,_,_,I4,stn _ _ _ st2 λ b o e=>k34 b o (k23 b o e),λ b hb=>(hex b hb).1.1,w0⟩
  rintro n s3 ⟨i,σ3,H3,J3,st3,fr3,w3⟩;rcases turn i n σ3 H3 w3 with ⟨stop,qn⟩|⟨go,step⟩
  .refine Bw (thn (T.done (AN X scope cl N h3.objs.size { s2 with heap:=h3 } (upd H2 s2.heap.objs.size (.lst [])) fp) rfl rfl rfl hc i [] s3 σ3 H3 (λ_ _=>False) J3 (stat fr3) st3 stop) λ r s4 hz_=>?_);obtain⟨hr,J4⟩:=hz_;subst hr;obtain⟨mc,hmc,_⟩:=J4.loc;have I5:Inv X pins σ H3 s4:=I3.call' (ch:=fp) J4.os J4.base J4.hok J4.bare λ b hb=>⟨(hex b hb).1.2.2.2.1,(hex b hb).1.2.1,(hex b hb).1.2.2.2.2.1,(hex b hb).1.2.2.2.2.2⟩;exact hR _ _ s4 H3 mc hmc (I3.fpOk (Nat.le_refl _) J4.free) I5 qn
  .refine Bw (thn (T.item (AN X scope cl N h3.objs.size { s2 with heap:=h3 } (upd H2 s2.heap.objs.size (.lst [])) fp) rfl rfl rfl hc i [] s3 σ3 H3 (λ_ _=>False) J3 (stat fr3) st3 go) λ r s4 hz_=>?_);obtain⟨u,hr,h4⟩:=hz_;subst hr;refine Bw (thn h4 λ_ s5 hz_=>?_);obtain⟨x,H5,J5,r5,y5,st5,fr5⟩:=hz_;have J5':=J5.pinned (stat fr5) (T.obj _ _ st5);refine Bw (thn (hg _ _ _ _ _ _ s5 σ3 H5 x u _ J5' r5 (step x H5 y5)) λ_ s6 hz_=>?_);obtain⟨σ6,H6,J6,q6⟩:=hz_;refine wpAny_tests_one (Bw (thn (hcn _ _ _ _ _ _ s6 σ6 H6 _ J6 q6) λ b sb hz_=>?_));obtain⟨Hb,Jb,qb⟩:=hz_;cases b with
   |false =>
    obtain⟨m',hm',w7⟩:=qb;refine ite_ff ⟨m',hm',i+1,σ6,_,Jb.unpinned,T.keep _ _ _ st5 λ b hb o e=>(Jb.pin (b,o) (List.mem_append_right _ (List.mem_append_right _ (Bg hb e)))).1,λ b hb=>?_,w7⟩;obtain⟨o,e,d⟩:=T.obj _ _ st5 b hb;exact(Jb.pin (b,o) (List.mem_append_right _ (List.mem_append_right _ (Bg hb e)))).2.1
   |true =>
    refine ite_tt ?_;refine Bw (thn (he _ _ _ _ _ _ sb σ6 Hb _ Jb qb) λ y s7 hz_=>?_);obtain⟨v7,H7,J7,r7,xs,hx,hz,m',hm',w7⟩:=hz_;refine Bw (thn (Bl _ s7 σ6 H7 (.ref s2.heap.objs.size) [v7] (.ref s2.heap.objs.size) [y] (λ v H8=>H8=upd H7 s2.heap.objs.size (.lst (xs++[v7]))) J7 rfl (.cons r7 .nil) ⟨_,xs,v7,rfl,rfl,hx,hz,rfl⟩) λ_ s8 hz_=>?_);obtain⟨_,H8,J8,_,e8⟩:=hz_;subst e8;refine⟨m',hm',i+1,σ6,_,J8.unpinned,T.keep _ _ _ st5 λ b hb o e=>(J8.pin (b,o) (List.mem_append_right _ (List.mem_append_right _ (Bg hb e)))).1,λ b hb=>?_,w7⟩;obtain⟨o,e,d⟩:=T.obj _ _ st5 b hb;exact(J8.pin (b,o) (List.mem_append_right _ (List.mem_append_right _ (Bg hb e)))).2.1
 exact codeAny_compStart_list loop (T.self _ 0 _ _ _ (stn _ _ _ st2 λ b o e=>k34 b o (k23 b o e)) loop)
theorem Li(hc:X.calm=true)(hi:PI X tg iter wi)(hg:∀cl C s H ex,PG (AN X scope cl N C s H ex) tg g)(hcn:∀cl C s H ex,PT (AN X scope cl N C s H ex) cnd tc)(he:∀cl C s H ex,PE (AN X scope cl N C s H ex) elt te)
  (hk:EI X.env.scope X.N scope N fr=true:=by rfl) (hs:∀x,foldedSetIterable iter X.env x=pure x:=by intro _;rfl):PE X (.ListComp elt [⟨tg,iter,[cnd],0⟩] scope pos) (OU wi g tc te fr):=by
 intro pins s σ H Q I h;have ck:=Et hk;obtain⟨cl,e1,c1,c2⟩:=Ky I.ok ck;rw[eval_ListComp];refine wpAny_comprehension_free (use:=none) (Q:=EP X pins σ Q) rfl hs e1 ck.kind ck.loc (MO (R:=λ acc C=>compPost (model X.prog X.w) X.A X.xe none (EP X pins σ Q) acc C) hc I hi hg hcn he ck c1 c2 h λ acc C s' H' m hn f I' q=>?_);obtain⟨f0,f1,f2,f3,f4,f5⟩:=f;exact⟨m,hn,λ h' hs'=>⟨.ref acc,H',I'.turned (t':=s'.toks) (λ b o hb e=>hs'.extBut b o hb e) f0 f1 f3 f4 f5,rfl,q⟩⟩
end
section
variable{X:Cx}{a b c d:Expr}{ta tb tc td:TE}{pos:Pos}
theorem B6{K:Frag}(hK:X.K=K:=by rfl):IxR X (Ob K):=by subst hK;exact Ar
end
def fW(acc:Addr)(n:Nat)(Pv:Nat->LUz->St->Hp->Prop)(i m:Nat)(σ:St)(H:Hp):Prop:=i<=n/\m=n-i/\∃xs,xs.length<=i/\H acc=some (.lst xs)/\Pv i xs σ H
def fNx(acc:Addr)(n:Nat)(Pv:Nat->LUz->St->Hp->Prop)(i:Nat)(σ:St)(v:V)(H:Hp):Prop:=∃xs,H acc=some (.lst xs)/\xs.length<sizeLine/\∃m',m'<n-i/\fW acc n Pv (i+1) m' σ (upd H acc (.lst (xs++[v])))
def fSk(acc:Addr)(n:Nat)(Pv:Nat->LUz->St->Hp->Prop)(i:Nat)(σ:St)(H:Hp):Prop:=∃m',m'<n-i/\fW acc n Pv (i+1) m' σ H
theorem fNx.mk{acc:Addr}{n:Nat}{Pv:Nat->LUz->St->Hp->Prop}{i:Nat}{σ:St}{v:V}{H:Hp}{xs:LUz}(hn:n<=sizeLine)(hi:i<n)(hl:xs.length<=i)(ha:H acc=some (.lst xs))(hp:Pv (i+1) (xs++[v]) σ (upd H acc (.lst (xs++[v])))) :
  fNx acc n Pv i σ v H:=⟨xs,ha,by lia,n-(i+1),by lia,hi,rfl,xs++[v],by rw[List.length_append,List.length_singleton];lia,Ac,hp⟩
theorem fSk.mk{acc:Addr}{n:Nat}{Pv:Nat->LUz->St->Hp->Prop}{i:Nat}{σ:St}{H:Hp}{xs:LUz}(hi:i<n)(hl:xs.length<=i)(ha:H acc=some (.lst xs))(hp:Pv (i+1) xs σ H):fSk acc n Pv i σ H:=⟨n-(i+1),by lia,hi,rfl,xs,by lia,ha,hp⟩
theorem HE{K:Frag}{a:Addr}{ys:LUz}{g:TG}{tc:TT}{te:TE}{σ:St}{H1:Hp}{acc:Addr}{Qr:Hp->Prop}(Pv:Nat->LUz->St->Hp->Prop)(h0:Pv 0 [] σ (upd H1 acc (.lst [])))
  (hq:∀i xs σ H,i<=ys.length->H acc=some (.lst xs)->Pv i xs σ H->SqL K H a ys)
  (hs:∀i x xs σ H,ys[i]?=some x->i<ys.length->xs.length<=i->H acc=some (.lst xs)->Pv i xs σ H->g x σ H λ σ2 H2=>tc σ2 H2 λ b Hb=>match b with
   |true=>te σ2 Hb λ v H3=>fNx acc ys.length Pv i σ2 v H3
   |false=>fSk acc ys.length Pv i σ2 Hb)
  (hd:∀xs σ H,xs.length<=ys.length->H acc=some (.lst xs)->Pv ys.length xs σ H->Qr H) :
  ∃W:Nat->Nat->St->Hp->Prop,(∃m,W 0 m σ (upd H1 acc (.lst [])))/\∀i m σ1 H2,W i m σ1 H2 ->
   ((Itl K a).stop i H2/\Qr H2)\/((Itl K a).go i H2/\∀x H3,(Itl K a).yld i H2 x H3->g x σ1 H3 λ σ4 H4=>tc σ4 H4 λ b Hb=>match b with
    |true=>te σ4 Hb λ v H5=>∃xs,H5 acc=some (.lst xs)/\xs.length<sizeLine/\∃m',m'<m/\W (i+1) m' σ4 (upd H5 acc (.lst (xs++[v])))
    |false=>∃m',m'<m/\W (i+1) m' σ4 Hb):=by
 refine⟨fW acc ys.length Pv,⟨ys.length,Nat.zero_le _,rfl,[],Nat.le_refl _,Ac,h0⟩,?_⟩;rintro i m σ1 H2 ⟨hi,rfl,xs,hl,ha,hp⟩;have hsq:=hq i xs σ1 H2 hi ha hp;rcases Nat.lt_or_ge i ys.length with h|h
 .refine .inr ⟨⟨ys,ys[i],hsq,List.getElem?_eq_getElem h⟩,?_⟩;rintro x H3 ⟨rfl,hx⟩;exact hs i x xs σ1 H3 (hx ys hsq) h hl ha hp
 .have e:i=ys.length:=Nat.le_antisymm hi h;subst e;exact .inl ⟨⟨ys,hsq,Nat.le_refl _⟩,hd xs σ1 H2 hl ha hp⟩
section
variable{X:Cx}
theorem N1:Ci (CX1 X.prog X.w) X (λ_ _ _=>False):=by
 rintro pins σ H s e s' I ⟨x,T,C,d,H',rfl,os,bare,un,hok,fl,q⟩;exact False.elim q
end
theorem Paired.get{α β:Type}{F:α->β->Prop}:∀{l₁:List α}{l₂:List β},Paired F l₁ l₂->∀{i:Nat}{a:α},l₁[i]?=some a->∃b,l₂[i]?=some b/\F a b
 |_,_,.nil,i,a,h=>by simp at h
 |_,_,.cons f t,0,a,h=>by
  simp only[List.getElem?_cons_zero,Option.some.injEq]at h;subst h;exact⟨_,rfl,f⟩
 |_,_,.cons f t,i+1,a,h=>by
  simp only[List.getElem?_cons_succ]at h |-;exact Paired.get t h
theorem N6{P:Program}{w:World}{H:Hp}{h:Heap}{a:Addr}{ob:Obj}{kvs:LKz}{ents:Array DictEntry}{ep:Nat}(ok:HOk P w H h)(e:H a=some (.frz ob (.dT kvs)))(hd:ob.data=.dict ents ep) :
  h.get? a=some ob/\∃xs,KT H kvs xs/\ents.toList=xs.map (entryOfKey (tupleKind (AW P w)))/\ents.size=kvs.length:=by
 obtain⟨ho,_,_,xs,rel,o,es,ep',h1,h2,h3,h4,h5⟩:=(show ObjOk P w H h a (.frz ob (.dT kvs)) from ok a _ e);rw[ho]at h1;cases h1;rw[hd]at h3;cases h3;refine⟨ho,xs,rel,h4,?_⟩;rw[size_of_entries h4];exact(Paired.length rel).symm
section
variable{prog:Program}{w:World}{A:Around}{E:VPz}{s:Shared}{d:Addr}{od:Obj}{es:Array DictEntry}{ep:Nat}
theorem QU{Q:VPz}(hs:(d==sysModules)=false)(hT:s.TypeIs (.ref d) "dict")(hd:s.heap.get? d=some od)(dd:od.data=.dict es ep)(fit:(es.size:Int)<2^63)
  (fin:Q (.int es.size (s.toks+1)) { s with toks:=s.toks+1+1 }):wpAny (model prog w) A (call (.builtin "len") [.ref d]) Q E s:=by
 refine Calls.call_function_entry kind_len plain_len entry_len (args_len1 _) ?_;unfold Builtin.«len»;refine wpAny_bind (m:=oneArg "len" _) (wpAny_pure ?_);refine wpAny_bind (m:=callSpecial? (.ref d) (Str.ofString "__len__")) (wpAny_callSpecial?_slot (name:=Str.ofString "__len__") hT PySem.F.slot_dict_len (wpAny_call_entry PySem.F.slot_dict_len hT PySem.F.entry_dict_len ?_ (PySem.F.args_dict_len_1 _)));unfold Builtin.«dict.__len__» Builtin.Dict.dictSlotNone;refine wpAny_bind (wpAny_bind (wpAny_notOrdered_dict hT ?_));show wpAny (model prog w) _ (pure (Value.ref d)) _ _ s;refine wpAny_pure (wpAny_bind (wpAny_pure ?_));unfold dictSize;refine wpAny_bind (wpAny_bind (wpAny_dictEntries hd dd (wpAny_pure ?_)));refine wpAny_bind (wpAny_pendingCount_other hs ?_);refine wpAny_ret_mkInt ?_;refine wpAny_bind (wpAny_holding (wpAny_pure ?_));refine wpAny_bind (wpAny_letGo ?_);have c1:¬((es.size+0:Nat):Int)<0:=by lia
 have c2:¬((es.size+0:Nat):Int)>=2^63:=by lia
 show wpAny (model prog w) _ (if ((es.size+0:Nat):Int)<0 then _ else _) _ _ _;rw[if_neg c1];show wpAny (model prog w) _ (if ((es.size+0:Nat):Int)>=2^63 then _ else _) _ _ _;rw[if_neg c2];exact wpAny_bind (wpAny_mkInt (wpAny_pure ⟨_,rfl,fin⟩))
end
section
variable{X:Cx}
theorem O7:Ck X (.builtin "len") (λ xs H Q=>∃a kvs,xs=[V.ref a]/\H a=some (.dT kvs)/\Q (.int kvs.length) H):=by
 intro pins s σ H xs us Q I r h;obtain⟨a,kvs,rfl,ea,q⟩:=h;obtain⟨u,rfl,ru⟩:=CL r;cases ru;obtain⟨z,hsys,ys,rel,o,es,ep,h1,h2,h3,h4,h5⟩:=(show ObjOk X.prog X.w H s.heap a (.dT kvs) from I.hok a _ ea);have hl:es.size=kvs.length:=by rw[size_of_entries h4];exact(Paired.length rel).symm
 refine QU hsys ⟨o,h1,h2.1⟩ h1 h3 (by rw[sizeLine_eq]at z;lia) ?_;rw[hl];exact⟨.int kvs.length,H,I.tok _,⟨_,rfl⟩,q⟩
end
section
variable{prog:Program}{w:World}{A:Around}{E:VPz}{s:Shared}{it d:Addr}{i ep:Nat}{od:Obj}{es:Array DictEntry}
theorem GX{Q:VPz}(hs:(d==sysModules)=false)(hT:s.TypeIs (.ref d) "dict")(hd:s.heap.get? d=some od)(dd:od.data=.dict es ep)
  (fin:Q (.ref s.heap.objs.size) { s with heap:=s.heap.push { cls:=.type "dict_keyiterator",data:=.fields #[.ref d,.int 0 0,.int es.size 0,.int ep 0] } }):wpAny (model prog w) A (pyIter (.ref d)) Q E s:=by
 refine wpAny_pyIter_slot hT PySem.F.slot_dict_iter (wpAny_call_entry PySem.F.slot_dict_iter hT PySem.F.entry_dict_iter ?_ (PySem.F.args_dict_iter_1 _));unfold Builtin.«dict.__iter__» Builtin.Dict.dictSlotNone;refine wpAny_bind (wpAny_bind (wpAny_notOrdered_dict hT ?_));show wpAny (model prog w) _ (pure (Value.ref d)) _ _ s;refine wpAny_pure ?_;show wpAny (model prog w) _ (Builtin.Dict.showsAll d >>= _) _ _ s;unfold Builtin.Dict.showsAll;have no:¬(d==sysModules)=true:=by rw[hs];exact Bool.false_ne_true
 rw[if_neg no];refine wpAny_bind (wpAny_pure (wpAny_bind (wpAny_dictEntries hd dd (wpAny_bind (wpAny_dictEpoch hd dd ?_)))));refine wpAny_bind (wpAny_newObj_type (wpAny_pure ⟨_,rfl,"dict_keyiterator",_,⟨_,Heap.get?_push_size _ rfl,rfl⟩,PySem.F.slot_dict_keyiterator_next.lookup,?_⟩))
 simpa [rawInt] using fin
theorem P5{e:DictEntry}{Q:Option Value->Shared->Prop}(hit:s.heap.IsKeyIter it d i es.size ep)(hod:s.heap.get? d=some od)(hdd:od.data=.dict es ep)(he:es[i]?=some e)
  (fin:∀h',h'.IsKeyIter it d (i+1) es.size ep->Heap.SameBut it s.heap h'->Q (some e.key) { s with heap:=h' }):wpAny (model prog w) A (pyNext (.ref it)) Q E s:=by
 obtain⟨o,ho,hc,hd⟩:=id hit;obtain⟨lt,rfl⟩:=Array.getElem?_eq_some_iff.mp he;unfold pyNext;refine wpAny_bind (wpAny_attempt (wpAny_callSpecial?_slot (name:=Str.ofString "__next__") hit.typeIs PySem.F.slot_dict_keyiterator_next
  (wpAny_call_entry PySem.F.slot_dict_keyiterator_next hit.typeIs PySem.F.entry_dict_keyiterator_next ?_ (PySem.F.args_dict_keyiterator_next_1 _))))
 refine wpAny_bind (wpAny_pure (wpAny_bind (wpAny_bind ?_)))
 first|refine wpAny_bind (wpAny_typeNameOfWhole_keyiter hit.typeIs (wpAny_pure ?_))|refine wpAny_bind (wpAny_typeNameOf_keyiter hit.typeIs (wpAny_pure ?_))
 refine wpAny_bind (wpAny_fieldsOf ho hd ?_);have own:Builtin.Dict_items.ownsTuple "dict_keyiterator"=false:=by decide
 simp only[own,Bool.false_eq_true,if_false];show wpAny _ _ (if (Value.ref d==Value.none)=true then _ else _) _ _ s;rw[if_neg (show ¬((Value.ref d==Value.none)=true) from Bool.false_ne_true)];refine wpAny_bind (wpAny_pure (wpAny_bind (wpAny_dictEntries hod hdd ?_)));rw[if_neg (by simp)];refine wpAny_bind (wpAny_pure (wpAny_bind (wpAny_dictEpoch hod hdd ?_)));rw[if_neg (by simp)];refine wpAny_pure ?_;simp only[show ¬((i:Int)<0) from by lia,if_false,Int.toNat_natCast,Array.getElem?_eq_getElem lt];refine wpAny_bind ?_
 first|refine wpAny_bind (wpAny_typeNameOfWhole_keyiter hit.typeIs (wpAny_pure ?_))|refine wpAny_bind (wpAny_typeNameOf_keyiter hit.typeIs (wpAny_pure ?_))
 refine wpAny_bind (wpAny_isOneOf_keyiter hit.typeIs ?_);show wpAny _ _ (setField (.ref it) 1 (rawInt ((i:Int)+1)) >>= _) _ _ s;refine wpAny_bind (wpAny_setField ho hd (by simp) ?_);have hit':(s.heap.update it (Obj.mapFields (·.setIfInBounds 1 (rawInt ((i:Int)+1))))).IsKeyIter it d (i+1) es.size ep :=
  ⟨_,Heap.get?_update_self _ ho (Obj.isFreed_of_fields (Obj.data_mapFields hd _)),(Obj.cls_mapFields ..).trans hc,by rw[Obj.data_mapFields hd];simp[rawInt]⟩
 refine wpAny_bind (wpAny_holding ?_);refine wpAny_bind (wpAny_isOneOf_keyiter (s:={ s with heap:=s.heap.update it (Obj.mapFields (·.setIfInBounds 1 (rawInt ((i:Int)+1)))) }) hit'.typeIs ?_);show wpAny _ _ (pure es[i].key) _ _ _;exact wpAny_pure (wpAny_pure ⟨_,rfl,wpAny_pure (fin _ hit' (Heap.SameBut.update ..))⟩)
theorem Ir{Q:Option Value->Shared->Prop}(hh:A.handled=none)(hit:s.heap.IsKeyIter it d i es.size ep)(hod:s.heap.get? d=some od)(hdd:od.data=.dict es ep)(he:es.size<=i)
  (fin:∀h',Heap.ExtBut it s.heap h'->Q none { s with heap:=h' }):wpAny (model prog w) A (pyNext (.ref it)) Q E s:=by
 obtain⟨o,ho,hc,hd⟩:=id hit;unfold pyNext;refine wpAny_bind (wpAny_attempt (wpAny_callSpecial?_slot (name:=Str.ofString "__next__") hit.typeIs PySem.F.slot_dict_keyiterator_next
  (wpAny_call_entry PySem.F.slot_dict_keyiterator_next hit.typeIs PySem.F.entry_dict_keyiterator_next ?_ (PySem.F.args_dict_keyiterator_next_1 _))))
 refine wpAny_bind (wpAny_pure (wpAny_bind (wpAny_bind ?_)))
 first|refine wpAny_bind (wpAny_typeNameOfWhole_keyiter hit.typeIs (wpAny_pure ?_))|refine wpAny_bind (wpAny_typeNameOf_keyiter hit.typeIs (wpAny_pure ?_))
 refine wpAny_bind (wpAny_fieldsOf ho hd ?_);have own:Builtin.Dict_items.ownsTuple "dict_keyiterator"=false:=by decide
 simp only[own,Bool.false_eq_true,if_false];show wpAny _ _ (if (Value.ref d==Value.none)=true then _ else _) _ _ s;rw[if_neg (show ¬((Value.ref d==Value.none)=true) from Bool.false_ne_true)];refine wpAny_bind (wpAny_pure (wpAny_bind (wpAny_dictEntries hod hdd ?_)));rw[if_neg (by simp)];refine wpAny_bind (wpAny_pure (wpAny_bind (wpAny_dictEpoch hod hdd ?_)));rw[if_neg (by simp)];refine wpAny_pure ?_;simp only[show ¬((i:Int)<0) from by lia,if_false,Int.toNat_natCast,Array.getElem?_eq_none he];refine wpAny_bind ?_
 first|refine wpAny_bind (wpAny_typeNameOfWhole_keyiter hit.typeIs (wpAny_pure ?_))|refine wpAny_bind (wpAny_typeNameOf_keyiter hit.typeIs (wpAny_pure ?_))
 show wpAny _ _ (setField (.ref it) 0 .none >>= _) _ _ s;refine wpAny_bind (wpAny_setField ho hd (by simp) ?_);show wpAny _ _ (newExc (.type "StopIteration") [] >>= _) _ _ _;refine wpAny_bind ?_;simp only[newExc,newTuple];refine wpAny_bind (wpAny_newObj_type ?_ (by size_fits));refine wpAny_bind (m:=firstArgMember _ _) (wpAny_of_eq (a:=Value.none) (by first|rfl|(simp only[firstArgMember];rfl)) ?_);refine wpAny_newObj_type ?_ (by size_fits);simp only[raiseNew];refine wpAny_bind (wpAny_handled ?_);rw[show A.in1.handled=none from hh];refine wpAny_bind (wpAny_pure (wpAny_throw ?_));refine wpAny_bind (wpAny_isInstance (T:="StopIteration") (b:=true) ⟨_,Heap.get?_push_size _ rfl,rfl⟩ isSubtype_stop ?_);exact wpAny_pure (fin _ (((Heap.SameBut.update ..).extBut.push _).push _))
end
def Itq(a:Addr)(ob:Obj):It :=
 ⟨λ i H=>∃kvs p,H a=some (.frz ob (.dT kvs))/\kvs[i]?=some p,
  λ i H y H'=>∃b p,(∀kvs,H a=some (.frz ob (.dT kvs))->kvs[i]?=some p)/\H b=some (.tup (p.1.map kV))/\y=.ref b/\H'=H,
  λ i H=>∃kvs,H a=some (.frz ob (.dT kvs))/\kvs.length<=i⟩
theorem Go{P:Program}{w:World}{K:Frag}{tg:Expr}(a it:Addr){ob:Obj}{ents:Array DictEntry}{ep:Nat}(hd:ob.data=.dict ents ep) :
  LH P w K tg (Itq a ob) [it] it (λ i h=>h.IsKeyIter it a i ents.size ep) where
 mem:=by simp
 obj:=λ i h st b hb=>by
  obtain⟨o,e,c,d⟩:=st;rw[List.mem_singleton.mp hb];exact⟨o,e,λ v z=>by rw[d]at z;cases z⟩
 keep:=λ i h h' st k=>st.at λ o e=>k it (by simp) o e
 item:=by
  intro X hP hw hK hc i pins s σ H E I hf st hg;subst hP hw hK;obtain⟨kvs,p,hq,hx⟩:=hg;obtain⟨ho,xs,rel,hes,hl⟩:=N6 I.hok hq hd;obtain⟨⟨k',b,u⟩,hu,hk',hb,ru⟩:=Paired.get rel hx;obtain⟨f0,f1,f2,f3,f4,f5⟩:=hf it (by simp);have hei:ents[i]?=some ⟨(tupleKind (AW X.prog X.w)).hash k',.ref b,u⟩:=by rw[entry_at hes i,hu];rfl
  refine P5 st ho hd hei λ h' st' sb=>?_;have I1:Inv X pins σ H { s with heap:=h' }:=I.turned (t':=s.toks) (λ b o hb e=>(sb.2 b hb).trans e) f0 f1 f3 f4 f5;refine⟨_,rfl,letGo_keyiter (s':={ s with heap:=h' }) st' ⟨.ref b,H,I1,rfl,⟨b,p,λ ys hy=>?_,hb,rfl,rfl⟩,st',λ b hb=>(hf b hb).1⟩⟩;rw[hq]at hy;cases hy;exact hx
 done:=by
  intro X hP hw hK hc i pins s σ H E I hf st hg;subst hP hw hK;obtain⟨kvs,hq,hx⟩:=hg;obtain⟨ho,xs,rel,hes,hl⟩:=N6 I.hok hq hd;obtain⟨f0,f1,f2,f3,f4,f5⟩:=hf it (by simp);exact Ir (I.ok.hd hc) st ho hd (by lia) λ h' eb=>⟨rfl,I.turned (t':=s.toks) (λ b o hb z=>eb b o hb z) f0 f1 f3 f4 f5⟩
 self:=λ_ _ _ _ _ st h=>wpAny_pyIter_keyiter st h
def SG(td:TE):TI:=λ σ H R=>td σ H λ x H1=>∃a kvs,x=.ref a/\Rd H1 a (.dT kvs)/\∀ob,R (Itq a ob) (upd H1 a (.frz ob (.dT kvs)))
section
variable{X:Cx}
theorem Pt{tg o:Expr}{td:TE}(hp:PE X o td):PI X tg o (SG td):=by
 intro pins s σ H R I h;refine thn (hp pins s σ H _ I h) λ v s1 hz_=>?_;obtain⟨x,H1,I1,r1,q1⟩:=hz_;obtain⟨a,kvs,e,ea,q⟩:=q1;subst e;cases r1;obtain⟨hty,hnd,hsys⟩:=SA I1 (.inr ⟨kvs,ea⟩);rcases ea with ea|⟨ob,ea⟩
 .obtain⟨_,_,xs,rel,ob,ents,ep,g1,g2,g3,g4,g5⟩:=(show ObjOk X.prog X.w H1 s1.heap a (.dT kvs) from I1.hok a _ ea);refine GX hsys hty g1 g3 ?_;have I3:=I1.kept (h':=s1.heap.push { cls:=.type "dict_keyiterator",data:=.fields #[.ref a,.int 0 0,.int ents.size 0,.int ep 0] }) (t':=s1.toks) λ b u z=>Heap.get?_push_of_some _ z;have g1':(s1.heap.push { cls:=.type "dict_keyiterator",data:=.fields #[.ref a,.int 0 0,.int ents.size 0,.int ep 0] }).get? a=some ob:=Heap.get?_push_of_some _ g1;have new:ObjOk X.prog X.w (upd H1 a (.frz ob (.dT kvs))) (s1.heap.push { cls:=.type "dict_keyiterator",data:=.fields #[.ref a,.int 0 0,.int ents.size 0,.int ep 0] }) a (.frz ob (.dT kvs)):=by
   obtain⟨y1,y2,ys,yr,y3⟩:=(show ObjOk X.prog X.w H1 _ a (.dT kvs) from I3.hok a _ ea);refine⟨g1',y1,y2,ys,KT.keeps yr λ c zs ec=>?_,y3⟩;rw[Ai (CT ec ea (λ z=>nomatch z))];exact ec
  have I4:=I3.write (x:=a) (e:=a) (o:=.frz ob (.dT kvs)) (h':=s1.heap.push { cls:=.type "dict_keyiterator",data:=.fields #[.ref a,.int 0 0,.int ents.size 0,.int ep 0] }) (t':=s1.toks)
   (by rw[ea];exact True.intro) (.inl rfl) (λ b u _ z=>z) ⟨ob,g1'⟩ new
  have na:s1.heap.objs.size≠a:=Nat.ne_of_gt (Heap.lt_size g1);refine⟨s1.heap.objs.size,[s1.heap.objs.size],_,_,_,rfl,I4,Go a _ g3,⟨_,Heap.get?_push_size _ rfl,rfl,rfl⟩,λ b hb'=>?_,q ob⟩;rw[List.mem_singleton.mp hb'];refine I1.fpOk (Nat.le_refl _) ?_;rw[Ai na];exact I1.hok.fresh (Nat.le_refl _)
 .obtain⟨g1,_,_,xs,rel,ob',ents,ep,g1',g2,g3,g4,g5⟩:=(show ObjOk X.prog X.w H1 s1.heap a (.frz ob (.dT kvs)) from I1.hok a _ ea);rw[g1]at g1';cases g1';refine GX hsys hty g1 g3 ?_;have I3:=I1.kept (h':=s1.heap.push { cls:=.type "dict_keyiterator",data:=.fields #[.ref a,.int 0 0,.int ents.size 0,.int ep 0] }) (t':=s1.toks) λ b u z=>Heap.get?_push_of_some _ z;have eH:upd H1 a (.frz ob (.dT kvs))=H1:=by
   funext c
   by_cases z:c=a
   .rw[z,Ac,ea]
   .rw[Ai z]
  have qq:=q ob;rw[eH]at qq;refine⟨s1.heap.objs.size,[s1.heap.objs.size],_,_,_,rfl,I3,Go a _ g3,⟨_,Heap.get?_push_size _ rfl,rfl,rfl⟩,λ b hb'=>?_,qq⟩;rw[List.mem_singleton.mp hb'];exact I1.fpOk (Nat.le_refl _) (I1.hok.fresh (Nat.le_refl _))
end
theorem MN{a:Addr}{ob:Obj}{kvs:LKz}{g:TG}{te:TE}{σ:St}{H1:Hp}{acc:Addr}{Qr:Hp->Prop}(Pv:Nat->LUz->St->Hp->Prop)(h0:Pv 0 [] σ (upd H1 acc (.lst [])))
  (hq:∀i xs σ H,i<=kvs.length->H acc=some (.lst xs)->Pv i xs σ H->H a=some (.frz ob (.dT kvs)))
  (hs:∀i p b xs σ H,kvs[i]?=some p->i<kvs.length->xs.length=i->H acc=some (.lst xs)->Pv i xs σ H->H b=some (.tup (p.1.map kV))->g (.ref b) σ H λ σ2 H2=>te σ2 H2 λ v H3=>cNx acc kvs.length Pv i σ2 v H3)
  (hd:∀xs σ H,xs.length=kvs.length->H acc=some (.lst xs)->Pv kvs.length xs σ H->Qr H) :
  ∃W:Nat->Nat->St->Hp->Prop,(∃m,W 0 m σ (upd H1 acc (.lst [])))/\∀i m σ1 H2,W i m σ1 H2 ->
   ((Itq a ob).stop i H2/\Qr H2)\/((Itq a ob).go i H2/\∀x H3,(Itq a ob).yld i H2 x H3->g x σ1 H3 λ σ4 H4=>te σ4 H4 λ v H5=>∃xs,H5 acc=some (.lst xs)/\xs.length<sizeLine/\∃m',m'<m/\W (i+1) m' σ4 (upd H5 acc (.lst (xs++[v])))):=by
 refine⟨cW acc kvs.length Pv,⟨kvs.length,Nat.zero_le _,rfl,[],rfl,Ac,h0⟩,?_⟩;rintro i m σ1 H2 ⟨hi,rfl,xs,hl,ha,hp⟩;have hsq:=hq i xs σ1 H2 hi ha hp;rcases Nat.lt_or_ge i kvs.length with h|h
 .refine .inr ⟨⟨kvs,kvs[i],hsq,List.getElem?_eq_getElem h⟩,?_⟩;rintro x H3 ⟨b,z,hz,hb,rfl,rfl⟩;exact hs i z b xs σ1 _ (hz kvs hsq) h hl ha hp hb
 .have e:i=kvs.length:=Nat.le_antisymm hi h;subst e;exact .inl ⟨⟨kvs,hsq,Nat.le_refl _⟩,hd xs σ1 H2 hl ha hp⟩
structure Nb(K:Frag)(C:Addr):Prop where
 cl:Cls K C
 ha:findIn K (.ref C) "__class__"=some (some (.builtin "object.__class__"))
 hn:specialIn K (.builtin "object.__class__") "__get__"=some (some (.builtin "getset_descriptor.__get__"))
 htk:takesIn K (.builtin "object.__class__")=some true
 hm:mroIn K C (.type "object")=some true
section
variable{X:Cx}
theorem Ev:Ck X (.builtin "isinstance") (λ xs H Q=>∃a C dx fs c u b,xs=[.ref a,c]/\H a=some (.ins C dx fs)/\Nb X.K C/\RelV c u/\(∀u',RelV c u'->u'=u)/\kitOne X.K (.ref C) u=some b/\Q (.bl b) H):=by
 intro pins s σ H xs us Q I r h;obtain⟨a,C,dx,fs,c,u,b,rfl,he,hc,ru,uq,hk,q⟩:=h;obtain⟨v1,v2,rfl,r1,r2⟩:=R4 r;have:=uq v2 r2;subst this;exact Js I r1 (.ins he hc.cl hc.ha hc.hn hc.htk hc.hm) hk λ tk=>⟨.bl b,H,I.tok tk,rfl,q⟩
end
def Itv(K:Frag)(a:Addr)(n:Nat):It :=
 ⟨λ i H=>∃xs,SqL K H a xs/\xs.length=n/\i<n,λ i H x H'=>H'=H/\∀xs,SqL K H a xs->xs[n-1-i]?=some x,λ i H=>n<=i⟩
theorem ON{P:Program}{w:World}{K:Frag}{tg:Expr}(a it:Addr)(n:Nat):LH P w K tg (Itv K a n) [it] it (λ i h=>i<=n/\h.IsRevIter it a ((n:Int)-1-i)) where
 mem:=by simp
 obj:=λ i h st b hb=>by
  have e:b=it:=by simpa using hb
  subst e;obtain⟨_,o,e,c,d⟩:=st;exact⟨o,e,λ v z=>by rw[d]at z;cases z⟩
 keep:=λ i h h' st k=>⟨st.1,st.2.at λ o e=>k it (by simp) o e⟩
 item:=by
  intro X hP hw hK hc i pins s σ H E I hf st hg;subst hP hw hK;obtain⟨xs,hq,hn,hi⟩:=hg;obtain⟨hin,st⟩:=st;obtain⟨its,rv,p,hz⟩:=I.list hq;have hx:xs[n-1-i]?=some (xs[n-1-i]'(by lia)):=List.getElem?_eq_getElem (by lia);obtain⟨u,hu,ru⟩:=rv.get hx;obtain⟨f0,f1,f2,f3,f4,f5⟩:=hf it (by simp);have st':s.heap.IsRevIter it a (((n-1-i:Nat):Int)):=by
   rw[show(((n-1-i:Nat):Int))=(n:Int)-1-i by lia];exact st
  refine wpAny_pyNext_rev_item st' p.isList (x:=u) (by simpa using hu) λ h' st' sb=>?_;have I1:Inv X pins σ H { s with heap:=h' }:=I.turned (t':=s.toks) (λ b o hb e=>(sb.2 b hb).trans e) f0 f1 f3 f4 f5;obtain⟨o,e,c,d⟩:=id st';refine⟨u,rfl,LA (s:={ s with heap:=h' }) e c d (by decide) ⟨_,H,I1,ru,⟨rfl,λ ys hy=>by rw[I.list_inj hy hq];exact hx⟩,⟨by lia,?_⟩,λ b hb=>(hf b hb).1⟩⟩;rw[show(n:Int)-1-((i+1:Nat):Int)=((n-1-i:Nat):Int)-1 by lia];exact st'
 done:=by
  intro X hP hw hK hc i pins s σ H E I hf st hg;subst hP hw hK;obtain⟨hin,st⟩:=st;obtain⟨f0,f1,f2,f3,f4,f5⟩:=hf it (by simp);have e:i=n:=Nat.le_antisymm hin hg;subst e;rw[show(i:Int)-1-(i:Int)=-1 by lia]at st;exact wpAny_pyNext_rev_end (I.ok.hd hc) st λ h' eb=>⟨rfl,I.turned (t':=s.toks) (λ b o hb e=>eb b o hb e) f0 f1 f3 f4 f5⟩
 self:=λ_ _ _ _ _ st h=>wpAny_pyIter_revIter st.2 h
def U2(K:Frag)(ta:TA):TI:=λ σ H R=>ta σ H λ vs H1=>∃a xs,vs=[.ref a]/\SqL K H1 a xs/\R (Itv K a xs.length) H1
theorem I8:bootBuiltins "reversed"=some (.type "reversed"):=rfl
section
variable{X:Cx}{tg:Expr}
theorem QN{a:Expr}{ta:TA}{p pos:Pos}(hg:Gl X "reversed")(hm:X.mg "reversed"=none)(ha:PA X [a] ta)(hs:starEach [a] X.env=[(false,eval a X.env)]:=by rfl) :
  PI X tg (.Call (.Name "reversed" p) [a] [] pos) (U2 X.K ta):=by
 intro pins s σ H R I h;refine Call_ (D9 I hg hm I8 (PyProof.Rows.callWith_type1 (thn (ha pos pins s σ H _ I h) λ us s1 hz_=>?_) hs rfl));obtain⟨vs,H1,I1,r1,q1⟩:=hz_;obtain⟨b,xs,e,hq,q⟩:=q1;subst e;cases r1 with
 |cons r rr =>
  cases rr;cases r;obtain⟨its,rv,pl,hz⟩:=I1.list hq;have hl:=rv.length;refine call_reversed_list pl.isList ?_;have I2:Inv X pins σ H1 { s1 with heap:=s1.heap.push (revObj b ((its.toArray.size:Int)-1)) }:=I1.kept (t':=s1.toks) λ c o e=>Heap.get?_push_of_some _ e;refine wpAny_pyIter_revIter (s:={ s1 with heap:=s1.heap.push (revObj b ((its.toArray.size:Int)-1)) }) ⟨_,Heap.get?_push_size _ rfl,rfl,rfl⟩ ?_;refine⟨s1.heap.objs.size,[s1.heap.objs.size],_,_,H1,rfl,I2,ON b _ xs.length,⟨Nat.zero_le _,⟨_,Heap.get?_push_size _ rfl,rfl,?_⟩⟩,λ c hc=>?_,q⟩
  .show Data.fields _=Data.fields _;rw[show((its.toArray.size:Int)-1)=(xs.length:Int)-1-((0:Nat):Int) by rw[List.size_toArray,<-hl];lia]
  .have e:c=s1.heap.objs.size:=by simpa using hc
   subst e;exact I1.fpOk (Nat.le_refl _) (I1.hok.fresh (Nat.le_refl _))
end
theorem Rn{K:Frag}{a:Addr}{xs:LUz}{g:TG}{tb:TS}{D:IL}{σ:St}{H:Hp}(Pv:Nat->St->Hp->Prop)(h0:Pv 0 σ H)(hl:∀i σ H,i<=xs.length->Pv i σ H->SqL K H a xs)
  (hs:∀i x σ H,xs[xs.length-1-i]?=some x->i<xs.length->Pv i σ H->g x σ H λ σ2 H2=>tb { D with nx:=Pv (i+1),ct:=Pv (i+1),bk:=D.nx } σ2 H2) (hd:∀σ H,Pv xs.length σ H->D.nx σ H) :
  ∃W:Nat->Nat->St->Hp->Prop,(∃m,W 0 m σ H)/\∀i m σ H,W i m σ H ->
   ((Itv K a xs.length).stop i H/\D.nx σ H)\/((Itv K a xs.length).go i H/\∃N:St->Hp->Prop,(∀σ' H',N σ' H'->∃m',m'<m/\W (i+1) m' σ' H')/\∀x H',(Itv K a xs.length).yld i H x H'->g x σ H' λ σ2 H2=>tb { D with nx:=N,ct:=N,bk:=D.nx } σ2 H2):=by
 refine⟨λ i m σ H=>m=xs.length-i/\i<=xs.length/\Pv i σ H,⟨xs.length,by simp,Nat.zero_le _,h0⟩,?_⟩;rintro i m σ H ⟨rfl,hi,p⟩;have q:=hl i σ H hi p;by_cases hlt:i<xs.length
 .refine .inr ⟨⟨xs,q,rfl,hlt⟩,Pv (i+1),λ σ' H' p'=>⟨xs.length-(i+1),by lia,rfl,hlt,p'⟩,λ x H' y=>?_⟩;obtain⟨e,y⟩:=y;subst e;exact hs i x σ _ (y xs q) hlt p
 .have e:i=xs.length:=by lia
  subst e;exact .inl ⟨Nat.le_refl _,hd σ H p⟩
def OS(S:Addr->Prop)(m:Str)(sp:Sp)(E:XK)(ta:TE)(t:TA):TE:=λ σ H Q=>ta σ H λ x H1=>∃C a dx fs,S C/\x=.ref a/\H1 a=some (.ins C dx fs)/\fs.lookup m=none/\t σ H1 λ vs H2=>sp (x::vs) H2 Q E
section
variable{X:Cx}{k j:Nat}{m:Str}{ps:LSz}{sp:Sp}{pos apos:Pos}{e o:Expr}{es:List Expr}{t:TA}{ta:TE}{S:Addr->Prop}
theorem Sj{pl:Sem Bool}(D:∀C,S C->Fw X.prog X.w X.K X.mg X.base k C m ps sp)(hr:Room j X.A)(he:PE X o ta)(ha:PA X (e::es) t)(hj:k<=j:=by decide)
    (hst:starEach (e::es) X.env=(false,eval e X.env)::starEach es X.env:=by rfl) (hpl:(backTo pos (starEach es X.env)).any (·.1)=false:=by rfl)
    (ht:eval (.Call (.Attribute o m apos) (e::es) [] pos) X.env=(do
      let ov <-eval o X.env
      standAt apos.atName
      let (f,first) <-holding [ov] (getMethod ov m pl)
      callWith pos f first (backTo pos (starEach (e::es) X.env)) (backToKw pos (keywordEach [] X.env))):=by rfl):PE X (.Call (.Attribute o m apos) (e::es) [] pos) (OS S m sp E0 ta t):=by
  intro pins s σ H Q I h;refine methodCall_KW (pl:=pl) (thn (he pins s σ H _ I h) λ u s1 hz=>?_) ht;obtain⟨x,H1,I1,rx,C,a,dx,fs,hS,ex,ea,l,q⟩:=hz;obtain⟨cl,f,fd,hm,F,hb⟩:=D C hS;subst ex;obtain rfl:u=Value.ref a:=rx;refine Dm I1 ea cl hm l ?_;refine callWith_K (first:=[.ref a]) (h₀:=X.base) I.ok.mod.kin hm.kp (thn (ha pos pins s1 σ H1 _ I1 q) λ us s2 ⟨vs,H2,I2,r,q2⟩=>⟨I2.kIn,?_⟩) hst hpl;exact G0 (us:=.ref a::us) (vs:=.ref a::vs) F (hr.mono hj) hb .nil GC I2 (.cons rfl r) (by rw[List.append_nil];exact q2)
theorem JZ{pl:Sem Bool}(D:∀C,S C->Fw X.prog X.w X.K X.mg X.base k C m ps sp)(hr:Room j X.A)(he:PE X o ta)(hj:k<=j:=by decide)
    (ht:eval (.Call (.Attribute o m apos) [] [] pos) X.env=(do
      let ov <-eval o X.env
      standAt apos.atName
      let (f,first) <-holding [ov] (getMethod ov m pl)
      callWith pos f first (backTo pos (starEach [] X.env)) (backToKw pos (keywordEach [] X.env))):=by rfl):PE X (.Call (.Attribute o m apos) [] [] pos) (OS S m sp E0 ta KS):=by
  intro pins s σ H Q I h;refine methodCall_KW (pl:=pl) (thn (he pins s σ H _ I h) λ u s1 hz=>?_) ht;obtain⟨x,H1,I1,rx,C,a,dx,fs,hS,ex,ea,l,q⟩:=hz;obtain⟨cl,f,fd,hm,F,hb⟩:=D C hS;subst ex;obtain rfl:u=Value.ref a:=rx;refine Dm I1 ea cl hm l ?_;exact callWith_K0 (first:=[.ref a]) I1.kIn hm.kp (G0 (us:=[.ref a]) (vs:=[.ref a]) F (hr.mono hj) hb .nil GC I1 (.cons rfl .nil) q)
end
theorem M8{M:Model}{A:Around}{E:VPz}{s:Shared}{K:Frag}{G C e:Addr}{d:Option Addr}{dt:Data}{sl':AOz}{Q:Bool->Shared->Prop}(X:K.In s.heap){fI:Addr}(hG:Ch K G fI=true)
  (he:s.heap.get? e=some ⟨.ref C,d,dt,sl'⟩) (hs:mroIn K C (.ref G)=some true) (h:Q true s):wpAny M A (excMatches (.ref e) (.ref G)) Q E s:=by
 have LS:=looks_mroIn (M:=M) X hs;obtain⟨hp,g,dr,tk,os⟩:=s;have q:=hG;unfold Ch at q;split at q
 .rename_i dd cd sl ho;split at q
  .rename_i C' bm k0 k1 k2 k3 n k5 hm hs;simp only[Bool.and_eq_true,beq_iff_eq,Bool.not_eq_true']at q;obtain⟨⟨⟨⟨⟨rfl,rfl⟩,hdel⟩,ht⟩,hok⟩,hni⟩:=q;obtain⟨nm,bs,mro,ns,qn,hd,sn,sub,ab,col,del⟩:=cd;dsimp only at hm hdel hok hni;subst hm hdel;have hsl:sl=#[k0,k1,k2,k3,some (.builtin "ValueError.__new__"),k5]:=by
    obtain⟨l⟩:=sl;simp only at hs;rw[hs]
   subst hsl;have hC:hp.get? C'=some (excClassObj nm qn C' ns bs bm hd sn sub ab col dd k0 k1 k2 k3 k5 "ValueError.__new__"):=X _ _ ho;have hcB:(Value.ref C'::bm).contains (.type "BaseException")=true:=by
    rw[List.contains_cons,(tail_of_in X ht).hasType (show vErr.contains (.type "BaseException")=true by decide +kernel)];exact Bool.or_true _
   have f:=tc_notTuple;unfold excMatches
   repeat (first|with_reducible refine wpAny_loadPart_at he ?_|with_reducible refine wpAny_loadPart_at hC ?_|(with_reducible refine wpAny_isSubtype_exc hC ?_;rw[hcB])|(with_reducible refine LS.at ?_)|wp_step)
   exact h
  .cases q
 .cases q
def Tk(K:Frag)(G:Addr)(te:XK->TE)(ts:TS):TS:=λ D σ H=>∃E₁:XK,te E₁ σ H (λ_ H1=>D.nx σ H1) /\
 ∀x C d T T2 H',E₁ (.ref x) d H'->CZ H' x C d T->H' T2=none->T2≠x->mroIn K C (.ref G)=some true/\ts D σ (thrown H' x C d T2)
section
variable{X:Cx}{g:Str}{G:Addr}{value:Expr}{b₀:Stmt}{suite:List Stmt}{apos gp hpos pos:Pos}{te:XK->TE}{ts:TS}
theorem Mn(he:∀E,PX X value (te E) E)(hgl:Gl X g)(hg:X.mg g=some (.ref G))
  (hG:∃fI,Ch X.K G fI=true) (hst:X.stack=X.env::X.outer) (hfr:X.env.frame=some X.env.locals) (hs:∀x,PSs (X.suite x) (b₀::suite) ts)
  (hsw:swapsWith value none apos.line X.env=pure false:=by rfl) (hdb:(g==("__debug__":Str))=false:=by decide) :
  PS X (.Try [.Expr value apos] [.ExceptHandler (some (.Name g gp)) none (b₀::suite) hpos] [] [] pos) (Tk X.K G te ts):=by
 intro pins s σ H D I ⟨E₁,h,hh⟩;obtain⟨fI,hG⟩:=hG;rw[arm_exec_Try];refine wpAny_bind (wpAny_standAt (wpAny_tryStmt_except ?_));refine wpAny_execs_cons (wpAny_Expr_any (thn (he E₁ pins s σ H _ _ I h λ x T C d H' s' I' fl q=>?_) λ v s1 ⟨y,H1,I1,r1,q1⟩=>?_) I.quiet hsw)
 .refine F0 I' hst hfr (.inr ⟨T,fl⟩) λ h' T2 hT2 nT2 I2=>?_;obtain⟨hsub,hts⟩:=hh x C d T T2 H' q fl hT2 nT2;have fl2:CZ (thrown H' x C d T2) x C d T2:=⟨CM,E3 nT2,nT2⟩;obtain⟨⟨vs,sl,e1,e2⟩,_⟩:=(show ObjOk X.prog X.w (thrown H' x C d T2) h' x (IJ C d x T2) from I2.hok x _ fl2.1);obtain⟨⟨o,tv,f1,f2,f3⟩,_⟩:=(show ObjOk X.prog X.w (thrown H' x C d T2) h' T2 (TbO T2) from I2.hok T2 _ fl2.2.1);refine wpAny_handleBy_cons (codeAny_handlers_test (DU (X:=X.suite x) (I2.suite x) hgl hg (M8 I2.kIn hG e1 hsub ?_) hdb)) (by intro z;cases z);show codeAny _ _ _ _ _;refine codeAny_handlers_suite (Hm e1 e2 f1 f2 (Array.getElem?_eq_some_iff.mp f3).1 λ h3 k3 t3=>?_);have same:upd (thrown H' x C d T2) T2 (TbO T2)=thrown H' x C d T2:=funext λ b=>by
   by_cases z:b=T2
   .rw[z,Ac,E3 nT2]
   .rw[Ai z]
  have I3:Inv X pins σ (thrown H' x C d T2) { s' with heap:=h3 }:=by
   have:=I2.write (x:=T2) (e:=T2) (h':=h3) (o:=TbO T2) (t':=s'.toks) (by rw[fl2.2.1];exact True.intro) (.inl rfl) (λ b u nb z=>(k3 b nb).trans z) (let ⟨o,_,e,_⟩:=t3;⟨o,e⟩) (Me t3);rw[same]at this;exact this
  refine wpAny_mono (hs x pins _ _ _ D (I3.suite x) hts) (λ fl s5 q5=>?_) λ_ _ z=>False.elim z;cases fl with
  |next=>obtain⟨σ',H5,I5,q⟩:=q5;exact⟨_,H5,I5.unsuite (ok:=I.ok),q⟩
  |brk=>obtain⟨σ',H5,I5,q⟩:=q5;exact⟨_,H5,I5.unsuite (ok:=I.ok),q⟩
  |cont=>obtain⟨σ',H5,I5,q⟩:=q5;exact⟨_,H5,I5.unsuite (ok:=I.ok),q⟩
  |ret u=>obtain⟨v,σ',H5,I5,r,q⟩:=q5;exact⟨v,_,H5,I5.unsuite (ok:=I.ok),r,q⟩
 .exact wpAny_execs_nil (wpAny_execs_nil ⟨_,H1,I1,q1⟩)
end
structure FunD(K:Frag)(x qual:Str)(st:Stmt)(f:Addr)(fd:FuncData):Prop where
 ex:∃(oc:Value)(od:Option Addr)(T:Addr)(kV doc pm:Value)(an:Option Addr)(cdv ct:Value)(osl:AOz)(o:Obj)(n:Nat),
  fd=fnOf x qual (By st) (AB st) (Ah st) (.ref T) kV doc pm an cdv ct/\K.lookup f=some ⟨oc,od,.func fd,osl⟩/\codeIn K cdv qual=true/\K.lookup T=some o/\o.data=.seq #[.none] n
 kp:keepIn K (.ref f)=true
section
variable{P:Program}{w:World}{K:Frag}{mg:MGz}{base:Heap}
theorem FunD.ok{x qual:Str}{st:Stmt}{f:Addr}{fd:FuncData}{N ps:LSz}{k:Nat}{sp:Sp}(F:FunD K x qual st f fd)(S:Al N ps (Ah st))(len:∀vs H Q E,sp vs H Q E->vs.length=ps.length)
  (hbody:∀(cdv:Value)(A:Around)(outer:List Env)(s:Shared)(H:Hp)(vs:LUz)(Q:VK)(E:XK),Room k (A.deeper (envOfC qual (Ah st) s.heap.objs.size f cdv))->sp vs H Q E ->
   ∃t,PSs (Bv CX0 P w K mg base N qual (Ah st) f cdv A outer s H E).nox (AB st) t/\t { nx:=λ_ H'=>Q .non H',rt:=Q } (start N vs) H):A9 P w K mg base CX0 (k+1) f fd ps sp:=by
 obtain⟨oc,od,T,kV,doc,pm,an,cdv,ct,osl,o,n,rfl,lk,hcd,lT,dT⟩:=F.ex;refine N7 lk hcd S len λ A outer s H vs Q E hr hsp=>?_;obtain⟨t,h,q⟩:=hbody cdv A outer s H vs Q E hr hsp;exact⟨t,h.nox,q⟩
theorem FunD.binds{x qual:Str}{st:Stmt}{f:Addr}{fd:FuncData}{ps:LSz}{ds:LWz}(F:FunD K x qual st f fd)
  (h:∀(T:Addr)(kV doc pm:Value)(an:Option Addr)(cdv ct:Value)(us:LWz),(us++ds).length=ps.length->∃k:Option (Array Value)->Sem (List (Str×Value)),
   bindArgs (fnOf x qual (By st) (AB st) (Ah st) (.ref T) kV doc pm an cdv ct) ⟨us,[]⟩=seqItems? (.ref T) >>= k/\k (some #[.none])=pure (ps.zip (us++ds))):Binds K fd ps ds:=by
 obtain⟨oc,od,T,kV,doc,pm,an,cdv,ct,osl,o,n,rfl,lk,hcd,lT,dT⟩:=F.ex;intro s us X hl;obtain⟨k,h1,h2⟩:=h T kV doc pm an cdv ct us hl;exact .of_defaults rfl (X _ _ lT) dT h1 h2
end
mutual
def DAt(H:Hp):D->V->Prop
 |.at u,v=>v=u/\EG u=true
 |.tup ds,v=>∃a xs,v=.ref a/\H a=some (.tup xs)/\IM H ds xs
 |.lst ds,v=>∃a xs,v=.ref a/\H a=some (.lst xs)/\IM H ds xs
def IM(H:Hp):Ds->LUz->Prop
 |.nil,xs=>xs=[]
 |.cons d r,xs=>∃x ys,xs=x::ys/\DAt H d x/\IM H r ys
end
mutual
theorem Qc{H H':Hp}(s:Same H H'):∀(d:D){v:V},DAt H d v->DAt H' d v
 |.at u,v,h=>by rw[DAt]at h |-;exact h
 |.tup ds,v,h=>by
  rw[DAt]at h |-;obtain⟨a,xs,e,q,r⟩:=h;exact⟨a,xs,e,s _ _ q,Ft s ds r⟩
 |.lst ds,v,h=>by
  rw[DAt]at h |-;obtain⟨a,xs,e,q,r⟩:=h;exact⟨a,xs,e,s _ _ q,Ft s ds r⟩
theorem Ft{H H':Hp}(s:Same H H'):∀(ds:Ds){xs:LUz},IM H ds xs->IM H' ds xs
 |.nil,xs,h=>by rw[IM]at h |-;exact h
 |.cons d r,xs,h=>by
  rw[IM]at h |-;obtain⟨x,ys,e,p,q⟩:=h;exact⟨x,ys,e,Qc s d p,Ft s r q⟩
end
mutual
theorem SN{K:Frag}{H:Hp}:∀(d:D){v:V},DAt H d v->DIs K H d v
 |.at u,v,h=>by rw[DAt]at h;rw[DIs];exact h
 |.tup ds,v,h=>by
  rw[DAt]at h;rw[DIs];obtain⟨a,xs,e,q,r⟩:=h;exact⟨a,xs,e,SqT.of q,Kx ds r⟩
 |.lst ds,v,h=>by
  rw[DAt]at h;rw[DIs];obtain⟨a,xs,e,q,r⟩:=h;exact⟨a,xs,e,SqL.of q,Kx ds r⟩
theorem Kx{K:Frag}{H:Hp}:∀(ds:Ds){xs:LUz},IM H ds xs->DIss K H ds xs
 |.nil,xs,h=>by rw[IM]at h;rw[DIss];exact h
 |.cons d r,xs,h=>by
  rw[IM]at h;rw[DIss];obtain⟨x,ys,e,p,q⟩:=h;exact⟨x,ys,e,SN d p,Kx r q⟩
end
def C5(c:Addr)(q:Str):HO:=.ext λ h=>∃o vs t,h.get? c=some o/\o.data=.fields vs/\vs[1]?=some (.str q t)
def Fv(f:Addr)(o:Obj):HO:=.ext λ h=>h.get? f=some o
theorem O6{P:Program}{w:World}{H:Hp}{h:Heap}{c:Addr}{q:Str}(x:ObjOk P w H h c (C5 c q)):h.CodeRec (.ref c) q:=by
 obtain⟨⟨o,vs,t,e,d,v⟩,_⟩:=x;exact⟨c,o,vs,t,rfl,e,d,v⟩
theorem Qg{P:Program}{w:World}{H:Hp}{h:Heap}{c:Addr}{q:Str}(x:h.CodeRec (.ref c) q):ObjOk P w H h c (C5 c q):=by
 obtain⟨c',o,vs,t,e,g,d,v⟩:=x;cases e;exact⟨⟨o,vs,t,g,d,v⟩,⟨o,g⟩,λ h1 h2 ⟨o,vs,t,e,d,v⟩ k=>⟨o,vs,t,k o e,d,v⟩⟩
theorem N3{P:Program}{w:World}{H:Hp}{h:Heap}{f:Addr}{o:Obj}(x:h.get? f=some o):ObjOk P w H h f (Fv f o):=⟨x,⟨o,x⟩,λ h1 h2 e k=>k o e⟩
section
variable{X:Cx}{pins:PNz}{σ:St}{H:Hp}{s:Shared}{h1:Heap}
theorem Inv.grow{T c':Addr}{ps more:Array Value}{o:HO}{t':Nat}(I:Inv X pins σ H s)(hT:H T=some (.tbl ps))(k:∀b u,b≠T->s.heap.get? b=some u->h1.get? b=some u)(eT:h1.get? T=some (tabObj (ps++more)))
  (hc:s.heap.objs.size<=c') (new:ObjOk X.prog X.w (upd (upd H T (.tbl (ps++more))) c' o) h1 c' o):Inv X pins σ (upd (upd H T (.tbl (ps++more))) c' o) { s with heap:=h1,toks:=t' }:=by
 have hn:H c'=none:=I.hok.fresh hc;have nT:T≠c':=Af hT hn;have ne:∀{b:Addr}{u:HO},H b=some u->(∀ps,u≠.tbl ps)->b≠T:=λ{b u} e nu z=>by rw[z,hT]at e;cases e;exact nu _ rfl
 have to:∀{b:Addr}{u:HO},H b=some u->(∀ps,u≠.tbl ps)->(upd (upd H T (.tbl (ps++more))) c' o) b=some u:=λ{b u} e nu=>by rw[Ai (Af e hn),Ai (ne e nu)];exact e
 refine I.un ⟨λ b u q n _ _=>k b u (λ z=>by rw[z,hT]at n;cases n) q,λ b u q n _ _=>⟨u.slots,k b u (λ z=>by rw[z,hT]at n;cases n) q⟩,λ b u q n _=>?_,λ b u q _=>?_,
  λ b xs q=>to q (λ_ z=>nomatch z),λ b u xs q=>to q (λ_ z=>nomatch z),λ b ps' q=>?_⟩ λ b u e=>?_
 .rw[Ai (Nat.ne_of_lt (Nat.lt_of_lt_of_le (Heap.lt_size q) hc)),Ai (λ z=>by rw[z,hT]at n;cases n)];exact n
 .by_cases z:b=T
  .exact⟨_,by rw[z];exact eT⟩
  .exact⟨u,k b u z q⟩
 .by_cases z:b=T
  .subst z;rw[hT]at q;cases q;exact⟨more,by rw[Ai nT,Ac]⟩
  .exact⟨#[],by rw[Ai (Af q hn),Ai z,q];simp⟩
 .by_cases z:b=c'
  .subst z;rw[Ac]at e;cases e;exact new
  .rw[Ai z]at e;by_cases zT:b=T
   .subst zT;rw[Ac]at e;cases e;exact eT
   .rw[Ai zT]at e;refine(I.hok b u e).stay (λ c v hcb r=>k c v ?_ r) (λ c r=>to r (λ_ z=>nomatch z)) λ c xs r=>to r (λ_ z=>nomatch z);rcases hcb with rfl|hcb
    .exact zT
    .exact ne hcb (λ_ z=>nomatch z)
end
structure ST(K:Frag)(mg:MGz):Prop where
 ex:∃bm sl,mg "__builtins__"=some (.ref bm)/\bm≠builtinsNs/\bm≠mainGlobals/\K.lookup bm=some ⟨.type "module",some builtinsNs,.plain,sl⟩
abbrev BI(mg:MGz)(qual:Str)(params:Arguments)(body:Expr)(scope:Scope)(clos:List (Str×Addr))(c':Addr)(ctv:Value):Obj:=kla_obj "<lambda>" qual params body scope clos ((mg "__name__").getD .none) c' ctv
def Td(mg:MGz)(T:Addr)(pos:Pos)(params:Arguments)(body:Expr)(scope:Scope)(clos:List (Str×Addr))(qual:Str):TE:=λ σ H Q=>∃ps,H T=some (.tbl ps)/\TriplesOk ps.toList /\
 ((codeAmong pos ps.toList=none/\∀c' f ctv,H c'=none->H f=none->c'≠f->c'≠T->f≠T->Q (.ref f) (upd (upd (upd H T (.tbl (ps++#[rawInt pos.line,rawInt pos.col,.ref c']))) c' (C5 c' qual)) f (Fv f (BI mg qual params body scope clos c' ctv)))) \/
  ∃c',codeAmong pos ps.toList=some (.ref c')/\H c'=some (C5 c' qual)/\∀f ctv,H f=none->Q (.ref f) (upd H f (Fv f (BI mg qual params body scope clos c' ctv))))
section
variable{X:Cx}
theorem Sl{params:Arguments}{body:Expr}{scope:Scope}{pos:Pos}{c T:Addr}{clos:List (Str×Addr)}{qual:Str}(hcode:X.env.code=.ref c)(hC:∀h,X.K.In h->CodeHd h c T)(hB:ST X.K X.mg)(hdef:defaultsOf params X.env=([],[]))
  (hcl:closureFor scope X.env=pure clos) (hq:X.env.qual++"<lambda>"=qual):PE X (.Lambda params body scope pos) (Td X.mg T pos params body scope clos qual):=by
 intro pins s σ H Q I h;obtain⟨ps,hT,ht,alt⟩:=h;have hP:s.heap.get? T=some (tabObj ps):=I.hok T _ hT;have hg:s.heap.Ns mainGlobals X.mg:=I.mod.glob.keeps I.bk;obtain⟨bm,sl,b1,b2,b3,b4⟩:=hB.ex;have hbm:X.base.get? bm=some ⟨.type "module",some builtinsNs,.plain,sl⟩:=I.mod.kin bm _ b4;have hbT:bm≠T:=λ z=>by
  have:=(I.bs bm _ hbm).2;rw[z,hT]at this;cases this
 have hgT:mainGlobals≠T:=λ z=>by
  obtain⟨o,es,ep,e,_⟩:=I.mod.glob;have:=(I.bs _ _ e).2;rw[z,hT]at this;cases this
 have hb:s.heap.BuiltinsAt X.mg T:=⟨bm,_,b1,b2,b3,hbT,I.bk bm _ hbm,rfl,rfl,rfl⟩;refine kla_eval hdef ?_;rw[hq];rcases alt with ⟨hnf,q⟩|⟨c',hf,hc',q⟩
 .refine kla_makeFunction hcl I.ok.glob hg hcode (hC _ I.kIn) hP ht hnf hgT hb λ c' ctv h' tk hx hge hlt hrec htb=>?_;have I1:=I.grow (t':=tk) (h1:=h') (c':=c') (o:=C5 c' qual) (more:=#[rawInt pos.line,rawInt pos.col,.ref c']) hT (λ b u nb e=>hx b u nb e) htb hge (Qg hrec);have hn:H c'=none:=I.hok.fresh hge;have hnf':H h'.objs.size=none:=I.hok.fresh (Nat.le_trans hge (Nat.le_of_lt hlt));have I2:=I1.laid (a:=h'.objs.size) (o:=Fv h'.objs.size (BI X.mg qual params body scope clos c' ctv)) (t':=tk) (h':=h'.push (BI X.mg qual params body scope clos c' ctv)) (λ b u e=>Heap.get?_push_of_some _ e) (Nat.le_refl _) (N3 (Heap.get?_push_size _ rfl));exact⟨.ref h'.objs.size,_,I2,rfl,q c' h'.objs.size ctv hn hnf' (Nat.ne_of_lt hlt) (Ne.symm (Af hT hn)) (Ne.symm (Af hT hnf'))⟩
 .refine kla_makeFunctionHit hcl I.ok.glob hg hcode (hC _ I.kIn) hP ht hf hb λ ctv h' tk hk hsz=>?_;have hnf':H h'.objs.size=none:=I.hok.fresh hsz;have I1:=I.kept (t':=tk) hk;have I2:=I1.laid (a:=h'.objs.size) (o:=Fv h'.objs.size (BI X.mg qual params body scope clos c' ctv)) (t':=tk) (h':=h'.push (BI X.mg qual params body scope clos c' ctv)) (λ b u e=>Heap.get?_push_of_some _ e) (Nat.le_refl _) (N3 (Heap.get?_push_size _ rfl));exact⟨.ref h'.objs.size,_,I2,rfl,q h'.objs.size ctv hnf'⟩
end
theorem PH{P:Program}{w:World}{K:Frag}{mg:MGz}{base:Heap}{A:Around}{outer:List Env}{s:Shared}{H:Hp}{f c':Addr}{params:Arguments}{body:Expr}{scope:Scope}{qual:Str}{ctv:Value}{N ps:LSz}{vs:LUz}{us:LWz}{Q:VK}{E:XK}{k:Nat}{te:TE}{CX:CXT}
  (hf:H f=some (Fv f (BI mg qual params body scope [] c' ctv))) (hc:H c'=some (C5 c' qual)) (S:Al N ps scope) (hr:Room (k+1) A) (e0:Env0 P w K mg base A outer s H) (hl:vs.length=ps.length) (r:Vals vs us)
  (hb:BindsTo s (kla_fn "<lambda>" qual params body scope [] ((mg "__name__").getD .none) (.ref c') ctv) ⟨us,[]⟩ (ps.zip us)) (hbody:PE (Bv CX P w K mg base N qual scope f (.ref c') A outer s H E) body te) (hq:te (start N vs) H Q) :
  codeAny (model P w) A (.call (.ref f) ⟨us,[]⟩) (CR CX outer P w H s Q E) s:=by
 have lim:s.heap.NoLimit:=e0.mod.nolimit.keeps λ b o e=>(e0.bs b o e).1;have hkind:∀y∈ps.zip us,scope.names.lookup y.1=some .local\/(scope.names.lookup y.1=some .cell/\((cellsFrom (s.heap.objs.size+1) scope.names []).lookup y.1).isSome=true):=λ⟨n,v⟩ hy=>by
  rcases S.par n (List.of_mem_zip hy).1 with q|q
  .exact .inl q
  .exact .inr ⟨q,cellsFrom_some _ _ _ (.inl q)⟩
 have ho:s.heap.get? f=some (BI mg qual params body scope [] c' ctv):=(show ObjOk P w H s.heap f (Fv f _) from e0.hok f _ hf).1;refine kla_callFunE hr.depth ho rfl S.co S.gen rfl (O6 (e0.hok c' _ hc)) (hb _ _ _ _ ?_);refine wpAny_newFunctionEnv_cells S.kind hkind λ env he s1 x=>?_;subst he;refine⟨lim.keeps x.toInCall.keep,kla_codeExpr ?_⟩;have I:Inv (Bv CX P w K mg base N qual scope f (.ref c') A outer s H E) [] (start N vs) H s1:=Jt S hr.hd e0 hl r x;exact wpAny_mono (hbody [] s1 (start N vs) H Q I hq) (λ u s' ⟨v,H',J,rv,q⟩=>⟨v,H',J.os,J.bare,J.base,J.hok,rv,q⟩) λ e s' h=>h
section
variable{X:Cx}{pins:PNz}{σ:St}{H:Hp}{s:Shared}
theorem Inv.track{D:Addr}{o:HO}(I:Inv X pins σ H s)(hn:H D=none)(h1:X.s₀.heap.objs.size<=D)(hL:D≠X.env.locals)(h2:∀x c,X.env.cells.lookup x=some c->c≠D)(h3:∀p∈X.pn++pins,p.1≠D)
  (new:ObjOk X.prog X.w (upd H D o) s.heap D o):Inv X pins σ (upd H D o) s:=by
 have to:∀{b:Addr}{u:HO},H b=some u->(upd H D o) b=some u:=λ{b u} e=>by rw[Ai (Af e hn)];exact e
 have J:=I.step (h':=s.heap) (H':=upd H D o) (g':=s.gens) (d':=s.drawn) (t':=s.toks) (ch:=[D]) (λ b hb=>?_) (λ b u _ _ _ e _=>e) (λ b u _ _ _ e _=>⟨u.slots,e⟩) (λ b u hc e n=>?_) (λ b u _ e=>⟨u,e⟩)
  (λ b xs e=>to e) (λ b u xs e=>to e) (λ b ps e=>⟨#[],by rw[to e];simp⟩) (λ m hm=>hm) (λ b u e=>?_) I.bare
 .exact J
 .have e:b=D:=by simpa using hb
  subst e;exact⟨.inr h1,hL,h2,h3⟩
 .rw[Ai (λ z=>hc (by simp[z]))];exact n
 .by_cases hb:b=D
  .subst hb;rw[Ac]at e;cases e;exact new
  .rw[Ai hb]at e;exact(I.hok b u e).stay (λ c v _ r=>r) (λ c r=>to r) λ c xs r=>to r
theorem Inv.apart(I:Inv X pins σ H s){D:Addr}(h:s.heap.objs.size<=D):H D=none/\X.s₀.heap.objs.size<=D/\D≠X.env.locals/\D∉X.fs/\(∀x c,X.env.cells.lookup x=some c->c≠D)/\∀p∈X.pn++pins,p.1≠D:=by
 have no:¬D<s.heap.objs.size:=Nat.not_lt.mpr h;refine⟨I.hok.fresh h,Nat.le_trans I.sz h,λ z=>no (by rw[z];exact I.lt),λ hb=>?_,λ x c e z=>?_,λ p hp z=>?_⟩
 .obtain⟨_,o,ho,_⟩:=I.ok.funs.mem hb;exact no (Nat.lt_of_lt_of_le (Heap.lt_size ho) I.sz)
 .obtain⟨v,o,ho,_⟩:=I.cell x c e;exact no (by rw[<-z];exact Heap.lt_size ho)
 .exact no (by rw[<-z];exact Heap.lt_size (I.pin p hp).1)
theorem Inv.unpin{p:Addr×Obj}(I:Inv X (p::pins) σ H s):Inv X pins σ H s:=I.pins_of λ q hq=>I.pin q (List.mem_append_right _ (List.mem_cons_of_mem _ hq))
end
section
variable{X:Cx}{pins:PNz}{σ:St}{H:Hp}{s:Shared}{A:Around}{D kS:Addr}{vs ks:LWz}{e e1:Nat}
theorem EB{p:Addr×Obj}(I:Inv X pins σ H s)(hp:p∈pins):s.heap.get? p.1=some p.2:=(I.pin p (List.mem_append_right _ hp)).1
theorem Inv.repin{D:Addr}{n:Nat}{items:Array Value}{g:Array Value->Array Value}{pins:PNz}(I:Inv X ((D,seqObj "list" items n)::pins) σ H s)(h1:X.s₀.heap.objs.size<=D)(h2:∀x c,X.env.cells.lookup x=some c->c≠D)(h3:∀p∈X.pn++pins,p.1≠D) :
  ∃c,Inv X ((D,seqObj "list" (g items) c)::pins) σ H { s with heap:=s.heap.update D (Obj.mapSeq g) }:=by
 obtain⟨e,hn,hL,hf,_⟩:=I.pin (D,seqObj "list" items n) (List.mem_append_right _ List.mem_cons_self);obtain⟨c,hc⟩:∃c,(s.heap.update D (Obj.mapSeq g)).get? D=some (seqObj "list" (g items) c):=⟨_,get?_update_seq e g⟩;have J:Inv X pins σ H { s with heap:=s.heap.update D (Obj.mapSeq g),toks:=s.toks }:=I.unpin.turned (it:=D) (t':=s.toks) (λ b o nb q=>by rw[Heap.get?_update_ne _ _ _ _ nb];exact q) hn hL (.inr h1) h2 h3;refine⟨c,J.pins_of λ p hp=>?_⟩;rcases List.mem_cons.mp hp with rfl|hp
 .exact⟨hc,hn,hL,hf,λ v z=>nomatch z⟩
 .exact J.pin p (List.mem_append_right _ hp)
end
theorem Ko{X:Cx}{pins:PNz}{σ:St}{H:Hp}{s:Shared}{A:Around}{kts:List (Addr×List Int)}{m:Nat}(I:Inv X pins σ H s)(ht:∀t∈kts,t.2.length=m+1/\H t.1=some (.tup (t.2.map V.int))) :
  ∀t∈kts,t.2.length=m+1/\∃items,IsTup s.heap t.1 items/\IntsAre items.toList t.2:=λ t htm=>by
 obtain⟨h1,h2⟩:=ht t htm;obtain⟨_,zs,rz,tz⟩:=(show ObjOk X.prog X.w H s.heap t.1 (.tup (t.2.map V.int)) from I.hok _ _ h2);exact⟨h1,_,tz,by simpa using Hg rz⟩
theorem Sx{X:Cx}{pins:PNz}{σ:St}{H:Hp}{s:Shared}{A:Around}{f c' a:Addr}{params:Arguments}{body:Expr}{scope:Scope}{qual:Str}{ctv u:Value}{v:V}{N ps:LSz}{k:Nat}{te:TE}(I:Inv X pins σ H s)(e0:Env0 X.prog X.w X.K X.mg X.base A X.stack s H)
  (hf:H f=some (Fv f (BI X.mg qual params body scope [] c' ctv))) (hc:H c'=some (C5 c' qual)) (S:Al N ps scope) (hr:Room (k+1) A) (hl:ps.length=1) (r:RelV v u)
  (hb:BindsTo s (kla_fn "<lambda>" qual params body scope [] ((X.mg "__name__").getD .none) (.ref c') ctv) ⟨[u],[]⟩ (ps.zip [u]))
  (hbody:PE (Bv CX0 X.prog X.w X.K X.mg X.base N qual scope f (.ref c') A X.stack s H E0) body te) (hq:te (start N [v]) H λ y H'=>y=.ref a/\H'=H) :
  wpAny (model X.prog X.w) A (call (.ref f) [u]) (λ y s'=>y=.ref a/\Inv X pins σ H s') (λ_ _=>False) s:=by
 refine wpAny_call (codeAny_mono (PH (Q:=λ y H'=>y=.ref a/\H'=H) hf hc S hr e0 (by rw[hl];rfl) (.cons r .nil) hb hbody hq) λ r s' hq'=>?_);cases r with
 |error e=>exact False.elim hq'
 |ok fl =>
  cases fl with
  |ret y =>
   obtain⟨z,H',J,rz,ez,eH⟩:=I.after hq';subst ez eH;cases rz;exact⟨rfl,J⟩
  |next=>exact False.elim hq'
  |brk=>exact False.elim hq'
  |cont=>exact False.elim hq'
theorem Sv{M:Model}{A:Around}{E:VPz}{s:Shared}{kd:SortKind}{κ:Value->Int}{S:Keyed->Prop}(h:∀x y,S x->S y->∀C:Bool->Shared->Prop,C (decide (κ x.1<κ y.1)) s->wpAny M A (keyLt' kd x.1 y.1) C (λ_ _=>False) s):LtG M A E s kd (λ p=>κ p.1) S:=λ x y hx hy st Q hk hq=>by
 rw[lt'_eq];refine wpS_bind (wpS_get ?_);rw[hk];refine wpS_bind (wpS_lift (wpAny_attempt (wpAny_mono (h x y hx hy (λ b s'=>b=decide (κ x.1<κ y.1)/\s'=s) ⟨rfl,rfl⟩) (λ b s' hb=>?_) λ_ _ z=>z.elim)));obtain⟨rfl,rfl⟩:=hb;exact⟨rfl,wpS_pure hq⟩
theorem Pu{α β:Type}{f:α->β}{l m:List β}(h:l.Perm m):∀ts:List α,m=ts.map f->∃ts':List α,ts'.Perm ts/\l=ts'.map f:=by
 induction h with
 |nil =>
  intro ts e;rw[List.map_eq_nil_iff.mp e.symm];exact⟨[],.nil,rfl⟩
 |cons x p ih =>
  intro ts e;obtain⟨t,r,rfl,e1,e2⟩:=List.map_eq_cons_iff.mp e.symm;obtain⟨r',p',e'⟩:=ih r e2.symm;exact⟨t::r',p'.cons t,by rw[e',List.map_cons,e1]⟩
 |swap x y l =>
  intro ts e;obtain⟨t,r,rfl,e1,e2⟩:=List.map_eq_cons_iff.mp e.symm;obtain⟨u,q,rfl,e3,e4⟩:=List.map_eq_cons_iff.mp e2;exact⟨u::t::q,List.Perm.swap _ _ _,by rw[List.map_cons,List.map_cons,e1,e3,e4]⟩
 |trans p q ih1 ih2 =>
  intro ts e;obtain⟨t2,p2,e2⟩:=ih2 ts e;obtain⟨t1,p1,e1⟩:=ih1 t2 e2;exact⟨t1,p1.trans p2,e1⟩
def LQ(X:Cx)(σ:St)(H:Hp)(kvs:LUz)(kd:SortKind)(κ:Value->Int):Prop:=∀(A:Around)(ks:LWz)(pins:PNz)(s:Shared),Vals kvs ks->Inv X pins σ H s ->
 (∀(C:SortKind->Shared->Prop)(E:VPz),2<=ks.length->C kd s->wpAny (model X.prog X.w) A (keyKind' ks.toArray) C E s) /\
 ∀x∈ks,∀y∈ks,∀C:Bool->Shared->Prop,C (decide (κ x<κ y)) s->wpAny (model X.prog X.w) A (keyLt' kd x y) C (λ_ _=>False) s
section
variable{X:Cx}{pins:PNz}{σ:St}{H:Hp}{s:Shared}{A:Around}{D kS f:Addr}{vs:LWz}{e1:Nat}{kvs:LUz}{kd:SortKind}{κ:Value->Int}{P:PySem.Fin->Shared->Prop}{E:VPz}
theorem L9{e:Nat}{st:SortSt}{ks out:LWz}(I:Inv X ((kS,seqObj "list" ks.toArray e)::(D,seqObj "list" #[] e1)::pins) σ H s)(hk1:X.s₀.heap.objs.size<=kS)(hkc:∀x c,X.env.cells.lookup x=some c->c≠kS)(hkp:∀p∈X.pn++((D,seqObj "list" #[] e1)::pins),p.1≠kS)
  (hD1:X.s₀.heap.objs.size<=D) (hDc:∀x c,X.env.cells.lookup x=some c->c≠D) (hDp:∀p∈X.pn++pins,p.1≠D) (hout:(arrOf st).map (·.2)=List.toArray out) (hz:out.length<=sizeLine) (hkz:ks.length<=sizeLine) (hf:failedOf st=none)
  (h:∀(c:Nat)(s':Shared),Inv X pins σ H s'->s'.heap.get? D=some (seqObj "list" (List.toArray out) c)->P (.done (.ret .none)) s'):wpAny (model X.prog X.w) A (ksk_tail D false e1 (.ref kS) st) P E s:=by
 have ek:=EB I List.mem_cons_self;obtain⟨ck,I1⟩:=I.repin (g:=λ_=>(#[]:Array Value)) hk1 hkc hkp;have eD:=EB I1 (List.mem_cons_of_mem _ List.mem_cons_self);obtain⟨cD,I2⟩:=(I1.unpin).repin (g:=λ_=>List.toArray out) hD1 hDc hDp;unfold ksk_tail
 try dsimp only
 rw[hout];refine wpAny_bind (listUpdate_at ek rfl ?_ (by rw[List.size_toArray];exact hkz) (Nat.zero_le _));refine wpAny_bind (wpAny_letGo ?_);refine wpAny_bind (seqEpoch_at eD rfl ?_);refine wpAny_bind (listUpdate_at eD rfl ?_ (Nat.zero_le _) (by show out.toArray.size<=_;rw[List.size_toArray];lia));rw[hf];simp only[bne_self_eq_false,Bool.false_eq_true,if_false];exact wpAny_pure (h cD _ I2.unpin (EB I2 List.mem_cons_self))
theorem Re{e:Nat}{ks:LWz}(G:LQ X σ H kvs kd κ)(hks:Vals kvs ks)(I:Inv X ((kS,seqObj "list" ks.toArray e)::(D,seqObj "list" #[] e1)::pins) σ H s)(hk1:X.s₀.heap.objs.size<=kS)(hkc:∀x c,X.env.cells.lookup x=some c->c≠kS)(hkp:∀p∈X.pn++((D,seqObj "list" #[] e1)::pins),p.1≠kS)
  (hD1:X.s₀.heap.objs.size<=D) (hDc:∀x c,X.env.cells.lookup x=some c->c≠D) (hDp:∀p∈X.pn++pins,p.1≠D) (hl:ks.length=vs.length) (hz:vs.length<=sizeLine)
  (h:∀(zs:List Keyed)(c:Nat)(s':Shared),zs.Perm (ks.zip vs)->(zs.map λ p=>κ p.1).Pairwise (·<=·)->Inv X pins σ H s'->s'.heap.get? D=some (seqObj "list" (List.toArray (zs.map (·.2))) c)->P (.done (.ret .none)) s') :
  wpAny (model X.prog X.w) A (ksk_end D false vs.toArray e1 (.ref kS) ks.toArray) P E s:=by
 obtain⟨g1,g2⟩:=G A ks _ s hks I;unfold ksk_end
 try dsimp only
 simp only[Bool.false_eq_true,if_false];have hsz:vs.toArray.size=vs.length:=by simp
 have zl:((ks.toArray.zip vs.toArray).toList:List Keyed)=ks.zip vs:=by simp
 by_cases h2:vs.toArray.size<2
 .rw[if_pos h2,if_pos h2];refine wpAny_bind (wpAny_pure ?_);rw[StateT.run_pure];refine wpAny_bind (wpAny_pure ?_);dsimp only;have e2:(arrOf (SortSt.mk' general' (ks.toArray.zip vs.toArray) #[] 7 none)).map (·.2)=List.toArray ((ks.zip vs).map (·.2)):=by
   show(ks.toArray.zip vs.toArray).map (·.2)=_;apply Array.ext';rw[Array.toList_map,zl]
  refine L9 I hk1 hkc hkp hD1 hDc hDp e2 (by rw[List.length_map,List.length_zip,hl,Nat.min_self];exact hz) (by lia) rfl λ c s' I' e'=>h _ c s' (List.Perm.refl _) ?_ I' e';rw[hsz]at h2;have l1:((ks.zip vs).map λ p=>κ p.1).length<=1:=by rw[List.length_map,List.length_zip];lia
  generalize (ks.zip vs).map (λ p=>κ p.1)=l at l1
  match l,l1 with
  |[],_=>exact List.Pairwise.nil
  |[x],_=>exact List.pairwise_singleton _ _
 .rw[if_neg h2,if_neg h2];refine wpAny_bind (g1 _ _ (by lia) ?_);refine wpAny_bind (wpAny_mono (Ic (A:=A) (E:=E) (s:=s) (M:=model X.prog X.w) (kd:=kd) (κ:=λ p=>κ p.1) (S:=λ p=>p∈ks.zip vs) (st:=SortSt.mk' kd (ks.toArray.zip vs.toArray) #[] 7 none)
   (Q:=λ_ st'=>(arrOf st').toList.Perm (ks.zip vs)/\failedOf st'=none/\Rise (λ p:Keyed=>κ p.1) (arrOf st').toList) (Sv λ x y hx hy C hc=>g2 _ (List.of_mem_zip hx).1 _ (List.of_mem_zip hy).1 C hc) rfl rfl rfl
   (λ x hx=>by rw[<-zl];exact hx) λ u p f r=>⟨by rw[<-zl];exact Array.perm_iff_toList_perm.mp p,f,r⟩) ?_ λ_ _ e=>e)
  rintro⟨⟨⟩,st'⟩ s' ⟨rfl,hp,hf,hr⟩;dsimp only;have e2:(arrOf st').map (·.2)=List.toArray ((arrOf st').toList.map (·.2)):=by
   apply Array.ext';rw[Array.toList_map]
  refine L9 I hk1 hkc hkp hD1 hDc hDp e2 (by rw[List.length_map,hp.length_eq,List.length_zip,hl,Nat.min_self];exact hz) (by lia) hf λ c s' I' e'=>h _ c s' hp ?_ I' e';exact List.pairwise_map.mpr hr
theorem PL(G:LQ X σ H kvs kd κ)(I:Inv X ((kS,seqObj "list" #[] 0)::(D,seqObj "list" #[] e1)::pins) σ H s)(hk1:X.s₀.heap.objs.size<=kS)(hkc:∀x c,X.env.cells.lookup x=some c->c≠kS)(hkp:∀p∈X.pn++((D,seqObj "list" #[] e1)::pins),p.1≠kS)
  (hD1:X.s₀.heap.objs.size<=D) (hDc:∀x c,X.env.cells.lookup x=some c->c≠D) (hDp:∀p∈X.pn++pins,p.1≠D) (hl:kvs.length=vs.length) (hz:vs.length<=sizeLine)
  (hcall:∀(i:Nat)(v:Value)(k:V)(pins':PNz)(s':Shared),vs[i]?=some v->kvs[i]?=some k->Inv X pins' σ H s'->wpAny (model X.prog X.w) A (call (.ref f) [v]) (λ u s''=>RelV k u/\Inv X pins' σ H s'') (λ_ _=>False) s')
  (h:∀(ks:LWz)(zs:List Keyed)(c:Nat)(s':Shared),Vals kvs ks->zs.Perm (ks.zip vs)->(zs.map λ p=>κ p.1).Pairwise (·<=·)->Inv X pins σ H s'->s'.heap.get? D=some (seqObj "list" (List.toArray (zs.map (·.2))) c)->P (.done (.ret .none)) s') :
  wpAny (model X.prog X.w) A (ksk_rest D (.ref f) false vs.toArray e1 (.ref kS)) P E s:=by
 unfold ksk_rest;refine wpAny_bind (wpAny_rule ?_)
 first
  |rw[List.forIn_toArray]
  | (rw[<-Array.forIn_toList];simp only[List.toList_toArray])
  |rw[<-Array.forIn_toList]
 refine wpAny_bind (ksk_fold (λ i s'=>∃(ks:LWz)(e:Nat),Vals (kvs.take i) ks/\Inv X ((kS,seqObj "list" ks.toArray e)::(D,seqObj "list" #[] e1)::pins) σ H s') vs 0 s ⟨[],0,by rw[List.take_zero];exact .nil,I⟩ (λ j x s' hx hJ=>?_) λ s' hJ=>?_)
 .obtain⟨ks,e,hv,J⟩:=hJ;rw[Nat.zero_add]at hv |-;have hj:j<kvs.length:=by rw[hl];exact(List.getElem?_eq_some_iff.mp hx).1
  have htj:kvs[j]?=some kvs[j]:=List.getElem?_eq_getElem hj;refine wpAny_bind (wpAny_attempt (wpAny_mono (hcall j x kvs[j] _ s' hx htj J) (λ u s'' hu=>?_) λ_ _ hF=>hF.elim));obtain⟨ru,J'⟩:=hu;have ek:=EB J' List.mem_cons_self;obtain⟨c,J2⟩:=J'.repin (g:=(·.push u)) hk1 hkc hkp;have ea:(ks.toArray).push u=(ks++[u]).toArray:=by simp
  rw[ea]at J2;have lk:ks.length=j:=by rw[<-hv.length,List.length_take];lia
  try dsimp only
  refine wpAny_bind (listUpdate_at ek rfl ?_ (by rw[List.size_toArray];lia) (Nat.le_trans (Nat.le_of_eq (Array.size_push ..)) (by rw[List.size_toArray];lia)));exact wpAny_pure ⟨rfl,ks++[u],c,by rw[List.take_succ,htj];exact hv.append (.cons ru .nil),J2⟩
 .obtain⟨ks,e,hv,J⟩:=hJ;rw[Nat.zero_add,<-hl,List.take_length]at hv
  try dsimp only
  refine wpAny_bind (listItems_at (EB J List.mem_cons_self) rfl ?_);exact Re G hv J hk1 hkc hkp hD1 hDc hDp (by rw[<-hv.length];exact hl) hz λ zs c s'=>h ks zs c s' hv
end
theorem MB{X:Cx}{pins:PNz}{σ:St}{H:Hp}{s:Shared}{A:Around}{D f:Addr}{vs:LWz}{n:Nat}{kvs:LUz}{kd:SortKind}{κ:Value->Int}{P:PySem.Fin->Shared->Prop}{E:VPz}(G:LQ X σ H kvs kd κ)
  (I:Inv X pins σ H s) (ho:s.heap.get? D=some (seqObj "list" vs.toArray n)) (hD:H D=none) (hD1:X.s₀.heap.objs.size<=D) (hDL:D≠X.env.locals) (hDf:D∉X.fs) (hDc:∀x c,X.env.cells.lookup x=some c->c≠D) (hDp:∀p∈X.pn++pins,p.1≠D)
  (hl:kvs.length=vs.length) (hz:vs.length<=sizeLine)
  (hcall:∀(i:Nat)(v:Value)(k:V)(pins':PNz)(s':Shared),vs[i]?=some v->kvs[i]?=some k->Inv X pins' σ H s'->wpAny (model X.prog X.w) A (call (.ref f) [v]) (λ u s''=>RelV k u/\Inv X pins' σ H s'') (λ_ _=>False) s')
  (h:∀(ks:LWz)(zs:List Keyed)(c:Nat)(s':Shared),Vals kvs ks->zs.Perm (ks.zip vs)->(zs.map λ p=>κ p.1).Pairwise (·<=·)->Inv X pins σ H s'->s'.heap.get? D=some (seqObj "list" (List.toArray (zs.map (·.2))) c)->P (.done (.ret .none)) s') :
  wpAny (model X.prog X.w) A (Builtin.«list.sort» ⟨[.ref D],[(Str.ofString "key",.ref f)]⟩) P E s:=by
 rw[ksk_t1];unfold ksk_tree;refine wpAny_bind (listItems_at ho rfl ?_);refine wpAny_bind (listUpdate_at ho rfl ?_ (by rw[List.size_toArray];exact hz) (Nat.zero_le _));obtain⟨e1,ho1⟩:∃e1,(s.heap.update D (Obj.mapSeq λ_=>(#[]:Array Value))).get? D=some (seqObj "list" #[] e1):=⟨_,get?_update_seq ho λ_=>#[]⟩;have I1:Inv X pins σ H { s with heap:=s.heap.update D (Obj.mapSeq λ_=>(#[]:Array Value)),toks:=s.toks }:=I.turned (it:=D) (λ b o nb q=>by rw[Heap.get?_update_ne _ _ _ _ nb];exact q) hD hDL (.inr hD1) hDc hDp;have I1:Inv X ((D,seqObj "list" #[] e1)::pins) σ H { s with heap:=s.heap.update D (Obj.mapSeq λ_=>(#[]:Array Value)) }:=I1.pins_of λ p hp=>by
  rcases List.mem_cons.mp hp with rfl|hp
  .exact⟨ho1,hD,hDL,hDf,λ v z=>nomatch z⟩
  .exact I1.pin p (List.mem_append_right _ hp)
 refine wpAny_bind (seqEpoch_at ho1 rfl ?_);refine wpAny_bind (wpAny_newTuple ?_ hz);refine wpAny_bind (wpAny_newList ?_ (Nat.zero_le _));refine wpAny_holding ?_;have I2:=(I1.kept (t':=s.toks) (h':=(s.heap.update D (Obj.mapSeq λ_=>(#[]:Array Value))).push (seqObj "tuple" vs.toArray 0)) λ b u q=>Heap.get?_push_of_some _ q);have ap:=I2.apart (D:=((s.heap.update D (Obj.mapSeq λ_=>(#[]:Array Value))).push (seqObj "tuple" vs.toArray 0)).objs.size) (Nat.le_refl _);have I3:=I2.kept (t':=s.toks) (h':=((s.heap.update D (Obj.mapSeq λ_=>(#[]:Array Value))).push (seqObj "tuple" vs.toArray 0)).push (seqObj "list" #[] 0)) λ b u q=>Heap.get?_push_of_some _ q;have hk0:(((s.heap.update D (Obj.mapSeq λ_=>(#[]:Array Value))).push (seqObj "tuple" vs.toArray 0)).push (seqObj "list" #[] 0)).get? ((s.heap.update D (Obj.mapSeq λ_=>(#[]:Array Value))).push (seqObj "tuple" vs.toArray 0)).objs.size=some (seqObj "list" #[] 0):=Heap.get?_push_size _ rfl;show wpAny (model X.prog X.w) A (ksk_rest D (.ref f) false vs.toArray e1 (.ref ((s.heap.update D (Obj.mapSeq λ_=>(#[]:Array Value))).push (seqObj "tuple" vs.toArray 0)).objs.size)) P E { s with heap:=((s.heap.update D (Obj.mapSeq λ_=>(#[]:Array Value))).push (seqObj "tuple" vs.toArray 0)).push (seqObj "list" #[] 0) };obtain⟨a1,a2,a3,a4,a5,a6⟩:=ap;refine PL G (I3.pins_of λ p hp=>?_) a2 a5 a6 hD1 hDc hDp hl hz hcall h;rcases List.mem_cons.mp hp with rfl|hp
 .exact⟨hk0,a1,a3,a4,λ v z=>nomatch z⟩
 .exact I3.pin p (List.mem_append_right _ hp)
theorem Lc{X:Cx}{pins:PNz}{σ:St}{H:Hp}{s:Shared}{f p:Addr}{β:Type}{ts:List (Addr×β)}{kv:Addr×β->V}{K:Addr×β->Int}{kd:SortKind}{κ:Value->Int}{Q:VK}(I:Inv X pins σ H s)(hp:SqL X.K H p (ts.map λ t=>V.ref t.1))(G:LQ X σ H (ts.map kv) kd κ)
  (hκ:∀t∈ts,∀u,RelV (kv t) u->κ u=K t)
  (hcall:∀t∈ts,∀(pins':PNz)(s':Shared),Inv X pins' σ H s'->wpAny (model X.prog X.w) X.A.in1.in1 (call (.ref f) [.ref t.1]) (λ u s''=>RelV (kv t) u/\Inv X pins' σ H s'') (λ_ _=>False) s')
  (h:∀l (ts':List (Addr×β)),H l=none->ts'.Perm ts->(ts'.map K).Pairwise (·<=·)->Q (.ref l) (upd H l (.lst (ts'.map λ t=>V.ref t.1)))) :
  wpAny (model X.prog X.w) X.A (call (.builtin "sorted") [.ref p] [(Str.ofString "key",.ref f)]) (EP X pins σ Q) X.xe s:=by
 obtain⟨its,rv,pl,hz⟩:=I.list hp;have hits:its=ts.map λ t=>Value.ref t.1:=by
  have:=DO (ts:=ts.map (·.1)) (its:=its) (by rw[List.map_map];exact rv);rw[this,List.map_map];rfl
 have hlen:its.length=ts.length:=by rw[hits,List.length_map]
 rw[List.length_map]at hz;refine call_function_entry_kw kind_sorted plain_sorted entry_sorted (ksk_s1 _ _) ?_;unfold Builtin.«sorted»;refine wpAny_bind (m:=checkCount "sorted" 1 1 _) (wpAny_pure ?_);refine wpAny_bind (collect_list pl.isList ?_ (by rw[hlen];exact hz));refine wpAny_bind (wpAny_newList ?_ (by rw[hlen];exact hz));have hsz:((s.heap.push (seqObj "list" #[] 0)).update s.heap.objs.size (Obj.mapSeq (·++its.toArray))).objs.size=s.heap.objs.size+1:=by
  rw[Heap.size_update,size_push']
 have hoL:(((s.heap.push (seqObj "list" #[] 0)).update s.heap.objs.size (Obj.mapSeq (·++its.toArray))).push (seqObj "list" its.toArray 0)).get? (s.heap.objs.size+1)=some (seqObj "list" its.toArray 0):=by
  rw[<-hsz];exact Heap.get?_push_size _ rfl
 have keep:∀b o,s.heap.get? b=some o->(((s.heap.push (seqObj "list" #[] 0)).update s.heap.objs.size (Obj.mapSeq (·++its.toArray))).push (seqObj "list" its.toArray 0)).get? b=some o:=λ b o q=>by
  have hlt:b<s.heap.objs.size:=Heap.lt_size q;rw[Heap.get?_push_ne _ _ _ (by rw[hsz];exact Nat.ne_of_lt (Nat.lt_succ_of_lt hlt)),Heap.get?_update_ne _ _ _ _ (Nat.ne_of_lt hlt),Heap.get?_push_ne _ _ _ (Nat.ne_of_lt hlt)];exact q
 obtain⟨a1,a2,a3,a4,a5,a6⟩:=I.apart (D:=s.heap.objs.size+1) (Nat.le_succ _);have I3:Inv X pins σ H { s with heap:=((s.heap.push (seqObj "list" #[] 0)).update s.heap.objs.size (Obj.mapSeq (·++its.toArray))).push (seqObj "list" its.toArray 0) }:=I.kept (t':=s.toks) keep;show wpAny _ _ _ _ _ { s with heap:=((s.heap.push (seqObj "list" #[] 0)).update s.heap.objs.size (Obj.mapSeq (·++its.toArray))).push (seqObj "list" its.toArray 0) };rw[hsz];refine wpAny_bind (wpAny_holding (wpAny_call_entry_kw slot_list_sort ⟨_,hoL,rfl⟩ entry_list_sort ?body (ksk_l1 _ _)))
 case body =>
  refine MB G I3 hoL a1 a2 a3 a4 a5 a6 (by rw[List.length_map,hlen]) (by rw[hlen];exact hz) (λ i v k pins' s' hv hk J=>?_) λ ks zs c s' rk pz sz J eD=>?_
  .rw[List.getElem?_map]at hk;obtain⟨t0,ht0,rfl⟩:=Option.map_eq_some_iff.mp hk;rw[hits,List.getElem?_map,ht0]at hv;cases hv;exact hcall t0 (List.mem_of_getElem? ht0) pins' s' J
  .refine⟨_,rfl,wpAny_pure ⟨_,rfl,?_⟩⟩;have lk:ks.length=ts.length:=by rw[<-rk.length,List.length_map]
   have ez:ks.zip its=(ts.zip ks).map λ p=>(p.2,Value.ref p.1.1):=by
    rw[hits];clear rk sz pz hp G hκ hcall h hits rv pl hlen hz I3 hoL keep hsz J
    induction ts generalizing ks with
    |nil=>simp
    |cons t r ih =>
     match ks,lk with
     |k::ks,lk =>
      have:=ih ks (by simpa using lk)
      simpa using this
   obtain⟨ys,py,ey⟩:=Pu pz (ts.zip ks) ez;have memK:∀y∈ts.zip ks,κ y.2=K y.1:=λ y hy=>by
    refine hκ y.1 (List.of_mem_zip hy).1 y.2 ?_;clear ez py ey pz sz hits rv pl hlen hz I3 hoL keep hsz J hp G hκ hcall h
    induction ts generalizing ks with
    |nil=>simp at hy
    |cons t r ih =>
     match ks,rk,lk with
     |k::ks,.cons r1 r2,lk =>
      rw[List.zip_cons_cons]at hy;rcases List.mem_cons.mp hy with rfl|hy
      .exact r1
      .exact ih ks r2 (by simpa using lk) hy
   have eO:zs.map (·.2)=(ys.map (·.1)).map λ t=>Value.ref t.1:=by
    rw[ey,List.map_map,List.map_map];rfl
   have pT:(ys.map (·.1)).Perm ts:=by
    have:=py.map (·.1);rwa [List.map_fst_zip (by lia)]at this
   rw[eO]at eD;refine⟨.ref (s.heap.objs.size+1),_,J.track (o:=.lst ((ys.map (·.1)).map λ t=>V.ref t.1)) a1 a2 a3 a5 a6 ⟨?_,_,c,?_,eD⟩,rfl,h _ _ a1 pT ?_⟩
   .rw[List.length_map,pT.length_eq];exact hz
   .have:=Ej ((ys.map (·.1)).map (·.1));rw[List.map_map,List.map_map (l:=ys.map (·.1))]at this;exact this
   .rw[ey,List.map_map]at sz;rw[List.map_map];have:ys.map (K∘λ y=>y.1)=ys.map ((λ p:Keyed=>κ p.1)∘λ p=>(p.2,Value.ref p.1.1)):=List.map_congr_left λ y hy=>(memK y (py.mem_iff.mp hy)).symm;rw[this];exact sz
def R9(H:Hp)(key:List Int->Int):Value->Int
 |.ref a=>match H a with
  |some (.tup l)=>key (l.map λ v=>match v with|.int i=>i|_=>0)
  |_=>0
 |_=>0
theorem Fo{H:Hp}{key:List Int->Int}{a:Addr}{ns:List Int}(h:H a=some (.tup (ns.map V.int))):R9 H key (.ref a)=key ns:=by
 show(match H a with|some (.tup l)=>key (l.map λ v=>match v with|.int i=>i|_=>0)|_=>0)=key ns;rw[h];show key ((ns.map V.int).map _)=key ns;rw[List.map_map];congr 1;exact List.map_id _
theorem Ot{X:Cx}{σ:St}{H:Hp}{kts:List (Addr×List Int)}{m:Nat}{key:List Int->Int}(ht:∀t∈kts,t.2.length=m+1/\H t.1=some (.tup (t.2.map V.int)))(hkey:∀t∈kts,∀u∈kts,HT.lexLt t.2 u.2=decide (key t.2<key u.2)) :
  LQ X σ H (kts.map λ t=>V.ref t.1) (tuples' true) (R9 H key):=λ A ks pins s rk I=>by
 have hks:ks=kts.map λ t=>Value.ref t.1:=by
  have:=DO (ts:=kts.map (·.1)) (its:=ks) (by rw[List.map_map];exact rk);rw[this,List.map_map];rfl
 subst hks;have tup:=Ko (A:=A) I ht;refine⟨λ C E h2 hc=>?_,λ x hx y hy C hc=>?_⟩
 .obtain⟨fs,f1,f2,f3⟩:=Er tup;rw[List.length_map]at h2;exact kat_kind (T:=Value.type "int") f1 (by lia) (λ v hv=>by obtain⟨n,tk,rfl⟩:=f3 v hv;exact .now) (by decide) hc
 .obtain⟨t,mt,rfl⟩:=List.mem_map.mp hx;obtain⟨u,mu,rfl⟩:=List.mem_map.mp hy;obtain⟨l1,x1,⟨o1,g1,c1,n1,d1⟩,z1⟩:=tup t mt;obtain⟨l2,x2,⟨o2,g2,c2,n2,d2⟩,z2⟩:=tup u mu;rw[Fo (ht t mt).2,Fo (ht u mu).2,<-hkey t mt u mu]at hc;have s1:=z1.length;have s2:=z2.length;exact kat_lt g1 d1 g2 d2 (DA (by rw[decide_eq_false];simp at s1 s2;lia) 0 z1 z2 (by lia) hc)
def Q6(K:Frag)(mg:MGz)(N:LSz)(qual:Str)(params:Arguments)(body:Expr)(scope:Scope)(te:TE)(ta:TA)(tl:TE):TE:=λ σ H Q=>ta σ H λ xs H1=>tl σ H1 λ fv H2=>∃(f c' p:Addr)(ctv:Value)(β:Type)(ts:List (Addr×β))(kt:Addr×β->Addr×List Int)(m:Nat)(key:List Int->Int),
 fv=.ref f/\H2 f=some (Fv f (BI mg qual params body scope [] c' ctv))/\H2 c'=some (C5 c' qual)/\xs=[.ref p]/\SqL K H2 p (ts.map λ t=>V.ref t.1)/\(∀t∈ts,(kt t).2.length=m+1/\H2 (kt t).1=some (.tup ((kt t).2.map V.int))) /\
 (∀t∈ts,te (start N [.ref t.1]) H2 λ y H'=>y=.ref (kt t).1/\H'=H2)/\(∀t∈ts,∀u∈ts,HT.lexLt (kt t).2 (kt u).2=decide (key (kt t).2<key (kt u).2)) /\
 ∀l (ts':List (Addr×β)),H2 l=none->ts'.Perm ts->(ts'.map λ t=>key (kt t).2).Pairwise (·<=·)->Q (.ref l) (upd H2 l (.lst (ts'.map λ t=>V.ref t.1)))
section
variable{X:Cx}{k j:Nat}{y:Str}{ps:LSz}{sp:Sp}{e:Expr}{p q kp pos:Pos}{ta:TA}
theorem Od{params:Arguments}{body:Expr}{scope:Scope}{qual:Str}{lp:Pos}{N ps:LSz}{te tl:TE}(hg:Gl X "sorted")(hm:X.mg "sorted"=none)(ha:PA X [e] ta)(hl:PE X (.Lambda params body scope lp) tl)(S:Al N ps scope)(hps:ps.length=1)(hr:Room (k+3) X.A)
  (hb:∀(s:Shared)(pm ctv u:Value)(c':Addr),BindsTo s (kla_fn "<lambda>" qual params body scope [] pm (.ref c') ctv) ⟨[u],[]⟩ (ps.zip [u]))
  (hbody:∀(A:Around)(outer:List Env)(s:Shared)(H:Hp)(f c':Addr),PE (Bv CX0 X.prog X.w X.K X.mg X.base N qual scope f (.ref c') A outer s H E0) body te)
  (he:backTo pos (starEach [e] X.env)=(false,eval e X.env)::backTo pos (starEach [] X.env):=by rfl) (hn:(backTo pos (starEach [e] X.env)).any (·.1)=false:=by rfl) :
  PE X (.Call (.Name "sorted" p) [e] [⟨some "key",.Lambda params body scope lp,kp⟩] pos) (Q6 X.K X.mg N qual params body scope te ta tl):=by
 intro pins s σ H Q I h;refine wpAny_Call_Name_kw (D9 I hg hm (by rfl) ?_);refine PyProof.Rows.callWith_kw (thn (ha pos pins s σ H _ I h) λ us s1 ⟨vs,H1,I1,r1,q1⟩=>?_) he hn;refine PyProof.Rows.kws_cons (thn (hl pins s1 σ H1 _ I1 q1) λ fv s2 ⟨y,H2,I2,ry,q2⟩=>PyProof.Rows.kws_nil ?_);obtain⟨f,c',l,ctv,β,ts,kt,m,key,rfl,hf,hc,rfl,hp,hk,hte,hkey,q⟩:=q2;obtain⟨u,rfl,ru⟩:=CL r1;cases ru;cases ry;have G:=Ot (X:=X) (σ:=σ) (H:=H2) (kts:=ts.map kt) (m:=m) (key:=key) (λ t ht=>by obtain⟨t0,m0,rfl⟩:=List.mem_map.mp ht;exact hk t0 m0) λ t ht u hu=>by
  obtain⟨t0,m0,rfl⟩:=List.mem_map.mp ht;obtain⟨u0,m1,rfl⟩:=List.mem_map.mp hu;exact hkey t0 m0 u0 m1
 rw[List.map_map]at G;refine Lc (K:=λ t=>key (kt t).2) (kv:=λ t=>V.ref (kt t).1) I2 hp G (λ t ht u hu=>by cases hu;exact Fo (hk t ht).2) (λ t ht pins' s' J=>?_) q;exact wpAny_mono (Sx (te:=te) (v:=.ref t.1) (u:=.ref t.1) J (J.env0.in1.in1) hf hc S ((hr.in1).in1) hps rfl (hb _ _ _ _ _) (hbody _ _ _ _ _ _) (hte t ht)) (λ u s'' ⟨e,J'⟩=>⟨by rw[e];rfl,J'⟩) λ_ _ z=>z
end
def Qu(Ts:List Addr)(H:Hp):Prop:=(∀b,H b=none\/(∃o xs,H b=some (.frz o (.lst xs)))\/(b∈Ts/\H b=some (.tbl #[])))/\∀T∈Ts,H T=some (.tbl #[])
theorem K0{h:Heap}{c T:Addr}(x:CodeHd h c T):isCodeTable h T:=by
 obtain⟨o,vs,file,tf,flags,tg,inF,text,tt,e1,e2,e3,e4,_⟩:=x;exact⟨c,o,vs,e1,e2,e3,e4⟩
theorem law_callT{P:Program}{w:World}{K:Frag}{mg mb:MGz}{CX:CXT}{k:Nat}{fa a:Addr}{fd:FuncData}{x:Str}{sp:Sp}{s₁:Shared}{vs:LWz}{ns:List Int}{Ts:List Addr}
  (KX:K.In s₁.heap) (hns:s₁.heap.Ns mainGlobals mg) (hb:s₁.heap.Ns builtinsNs mb) (hbb:∀x:Str,x≠"__name__"->mb x=bootBuiltins x) (hlim:s₁.heap.NoLimit) (hg:s₁.gens=#[])
  (ha:s₁.heap.get? a=some { cls:=.type "list",data:=.seq vs.toArray }) (hi:IntsAre vs ns) (hl:ns.length<=sizeLine) (hr:Room k callerA)
  (hT:∀T∈Ts,s₁.heap.get? T=some (tabObj #[])/\K.lookup T=none/\∃c,CodeHd s₁.heap c T)
  (F:∀base:Heap,K.In base->base.Ns mainGlobals mg->A9 P w K mg base CX k fa fd [x] sp) (hbind:∀(s:Shared)(u:Value),BindsTo s fd ⟨[u],[]⟩ [(x,u)])
  (hsp:∀H:Hp,Qu Ts H->SqL K H a (ns.map V.int)->sp [.ref a] H (λ v _=>v=.bl true) λ_ _ _=>False)
  (hCX:∀H e s',CX [] H s₁ (λ_ _ _=>False) e s'->False) :
  codeAny (model P w) callerA (.call (.ref fa) ⟨[.ref a],[]⟩) (λ r s'=>r=.ok (.ret (.bool true))/\OldK s₁.heap s'.heap/\s'.os=s₁.os/\AllBare s'.gens) s₁:=by
 have rv:=IT hi;have lenV:=hi.length;have core:∀H:Hp,Qu Ts H->SqL K H a (ns.map V.int)->HOk P w H s₁.heap->(∀b,H b≠none->b=a\/b∈Ts)->(H a≠none->K.lookup a=none) ->
   codeAny (model P w) callerA (.call (.ref fa) ⟨[.ref a],[]⟩) (λ r s'=>r=.ok (.ret (.bool true))/\OldK s₁.heap s'.heap/\s'.os=s₁.os/\AllBare s'.gens) s₁:=by
  intro H hO hS hok hA hK;have base_of:∀{b:Addr}{o:Obj},s₁.heap.get? b=some o->H b=none->(Ku s₁.heap H).get? b=some o:=λ e n=>PK e n;have noA:∀{b:Addr}{o:Obj}{es:Array DictEntry}{ep:Nat},s₁.heap.get? b=some o->o.data=.dict es ep->H b=none:=λ{b o es ep} e d=>by
   cases q:H b with
   |none=>rfl
   |some u =>
    rcases hA b (by rw[q];simp) with e'|e'
    .subst e';rw[ha]at e;cases e;have d':Data.seq vs.toArray _=Data.dict es ep:=d;cases d'
    .rw[(hT b e').1]at e;cases e;cases d
  have nsK:∀{b:Addr}{m:MGz},s₁.heap.Ns b m->(Ku s₁.heap H).Ns b m:=λ{b m} ⟨o,es,ep,e,d,r⟩=>⟨o,es,ep,base_of e (noA e d),d,r⟩;have hKb:K.In (Ku s₁.heap H):=λ b o e=>base_of (KX b o e) (by
   cases q:H b with
   |none=>rfl
   |some u =>
    rcases hA b (by rw[q];simp) with e'|e'
    .subst e';rw[hK (by rw[q];simp)]at e;cases e
    .rw[(hT b e').2.1]at e;cases e)
  have hM:Mod K mg (Ku s₁.heap H):=⟨hKb,nsK hns,⟨mb,nsK hb,hbb⟩,let ⟨mc,h1,h2⟩:=hlim;⟨mc,nsK h1,h2⟩⟩;have e0:Env0 P w K mg (Ku s₁.heap H) callerA [] s₁ H:=⟨rfl,hM,λ b o e=>QS e,Nat.le_of_eq (Ow _ _),trivial,λ b hb=>absurd (show b∈([]:List Addr) from hb) (by simp),hok,.of_eq hg⟩;refine codeAny_mono ((F _ hKb (nsK hns)).run callerA [] s₁ H ⟨[.ref a],[]⟩ [.ref a] [.ref a] _ _ hr e0 (hbind s₁ (.ref a)) (.cons rfl .nil) (hsp H hO hS)) λ r s' h=>?_;cases r with
  |error e=>exact(hCX H e s' h).elim
  |ok fl =>
   cases fl with
   |next=>exact False.elim h
   |brk=>exact False.elim h
   |cont=>exact False.elim h
   |ret u =>
    obtain⟨v,H',os,bare,un,hok',r',q⟩:=h;have q':v=.bl true:=q;subst q';obtain rfl:u=Value.bool true:=r';have old:∀b o,s₁.heap.get? b=some o->asItWas s₁.heap s'.heap b o/\∃o',s'.heap.get? b=some o':=λ b o e=>by
     cases q:H b with
     |none =>
      have:=un.keep b o e q (by intro z;exact absurd (show b∈([]:List Addr) from z) (by simp)) (by simp);exact⟨.inl this,_,this⟩
     |some u =>
      rcases hO.1 b with z|⟨ob,xs,z⟩|⟨hb',z⟩
      .rw[q]at z;cases z
      .have z2:=un.frzs b ob _ z;obtain⟨e1,_⟩:=hok b _ z;obtain⟨e2,_⟩:=hok' b _ z2;rw[e]at e1;cases e1;exact⟨.inl e2,_,e2⟩
      .obtain⟨more,z2⟩:=un.tbls b #[] z;have e2:s'.heap.get? b=some (tabObj (#[]++more)):=hok' b _ z2;obtain⟨e1,_,c,hc⟩:=hT b hb';rw[e]at e1;cases e1;exact⟨.inr (.inl ⟨K0 hc,rfl,#[],more,rfl,e2⟩),_,e2⟩
    exact⟨rfl,⟨λ b o e=>(old b o e).1,λ b o e=>(old b o e).2⟩,os,bare⟩
 have aT:a∉Ts:=λ z=>by
  have e:=(hT a z).1;rw[ha]at e;cases e
 have tblT:∀T∈Ts,∀H:Hp,ObjOk P w H s₁.heap T (.tbl #[]):=λ T z H=>(hT T z).1;cases hk:K.lookup a with
 |some o =>
  have e:=KX a o hk;rw[ha]at e;cases e;refine core (λ b=>if b∈Ts then some (.tbl #[]) else none) ⟨λ b=>?_,λ T z=>if_pos z⟩ (.inr ⟨_,vs.toArray,_,hk,rfl,rfl,rfl,by rw[List.size_toArray,lenV];exact hl,by simpa using rv⟩) (λ b u z=>?_) (λ b z=>?_) λ z=>absurd (if_neg aT) z
  .by_cases hb:b∈Ts
   .exact .inr (.inr ⟨hb,if_pos hb⟩)
   .exact .inl (if_neg hb)
  .by_cases hb:b∈Ts
   .have z':=(if_pos hb).symm.trans z;cases z';exact tblT b hb _
   .have z':=(if_neg hb).symm.trans z;cases z'
  .by_cases hb:b∈Ts
   .exact .inr hb
   .exact absurd (if_neg hb) z
 |none =>
  refine core (λ b=>if b=a then some (.frz { cls:=.type "list",data:=.seq vs.toArray } (.lst (ns.map V.int))) else if b∈Ts then some (.tbl #[]) else none) ⟨λ b=>?_,λ T z=>?_⟩ (.inl (.inr ⟨{ cls:=.type "list",data:=.seq vs.toArray },if_pos rfl⟩)) (λ b u z=>?_) (λ b z=>?_) λ_=>hk
  .by_cases hb:b=a
   .exact .inr (.inl ⟨_,_,if_pos hb⟩)
   .by_cases hb2:b∈Ts
    .exact .inr (.inr ⟨hb2,(if_neg hb).trans (if_pos hb2)⟩)
    .exact .inl ((if_neg hb).trans (if_neg hb2))
  .have ne:¬T=a:=λ e=>aT (by rw[<-e];exact z);exact(if_neg ne).trans (if_pos z)
  .by_cases hb:b=a
   .have z':=(if_pos hb).symm.trans z;cases z';subst hb;exact⟨ha,by rw[List.length_map];exact hl,vs,_,rv,ha⟩
   .by_cases hb2:b∈Ts
    .have z':=((if_neg hb).trans (if_pos hb2)).symm.trans z;cases z';exact tblT b hb2 _
    .have z':=((if_neg hb).trans (if_neg hb2)).symm.trans z;cases z'
  .by_cases hb:b=a
   .exact .inl hb
   .by_cases hb2:b∈Ts
    .exact .inr hb2
    .exact absurd ((if_neg hb).trans (if_neg hb2)) z
theorem walk_ofT{l:OpenLaw}{n k:Nat}{q:Program}{loose:LSz}{XP:(MGz)->Heap->Prop}{YP:World->Heap->Prop}{d:DefRec}{K:Params->Frag}{CX:World->CXT}{sp:World->Sp}{x:Str}{Ts:List Addr}
  (hn:l.most=some n) (hn2:n<=sizeLine) (hdf:d.params.defaults=[]) (hr:Room k callerA)
  (hY:∀(w:World)(h:Heap),YP w h->(K w.params).In h) (hT:∀(w:World)(h:Heap),YP w h->∀T∈Ts,h.get? T=some (tabObj #[])/\(K w.params).lookup T=none/\∃c,CodeHd h c T)
  (F:∀(w:World)(mg:MGz)(fa:Addr)(h:Heap),(K w.params).In h->h.Ns mainGlobals mg->mg d.name=some (.ref fa) ->
   ∃fd:FuncData,(∀(s:Shared)(u:Value),BindsTo s fd ⟨[u],[]⟩ [(x,u)]) /\
    ∀base:Heap,(K w.params).In base->base.Ns mainGlobals mg->A9 l.prog w (K w.params) mg base (CX w) k fa fd [x] (sp w))
  (hsp:∀(w:World)(H:Hp)(a:Addr)(ns:List Int),ns.length<=n->Qu Ts H->SqL (K w.params) H a (ns.map V.int)->sp w [.ref a] H (λ v _=>v=.bl true) λ_ _ _=>False)
  (hCX:∀(w:World)(H:Hp)(s:Shared)(e:Value)(s':Shared),CX w [] H s (λ_ _ _=>False) e s'->False) :
  WalkO q loose XP YP l.row.toRowW d [] (λ f vs=>PySem.call f vs):=by
 refine Att.attach_call hn hdf λ w s₀ s₁ mg mb fa o pm cd doc a vs ns G Y ho hd hcd hmg hobj hints hlen hg=>?_;have KX:=hY w _ Y;obtain⟨fd,hb,hF⟩:=F w mg fa _ KX G.T.g hmg;exact law_callT KX G.T.g G.T.b G.T.builtins G.T.nolimit hg hobj hints (Nat.le_trans hlen hn2) hr (hT w _ Y) hF hb (λ H hO hS=>hsp w H a ns hlen hO hS) λ H e s'=>hCX w H s₁ e s'
structure FunC(K:Frag)(x qual:Str)(st:Stmt)(f:Addr)(fd:FuncData)(c:Addr):Prop where
 ex:∃(oc:Value)(od:Option Addr)(kV doc pm:Value)(an:Option Addr)(ct:Value)(osl:AOz),
  fd=fnOf x qual (By st) (AB st) (Ah st) .none kV doc pm an (.ref c) ct/\K.lookup f=some ⟨oc,od,.func fd,osl⟩/\codeIn K (.ref c) qual=true
 kp:keepIn K (.ref f)=true
section
variable{P:Program}{w:World}{K:Frag}{mg:MGz}{base:Heap}{x qual:Str}{st:Stmt}{f c:Addr}{fd:FuncData}{N ps:LSz}{k:Nat}{sp:Sp}
theorem FunC.fn(F:FunC K x qual st f fd c):Fun K x qual st f fd:=by
 obtain⟨oc,od,kV,doc,pm,an,ct,osl,e,lk,hcd⟩:=F.ex;exact⟨⟨oc,od,kV,doc,pm,an,.ref c,ct,osl,e,lk,hcd⟩,F.kp⟩
theorem FunC.okx(F:FunC K x qual st f fd c)(S:Al N ps (Ah st))(len:∀vs H Q E,sp vs H Q E->vs.length=ps.length)
  (hbody:∀(A:Around)(outer:List Env)(s:Shared)(H:Hp)(vs:LUz)(Q:VK)(E:XK),Room k (A.deeper (envOfC qual (Ah st) s.heap.objs.size f (.ref c)))->sp vs H Q E ->
   ∃t,PSs (Bv (CX1 P w) P w K mg base N qual (Ah st) f (.ref c) A outer s H E) (AB st) t/\t { nx:=λ_ H'=>Q .non H',rt:=Q } (start N vs) H):A9 P w K mg base (CX1 P w) (k+1) f fd ps sp:=by
 obtain⟨oc,od,kV,doc,pm,an,ct,osl,rfl,lk,hcd⟩:=F.ex;exact N7 lk hcd S len λ A outer s H vs Q E hr hsp=>hbody A outer s H vs Q E hr hsp
theorem Ri{oc:Value}{od an:Option Addr}{osl:AOz}{kV doc pm cdv ct:Value}(l:K.lookup f=some ⟨oc,od,.func (fnOf x qual (By st) (AB st) (Ah st) .none kV doc pm an cdv ct),osl⟩)
  (cc:codeIn K cdv qual=true) (kp:keepIn K (.ref f)=true) (e:cdv=.ref c):FunC K x qual st f (fnOf x qual (By st) (AB st) (Ah st) .none kV doc pm an cdv ct) c:=by
 subst e;exact⟨⟨oc,od,kV,doc,pm,an,ct,osl,rfl,l,cc⟩,kp⟩
end
def K1(K:Frag)(c T:Addr):Bool:=match K.lookup c with
 |some o=>match o.data with
  |.fields vs=>(o.cls==.type "code")&&(vs[11]?==some (.ref T))&&(match vs.getD 18 .none with|.str _ _=>true|_=>false)&&(match vs.getD 7 .none with|.int _ _=>true|_=>false)&&(match vs.getD 9 .none with|.bool _=>true|_=>false)&&(match vs.getD 10 .none with|.int _ _=>true|_=>false)&&(c != T)
  |_=>false
 |none=>false
theorem codeTB_of{K:Frag}{c T:Addr}(h:K1 K c T=true):∀hp:Heap,K.In hp->CodeHd hp c T:=λ hp KX=>by
 unfold K1 at h;cases e:K.lookup c with
 |none=>rw[e]at h;cases h
 |some o =>
  rw[e]at h;cases d:o.data with
  |fields vs =>
   simp only[d,Bool.and_eq_true]at h;obtain⟨⟨⟨⟨⟨⟨h1,h2⟩,h3⟩,h4⟩,h5⟩,h6⟩,h7⟩:=h;have h2:vs[11]?=some (.ref T):=eq_of_beq h2;have e18:∃a b,vs.getD 18 .none=.str a b:=by
    generalize vs.getD 18 .none=v at h3;cases v with
    |str a b=>exact⟨a,b,rfl⟩
    |_=>cases h3
   have e7:∃a b,vs.getD 7 .none=.int a b:=by
    generalize vs.getD 7 .none=v at h4;cases v with
    |int a b=>exact⟨a,b,rfl⟩
    |_=>cases h4
   have e9:∃a,vs.getD 9 .none=.bool a:=by
    generalize vs.getD 9 .none=v at h5;cases v with
    |bool a=>exact⟨a,rfl⟩
    |_=>cases h5
   have e10:∃a b,vs.getD 10 .none=.int a b:=by
    generalize vs.getD 10 .none=v at h6;cases v with
    |int a b=>exact⟨a,b,rfl⟩
    |_=>cases h6
   obtain⟨f1,f2,e18⟩:=e18;obtain⟨g1,g2,e7⟩:=e7;obtain⟨i1,e9⟩:=e9;obtain⟨t1,t2,e10⟩:=e10;refine⟨o,vs,f1,f2,g1,g2,i1,t1,t2,KX c o e,eq_of_beq h1,d,h2,?_,e18,e7,e9,e10,?_⟩
   .rw[Array.getD_eq_getD_getElem?,h2];rfl
   .intro z;rw[z]at h7;simp at h7
  |_=>simp only[d]at h;cases h
def SameN(H H':Hp):Prop:=∀a o,H a=some o->(∀ps,o≠.tbl ps)->H' a=some o
theorem SameN.refl(H:Hp):SameN H H:=λ_ _ e _=>e
theorem SameN.trans{H H1 H2:Hp}(a:SameN H H1)(b:SameN H1 H2):SameN H H2:=λ x o e n=>b x o (a x o e n) n
theorem Same.n{H H':Hp}(s:Same H H'):SameN H H':=λ a o e _=>s a o e
theorem SameN.tup{H H':Hp}(s:SameN H H'){a:Addr}{xs:LUz}(e:H a=some (.tup xs)):H' a=some (.tup xs):=s a _ e λ_ z=>nomatch z
theorem SameN.lst{H H':Hp}(s:SameN H H'){a:Addr}{xs:LUz}(e:H a=some (.lst xs)):H' a=some (.lst xs):=s a _ e λ_ z=>nomatch z
def TabOk(pos:Pos)(qual:Str)(T:Addr)(H:Hp):Prop:=∃ps,H T=some (.tbl ps)/\TriplesOk ps.toList/\(codeAmong pos ps.toList=none\/∃c',codeAmong pos ps.toList=some (.ref c')/\H c'=some (C5 c' qual))
theorem TabOk.same{pos:Pos}{qual:Str}{T:Addr}{H H':Hp}(h:TabOk pos qual T H)(s:Same H H'):TabOk pos qual T H':=by
 obtain⟨ps,e,t,c⟩:=h;refine⟨ps,s _ _ e,t,?_⟩;rcases c with c|⟨c',c1,c2⟩
 .exact .inl c
 .exact .inr ⟨c',c1,s _ _ c2⟩
theorem TabOk.new{pos:Pos}{qual:Str}{T:Addr}{H:Hp}(h:H T=some (.tbl #[])):TabOk pos qual T H:=⟨#[],h,trivial,.inl rfl⟩
theorem E2{a b c:Int}{t u:Tok}{v:Value}:∀(l:LWz),TriplesOk l->TriplesOk (l++[.int a t,.int b u,v])
 |[],_=>trivial
 |.int _ _::.int _ _::_::rest,h=>E2 (c:=c) rest h
theorem TabOk.lam{mg:MGz}{pos:Pos}{qual:Str}{T:Addr}{params:Arguments}{body:Expr}{scope:Scope}{σ:St}{H:Hp}{Q:VK}(h:TabOk pos qual T H)
  (q:∀c' f ctv H',SameN H H'->TabOk pos qual T H'->H' f=some (Fv f (BI mg qual params body scope [] c' ctv))->H' c'=some (C5 c' qual)->(∀b,H b=none->H' b=none\/b=c'\/b=f)->Q (.ref f) H'):Td mg T pos params body scope [] qual σ H Q:=by
 obtain⟨ps,e,t,c⟩:=h;refine⟨ps,e,t,?_⟩;rcases c with c|⟨c',c1,c2⟩
 .refine .inl ⟨c,λ c' f ctv hc hf n1 n2 n3=>?_⟩;have eT:(upd (upd (upd H T (.tbl (ps++#[rawInt pos.line,rawInt pos.col,.ref c']))) c' (C5 c' qual)) f (Fv f (BI mg qual params body scope [] c' ctv))) T=some (.tbl (ps++#[rawInt pos.line,rawInt pos.col,.ref c'])):=by
   rw[Ai (Ne.symm n3),Ai (Ne.symm n2),Ac]
  have eC:(upd (upd (upd H T (.tbl (ps++#[rawInt pos.line,rawInt pos.col,.ref c']))) c' (C5 c' qual)) f (Fv f (BI mg qual params body scope [] c' ctv))) c'=some (C5 c' qual):=by
   rw[Ai n1,Ac]
  refine q c' f ctv _ (λ a o ea no=>?_) ⟨_,eT,?_,.inr ⟨c',?_,eC⟩⟩ Ac eC λ b hb=>?_
  .rw[Ai (Af ea hf),Ai (Af ea hc),Ai (λ z=>by rw[z,e]at ea;cases ea;exact no _ rfl)];exact ea
  .rw[Array.toList_append];exact E2 (c:=0) _ t
  .rw[Array.toList_append];exact codeAmong_snoc _ t c
  .by_cases h1:b=f
   .exact .inr (.inr h1)
   .by_cases h2:b=c'
    .exact .inr (.inl h2)
    .refine .inl ?_;rw[Ai h1,Ai h2,Ai (λ z=>by rw[z,e]at hb;cases hb)];exact hb
 .refine .inr ⟨c',c1,c2,λ f ctv hf=>?_⟩;have s:Same H (upd H f (Fv f (BI mg qual params body scope [] c' ctv))):=Same.new hf;refine q c' f ctv _ s.n (TabOk.same ⟨ps,e,t,.inr ⟨c',c1,c2⟩⟩ s) Ac (s _ _ c2) λ b hb=>?_;by_cases h1:b=f
  .exact .inr (.inr h1)
  .exact .inl (by rw[Ai h1];exact hb)
theorem IS:∀{ys:LSz}{us:LWz},Vals (ys.map V.str) us->StrsAre us ys
 |[],_,.nil=>.nil
 |y::ys,_,.cons r t=>by
  obtain⟨tk,rfl⟩:=r;exact .cons y tk (IS t)
theorem IY:∀(l:List (Str×Tok)),Vals ((l.map (·.1)).map V.str) (strValues l)
 |[]=>.nil
 |p::l=>.cons ⟨_,rfl⟩ (IY l)
def Tn:V->LUz->Hp->VK->Prop:=λ x xs H Q=>∃z l ys,x=.str z/\xs=[.ref l]/\H l=some (.lst (ys.map V.str))/\(ys.map (·.length)).sum+ys.length*z.length<=16777216/\Q (.str (Txt.join z ys)) H
def Sc:V->LUz->Hp->VK->Prop:=λ x xs H Q=>∃z y,x=.str z/\xs=[.str y]/\(y.length==0)=false/\z.length+2<=sizeLine/\∀l,H l=none->Q (.ref l) (upd H l (.lst ((Txt.split z y).map V.str)))
section
variable{X:Cx}
theorem FY:MtR X "str.join" Tn:=by
 intro pins s σ H x xs v us Q I rx rv h;obtain⟨z,l,ys,rfl,rfl,hl,hz,q⟩:=h;obtain⟨t,rfl⟩:=rx;obtain⟨u,rfl,ru⟩:=rv.one;cases ru;obtain⟨its,n,r,e,_⟩:=I.lst hl;exact join_list (items:=its.toArray) ⟨_,e,rfl,n,rfl⟩ (IS r) hz λ t' k=>⟨.str _,H,I.tok k,⟨t',rfl⟩,q⟩
theorem P9:MtR X "str.split" Sc:=by
 intro pins s σ H x xs v us Q I rx rv h;obtain⟨z,y,rfl,rfl,hy,hz,q⟩:=h;obtain⟨t,rfl⟩:=rx;obtain⟨u0,rfl,u,rfl⟩:=rv.one;have hn:(Builtin.Str.partsBetween z (Builtin.Str.occurrences z y 0 z.length (z.length+1)) y.length).length<=sizeLine:=by
  have e1:=StrLaws.occ_length_le z y 0 z.length (z.length+1);rw[length_partsBetween];lia
 have fin:∀(l:List (Str×Tok))(tk:Nat),l.map (·.1)=Txt.split z y->EP X pins σ Q (.ref s.heap.objs.size) { s with toks:=tk,heap:=s.heap.push { cls:=.type "list",data:=.seq (strValues l).toArray } }:=λ l tk e=>by
  refine⟨.ref _,_,I.laid (t':=tk) (o:=.lst ((Txt.split z y).map V.str)) (λ b ob q=>Heap.get?_push_of_some _ q) (Nat.le_refl _) ⟨?_,strValues l,0,?_,Heap.get?_push_size _ rfl⟩,rfl,q _ (I.hok.fresh (Nat.le_refl _))⟩
  .rw[List.length_map];have:=split_le z y;lia
  .rw[<-e];exact IY l
 cases h1:(decide (z.length<y.length)||decide (Builtin.Str.strKind z<Builtin.Str.strKind y))
 .cases hf:(Builtin.Str.occurrences z y 0 z.length (z.length+1)).isEmpty
  .refine call_meets PySem.F.slot_str_split (typeIs_str _ _ _) PySem.F.entry_str_split (PySem.F.args_str_split_2 _ _) (meets_str_split_sep z y t u h1 hy hf (by lia) hn) ?_;show wants (EP X pins σ Q) _ _ { s with toks:=_,heap:=s.heap.push { cls:=.type "list",data:=.seq (strsFrom s.toks (Builtin.Str.partsBetween z (Builtin.Str.occurrences z y 0 z.length (z.length+1)) y.length)).toArray } };rw[strsFrom_eq];exact fin (numbered s.toks _) _ ((numbered_texts _ _).trans ((if_neg (ne_true_of_eq_false h1)).trans (if_neg (ne_true_of_eq_false hf))).symm)
  .exact call_meets PySem.F.slot_str_split (typeIs_str _ _ _) PySem.F.entry_str_split (PySem.F.args_str_split_2 _ _) (meets_str_split_not_found z y t u h1 hy hf) (fin [(z,t)] s.toks ((if_neg (ne_true_of_eq_false h1)).trans (if_pos hf)).symm)
 .exact call_meets PySem.F.slot_str_split (typeIs_str _ _ _) PySem.F.entry_str_split (PySem.F.args_str_split_2 _ _) (meets_str_split_cannot_occur z y t u h1) (fin [(z,t)] s.toks (if_pos h1).symm)
def tFs(x:Str)(te:TE):TE:=λ σ H Q=>te σ H λ v H1=>∃i:Int,v=.int i/\i.natAbs.log2<1920/\x.length+(Str.ofString (toString i)).length<=sizeLine/\Q (.str (x++Str.ofString (toString i))) H1
theorem Px{x:Str}{e:Expr}{te:TE}{k:Nat}{p1 p2 p3:Pos}(he:PE X e te)(hx:x.length<=1000:=by decide):PE X (.JoinedStr [.Constant (.str x) k p1,.FormattedValue e (-1) none p2] p3) (tFs x te):=by
 intro pins s σ H Q I h;refine JoinedStr_many (joinParts_cons (Calls.Constant_str ?_));have key:wpAny (model X.prog X.w) X.A (joinParts (Str.empty++x) [eval (.FormattedValue e (-1) none p2) X.env]) (EP X pins σ Q) X.xe { s with toks:=s.toks+1 }:=by
  refine joinParts_cons (FormattedValue_plain (thn (he pins _ σ H _ (I.tok _) h) λ v s1 ⟨v',H1,I1,r1,i,e1,hd,hz,q⟩=>?_));subst e1;obtain⟨t,rfl⟩:=r1;have e2:Str.empty++x++Str.ofString (toString i)=x++Str.ofString (toString i):=by rw[PySem.Str.empty_append]
  refine formatField_int_small hd ⟨?_,?_⟩
  .show(Str.empty++x++Str.ofString (toString i)).length<=sizeLine;rw[e2,strLen_append];exact hz
  .show wpAny _ _ (joinParts (Str.empty++x++Str.ofString (toString i)) []) _ _ _;rw[e2];exact joinParts_nil ⟨.str _,H1,I1.tok _,⟨_,rfl⟩,q⟩ (by rw[strLen_append];exact hz)
 exact⟨by rw[PySem.Str.empty_append];exact Nat.le_of_lt (Au hx),key⟩
theorem CJ:Ck X (.type "int") (λ xs H Q=>∃x n,xs=[.str x]/\x.length<=640/\PySem.intText? x=some n/\Q (.int n) H):=by
 intro pins s σ H xs us Q I r h;obtain⟨x,n,rfl,hl,hn,q⟩:=h;obtain⟨u,rfl,t,rfl⟩:=CL r;exact KIN.call_text hn hl ⟨.int n,H,I.tok _,⟨_,rfl⟩,q⟩
def Uv:V->Option Int->Option Int->Hp->VK->Prop:=λ x lo hi H Q=>∃z,x=.str z/\z.length<=sizeLine/\Q (.str (Txt.slice z lo hi)) H
theorem Mf:SlR X Uv:=by
 intro pins s σ H x v vl vu lo hi sl Q I rx hs pl pu h;obtain⟨z,rfl,hz,q⟩:=h;obtain⟨t,rfl⟩:=rx;refine⟨"str",_,PySem.F.slot_str_getitem.lookup,typeIs_str _ _ _,?_⟩;obtain⟨o,h1,h2,h3⟩:=hs;cases pl with
 |none =>
  cases pu with
  |none=>exact wpAny_getItem_str_slice (l:=none) (u:=none) (st:=none) ⟨o,h1,h2,h3⟩ rfl (post_val_or_str ⟨Nat.le_trans (Txt.slice_le z none none) hz,λ t' k=>⟨.str (Txt.slice z none none),H,I.tok k,⟨t',rfl⟩,q⟩⟩)
  |int j u=>exact wpAny_getItem_str_slice (l:=none) (u:=some (j,u)) (st:=none) ⟨o,h1,h2,h3⟩ rfl (post_val_or_str ⟨Nat.le_trans (Txt.slice_le z none (some j)) hz,λ t' k=>⟨.str (Txt.slice z none (some j)),H,I.tok k,⟨t',rfl⟩,q⟩⟩)
 |int i t1 =>
  cases pu with
  |none=>exact wpAny_getItem_str_slice (l:=some (i,t1)) (u:=none) (st:=none) ⟨o,h1,h2,h3⟩ rfl (post_val_or_str ⟨Nat.le_trans (Txt.slice_le z (some i) none) hz,λ t' k=>⟨.str (Txt.slice z (some i) none),H,I.tok k,⟨t',rfl⟩,q⟩⟩)
  |int j u=>exact wpAny_getItem_str_slice (l:=some (i,t1)) (u:=some (j,u)) (st:=none) ⟨o,h1,h2,h3⟩ rfl (post_val_or_str ⟨Nat.le_trans (Txt.slice_le z (some i) (some j)) hz,λ t' k=>⟨.str (Txt.slice z (some i) (some j)),H,I.tok k,⟨t',rfl⟩,q⟩⟩)
end
def Itx(z:Str):It:=⟨λ i _=>i<z.length,λ i H y H'=>∃c,z.cps[i]?=some c/\y=.str ⟨#[c]⟩/\H'=H,λ i _=>z.length<=i⟩
theorem NR{P:Program}{w:World}{K:Frag}{tg:Expr}(z:Str)(t:Tok)(it:Addr):LH P w K tg (Itx z) [it] it (λ i h=>h.IsStrIter it "str_ascii_iterator" z t i) where
 mem:=by simp
 obj:=λ i h st b hb=>by
  obtain⟨o,e,c,d⟩:=st;rw[List.mem_singleton.mp hb];exact⟨o,e,λ v z=>by rw[d]at z;cases z⟩
 keep:=λ i h h' st k=>by
  obtain⟨o,e,c,d⟩:=st;exact⟨o,k it (by simp) o e,c,d⟩
 item:=by
  intro X hP hw hK hc i pins s σ H E I hf st hg;subst hP hw hK;have hg:i<z.cps.size:=hg;obtain⟨f0,f1,f2,f3,f4,f5⟩:=hf it (by simp);refine wpAny_pyNext_ascii_item st (c:=z.cps[i]) (by simp[hg]) λ h' st' sb=>?_;have I1:Inv X pins σ H { s with heap:=h',toks:=s.toks+1 }:=I.turned (t':=s.toks+1) (λ b o hb e=>(sb.2 b hb).trans e) f0 f1 f3 f4 f5;obtain⟨o,e,c,d⟩:=id st';exact⟨_,rfl,LA (s:={ s with heap:=h',toks:=s.toks+1 }) e c d (by decide) ⟨.str ⟨#[z.cps[i]]⟩,H,I1,⟨_,rfl⟩,⟨z.cps[i],by simp[hg],rfl,rfl⟩,st',λ b hb=>(hf b hb).1⟩⟩
 done:=by
  intro X hP hw hK hc i pins s σ H E I hf st hg;subst hP hw hK;have hg:z.cps.size<=i:=hg;obtain⟨f0,f1,f2,f3,f4,f5⟩:=hf it (by simp);exact wpAny_pyNext_ascii_end (I.ok.hd hc) st (Array.getElem?_eq_none hg) λ h' eb=>⟨rfl,I.turned (t':=s.toks) (λ b o hb e=>eb b o hb e) f0 f1 f3 f4 f5⟩
 self:=λ_ _ _ _ _ st h=>wpAny_pyIter_striter_ascii st h
def T7(td:TE):TI:=λ σ H R=>td σ H λ x H1=>∃z,x=.str z/\z.cps.all (·<128)=true/\R (Itx z) H1
section
variable{X:Cx}
theorem QM{tg o:Expr}{td:TE}(hp:PE X o td):PI X tg o (T7 td):=by
 intro pins s σ H R I h;refine thn (hp pins s σ H _ I h) λ v s1 ⟨x,H1,I1,r1,q1⟩=>?_;obtain⟨z,e,ha,q⟩:=q1;subst e;obtain⟨t,rfl⟩:=r1;refine wpAny_pyIter_ascii ha ?_;have I3:=I1.kept (h':=s1.heap.push { cls:=.type "str_ascii_iterator",data:=.fields #[.str z t,.int 0 0] }) (t':=s1.toks) λ b u z=>Heap.get?_push_of_some _ z;refine⟨s1.heap.objs.size,[s1.heap.objs.size],_,_,_,rfl,I3,NR z t _,⟨_,Heap.get?_push_size _ rfl,rfl,rfl⟩,λ b hb'=>?_,q⟩;rw[List.mem_singleton.mp hb'];exact I1.fpOk (Nat.le_refl _) (I1.hok.fresh (Nat.le_refl _))
end
theorem O5{z:Str}{g:TG}{te:TE}{σ:St}{H1:Hp}{acc:Addr}{Qr:Hp->Prop}(Pv:Nat->LUz->St->Hp->Prop)(h0:Pv 0 [] σ (upd H1 acc (.lst [])))
  (hs:∀i c xs σ H,z.cps[i]?=some c->i<z.length->xs.length=i->H acc=some (.lst xs)->Pv i xs σ H->g (.str ⟨#[c]⟩) σ H λ σ2 H2=>te σ2 H2 λ v H3=>cNx acc z.length Pv i σ2 v H3)
  (hd:∀xs σ H,xs.length=z.length->H acc=some (.lst xs)->Pv z.length xs σ H->Qr H) :
  ∃W:Nat->Nat->St->Hp->Prop,(∃m,W 0 m σ (upd H1 acc (.lst [])))/\∀i m σ1 H2,W i m σ1 H2 ->
   ((Itx z).stop i H2/\Qr H2)\/((Itx z).go i H2/\∀x H3,(Itx z).yld i H2 x H3->g x σ1 H3 λ σ4 H4=>te σ4 H4 λ v H5=>∃xs,H5 acc=some (.lst xs)/\xs.length<sizeLine/\∃m',m'<m/\W (i+1) m' σ4 (upd H5 acc (.lst (xs++[v])))):=by
 refine⟨cW acc z.length Pv,⟨z.length,Nat.zero_le _,rfl,[],rfl,Ac,h0⟩,?_⟩;rintro i m σ1 H2 ⟨hi,rfl,xs,hl,ha,hp⟩;rcases Nat.lt_or_ge i z.length with h|h
 .refine .inr ⟨h,?_⟩;rintro x H3 ⟨c,hc,rfl,rfl⟩;exact hs i c xs σ1 _ hc h hl ha hp
 .have e:i=z.length:=Nat.le_antisymm hi h;subst e;exact .inl ⟨Nat.le_refl _,hd xs σ1 H2 hl ha hp⟩
end L2
namespace HT
open PySem.W
open PySem PySem.Spec PyProof.Rows
end HT
namespace L2
open PySem.W
open PySem PySem.Spec PyProof.Rows
section
variable{X:Cx}
theorem QP:OpR X (compareOp .IsNot) (λ x y H Q=>∃b c,x=.bl b/\y=.bl c/\Q (.bl (!(b==c))) H):=by
 intro pins s σ H x y v u Q I rx ry h;obtain⟨b,c,rfl,rfl,q⟩:=h;cases rx;cases ry;exact isnot_bool (AE I q rfl)
end
end L2
namespace K15
open PySem.W
open PySem L2 GB
def top(i:Nat):Stmt:=PySem.Challenge.pw_glazebench_k15_whole_cut_and_told.main.body.getD i (.Pass ⟨0,0,0,0⟩)
abbrev CD:Stmt:=A8 (top 3) 0
abbrev Cr:Stmt:=A8 (top 4) 0
abbrev CF:Stmt:=A8 (top 5) 0
abbrev Dj:Stmt:=A8 (top 8) 0
abbrev Ef:Stmt:=top 13
abbrev Fc:Stmt:=top 14
abbrev Cp:Stmt:=top 15
abbrev Gz:Stmt:=top 16
abbrev De:Stmt:=top 17
abbrev C9:Stmt:=top 18
abbrev CA:Stmt:=top 19
abbrev BE:Stmt:=top 20
abbrev Cd:Stmt:=top 21
abbrev Di:Stmt:=A8 (top 22) 0
abbrev CC:Stmt:=A8 (top 22) 1
abbrev Ce:Stmt:=A8 (top 22) 2
abbrev B4:Stmt:=A8 (top 27) 0
abbrev B3:Stmt:=A8 (top 27) 2
abbrev BY:Stmt:=A8 (top 27) 3
abbrev Bx:Stmt:=A8 (top 28) 0
abbrev Cq:Stmt:=A8 (top 29) 0
abbrev Dk:Stmt:=A8 (top 30) 0
abbrev Fb:Stmt:=top 31
abbrev Eg:Stmt:=top 32
abbrev Df:Stmt:=top 33
abbrev Ei:Stmt:=top 34
abbrev Dy:Stmt:=top 35
abbrev C6:Stmt:=top 36
abbrev BW:Stmt:=top 37
abbrev C8:Stmt:=top 38
abbrev C7:Stmt:=top 39
abbrev Fd:Stmt:=top 40
abbrev Br:Stmt:=top 41
abbrev Ee:Stmt:=top 42
abbrev Fa:Stmt:=top 47
abbrev EZ:Stmt:=top 48
abbrev D0:Stmt:=top 49
abbrev Eh:Stmt:=top 50
abbrev Dg:Stmt:=top 51
abbrev Dz:Stmt:=top 52
abbrev Fe:Stmt:=top 54
abbrev D2:Stmt:=top 55
abbrev BF:Stmt:=top 56
abbrev D3:Stmt:=top 57
abbrev AA:Stmt:=top 58
abbrev BX:Stmt:=top 59
abbrev Dh:Stmt:=top 60
abbrev CB:Stmt:=top 61
abbrev D1:Stmt:=top 62
abbrev B0:Stmt:=top 63
abbrev Cw:Stmt:=top 64
theorem nw{H:Hp}{c:Addr}(o:HO)(n:H c=none):∃G,upd H c o=G/\Same H G/\G c=some o:=⟨_,rfl,Same.new n,Ac⟩
inductive Tr where
 |whole (m:Option Int)
 |cut (u:Bool) (k:Int) (x y:Tr)
def Tr.dp:Tr->Nat
 |.whole _=>0
 |.cut _ _ x y=>max x.dp y.dp+1
def Tr.sz:Tr->Nat
 |.whole _=>1
 |.cut _ _ x y=>x.sz+y.sz
def wd:Bool->Str
 |true=>"upright"
 |false=>"level"
theorem Bc(u v:Bool):decide (V.str (wd u)=V.str (wd v))=(u==v):=by cases u<;>cases v<;>decide +kernel
theorem Bp(u:Bool):decide (V.str (wd u)=V.str "whole")=false:=by cases u<;>decide +kernel
def Ba:Option Int->V
 |none=>.non
 |some i=>.int i
def Told(H:Hp):Tr->V->Prop
 |.whole m,v=>∃a,v=.ref a/\H a=some (.tup [.str "whole",Ba m])
 |.cut u k x y,v=>∃a vx vy,v=.ref a/\H a=some (.tup [.str (wd u),.int k,vx,vy])/\Told H x vx/\Told H y vy
theorem Told.same{H H':Hp}(s:Same H H'):∀{t:Tr}{v:V},Told H t v->Told H' t v
 |.whole m,v,h=>by
  rw[Told]at h |-;obtain⟨a,e,h⟩:=h;exact⟨a,e,s _ _ h⟩
 |.cut u k x y,v,h=>by
  rw[Told]at h |-;obtain⟨a,vx,vy,e,h,h1,h2⟩:=h;exact⟨a,vx,vy,e,s _ _ h,Told.same s h1,Told.same s h2⟩
theorem Told.samex{l:Addr}{xs:LUz}{H H':Hp}(s:SameX l H H')(hl:H l=some (.lst xs)):∀{t:Tr}{v:V},Told H t v->Told H' t v
 |.whole m,v,h=>by
  rw[Told]at h |-;obtain⟨a,e,h⟩:=h;exact⟨a,e,s _ _ (CT h hl (by intro z;cases z)) h⟩
 |.cut u k x y,v,h=>by
  rw[Told]at h |-;obtain⟨a,vx,vy,e,h,h1,h2⟩:=h;exact⟨a,vx,vy,e,s _ _ (CT h hl (by intro z;cases z)) h,Told.samex s hl h1,Told.samex s hl h2⟩
def Fit:Tr->Int->Int->Prop
 |.whole _,_,_=>True
 |.cut u k x y,w,h=>if u then (1<=k/\k<w/\Fit x k h/\Fit y (w-k) h) else (1<=k/\k<h/\Fit x w k/\Fit y w (h-k))
theorem Ht:∀{t:Tr}{w h:Int},1<=w->1<=h->Fit t w h->(t.dp:Int)+2<=w+h
 |.whole _,w,h,hw,hh,_=>by show((0:Nat):Int)+2<=_;lia
 |.cut u k x y,w,h,hw,hh,f=>by
  rw[Fit]at f;show((max x.dp y.dp+1:Nat):Int)+2<=_;cases u with
  |true =>
   obtain⟨a,b,c,d⟩:=f;have:=Ht a hh c;have:=Ht (by lia) hh d;lia
  |false =>
   obtain⟨a,b,c,d⟩:=f;have:=Ht hw a c;have:=Ht hw (by lia) d;lia
theorem Hr:∀{t:Tr}{w h:Int},1<=w->1<=h->Fit t w h->(t.sz:Int)<=w*h
 |.whole _,w,h,hw,hh,_=>by
  show((1:Nat):Int)<=_;have:=Int.mul_le_mul hw hh (by lia) (by lia);lia
 |.cut u k x y,w,h,hw,hh,f=>by
  rw[Fit]at f;show((x.sz+y.sz:Nat):Int)<=_;cases u with
  |true =>
   obtain⟨a,b,c,d⟩:=f;have h1:=Hr a hh c;have h2:=Hr (by lia) hh d;rw[Int.sub_mul]at h2;lia
  |false =>
   obtain⟨a,b,c,d⟩:=f;have h1:=Hr hw a c;have h2:=Hr hw (by lia) d;rw[Int.mul_sub]at h2;lia
def DB:List Int->Ds
 |[]=>.nil
 |i::r=>.cons (.at (.int i)) (DB r)
theorem L7{K:Frag}{H:Hp}:∀(ns:List Int),DIss K H (DB ns) (ns.map V.int)
 |[]=>by
  show DIss K H .nil [];rw[DIss]
 |i::r=>by
  show DIss K H (.cons (.at (.int i)) (DB r)) (.int i::r.map V.int);rw[DIss];exact⟨_,_,rfl,by rw[DIs];exact⟨rfl,rfl⟩,L7 r⟩
theorem Jw:∀(ns:List Int),BL (DB ns)=0
 |[]=>by rw[DB,BL]
 |i::r=>by rw[DB,BL,dep,Jw r];rfl
theorem Jv:∀(ns:List Int),BM (DB ns) .nil=decide (ns=[])
 |[]=>by rw[DB,BM];rfl
 |i::r=>by rw[DB,BM]<;>simp
theorem RA{K:Frag}{H:Hp}{a:Addr}{ns:List Int}(h:SqL K H a (ns.map V.int)):DIs K H (.lst (DB ns)) (.ref a):=by
 rw[DIs];exact⟨a,_,rfl,h,L7 _⟩
theorem Su{K:Frag}{H:Hp}{a:Addr}(h:H a=some (.lst [])):DIs K H (.lst .nil) (.ref a):=by
 rw[DIs];exact⟨a,[],rfl,SqL.of h,by rw[DIss]⟩
theorem Ju(ns:List Int):dep (.lst (DB ns))<=50:=by rw[dep,Jw];lia
def Tr.cs:Tr->Nat
 |.whole _=>0
 |.cut _ _ x y=>x.cs+y.cs+1
def MkB(m:Option Int):Prop:=∀i,m=some i->0<=i/\i<=999
def Wd:Tr->Prop
 |.whole m=>MkB m
 |.cut _ k x y=>1<=k/\k<=11/\Wd x/\Wd y
theorem IR{m:Option Int}(h:MkB m):Wd (.whole m):=by rw[Wd];exact h
theorem OK{u:Bool}{k:Int}{x y:Tr}(a:1<=k)(b:k<=11)(c:Wd x)(d:Wd y):Wd (.cut u k x y):=by rw[Wd];exact⟨a,b,c,d⟩
def DrT(tw:Bool)(t:Tr)(a b:Nat):Prop:=Wd t/\(tw=false->t.cs+a<=b)
inductive Q0(K:Frag)(vs:LUz)(H:Hp)(Q:VK)(E:XK):Prop
 |mk (a:Addr) (ns:List Int) (k:Int) (h0:vs=[.ref a,.int k]) (h1:SqL K H a (ns.map V.int)) (h2:0<=k) (h3:k<1000) (h4:∀z H',Same H H'->Q (.int z) H'):Q0 K vs H Q E
def Pd(K:Frag) :Sp:=λ vs H Q E=>Q0 K vs H Q E
inductive LV(K:Frag)(vs:LUz)(H:Hp)(Q:VK)(E:XK):Prop
 |mk (a:Addr) (ns:List Int) (k m:Int) (h0:vs=[.ref a,.int k,.int m]) (h1:SqL K H a (ns.map V.int)) (h2:0<=k) (h3:k<=100) (h4:0<=m) (h5:m<=100) (h6:∀l ms H',Same H H'->H l=none->H' l=some (.lst ((ms:List Int).map V.int))->(ms.length:Int)=m->Q (.ref l) H'):LV K vs H Q E
def Nj(K:Frag) :Sp:=λ vs H Q E=>LV K vs H Q E
inductive LW(vs:LUz)(H:Hp)(Q:VK)(E:XK):Prop
 |mk (n:Int) (h0:vs=[.int n]) (h1:∀m H',Same H H'->MkB m->Q (Ba m) H'):LW vs H Q E
def Nk:Sp:=λ vs H Q E=>LW vs H Q E
inductive JM(vs:LUz)(H:Hp)(Q:VK)(E:XK):Prop
 |mk (n b:Int) (h0:vs=[.int n,.int b]) (h1:0<=b) (h2:b<=100) (h3:∀r,0<=r->Q (.int r) H):JM vs H Q E
def Gw:Sp:=λ vs H Q E=>JM vs H Q E
structure Txt(mg:MGz)(tk:Tok×Tok×Tok×Tok×Tok×Tok×Tok×Tok):Prop where
 z_isinstance:mg "isinstance"=none
 z_int:mg "int"=none
 z_bool:mg "bool"=none
 z_tuple:mg "tuple"=none
 z_list:mg "list"=none
 z_len:mg "len"=none
 z_enumerate:mg "enumerate"=none
 z_range:mg "range"=none
 z_sorted:mg "sorted"=none
 z_reversed:mg "reversed"=none
 z_all:mg "all"=none
 z_str:mg "str"=none
 z_abs:mg "abs"=none
 g_WHOLE:mg "WHOLE"=some (.str "whole" tk.1)
 g_UPRIGHT:mg "UPRIGHT"=some (.str "upright" tk.2.1)
 g_LEVEL:mg "LEVEL"=some (.str "level" tk.2.2.1)
 g_LONGEST_SIDE:mg "LONGEST_SIDE"=some (.int 12 tk.2.2.2.1)
 g_MOST_PANES:mg "MOST_PANES"=some (.int 52 tk.2.2.2.2.1)
 g_FIGURES:mg "FIGURES"=some (.str "0123456789" tk.2.2.2.2.2.1)
 g_MARK_FIGURES:mg "MARK_FIGURES"=some (.int 3 tk.2.2.2.2.2.2.1)
 g_MOST_WORDS:mg "MOST_WORDS"=some (.int 103 tk.2.2.2.2.2.2.2)
theorem at0{x0 x1 x2 x3:V}:atI [x0,x1,x2,x3] 0=some x0:=rfl
theorem at1{x0 x1 x2 x3:V}:atI [x0,x1,x2,x3] 1=some x1:=rfl
theorem at2{x0 x1 x2 x3:V}:atI [x0,x1,x2,x3] 2=some x2:=rfl
theorem at3{x0 x1 x2 x3:V}:atI [x0,x1,x2,x3] 3=some x3:=rfl
theorem Cc{x0 x1:V}:atI [x0,x1] 0=some x0:=rfl
theorem DH{x0 x1:V}:atI [x0,x1] 1=some x1:=rfl
theorem Tp:Uf 10 18:=⟨by decide,by decide,by decide⟩
theorem Ix{j:Int}(z:Int)(h:0<j)(h2:j<18446744073709551616):RH z j:=⟨h,Nat.lt_trans (Ep (k:=64) (by decide) (by lia)) (by decide)⟩
theorem GR{a b:Int}(h1:-18446744073709551616<a)(h2:a<18446744073709551616)(h3:-18446744073709551616<b)(h4:b<18446744073709551616):IntMulOk a b:=by
 have c:(2:Nat)^128=340282366920938463463374607431768211456:=by decide +kernel
 refine P7 ?_ ?_<;>rw[c]<;>lia
section
variable{P:Program}{w:World}{K:Frag}{mg:MGz}{base:Heap}{tk:Tok×Tok×Tok×Tok×Tok×Tok×Tok×Tok}{cT cW cU cL C:Addr}
theorem Qo:Al ["_law_script","_law_k","_law_cell"] ["_law_script","_law_k"] (Ah Fe):=fsc
theorem NE{ns:List Int}{k:Int}(h0:0<=k)(h1:k<(ns.length:Int)):∃z,atI (ns.map V.int) k=some (.int z):=by
 have hk:k.toNat<ns.length:=by lia
 have hz:(ns.map V.int)[k.toNat]?=some (.int ns[k.toNat]):=by rw[List.getElem?_map,List.getElem?_eq_getElem hk];rfl
 have e:=K5 hz;rw[Int.toNat_of_nonneg h0]at e;exact⟨_,e⟩
theorem Oh{f:Addr}{fd:FuncData}(F:Fun K "_law_at" "_law_at" Fe f fd)(T:Txt mg tk):A9 P w K mg base CX0 1 f fd ["_law_script","_law_k"] (Pd K):=by
 have S:=Qo;refine F.ok S (λ vs H Q E h=>?_) (λ cdv A outer s H vs Q E hr h=>?_)
 .obtain⟨a,ns,k,rfl,_⟩:=h;rfl
 .obtain⟨a,ns,k,rfl,hS,hk0,hk1,q⟩:=h;refine⟨_,(Ad (A6 (Ak ED (pv 1) (A3 AD rfl T.z_len rfl (Aa (pv 0) Ab)) (Am _)) (Ag (An (Ap Bh (pv 0) (pv 1) (λ_ _=>rfl)))) Ao)
   (Ad (As (i:=2) S.nd rfl (Or.inl rfl) Ae)
   (Ad (A6 (Ak (Mt hr) (pv 0) (AV Ab) (Am _)) (Ag (As (i:=2) S.nd rfl (Or.inl rfl) (Ap Bh (pv 0) (Av AZ (pv 1) (A3 AD rfl T.z_len rfl (Aa (pv 0) Ab))) (λ_ _=>rfl)))) Ao)
   (Ag (An (Av AZ (Av DR (Av AQ (Av AQ (Av AZ (pv 2) Ae) (Av DR Ae (pv 1))) Ae) Ae) Ae)))))),?_⟩
  have fin:∀z:Int,IntMulOk (z % 1000003+104729*k+13) 48271:=λ z=>by
   have a:=Int.emod_nonneg z (b:=1000003) (by decide);have b:=Int.emod_lt_of_pos z (b:=1000003) (by decide);exact GR (by lia) (by lia) (by decide) (by decide)
  refine⟨_,rfl,_,rfl,a,_,rfl,.inl hS,_,_,rfl,rfl,_,rfl,BB (λ h=>?_) (λ h=>?_)⟩
  .have h':=of_decide_eq_true h;rw[List.length_map]at h';obtain⟨z,hz⟩:=NE hk0 h';exact⟨_,rfl,_,rfl,a,_,_,_,rfl,rfl,hS,hz,q _ H (Same.refl H)⟩
  .refine⟨_,rfl,Az 0,λ e he=>?_⟩;obtain⟨H1,g,s1,e1⟩:=nw (.lst []) he;rw[g];refine⟨_,_,RA (s1.seq hS),Su e1,⟨_,rfl⟩,⟨_,rfl⟩,Ju _,_,rfl,BB (λ h1=>?_) (λ h1=>?_)⟩
   .rw[if_pos rfl,deq,Jv]at h1;have hne:ns≠[]:=λ z=>by rw[decide_eq_true z]at h1;cases h1
    have hpos:0<ns.length:=List.length_pos_iff.mpr hne;obtain⟨z,hz⟩:=NE (ns:=ns) (k:=k % (((ns.map V.int).length:Nat):Int)) (Int.emod_nonneg _ (by rw[List.length_map];lia)) (by rw[List.length_map];exact Int.emod_lt_of_pos _ (by lia));refine⟨_,rfl,_,rfl,_,rfl,a,_,rfl,.inl (s1.seq hS),_,_,rfl,rfl,(by rw[List.length_map];lia),a,_,_,_,rfl,rfl,s1.seq hS,hz,?_⟩;exact⟨_,rfl,_,_,rfl,rfl,(show(0:Int)<1000003 from by decide),_,rfl,_,_,rfl,rfl,GR (by decide) (by decide) (by lia) (by lia),_,_,rfl,rfl,_,_,rfl,rfl,_,_,rfl,rfl,fin _,_,_,rfl,rfl,(show(0:Int)<2147483647 from by decide),q _ H1 s1⟩
   .exact⟨_,rfl,_,_,rfl,rfl,(show(0:Int)<1000003 from by decide),_,rfl,_,_,rfl,rfl,GR (by decide) (by decide) (by lia) (by lia),_,_,rfl,rfl,_,_,rfl,rfl,_,_,rfl,rfl,fin _,_,_,rfl,rfl,(show(0:Int)<2147483647 from by decide),q _ H1 s1⟩
theorem MU:Al ["_law_script","_law_at_here","_law_many"] ["_law_script","_law_at_here","_law_many"] (Ah D2):=fsc
theorem Ll{f:Addr}{fd:FuncData}(F:Fun K "_law_more" "_law_more" D2 f fd)(T:Txt mg tk)(D__law_at:AC P w K mg base 1 "_law_at" ["_law_script","_law_k"] (Pd K)):A9 P w K mg base CX0 2 f fd ["_law_script","_law_at_here","_law_many"] (Nj K):=by
 have S:=MU;refine F.ok S (λ vs H Q E h=>?_) (λ cdv A outer s H vs Q E hr h=>?_)
 .obtain⟨a,ns,k,m,rfl,_⟩:=h;rfl
 .obtain⟨a,ns,k,m,rfl,hS,k0,k1,m0,m1,q⟩:=h;refine⟨_,(Ag (An (Cy rfl (Ff rfl T.z_range (Aa (pv 2) Ab)) (λ_ _ _ _ _=>(Aq (i:=0) (show List.Nodup (["_law_k","_law_script","_law_at_here"]:LSz) from by decide +kernel) rfl (Or.inl rfl))) (λ_ _ _ _ _=>(A0 D__law_at hr (Aa (pv 1) (Aa (Av AQ (pv 2) (pv 0)) Ab)))) (N:=["_law_k","_law_script","_law_at_here"]) (fr:=[none,some 0,some 1])))),?_⟩;refine⟨_,rfl,m,rfl,by lia,by lia,λ acc hacc=>MM (lo:=0) (n:=m.toNat)
   (λ i xs σ H'=>(∃y,σ=[y,some (.ref a),some (.int k)])/\Same H H'/\∃ms:List Int,xs=ms.map V.int) ⟨⟨none,rfl⟩,Same.new hacc,[],rfl⟩ ?_ ?_⟩
  .rintro i xs σ H' hi hl hacc' ⟨⟨y,rfl⟩,hs,ms,rfl⟩;refine⟨_,rfl,_,rfl,_,rfl,_,_,rfl,rfl,a,ns,_,rfl,hs.seq hS,by lia,by lia,λ z H2 s2=>cNx.mk (Nat.le_of_lt (Au (by lia))) hi hl (s2 _ _ hacc') ⟨⟨_,rfl⟩,λ b o e=>?_,ms++[z],by rw[List.map_append];rfl⟩⟩;rw[Ai (Af e hacc)];exact s2 b o (hs b o e)
  .rintro xs σ H' hl hacc' ⟨_,hs,ms,rfl⟩;exact q acc ms H' hs hacc hacc' (by rw[List.length_map]at hl;lia)
theorem LL:Al ["_law_number","_law_by","_law_digits","_law_k","_law_found"] ["_law_number","_law_by"] (Ah BF):=fsc
theorem Kg{f:Addr}{fd:FuncData}(F:Fun K "_law_knead" "_law_knead" BF f fd)(T:Txt mg tk):A9 P w K mg base CX0 1 f fd ["_law_number","_law_by"] Gw:=by
 have S:=LL;refine F.ok S (λ vs H Q E h=>?_) (λ cdv A outer s H vs Q E hr h=>?_)
 .obtain⟨n,b,rfl,_⟩:=h;rfl
 .obtain⟨n,b,rfl,b0,b1,q⟩:=h;obtain⟨tt,htt,fin⟩:∃rd,PSs (Bv CX0 P w K mg base ["_law_number","_law_by","_law_digits","_law_k","_law_found"] "_law_knead" (Ah BF) f cdv A outer s H E).nox ((AB BF).drop 2) rd /\
    ∀(d:Int)(x3:Option V),0<=d->rd { nx:=λ_ H'=>Q .non H',rt:=Q } [some (.int n),some (.int b),some (.int d),x3,none] H:=by
   refine⟨_,(Ad (A6 (Ak Fz (pv 2) Ae (Am _)) (Ag (An (Av AZ (pv 2) Ae))) Ao)
   (Ad (As (i:=0) S.nd rfl (Or.inl rfl) (Av AQ (Av AZ (pv 0) Ae) (Av DR Ae (pv 1))))
   (Ad (As (i:=4) S.nd rfl (Or.inl rfl) (Av AQ Ae (pv 1)))
   (Ad (B7 PassesOwn.never rfl (Ff rfl T.z_range (Aa Ae Ab)) (Aq (i:=3) S.nd rfl (Or.inl rfl)) (Ad (As (i:=4) S.nd rfl (Or.inl rfl) (Av AZ (Av DR (Av AQ (Av DR (pv 4) Ae) (pv 0)) (Av AQ (Av AZ (pv 0) Ae) Ae)) Ae))
   (Ag (As (i:=0) S.nd rfl (Or.inl rfl) (Av AQ (Av AQ (Av Cb (pv 0) Ae) (Av AZ (pv 4) Ae)) (pv 3))))))
   (Ag (An (pv 4))))))),?_⟩
   intro d x3 d0;refine⟨_,rfl,_,_,rfl,rfl,_,rfl,BB (λ h=>?_) (λ h=>?_)⟩
   .exact⟨_,rfl,_,_,rfl,rfl,(show(0:Int)<1000000000 from by decide),q _ (Int.emod_nonneg _ (by decide))⟩
   .have a:=Int.emod_nonneg n (b:=900001) (by decide);have c:=Int.emod_lt_of_pos n (b:=900001) (by decide);refine⟨_,rfl,_,_,rfl,rfl,(show(0:Int)<900001 from by decide),_,rfl,_,_,rfl,rfl,GR (by decide) (by decide) (by lia) (by lia),_,_,rfl,rfl,_,rfl,_,_,rfl,rfl,3,rfl,by decide,by decide,?_⟩;refine BP (lo:=0) (n:=(3:Int).toNat) (λ i σ H'=>H'=H/\∃N F x2 x3,σ=[some (.int N),some (.int b),x2,x3,some (.int F)]/\0<=N/\N<=1000000/\0<=F/\F<=715827883) ⟨rfl,_,_,_,_,rfl,by lia,by lia,by lia,by lia⟩ ?_ ?_
    .rintro i σ H' hi ⟨rfl,N,F,x2,x3,rfl,n0,n1,f0,f1⟩;have hi3:i<3:=hi;have m0:=Int.emod_nonneg N (b:=8887) (by decide);have m1:=Int.emod_lt_of_pos N (b:=8887) (by decide);refine⟨_,rfl,_,_,rfl,rfl,GR (by lia) (by lia) (by decide) (by decide),_,rfl,_,_,rfl,rfl,_,rfl,_,_,rfl,rfl,(show(0:Int)<8887 from by decide),_,_,rfl,rfl,_,_,rfl,rfl,GR (by lia) (by lia) (by lia) (by lia),_,_,rfl,rfl,(show(0:Int)<715827883 from by decide),?_⟩;have g0:=Int.emod_nonneg ((F*8191+N)*(N % 8887+5501)) (b:=715827883) (by decide);have g1:=Int.emod_lt_of_pos ((F*8191+N)*(N % 8887+5501)) (b:=715827883) (by decide);generalize (F*8191+N)*(N % 8887+5501) % 715827883=F' at g0 g1 |-;refine⟨_,rfl,_,_,rfl,rfl,Ix _ (by decide) (by decide),_,rfl,_,_,rfl,rfl,(show(0:Int)<1013 from by decide),_,_,rfl,rfl,_,rfl,_,_,rfl,rfl,rfl,_,_,_,_,rfl,?_,?_,by lia,by lia⟩
     .lia
     .lia
    .rintro σ H' ⟨rfl,N,F,x2,x3,rfl,n0,n1,f0,f1⟩;exact⟨_,rfl,q _ f0⟩
  refine⟨_,(Ad (As (i:=2) S.nd rfl (Or.inl rfl) Ae)
   (Ad (A6 (PW.pt (Ca (Ak ED (pv 0) Ae (Am _)) (Cg (Ak P1 (pv 0) (Av Sn Ae Ae) (Am _))))) (Ad (As (i:=2) S.nd rfl (Or.inl rfl) (A3 Qh rfl T.z_abs rfl (Aa (pv 0) Ab)))
   (Ag (B7 PassesOwn.never rfl (Ff rfl T.z_range (Aa (pv 1) Ab)) (Aq (i:=3) S.nd rfl (Or.inl rfl)) (Ag (As (i:=2) S.nd rfl (Or.inl rfl) (Av Cb (pv 2) Ae)))))) Ao)
   htt)),?_⟩
  have loop:∀(d:Int),0<=d->(if d<0 then -d else d)=d:=λ d h=>by rw[if_neg (by lia)]
  refine⟨_,rfl,_,_,rfl,rfl,_,rfl,BB (λ h=>?_) (λ h=>?_)⟩
  .refine Ra ⟨_,rfl,_,rfl,_,rfl,b,rfl,by lia,by lia,BP (lo:=0) (n:=b.toNat) (λ i σ H'=>H'=H/\∃d x3,σ=[some (.int n),some (.int b),some (.int d),x3,none]/\0<=d) ⟨rfl,_,_,rfl,by split<;>lia⟩ ?_ ?_⟩
   .rintro i σ H' hi ⟨rfl,d,x3,rfl,d0⟩;exact⟨_,rfl,_,_,rfl,rfl,Ix _ (by decide) (by decide),rfl,_,_,rfl,by lia⟩
   .rintro σ H' ⟨rfl,d,x3,rfl,d0⟩;exact fin d x3 d0
  .refine⟨_,rfl,_,_,rfl,rfl,Tp,_,_,rfl,rfl,_,rfl,BB (λ h1=>?_) (λ h1=>fin 0 none (by lia))⟩;refine⟨_,rfl,_,rfl,_,rfl,b,rfl,by lia,by lia,BP (lo:=0) (n:=b.toNat) (λ i σ H'=>H'=H/\∃d x3,σ=[some (.int n),some (.int b),some (.int d),x3,none]/\0<=d) ⟨rfl,_,_,rfl,by split<;>lia⟩ ?_ ?_⟩
   .rintro i σ H' hi ⟨rfl,d,x3,rfl,d0⟩;exact⟨_,rfl,_,_,rfl,rfl,Ix _ (by decide) (by decide),rfl,_,_,rfl,by lia⟩
   .rintro σ H' ⟨rfl,d,x3,rfl,d0⟩;exact fin d x3 d0
theorem MV:Al ["_law_number"] ["_law_number"] (Ah D3):=fsc
theorem Lm{f:Addr}{fd:FuncData}(F:Fun K "_law_mark" "_law_mark" D3 f fd):A9 P w K mg base CX0 1 f fd ["_law_number"] Nk:=by
 have S:=MV;refine F.ok S (λ vs H Q E h=>?_) (λ cdv A outer s H vs Q E hr h=>?_)
 .obtain⟨n,rfl,_⟩:=h;rfl
 .obtain⟨n,rfl,q⟩:=h;refine⟨_,(Ag (An (Ap Bh (AV (Aa Bt (Aa (Av AZ (Av Cb (pv 0) Ae) Ae) (Aa (Av AZ (Av Cb (pv 0) Ae) Ae) (Aa Bt Ab))))) (Av AZ (pv 0) Ae) (λ_ _=>rfl)))),?_⟩;refine⟨_,rfl,_,_,rfl,rfl,Ix _ (by decide) (by decide),_,_,rfl,rfl,(show(0:Int)<1000 from by decide),_,rfl,_,_,rfl,rfl,Ix _ (by decide) (by decide),_,_,rfl,rfl,(show(0:Int)<7 from by decide),Az 4,λ t ht=>?_⟩;have r0:=Int.emod_nonneg (n / 4) (b:=1000) (by decide);have r1:=Int.emod_lt_of_pos (n / 4) (b:=1000) (by decide);have r2:=Int.emod_nonneg (n / 4) (b:=7) (by decide);have r3:=Int.emod_lt_of_pos (n / 4) (b:=7) (by decide);obtain⟨m,hm,mb⟩:∃m,atI [V.non,V.int (n / 4 % 1000),V.int (n / 4 % 7),V.non] (n % 4)=some (Ba m)/\MkB m:=by
   have h0:=Int.emod_nonneg n (b:=4) (by decide);have h1:=Int.emod_lt_of_pos n (b:=4) (by decide);obtain e|e|e|e:n % 4=0\/n % 4=1\/n % 4=2\/n % 4=3:=by lia
   .rw[e];exact⟨none,rfl,λ i z=>nomatch z⟩
   .rw[e];exact⟨some _,rfl,λ i z=>by cases z;lia⟩
   .rw[e];exact⟨some _,rfl,λ i z=>by cases z;lia⟩
   .rw[e];exact⟨none,rfl,λ i z=>nomatch z⟩
  exact⟨_,rfl,_,_,rfl,rfl,(show(0:Int)<4 from by decide),t,_,_,_,rfl,rfl,SqL.of Ac,hm,q m _ (Same.new ht) mb⟩
theorem Gc{f:Addr}{fd:FuncData}{x qual:Str}{st:Stmt}{N ps:LSz}{k:Nat}{sp:Sp}(F:Fun K x qual st f fd)(S:Al N ps (Ah st))(h:∀vs H Q E,¬sp vs H Q E):A9 P w K mg base CX0 (k+1) f fd ps sp :=
 F.ok S (λ vs H Q E z=>absurd z (h vs H Q E)) (λ cdv A outer s H vs Q E hr z=>absurd z (h vs H Q E))
theorem Jl{K:Frag}{H:Hp}:∀{xs:LUz},(∀v∈xs,∃t s i,v=.ref t/\H t=some (.tup [.str s,.int i]))->∃ds,DIss K H ds xs/\BL ds<=1/\BM ds .nil=decide (xs=[])
 |[],_=>⟨.nil,by rw[DIss],by rw[BL];lia,by rw[BM,decide_eq_true rfl]⟩
 |v::r,h=>by
  obtain⟨ds,h1,h2,_⟩:=Jl (K:=K) (xs:=r) λ u hu=>h u (List.mem_cons_of_mem _ hu);obtain⟨t,s,i,rfl,ht⟩:=h v List.mem_cons_self;refine⟨.cons (.tup (.cons (.at (.str s)) (.cons (.at (.int i)) .nil))) ds,?_,?_,?_⟩
  .rw[DIss];refine⟨_,r,rfl,?_,h1⟩;rw[DIs];refine⟨t,_,rfl,SqT.of ht,?_⟩;rw[DIss];refine⟨_,_,rfl,by rw[DIs];exact⟨rfl,rfl⟩,?_⟩;rw[DIss];exact⟨_,_,rfl,by rw[DIs];exact⟨rfl,rfl⟩,by rw[DIss]⟩
  .rw[BL,dep,BL,BL,BL,dep,dep];lia
  .rw[decide_eq_false (λ z=>by cases z),BM]
   all_goals (intros;contradiction)
theorem SO{L:LUz}{i:Int}(h0:0<=i)(h1:i<L.length):∃v,atI L i=some v/\v∈L:=by
 have h:i.toNat<L.length:=by lia
 have e:=K5 (List.getElem?_eq_getElem h);rw[Int.toNat_of_nonneg h0]at e;exact⟨_,e,List.getElem_mem h⟩
theorem P2{x:Int}(h:1<=x):∃k:Int,V.int (if decide (1<x)=true then (1:Int) else 0)=V.int k/\((1<x/\k=1)\/(x=1/\k=0)):=by
 by_cases e:1<x
 .exact⟨1,by rw[decide_eq_true e];rfl,.inl ⟨e,rfl⟩⟩
 .exact⟨0,by rw[decide_eq_false e];rfl,.inr ⟨by lia,rfl⟩⟩
theorem Pk{t v:V}{n:Nat}(h:v∈(List.replicate n [t]).flatten):v=t/\n≠0:=by
 obtain⟨l,hl,hv⟩:=List.mem_flatten.mp h;obtain⟨h1,h2⟩:=List.mem_replicate.mp hl;rw[h2]at hv;exact⟨List.mem_singleton.mp hv,h1⟩
abbrev Dq:LSz:=["_law_cells","_law_width","_law_height","_law_twin","_law_number","_law_some","_law_word","_law_side_here","_law_at_here","_law_sizes","_law_first"]
abbrev R1:LSz:=["_law_cells","_law_width","_law_height","_law_twin"]
theorem F6:Al Dq R1 (Ah AA):=fsc
inductive JO(n:Nat)(vs:LUz)(H:Hp)(Q:VK)(E:XK):Prop
 |mk (l:Addr) (ms:List Int) (w h:Int) (tw:Bool) (h0:vs=[.ref l,.int w,.int h,.bl tw]) (h1:H l=some (.lst (ms.map V.int))) (h2:1<=w) (h3:1<=h) (h4:w+h<n) (h5:w<=12) (h6:h<=12) (h7:∀v t H' ms',SameX l H H'->H' l=some (.lst ((ms':List Int).map V.int))->Told H' t v->Fit t w h->DrT tw t ms'.length ms.length->Q v H'):JO n vs H Q E
def CP(n:Nat) :Sp:=λ vs H Q E=>JO n vs H Q E
theorem SL{vs:LUz}{H:Hp}{Q:VK}{E:XK}:¬CP 0 vs H Q E:=by
 rintro⟨l,ms,w,h,tw,_,_,h1,h2,h3,_⟩;lia
theorem Kh{f:Addr}{fd:FuncData}{n:Nat}(F:Fun K "_law_drawn" "_law_drawn" AA f fd)(T:Txt mg tk)(D__law_knead:AC P w K mg base 1 "_law_knead" ["_law_number","_law_by"] Gw)(D__law_mark:AC P w K mg base 1 "_law_mark" ["_law_number"] Nk)
  (D__law_drawn:AC P w K mg base (n+3) "_law_drawn" ["_law_cells","_law_width","_law_height","_law_twin"] (CP n)):A9 P w K mg base CX0 (n+4) f fd ["_law_cells","_law_width","_law_height","_law_twin"] (CP (n+1)):=by
 have S:=F6;refine F.ok S (λ vs H Q E h=>?_) (λ cdv A outer s H vs Q E hr h=>?_)
 .obtain⟨l,ms,ww,hh,tw,rfl,_⟩:=h;rfl
 .obtain⟨l,ms,ww,hh,tw,rfl,hl,w1,h1,wh,w12,h12,q⟩:=h;obtain⟨t8,h8,k8⟩:∃rd,PSs (Bv CX0 P w K mg base Dq "_law_drawn" (Ah AA) f cdv A outer s H E).nox ((AB AA).drop 8) rd/\∀(u:Bool)(x w1 h1 w2 h2:Int)(x4 x5 x10:Option V)(lz z1 z2:Addr)(ms2:List Int)(H4:Hp),1<=x->x<(if u then ww else hh)->w1=(if u then x else ww)->h1=(if u then hh else x)->w2=(if u then ww-x else ww)->h2=(if u then hh else hh-x)->H4 lz=some (.lst [.ref z1,.ref z2])->H4 z1=some (.tup [.int w1,.int h1])->H4 z2=some (.tup [.int w2,.int h2])->(tw=true->(if u then ww else hh) % 2=0->w1=w2/\h1=h2)->SameX l H H4->H4 l=some (.lst (ms2.map V.int))->lz≠l->ms2.length<ms.length ->
    rd { nx:=λ_ H'=>Q .non H',rt:=Q } [some (.ref l),some (.int ww),some (.int hh),some (.bl tw),x4,x5,some (.str (wd u)),some (.int (if u then ww else hh)),some (.int x),some (.ref lz),x10] H4:=by
   refine⟨_,(Ad (As (i:=10) S.nd rfl (Or.inl rfl) (A0 D__law_drawn hr (Aa (pv 0) (Aa (Ap Ar (Ap Bh (pv 9) Ae (λ_ _=>rfl)) Ae (λ_ _=>rfl)) (Aa (Ap Ar (Ap Bh (pv 9) Ae (λ_ _=>rfl)) Ae (λ_ _=>rfl)) (Aa (pv 3) Ab)))) (by lia)))
   (Ad (A6 (PW.pt (Ek (D5 (pv 3) (λ_=>rfl)) (E9 (Ak AO (Av AZ (pv 7) Ae) Ae (Am _))))) (Ag (An (AF (Aa (pv 6) (Aa (pv 8) (Aa (pv 10) (Aa (pv 10) Ab))))))) Ao)
   (Ag (An (AF (Aa (pv 6) (Aa (pv 8) (Aa (pv 10) (Aa (A0 D__law_drawn hr (Aa (pv 0) (Aa (Ap Ar (Ap Bh (pv 9) Ae (λ_ _=>rfl)) Ae (λ_ _=>rfl)) (Aa (Ap Ar (Ap Bh (pv 9) Ae (λ_ _=>rfl)) Ae (λ_ _=>rfl)) (Aa (pv 3) Ab)))) (by lia)) Ab))))))))),?_⟩
   intro u x w1' h1' w2' h2' x4 x5 x10 lz z1 z2 ms2 H4 x1 x2 e1 e2 e3 e4 L4 Z1 Z2 htw T4 C4 nlz M4;have b1:1<=w1'/\1<=h1'/\w1'<=12/\h1'<=12/\w1'+h1'<n/\1<=w2'/\1<=h2'/\w2'<=12/\h2'<=12/\w2'+h2'<n:=by
    subst e1 e2 e3 e4;cases u
    .have x2:x<hh:=x2;show 1<=ww/\1<=x/\ww<=12/\x<=12/\ww+x<n/\1<=ww/\1<=hh-x/\ww<=12/\hh-x<=12/\ww+(hh-x)<n;lia
    .have x2:x<ww:=x2;show 1<=x/\1<=hh/\x<=12/\hh<=12/\x+hh<n/\1<=ww-x/\1<=hh/\ww-x<=12/\hh<=12/\ww-x+hh<n;lia
   obtain⟨b1,b2,b3,b4,b5,b6,b7,b8,b9,b10⟩:=b1;have fitc:∀y1 y2,Fit y1 w1' h1'->Fit y2 w2' h2'->Fit (.cut u x y1 y2) ww hh:=λ y1 y2 f1 f2=>by
    subst e1 e2 e3 e4;rw[Fit];cases u
    .exact⟨x1,x2,f1,f2⟩
    .exact⟨x1,x2,f1,f2⟩
   refine⟨_,rfl,_,rfl,lz,_,_,_,rfl,rfl,SqL.of L4,Cc,z1,_,_,_,rfl,rfl,SqT.of Z1,Cc,_,rfl,lz,_,_,_,rfl,rfl,SqL.of L4,Cc,z1,_,_,_,rfl,rfl,SqT.of Z1,DH,_,rfl,l,ms2,w1',h1',tw,rfl,C4,b1,b2,b5,b3,b4,λ v1 y1 H5 ms3 s5 e5 told1 fit1 dr1=>?_⟩;have Z2':=s5 _ _ (CT Z2 C4 (by intro z;cases z)) Z2;have L4':=s5 _ _ nlz L4;have oth:∀H6:Hp,H6=H5->SZ (SY (Dw (FG 6) (Dw (FG 8) (Dw (FG 10) (Dw (IX (CP n) [] E0 (Dw (FG 0) (Dw (tOp (Ob K) (tOp (Sd K) (FG 9) (tC (V.int 1))) (tC (V.int 0))) (Dw (tOp (Ob K) (tOp (Sd K) (FG 9) (tC (V.int 1))) (tC (V.int 1))) (Dw (FG 3) KS))))) KS))))) { nx:=λ_ H'=>Q .non H',rt:=Q } [some (.ref l),some (.int ww),some (.int hh),some (.bl tw),x4,x5,some (.str (wd u)),some (.int (if u then ww else hh)),some (.int x),some (.ref lz),some v1] H6:=by
    rintro H6 rfl;refine⟨_,rfl,_,rfl,_,rfl,_,rfl,_,rfl,lz,_,_,_,rfl,rfl,SqL.of L4',DH,z2,_,_,_,rfl,rfl,SqT.of Z2',Cc,_,rfl,lz,_,_,_,rfl,rfl,SqL.of L4',DH,z2,_,_,_,rfl,rfl,SqT.of Z2',DH,_,rfl,l,ms3,w2',h2',tw,rfl,e5,b6,b7,b10,b8,b9,λ v2 y2 H7 ms4 s7 e7 told2 fit2 dr2=>⟨Az 4,λ t' ht'=>?_⟩⟩;have s8:Same H7 (upd H7 t' (.tup [.str (wd u),.int x,v1,v2])):=Same.new ht';refine q (.ref t') (.cut u x y1 y2) _ ms4 (((T4.trans s5).trans s7).trans s8.x) (s8 _ _ e7) ?_ (fitc y1 y2 fit1 fit2) ⟨OK x1 (by cases u<;>(have x2:=x2;simp only[Bool.false_eq_true,if_true,if_false]at x2)<;>lia) dr1.1 dr2.1,λ z=>by have a:=dr1.2 z;have b:=dr2.2 z;show y1.cs+y2.cs+1+_<=_;lia⟩;rw[Told];exact⟨t',v1,v2,rfl,Ac,(told1.samex s7 e5).same s8,told2.same s8⟩
   refine⟨_,rfl,_,rfl,?_⟩;cases tw with
   |false=>exact A5 rfl (A5 rfl (oth H5 rfl))
   |true =>
    refine AT rfl ⟨_,rfl,_,_,rfl,rfl,(show(0:Int)<2 from by decide),rfl,_,rfl,BB (λ c=>?_) (λ c=>oth H5 rfl)⟩;have c':(if u then ww else hh) % 2=0:=by have:=of_decide_eq_true c;injection this
    obtain⟨q1,q2⟩:=htw rfl c';refine⟨_,rfl,_,rfl,_,rfl,_,rfl,Az 4,λ t' ht'=>?_⟩;have s8:Same H5 (upd H5 t' (.tup [.str (wd u),.int x,v1,v1])):=Same.new ht';refine q (.ref t') (.cut u x y1 y1) _ ms3 ((T4.trans s5).trans s8.x) (s8 _ _ e5) ?_ (fitc y1 y1 fit1 (by rw[<-q1,<-q2];exact fit1)) ⟨OK x1 (by cases u<;>(have x2:=x2;simp only[Bool.false_eq_true,if_true,if_false]at x2)<;>lia) dr1.1 dr1.1,λ z=>nomatch z⟩;rw[Told];exact⟨t',v1,v1,rfl,Ac,told1.same s8,told1.same s8⟩
  obtain⟨t6,h6,k6⟩:∃rd,PSs (Bv CX0 P w K mg base Dq "_law_drawn" (Ah AA) f cdv A outer s H E).nox ((AB AA).drop 6) rd/\∀(u:Bool)(x:Int)(x4 x5:Option V)(ms2:List Int)(H4:Hp),1<=x->x<(if u then ww else hh)->SameX l H H4->H4 l=some (.lst (ms2.map V.int))->ms2.length<ms.length ->
    rd { nx:=λ_ H'=>Q .non H',rt:=Q } [some (.ref l),some (.int ww),some (.int hh),some (.bl tw),x4,x5,some (.str (wd u)),some (.int (if u then ww else hh)),some (.int x),none,none] H4:=by
   obtain⟨t7,h7,k7⟩:∃rd,PSs (Bv CX0 P w K mg base Dq "_law_drawn" (Ah AA) f cdv A outer s H E).nox ((AB AA).drop 7) rd/\∀(u:Bool)(x:Int)(x4 x5:Option V)(ms2:List Int)(H4:Hp),1<=x->x<(if u then ww else hh)->(tw=true->(if u then ww else hh) % 2=0->x=(if u then ww else hh) / 2)->SameX l H H4->H4 l=some (.lst (ms2.map V.int))->ms2.length<ms.length ->
     rd { nx:=λ_ H'=>Q .non H',rt:=Q } [some (.ref l),some (.int ww),some (.int hh),some (.bl tw),x4,x5,some (.str (wd u)),some (.int (if u then ww else hh)),some (.int x),none,none] H4:=by
    refine⟨_,(Ad (As (i:=9) S.nd rfl (Or.inl rfl) (AY (Ak AO (pv 6) AK (Am _)) (AV (Aa (AF (Aa (pv 8) (Aa (pv 2) Ab))) (Aa (AF (Aa (Av GF (pv 1) (pv 8)) (Aa (pv 2) Ab))) Ab))) (AV (Aa (AF (Aa (pv 1) (Aa (pv 8) Ab))) (Aa (AF (Aa (pv 1) (Aa (Av GF (pv 2) (pv 8)) Ab))) Ab)))))
   h8),?_⟩
    intro u x x4 x5 ms2 H4 x1 x2 xtw T4 C4 M4;cases u with
    |true =>
     refine⟨_,rfl,rfl,_,rfl,AT (Bc true true) ⟨_,rfl,_,rfl,Az 2,λ z1 hz1=>⟨_,rfl,_,rfl,_,_,rfl,rfl,_,rfl,Az 2,λ z2 hz2=>⟨Az 2,λ lz hlz=>?_⟩⟩⟩⟩;obtain⟨H5,g,s1,g1⟩:=nw (.tup [.int x,.int hh]) hz1;rw[g] at hz2 hlz |-;obtain⟨H6,g,s2,g2⟩:=nw (.tup [.int (ww-x),.int hh]) hz2;rw[g] at hlz |-;have s3:Same H6 (upd H6 lz (.lst [.ref z1,.ref z2])):=Same.new hlz;have xtw:tw=true->ww % 2=0->x=ww / 2:=xtw;exact k8 true x x hh (ww-x) hh _ _ _ lz z1 z2 ms2 _ x1 x2 rfl rfl rfl rfl Ac (s3 _ _ (s2 _ _ g1)) (s3 _ _ g2) (λ a b=>⟨by have:=xtw a b;have b:ww % 2=0:=b;lia,rfl⟩) (T4.trans ((s1.trans s2).trans s3).x) (s3 _ _ (s2 _ _ (s1 _ _ C4))) (Ne.symm (Af (s2 _ _ (s1 _ _ C4)) hlz)) M4
    |false =>
     refine⟨_,rfl,rfl,_,rfl,A5 (Bc false true) ⟨_,rfl,_,rfl,Az 2,λ z1 hz1=>⟨_,rfl,_,rfl,_,rfl,_,_,rfl,rfl,Az 2,λ z2 hz2=>⟨Az 2,λ lz hlz=>?_⟩⟩⟩⟩;obtain⟨H5,g,s1,g1⟩:=nw (.tup [.int ww,.int x]) hz1;rw[g] at hz2 hlz |-;obtain⟨H6,g,s2,g2⟩:=nw (.tup [.int ww,.int (hh-x)]) hz2;rw[g] at hlz |-;have s3:Same H6 (upd H6 lz (.lst [.ref z1,.ref z2])):=Same.new hlz;have xtw:tw=true->hh % 2=0->x=hh / 2:=xtw;exact k8 false x ww x ww (hh-x) _ _ _ lz z1 z2 ms2 _ x1 x2 rfl rfl rfl rfl Ac (s3 _ _ (s2 _ _ g1)) (s3 _ _ g2) (λ a b=>⟨rfl,by have:=xtw a b;have b:hh % 2=0:=b;lia⟩) (T4.trans ((s1.trans s2).trans s3).x) (s3 _ _ (s2 _ _ (s1 _ _ C4))) (Ne.symm (Af (s2 _ _ (s1 _ _ C4)) hlz)) M4
   refine⟨_,(Ad (A6 (PW.pt (Ek (D5 (pv 3) (λ_=>rfl)) (E9 (Ak AO (Av AZ (pv 7) Ae) Ae (Am _))))) (Ag (As (i:=8) S.nd rfl (Or.inl rfl) (Av Cb (pv 7) Ae))) Ao)
   h7),?_⟩
   intro u x x4 x5 ms2 H4 x1 x2 T4 C4 M4;refine⟨_,rfl,_,rfl,?_⟩;cases tw with
   |false=>exact A5 rfl (A5 rfl (k7 u x _ _ ms2 H4 x1 x2 (λ z=>nomatch z) T4 C4 M4))
   |true =>
    refine AT rfl ⟨_,rfl,_,_,rfl,rfl,(show(0:Int)<2 from by decide),rfl,_,rfl,BB (λ c=>?_) (λ c=>k7 u x _ _ ms2 H4 x1 x2 (λ_ z=>absurd (congrArg V.int z) (of_decide_eq_false c)) T4 C4 M4)⟩;have c':(if u then ww else hh) % 2=0:=by have:=of_decide_eq_true c;injection this
    exact⟨_,rfl,_,_,rfl,rfl,Ix _ (by decide) (by decide),k7 u _ _ _ ms2 H4 (by lia) (by lia) (λ_ _=>rfl) T4 C4 M4⟩
  obtain⟨t4,h4,k4⟩:∃rd,PSs (Bv CX0 P w K mg base Dq "_law_drawn" (Ah AA) f cdv A outer s H E).nox ((AB AA).drop 4) rd/\∀(num:Int)(ls:Addr)(xs:LUz)(ms2:List Int)(H4:Hp),0<=num->xs≠[]->xs.length<=2->H4 ls=some (.lst xs)->(∀v∈xs,∃t u,v=.ref t/\H4 t=some (.tup [.str (wd u),.int (if u then ww else hh)])/\1<(if u then ww else hh))->SameX l H H4->H4 l=some (.lst (ms2.map V.int))->ms2.length<ms.length->rd { nx:=λ_ H'=>Q .non H',rt:=Q } [some (.ref l),some (.int ww),some (.int hh),some (.bl tw),some (.int num),some (.ref ls),none,none,none,none,none] H4:=by
   refine⟨_,(Ad (Mp (Ap Bh (pv 5) (Av AZ (Av Cb (pv 4) Ae) (A3 AD rfl T.z_len rfl (Aa (pv 5) Ab))) (λ_ _=>rfl)) (CG rfl (Aw (Aq (i:=6) S.nd rfl (Or.inl rfl)) (Aw (Aq (i:=7) S.nd rfl (Or.inl rfl)) Bf))))
   (Ad (As (i:=8) S.nd rfl (Or.inl rfl) (Av AQ Ae (Av AZ (Av Cb (pv 4) Ae) (Av GF (pv 7) Ae))))
   h6)),?_⟩
   intro num ls xs ms2 H4 n0 xne hxl L4 hx4 T4 C4 M4;have xpos:0<xs.length:=List.length_pos_iff.mpr xne;obtain⟨v,hv,hm⟩:=SO (L:=xs) (i:=num / 5 % (xs.length:Int)) (Int.emod_nonneg _ (by lia)) (Int.emod_lt_of_pos _ (by lia));obtain⟨t,u,rfl,ht,hs1⟩:=hx4 v hm;refine⟨_,rfl,_,rfl,_,_,rfl,rfl,Ix _ (by decide) (by decide),_,rfl,ls,_,rfl,.inl (SqL.of L4),_,_,rfl,rfl,(by lia),ls,_,_,_,rfl,rfl,SqL.of L4,hv,t,_,rfl,SqT.of ht,rfl,_,_,rfl,_,_,rfl,rfl,?_⟩;have a0:=Int.emod_nonneg (num / 10) (b:=(if u then ww else hh)-1) (by lia);have a1:=Int.emod_lt_of_pos (num / 10) (b:=(if u then ww else hh)-1) (by lia);refine⟨_,rfl,_,_,rfl,rfl,Ix _ (by decide) (by decide),_,rfl,_,_,rfl,rfl,_,_,rfl,rfl,(by lia),_,_,rfl,rfl,?_⟩;generalize num / 10 % ((if u then ww else hh)-1)=x at a0 a1 |-;exact k6 u (1+x) _ _ ms2 H4 (by lia) (by lia) T4 C4 M4
  obtain⟨t3,h3,k3⟩:∃rd,PSs (Bv CX0 P w K mg base Dq "_law_drawn" (Ah AA) f cdv A outer s H E).nox ((AB AA).drop 3) rd/\∀(num:Int)(ls:Addr)(xs:LUz)(ms2:List Int)(H4:Hp),0<=num->xs.length<=2->H4 ls=some (.lst xs)->(∀v∈xs,∃t u,v=.ref t/\H4 t=some (.tup [.str (wd u),.int (if u then ww else hh)])/\1<(if u then ww else hh))->SameX l H H4->H4 l=some (.lst (ms2.map V.int))->ms2.length<ms.length->rd { nx:=λ_ H'=>Q .non H',rt:=Q } [some (.ref l),some (.int ww),some (.int hh),some (.bl tw),some (.int num),some (.ref ls),none,none,none,none,none] H4:=by
   refine⟨_,(Ad (A6 (PW.pt (Ca (Ak (Kb hr) (pv 5) (AV Ab) (Am _)) (Cg (Ak AO (Av AZ (pv 4) Ae) Ae (Am _))))) (Ag (An (AF (Aa AK (Aa (A0 D__law_mark hr (Aa (Av Cb (pv 4) Ae) Ab) (by lia)) Ab))))) Ao)
   h4),?_⟩
   intro num ls xs ms2 H3 n0 hxl L3 hx3 T3 C3 M3;have wholeR:∀H4,Same H3 H4->∀m,MkB m->∀t,H4 t=none->Q (.ref t) (upd H4 t (.tup [.str "whole",Ba m])):=λ H4 s4 m mb t ht=>q (.ref t) (.whole m) _ ms2 (T3.trans (s4.trans (Same.new ht)).x) ((s4.trans (Same.new ht)) _ _ C3) (by rw[Told];exact⟨t,rfl,Ac⟩) (by rw[Fit];trivial) ⟨IR mb,λ_=>by show 0+_<=_;lia⟩;refine⟨_,rfl,Az 0,λ e2 he2=>?_⟩;have s4:Same H3 (upd H3 e2 (.lst [])):=Same.new he2;obtain⟨ds,hds,dds,dnil⟩:=Jl (K:=K) (H:=upd H3 e2 (.lst [])) (xs:=xs) λ v hv=>let ⟨t,u,a,b,_⟩:=hx3 v hv;⟨t,wd u,_,a,s4 _ _ b⟩;have dx:DIs K (upd H3 e2 (.lst [])) (.lst ds) (.ref ls):=by rw[DIs];exact⟨ls,xs,rfl,SqL.of (s4 _ _ L3),hds⟩
   refine⟨_,_,dx,Su Ac,⟨_,rfl⟩,⟨_,rfl⟩,by rw[dep];lia,_,rfl,BB (λ b2=>?_) (λ b2=>?_)⟩
   .exact Ra ⟨_,rfl,_,_,rfl,rfl,Ix _ (by decide) (by decide),_,rfl,λ m H5 s5 mb=>⟨Az 2,λ t ht=>wholeR H5 (s4.trans s5) m mb t ht⟩⟩
   refine⟨_,rfl,_,_,rfl,rfl,(show(0:Int)<5 from by decide),rfl,_,rfl,BB (λ b3=>?_) (λ b3=>?_)⟩
   .exact⟨_,rfl,_,_,rfl,rfl,Ix _ (by decide) (by decide),_,rfl,λ m H5 s5 mb=>⟨Az 2,λ t ht=>wholeR H5 (s4.trans s5) m mb t ht⟩⟩
   have xne:xs≠[]:=λ z=>by rw[if_neg Bool.false_ne_true,deq,dnil,decide_eq_true z]at b2;cases b2
   exact k4 num ls xs ms2 _ n0 xne hxl (s4 _ _ L3) (λ v hv=>let ⟨t,u,a,b,c⟩:=hx3 v hv;⟨t,u,a,s4 _ _ b,c⟩) (T3.trans s4.x) (s4 _ _ C3) M3
  obtain⟨t2,h2,k2⟩:∃rd,PSs (Bv CX0 P w K mg base Dq "_law_drawn" (Ah AA) f cdv A outer s H E).nox ((AB AA).drop 2) rd/\∀(num:Int)(ms2:List Int)(H2:Hp),0<=num->SameX l H H2->H2 l=some (.lst (ms2.map V.int))->ms2.length<ms.length->rd { nx:=λ_ H'=>Q .non H',rt:=Q } [some (.ref l),some (.int ww),some (.int hh),some (.bl tw),some (.int num),none,none,none,none,none,none] H2:=by
   refine⟨_,(Ad (As (i:=5) S.nd rfl (Or.inl rfl) (Av Mu (Av P0 (AV (Aa (AF (Aa AK (Aa (pv 1) Ab))) Ab)) (Bk J9 rfl T.z_int rfl (Aa (BU Fz (pv 1) Ae (Am _)) Ab))) (Av P0 (AV (Aa (AF (Aa AK (Aa (pv 2) Ab))) Ab)) (Bk J9 rfl T.z_int rfl (Aa (BU Fz (pv 2) Ae (Am _)) Ab)))))
   h3),?_⟩
   intro num ms2 H2 n0 S2 L2 M2;obtain⟨k1,ek1,c1⟩:=P2 w1;obtain⟨k2,ek2,c2⟩:=P2 h1;refine⟨_,rfl,Az 2,λ t1 ht1=>⟨Az 1,λ l1 hl1'=>?_⟩⟩;obtain⟨Ha,g,sa,ea⟩:=nw (.tup [.str "upright",.int ww]) ht1;rw[g] at hl1' |-;obtain⟨Hb,g,sb,eb⟩:=nw (.lst [.ref t1]) hl1';rw[g];refine⟨_,rfl,_,_,rfl,rfl,.inr ⟨_,rfl,l1,k1,_,rfl,ek1,eb,by lia,by lia,Nat.le_of_lt (Au (by rw[List.length_singleton];lia)),λ p1 hp1=>?_⟩⟩;obtain⟨Hc,g,sc,ec⟩:=nw (.lst (List.replicate k1.toNat [V.ref t1]).flatten) hp1;rw[g];refine⟨_,rfl,Az 2,λ t2 ht2=>⟨Az 1,λ l2 hl2'=>?_⟩⟩;obtain⟨Hd,g,sd,ed⟩:=nw (.tup [.str "level",.int hh]) ht2;rw[g] at hl2' |-;obtain⟨He,g,se,ee⟩:=nw (.lst [.ref t2]) hl2';rw[g];refine⟨_,rfl,_,_,rfl,rfl,.inr ⟨_,rfl,l2,k2,_,rfl,ek2,ee,by lia,by lia,Nat.le_of_lt (Au (by rw[List.length_singleton];lia)),λ p2 hp2=>?_⟩⟩;obtain⟨Hf,g,sf,ef⟩:=nw (.lst (List.replicate k2.toNat [V.ref t2]).flatten) hp2;rw[g];have ME:=Kn [V.ref t1] k1.toNat;have Sw:=Kn [V.ref t2] k2.toNat;rw[List.length_singleton]at ME Sw;refine⟨p1,p2,_,_,rfl,rfl,sf _ _ (se _ _ (sd _ _ ec)),ef,Nat.le_of_lt (Au (by lia)),λ ls hls=>?_⟩;have hx:∀v∈(List.replicate k1.toNat [V.ref t1]).flatten++(List.replicate k2.toNat [V.ref t2]).flatten,∃t u,v=.ref t/\Hf t=some (.tup [.str (wd u),.int (if u then ww else hh)])/\1<(if u then ww else hh):=λ v hv=>by
    rcases List.mem_append.mp hv with hv|hv
    .obtain⟨rfl,hk⟩:=Pk hv;exact⟨t1,true,rfl,sf _ _ (se _ _ (sd _ _ (sc _ _ (sb _ _ ea)))),by show 1<ww;lia⟩
    .obtain⟨rfl,hk⟩:=Pk hv;exact⟨t2,false,rfl,sf _ _ (se _ _ ed),by show 1<hh;lia⟩
   have hxl:((List.replicate k1.toNat [V.ref t1]).flatten++(List.replicate k2.toNat [V.ref t2]).flatten).length<=2:=by rw[List.length_append];lia
   have S3:Same H2 (upd Hf ls (.lst ((List.replicate k1.toNat [V.ref t1]).flatten++(List.replicate k2.toNat [V.ref t2]).flatten))):=(((((sa.trans sb).trans sc).trans sd).trans se).trans sf).trans (Same.new hls);have L3:(upd Hf ls (.lst ((List.replicate k1.toNat [V.ref t1]).flatten++(List.replicate k2.toNat [V.ref t2]).flatten))) ls=some (.lst ((List.replicate k1.toNat [V.ref t1]).flatten++(List.replicate k2.toNat [V.ref t2]).flatten)):=Ac;have hx3:∀v∈(List.replicate k1.toNat [V.ref t1]).flatten++(List.replicate k2.toNat [V.ref t2]).flatten,∃t u,v=.ref t/\(upd Hf ls (.lst ((List.replicate k1.toNat [V.ref t1]).flatten++(List.replicate k2.toNat [V.ref t2]).flatten))) t=some (.tup [.str (wd u),.int (if u then ww else hh)])/\1<(if u then ww else hh):=λ v hv =>
    let ⟨t,u,a,b,c⟩:=hx v hv;⟨t,u,a,Same.new hls _ _ b,c⟩
   generalize upd Hf ls (.lst ((List.replicate k1.toNat [V.ref t1]).flatten++(List.replicate k2.toNat [V.ref t2]).flatten))=H3 at S3 L3 hx3 |-;exact k3 num ls _ ms2 _ n0 hxl L3 hx3 (S2.trans S3.x) (S3 _ _ L2) M2
  refine⟨_,(Ad (A6 (Ak (Kb hr) (pv 0) (AV Ab) (Am _)) (Ag (An (AF (Aa AK (Aa Bt Ab))))) Ao)
   (Ad (As (i:=4) S.nd rfl (Or.inl rfl) (A0 D__law_knead hr (Aa (Fh PySem.F.plainAttrs_list PySem.F.slot_list_pop PySem.F.type_list_pop Fm (pv 0)) (Aa Ae Ab)) (by lia)))
   h2)),?_⟩
  refine⟨_,rfl,Az 0,λ e he=>?_⟩;obtain⟨H1,g,s1,e1⟩:=nw (.lst []) he;rw[g];have hl1:=s1 _ _ hl;refine⟨_,_,RA (SqL.of hl1),Su e1,⟨_,rfl⟩,⟨_,rfl⟩,Ju _,_,rfl,BB (λ b1=>?_) (λ b1=>?_)⟩
  .refine⟨Az 2,λ t ht=>?_⟩;have s2:Same H1 (upd H1 t (.tup [.str "whole",.non])):=Same.new ht;exact q (.ref t) (.whole none) _ ms ((s1.trans s2).x) (s2 _ _ hl1) (by rw[Told];exact⟨t,rfl,Ac⟩) (by rw[Fit];trivial) ⟨IR (λ i z=>nomatch z),λ_=>by show 0+_<=_;lia⟩
  have hne:ms≠[]:=λ z=>by rw[if_neg Bool.false_ne_true,deq,Jv,decide_eq_true z]at b1;cases b1
  obtain⟨ms2,z,rfl⟩:∃ms2 z,ms=ms2++[z]:=⟨ms.dropLast,ms.getLast hne,(List.dropLast_concat_getLast hne).symm⟩;have hlast:((ms2++[z]).map V.int)[((ms2++[z]).map V.int).length-1]?=some (.int z):=by
   rw[List.length_map,List.length_append,List.length_singleton,Nat.add_sub_cancel,List.getElem?_map,List.getElem?_append_right (Nat.le_refl _),Nat.sub_self];rfl
  refine⟨_,rfl,.inl ⟨rfl,_,SqL.of hl1⟩,l,_,_,rfl,rfl,hl1,hlast,_,1,rfl,by decide,by decide,λ num n0=>?_⟩;have hdl:((ms2++[z]).map V.int).dropLast=ms2.map V.int:=by rw[List.map_append,List.map_singleton,List.dropLast_concat]
  rw[hdl];have S2:SameX l H (upd H1 l (.lst (ms2.map V.int))):=s1.x.trans SameX.upd;have L2:(upd H1 l (.lst (ms2.map V.int))) l=some (.lst (ms2.map V.int)):=Ac;generalize upd H1 l (.lst (ms2.map V.int))=H2 at S2 L2 |-;exact k2 num ms2 H2 n0 S2 L2 (by rw[List.length_append,List.length_singleton];lia)
def Hz(cU cL:Addr)(u:Bool):Addr:=if u then cU else cL
abbrev wF(m:V):LFz:=Be "mark" m []
abbrev cF(k:Int)(vx vy:V):LFz:=Be "other" vy (Be "first" vx (Be "at" (.int k) []))
def Obj(cW cU cL:Addr)(H:Hp):Tr->V->Prop
 |.whole m,v=>∃a dx,v=.ref a/\H a=some (.ins cW dx (wF (Ba m)))
 |.cut u k x y,v=>∃a dx vx vy,v=.ref a/\H a=some (.ins (Hz cU cL u) dx (cF k vx vy))/\Obj cW cU cL H x vx/\Obj cW cU cL H y vy
theorem Obj.same{H H':Hp}(s:Same H H'):∀{t:Tr}{v:V},Obj cW cU cL H t v->Obj cW cU cL H' t v
 |.whole m,v,h=>by
  rw[Obj]at h |-;obtain⟨a,dx,e,h⟩:=h;exact⟨a,dx,e,s _ _ h⟩
 |.cut u k x y,v,h=>by
  rw[Obj]at h |-;obtain⟨a,dx,vx,vy,e,h,h1,h2⟩:=h;exact⟨a,dx,vx,vy,e,s _ _ h,Obj.same s h1,Obj.same s h2⟩
structure RT(mg:MGz)(K:Frag)(cT cW cU cL:Addr):Prop where
 g_Tree:mg "Tree"=some (.ref cT)
 g_Whole:mg "Whole"=some (.ref cW)
 g_Upright:mg "Upright"=some (.ref cU)
 g_Level:mg "Level"=some (.ref cL)
 iW:Nb K cW
 iC:∀u,Nb K (Hz cU cL u)
 n_mark:NoAttr K cW "mark"
 n_at:∀u,NoAttr K (Hz cU cL u) "at"
 n_first:∀u,NoAttr K (Hz cU cL u) "first"
 n_other:∀u,NoAttr K (Hz cU cL u) "other"
 kWW:kitOne K (.ref cW) (.ref cW)=some true
 kWC:∀u,kitOne K (.ref cW) (.ref (Hz cU cL u))=some false
 kCW:∀u,kitOne K (.ref (Hz cU cL u)) (.ref cW)=some false
 kCC:∀u v,kitOne K (.ref (Hz cU cL u)) (.ref (Hz cU cL v))=some (u==v)
 kWT:kitOne K (.ref cW) (.ref cT)=some true
 kCT:∀u,kitOne K (.ref (Hz cU cL u)) (.ref cT)=some true
inductive Qy(C:Addr)(vs:LUz)(H:Hp)(Q:VK)(E:XK):Prop
 |mk (a dx:Addr) (m:V) (h0:vs=[.ref a,m]) (h1:H a=some (.ins C dx [])) (h2:Q .non (upd H a (.ins C dx (wF m)))):Qy C vs H Q E
def Nl(C:Addr) :Sp:=λ vs H Q E=>Qy C vs H Q E
inductive Qz(C:Addr)(vs:LUz)(H:Hp)(Q:VK)(E:XK):Prop
 |mk (a dx:Addr) (k:Int) (vx vy:V) (h0:vs=[.ref a,.int k,vx,vy]) (h1:H a=some (.ins C dx [])) (h2:∀H',SameX a H H'->H' a=some (.ins C dx (cF k vx vy))->Q .non H'):Qz C vs H Q E
def Jd(C:Addr) :Sp:=λ vs H Q E=>Qz C vs H Q E
theorem KA:Al ["self","mark"] ["self","mark"] (Ah Bx):=fsc
theorem Il{f:Addr}{fd:FuncData}(F:FunD K "__init__" "Whole.__init__" Bx f fd)(R:RT mg K cT cW cU cL):A9 P w K mg base CX0 1 f fd ["self","mark"] (Nl cW):=by
 have S:=KA;refine F.ok S (λ vs H Q E h=>?_) (λ cdv A outer s H vs Q E hr h=>?_)
 .obtain⟨a,dx,m,rfl,_⟩:=h;rfl
 .obtain⟨a,dx,m,rfl,ha,q⟩:=h;refine⟨_,(Ag (Cs (pv 0) (pv 1) rfl)),?_⟩;exact⟨_,rfl,_,rfl,a,cW,dx,_,rfl,ha,R.iW.cl,R.n_mark,(by show 0<1000;decide),q⟩
theorem HN:Al ["self","at","first","other"] ["self","at","first","other"] (Ah Cq):=fsc
theorem FJ{f:Addr}{fd:FuncData}(F:Fun K "__init__" "Upright.__init__" Cq f fd)(R:RT mg K cT cW cU cL):A9 P w K mg base CX0 1 f fd ["self","at","first","other"] (Jd cU):=by
 have S:=HN;refine F.ok S (λ vs H Q E h=>?_) (λ cdv A outer s H vs Q E hr h=>?_)
 .obtain⟨a,dx,k,vx,vy,rfl,_⟩:=h;rfl
 .obtain⟨a,dx,k,vx,vy,rfl,ha,q⟩:=h;refine⟨_,(Ad (Cs (pv 0) (pv 1) rfl)
   (Ad (Cs (pv 0) (pv 2) rfl)
   (Ag (Cs (pv 0) (pv 3) rfl)))),?_⟩
  refine⟨_,rfl,_,rfl,a,cU,dx,_,rfl,ha,(R.iC true).cl,R.n_at true,(by show 0<1000;decide),?_⟩;refine⟨_,rfl,_,rfl,a,cU,dx,_,rfl,Ac,(R.iC true).cl,R.n_first true,(by show 1<1000;decide),?_⟩;refine⟨_,rfl,_,rfl,a,cU,dx,_,rfl,Ac,(R.iC true).cl,R.n_other true,(by show 2<1000;decide),?_⟩;exact q _ ((SameX.upd.trans SameX.upd).trans SameX.upd) Ac
theorem KD:Al ["self","at","first","other"] ["self","at","first","other"] (Ah Dk):=fsc
theorem Ip{f:Addr}{fd:FuncData}(F:Fun K "__init__" "Level.__init__" Dk f fd)(R:RT mg K cT cW cU cL):A9 P w K mg base CX0 1 f fd ["self","at","first","other"] (Jd cL):=by
 have S:=KD;refine F.ok S (λ vs H Q E h=>?_) (λ cdv A outer s H vs Q E hr h=>?_)
 .obtain⟨a,dx,k,vx,vy,rfl,_⟩:=h;rfl
 .obtain⟨a,dx,k,vx,vy,rfl,ha,q⟩:=h;refine⟨_,(Ad (Cs (pv 0) (pv 1) rfl)
   (Ad (Cs (pv 0) (pv 2) rfl)
   (Ag (Cs (pv 0) (pv 3) rfl)))),?_⟩
  refine⟨_,rfl,_,rfl,a,cL,dx,_,rfl,ha,(R.iC false).cl,R.n_at false,(by show 0<1000;decide),?_⟩;refine⟨_,rfl,_,rfl,a,cL,dx,_,rfl,Ac,(R.iC false).cl,R.n_first false,(by show 1<1000;decide),?_⟩;refine⟨_,rfl,_,rfl,a,cL,dx,_,rfl,Ac,(R.iC false).cl,R.n_other false,(by show 2<1000;decide),?_⟩;exact q _ ((SameX.upd.trans SameX.upd).trans SameX.upd) Ac
theorem Bb{H:Hp}{x dx:Addr}{o1 o2:HO}(hx:H x=none)(hd:H dx=none):Same H (upd (upd H dx o1) x o2):=λ b o e=>by
 rw[Ai (Af e hx),Ai (Af e hd)];exact e
inductive LX(cW cU cL:Addr)(n:Nat)(vs:LUz)(H:Hp)(Q:VK)(E:XK):Prop
 |mk (v:V) (t:Tr) (tw:Bool) (h0:vs=[v,.bl tw]) (h1:Told H t v) (h2:t.dp<n) (h3:t.dp<40) (h4:∀v' H',Same H H'->Obj cW cU cL H' t v'->Q v' H'):LX cW cU cL n vs H Q E
def DN(cW cU cL:Addr)(n:Nat) :Sp:=λ vs H Q E=>LX cW cU cL n vs H Q E
theorem Tx{vs:LUz}{H:Hp}{Q:VK}{E:XK}:¬DN cW cU cL 0 vs H Q E:=by
 rintro⟨v,t,tw,_,_,h,_⟩;lia
theorem HL:Al ["_law_told","_law_twin","_law_first","_law_other"] ["_law_told","_law_twin"] (Ah BX):=fsc
def trD:Tr->D
 |.whole m=>.tup (.cons (.at (.str "whole")) (.cons (.at (Ba m)) .nil))
 |.cut u k x y=>.tup (.cons (.at (.str (wd u))) (.cons (.at (.int k)) (.cons (trD x) (.cons (trD y) .nil))))
theorem On(m:Option Int):EG (Ba m)=true:=by cases m<;>rfl
theorem JR{K:Frag}{H:Hp}:∀{t:Tr}{v:V},Told H t v->DIs K H (trD t) v
 |.whole m,v,h=>by
  rw[Told]at h;obtain⟨a,rfl,h⟩:=h;rw[trD,DIs];refine⟨a,_,rfl,SqT.of h,?_⟩;rw[DIss];refine⟨_,_,rfl,by rw[DIs];exact⟨rfl,rfl⟩,?_⟩;rw[DIss];exact⟨_,_,rfl,by rw[DIs];exact⟨rfl,On m⟩,by rw[DIss]⟩
 |.cut u k x y,v,h=>by
  rw[Told]at h;obtain⟨a,vx,vy,rfl,h,h1,h2⟩:=h;rw[trD,DIs];refine⟨a,_,rfl,SqT.of h,?_⟩;rw[DIss];refine⟨_,_,rfl,by rw[DIs];exact⟨rfl,rfl⟩,?_⟩;rw[DIss];refine⟨_,_,rfl,by rw[DIs];exact⟨rfl,rfl⟩,?_⟩;rw[DIss];refine⟨_,_,rfl,JR h1,?_⟩;rw[DIss];exact⟨_,_,rfl,JR h2,by rw[DIss]⟩
theorem JS:∀t:Tr,dep (trD t)<=t.dp+1
 |.whole m=>by rw[trD,dep,BL,BL,BL,dep,dep];lia
 |.cut u k x y=>by
  have:=JS x;have:=JS y;rw[trD,dep,BL,BL,BL,BL,BL,dep,dep,Tr.dp];lia
theorem RZ(x y:Str):eqV (.str x) (.str y)=decide (V.str x=V.str y):=by
 show(x==y)=_;rw[Kw]
theorem R8:∀m m':Option Int,eqV (Ba m) (Ba m')=true↔m=m'
 |none,none=>by simp[Ba,eqV]
 |none,some i=>by simp[Ba,eqV]
 |some i,none=>by simp[Ba,eqV]
 |some i,some j=>by simp[Ba,eqV]
theorem U0(i j:Int)(h:eqV (.int i) (.int j)=true):i=j:=by
 have:=(R8 (some i) (some j)).mp h;cases this;rfl
theorem Md:∀{t s:Tr},deq (trD t) (trD s)=true->t=s
 |.whole m,.whole m',h=>by
  rw[trD,trD,deq,BM,BM,BM,deq,deq]at h;simp only[Bool.and_eq_true,and_true]at h;rw[(R8 m m').mp h.2]
 |.whole m,.cut u k x y,h=>by
  rw[trD,trD,deq,BM,deq,RZ]at h;simp only[Bool.and_eq_true]at h;have:=Bp u;rw[decide_eq_false_iff_not]at this;exact absurd (of_decide_eq_true h.1).symm this
 |.cut u k x y,.whole m,h=>by
  rw[trD,trD,deq,BM,deq,RZ]at h;simp only[Bool.and_eq_true]at h;have:=Bp u;rw[decide_eq_false_iff_not]at this;exact absurd (of_decide_eq_true h.1) this
 |.cut u k x y,.cut u' k' x' y',h=>by
  rw[trD,trD,deq,BM,BM,BM,BM,BM,deq,deq,RZ,Bc]at h;simp only[Bool.and_eq_true,and_true]at h;obtain⟨h1,h2,h3,h4⟩:=h;rw[eq_of_beq h1,U0 _ _ h2,Md h3,Md h4]
theorem Ln{f:Addr}{fd:FuncData}{n:Nat}(F:Fun K "_law_made" "_law_made" BX f fd)(K_Whole:KF P w K mg base 1 "Whole" cW ["self","mark"] (Nl cW))(K_Upright:KF P w K mg base 1 "Upright" cU ["self","at","first","other"] (Jd cU))
  (K_Level:KF P w K mg base 1 "Level" cL ["self","at","first","other"] (Jd cL)) (D__law_made:AC P w K mg base (n+3) "_law_made" ["_law_told","_law_twin"] (DN cW cU cL n)):A9 P w K mg base CX0 (n+4) f fd ["_law_told","_law_twin"] (DN cW cU cL (n+1)):=by
 have S:=HL;refine F.ok S (λ vs H Q E h=>?_) (λ cdv A outer s H vs Q E hr h=>?_)
 .obtain⟨v,t,tw,rfl,_⟩:=h;rfl
 .obtain⟨v,t,tw,rfl,ht,hd,hd40,q⟩:=h;obtain⟨t3,h3,k3⟩:∃rd,PSs (Bv CX0 P w K mg base ["_law_told","_law_twin","_law_first","_law_other"] "_law_made" (Ah BX) f cdv A outer s H E).nox ((AB BX).drop 3) rd/\∀(a:Addr)(u:Bool)(k:Int)(v1 v2 w1 w2:V)(y1 y2:Tr)(x1:Option V)(H2:Hp),t=.cut u k y1 y2->Same H H2->H2 a=some (.tup [.str (wd u),.int k,v1,v2])->Obj cW cU cL H2 y1 w1->Obj cW cU cL H2 y2 w2 ->
    rd { nx:=λ_ H'=>Q .non H',rt:=Q } [some (.ref a),x1,some w1,some w2] H2:=by
   refine⟨_,(Ad (A6 (Ak AO (Ap Ar (pv 0) Ae (λ_ _=>rfl)) AK (Am _)) (Ag (An (Jk K_Upright hr (Aa (Ap Ar (pv 0) Ae (λ_ _=>rfl)) (Aa (pv 2) (Aa (pv 3) Ab))) (by lia)))) Ao)
   (Ag (An (Jk K_Level hr (Aa (Ap Ar (pv 0) Ae (λ_ _=>rfl)) (Aa (pv 2) (Aa (pv 3) Ab))) (by lia))))),?_⟩
   rintro a u k v1 v2 w1 w2 y1 y2 x1 H2 rfl s2 ha o1 o2;cases u with
   |true =>
    refine⟨_,rfl,a,_,_,_,rfl,rfl,SqT.of ha,at0,rfl,_,rfl,AT (Bc true true) ?_⟩;refine⟨_,rfl,a,_,_,_,rfl,rfl,SqT.of ha,at1,_,rfl,_,rfl,λ x dx nx ndx nex=>⟨x,dx,k,w1,w2,rfl,Ac,λ H3 s3 e3=>⟨rfl,?_⟩⟩⟩;have s4:Same H2 H3:=λ b o e=>s3 b o (Af e nx) (Bb nx ndx b o e);exact q _ _ (s2.trans s4) (by rw[Obj];exact⟨x,dx,w1,w2,rfl,e3,o1.same s4,o2.same s4⟩)
   |false =>
    refine⟨_,rfl,a,_,_,_,rfl,rfl,SqT.of ha,at0,rfl,_,rfl,A5 (Bc false true) ?_⟩;refine⟨_,rfl,a,_,_,_,rfl,rfl,SqT.of ha,at1,_,rfl,_,rfl,λ x dx nx ndx nex=>⟨x,dx,k,w1,w2,rfl,Ac,λ H3 s3 e3=>⟨rfl,?_⟩⟩⟩;have s4:Same H2 H3:=λ b o e=>s3 b o (Af e nx) (Bb nx ndx b o e);exact q _ _ (s2.trans s4) (by rw[Obj];exact⟨x,dx,w1,w2,rfl,e3,o1.same s4,o2.same s4⟩)
  refine⟨_,(Ad (A6 (Ak AO (Ap Ar (pv 0) Ae (λ_ _=>rfl)) AK (Am _)) (Ag (An (Jk K_Whole hr (Aa (Ap Ar (pv 0) Ae (λ_ _=>rfl)) Ab) (by lia)))) Ao)
   (Ad (As (i:=2) S.nd rfl (Or.inl rfl) (A0 D__law_made hr (Aa (Ap Ar (pv 0) Ae (λ_ _=>rfl)) (Aa (pv 1) Ab)) (by lia)))
   (Ad (As (i:=3) S.nd rfl (Or.inl rfl) (AY (PW.pt (Ek (D5 (pv 1) (λ_=>rfl)) (E9 (Ak (Kb hr) (Ap Ar (pv 0) Ae (λ_ _=>rfl)) (Ap Ar (pv 0) Ae (λ_ _=>rfl)) (Am _))))) (pv 2) (A0 D__law_made hr (Aa (Ap Ar (pv 0) Ae (λ_ _=>rfl)) (Aa (pv 1) Ab)) (by lia))))
   h3))),?_⟩
  cases t with
  |whole m =>
   rw[Told]at ht;obtain⟨a,rfl,ha⟩:=ht;refine⟨_,rfl,a,_,_,_,rfl,rfl,SqT.of ha,Cc,rfl,_,rfl,AT (decide_eq_true rfl) ?_⟩;refine⟨_,rfl,a,_,_,_,rfl,rfl,SqT.of ha,DH,λ x dx nx ndx nex=>⟨x,dx,_,rfl,Ac,rfl,?_⟩⟩;refine q _ _ (λ b o e=>?_) (by rw[Obj];exact⟨x,dx,rfl,Ac⟩);rw[Ai (Af e nx)];exact Bb nx ndx b o e
  |cut u k y1 y2 =>
   rw[Told]at ht;obtain⟨a,v1,v2,rfl,ha,t1,t2⟩:=ht;have hd:max y1.dp y2.dp+1<n+1:=hd;have hd40:max y1.dp y2.dp+1<40:=hd40;refine⟨_,rfl,a,_,_,_,rfl,rfl,SqT.of ha,at0,rfl,_,rfl,A5 (Bp u) ?_⟩;refine⟨_,rfl,a,_,_,_,rfl,rfl,SqT.of ha,at2,_,rfl,v1,y1,tw,rfl,t1,by lia,by lia,λ w1 H1 s1 o1=>?_⟩;have ha1:=s1 _ _ ha;have new:IX (DN cW cU cL n) [] E0 (Dw (tOp (Ob K) (FG 0) (tC (.int 3))) (Dw (FG 1) KS)) [some (.ref a),some (.bl tw),some w1,none] H1 λ x H2=>t3 { nx:=λ_ H'=>Q .non H',rt:=Q } [some (.ref a),some (.bl tw),some w1,some x] H2 :=
    ⟨_,rfl,a,_,_,_,rfl,rfl,SqT.of ha1,at3,_,rfl,v2,y2,tw,rfl,t2.same s1,by lia,by lia,λ w2 H2 s2 o2=>k3 a u k v1 v2 w1 w2 y1 y2 _ H2 rfl (s1.trans s2) (s2 _ _ ha1) (o1.same s2) o2⟩
   refine⟨_,rfl,_,rfl,?_⟩;cases tw with
   |false=>exact A5 rfl (A5 rfl new)
   |true =>
    refine AT rfl ⟨_,rfl,a,_,_,_,rfl,rfl,SqT.of ha1,at2,_,rfl,a,_,_,_,rfl,rfl,SqT.of ha1,at3,_,_,JR (t1.same s1),JR (t2.same s1),?_,?_,?_,_,rfl,BB (λ c=>?_) (λ c=>new)⟩
    .cases y1<;>(rw[Told]at t1)<;>(obtain⟨z,t1⟩:=t1)<;>first|exact⟨z,t1.1⟩|(obtain⟨_,_,e,_⟩:=t1;exact⟨z,e⟩)
    .cases y2<;>(rw[Told]at t2)<;>(obtain⟨z,t2⟩:=t2)<;>first|exact⟨z,t2.1⟩|(obtain⟨_,_,e,_⟩:=t2;exact⟨z,e⟩)
    .have:=JS y1;lia
    .rw[if_neg Bool.false_ne_true]at c;have e:=Md c;exact⟨_,rfl,k3 a u k v1 v2 w1 w1 y1 y2 _ H1 rfl s1 ha1 o1 (e ▸ o1)⟩
theorem fW(m:V):(wF m).lookup ("mark":Str)=some m:=by rw[Ay,if_pos rfl]
theorem TH(k:Int)(vx vy:V):(cF k vx vy).lookup ("at":Str)=some (.int k):=by rw[Ay,if_neg (by decide +kernel),Ay,if_neg (by decide +kernel),Ay,if_pos rfl]
theorem PR(k:Int)(vx vy:V):(cF k vx vy).lookup ("first":Str)=some vx:=by rw[Ay,if_neg (by decide +kernel),Ay,if_pos rfl]
theorem PQ(k:Int)(vx vy:V):(cF k vx vy).lookup ("other":Str)=some vy:=by rw[Ay,if_pos rfl]
theorem Pl{C:Addr}:∀u',RelV (.ref C) u'->u'=.ref C:=λ_ z=>z
inductive En where
 |w (m:Option Int)
 |c (u:Bool) (k:Int)
def ents:Tr->List En
 |.whole m=>[.w m]
 |.cut u k x y=>.c u k::(ents x++ents y)
def Tr.nd:Tr->Nat
 |.whole _=>1
 |.cut _ _ x y=>x.nd+y.nd+1
theorem Bu:∀t:Tr,(ents t).length=t.nd
 |.whole _=>rfl
 |.cut _ _ x y=>by rw[ents,List.length_cons,List.length_append,Bu x,Bu y];rfl
theorem Kl:∀t:Tr,0<t.nd
 |.whole _=>Nat.one_pos
 |.cut _ _ x y=>Nat.succ_pos _
def enV:En->LUz
 |.w m=>[.str "whole",Ba m]
 |.c u k=>[.str (wd u),.int k]
def hdE:Tr->En
 |.whole m=>.w m
 |.cut u k _ _=>.c u k
def Kp(H H':Hp):Prop:=∀b o,H b=some o->(∀xs,o≠.lst xs)->H' b=some o
theorem F3{H H':Hp}(s:Same H H'):Kp H H':=λ b o e _=>s b o e
theorem Kp.trans{H H1 H2:Hp}(a:Kp H H1)(b:Kp H1 H2):Kp H H2:=λ c o e n=>b c o (a c o e n) n
theorem Kp.put{H:Hp}{l:Addr}{xs ys:LUz}(h:H l=some (.lst xs)):Kp H (upd H l (.lst ys)):=λ b o e n=>by
 rw[Ai (CT e h (n xs))];exact e
theorem Obj.kp{H H':Hp}(s:Kp H H'):∀{t:Tr}{v:V},Obj cW cU cL H t v->Obj cW cU cL H' t v
 |.whole m,v,h=>by
  rw[Obj]at h |-;obtain⟨a,dx,e,h⟩:=h;exact⟨a,dx,e,s _ _ h (by intro xs z;cases z)⟩
 |.cut u k x y,v,h=>by
  rw[Obj]at h |-;obtain⟨a,dx,vx,vy,e,h,h1,h2⟩:=h;exact⟨a,dx,vx,vy,e,s _ _ h (by intro xs z;cases z),Obj.kp s h1,Obj.kp s h2⟩
def EnsAt(H:Hp):LUz->List En->Prop
 |[],[]=>True
 |v::r,e::q=>(∃a,v=.ref a/\H a=some (.tup (enV e)))/\EnsAt H r q
 |_,_=>False
theorem EnsAt.kp{H H':Hp}(s:Kp H H'):∀{vs:LUz}{es:List En},EnsAt H vs es->EnsAt H' vs es
 |[],[],_=>trivial
 |v::r,e::q,h=>⟨let ⟨a,b,c⟩:=h.1;⟨a,b,s _ _ c (by intro xs z;cases z)⟩,EnsAt.kp s h.2⟩
 |[],_::_,h=>h
 |_::_,[],h=>h
theorem EnsAt.snoc{H:Hp}{a:Addr}{e:En}(ha:H a=some (.tup (enV e))):∀{vs:LUz}{es:List En},EnsAt H vs es->EnsAt H (vs++[.ref a]) (es++[e])
 |[],[],_=>⟨⟨a,rfl,ha⟩,trivial⟩
 |v::r,e'::q,h=>⟨h.1,EnsAt.snoc ha h.2⟩
 |[],_::_,h=>h.elim
 |_::_,[],h=>h.elim
theorem EnsAt.len{H:Hp}:∀{vs:LUz}{es:List En},EnsAt H vs es->vs.length=es.length
 |[],[],_=>rfl
 |v::r,e'::q,h=>by rw[List.length_cons,List.length_cons,EnsAt.len h.2]
 |[],_::_,h=>h.elim
 |_::_,[],h=>h.elim
theorem EnsAt.get{H:Hp}:∀{vs:LUz}{es:List En}{i:Nat}{v:V},EnsAt H vs es->vs[i]?=some v->∃e a,es[i]?=some e/\v=.ref a/\H a=some (.tup (enV e))
 |v::r,e::q,0,_,h,hv=>by
  cases hv;obtain⟨a,b,c⟩:=h.1;exact⟨e,a,rfl,b,c⟩
 |v::r,e::q,i+1,_,h,hv=>EnsAt.get (i:=i) h.2 hv
 |[],[],_,_,_,hv=>by cases hv
 |[],_::_,_,_,h,_=>h.elim
 |_::_,[],_,_,h,_=>h.elim
inductive JN(cW cU cL:Addr)(vs:LUz)(H:Hp)(Q:VK)(E:XK):Prop
 |mk (v:V) (t:Tr) (h0:vs=[v]) (h1:Obj cW cU cL H t v) (h2:∀a,H a=none->Q (.ref a) (upd H a (.tup (enV (hdE t))))):JN cW cU cL vs H Q E
def Gx(cW cU cL:Addr) :Sp:=λ vs H Q E=>JN cW cU cL vs H Q E
inductive HZ(cW cU cL:Addr)(vs:LUz)(H:Hp)(Q:VK)(E:XK):Prop
 |mk (v:V) (t:Tr) (h0:vs=[v]) (h1:Obj cW cU cL H t v) (h2:Q ((enV (hdE t)).headD .non) H):HZ cW cU cL vs H Q E
def EY(cW cU cL:Addr) :Sp:=λ vs H Q E=>HZ cW cU cL vs H Q E
theorem OD:Al ["tree"] ["tree"] (Ah Fb):=fsc
theorem Mx{f:Addr}{fd:FuncData}(F:Fun K "kind_of" "kind_of" Fb f fd)(T:Txt mg tk)(R:RT mg K cT cW cU cL):A9 P w K mg base CX0 1 f fd ["tree"] (EY cW cU cL):=by
 have S:=OD;refine F.ok S (λ vs H Q E h=>?_) (λ cdv A outer s H vs Q E hr h=>?_)
 .obtain⟨v,t,rfl,_⟩:=h;rfl
 .obtain⟨v,t,rfl,ho,q⟩:=h;refine⟨_,(Ad (A6 (BO (A3 Ev rfl T.z_isinstance rfl (Aa (pv 0) (Aa (A7 (v:=.ref (cW)) rfl R.g_Whole rfl) Ab)))) (Ag (An (A7 (v:=.str "whole") rfl T.g_WHOLE ⟨_,rfl⟩))) Ao)
   (Ag (An (AY (BO (A3 Ev rfl T.z_isinstance rfl (Aa (pv 0) (Aa (A7 (v:=.ref (cU)) rfl R.g_Upright rfl) Ab)))) (A7 (v:=.str "upright") rfl T.g_UPRIGHT ⟨_,rfl⟩) (A7 (v:=.str "level") rfl T.g_LEVEL ⟨_,rfl⟩))))),?_⟩
  cases t with
  |whole m =>
   rw[Obj]at ho;obtain⟨x,dx,rfl,hx⟩:=ho;exact⟨_,rfl,x,cW,dx,_,_,.ref cW,true,rfl,hx,R.iW,rfl,Pl,R.kWW,_,rfl,AT rfl q⟩
  |cut u k y1 y2 =>
   rw[Obj]at ho;obtain⟨x,dx,w1,w2,rfl,hx,o1,o2⟩:=ho;refine⟨_,rfl,x,_,dx,_,_,.ref cW,false,rfl,hx,R.iC u,rfl,Pl,R.kCW u,_,rfl,A5 rfl ?_⟩;refine⟨_,rfl,x,_,dx,_,_,.ref cU,_,rfl,hx,R.iC u,rfl,Pl,R.kCC u true,_,rfl,?_⟩;cases u with
   |true=>exact AT rfl q
   |false=>exact A5 rfl q
theorem MX:Al ["tree","kind"] ["tree"] (Ah Eg):=fsc
theorem Lp{f:Addr}{fd:FuncData}(F:Fun K "entry_of" "entry_of" Eg f fd)(T:Txt mg tk)(R:RT mg K cT cW cU cL)(D_kind_of:AC P w K mg base 1 "kind_of" ["tree"] (EY cW cU cL)):A9 P w K mg base CX0 2 f fd ["tree"] (Gx cW cU cL):=by
 have S:=MX;refine F.ok S (λ vs H Q E h=>?_) (λ cdv A outer s H vs Q E hr h=>?_)
 .obtain⟨v,t,rfl,_⟩:=h;rfl
 .obtain⟨v,t,rfl,ho,q⟩:=h;refine⟨_,(Ad (As (i:=1) S.nd rfl (Or.inl rfl) (A0 D_kind_of hr (Aa (pv 0) Ab)))
   (Ag (An (AF (Aa (pv 1) (Aa (AY (Ak AO (pv 1) (A7 (v:=.str "whole") rfl T.g_WHOLE ⟨_,rfl⟩) (Am _)) (Fg (pv 0) rfl) (Fg (pv 0) rfl)) Ab)))))),?_⟩
  refine⟨_,rfl,_,t,rfl,ho,?_⟩;cases t with
  |whole m =>
   rw[Obj]at ho;obtain⟨x,dx,rfl,hx⟩:=ho;exact⟨_,rfl,_,rfl,rfl,_,rfl,AT (decide_eq_true rfl) ⟨_,rfl,x,cW,dx,_,_,rfl,hx,R.iW.cl,R.n_mark,fW _,Az 2,λ a ha=>q a ha⟩⟩
  |cut u k y1 y2 =>
   rw[Obj]at ho;obtain⟨x,dx,w1,w2,rfl,hx,o1,o2⟩:=ho;exact⟨_,rfl,_,rfl,rfl,_,rfl,A5 (Bp u) ⟨_,rfl,x,_,dx,_,_,rfl,hx,(R.iC u).cl,R.n_at u,TH _ _ _,Az 2,λ a ha=>q a ha⟩⟩
def Dt(ws:List (V×Tr)):List En:=ws.reverse.flatMap λ p=>ents p.2
theorem Bn(ws:List (V×Tr))(p:V×Tr):Dt (ws++[p])=ents p.2++Dt ws:=by
 unfold Dt;rw[List.reverse_append,List.reverse_singleton,List.singleton_append,List.flatMap_cons]
def cnt(ws:List (V×Tr)):Nat:=(ws.map λ p=>p.2.nd).sum
theorem DF(ws:List (V×Tr))(p:V×Tr):cnt (ws++[p])=cnt ws+p.2.nd:=by
 unfold cnt;rw[List.map_append,List.sum_append,List.map_singleton,List.sum_singleton]
theorem EJ:∀ws:List (V×Tr),ws.length<=cnt ws
 |[]=>Nat.le_refl 0
 |p::r=>by
  have:=EJ r;have:=Kl p.2;show r.length+1<=p.2.nd+cnt r;lia
theorem Fp(p:V×Tr)(r:List (V×Tr)):Dt (p::r)=Dt r++ents p.2:=by
 unfold Dt;rw[List.reverse_cons,List.flatMap_append,List.flatMap_cons,List.flatMap_nil,List.append_nil]
theorem DE:∀ws:List (V×Tr),(Dt ws).length=cnt ws
 |[]=>rfl
 |p::r=>by
  rw[Fp,List.length_append,Bu,DE r];show _=p.2.nd+cnt r;lia
theorem Dc{α:Type}(ws:List α):ws=[]\/∃ws0 p,ws=ws0++[p]:=by
 by_cases h:ws=[]
 .exact .inl h
 .exact .inr ⟨ws.dropLast,ws.getLast h,(List.dropLast_concat_getLast h).symm⟩
theorem GW{ws0:List (V×Tr)}{p:V×Tr}:((ws0++[p]).map (·.1))[((ws0++[p]).map (·.1)).length-1]?=some p.1:=by
 rw[List.length_map,List.length_append,List.length_singleton,Nat.add_sub_cancel,List.getElem?_map,List.getElem?_append_right (Nat.le_refl _),Nat.sub_self];rfl
theorem Hy{ws0:List (V×Tr)}{p:V×Tr}:((ws0++[p]).map (·.1)).dropLast=ws0.map (·.1):=by rw[List.map_append,List.map_singleton,List.dropLast_concat]
inductive FD(cW cU cL:Addr)(vs:LUz)(H:Hp)(Q:VK)(E:XK):Prop
 |mk (v:V) (t:Tr) (h0:vs=[v]) (h1:Obj cW cU cL H t v) (h2:t.nd<=400) (h3:∀l xs H',Same H H'->H l=none->H' l=some (.lst xs)->EnsAt H' xs (ents t)->Q (.ref l) H'):FD cW cU cL vs H Q E
def BN(cW cU cL:Addr) :Sp:=λ vs H Q E=>FD cW cU cL vs H Q E
abbrev Ue(cW cU cL:Addr)(H:Hp)(v:V)(t:Tr)(le lw:Addr)(m:Nat)(σ:St)(H':Hp):Prop:=∃(xs:LUz)(es:List En)(ws:List (V×Tr))(x3:Option V),σ=[some v,some (.ref le),some (.ref lw),x3]/\Same H H'/\H' le=some (.lst xs)/\EnsAt H' xs es/\H' lw=some (.lst (ws.map (·.1)))/\(∀p∈ws,Obj cW cU cL H' p.2 p.1)/\es++Dt ws=ents t/\m=cnt ws
theorem K8:Al ["tree","entries","waiting","part"] ["tree"] (Ah Df):=fsc
theorem Ij{f:Addr}{fd:FuncData}(F:Fun K "entries_of" "entries_of" Df f fd)(T:Txt mg tk)(R:RT mg K cT cW cU cL)(D_entry_of:AC P w K mg base 2 "entry_of" ["tree"] (Gx cW cU cL)):A9 P w K mg base CX0 3 f fd ["tree"] (BN cW cU cL):=by
 have S:=K8;refine F.ok S (λ vs H Q E h=>?_) (λ cdv A outer s H vs Q E hr h=>?_)
 .obtain⟨v,t,rfl,_⟩:=h;rfl
 .obtain⟨v,t,rfl,ho,hn,q⟩:=h;refine⟨_,(Ad (As (i:=1) S.nd rfl (Or.inl rfl) (AV Ab))
   (Ad (As (i:=2) S.nd rfl (Or.inl rfl) (AV (Aa (pv 0) Ab)))
   (Ad (Po PassesOwn.never (D5 (pv 2) (λ_=>rfl)) (Ad (As (i:=3) S.nd rfl (Or.inl rfl) (Fh PySem.F.plainAttrs_list PySem.F.slot_list_pop PySem.F.type_list_pop Fm (pv 2)))
   (Ad (Bo (Cz PySem.F.plainAttrs_list PySem.F.slot_list_append PySem.F.type_list_append Bl (pv 1) (Aa (A0 D_entry_of hr (Aa (pv 3) Ab)) Ab)))
   (Ag (A6 (BG (BO (A3 Ev rfl T.z_isinstance rfl (Aa (pv 3) (Aa (A7 (v:=.ref (cW)) rfl R.g_Whole rfl) Ab))))) (Ag (Bo (Cz PySem.F.plainAttrs_list PySem.F.slot_list_extend PySem.F.type_list_extend Om (pv 2) (Aa (AV (Aa (Fg (pv 3) rfl) (Aa (Fg (pv 3) rfl) Ab))) Ab)))) Ao)))))
   (Ag (An (pv 1)))))),?_⟩
  refine⟨Az 0,λ le hle=>⟨_,rfl,Az 1,λ lw hlw=>?_⟩⟩;have nel:le≠lw:=Af Ac hlw;have s0:Same H (upd (upd H le (.lst [])) lw (.lst [v])):=(Same.new hle).trans (Same.new hlw);have hlw0:H lw=none:=by
   cases e:H lw with
   |none=>rfl
   |some o=>rw[Same.new hle _ _ e]at hlw;cases hlw
  refine⟨Ue cW cU cL H v t le lw,
   ⟨_,[],[],[(v,t)],none,rfl,s0,by rw[Ai nel];exact Ac,trivial,Ac,λ p hp=>?_,?_,rfl⟩,?_⟩
  .rw[List.mem_singleton.mp hp];exact ho.same s0
  .show ents t++[]=ents t;exact List.append_nil _
  rintro m σ H' ⟨xs,es,ws,x3,rfl,s1,hl,hen,hw,hob,heq,rfl⟩;have tot:es.length+cnt ws=t.nd:=by rw[<-Bu,<-heq,List.length_append,DE]
  rcases Dc ws with rfl|⟨ws0,p,rfl⟩
  .refine⟨_,rfl,_,.inl ⟨_,SqL.of hw,rfl⟩,A5 rfl ⟨_,rfl,q le xs H' s1 hle hl ?_⟩⟩;rw[<-heq];show EnsAt H' xs (es++[]);rw[List.append_nil];exact hen
  .refine⟨_,rfl,_,.inl ⟨_,SqL.of hw,rfl⟩,AT (by simp) ⟨λ σ' H''=>∃m',m'<cnt (ws0++[p])/\Ue cW cU cL H v t le lw m' σ' H'',λ σ' H'' z=>z,?_⟩⟩;refine⟨_,rfl,.inl ⟨rfl,_,SqL.of hw⟩,lw,_,p.1,rfl,rfl,hw,GW,?_⟩;rw[Hy];have k2:Kp H' (upd H' lw (.lst (ws0.map (·.1)))):=Kp.put hw;have s2:Same H (upd H' lw (.lst (ws0.map (·.1)))):=λ b o e=>by rw[Ai (Af e hlw0)];exact s1 b o e
   have l2:(upd H' lw (.lst (ws0.map (·.1)))) le=some (.lst xs):=by rw[Ai nel];exact hl
   have w2:(upd H' lw (.lst (ws0.map (·.1)))) lw=some (.lst (ws0.map (·.1))):=Ac;generalize upd H' lw (.lst (ws0.map (·.1)))=H2 at k2 s2 l2 w2 |-;have op:=(hob p (by simp)).kp k2;have ob0:∀r∈ws0,Obj cW cU cL H2 r.2 r.1:=λ r hr=>(hob r (List.mem_append_left _ hr)).kp k2;have hen2:=hen.kp k2;rw[Bn]at heq;rw[DF]at tot;have hxl:=hen.len;have np:=Kl p.2;refine⟨_,rfl,.inl ⟨rfl,_,SqL.of l2⟩,_,rfl,p.1,p.2,rfl,op,λ a ha=>?_⟩;obtain⟨H3,g,s3,a3⟩:=nw (.tup (enV (hdE p.2))) ha;rw[g];have l3:=s3 _ _ l2;refine⟨le,xs,.ref a,rfl,rfl,l3,Au (by lia),?_⟩;have k4:Kp H3 (upd H3 le (.lst (xs++[.ref a]))):=Kp.put l3;have s4:Same H (upd H3 le (.lst (xs++[.ref a]))):=λ b o e=>by rw[Ai (Af e hle)];exact s3 b o (s2 b o e)
   have l4:(upd H3 le (.lst (xs++[.ref a]))) le=some (.lst (xs++[.ref a])):=Ac;have w4:(upd H3 le (.lst (xs++[.ref a]))) lw=some (.lst (ws0.map (·.1))):=by rw[Ai (Ne.symm nel)];exact s3 _ _ w2
   have en4:EnsAt (upd H3 le (.lst (xs++[.ref a]))) (xs++[.ref a]) (es++[hdE p.2]):=((hen2.kp (F3 s3)).kp k4).snoc (k4 _ _ a3 (by intro xs z;cases z));have kk:=(F3 s3).trans k4;generalize upd H3 le (.lst (xs++[.ref a]))=H4 at k4 s4 l4 w4 en4 kk |-;have op4:=op.kp kk;have ob4:∀r∈ws0,Obj cW cU cL H4 r.2 r.1:=λ r hr=>(ob0 r hr).kp kk;obtain⟨pv,pt⟩:=p;cases pt with
   |whole m =>
    rw[Obj]at op4;obtain⟨x,dx,rfl,hx⟩:=op4;refine⟨_,rfl,x,cW,dx,_,_,.ref cW,true,rfl,hx,R.iW,rfl,Pl,R.kWW,_,rfl,A5 rfl ?_⟩;refine⟨cnt ws0,by rw[DF];exact Nat.lt_succ_self _,_,_,ws0,_,rfl,s4,l4,en4,w4,ob4,?_,rfl⟩;rw[<-heq,List.append_assoc];rfl
   |cut u k y1 y2 =>
    rw[Obj]at op4;obtain⟨x,dx,v1,v2,rfl,hx,o1,o2⟩:=op4;refine⟨_,rfl,x,_,dx,_,_,.ref cW,false,rfl,hx,R.iC u,rfl,Pl,R.kCW u,_,rfl,AT rfl ?_⟩;refine⟨_,rfl,.inl ⟨rfl,_,SqL.of w4⟩,_,rfl,x,_,dx,_,_,rfl,hx,(R.iC u).cl,R.n_other u,PQ _ _ _,_,rfl,x,_,dx,_,_,rfl,hx,(R.iC u).cl,R.n_first u,PR _ _ _,Az 2,λ l5 hl5=>?_⟩;obtain⟨H5,g,s5,e5⟩:=nw (.lst [v2,v1]) hl5;rw[g];have cl:=EJ ws0;have ndp:(Tr.cut u k y1 y2).nd=y1.nd+y2.nd+1:=rfl;refine⟨lw,l5,_,_,rfl,rfl,s5 _ _ w4,e5,Nat.le_of_lt (Au (by show(ws0.map (·.1)).length+2<=1000;rw[List.length_map];lia)),?_⟩;have k6:Kp H5 (upd H5 lw (.lst (ws0.map (·.1)++[v2,v1]))):=Kp.put (s5 _ _ w4);have kk6:=(F3 s5).trans k6;refine⟨cnt (ws0++[(v2,y2)]++[(v1,y1)]),?_,xs++[.ref a],es++[.c u k],ws0++[(v2,y2)]++[(v1,y1)],_,rfl,λ b o e=>?_,?_,en4.kp kk6,?_,λ r hr=>?_,?_,rfl⟩
    .rw[DF,DF,DF];show cnt ws0+y2.nd+y1.nd<cnt ws0+(y1.nd+y2.nd+1);lia
    .rw[Ai (Af e hlw0)];exact s5 b o (s4 b o e)
    .rw[Ai nel];exact s5 _ _ l4
    .rw[Ac,List.map_append,List.map_append,List.append_assoc];rfl
    .rcases List.mem_append.mp hr with hr|hr
     .rcases List.mem_append.mp hr with hr|hr
      .exact(ob4 r hr).kp kk6
      .rw[List.mem_singleton.mp hr];exact o2.kp kk6
     .rw[List.mem_singleton.mp hr];exact o1.kp kk6
    .rw[Bn,Bn,<-heq];show es++[.c u k]++(ents y1++(ents y2++Dt ws0))=es++(.c u k::(ents y1++ents y2)++Dt ws0);simp[List.append_assoc]
def wt:En->Int
 |.w _=>1
 |.c _ _=>-1
def wts(es:List En):Int:=(es.map wt).sum
theorem Ey(a b:List En):wts (a++b)=wts a+wts b:=by
 unfold wts;rw[List.map_append,List.sum_append]
theorem Gj(e:En)(b:List En):wts (e::b)=wt e+wts b:=by
 unfold wts;rw[List.map_cons,List.sum_cons]
theorem BV:∀t:Tr,wts (ents t)=1
 |.whole _=>rfl
 |.cut u k x y=>by
  rw[ents,Gj,Ey,BV x,BV y];rfl
theorem Gi:∀ws:List (V×Tr),wts (Dt ws)=ws.length
 |[]=>rfl
 |p::r=>by rw[Fp,Ey,BV,Gi r,List.length_cons];lia
theorem FR:∀(t:Tr)(a b:List En),ents t=a++b->b≠[]->1<=wts b
 |.whole m,a,b,h,hb=>by
  have h:[En.w m]=a++b:=h;cases a with
  |nil=>rw[List.nil_append]at h;rw[<-h];exact Int.le_refl 1
  |cons e r =>
   have:=congrArg List.length h;simp only[List.length_append,List.length_cons,List.length_nil]at this;exact absurd (List.length_eq_zero_iff.mp (by lia)) hb
 |.cut u k x y,a,b,h,hb=>by
  cases a with
  |nil =>
   rw[List.nil_append]at h;rw[<-h,BV];decide
  |cons e r =>
   rw[ents,List.cons_append]at h;have h2:=List.cons.inj h |>.2;rcases List.append_eq_append_iff.mp h2 with ⟨c,hc,hd⟩|⟨c,hc,hd⟩
   .exact FR y c b hd hb
   .rw[hd,Ey,BV];by_cases e:c=[]
    .rw[e];decide
    .have:=FR x r c hc e;lia
theorem Hw:∀(t t':Tr)(r r':List En),ents t++r=ents t'++r'->t=t'/\r=r'
 |.whole m,.whole m',r,r',h=>by
  have h:En.w m::r=En.w m'::r':=h;injection h with h1 h2;injection h1 with h1;exact⟨by rw[h1],h2⟩
 |.whole m,.cut u k x y,r,r',h=>by
  have h:En.w m::r=En.c u k::(ents x++ents y++r'):=h;injection h with h1 _;cases h1
 |.cut u k x y,.whole m,r,r',h=>by
  have h:En.c u k::(ents x++ents y++r)=En.w m::r':=h;injection h with h1 _;cases h1
 |.cut u k x y,.cut u' k' x' y',r,r',h=>by
  have h:En.c u k::(ents x++ents y++r)=En.c u' k'::(ents x'++ents y'++r'):=h;injection h with h1 h2;injection h1 with h3 h4;rw[List.append_assoc,List.append_assoc]at h2;obtain⟨e1,h5⟩:=Hw x x' _ _ h2;obtain⟨e2,h6⟩:=Hw y y' _ _ h5;exact⟨by rw[h3,h4,e1,e2],h6⟩
inductive FE(cW cU cL:Addr)(vs:LUz)(H:Hp)(Q:VK)(E:XK):Prop
 |mk (u:Bool) (k:Int) (v1 v2:V) (y1 y2:Tr) (h0:vs=[.str (wd u),.int k,v1,v2]) (h1:Obj cW cU cL H y1 v1) (h2:Obj cW cU cL H y2 v2) (h3:∀v' H',Same H H'->Obj cW cU cL H' (.cut u k y1 y2) v'->Q v' H'):FE cW cU cL vs H Q E
def Ed(cW cU cL:Addr) :Sp:=λ vs H Q E=>FE cW cU cL vs H Q E
theorem MZ:Al ["word","at","first","other"] ["word","at","first","other"] (Ah Ei):=fsc
theorem Lr{f:Addr}{fd:FuncData}(F:Fun K "cut_from" "cut_from" Ei f fd)(T:Txt mg tk)(K_Upright:KF P w K mg base 1 "Upright" cU ["self","at","first","other"] (Jd cU))(K_Level:KF P w K mg base 1 "Level" cL ["self","at","first","other"] (Jd cL)) :
  A9 P w K mg base CX0 3 f fd ["word","at","first","other"] (Ed cW cU cL):=by
 have S:=MZ;refine F.ok S (λ vs H Q E h=>?_) (λ cdv A outer s H vs Q E hr h=>?_)
 .obtain⟨u,k,v1,v2,y1,y2,rfl,_⟩:=h;rfl
 .obtain⟨u,k,v1,v2,y1,y2,rfl,o1,o2,q⟩:=h;refine⟨_,(Ad (A6 (Ak AO (pv 0) (A7 (v:=.str "upright") rfl T.g_UPRIGHT ⟨_,rfl⟩) (Am _)) (Ag (An (Jk K_Upright hr (Aa (pv 1) (Aa (pv 2) (Aa (pv 3) Ab)))))) Ao)
   (Ag (An (Jk K_Level hr (Aa (pv 1) (Aa (pv 2) (Aa (pv 3) Ab))))))),?_⟩
  cases u with
  |true =>
   refine⟨_,rfl,rfl,_,rfl,AT (Bc true true) ⟨_,rfl,_,rfl,_,rfl,λ x dx nx ndx nex=>⟨x,dx,k,v1,v2,rfl,Ac,λ H3 s3 e3=>⟨rfl,?_⟩⟩⟩⟩;have s4:Same H H3:=λ b o e=>s3 b o (Af e nx) (Bb nx ndx b o e);exact q _ _ s4 (by rw[Obj];exact⟨x,dx,v1,v2,rfl,e3,o1.same s4,o2.same s4⟩)
  |false =>
   refine⟨_,rfl,rfl,_,rfl,A5 (Bc false true) ⟨_,rfl,_,rfl,_,rfl,λ x dx nx ndx nex=>⟨x,dx,k,v1,v2,rfl,Ac,λ H3 s3 e3=>⟨rfl,?_⟩⟩⟩⟩;have s4:Same H H3:=λ b o e=>s3 b o (Af e nx) (Bb nx ndx b o e);exact q _ _ s4 (by rw[Obj];exact⟨x,dx,v1,v2,rfl,e3,o1.same s4,o2.same s4⟩)
inductive LY(K:Frag)(cW cU cL:Addr)(vs:LUz)(H:Hp)(Q:VK)(E:XK):Prop
 |mk (l:Addr) (xs:LUz) (t:Tr) (h0:vs=[.ref l]) (h1:SqL K H l xs) (h2:EnsAt H xs (ents t)) (h3:t.nd<=400) (h4:∀v' H',Same H H'->Obj cW cU cL H' t v'->Q v' H'):LY K cW cU cL vs H Q E
def FU(K:Frag)(cW cU cL:Addr) :Sp:=λ vs H Q E=>LY K cW cU cL vs H Q E
theorem LI:Al ["entries","done","word","number","first","other"] ["entries"] (Ah Dy):=fsc
theorem Oz{es:List En}{i:Nat}{e:En}(hi:i<es.length)(h:es[es.length-1-i]?=some e):es.drop (es.length-(i+1))=e::es.drop (es.length-i):=by
 have hk:es.length-1-i<es.length:=by lia
 rw[show es.length-(i+1)=es.length-1-i by lia,List.drop_eq_getElem_cons hk];rw[List.getElem?_eq_getElem hk]at h;rw[Option.some.inj h,show es.length-1-i+1=es.length-i by lia]
theorem Kc{f:Addr}{fd:FuncData}(F:Fun K "tree_from" "tree_from" Dy f fd)(T:Txt mg tk)(R:RT mg K cT cW cU cL)(K_Whole:KF P w K mg base 1 "Whole" cW ["self","mark"] (Nl cW))(D_cut_from:AC P w K mg base 3 "cut_from" ["word","at","first","other"] (Ed cW cU cL)) :
  A9 P w K mg base CX0 4 f fd ["entries"] (FU K cW cU cL):=by
 have S:=LI;refine F.ok S (λ vs H Q E h=>?_) (λ cdv A outer s H vs Q E hr h=>?_)
 .obtain⟨l,xs,t,rfl,_⟩:=h;rfl
 .obtain⟨l,xs,t,rfl,hl,hen,hn,q⟩:=h;refine⟨_,(Ad (As (i:=1) S.nd rfl (Or.inl rfl) (AV Ab))
   (Ad (B7 PassesOwn.never rfl (QN rfl T.z_reversed (Aa (pv 0) Ab)) (CG rfl (Aw (Aq (i:=2) S.nd rfl (Or.inl rfl)) (Aw (Aq (i:=3) S.nd rfl (Or.inl rfl)) Bf))) (Ag (A6 (Ak AO (pv 2) (A7 (v:=.str "whole") rfl T.g_WHOLE ⟨_,rfl⟩) (Am _)) (Ag (Bo (Cz PySem.F.plainAttrs_list PySem.F.slot_list_append PySem.F.type_list_append Bl (pv 1) (Aa (Jk K_Whole hr (Aa (pv 3) Ab)) Ab)))) (Ad (As (i:=4) S.nd rfl (Or.inl rfl) (Fh PySem.F.plainAttrs_list PySem.F.slot_list_pop PySem.F.type_list_pop Fm (pv 1)))
   (Ad (As (i:=5) S.nd rfl (Or.inl rfl) (Fh PySem.F.plainAttrs_list PySem.F.slot_list_pop PySem.F.type_list_pop Fm (pv 1)))
   (Ag (Bo (Cz PySem.F.plainAttrs_list PySem.F.slot_list_append PySem.F.type_list_append Bl (pv 1) (Aa (A0 D_cut_from hr (Aa (pv 2) (Aa (pv 3) (Aa (pv 4) (Aa (pv 5) Ab))))) Ab)))))))))
   (Ag (An (Fh PySem.F.plainAttrs_list PySem.F.slot_list_pop PySem.F.type_list_pop Fm (pv 1)))))),?_⟩
  refine⟨Az 0,λ ld hld=>⟨_,rfl,l,xs,rfl,(Same.new hld).seq hl,?_⟩⟩;have hxl:=hen.len;have hel:=Bu t;refine Rn (K:=K) (a:=l) (xs:=xs) (λ i σ H'=>∃(ws:List (V×Tr))(x2 x3 x4 x5:Option V),σ=[some (.ref l),some (.ref ld),x2,x3,x4,x5]/\Same H H'/\H' ld=some (.lst (ws.map (·.1)))/\(∀p∈ws,Obj cW cU cL H' p.2 p.1)/\(ents t).drop ((ents t).length-i)=Dt ws)
   ⟨[],_,_,_,_,rfl,Same.new hld,Ac,(λ p hp=>(nomatch hp)),by rw[Nat.sub_zero,List.drop_length];rfl⟩ (λ i σ H' _ hp=>let ⟨_,_,_,_,_,_,s,_⟩:=hp;s.seq hl) ?_ ?_
  .rintro i v σ H' hv hi ⟨ws,x2,x3,x4,x5,rfl,s1,hd,hob,heq⟩;obtain⟨e,a,he,rfl,ha⟩:=hen.get hv;have ha':=s1 _ _ ha;rw[hxl]at he hi;have hdr:=Oz hi he;have wl:ws.length<=400:=by
    have h1:=EJ ws;have h2:=DE ws;rw[<-heq,List.length_drop]at h2;lia
   cases e with
   |w m =>
    refine⟨a,_,rfl,SqT.of ha',rfl,_,_,rfl,_,_,rfl,rfl,?_⟩;refine⟨_,rfl,rfl,_,rfl,AT (decide_eq_true rfl) ?_⟩;refine⟨_,rfl,.inl ⟨rfl,_,SqL.of hd⟩,_,rfl,λ x dx nx ndx nex=>⟨x,dx,_,rfl,Ac,rfl,?_⟩⟩;have s2:Same H' (upd (upd (upd H' dx (.own x)) x (.ins cW dx [])) x (.ins cW dx (wF (Ba m)))):=λ b o e=>by
     rw[Ai (Af e nx)];exact Bb nx ndx b o e
    have e2:(upd (upd (upd H' dx (.own x)) x (.ins cW dx [])) x (.ins cW dx (wF (Ba m)))) x=some (.ins cW dx (wF (Ba m))):=Ac;generalize upd (upd (upd H' dx (.own x)) x (.ins cW dx [])) x (.ins cW dx (wF (Ba m)))=H2 at s2 e2 |-;have d2:=s2 _ _ hd;refine⟨ld,_,.ref x,rfl,rfl,d2,Au (by rw[List.length_map];lia),?_⟩;have k3:Kp H2 (upd H2 ld (.lst (ws.map (·.1)++[.ref x]))):=Kp.put d2;refine⟨ws++[(.ref x,.whole m)],_,_,_,_,rfl,λ b o e=>?_,?_,λ p hp=>?_,?_⟩
    .rw[Ai (Af e hld)];exact s2 b o (s1 b o e)
    .rw[Ac,List.map_append];rfl
    .rcases List.mem_append.mp hp with hp|hp
     .exact((hob p hp).same s2).kp k3
     .rw[List.mem_singleton.mp hp,Obj];exact⟨x,dx,rfl,k3 _ _ e2 (by intro xs z;cases z)⟩
    .rw[hdr,heq,Bn];rfl
   |c u k =>
    have big:2<=ws.length:=by
     have h1:=FR t ((ents t).take ((ents t).length-(i+1))) ((ents t).drop ((ents t).length-(i+1))) (List.take_append_drop _ _).symm (by rw[hdr];intro z;cases z);rw[hdr,heq,Gj,Gi]at h1;have:wt (.c u k)=-1:=rfl;lia
    obtain rfl|⟨ws1,p1,rfl⟩:=Dc ws
    .exact absurd big (by decide)
    obtain rfl|⟨ws2,p2,rfl⟩:=Dc ws1
    .exact absurd big (by simp)
    refine⟨a,_,rfl,SqT.of ha',rfl,_,_,rfl,_,_,rfl,rfl,?_⟩;refine⟨_,rfl,rfl,_,rfl,A5 (Bp u) ?_⟩;refine⟨_,rfl,.inl ⟨rfl,_,SqL.of hd⟩,ld,_,p1.1,rfl,rfl,hd,GW,?_⟩;rw[Hy];have k2:Kp H' (upd H' ld (.lst ((ws2++[p2]).map (·.1)))):=Kp.put hd;have s2:Same H (upd H' ld (.lst ((ws2++[p2]).map (·.1)))):=λ b o e=>by rw[Ai (Af e hld)];exact s1 b o e
    have d2:(upd H' ld (.lst ((ws2++[p2]).map (·.1)))) ld=some (.lst ((ws2++[p2]).map (·.1))):=Ac;generalize upd H' ld (.lst ((ws2++[p2]).map (·.1)))=H2 at k2 s2 d2 |-;refine⟨_,rfl,.inl ⟨rfl,_,SqL.of d2⟩,ld,_,p2.1,rfl,rfl,d2,GW,?_⟩;rw[Hy];have k3:Kp H2 (upd H2 ld (.lst (ws2.map (·.1)))):=Kp.put d2;have s3:Same H (upd H2 ld (.lst (ws2.map (·.1)))):=λ b o e=>by rw[Ai (Af e hld)];exact s2 b o e
    have d3:(upd H2 ld (.lst (ws2.map (·.1)))) ld=some (.lst (ws2.map (·.1))):=Ac;generalize upd H2 ld (.lst (ws2.map (·.1)))=H3 at k3 s3 d3 |-;have kk:=k2.trans k3;refine⟨_,rfl,.inl ⟨rfl,_,SqL.of d3⟩,_,rfl,_,rfl,_,rfl,_,rfl,u,k,p1.1,p2.1,p1.2,p2.2,rfl,(hob p1 (by simp)).kp kk,(hob p2 (by simp)).kp kk,λ v' H4 s4 o4=>?_⟩;have d4:=s4 _ _ d3;rw[List.length_append,List.length_append]at wl;refine⟨ld,_,v',rfl,rfl,d4,Au (by rw[List.length_map];lia),?_⟩;have k5:Kp H4 (upd H4 ld (.lst (ws2.map (·.1)++[v']))):=Kp.put d4;refine⟨ws2++[(v',.cut u k p1.2 p2.2)],_,_,_,_,rfl,λ b o e=>?_,?_,λ p hp=>?_,?_⟩
    .rw[Ai (Af e hld)];exact s4 b o (s3 b o e)
    .rw[Ac,List.map_append];rfl
    .rcases List.mem_append.mp hp with hp|hp
     .exact((((hob p (by simp[hp])).kp kk).same s4)).kp k5
     .rw[List.mem_singleton.mp hp];exact o4.kp k5
    .rw[hdr,heq,Bn,Bn,Bn];show .c u k::(ents p1.2++(ents p2.2++Dt ws2))=.c u k::(ents p1.2++ents p2.2)++Dt ws2;rw[List.cons_append,List.append_assoc]
  .rintro σ H' ⟨ws,x2,x3,x4,x5,rfl,s1,hd,hob,heq⟩;rw[hxl,Nat.sub_self,List.drop_zero]at heq;have one:ws.length=1:=by
    have h1:=BV t;rw[heq,Gi]at h1;lia
   obtain⟨p,rfl⟩:∃p,ws=[p]:=by
    match ws,one with
    |[p],_=>exact⟨p,rfl⟩
   have hp:=hob p (by simp);have et:p.2=t:=by
    have h1:ents t++[]=ents p.2++[]:=by
     rw[List.append_nil,heq];rfl
    exact(Hw _ _ _ _ h1).1.symm
   refine⟨_,rfl,.inl ⟨rfl,_,SqL.of hd⟩,ld,_,p.1,rfl,rfl,hd,rfl,?_⟩;rw[et]at hp;exact q _ _ (λ b o e=>by rw[Ai (Af e hld)];exact s1 b o e) (hp.kp (Kp.put hd))
abbrev Rk:=GB.Rc
abbrev Rk.vs(p:Rk):LUz:=[.int p.t,.int p.l,.int p.b,.int p.r]
def Rk.len(p:Rk)(u:Bool):Int:=if u then p.r-p.l else p.b-p.t
def Rk.fst(p:Rk)(u:Bool)(k:Int):Rk:=if u then ⟨p.t,p.l,p.b,p.l+k⟩ else ⟨p.t,p.l,p.t+k,p.r⟩
def Rk.oth(p:Rk)(u:Bool)(k:Int):Rk:=if u then ⟨p.t,p.l+k,p.b,p.r⟩ else ⟨p.t+k,p.l,p.b,p.r⟩
def FQ(p:Rk)(t:Tr):Prop:=Fit t (p.r-p.l) (p.b-p.t)
theorem EH{p:Rk}{u:Bool}{k:Int}{x y:Tr}:FQ p (.cut u k x y)↔(1<=k/\k<p.len u)/\FQ (p.fst u k) x/\FQ (p.oth u k) y:=by
 unfold FQ Rk.len Rk.fst Rk.oth;rw[Fit];cases u with
 |true =>
  show(1<=k/\k<p.r-p.l/\Fit x k (p.b-p.t)/\Fit y (p.r-p.l-k) (p.b-p.t))↔((1<=k/\k<p.r-p.l)/\Fit x (p.l+k-p.l) (p.b-p.t)/\Fit y (p.r-(p.l+k)) (p.b-p.t));rw[show p.l+k-p.l=k by lia,show p.r-(p.l+k)=p.r-p.l-k by lia];exact⟨λ⟨a,b,c,d⟩=>⟨⟨a,b⟩,c,d⟩,λ⟨⟨a,b⟩,c,d⟩=>⟨a,b,c,d⟩⟩
 |false =>
  show(1<=k/\k<p.b-p.t/\Fit x (p.r-p.l) k/\Fit y (p.r-p.l) (p.b-p.t-k))↔((1<=k/\k<p.b-p.t)/\Fit x (p.r-p.l) (p.t+k-p.t)/\Fit y (p.r-p.l) (p.b-(p.t+k)));rw[show p.t+k-p.t=k by lia,show p.b-(p.t+k)=p.b-p.t-k by lia];exact⟨λ⟨a,b,c,d⟩=>⟨⟨a,b⟩,c,d⟩,λ⟨⟨a,b⟩,c,d⟩=>⟨a,b,c,d⟩⟩
def Du:V->Bool
 |.int _=>true
 |_=>false
def Bq:V->Bool
 |.int i=>decide (1<=i)&&decide (i<=12)
 |_=>false
def Jh:LUz->Bool
 |[.int a,.int b,.int c,.int d]=>decide (0<=a)&&decide (a<c)&&(decide (0<=b)&&decide (b<d))
 |_=>false
def Ty(H:Hp)(v:V):Prop:=∃T,tyS H v=some T
theorem OM{H H':Hp}(s:Same H H'){v:V}{T:String}(h:tyS H v=some T):tyS H' v=some T:=by
 cases v with
 |ref a =>
  have h:tyO (H a)=some T:=h;show tyO (H' a)=some T;cases e:H a with
  |none=>rw[e]at h;cases h
  |some o=>rw[e]at h;rw[s a o e];exact h
 |_=>exact h
theorem Ty.same{H H':Hp}(s:Same H H'){v:V}(h:Ty H v):Ty H' v:=let ⟨T,e⟩:=h;⟨T,OM s e⟩
theorem KN{H:Hp}{v:V}{T:String}(h:tyS H v=some T):(isB T "int"=true->(!isB T "bool")=Du v)/\(isB T "int"=false->false=Du v):=by
 cases v with
 |non=>cases h;exact⟨λ z=>absurd z (by decide),λ_=>rfl⟩
 |bl b=>cases h;exact⟨λ_=>by show(!isB "bool" "bool")=false;decide,λ z=>absurd z (by decide)⟩
 |int i=>cases h;exact⟨λ_=>by show(!isB "int" "bool")=true;decide,λ z=>absurd z (by decide)⟩
 |str x=>cases h;exact⟨λ z=>absurd z (by decide),λ_=>rfl⟩
 |byt b=>cases h
 |flt b=>cases h
 |ty n=>cases h
 |ref a =>
  have key:T="list"\/T="tuple"\/T="dict":=by
   have h:tyO (H a)=some T:=h;unfold tyO at h;split at h<;>first|(cases h;simp)|cases h
  rcases key with rfl|rfl|rfl<;>exact⟨λ z=>absurd z (by decide),λ_=>rfl⟩
theorem RL{H:Hp}{a:Addr}{xs:LUz}(h:H a=some (.tup xs)):tyS H (.ref a)=some "tuple":=by
 show tyO (H a)=some "tuple";rw[h];rfl
theorem RM{H:Hp}{a:Addr}{xs:LUz}(h:H a=some (.lst xs)):tyS H (.ref a)=some "list":=by
 show tyO (H a)=some "list";rw[h];rfl
abbrev DD(a b c d:Int):LUz:=[.int a,.int b,.int c,.int d]
def T6(a0 a1 a2 a3 o0 o1 o2 o3:Int):Bool:=decide (o0<=a0)&&decide (o1<=a1)&&(decide (a2<=o2)&&decide (a3<=o3))
def BQ:Tr->Int->Int->Option Int
 |.whole _,_,_=>none
 |.cut u k x y,w,h=>if u then (if 1<=k/\k<w then (BQ x k h).or (BQ y (w-k) h) else some k) else (if 1<=k/\k<h then (BQ x w k).or (BQ y w (h-k)) else some k)
theorem bad_none:∀{t:Tr}{w h:Int},BQ t w h=none↔Fit t w h
 |.whole _,w,h=>by rw[BQ,Fit];exact⟨λ_=>trivial,λ_=>rfl⟩
 |.cut u k x y,w,h=>by
  rw[BQ,Fit];cases u with
  |true =>
   simp only[if_true];by_cases c:1<=k/\k<w
   .rw[if_pos c,Option.or_eq_none_iff,bad_none,bad_none];exact⟨λ⟨a,b⟩=>⟨c.1,c.2,a,b⟩,λ⟨_,_,a,b⟩=>⟨a,b⟩⟩
   .rw[if_neg c];exact⟨λ z=>(nomatch z),λ⟨a,b,_⟩=>absurd ⟨a,b⟩ c⟩
  |false =>
   simp only[Bool.false_eq_true,if_false];by_cases c:1<=k/\k<h
   .rw[if_pos c,Option.or_eq_none_iff,bad_none,bad_none];exact⟨λ⟨a,b⟩=>⟨c.1,c.2,a,b⟩,λ⟨_,_,a,b⟩=>⟨a,b⟩⟩
   .rw[if_neg c];exact⟨λ z=>(nomatch z),λ⟨a,b,_⟩=>absurd ⟨a,b⟩ c⟩
def OA(p:Rk)(t:Tr):Option Int:=BQ t (p.r-p.l) (p.b-p.t)
theorem Ql{p:Rk}{u:Bool}{k:Int}{x y:Tr}:OA p (.cut u k x y)=if 1<=k/\k<p.len u then (OA (p.fst u k) x).or (OA (p.oth u k) y) else some k:=by
 unfold OA Rk.len Rk.fst Rk.oth;rw[BQ];cases u with
 |true =>
  show(if 1<=k/\k<p.r-p.l then (BQ x k (p.b-p.t)).or (BQ y (p.r-p.l-k) (p.b-p.t)) else some k)=(if 1<=k/\k<p.r-p.l then (BQ x (p.l+k-p.l) (p.b-p.t)).or (BQ y (p.r-(p.l+k)) (p.b-p.t)) else some k);rw[show p.l+k-p.l=k by lia,show p.r-(p.l+k)=p.r-p.l-k by lia]
 |false =>
  show(if 1<=k/\k<p.b-p.t then (BQ x (p.r-p.l) k).or (BQ y (p.r-p.l) (p.b-p.t-k)) else some k)=(if 1<=k/\k<p.b-p.t then (BQ x (p.r-p.l) (p.t+k-p.t)).or (BQ y (p.r-p.l) (p.b-(p.t+k))) else some k);rw[show p.t+k-p.t=k by lia,show p.b-(p.t+k)=p.b-p.t-k by lia]
def BC:Tr->Rk->List (Rk×Option Int)
 |.whole m,p=>[(p,m)]
 |.cut u k x y,p=>BC x (p.fst u k)++BC y (p.oth u k)
theorem Hj:∀(t:Tr)(p:Rk),(BC t p).length=t.sz
 |.whole _,_=>rfl
 |.cut u k x y,p=>by rw[BC,List.length_append,Hj x,Hj y];rfl
theorem OX:∀t:Tr,t.sz<=t.nd
 |.whole _=>Nat.le_refl _
 |.cut _ _ x y=>by
  have:=OX x;have:=OX y;rw[Tr.sz,Tr.nd];lia
theorem BJ:∀{t:Tr}{p:Rk},p.t<p.b->p.l<p.r->FQ p t->∀g∈BC t p,p.t<=g.1.t/\g.1.t<g.1.b/\g.1.b<=p.b/\p.l<=g.1.l/\g.1.l<g.1.r/\g.1.r<=p.r
 |.whole m,p,h1,h2,_,g,hg=>by
  rw[BC]at hg;rw[List.mem_singleton.mp hg];exact⟨Int.le_refl _,h1,Int.le_refl _,Int.le_refl _,h2,Int.le_refl _⟩
 |.cut u k x y,p,h1,h2,f,g,hg=>by
  rw[EH]at f;obtain⟨⟨a,b⟩,fx,fy⟩:=f;rw[BC,List.mem_append]at hg;cases u with
  |true =>
   have b:k<p.r-p.l:=b;rcases hg with hg|hg
   .have:=BJ (p:=p.fst true k) h1 (show p.l<p.l+k by lia) fx g hg;have:p.t<=g.1.t/\g.1.t<g.1.b/\g.1.b<=p.b/\p.l<=g.1.l/\g.1.l<g.1.r/\g.1.r<=p.l+k:=this;lia
   .have:=BJ (p:=p.oth true k) h1 (show p.l+k<p.r by lia) fy g hg;have:p.t<=g.1.t/\g.1.t<g.1.b/\g.1.b<=p.b/\p.l+k<=g.1.l/\g.1.l<g.1.r/\g.1.r<=p.r:=this;lia
  |false =>
   have b:k<p.b-p.t:=b;rcases hg with hg|hg
   .have:=BJ (p:=p.fst false k) (show p.t<p.t+k by lia) h2 fx g hg;have:p.t<=g.1.t/\g.1.t<g.1.b/\g.1.b<=p.t+k/\p.l<=g.1.l/\g.1.l<g.1.r/\g.1.r<=p.r:=this;lia
   .have:=BJ (p:=p.oth false k) (show p.t+k<p.b by lia) h2 fy g hg;have:p.t+k<=g.1.t/\g.1.t<g.1.b/\g.1.b<=p.b/\p.l<=g.1.l/\g.1.l<g.1.r/\g.1.r<=p.r:=this;lia
def Due(t:Tr)(ww hh:Int)(L:List (Rk×Option Int)):Prop:=L.Perm (BC t ⟨0,0,hh,ww⟩)/\(L.map λ g=>GB.key g.1.ls).Pairwise (·<=·)
theorem Ro{t:Tr}{ww hh:Int}(f:Fit t ww hh):FQ ⟨0,0,hh,ww⟩ t:=by
 show Fit t (ww-0) (hh-0);rw[Int.sub_zero,Int.sub_zero];exact f
theorem N5{t:Tr}{ww hh:Int}(w1:1<=ww)(h1:1<=hh)(f:Fit t ww hh):∀g∈BC t ⟨0,0,hh,ww⟩,GB.Rc.In ww hh g.1:=λ g hg=>by
 have:0<=g.1.t/\g.1.t<g.1.b/\g.1.b<=hh/\0<=g.1.l/\g.1.l<g.1.r/\g.1.r<=ww:=BJ (p:=⟨0,0,hh,ww⟩) (show(0:Int)<hh by lia) (show(0:Int)<ww by lia) (Ro f) g hg;exact⟨this.1,this.2.1,this.2.2.1,this.2.2.2.1,this.2.2.2.2.1,this.2.2.2.2.2⟩
theorem Due.len{t:Tr}{ww hh:Int}{L:List (Rk×Option Int)}(h:Due t ww hh L):L.length=t.sz:=by rw[h.1.length_eq,Hj]
abbrev PT:=Addr×Addr×Rk×Option Int
abbrev pcs(ts:List PT):LUz:=ts.map λ t=>V.ref t.1
abbrev cons(ts:List PT):List (Rk×Option Int):=ts.map λ t=>t.2.2
def PcO(H:Hp)(ts:List PT):Prop:=∀t∈ts,H t.1=some (.tup [.ref t.2.1,Ba t.2.2.2])/\H t.2.1=some (.tup t.2.2.1.vs)
theorem PcO.same{H H':Hp}{ts:List PT}(s:Same H H')(h:PcO H ts):PcO H' ts:=λ t ht=>⟨s _ _ (h t ht).1,s _ _ (h t ht).2⟩
theorem PcO.n{H H':Hp}{ts:List PT}(s:SameN H H')(h:PcO H ts):PcO H' ts:=λ t ht=>⟨s.tup (h t ht).1,s.tup (h t ht).2⟩
theorem PcO.perm{H:Hp}{ts us:List PT}(h:PcO H ts)(e:us.Perm ts):PcO H us:=λ t ht=>h t (e.mem_iff.mp ht)
abbrev IsT(cW cU cL:Addr)(C:Addr):Prop:=C=cW\/C=cU\/C=cL
theorem Kj{H:Hp}{t:Tr}{v:V}(h:Obj cW cU cL H t v):∃C a dx fs,IsT cW cU cL C/\v=.ref a/\H a=some (.ins C dx fs)/\(∀m:Str,m≠"mark"->m≠"at"->m≠"first"->m≠"other"->fs.lookup m=none):=by
 cases t with
 |whole m =>
  rw[Obj]at h;obtain⟨a,dx,rfl,h⟩:=h;exact⟨cW,a,dx,_,.inl rfl,rfl,h,λ m h1 _ _ _=>by rw[Ay,if_neg (by first|exact h1|exact h1.symm)];rfl⟩
 |cut u k x y =>
  rw[Obj]at h;obtain⟨a,dx,vx,vy,rfl,h,_,_⟩:=h;exact⟨Hz cU cL u,a,dx,_,(by cases u;exact .inr (.inr rfl);exact .inr (.inl rfl)),rfl,h,λ m _ h2 h3 h4=>by
   rw[Ay,if_neg (by first|exact h4|exact h4.symm),Ay,if_neg (by first|exact h3|exact h3.symm),Ay,if_neg (by first|exact h2|exact h2.symm)];rfl⟩
theorem ME{α:Type}{us:List α}(h:us.length=1):∃a,us=[a]:=List.length_eq_one_iff.mp h
theorem Sw{α:Type}{us:List α}(h:us.length=2):∃a b,us=[a,b]:=by
 cases us with
 |nil=>cases h
 |cons a r=>obtain⟨b,rfl⟩:=ME (Nat.succ.inj h);exact⟨a,b,rfl⟩
def At(H:Hp)(ts:List (Addr×Rc)):Prop:=∀t∈ts,H t.1=some (.tup (DD t.2.t t.2.l t.2.b t.2.r))
theorem At.same{H H':Hp}{ts:List (Addr×Rc)}(a:At H ts)(s:Same H H'):At H' ts:=λ t h=>s _ _ (a t h)
abbrev Cl(ts:List (Addr×Rc)):LUz:=ts.map λ t=>V.ref t.1
abbrev rcs(ts:List (Addr×Rc)):List Rc:=ts.map (·.2)
theorem Jg(us:List (Addr×Rc))(x:Addr×Rc):Cl (us++[x])=Cl us++[V.ref x.1]:=by simp
theorem G2{ts:List (Addr×Rc)}{i:Nat}{x:V}(h:(Cl ts)[i]?=some x):∃t,ts[i]?=some t/\x=.ref t.1:=by
 rw[List.getElem?_map]at h;cases e:ts[i]? with
 |none=>rw[e]at h;cases h
 |some t=>rw[e]at h;exact⟨t,rfl,(Option.some.inj h).symm⟩
def Hn(w h:Int)(ls ld:Addr):LFz:=Be "by_square" (.ref ld) (Be "sorted_panes" (.ref ls) (Be "height" (.int h) (Be "width" (.int w) [])))
theorem SH(w h:Int)(ls ld:Addr):(Hn w h ls ld).lookup ("sorted_panes":Str)=some (.ref ls):=by
 unfold Hn;rw[Ay,if_neg (by decide +kernel),Ay,if_pos rfl]
theorem SI(w h:Int)(ls ld:Addr):(Hn w h ls ld).lookup ("by_square":Str)=some (.ref ld):=by
 unfold Hn;rw[Ay,if_pos rfl]
theorem N8(w h:Int)(ls ld:Addr){m:Str}(h1:¬m="by_square")(h2:¬m="sorted_panes")(h3:¬m="height")(h4:¬m="width"):(Hn w h ls ld).lookup m=none:=by
 unfold Hn;rw[Ay,if_neg h1,Ay,if_neg h2,Ay,if_neg h3,Ay,if_neg h4];rfl
abbrev sqK(r c:Int):List Key:=[Sum.inl r,Sum.inl c]
theorem FT{r c r' c':Int}(h:sqK r c=sqK r' c'):r=r'/\c=c':=by
 injection h with h1 h2;injection h2 with h2 _;exact⟨Sum.inl.inj h1,Sum.inl.inj h2⟩
structure PanelAt(C:Addr)(H:Hp)(a:Addr)(w h:Int)(ts:List (Addr×Rc))(dx ls ld:Addr)(kvs:LKz):Prop where
 ob:H a=some (.ins C dx (Hn w h ls ld))
 lst:H ls=some (.lst (Cl ts))
 dic:H ld=some (.dT kvs)
 ats:At H ts
 til:GB.Tiles w h (rcs ts)
 few:ts.length<=52
 srt:Srt (rcs ts)
 look:∀r c,0<=r->r<h->0<=c->c<w->∃t∈ts,Bd kvs (sqK r c)=some (.ref t.1)/\t.2.has r c
 sw:1<=w/\w<=12
 sh:1<=h/\h<=12
theorem PanelAt.same{C:Addr}{H H':Hp}{a:Addr}{w h:Int}{ts:List (Addr×Rc)}{dx ls ld:Addr}{kvs:LKz}(p:PanelAt C H a w h ts dx ls ld kvs)(s:Same H H'):PanelAt C H' a w h ts dx ls ld kvs :=
 ⟨s _ _ p.ob,s _ _ p.lst,s _ _ p.dic,p.ats.same s,p.til,p.few,p.srt,p.look,p.sw,p.sh⟩
def rcD(p:Rc):D:=.tup (.cons (.at (.int p.t)) (.cons (.at (.int p.l)) (.cons (.at (.int p.b)) (.cons (.at (.int p.r)) .nil))))
def G3:List Rc->Ds
 |[]=>.nil
 |p::r=>.cons (rcD p) (G3 r)
theorem D4{K:Frag}{H:Hp}{a:Addr}{p:Rc}(h:H a=some (.tup (DD p.t p.l p.b p.r))):DIs K H (rcD p) (.ref a):=by
 unfold rcD;rw[DIs];refine⟨a,_,rfl,SqT.of h,?_⟩;rw[DIss];refine⟨_,_,rfl,by rw[DIs];exact⟨rfl,rfl⟩,?_⟩;rw[DIss];refine⟨_,_,rfl,by rw[DIs];exact⟨rfl,rfl⟩,?_⟩;rw[DIss];refine⟨_,_,rfl,by rw[DIs];exact⟨rfl,rfl⟩,?_⟩;rw[DIss];refine⟨_,_,rfl,by rw[DIs];exact⟨rfl,rfl⟩,?_⟩;rw[DIss]
theorem Nu{K:Frag}{H:Hp}:∀{ts:List (Addr×Rc)},At H ts->DIss K H (G3 (rcs ts)) (Cl ts)
 |[],_=>by rw[show G3 (rcs [])=.nil from rfl,DIss];rfl
 |t::r,h=>by
  show DIss K H (.cons (rcD t.2) (G3 (rcs r))) (V.ref t.1::Cl r);rw[DIss];exact⟨_,_,rfl,D4 (h t List.mem_cons_self),Nu λ u hu=>h u (List.mem_cons_of_mem _ hu)⟩
theorem Nv(p:Rc):dep (rcD p)=1:=by
 unfold rcD;simp[dep,BL]
theorem Le:∀ps:List Rc,BL (G3 ps)<=1
 |[]=>by rw[show G3 []=.nil from rfl,BL];lia
 |p::r=>by
  have:=Le r;show BL (.cons (rcD p) (G3 r))<=1;rw[BL,Nv];lia
theorem GU{K:Frag}{H:Hp}{l:Addr}{ts:List (Addr×Rc)}(h:SqL K H l (Cl ts))(a:At H ts):DIs K H (.lst (G3 (rcs ts))) (.ref l):=by
 rw[DIs];exact⟨l,_,rfl,h,Nu a⟩
theorem Op(ps:List Rc):dep (.lst (G3 ps))<=50:=by
 have:=Le ps;rw[dep];lia
theorem G4(p:Rc):dep (rcD p)<=50:=by rw[Nv];decide
def E5:Sp:=λ vs H Q _=>∃v,vs=[v]/\Ty H v/\Q (.bl (Du v)) H
def Nh:Sp:=λ vs H Q _=>∃v,vs=[v]/\Ty H v/\Q (.bl (Bq v)) H
def Ni:Sp:=λ vs H Q _=>∃v,vs=[v]/\((∃a xs,v=.ref a/\H a=some (.tup xs)/\xs.length<=100/\(∀x∈xs,Ty H x)/\∀H',Same H H'->Q (.bl (Jh xs)) H')\/∃T,tyS H v=some T/\T≠"tuple"/\Q (.bl false) H)
def Jc:Sp:=λ vs H Q _=>∃a b a0 a1 a2 a3 o0 o1 o2 o3,vs=[.ref a,.ref b]/\H a=some (.tup (DD a0 a1 a2 a3))/\H b=some (.tup (DD o0 o1 o2 o3))/\Q (.bl (T6 a0 a1 a2 a3 o0 o1 o2 o3)) H
inductive F8(vs:LUz)(H:Hp)(Q:VK)(E:XK):Prop
 |mk (a:Addr) (p:Rc) (h0:vs=[.ref a]) (h1:H a=some (.tup (DD p.t p.l p.b p.r))) (h2:0<=p.t) (h3:p.t<=p.b) (h4:p.b<=12) (h5:0<=p.l) (h6:p.l<=p.r) (h7:p.r<=12) (h8:∀(l:Addr)(sq:List (Addr×(Int×Int)))(H':Hp),Same H H'->H l=none->H' l=some (.lst (sq.map λ s=>V.ref s.1))->(∀s∈sq,H' s.1=some (.tup [.int s.2.1,.int s.2.2]))->sq.map (·.2)=sqs p->Q (.ref l) H'):F8 vs H Q E
def Ea:Sp:=λ vs H Q E=>F8 vs H Q E
inductive DW(K:Frag)(vs:LUz)(H:Hp)(Q:VK)(E:XK):Prop
 |mk (l:Addr) (w h:Int) (ts:List (Addr×Rc)) (h0:vs=[.ref l]) (h1:SqL K H l (Cl ts)) (h2:At H ts) (h3:(∀p∈rcs ts,p.In w h)) (h4:(rcs ts).Pairwise Apart) (h5:ts.length<=52) (h6:w<=12) (h7:h<=12) (h8:∀(d:Addr)(kvs:LKz)(H':Hp),Same H H'->H d=none->H' d=some (.dT kvs)->(∀t∈ts,∀r c,t.2.has r c->Bd kvs (sqK r c)=some (.ref t.1))->Q (.ref d) H'):DW K vs H Q E
def E6(K:Frag) :Sp:=λ vs H Q E=>DW K vs H Q E
inductive C0(vs:LUz)(H:Hp)(Q:VK)(E:XK):Prop
 |mk (d sh:Addr) (w h:Int) (kvs:LKz) (h0:vs=[.ref d,.ref sh]) (h1:H d=some (.dT kvs)) (h2:H sh=some (.tup (DD 0 0 h w))) (h3:(1<=w/\w<=12)) (h4:(1<=h/\h<=12)) (h5:(∀r c,0<=r->r<h->0<=c->c<w->Bd kvs (sqK r c)≠none)) (h6:∀H',Same H H'->Q .non H'):C0 vs H Q E
def CQ:Sp:=λ vs H Q E=>C0 vs H Q E
inductive JJ(C:Addr)(vs:LUz)(H:Hp)(Q:VK)(E:XK):Prop
 |mk (a dx ls ld:Addr) (w h:Int) (ts:List (Addr×Rc)) (kvs:LKz) (h0:vs=[.ref a]) (h1:PanelAt C H a w h ts dx ls ld kvs) (h2:∀l,H l=none->Q (.ref l) (upd H l (.lst (Cl ts)))):JJ C vs H Q E
def KY(C:Addr) :Sp:=λ vs H Q E=>JJ C vs H Q E
inductive FA(C:Addr)(vs:LUz)(H:Hp)(Q:VK)(E:XK):Prop
 |mk (a dx ls ld:Addr) (w h r c:Int) (u:Addr) (kvs:LKz) (h0:vs=[.ref a,.int r,.int c]) (h1:H a=some (.ins C dx (Hn w h ls ld))) (h2:Rd H ld (.dT kvs)) (h3:Bd kvs (sqK r c)=some (.ref u)) (h4:∀H',Same H H'->Q (.ref u) H'):FA C vs H Q E
def Gu(C:Addr) :Sp:=λ vs H Q E=>FA C vs H Q E
structure Qt(K:Frag)(C:Addr):Prop where
 cl:Cls K C
 n_width:NoAttr K C "width"
 n_height:NoAttr K C "height"
 n_sorted_panes:NoAttr K C "sorted_panes"
 n_by_square:NoAttr K C "by_square"
theorem MW:Al ["thing"] ["thing"] (Ah Ef):=fsc
theorem Lo{f:Addr}{fd:FuncData}(F:Fun K "is_whole" "is_whole" Ef f fd)(T:Txt mg tk):A9 P w K mg base CX0 1 f fd ["thing"] E5:=by
 have S:=MW;refine F.ok S (λ vs H Q E h=>?_) (λ cdv A outer s H vs Q E hr h=>?_)
 .obtain⟨v,rfl,_⟩:=h;rfl
 .obtain⟨v,rfl,⟨T',hT⟩,q⟩:=h;refine⟨_,(Ag (An (Fi (A3 CY rfl T.z_isinstance rfl (Aa (pv 0) (Aa (EC (v:=.ty "int") rfl T.z_int rfl rfl) Ab))) (G8 (Sh (A3 CY rfl T.z_isinstance rfl (Aa (pv 0) (Aa (EC (v:=.ty "bool") rfl T.z_bool rfl rfl) Ab)))))))),?_⟩;refine⟨v,rfl,v,T',"int",rfl,hT,.inl rfl,_,rfl,BB (λ h=>?_) (λ h=>?_)⟩
  .refine⟨v,rfl,v,T',"bool",rfl,hT,.inr (.inl rfl),_,rfl,?_⟩;rw[(KN hT).1 h];exact q
  .show Q (.bl false) H;rw[(KN hT).2 h];exact q
theorem OE:Al ["thing"] ["thing"] (Ah Fc):=fsc
theorem Mz{f:Addr}{fd:FuncData}(F:Fun K "is_side" "is_side" Fc f fd)(T:Txt mg tk)(D_is_whole:AC P w K mg base 1 "is_whole" ["thing"] E5):A9 P w K mg base CX0 2 f fd ["thing"] Nh:=by
 have S:=OE;refine F.ok S (λ vs H Q E h=>?_) (λ cdv A outer s H vs Q E hr h=>?_)
 .obtain⟨v,rfl,_⟩:=h;rfl
 .obtain⟨v,rfl,hv,q⟩:=h;refine⟨_,(Ag (An (Fi (A0 D_is_whole hr (Aa (pv 0) Ab)) (G8 (G9 Cj Cj Ae (pv 0) (A7 (v:=.int 12) rfl T.g_LONGEST_SIDE ⟨_,rfl⟩)))))),?_⟩;refine⟨v,rfl,v,rfl,hv,_,rfl,BB (λ h=>?_) (λ h=>?_)⟩
  .obtain⟨i,rfl⟩:∃i,v=.int i:=by cases v<;>first|exact⟨_,rfl⟩|cases h
   refine⟨_,rfl,_,_,rfl,rfl,_,rfl,BB (λ h1=>?_) (λ h1=>?_)⟩
   .refine⟨_,_,rfl,rfl,?_⟩;have e:Bq (.int i)=decide (i<=12):=by
     show(decide (1<=i)&&decide (i<=12))=_;rw[h1];rfl
    show Q (.bl (decide (i<=12))) H;rw[<-e];exact q
   .have e:Bq (.int i)=false:=by
     show(decide (1<=i)&&decide (i<=12))=_;rw[h1];rfl
    show Q (.bl false) H;rw[<-e];exact q
  .have e:Bq v=false:=by cases v<;>first|rfl|cases h
   show Q (.bl false) H;rw[<-e];exact q
theorem Rl:∀{xs:LUz},xs.length=4->(xs.map Du).all id=true->∃a b c d,xs=DD a b c d
 |[x0,x1,x2,x3],_,h=>by
  simp only[List.map_cons,List.map_nil,List.all_cons,List.all_nil,id,Bool.and_true,Bool.and_eq_true]at h;obtain⟨h0,h1,h2,h3⟩:=h;have g:∀{x:V},Du x=true->∃i,x=.int i:=λ{x} h=>by cases x<;>first|exact⟨_,rfl⟩|cases h
  obtain⟨a,rfl⟩:=g h0;obtain⟨b,rfl⟩:=g h1;obtain⟨c,rfl⟩:=g h2;obtain⟨d,rfl⟩:=g h3;exact⟨a,b,c,d,rfl⟩
theorem Nt{xs:LUz}(h:∀a b c d,xs≠DD a b c d):Jh xs=false:=by
 unfold Jh;split
 .exact absurd rfl (h _ _ _ _)
 .rfl
theorem U4{n:Nat}:(!decide (V.int (n:Int)=V.int 4))=true->n≠4:=λ h e=>by
 subst e;have:decide (V.int ((4:Nat):Int)=V.int 4)=true:=decI.mpr rfl;rw[this]at h;cases h
theorem TL{n:Nat}:(!decide (V.int (n:Int)=V.int 4))=false->n=4:=λ h=>by
 have e:decide (V.int (n:Int)=V.int 4)=true:=by
  cases z:decide (V.int (n:Int)=V.int 4) with
  |true=>rfl
  |false=>rw[z]at h;cases h
 have:=decI.mp e;lia
theorem NU{xs:LUz}{i:Nat}{x:V}(h:xs[i]?=some x){f:V->V}:(xs.take i).map f++[f x]=(xs.take (i+1)).map f:=by
 rw[List.take_succ,h,List.map_append];rfl
theorem HM:Al ["thing"] ["thing"] (Ah Cp):=fsc
theorem FH{f:Addr}{fd:FuncData}(F:Fun K "is_rectangle" "is_rectangle" Cp f fd)(T:Txt mg tk)(D_is_whole:AC P w K mg base 1 "is_whole" ["thing"] E5):A9 P w K mg base CX0 2 f fd ["thing"] Ni:=by
 have S:=HM;refine F.ok S (λ vs H Q E h=>?_) (λ cdv A outer s H vs Q E hr h=>?_)
 .obtain⟨v,rfl,_⟩:=h;rfl
 .obtain⟨v,rfl,h⟩:=h;refine⟨_,(Ad (A6 (PW.pt (Ca (BG (BO (A3 CY rfl T.z_isinstance rfl (Aa (pv 0) (Aa (EC (v:=.ty "tuple") rfl T.z_tuple rfl rfl) Ab))))) (Cg (Ak Fy (A3 AD rfl T.z_len rfl (Aa (pv 0) Ab)) Ae (Am _))))) (Ag (An CS)) Ao)
   (Ad (A6 (BG (BO (A3 HG rfl T.z_all rfl (Aa (Cy rfl (Pq (pv 0)) (λ_ _ _ _ _=>(Aq (i:=0) (show List.Nodup (["part"]:LSz) from by decide +kernel) rfl (Or.inl rfl))) (λ_ _ _ _ _=>(A0 D_is_whole hr (Aa (pv 0) Ab))) (N:=["part"]) (fr:=[none])) Ab)))) (Ag (An CS)) Ao)
   (Ag (An (Fi (G9 Cj ED Ae (Ap Ar (pv 0) Ae (λ_ _=>rfl)) (Ap Ar (pv 0) Ae (λ_ _=>rfl))) (G8 (G9 Cj ED Ae (Ap Ar (pv 0) Ae (λ_ _=>rfl)) (Ap Ar (pv 0) Ae (λ_ _=>rfl))))))))),?_⟩
  rcases h with ⟨a,xs,rfl,ha,hlen,hx,q⟩|⟨T',hT,hne,q⟩
  .refine⟨_,rfl,_,"tuple","tuple",rfl,RL ha,.inr (.inr (.inl rfl)),_,rfl,A5 (by rw[SB];rfl) ?_⟩;refine⟨_,rfl,a,xs,rfl,.inr (SqT.of ha),rfl,_,rfl,BB (λ h=>?_) (λ h=>?_)⟩
   .have e:Jh xs=false:=Nt λ a b c d z=>U4 h (by rw[z];rfl);show Q (.bl false) H;rw[<-e];exact q H (Same.refl H)
   .have h4:=TL h;refine⟨_,rfl,a,rfl,⟨xs,SqT.of ha⟩,λ acc hacc=>Qf (K:=K) (a:=a) (ys:=xs) (λ i zs σ H'=>(∃y,σ=[y])/\Same H H'/\zs=(xs.take i).map λ x=>V.bl (Du x)) ⟨⟨none,rfl⟩,Same.new hacc,rfl⟩
     (λ i zs σ H' _ _ hp=>SqT.of (hp.2.1 _ _ ha)) ?_ ?_⟩
    .rintro i x zs σ H' hxi hi hl hacc' ⟨⟨y,rfl⟩,hs,hzs⟩;refine⟨x,rfl,x,rfl,(hx x (List.mem_of_getElem? hxi)).same hs,cNx.mk (Nat.le_of_lt (Au (by lia))) hi hl hacc' ⟨⟨_,rfl⟩,λ b o e=>?_,?_⟩⟩
     .rw[Ai (Af e hacc)];exact hs b o e
     .rw[hzs];exact NU (f:=λ x=>V.bl (Du x)) hxi
    .rintro zs σ H' hl hacc' ⟨_,hs,hzs⟩;refine⟨acc,xs.map Du,rfl,SqL.of (by rw[hacc',hzs,List.take_length,List.map_map];rfl),rfl,_,rfl,BB (λ h=>?_) (λ h=>?_)⟩
     .have e:Jh xs=false:=Nt λ a b c d z=>by subst z;cases h
      show Q (.bl false) H';rw[<-e];exact q H' hs
     .obtain⟨a0,a1,a2,a3,rfl⟩:=Rl h4 (by simpa using h);have ha':=hs _ _ ha;have key:Q (.bl (decide (0<=a0)&&decide (a0<a2)&&(decide (0<=a1)&&decide (a1<a3)))) H':=q H' hs;refine⟨_,rfl,a,_,_,_,rfl,rfl,SqT.of ha',at0,_,_,rfl,rfl,_,rfl,BB (λ h1=>?_) (λ h1=>?_)⟩
      .refine⟨_,rfl,a,_,_,_,rfl,rfl,SqT.of ha',at2,_,_,rfl,rfl,_,rfl,BB (λ h2=>?_) (λ h2=>?_)⟩
       .refine⟨_,rfl,a,_,_,_,rfl,rfl,SqT.of ha',at1,_,_,rfl,rfl,_,rfl,BB (λ h3=>?_) (λ h3=>?_)⟩
        .refine⟨_,rfl,a,_,_,_,rfl,rfl,SqT.of ha',at3,_,_,rfl,rfl,?_⟩;rw[h1,h2,h3]at key;exact key
        .show Q (.bl false) H';rw[h1,h2,h3]at key;exact key
       .show Q (.bl false) H';rw[h1,h2]at key;exact key
      .refine⟨_,rfl,MF ?_⟩;show Q (.bl false) H';rw[h1]at key;exact key
  .refine⟨_,rfl,_,T',"tuple",rfl,hT,.inr (.inr (.inl rfl)),_,rfl,AT ?_ (Ra q)⟩;have e:isB T' "tuple"=false:=by
    unfold isB;rw[decide_eq_false hne];simp
   rw[e];rfl
theorem Qp:Al ["one","other","starts_within"] ["one","other"] (Ah Gz):=fsc
theorem Oi{f:Addr}{fd:FuncData}(F:Fun K "inside" "inside" Gz f fd):A9 P w K mg base CX0 1 f fd ["one","other"] Jc:=by
 have S:=Qp;refine F.ok S (λ vs H Q E h=>?_) (λ cdv A outer s H vs Q E hr h=>?_)
 .obtain⟨a,b,a0,a1,a2,a3,o0,o1,o2,o3,rfl,_⟩:=h;rfl
 .obtain⟨a,b,a0,a1,a2,a3,o0,o1,o2,o3,rfl,ha,hb,q⟩:=h;refine⟨_,(Ad (As (i:=2) S.nd rfl (Or.inl rfl) (Fi (BU Cj (Ap Ar (pv 1) Ae (λ_ _=>rfl)) (Ap Ar (pv 0) Ae (λ_ _=>rfl)) (Am _)) (G8 (BU Cj (Ap Ar (pv 1) Ae (λ_ _=>rfl)) (Ap Ar (pv 0) Ae (λ_ _=>rfl)) (Am _)))))
   (Ag (An (Fi (pv 2) (Fi (BU Cj (Ap Ar (pv 0) Ae (λ_ _=>rfl)) (Ap Ar (pv 1) Ae (λ_ _=>rfl)) (Am _)) (G8 (BU Cj (Ap Ar (pv 0) Ae (λ_ _=>rfl)) (Ap Ar (pv 1) Ae (λ_ _=>rfl)) (Am _)))))))),?_⟩
  have key:Q (.bl (decide (o0<=a0)&&decide (o1<=a1)&&(decide (a2<=o2)&&decide (a3<=o3)))) H:=q;refine⟨_,rfl,b,_,_,_,rfl,rfl,SqT.of hb,at0,_,rfl,a,_,_,_,rfl,rfl,SqT.of ha,at0,_,_,rfl,rfl,_,rfl,BB (λ h1=>?_) (λ h1=>?_)⟩
  .refine⟨_,rfl,b,_,_,_,rfl,rfl,SqT.of hb,at1,_,rfl,a,_,_,_,rfl,rfl,SqT.of ha,at1,_,_,rfl,rfl,?_⟩;refine⟨_,rfl,_,rfl,BB (λ h2=>?_) (λ h2=>?_)⟩
   .refine⟨_,rfl,a,_,_,_,rfl,rfl,SqT.of ha,at2,_,rfl,b,_,_,_,rfl,rfl,SqT.of hb,at2,_,_,rfl,rfl,_,rfl,BB (λ h3=>?_) (λ h3=>?_)⟩
    .refine⟨_,rfl,a,_,_,_,rfl,rfl,SqT.of ha,at3,_,rfl,b,_,_,_,rfl,rfl,SqT.of hb,at3,_,_,rfl,rfl,?_⟩;rw[h1,h2,h3]at key;exact key
    .show Q (.bl false) H;rw[h1,h2,h3]at key;exact key
   .show Q (.bl false) H;rw[h1,h2]at key;exact key
  .refine⟨_,rfl,_,rfl,MF ?_⟩;show Q (.bl false) H;rw[h1]at key;exact key
theorem K6:Al ["rectangle","squares","row","column"] ["rectangle"] (Ah De):=fsc
theorem P8{i m:Nat}(h1:i<=12)(h2:m<=12):i*m<=144:=Nat.mul_le_mul h1 h2
theorem Ig{f:Addr}{fd:FuncData}(F:Fun K "squares_of" "squares_of" De f fd)(T:Txt mg tk):A9 P w K mg base CX0 1 f fd ["rectangle"] Ea:=by
 have S:=K6;refine F.ok S (λ vs H Q E h=>?_) (λ cdv A outer s H vs Q E hr h=>?_)
 .obtain⟨a,p,rfl,_⟩:=h;rfl
 .obtain⟨a,p,rfl,ha,g1,g2,g3,g4,g5,g6,q⟩:=h;refine⟨_,(Ad (As (i:=1) S.nd rfl (Or.inl rfl) (AV Ab))
   (Ad (B7 PassesOwn.never rfl (DP rfl T.z_range (Aa (Ap Ar (pv 0) Ae (λ_ _=>rfl)) (Aa (Ap Ar (pv 0) Ae (λ_ _=>rfl)) Ab))) (Aq (i:=2) S.nd rfl (Or.inl rfl)) (Ag (B7 PassesOwn.never rfl (DP rfl T.z_range (Aa (Ap Ar (pv 0) Ae (λ_ _=>rfl)) (Aa (Ap Ar (pv 0) Ae (λ_ _=>rfl)) Ab))) (Aq (i:=3) S.nd rfl (Or.inl rfl)) (Ag (Bo (Cz PySem.F.plainAttrs_list PySem.F.slot_list_append PySem.F.type_list_append Bl (pv 1) (Aa (AF (Aa (pv 2) (Aa (pv 3) Ab))) Ab)))))))
   (Ag (An (pv 1))))),?_⟩
  refine⟨Az 0,λ l hl=>?_⟩;have ha0:(upd H l (.lst [])) a=some (.tup (DD p.t p.l p.b p.r)):=Same.new hl _ _ ha;refine⟨_,rfl,a,_,_,_,rfl,rfl,SqT.of ha0,at0,_,rfl,a,_,_,_,rfl,rfl,SqT.of ha0,at2,p.t,p.b,rfl,⟨by lia,by lia,by lia,by lia⟩,
   BP (lo:=p.t) (n:=(p.b-p.t).toNat) (λ i σ H'=>∃x y,∃sq:List (Addr×(Int×Int)),σ=[some (.ref a),some (.ref l),x,y]/\Same H H'/\H' l=some (.lst (sq.map λ s=>V.ref s.1))/\(∀s∈sq,H' s.1=some (.tup [.int s.2.1,.int s.2.2]))/\sq.map (·.2)=EV p i)
    ⟨none,none,[],rfl,Same.new hl,Ac,λ s hs=>(nomatch hs),rfl⟩ ?_ ?_⟩
  .rintro i σ H' hi ⟨x,y,sq,rfl,hs,hlst,hsq,hmap⟩;have ha':=hs _ _ ha;refine⟨_,rfl,a,_,_,_,rfl,rfl,SqT.of ha',at1,_,rfl,a,_,_,_,rfl,rfl,SqT.of ha',at3,p.l,p.r,rfl,⟨by lia,by lia,by lia,by lia⟩,
    BP (lo:=p.l) (n:=(p.r-p.l).toNat) (λ j σ H2=>∃y,∃sq:List (Addr×(Int×Int)),σ=[some (.ref a),some (.ref l),some (.int (p.t+i)),y]/\Same H H2/\H2 l=some (.lst (sq.map λ s=>V.ref s.1))/\(∀s∈sq,H2 s.1=some (.tup [.int s.2.1,.int s.2.2]))/\sq.map (·.2)=EV p i++Dr p i j)
     ⟨y,sq,rfl,hs,hlst,hsq,by rw[hmap];simp[Dr]⟩ ?_ ?_⟩
   .rintro j σ H2 hj ⟨y,sq,rfl,hs2,hl2,hq2,hm2⟩;refine⟨_,rfl,.inl ⟨rfl,_,SqL.of hl2⟩,_,rfl,_,rfl,Az 2,λ t ht=>?_⟩;have nlt:l≠t:=Af hl2 ht;have hlen:sq.length<=288:=by
     have e:=congrArg List.length hm2;rw[List.length_map,List.length_append,E4,Dr,List.length_map,List.length_range]at e;have:=P8 (i:=i) (m:=(p.r-p.l).toNat) (by lia) (by lia);lia
    refine⟨l,_,_,rfl,rfl,by rw[Ai nlt];exact hl2,Au (by rw[List.length_map];lia),?_⟩;refine⟨_,sq++[(t,(p.t+(i:Int),p.l+(j:Int)))],rfl,λ b o e=>?_,?_,λ z hz=>?_,?_⟩
    .rw[Ai (Af e hl),Ai (Af (hs2 _ _ e) ht)];exact hs2 b o e
    .rw[Ac,List.map_append];rfl
    .rcases List.mem_append.mp hz with hz|hz
     .have e:=hq2 z hz;have n1:z.1≠l:=CT e hl2 (by intro q;cases q);rw[Ai n1,Ai (Af e ht)];exact e
     .rw[List.mem_singleton.mp hz,Ai (Ne.symm nlt)];exact Ac
    .rw[List.map_append,hm2,List.append_assoc,Mi];rfl
   .rintro σ H2 ⟨y,sq,rfl,hs2,hl2,hq2,hm2⟩;exact⟨_,_,sq,rfl,hs2,hl2,hq2,hm2⟩
  .rintro σ H2 ⟨x,y,sq,rfl,hs2,hl2,hq2,hm2⟩;exact⟨_,rfl,q l sq H2 hs2 hl hl2 hq2 hm2⟩
theorem ID:Al ["panes","sheet","place","pane"] ["panes","sheet"] (Ah CA):=fsc
theorem Rb{p:Rc}{w h:Int}(i:p.In w h):Jh (DD p.t p.l p.b p.r)=true:=by
 obtain⟨a1,a2,a3,a4,a5,a6⟩:=i;show(decide (0<=p.t)&&decide (p.t<p.b)&&(decide (0<=p.l)&&decide (p.l<p.r)))=true;rw[decide_eq_true a1,decide_eq_true a2,decide_eq_true a4,decide_eq_true a5];rfl
theorem SE{p:Rc}{w h:Int}(i:p.In w h):T6 p.t p.l p.b p.r 0 0 h w=true:=by
 obtain⟨a1,a2,a3,a4,a5,a6⟩:=i;show(decide (0<=p.t)&&decide (0<=p.l)&&(decide (p.b<=h)&&decide (p.r<=w)))=true;rw[decide_eq_true a1,decide_eq_true a4,decide_eq_true a3,decide_eq_true a6];rfl
theorem Rj{H:Hp}{a b c d:Int}:∀x∈DD a b c d,Ty H x:=λ x hx=>by
 simp only[List.mem_cons,List.not_mem_nil,or_false]at hx;rcases hx with rfl|rfl|rfl|rfl<;>exact⟨"int",rfl⟩
theorem Bm{α:Type}{xs:List α}{i:Nat}{u x:α}(h:xs[i]?=some u):x∈xs.take (i+1)↔x∈xs.take i\/x=u:=by
 rw[List.take_succ,h,List.mem_append];simp
theorem HI{ts:List (Addr×Rc)}(hd:(rcs ts).Pairwise Apart){i:Nat}{u t:Addr×Rc}(h:ts[i]?=some u)(ht:t∈ts.take i):Apart t.2 u.2:=by
 obtain⟨j,hj,rfl⟩:=List.getElem_of_mem ht;obtain⟨hi,rfl⟩:=List.getElem?_eq_some_iff.mp h;rw[List.pairwise_iff_getElem]at hd;have hj':j<i:=by rw[List.length_take]at hj;lia
 have:=hd j i (by rw[List.length_map];lia) (by rw[List.length_map];exact hi) hj'
 simpa using this
theorem M5{α β:Type}{xs:List α}{f:α->β}(hn:(xs.map f).Nodup){j:Nat}{s:α}(h:xs[j]?=some s):f s∉(xs.take j).map f:=λ hm=>by
 obtain⟨hj,rfl⟩:=List.getElem?_eq_some_iff.mp h;obtain⟨y,hy,e⟩:=List.mem_map.mp hm;obtain⟨k,hk,rfl⟩:=List.getElem_of_mem hy;have hk':k<j:=by rw[List.length_take]at hk;lia
 rw[List.nodup_iff_pairwise_ne,List.pairwise_iff_getElem]at hn;exact hn k j (by rw[List.length_map];lia) (by rw[List.length_map];exact hj) hk' (by simpa using e)
theorem OZ{sq:List (Addr×(Int×Int))}{i:Nat}{x:V}(h:(sq.map λ s=>V.ref s.1)[i]?=some x):∃t,sq[i]?=some t/\x=.ref t.1:=by
 rw[List.getElem?_map]at h;cases e:sq[i]? with
 |none=>rw[e]at h;cases h
 |some t=>rw[e]at h;exact⟨t,rfl,(Option.some.inj h).symm⟩
theorem QC{p:Rc}{w h:Int}(i:p.In w h)(b1:w<=12)(b2:h<=12):(sqs p).length<=144:=by
 obtain⟨a1,a2,a3,a4,a5,a6⟩:=i;unfold sqs;rw[E4];exact P8 (by lia) (by lia)
theorem EN:Al ["panes","by_square","place","pane","square"] ["panes"] (Ah BE):=fsc
theorem Eo{f:Addr}{fd:FuncData}(F:Fun K "panes_by_square" "panes_by_square" BE f fd)(T:Txt mg tk)(D_squares_of:AC P w K mg base 1 "squares_of" ["rectangle"] Ea):A9 P w K mg base CX0 2 f fd ["panes"] (E6 K):=by
 have S:=EN;refine F.ok S (λ vs H Q E h=>?_) (λ cdv A outer s H vs Q E hr h=>?_)
 .obtain⟨l,w,h,ts,rfl,_⟩:=h;rfl
 .obtain⟨l,w,h,ts,rfl,hl,hat,hin,hap,hlen,bw,bh,q⟩:=h;have hu:=L8 hr;refine⟨_,(Ad (As (i:=1) S.nd rfl (Or.inl rfl) Lh)
   (Ad (B7 PassesOwn.never rfl (JY rfl T.z_enumerate (Aa (pv 0) Ab)) (CG rfl (Aw (Aq (i:=2) S.nd rfl (Or.inl rfl)) (Aw (Aq (i:=3) S.nd rfl (Or.inl rfl)) Bf))) (Ag (B7 PassesOwn.never rfl (BH (A0 D_squares_of hr (Aa (pv 3) Ab))) (Aq (i:=4) S.nd rfl (Or.inl rfl)) (Ad (A6 (Mm (Pz hu (pv 4) (pv 1))) (Ag D6) Ao)
   (Ag (Nw hu (pv 1) (pv 4) (pv 3) rfl))))))
   (Ag (An (pv 1))))),?_⟩
  intro d hd;refine⟨_,rfl,l,rfl,⟨_,(Same.new hd).seq hl⟩,Hl (K:=K) (a:=l) (xs:=Cl ts) (λ i σ H'=>(∃x y z,σ=[some (.ref l),some (.ref d),x,y,z])/\Same H H'/\∃kvs,H' d=some (.dT kvs)/\kvs.length<=144*i /\
    (∀t∈ts.take i,∀r c,t.2.has r c->Bd kvs (sqK r c)=some (.ref t.1))/\∀r c v,Bd kvs (sqK r c)=some v->∃t∈ts.take i,t.2.has r c)
   ⟨⟨none,none,none,rfl⟩,Same.new hd,[],Ac,Nat.zero_le _,λ t ht=>(nomatch ht),λ r c v e=>by cases e⟩ (λ i σ H' _ hp=>hp.2.1.seq hl) ?_ ?_⟩
  .rintro i x σ H' tt hx ⟨⟨x0,y0,z0,rfl⟩,hs,kvs,hk,hkl,ha1,ha2⟩ htt;obtain⟨u,hu',rfl⟩:=G2 hx;have hum:=List.mem_of_getElem? hu';have hi:i<ts.length:=(List.getElem?_eq_some_iff.mp hu').1;have s1:=hs.trans (Same.new (o:=.tup [.int i,.ref u.1]) htt);have hui:=hin u.2 (List.mem_map.mpr ⟨u,hum,rfl⟩);obtain⟨c1,c2,c3,c4,c5,c6⟩:=id hui;have hua:=s1 _ _ (hat u hum);have hk1:(upd H' tt (.tup [.int i,.ref u.1])) d=some (.dT kvs):=Same.new htt _ _ hk;refine⟨tt,_,rfl,SqT.of Ac,rfl,_,_,rfl,_,_,rfl,rfl,?_⟩;refine⟨_,rfl,u.1,u.2,rfl,hua,c1,by lia,by lia,c4,by lia,by lia,λ l2 sq H2 s2 n2 hl2 hsq hmap=>⟨l2,rfl,⟨_,SqL.of hl2⟩,?_⟩⟩;have hk2:=s2 _ _ hk1;have nl2:l2≠d:=CT hl2 hk2 (by intro z;cases z);have sql:sq.length<=144:=by
    have:=QC hui bw bh;rw[<-hmap,List.length_map]at this;exact this
   have nd:=DY (p:=u.2) (by lia) (u.2.b-u.2.t).toNat;have nd':(sq.map (·.2)).Nodup:=by rw[hmap];exact nd
   refine EF (K:=K) (a:=l2) (xs:=sq.map λ s=>V.ref s.1) (λ j σ H3=>(∃z,σ=[some (.ref l),some (.ref d),some (.int i),some (.ref u.1),z])/\SameX d H2 H3/\∃kvs,H3 d=some (.dT kvs)/\kvs.length<=144*i+j /\
     (∀t∈ts.take i,∀r c,t.2.has r c->Bd kvs (sqK r c)=some (.ref t.1))/\(∀z∈sq.take j,Bd kvs (sqK z.2.1 z.2.2)=some (.ref u.1)) /\
     ∀r c v,Bd kvs (sqK r c)=some v->(∃t∈ts.take i,t.2.has r c)\/(r,c)∈(sq.take j).map (λ y:Addr×(Int×Int)=>y.2))
    ⟨⟨_,rfl⟩,SameX.refl,kvs,hk2,by lia,ha1,λ z hz=>(nomatch hz),λ r c v e=>.inl (ha2 r c v e)⟩ (λ j σ H3 _ hp=>SqL.of (hp.2.1 _ _ nl2 hl2)) ?_ ?_
   .rintro j y σ H3 hy ⟨⟨z0,rfl⟩,s3,kv,hk3,hkl3,b1,b2,b3⟩;obtain⟨z,hz,rfl⟩:=OZ hy;have hzm:=List.mem_of_getElem? hz;have hj:j<sq.length:=(List.getElem?_eq_some_iff.mp hz).1;have hz2:=hsq z hzm;have nz:z.1≠d:=CT hz2 hk2 (by intro q;cases q);have hz3:=s3 _ _ nz hz2;have hin2:u.2.has z.2.1 z.2.2:=(EE (by lia) (by lia)).mp (by rw[<-hmap];exact List.mem_map.mpr ⟨z,hzm,rfl⟩);have hno:Bd kv (sqK z.2.1 z.2.2)=none:=by
     cases e:Bd kv (sqK z.2.1 z.2.2) with
     |none=>rfl
     |some v =>
      rcases b3 _ _ v e with ⟨t,ht,hh⟩|hm
      .exact(HI hap hu' ht _ _ hh hin2).elim
      .exact absurd hm (M5 nd' hz)
    have dg:=DGet.t (k:=sqK z.2.1 z.2.2) hk3 hz3;rw[hno]at dg;refine⟨_,rfl,_,rfl,d,_,rfl,dg,_,rfl,MF ?_⟩;refine⟨_,rfl,_,rfl,_,rfl,d,_,rfl,DPut.t (k:=sqK z.2.1 z.2.2) hk3 hz3 (Nat.lt_of_le_of_lt (m:=20000) (by lia) (by rw[sizeLine_eq];decide)),?_⟩;refine⟨⟨_,rfl⟩,s3.trans SameX.upd,_,Ac,?_,λ t ht r c hh=>?_,λ y hy=>?_,λ r c v e=>?_⟩
    .have:=D8 kv (sqK z.2.1 z.2.2) (V.ref u.1);lia
    .rw[Gk,if_neg,b1 t ht r c hh];intro e;obtain⟨e1,e2⟩:=FT e;exact HI hap hu' ht _ _ (by rw[<-e1,<-e2];exact hh) hin2
    .rw[Gk];rcases(Bm hz).mp hy with hy|rfl
     .split
      .rfl
      .exact b2 y hy
     .rw[if_pos rfl]
    .rw[Gk]at e;split at e
     .rename_i e2;obtain⟨e3,e4⟩:=FT e2;exact .inr (List.mem_map.mpr ⟨z,(Bm hz).mpr (.inr rfl),by rw[e3,e4]⟩)
     .rcases b3 r c v e with h1|h1
      .exact .inl h1
      .obtain⟨y,hy,e2⟩:=List.mem_map.mp h1;exact .inr (List.mem_map.mpr ⟨y,(Bm hz).mpr (.inl hy),e2⟩)
   .rintro σ H3 ⟨⟨z0,rfl⟩,s3,kv,hk3,hkl3,b1,b2,b3⟩;rw[List.length_map]at hkl3 b2 b3;rw[List.take_length]at b2 b3;refine⟨⟨_,_,_,rfl⟩,λ b o e=>?_,kv,hk3,by lia,λ t ht r c hh=>?_,λ r c v e=>?_⟩
    .exact s3 b o (Af e hd) (s2 b o (s1 b o e))
    .rcases(Bm hu').mp ht with ht|rfl
     .exact b1 t ht r c hh
     .have hm:(r,c)∈sq.map (·.2):=by rw[hmap];exact(EE (by lia) (by lia)).mpr hh
      obtain⟨z,hz,e⟩:=List.mem_map.mp hm;have:=b2 z hz;rw[e]at this;exact this
    .rcases b3 r c v e with ⟨t,ht,hh⟩|hm
     .exact⟨t,(Bm hu').mpr (.inl ht),hh⟩
     .exact⟨u,(Bm hu').mpr (.inr rfl),(EE (by lia) (by lia)).mp (by rw[<-hmap];exact hm)⟩
  .rintro σ H' ⟨⟨x0,y0,z0,rfl⟩,hs,kvs,hk,hkl,ha1,ha2⟩;rw[List.length_map,List.take_length]at ha1;exact⟨_,rfl,q d kvs H' hs hd hk ha1⟩
theorem FO:Al ["by_square","sheet","square"] ["by_square","sheet"] (Ah Cd):=fsc
theorem Fk{f:Addr}{fd:FuncData}(F:Fun K "check_covered" "check_covered" Cd f fd)(D_squares_of:AC P w K mg base 1 "squares_of" ["rectangle"] Ea):A9 P w K mg base CX0 2 f fd ["by_square","sheet"] CQ:=by
 have S:=FO;refine F.ok S (λ vs H Q E h=>?_) (λ cdv A outer s H vs Q E hr h=>?_)
 .obtain⟨d,sh,w,h,kvs,rfl,_⟩:=h;rfl
 .obtain⟨d,sh,w,h,kvs,rfl,hd,hsh,gw,gh,hcov,q⟩:=h;have hu:=L8 hr;refine⟨_,(Ag (B7 PassesOwn.never rfl (BH (A0 D_squares_of hr (Aa (pv 1) Ab))) (Aq (i:=2) S.nd rfl (Or.inl rfl)) (Ag (A6 (Mm (Oe hu (pv 2) (pv 0))) (Ag D6) Ao)))),?_⟩;refine⟨_,rfl,sh,⟨0,0,h,w⟩,rfl,hsh,Int.le_refl _,by show(0:Int)<=h;lia,by show h<=12;lia,Int.le_refl _,by show(0:Int)<=w;lia,by show w<=12;lia,λ l2 sq H2 s2 n2 hl2 hsq hmap=>⟨l2,rfl,⟨_,SqL.of hl2⟩,?_⟩⟩;refine EF (K:=K) (a:=l2) (xs:=sq.map λ s=>V.ref s.1) (λ j σ H3=>(∃z,σ=[some (.ref d),some (.ref sh),z])/\H3=H2) ⟨⟨none,rfl⟩,rfl⟩ (λ j σ H3 _ hp=>by rw[hp.2];exact SqL.of hl2) ?_ ?_
  .rintro j y σ H3 hy ⟨⟨z0,rfl⟩,rfl⟩;obtain⟨z,hz,rfl⟩:=OZ hy;have hzm:=List.mem_of_getElem? hz;have hz2:=hsq z hzm;have hin2:(⟨0,0,h,w⟩:Rc).has z.2.1 z.2.2:=(EE (p:=⟨0,0,h,w⟩) (by show(0:Int)<=w;lia) (by show(0:Int)<=h;lia)).mp (by rw[<-hmap];exact List.mem_map.mpr ⟨z,hzm,rfl⟩);obtain⟨i1,i2,i3,i4⟩:=hin2;have hk2:=s2 _ _ hd;have dg:=DGet.t (k:=sqK z.2.1 z.2.2) hk2 hz2;cases e:Bd kvs (sqK z.2.1 z.2.2) with
   |none=>exact absurd e (hcov _ _ i1 i2 i3 i4)
   |some v =>
    rw[e]at dg;exact⟨_,rfl,_,rfl,d,_,rfl,dg,_,rfl,MF ⟨⟨_,rfl⟩,rfl⟩⟩
  .rintro σ H3 ⟨⟨z0,rfl⟩,rfl⟩;exact q _ s2
theorem Mq{α β:Type}{f:α->β}:∀{l' m:List β},l'.Perm m->∀{l:List α},m=l.map f->∃us:List α,us.Perm l/\l'=us.map f:=by
 intro l' m h
 induction h with
 |nil=>intro l e;exact⟨l,.refl _,e⟩
 |cons x hp ih =>
  intro l e;cases l with
  |nil=>cases e
  |cons y r =>
   rw[List.map_cons]at e;injection e with e1 e2;obtain⟨us,h1,h2⟩:=ih e2;exact⟨y::us,h1.cons y,by rw[List.map_cons,<-h2,e1]⟩
 |swap x y r =>
  intro l e
  match l,e with
  |a::b::r',e =>
   rw[List.map_cons,List.map_cons]at e;injection e with e1 e2;injection e2 with e2 e3;exact⟨b::a::r',.swap a b r',by rw[List.map_cons,List.map_cons,e1,e2,e3]⟩
 |trans h1 h2 ih1 ih2 =>
  intro l e;obtain⟨us,a1,a2⟩:=ih2 e;obtain⟨vs,b1,b2⟩:=ih1 a2;exact⟨vs,b1.trans a1,b2⟩
theorem KB:Al ["self","width","height","panes","sheet","own_panes","by_square"] ["self","width","height","panes"] (Ah Di):=fsc
theorem IG:Al ["self"] ["self"] (Ah CC):=fsc
theorem GN{f:Addr}{fd:FuncData}(F:Fun K "panes" "Panel.panes" CC f fd)(T:Txt mg tk)(PC:Qt K C):A9 P w K mg base CX0 1 f fd ["self"] (KY C):=by
 have S:=IG;refine F.ok S (λ vs H Q E h=>?_) (λ cdv A outer s H vs Q E hr h=>?_)
 .obtain⟨a,dx,ls,ld,w,h,ts,kvs,rfl,_⟩:=h;rfl
 .obtain⟨a,dx,ls,ld,w,h,ts,kvs,rfl,pn,q⟩:=h;refine⟨_,(Ag (An (Bk EL rfl T.z_list rfl (Aa (Fg (pv 0) rfl) Ab)))),?_⟩;exact⟨_,rfl,a,C,dx,_,_,rfl,pn.ob,PC.cl,PC.n_sorted_panes,SH _ _ _ _,ls,_,rfl,.inl (SqL.of pn.lst),λ l hl=>q l hl⟩
theorem FP:Al ["self","row","column"] ["self","row","column"] (Ah Ce):=fsc
theorem Fl{f:Addr}{fd:FuncData}(F:Fun K "pane_at" "Panel.pane_at" Ce f fd)(PC:Qt K C):A9 P w K mg base CX0 1 f fd ["self","row","column"] (Gu C):=by
 have S:=FP;refine F.ok S (λ vs H Q E h=>?_) (λ cdv A outer s H vs Q E hr h=>?_)
 .obtain⟨a,dx,ls,ld,w,h,r,c,u,kvs,rfl,_⟩:=h;rfl
 .obtain⟨a,dx,ls,ld,w,h,r,c,u,kvs,rfl,ob,rd,hv,q⟩:=h;have hu:=L8 hr;refine⟨_,(Ag (An (Ny hu (Fg (pv 0) rfl) (AF (Aa (pv 1) (Aa (pv 2) Ab))) (λ_ _=>rfl)))),?_⟩;refine⟨_,rfl,a,C,dx,_,_,rfl,ob,PC.cl,PC.n_by_square,SI _ _ _ _,_,rfl,_,rfl,Az 2,λ t ht=>?_⟩;have dg:DGet (upd H t (.tup [.int r,.int c])) ld (.ref t) (some (.ref u)):=.inr ⟨kvs,sqK r c,t,rd.elim (λ e=>.inl (Same.new ht _ _ e)) (λ⟨o,e⟩=>.inr ⟨o,Same.new ht _ _ e⟩),rfl,Ac,hv.symm⟩;exact⟨ld,_,rfl,dg,q _ (Same.new ht)⟩
inductive HU(cS:Addr)(vs:LUz)(H:Hp)(Q:VK)(E:XK):Prop
 |mk (a b:V) (h0:vs=[a,b]) (h1:Ty H a) (h2:Ty H b) (h3:(Bq a=true->Bq b=true->∀H',Same H H'->Q .non H')) (h4:(Bq a=false->Rf H E cS λ fs _=>fs=[(("side":Str),a)])) (h5:(Bq a=true->Bq b=false->Rf H E cS λ fs _=>fs=[(("side":Str),b)])):HU cS vs H Q E
def EW(cS:Addr) :Sp:=λ vs H Q E=>HU cS vs H Q E
theorem IC:Al ["width","height","side"] ["width","height"] (Ah C9):=fsc
theorem GL{f:Addr}{fd:FuncData}(F:Fun K "check_sides" "check_sides" C9 f fd){cS:Addr}(X_NoSide:JE P w K mg base 1 "NoSide" cS ["self","side"] ["side"])(D_is_side:AC P w K mg base 2 "is_side" ["thing"] Nh) :
  A9 P w K mg base (CX1 P w) 3 f fd ["width","height"] (EW cS):=by
 have S:=IC;refine F.okx S (λ vs H Q E h=>?_) (λ cdv A outer s H vs Q E hr h=>?_)
 .obtain⟨a,p,rfl,_⟩:=h;rfl
 .obtain⟨a,b,rfl,ta,tb,q,r1,r2⟩:=h;refine⟨_,(Ag (B7 Ms rfl (Pq (AF (Aa (pv 0) (Aa (pv 1) Ab)))) (Aq (i:=2) S.nd rfl (Or.inl rfl)) (Ag (A6 (BG (BO (A0 D_is_side hr (Aa (pv 2) Ab)))) (Ag (EA BD X_NoSide hr (Aa (pv 2) Ab))) Ao)))),?_⟩;refine⟨_,rfl,_,rfl,Az 2,λ t ht=>⟨t,rfl,⟨_,SqT.of Ac⟩,Rm (K:=K) (a:=t) (xs:=[a,b]) (λ i σ H'=>(∃y,σ=[some a,some b,y])/\H'=upd H t (.tup [a,b])/\(0<i->Bq a=true)/\(1<i->Bq b=true)) ⟨⟨none,rfl⟩,rfl,(λ z=>absurd z (by decide)),λ z=>absurd z (by decide)⟩ (λ i σ H' _ hp=>by rw[hp.2.1];exact SqT.of Ac) ?_ ?_⟩⟩
  .rintro i x σ H' hx ⟨⟨y,rfl⟩,rfl,h0,h1⟩;have s1:Same H (upd H t (.tup [a,b])):=Same.new ht
   match i,hx with
   |0,hx =>
    cases hx;refine⟨_,rfl,a,rfl,ta.same s1,_,rfl,BB (λ hb=>?_) λ hb=>?_⟩
    .have hb:Bq a=false:=by simpa using hb
     exact⟨_,rfl,rfl,λ y dx T H2 hy s2 e ed nd hT nT=>(r1 hb).raise s1 hy s2 e ed nd hT rfl⟩
    .exact⟨⟨_,rfl⟩,rfl,λ_=>by simpa using hb,λ z=>absurd z (by lia)⟩
   |1,hx =>
    cases hx;refine⟨_,rfl,b,rfl,tb.same s1,_,rfl,BB (λ hb=>?_) λ hb=>?_⟩
    .have hb:Bq b=false:=by simpa using hb
     exact⟨_,rfl,rfl,λ y dx T H2 hy s2 e ed nd hT nT=>(r2 (h0 (by lia)) hb).raise s1 hy s2 e ed nd hT rfl⟩
    .exact⟨⟨_,rfl⟩,rfl,λ_=>h0 (by lia),λ_=>by simpa using hb⟩
   |i+2,hx=>cases hx
  .rintro σ H' ⟨⟨y,rfl⟩,rfl,h0,h1⟩;exact q (h0 (by show 0<2;decide)) (h1 (by show 1<2;decide)) _ (Same.new ht)
inductive NM(vs:LUz)(H:Hp)(Q:VK)(E:XK):Prop
 |mk (a:Addr) (p:Rk) (u:Bool) (k:Int) (h0:vs=[.ref a,.str (wd u),.int k]) (h1:H a=some (.tup p.vs)) (h2:∀x,H x=none->Q (.ref x) (upd H x (.tup (p.fst u k).vs))):NM vs H Q E
def Pb:Sp:=λ vs H Q E=>NM vs H Q E
inductive NK(vs:LUz)(H:Hp)(Q:VK)(E:XK):Prop
 |mk (a:Addr) (p:Rk) (u:Bool) (k:Int) (h0:vs=[.ref a,.str (wd u),.int k]) (h1:H a=some (.tup p.vs)) (h2:∀x,H x=none->Q (.ref x) (upd H x (.tup (p.oth u k).vs))):NK vs H Q E
def Pa:Sp:=λ vs H Q E=>NK vs H Q E
theorem IB:Al ["piece","word","at"] ["piece","word","at"] (Ah C8):=fsc
theorem GK{f:Addr}{fd:FuncData}(F:Fun K "first_piece" "first_piece" C8 f fd)(T:Txt mg tk):A9 P w K mg base CX0 1 f fd ["piece","word","at"] Pb:=by
 have S:=IB;refine F.ok S (λ vs H Q E h=>?_) (λ cdv A outer s H vs Q E hr h=>?_)
 .obtain⟨a,p,u,k,rfl,_⟩:=h;rfl
 .obtain⟨a,p,u,k,rfl,ha,q⟩:=h;refine⟨_,(Ad (A6 (Ak AO (pv 1) (A7 (v:=.str "upright") rfl T.g_UPRIGHT ⟨_,rfl⟩) (Am _)) (Ag (An (AF (Aa (Ap Ar (pv 0) Ae (λ_ _=>rfl)) (Aa (Ap Ar (pv 0) Ae (λ_ _=>rfl)) (Aa (Ap Ar (pv 0) Ae (λ_ _=>rfl)) (Aa (Av AQ (Ap Ar (pv 0) Ae (λ_ _=>rfl)) (pv 2)) Ab))))))) Ao)
   (Ag (An (AF (Aa (Ap Ar (pv 0) Ae (λ_ _=>rfl)) (Aa (Ap Ar (pv 0) Ae (λ_ _=>rfl)) (Aa (Av AQ (Ap Ar (pv 0) Ae (λ_ _=>rfl)) (pv 2)) (Aa (Ap Ar (pv 0) Ae (λ_ _=>rfl)) Ab)))))))),?_⟩
  cases u with
  |true=>exact⟨_,rfl,rfl,_,rfl,AT (Bc true true) ⟨_,rfl,a,_,_,_,rfl,rfl,SqT.of ha,at0,_,rfl,a,_,_,_,rfl,rfl,SqT.of ha,at1,_,rfl,a,_,_,_,rfl,rfl,SqT.of ha,at2,_,rfl,a,_,_,_,rfl,rfl,SqT.of ha,at1,_,rfl,_,_,rfl,rfl,Az 4,q⟩⟩
  |false=>exact⟨_,rfl,rfl,_,rfl,A5 (Bc false true) ⟨_,rfl,a,_,_,_,rfl,rfl,SqT.of ha,at0,_,rfl,a,_,_,_,rfl,rfl,SqT.of ha,at1,_,rfl,a,_,_,_,rfl,rfl,SqT.of ha,at0,_,rfl,_,_,rfl,rfl,_,rfl,a,_,_,_,rfl,rfl,SqT.of ha,at3,Az 4,q⟩⟩
theorem IA:Al ["piece","word","at"] ["piece","word","at"] (Ah C7):=fsc
theorem GJ{f:Addr}{fd:FuncData}(F:Fun K "other_piece" "other_piece" C7 f fd)(T:Txt mg tk):A9 P w K mg base CX0 1 f fd ["piece","word","at"] Pa:=by
 have S:=IA;refine F.ok S (λ vs H Q E h=>?_) (λ cdv A outer s H vs Q E hr h=>?_)
 .obtain⟨a,p,u,k,rfl,_⟩:=h;rfl
 .obtain⟨a,p,u,k,rfl,ha,q⟩:=h;refine⟨_,(Ad (A6 (Ak AO (pv 1) (A7 (v:=.str "upright") rfl T.g_UPRIGHT ⟨_,rfl⟩) (Am _)) (Ag (An (AF (Aa (Ap Ar (pv 0) Ae (λ_ _=>rfl)) (Aa (Av AQ (Ap Ar (pv 0) Ae (λ_ _=>rfl)) (pv 2)) (Aa (Ap Ar (pv 0) Ae (λ_ _=>rfl)) (Aa (Ap Ar (pv 0) Ae (λ_ _=>rfl)) Ab))))))) Ao)
   (Ag (An (AF (Aa (Av AQ (Ap Ar (pv 0) Ae (λ_ _=>rfl)) (pv 2)) (Aa (Ap Ar (pv 0) Ae (λ_ _=>rfl)) (Aa (Ap Ar (pv 0) Ae (λ_ _=>rfl)) (Aa (Ap Ar (pv 0) Ae (λ_ _=>rfl)) Ab)))))))),?_⟩
  cases u with
  |true=>exact⟨_,rfl,rfl,_,rfl,AT (Bc true true) ⟨_,rfl,a,_,_,_,rfl,rfl,SqT.of ha,at0,_,rfl,a,_,_,_,rfl,rfl,SqT.of ha,at1,_,rfl,_,_,rfl,rfl,_,rfl,a,_,_,_,rfl,rfl,SqT.of ha,at2,_,rfl,a,_,_,_,rfl,rfl,SqT.of ha,at3,Az 4,q⟩⟩
  |false=>exact⟨_,rfl,rfl,_,rfl,A5 (Bc false true) ⟨_,rfl,a,_,_,_,rfl,rfl,SqT.of ha,at0,_,rfl,_,_,rfl,rfl,_,rfl,a,_,_,_,rfl,rfl,SqT.of ha,at1,_,rfl,a,_,_,_,rfl,rfl,SqT.of ha,at2,_,rfl,a,_,_,_,rfl,rfl,SqT.of ha,at3,Az 4,q⟩⟩
inductive JP(cN:Addr)(vs:LUz)(H:Hp)(Q:VK)(E:XK):Prop
 |mk (a:Addr) (p:Rk) (u:Bool) (k:Int) (h0:vs=[.ref a,.str (wd u),.int k]) (h1:H a=some (.tup p.vs)) (h2:((1<=k/\k<p.len u)->Q .non H)) (h3:(¬(1<=k/\k<p.len u)->Rf H E cN λ fs _=>fs=[(("at":Str),.int k)])):JP cN vs H Q E
def La(cN:Addr) :Sp:=λ vs H Q E=>JP cN vs H Q E
theorem LM:Al ["piece","word","at","length"] ["piece","word","at"] (Ah BW):=fsc
theorem Ki{f:Addr}{fd:FuncData}{cN:Addr}(F:Fun K "check_cut" "check_cut" BW f fd)(T:Txt mg tk)(X_NoCut:JE P w K mg base 1 "NoCut" cN ["self","at"] ["at"])(D_is_whole:AC P w K mg base 1 "is_whole" ["thing"] E5):A9 P w K mg base (CX1 P w) 3 f fd ["piece","word","at"] (La cN):=by
 have S:=LM;refine F.okx S (λ vs H Q E h=>?_) (λ cdv A outer s H vs Q E hr h=>?_)
 .obtain⟨a,p,u,k,rfl,_⟩:=h;rfl
 .obtain⟨a,p,u,k,rfl,ha,q,r⟩:=h;obtain⟨tt,htt,fin⟩:∃rd,PSs (Bv (CX1 P w) P w K mg base ["piece","word","at","length"] "check_cut" (Ah BW) f cdv A outer s H E) ((AB BW).drop 1) rd /\
    rd { nx:=λ_ H'=>Q .non H',rt:=Q } [some (.ref a),some (.str (wd u)),some (.int k),some (.int (p.len u))] H:=by
   refine⟨_,(Ag (A6 (PW.pt (Ca (BG (BO (A0 D_is_whole hr (Aa (pv 2) Ab)))) (Cg (BG (G5 Cj ED Ae (pv 2) (pv 3)))))) (Ag (EA BD X_NoCut hr (Aa (pv 2) Ab))) Ao)),?_⟩;refine⟨_,rfl,.int k,rfl,⟨"int",rfl⟩,_,rfl,A5 rfl ?_⟩;refine⟨_,rfl,_,_,rfl,rfl,_,rfl,BB (λ h1=>?_) (λ h1=>?_)⟩
   .refine⟨_,rfl,_,_,rfl,rfl,_,rfl,?_⟩;have h1':=of_decide_eq_true h1;by_cases h2:k<p.len u
    .exact A5 (by rw[decide_eq_true h2];rfl) (q ⟨h1',h2⟩)
    .exact AT (by rw[decide_eq_false h2];rfl) ⟨_,rfl,rfl,λ y dx T H2 hy s2 e ed nd hT nT=>(r λ z=>h2 z.2).raise (Same.refl H) hy s2 e ed nd hT rfl⟩
   .have h1':=of_decide_eq_false h1;exact⟨_,rfl,AT rfl ⟨_,rfl,rfl,λ y dx T H2 hy s2 e ed nd hT nT=>(r λ z=>h1' z.1).raise (Same.refl H) hy s2 e ed nd hT rfl⟩⟩
  refine⟨_,(Ad (As (i:=3) S.nd rfl (Or.inl rfl) (AY (Ak AO (pv 1) (A7 (v:=.str "upright") rfl T.g_UPRIGHT ⟨_,rfl⟩) (Am _)) (Av GF (Ap Ar (pv 0) Ae (λ_ _=>rfl)) (Ap Ar (pv 0) Ae (λ_ _=>rfl))) (Av GF (Ap Ar (pv 0) Ae (λ_ _=>rfl)) (Ap Ar (pv 0) Ae (λ_ _=>rfl)))))
   htt),?_⟩
  cases u with
  |true=>exact⟨_,rfl,rfl,_,rfl,AT (Bc true true) ⟨_,rfl,a,_,_,_,rfl,rfl,SqT.of ha,at3,_,rfl,a,_,_,_,rfl,rfl,SqT.of ha,at1,_,_,rfl,rfl,fin⟩⟩
  |false=>exact⟨_,rfl,rfl,_,rfl,A5 (Bc false true) ⟨_,rfl,a,_,_,_,rfl,rfl,SqT.of ha,at2,_,rfl,a,_,_,_,rfl,rfl,SqT.of ha,at0,_,_,rfl,rfl,fin⟩⟩
def PsAt(H:Hp)(ws:List (Addr×Rk×Tr)):Prop:=∀p∈ws,H p.1=some (.tup p.2.1.vs)
abbrev trs(ws:List (Addr×Rk×Tr)):List (V×Tr):=ws.map λ p=>(V.ref p.1,p.2.2)
abbrev Bs(ws:List (Addr×Rk×Tr)):LUz:=ws.map λ p=>V.ref p.1
theorem PsAt.kp{H H':Hp}{ws:List (Addr×Rk×Tr)}(h:PsAt H ws)(k:Kp H H'):PsAt H' ws:=λ p hp=>k _ _ (h p hp) (by intro xs z;cases z)
theorem Jp{ws0:List (Addr×Rk×Tr)}{p:Addr×Rk×Tr}:(Bs (ws0++[p]))[(Bs (ws0++[p])).length-1]?=some (.ref p.1):=by
 rw[List.length_map,List.length_append,List.length_singleton,Nat.add_sub_cancel,List.getElem?_map,List.getElem?_append_right (Nat.le_refl _),Nat.sub_self];rfl
theorem Jz{ws0:List (Addr×Rk×Tr)}{p:Addr×Rk×Tr}:(Bs (ws0++[p])).dropLast=Bs ws0:=by
 show(List.map (λ p=>V.ref p.1) (ws0++[p])).dropLast=_;rw[List.map_append,List.map_singleton,List.dropLast_concat]
theorem Gp(ws:List (Addr×Rk×Tr))(p:Addr×Rk×Tr):trs (ws++[p])=trs ws++[(V.ref p.1,p.2.2)]:=by
 show List.map (λ p=>(V.ref p.1,p.2.2)) (ws++[p])=_;rw[List.map_append];rfl
theorem Jj(ws:List (Addr×Rk×Tr))(p:Addr×Rk×Tr):Bs (ws++[p])=Bs ws++[V.ref p.1]:=by
 show List.map (λ p=>V.ref p.1) (ws++[p])=_;rw[List.map_append];rfl
theorem PcO.kp{H H':Hp}{ts:List PT}(h:PcO H ts)(k:Kp H H'):PcO H' ts:=λ t ht=>⟨k _ _ (h t ht).1 (by intro xs z;cases z),k _ _ (h t ht).2 (by intro xs z;cases z)⟩
theorem Py(ts:List PT)(t:PT):pcs (ts++[t])=pcs ts++[V.ref t.1]:=by
 show List.map (λ p=>V.ref p.1) (ts++[t])=_;rw[List.map_append];rfl
theorem O4(ts:List PT)(t:PT):cons (ts++[t])=cons ts++[t.2.2]:=by
 show List.map (λ p=>p.2.2) (ts++[t])=_;rw[List.map_append];rfl
def PN(ws:List (Addr×Rk×Tr)):List (Rk×Option Int):=ws.reverse.flatMap λ p=>BC p.2.2 p.2.1
theorem DV(ws:List (Addr×Rk×Tr))(p:Addr×Rk×Tr):PN (ws++[p])=BC p.2.2 p.2.1++PN ws:=by
 unfold PN;rw[List.reverse_append,List.reverse_singleton,List.singleton_append,List.flatMap_cons]
def Rp(ws:List (Addr×Rk×Tr)):Option Int:=ws.foldl (λ b p=>(OA p.2.1 p.2.2).or b) none
theorem Fq(ws:List (Addr×Rk×Tr))(p:Addr×Rk×Tr):Rp (ws++[p])=(OA p.2.1 p.2.2).or (Rp ws):=by
 unfold Rp;rw[List.foldl_append];rfl
inductive NJ(cW cU cL cN:Addr)(vs:LUz)(H:Hp)(Q:VK)(E:XK):Prop
 |mk (v:V) (t:Tr) (ww hh:Int) (h0:vs=[v,.int ww,.int hh]) (h1:Obj cW cU cL H t v) (h2:t.nd<=400) (h3:(BQ t ww hh=none->∀l ts H',Same H H'->H l=none->H' l=some (.lst (pcs ts))->PcO H' ts->cons ts=BC t ⟨0,0,hh,ww⟩->Q (.ref l) H')) (h4:(∀k,BQ t ww hh=some k->Rf H E cN λ fs _=>fs=[(("at":Str),.int k)])):NJ cW cU cL cN vs H Q E
def JU(cW cU cL cN:Addr) :Sp:=λ vs H Q E=>NJ cW cU cL cN vs H Q E
theorem OF:Al ["tree","width","height","found","waiting","word","number","piece"] ["tree","width","height"] (Ah Fd):=fsc
theorem M0{f:Addr}{fd:FuncData}{cN:Addr}(F:Fun K "cut_out" "cut_out" Fd f fd)(T:Txt mg tk)(D_entries_of:AC P w K mg base 3 "entries_of" ["tree"] (BN cW cU cL))(D_check_cut:BR P w K mg base 3 "check_cut" ["piece","word","at"] (La cN))
  (D_first_piece:AC P w K mg base 1 "first_piece" ["piece","word","at"] Pb) (D_other_piece:AC P w K mg base 1 "other_piece" ["piece","word","at"] Pa):A9 P w K mg base (CX1 P w) 4 f fd ["tree","width","height"] (JU cW cU cL cN):=by
 have S:=OF;refine F.okx S (λ vs H Q E h=>?_) (λ cdv A outer s H vs Q E hr h=>?_)
 .obtain⟨v,t,ww,hh,rfl,_⟩:=h;rfl
 .obtain⟨v,t,ww,hh,rfl,ho,hn,q,r⟩:=h;refine⟨_,(Ad (As (i:=3) S.nd rfl (Or.inl rfl) (AV Ab))
   (Ad (As (i:=4) S.nd rfl (Or.inl rfl) (AV (Aa (AF (Aa Ae (Aa Ae (Aa (pv 2) (Aa (pv 1) Ab))))) Ab)))
   (Ad (B7 Ms rfl (BH (A0 D_entries_of hr (Aa (pv 0) Ab))) (CG rfl (Aw (Aq (i:=5) S.nd rfl (Or.inl rfl)) (Aw (Aq (i:=6) S.nd rfl (Or.inl rfl)) Bf))) (Ad (As (i:=7) S.nd rfl (Or.inl rfl) (Fh PySem.F.plainAttrs_list PySem.F.slot_list_pop PySem.F.type_list_pop Fm (pv 4)))
   (Ag (A6 (Ak AO (pv 5) (A7 (v:=.str "whole") rfl T.g_WHOLE ⟨_,rfl⟩) (Am _)) (Ag (Bo (Cz PySem.F.plainAttrs_list PySem.F.slot_list_append PySem.F.type_list_append Bl (pv 3) (Aa (AF (Aa (pv 7) (Aa (pv 6) Ab))) Ab)))) (Ad (Bo (D7 D_check_cut hr (Em BD (GA (H:=H) (E:=E))) (Aa (pv 7) (Aa (pv 5) (Aa (pv 6) Ab)))))
   (Ad (Bo (Cz PySem.F.plainAttrs_list PySem.F.slot_list_append PySem.F.type_list_append Bl (pv 4) (Aa (A0 D_other_piece hr (Aa (pv 7) (Aa (pv 5) (Aa (pv 6) Ab)))) Ab)))
   (Ag (Bo (Cz PySem.F.plainAttrs_list PySem.F.slot_list_append PySem.F.type_list_append Bl (pv 4) (Aa (A0 D_first_piece hr (Aa (pv 7) (Aa (pv 5) (Aa (pv 6) Ab)))) Ab))))))))))
   (Ag (An (pv 3)))))),?_⟩
  refine⟨Az 0,λ lf hlf=>⟨_,rfl,_,rfl,Az 4,λ t0 ht0=>⟨Az 1,λ lw hlw=>?_⟩⟩⟩;obtain⟨HA,g,sA,eA⟩:=nw (.lst []) hlf;rw[g] at ht0 hlw |-;obtain⟨HB,g,sB,eB⟩:=nw (.tup [.int 0,.int 0,.int hh,.int ww]) ht0;rw[g] at hlw |-;have sC:Same HB (upd HB lw (.lst [.ref t0])):=Same.new hlw;have eC:(upd HB lw (.lst [.ref t0])) lw=some (.lst [.ref t0]):=Ac;have nfw:lf≠lw:=Af (sB _ _ eA) hlw;have hlw0:H lw=none:=by
   cases e:H lw with
   |none=>rfl
   |some o=>rw[sB _ _ (sA _ _ e)]at hlw;cases hlw
  generalize upd HB lw (.lst [.ref t0])=HC at sC eC |-;have SC:=(sA.trans sB).trans sC;refine⟨_,rfl,v,t,rfl,ho.same SC,hn,λ le xs HD sD nle hle hen=>?_⟩;have hxl:=hen.len;have hel:=Bu t;have nlf:le≠lf:=Ne.symm (Af ((sB.trans sC) _ _ eA) nle);have nlw:le≠lw:=Ne.symm (Af eC nle);refine⟨le,rfl,⟨_,SqL.of hle⟩,EF (K:=K) (a:=le) (xs:=xs) (λ i σ H'=>∃(ts:List PT)(ws:List (Addr×Rk×Tr))(x5 x6 x7:Option V),σ=[some v,some (.int ww),some (.int hh),some (.ref lf),some (.ref lw),x5,x6,x7]/\Same H H'/\H' le=some (.lst xs)/\EnsAt H' xs (ents t) /\
    H' lf=some (.lst (pcs ts))/\PcO H' ts/\ts.length<=i/\H' lw=some (.lst (Bs ws))/\PsAt H' ws/\(ents t).drop i=Dt (trs ws)/\BQ t ww hh=Rp ws/\BC t ⟨0,0,hh,ww⟩=cons ts++PN ws)
   ⟨[],[(t0,⟨0,0,hh,ww⟩,t)],_,_,_,rfl,SC.trans sD,hle,hen,(sD _ _ ((sB.trans sC) _ _ eA)),(λ t ht=>(nomatch ht)),Nat.le_refl _,sD _ _ eC,(λ p hp=>by rw[List.mem_singleton.mp hp];exact sD _ _ (sC _ _ eB)),?_,?_,?_⟩ (λ i σ H' _ hp=>by obtain⟨_,_,_,_,_,_,_,h,_⟩:=hp;exact SqL.of h) ?_ ?_⟩
  .show ents t=Dt [(V.ref t0,t)];rw[Fp];rfl
  .show BQ t ww hh=(BQ t (ww-0) (hh-0)).or none;rw[Option.or_none,Int.sub_zero,Int.sub_zero]
  .have:=DV [] (t0,(⟨0,0,hh,ww⟩:Rk),t);show BC t ⟨0,0,hh,ww⟩=PN ([]++[(t0,(⟨0,0,hh,ww⟩:Rk),t)]);rw[this];exact(List.append_nil _).symm
  .rintro i x σ H' hx ⟨ts,ws,x5,x6,x7,rfl,s1,l1,en1,f1,pc,fl1,w1,p1,heq,hbad,hg⟩;obtain⟨e,a,he,rfl,ha⟩:=en1.get hx;obtain⟨hi,hei⟩:=List.getElem?_eq_some_iff.mp he;have hdr:(ents t).drop i=e::(ents t).drop (i+1):=by rw[List.drop_eq_getElem_cons hi,hei]
   rw[hdr]at heq;have wl:ws.length<=400:=by
    have h1:=EJ (trs ws);have h2:=DE (trs ws);rw[<-heq,<-hdr,List.length_drop]at h2;rw[List.length_map]at h1;lia
   obtain rfl|⟨ws0,p,rfl⟩:=Dc ws
   .cases heq
   have hp0:=p1 p (by simp);rw[Gp,Bn]at heq;rw[Fq]at hbad;rw[DV]at hg;obtain⟨pa,pk,pt⟩:=p;have body:∀w0:V,(enV e)=[w0,(enV e).getD 1 .non]->True:=λ_ _=>trivial;have k2:Kp H' (upd H' lw (.lst (Bs ws0))):=Kp.put w1;have s2:Same H (upd H' lw (.lst (Bs ws0))):=λ b o e=>by rw[Ai (Af e hlw0)];exact s1 b o e
   have l2:(upd H' lw (.lst (Bs ws0))) le=some (.lst xs):=by rw[Ai nlw];exact l1
   have f2:(upd H' lw (.lst (Bs ws0))) lf=some (.lst (pcs ts)):=by rw[Ai nfw];exact f1
   have w2:(upd H' lw (.lst (Bs ws0))) lw=some (.lst (Bs ws0)):=Ac;have ps0:PsAt H' ws0:=λ r hr=>p1 r (List.mem_append_left _ hr);cases pt with
   |whole m =>
    have heq:e::(ents t).drop (i+1)=.w m::Dt (trs ws0):=heq;injection heq with he1 he2;subst he1;refine⟨a,_,rfl,SqT.of ha,rfl,_,_,rfl,_,_,rfl,rfl,?_⟩;refine⟨_,rfl,.inl ⟨rfl,_,SqL.of w1⟩,lw,_,_,rfl,rfl,w1,Jp,?_⟩;rw[Jz];generalize upd H' lw (.lst (Bs ws0))=H2 at k2 s2 l2 f2 w2 |-;refine⟨_,rfl,rfl,_,rfl,AT (decide_eq_true rfl) ?_⟩;refine⟨_,rfl,.inl ⟨rfl,_,SqL.of f2⟩,_,rfl,_,rfl,Az 2,λ t3 ht3=>?_⟩;obtain⟨H3,g,s3,e3⟩:=nw (.tup [.ref pa,Ba m]) ht3;rw[g];have f3:=s3 _ _ f2;refine⟨lf,pcs ts,_,rfl,rfl,f3,Au (by rw[List.length_map];lia),?_⟩;have k4:Kp H3 (upd H3 lf (.lst (pcs ts++[.ref t3]))):=Kp.put f3;have kk:=(k2.trans (F3 s3)).trans k4;have hpa:=kk _ _ hp0 (by intro xs z;cases z);refine⟨ts++[(t3,pa,pk,m)],ws0,_,_,_,rfl,λ b o e=>?_,?_,en1.kp kk,by rw[Ac,Py],?_,by rw[List.length_append,List.length_singleton];lia,?_,ps0.kp kk,he2,?_,?_⟩
    .rw[Ai (Af e hlf)];exact s3 b o (s2 b o e)
    .rw[Ai nlf];exact s3 _ _ l2
    .intro t ht;rcases List.mem_append.mp ht with ht|ht
     .exact pc.kp kk t ht
     .rw[List.mem_singleton.mp ht];exact⟨k4 _ _ e3 (by intro xs z;cases z),hpa⟩
    .rw[Ai (Ne.symm nfw)];exact s3 _ _ w2
    .exact hbad
    .rw[hg,O4,List.append_assoc];rfl
   |cut u k y1 y2 =>
    have heq:e::(ents t).drop (i+1)=.c u k::(ents y1++ents y2)++Dt (trs ws0):=heq;rw[List.cons_append]at heq;injection heq with he1 he2;subst he1;refine⟨a,_,rfl,SqT.of ha,rfl,_,_,rfl,_,_,rfl,rfl,?_⟩;refine⟨_,rfl,.inl ⟨rfl,_,SqL.of w1⟩,lw,_,_,rfl,rfl,w1,Jp,?_⟩;rw[Jz];have hp2:=k2 _ _ hp0 (by intro xs z;cases z);generalize upd H' lw (.lst (Bs ws0))=H2 at k2 s2 l2 f2 w2 hp2 |-;refine⟨_,rfl,rfl,_,rfl,A5 (Bp u) ?_⟩;have fc:=Ql (p:=pk) (u:=u) (k:=k) (x:=y1) (y:=y2);rw[fc]at hbad;refine⟨_,rfl,_,rfl,_,rfl,pa,pk,u,k,rfl,hp2,λ ok=>?_,λ bad=>Pj s2 (r k (by rw[hbad,if_neg bad];rfl)) Gs⟩;rw[if_pos ok,Option.or_assoc]at hbad;refine⟨_,rfl,.inl ⟨rfl,_,SqL.of w2⟩,_,rfl,_,rfl,_,rfl,pa,pk,u,k,rfl,hp2,λ t3 ht3=>?_⟩;obtain⟨H3,g,s3,e3⟩:=nw (.tup (pk.oth u k).vs) ht3;rw[g];have w3:=s3 _ _ w2;rw[List.length_append,List.length_singleton]at wl;refine⟨lw,_,_,rfl,rfl,w3,Au (by rw[List.length_map];lia),?_⟩;have k4:Kp H3 (upd H3 lw (.lst (Bs ws0++[.ref t3]))):=Kp.put w3;have s4:Same H (upd H3 lw (.lst (Bs ws0++[.ref t3]))):=λ b o e=>by rw[Ai (Af e hlw0)];exact s3 b o (s2 b o e)
    have l4:(upd H3 lw (.lst (Bs ws0++[.ref t3]))) le=some (.lst xs):=by rw[Ai nlw];exact s3 _ _ l2
    have f4:(upd H3 lw (.lst (Bs ws0++[.ref t3]))) lf=some (.lst (pcs ts)):=by rw[Ai nfw];exact s3 _ _ f2
    have w4:(upd H3 lw (.lst (Bs ws0++[.ref t3]))) lw=some (.lst (Bs ws0++[.ref t3])):=Ac;have kk4:=(F3 s3).trans k4;generalize upd H3 lw (.lst (Bs ws0++[.ref t3]))=H4 at k4 s4 l4 f4 w4 kk4 |-;have hp4:=kk4 _ _ hp2 (by intro xs z;cases z);have e4:=k4 _ _ e3 (by intro xs z;cases z);refine⟨_,rfl,.inl ⟨rfl,_,SqL.of w4⟩,_,rfl,_,rfl,_,rfl,pa,pk,u,k,rfl,hp4,λ t5 ht5=>?_⟩;obtain⟨H5,g,s5,e5⟩:=nw (.tup (pk.fst u k).vs) ht5;rw[g];have w5:=s5 _ _ w4;refine⟨lw,_,_,rfl,rfl,w5,Au (by rw[List.length_append,List.length_map,List.length_singleton];lia),?_⟩;have k6:Kp H5 (upd H5 lw (.lst (Bs ws0++[.ref t3]++[.ref t5]))):=Kp.put w5;have kk6:=(F3 s5).trans k6;have kall:=(k2.trans kk4).trans kk6;refine⟨ts,ws0++[(t3,pk.oth u k,y2)]++[(t5,pk.fst u k,y1)],_,_,_,rfl,λ b o e=>?_,?_,en1.kp kall,?_,pc.kp kall,by lia,?_,λ r hr=>?_,?_,?_,?_⟩
    .rw[Ai (Af e hlw0)];exact s5 b o (s4 b o e)
    .rw[Ai nlw];exact s5 _ _ l4
    .rw[Ai nfw];exact s5 _ _ f4
    .rw[Ac,Jj,Jj]
    .rcases List.mem_append.mp hr with hr|hr
     .rcases List.mem_append.mp hr with hr|hr
      .exact kall _ _ (ps0 r hr) (by intro xs z;cases z)
      .rw[List.mem_singleton.mp hr];exact kk6 _ _ e4 (by intro xs z;cases z)
     .rw[List.mem_singleton.mp hr];exact k6 _ _ e5 (by intro xs z;cases z)
    .rw[he2,Gp,Gp,Bn,Bn,List.append_assoc]
    .rw[hbad,Fq,Fq]
    .rw[hg,BC,DV,DV,List.append_assoc]
  .rintro σ H' ⟨ts,ws,x5,x6,x7,rfl,s1,l1,en1,f1,pc,fl1,w1,p1,heq,hbad,hg⟩;rw[hxl,List.drop_length]at heq;have wn:ws=[]:=by
    have h1:=EJ (trs ws);have h2:=DE (trs ws);rw[<-heq]at h2;rw[List.length_map]at h1;exact List.length_eq_zero_iff.mp (by simp at h2;lia)
   subst wn;exact⟨_,rfl,q hbad lf ts H' s1 hlf f1 pc (by rw[hg];exact(List.append_nil _).symm)⟩
def QW:Expr:=match (AB Br).getD 1 (.Pass ⟨0,0,0,0⟩) with
 |.Return (some (.Call _ _ [k] _)) _=>k.value
 |_=>.Constant .none 0 ⟨0,0,0,0⟩
def T5:Arguments:=match QW with|.Lambda p _ _ _=>p|_=>By Br
def Sy:Expr:=match QW with|.Lambda _ b _ _=>b|e=>e
def QV:Scope:=match QW with|.Lambda _ _ s _=>s|_=>Ah Br
def Iu:Pos:=match QW with|.Lambda _ _ _ q=>q|_=>⟨0,0,0,0⟩
def FM:Str:="pieces.<locals>.<lambda>"
theorem TU:Al ["piece"] ["piece"] QV:=fsc
def Qv(H:Hp)(l:Addr):Prop:=∀o,H l=some o->∃ps,o=.tbl ps
theorem Tw{H H':Hp}{l:Addr}(s:SameN H H')(h:H' l=none):Qv H l:=λ o e=>Classical.byContradiction λ z=>by
 have:=s l o e (λ ps e'=>z ⟨ps,e'⟩);rw[h]at this;cases this
theorem Obj.n{H H':Hp}(s:SameN H H'):∀{t:Tr}{v:V},Obj cW cU cL H t v->Obj cW cU cL H' t v
 |.whole m,v,h=>by
  rw[Obj]at h |-;obtain⟨a,dx,e,h⟩:=h;exact⟨a,dx,e,s _ _ h λ_ z=>nomatch z⟩
 |.cut u k x y,v,h=>by
  rw[Obj]at h |-;obtain⟨a,dx,vx,vy,e,h,h1,h2⟩:=h;exact⟨a,dx,vx,vy,e,s _ _ h (λ_ z=>nomatch z),Obj.n s h1,Obj.n s h2⟩
theorem Nn{x:V}(h:Bq x=true):∃i:Int,x=.int i/\1<=i/\i<=12:=by
 cases x with
 |int i =>
  have h:(decide (1<=i)&&decide (i<=12))=true:=h;rw[Bool.and_eq_true]at h;exact⟨i,rfl,of_decide_eq_true h.1,of_decide_eq_true h.2⟩
 |_=>cases h
inductive HV(tb cW cU cL cN cS:Addr)(vs:LUz)(H:Hp)(Q:VK)(E:XK):Prop
 |mk (v:V) (t:Tr) (x y:V) (h0:vs=[v,x,y]) (h1:Ty H x) (h2:Ty H y) (h3:Obj cW cU cL H t v) (h4:t.nd<=400) (h5:TabOk Iu FM tb H) (h6:(Bq x=false->Rf H E cS λ fs _=>fs=[(("side":Str),x)])) (h7:(Bq x=true->Bq y=false->Rf H E cS λ fs _=>fs=[(("side":Str),y)])) (h8:∀ww hh:Int,x=.int ww->y=.int hh->1<=ww->ww<=12->1<=hh->hh<=12->(∀k,BQ t ww hh=some k->Rf H E cN λ fs _=>fs=[(("at":Str),.int k)]) /\
  (BQ t ww hh=none->∀l ts H',SameN H H'->TabOk Iu FM tb H'->Qv H l->H' l=some (.lst (pcs ts))->PcO H' ts->Due t ww hh (cons ts)->Q (.ref l) H')):HV tb cW cU cL cN cS vs H Q E
def DM(tb cW cU cL cN cS:Addr) :Sp:=λ vs H Q E=>HV tb cW cU cL cN cS vs H Q E
theorem Qn:Al ["tree","width","height"] ["tree","width","height"] (Ah Br):=fsc
theorem Og{f:Addr}{fd:FuncData}{cN cS c tb:Addr}(F:FunC K "pieces" "pieces" Br f fd c)(T:Txt mg tk)(hC:K1 K c tb=true)(hB:ST K mg)(D_check_sides:BR P w K mg base 3 "check_sides" ["width","height"] (EW cS))(D_cut_out:BR P w K mg base 4 "cut_out" ["tree","width","height"] (JU cW cU cL cN)) :
  A9 P w K mg base (CX1 P w) 5 f fd ["tree","width","height"] (DM tb cW cU cL cN cS):=by
 have S:=Qn;refine F.okx S (λ vs H Q E h=>?_) (λ A outer s H vs Q E hr h=>?_)
 .obtain⟨v,t,x,y,rfl,_⟩:=h;rfl
 .obtain⟨v,t,x,y,rfl,tx,ty,ho,hn,tab,r1,r2,q⟩:=h;have hlam:=Sl (X:=Bv (CX1 P w) P w K mg base ["tree","width","height"] "pieces" (Ah Br) f (.ref c) A outer s H E) (params:=T5) (body:=Sy) (scope:=QV) (pos:=Iu) (qual:=FM) (clos:=[]) rfl (codeTB_of hC) hB rfl rfl rfl;have hbind:∀(s:Shared)(pm ctv u:Value)(c':Addr),BindsTo s (kla_fn "<lambda>" FM T5 Sy QV [] pm (.ref c') ctv) ⟨[u],[]⟩ ((["piece"]:LSz).zip [u]):=λ_ _ _ _ _=>.of_eq rfl;have hbody:∀(A:Around)(outer:List Env)(s:Shared)(H:Hp)(f c':Addr),PE (Bv CX0 P w K mg base ["piece"] FM QV f (.ref c') A outer s H E0) Sy (tOp (Ob K) (FG 0) (tC (.int 0))):=λ_ _ _ _ _ _=>Ap Ar (pv 0) Ae (λ_ _=>rfl);have hrl:Room (1+3) (A.deeper (PyProof.Rows.envOfC "pieces" (Ah Br) s.heap.objs.size f (.ref c))):=hr;refine⟨_,(Ad (Bo (D7 D_check_sides hr (Em BD (GA (H:=H) (E:=E))) (Aa (pv 1) (Aa (pv 2) Ab))))
   (Ag (An (Od rfl T.z_sorted (Aa (D7 D_cut_out hr (Em BD (GA (H:=H) (E:=E))) (Aa (pv 0) (Aa (pv 1) (Aa (pv 2) Ab)))) Ab) hlam TU rfl hrl hbind hbody)))),?_⟩
  refine⟨_,rfl,_,rfl,x,y,rfl,tx,ty,λ hx hy H1 s1=>?_,λ z=>Pj (Same.refl H) (r1 z) Gs,λ y z=>Pj (Same.refl H) (r2 y z) Gs⟩;obtain⟨ww,rfl,w1,w2⟩:=Nn hx;obtain⟨hh,rfl,h1,h2⟩:=Nn hy;obtain⟨qb,q⟩:=q ww hh rfl rfl w1 w2 h1 h2;refine⟨_,rfl,_,rfl,_,rfl,v,t,ww,hh,rfl,ho.same s1,hn,λ hb l ts H2 s2 nl hl pc ec=>?_,λ k hk=>Pj s1 (qb k hk) Gs⟩;have fit:=bad_none.mp hb;have inn:∀t'∈ts,GB.Rc.In ww hh t'.2.2.1:=λ t' ht'=>N5 w1 h1 fit t'.2.2 (ec ▸ List.mem_map.mpr ⟨t',ht',rfl⟩);unfold KS;simp only[];refine TabOk.lam (tab.same (s1.trans s2)) λ c' fl ctv H3 s3 tab3 hf hc hnew=>?_;refine⟨fl,c',l,ctv,Addr×Rk×Option Int,ts,λ t'=>(t'.2.1,t'.2.2.1.ls),3,GB.key,rfl,hf,hc,rfl,SqL.of (s3.lst hl),λ t' ht'=>⟨rfl,((pc.n s3) t' ht').2⟩,λ t' ht'=>⟨_,rfl,t'.1,_,_,_,rfl,rfl,SqT.of ((pc.n s3) t' ht').1,Cc,rfl,rfl⟩,λ t' ht' u' hu'=>GB.key_lt (inn t' ht') (inn u' hu') w2 h2 w2 h2,λ l' ts' nl' pm srt=>?_⟩;have s4:Same H3 (upd H3 l' (.lst (pcs ts'))):=Same.new nl';have sN:SameN H H3:=((s1.trans s2).n).trans s3;exact q hb l' ts' _ (sN.trans s4.n) (tab3.same s4) (Tw sN nl') Ac (((pc.n s3).perm pm).same s4) ⟨ec ▸ pm.map _,by rw[List.map_map];exact srt⟩
def RfN(H:Hp)(E:XK)(C:Addr)(P:LFz->Hp->Prop):Prop:=∀x d fs H',Qv H x->SameN H H'->XR H' x C (some d) fs->P fs H'->E (.ref x) (some d) H'
def XEN(H:Hp)(R:Addr->LFz->Hp->Prop):XK:=λ v d H'=>∃x C dx fs,v=.ref x/\d=some dx/\Qv H x/\SameN H H'/\XR H' x C (some dx) fs/\R C fs H'
def SR(P:LFz->Hp->Prop):Prop:=∀fs H' x C d T2,P fs H'->XR H' x C d fs->H' T2=none->P fs (thrown H' x C d T2)
def RUN(H:Hp)(E:XK):Addr->LFz->Hp->Prop:=λ C fs H'=>∃P,RfN H E C P/\P fs H'/\SR P
theorem RI{H H1:Hp}{x C C':Addr}{d:Option Addr}{T T2:Addr}{fs:LFz}(hx:Qv H1 x)(s:SameN H1 H)(r:XR H x C d fs)(fl:CZ H x C' d T)(hT:H T2=none) :
  C=C'/\XR (thrown H x C' d T2) x C d fs/\SameN H1 (thrown H x C' d T2):=by
 have r0:=r;obtain⟨⟨dx,rfl,nd,ed⟩,T',e⟩:=r;have q:C=C':=by
  have:=fl.1;rw[e]at this;exact(LC (Option.some.inj this)).1
 subst q;refine⟨rfl,⟨⟨dx,rfl,nd,by rw[AL nd (Af ed hT)];exact ed⟩,T2,CM⟩,λ a o ho no=>?_⟩;rw[AL (λ z=>by subst z;obtain⟨ps,rfl⟩:=hx o ho;exact no ps rfl) (Af (s a o ho no) hT)];exact s a o ho no
theorem N0{H:Hp}{E:XK}:∀x C d T T2 H',XEN H (RUN H E) (.ref x) d H'->CZ H' x C d T->H' T2=none->T2≠x->E (.ref x) d (thrown H' x C d T2):=by
 rintro x C d T T2 H' ⟨x',C',dx,fs,ev,rfl,hx,s,r,P,rf,p,st⟩ fl hT2 nT2;obtain rfl:x=x':=Value.ref.inj ev;obtain⟨rfl,r2,s2⟩:=RI hx s r fl hT2;exact rf x dx fs _ hx s2 r2 (st fs H' x C' (some dx) T2 p r hT2)
theorem Nq{H H2:Hp}{E:XK}{C:Addr}{P P':LFz->Hp->Prop}(s:SameN H H2)(r:RfN H E C P)(st:SR P)(hp:∀fs H',Same H2 H'->P' fs H'->P fs H'):Rf H2 (XEN H (RUN H E)) C P':=λ x d fs H' hx s2 xr p =>
 ⟨x,C,d,fs,rfl,rfl,Tw s hx,s.trans s2.n,xr,P,r,hp fs H' s2 p,st⟩
theorem Rv{C x T:Addr}{d:Option Addr}{q:Str}:IJ C d x T≠C5 x q:=λ h=>by
 have h:(HO.ext λ h=>∃vs sl,h.get? x=some ⟨.ref C,d,.fields vs,sl⟩/\vs[1]?=some (.ref T))=HO.ext λ h=>∃o vs t,h.get? x=some o/\o.data=.fields vs/\vs[1]?=some (.str q t):=h;injection h with h;have e:=congrFun h ((Do x).push ⟨.ref C,d,.fields #[.none,.ref T],#[]⟩);have g:((Do x).push ⟨.ref C,d,.fields #[.none,.ref T],#[]⟩).get? x=some ⟨.ref C,d,.fields #[.none,.ref T],#[]⟩:=Heap.get?_push_at (Dn x).symm rfl;obtain⟨o,vs,t,e1,e2,e3⟩:=e.mp ⟨_,_,g,rfl⟩;rw[g]at e1;cases e1;cases e2;cases e3
theorem TabOk.thrown{pos:Pos}{qual:Str}{T x C T2:Addr}{d:Option Addr}{H:Hp}{fs:LFz}(h:TabOk pos qual T H)(r:XR H x C d fs)(hT:H T2=none):TabOk pos qual T (L2.thrown H x C d T2):=by
 obtain⟨ps,e,t,c⟩:=h;obtain⟨_,T',ex⟩:=r;refine⟨ps,by rw[AL (λ z=>by rw[z,ex]at e;cases e) (Af e hT)];exact e,t,?_⟩;rcases c with c|⟨c',c1,c2⟩
 .exact .inl c
 .exact .inr ⟨c',c1,by rw[AL (λ z=>by rw[z,ex]at c2;exact Rv (Option.some.inj c2)) (Af c2 hT)];exact c2⟩
abbrev Qs(tb:Addr)(l:LFz):LFz->Hp->Prop:=λ fs H'=>fs=l/\TabOk Iu FM tb H'
theorem FS{tb:Addr}{l:LFz}:SR (Qs tb l):=λ_ _ _ _ _ _ p r hT=>⟨p.1,TabOk.thrown p.2 r hT⟩
def tE:En->En
 |.w m=>.w m
 |.c u k=>.c (!u) k
inductive JI(vs:LUz)(H:Hp)(Q:VK)(E:XK):Prop
 |mk (e:En) (h0:vs=[(enV e).headD .non]) (h1:Q ((enV (tE e)).headD .non) H):JI vs H Q E
def KW:Sp:=λ vs H Q E=>JI vs H Q E
theorem I9:Al ["word"] ["word"] (Ah C6):=fsc
theorem GI{f:Addr}{fd:FuncData}(F:Fun K "turned_word" "turned_word" C6 f fd)(T:Txt mg tk):A9 P w K mg base CX0 1 f fd ["word"] KW:=by
 have S:=I9;refine F.ok S (λ vs H Q E h=>?_) (λ cdv A outer s H vs Q E hr h=>?_)
 .obtain⟨e,rfl,_⟩:=h;rfl
 .obtain⟨e,rfl,q⟩:=h;refine⟨_,(Ad (A6 (Ak AO (pv 0) (A7 (v:=.str "whole") rfl T.g_WHOLE ⟨_,rfl⟩) (Am _)) (Ag (An (A7 (v:=.str "whole") rfl T.g_WHOLE ⟨_,rfl⟩))) Ao)
   (Ag (An (AY (Ak AO (pv 0) (A7 (v:=.str "upright") rfl T.g_UPRIGHT ⟨_,rfl⟩) (Am _)) (A7 (v:=.str "level") rfl T.g_LEVEL ⟨_,rfl⟩) (A7 (v:=.str "upright") rfl T.g_UPRIGHT ⟨_,rfl⟩))))),?_⟩
  cases e with
  |w m=>exact⟨_,rfl,rfl,_,rfl,AT (decide_eq_true rfl) q⟩
  |c u k =>
   refine⟨_,rfl,rfl,_,rfl,A5 (Bp u) ?_⟩;cases u with
   |true=>exact⟨_,rfl,rfl,_,rfl,AT (Bc true true) q⟩
   |false=>exact⟨_,rfl,rfl,_,rfl,A5 (Bc false true) q⟩
def trn:Tr->Tr
 |.whole m=>.whole m
 |.cut u k x y=>.cut (!u) k (trn x) (trn y)
theorem Hv:∀t:Tr,ents (trn t)=(ents t).map tE
 |.whole _=>rfl
 |.cut u k x y=>by rw[trn,ents,ents,List.map_cons,List.map_append,Hv x,Hv y];rfl
theorem Kk:∀t:Tr,(trn t).nd=t.nd
 |.whole _=>rfl
 |.cut u k x y=>by rw[trn,Tr.nd,Tr.nd,Kk x,Kk y]
theorem JQ:∀t:Tr,trn (trn t)=t
 |.whole _=>rfl
 |.cut u k x y=>by rw[trn,trn,JQ x,JQ y,Bool.not_not]
theorem Q8(e:En):(enV (tE e))=[(enV (tE e)).headD .non,(enV e).getD 1 .non]:=by cases e<;>rfl
theorem SK(e:En):(enV e)=[(enV e).headD .non,(enV e).getD 1 .non]:=by cases e<;>rfl
inductive FC(cW cU cL:Addr)(vs:LUz)(H:Hp)(Q:VK)(E:XK):Prop
 |mk (v:V) (t:Tr) (h0:vs=[v]) (h1:Obj cW cU cL H t v) (h2:t.nd<=400) (h3:∀v' H',Same H H'->Obj cW cU cL H' (trn t) v'->Q v' H'):FC cW cU cL vs H Q E
def Ec(cW cU cL:Addr) :Sp:=λ vs H Q E=>FC cW cU cL vs H Q E
theorem IE:Al ["self"] ["self"] (Ah B3):=fsc
theorem Ct{f:Addr}{fd:FuncData}(F:Fun K "turned" "Tree.turned" B3 f fd)(T:Txt mg tk)(D_entries_of:AC P w K mg base 3 "entries_of" ["tree"] (BN cW cU cL))(D_turned_word:AC P w K mg base 1 "turned_word" ["word"] KW)(D_tree_from:AC P w K mg base 4 "tree_from" ["entries"] (FU K cW cU cL)) :
  A9 P w K mg base CX0 5 f fd ["self"] (Ec cW cU cL):=by
 have S:=IE;refine F.ok S (λ vs H Q E h=>?_) (λ cdv A outer s H vs Q E hr h=>?_)
 .obtain⟨v,t,rfl,_⟩:=h;rfl
 .obtain⟨v,t,rfl,ho,hn,q⟩:=h;refine⟨_,(Ag (An (A0 D_tree_from hr (Aa (Cy rfl (BH (A0 D_entries_of hr (Aa (pv 0) Ab))) (λ_ _ _ _ _=>(DQ (K:=K) (n:=2) rfl (Aw (Aq (i:=0) (show List.Nodup (["word","number"]:LSz) from by decide +kernel) rfl (Or.inl rfl)) (Aw (Aq (i:=1) (show List.Nodup (["word","number"]:LSz) from by decide +kernel) rfl (Or.inl rfl)) Bf)))) (λ_ _ _ _ _=>(AF (Aa (A0 D_turned_word hr (Aa (pv 0) Ab)) (Aa (pv 1) Ab)))) (N:=["word","number"]) (fr:=[none,none])) Ab)))),?_⟩;refine⟨_,rfl,v,t,rfl,ho,hn,λ l xs H1 s1 nl hl hen=>?_⟩;have hxl:=hen.len;have hel:=Bu t;refine⟨l,rfl,⟨_,SqL.of hl⟩,λ acc hacc=>CW (K:=K) (a:=l) (ys:=xs) (λ i zs σ H'=>(∃y0 y1,σ=[y0,y1])/\Same H1 H'/\EnsAt H' zs (((ents t).take i).map tE)) ⟨⟨none,none,rfl⟩,Same.new hacc,trivial⟩ (λ i zs σ H' _ _ hp=>SqL.of (hp.2.1 _ _ hl)) ?_ ?_⟩
  .rintro i x zs σ H' hx hi hl' hacc' ⟨⟨y0,y1,rfl⟩,hs,hz⟩;obtain⟨e,a,he,rfl,ha⟩:=hen.get hx;have ha':=hs _ _ ha;rw[SK e]at ha';have tk1:(ents t).take (i+1)=(ents t).take i++[e]:=by rw[List.take_succ,he];rfl
   refine⟨a,_,rfl,SqT.of ha',rfl,_,_,rfl,_,_,rfl,rfl,_,rfl,e,rfl,_,rfl,Az 2,λ t3 ht3=>?_⟩;have s3:Same H' (upd H' t3 (.tup [(enV (tE e)).headD .non,(enV e).getD 1 .non])):=Same.new ht3;have e3:(upd H' t3 (.tup [(enV (tE e)).headD .non,(enV e).getD 1 .non])) t3=some (.tup (enV (tE e))):=by rw[Ac,<-Q8]
   generalize upd H' t3 (.tup [(enV (tE e)).headD .non,(enV e).getD 1 .non])=H3 at s3 e3 |-;have a3:=s3 _ _ hacc';refine cNx.mk (Nat.le_of_lt (Au (by lia))) hi hl' a3 ⟨⟨_,_,rfl⟩,λ b o e=>?_,?_⟩
   .rw[Ai (Af e hacc)];exact s3 b o (hs b o e)
   .rw[tk1,List.map_append];exact((hz.kp (F3 s3)).kp (Kp.put a3)).snoc (Kp.put a3 _ _ e3 (by intro xs z;cases z))
  .rintro zs σ H' hl' hacc' ⟨_,hs,hz⟩;rw[hxl,List.take_length,<-Hv]at hz;exact⟨acc,zs,trn t,rfl,SqL.of hacc',hz,by rw[Kk];exact hn,λ v' H'' s'' o''=>q v' H'' ((s1.trans hs).trans s'') o''⟩
theorem DC:∀{t:Tr}{p:Rk},FQ p t->∀r c,p.t<=r->r<p.b->p.l<=c->c<p.r->∃g∈BC t p,GB.Rc.has g.1 r c
 |.whole m,p,_,r,c,a1,a2,a3,a4=>⟨(p,m),by rw[BC];exact List.mem_singleton.mpr rfl,a1,a2,a3,a4⟩
 |.cut u k x y,p,f,r,c,a1,a2,a3,a4=>by
  rw[EH]at f;obtain⟨⟨b1,b2⟩,fx,fy⟩:=f;rw[BC];cases u with
  |true =>
   by_cases h:c<p.l+k
   .obtain⟨g,hg,z⟩:=DC (p:=p.fst true k) fx r c a1 a2 a3 h;exact⟨g,List.mem_append_left _ hg,z⟩
   .obtain⟨g,hg,z⟩:=DC (p:=p.oth true k) fy r c a1 a2 (show p.l+k<=c by lia) a4;exact⟨g,List.mem_append_right _ hg,z⟩
  |false =>
   by_cases h:r<p.t+k
   .obtain⟨g,hg,z⟩:=DC (p:=p.fst false k) fx r c a1 h a3 a4;exact⟨g,List.mem_append_left _ hg,z⟩
   .obtain⟨g,hg,z⟩:=DC (p:=p.oth false k) fy r c (show p.t+k<=r by lia) a2 a3 a4;exact⟨g,List.mem_append_right _ hg,z⟩
theorem Hk:∀{t:Tr}{p:Rk},p.t<p.b->p.l<p.r->FQ p t->((BC t p).map (·.1)).Pairwise GB.Apart
 |.whole m,p,_,_,_=>by rw[BC];exact List.pairwise_singleton _ _
 |.cut u k x y,p,h1,h2,f=>by
  rw[EH]at f;obtain⟨⟨a,b⟩,fx,fy⟩:=f;obtain⟨⟨a1,a2⟩,b1,b2⟩:((p.fst u k).t<(p.fst u k).b/\(p.fst u k).l<(p.fst u k).r)/\(p.oth u k).t<(p.oth u k).b/\(p.oth u k).l<(p.oth u k).r:=by
   cases u with
   |true =>
    have b:k<p.r-p.l:=b;exact⟨⟨h1,show p.l<p.l+k by lia⟩,h1,show p.l+k<p.r by lia⟩
   |false =>
    have b:k<p.b-p.t:=b;exact⟨⟨show p.t<p.t+k by lia,h2⟩,show p.t+k<p.b by lia,h2⟩
  rw[BC,List.map_append,List.pairwise_append];refine⟨Hk a1 a2 fx,Hk b1 b2 fy,λ q hq q' hq' r c z z'=>?_⟩;obtain⟨g,hg,rfl⟩:=List.mem_map.mp hq;obtain⟨g',hg',rfl⟩:=List.mem_map.mp hq';have i1:=BJ a1 a2 fx g hg;have i2:=BJ b1 b2 fy g' hg';obtain⟨z1,z2,z3,z4⟩:=z;obtain⟨z5,z6,z7,z8⟩:=z';cases u with
  |true =>
   have i1:p.t<=g.1.t/\g.1.t<g.1.b/\g.1.b<=p.b/\p.l<=g.1.l/\g.1.l<g.1.r/\g.1.r<=p.l+k:=i1;have i2:p.t<=g'.1.t/\g'.1.t<g'.1.b/\g'.1.b<=p.b/\p.l+k<=g'.1.l/\g'.1.l<g'.1.r/\g'.1.r<=p.r:=i2;lia
  |false =>
   have i1:p.t<=g.1.t/\g.1.t<g.1.b/\g.1.b<=p.t+k/\p.l<=g.1.l/\g.1.l<g.1.r/\g.1.r<=p.r:=i1;have i2:p.t+k<=g'.1.t/\g'.1.t<g'.1.b/\g'.1.b<=p.b/\p.l<=g'.1.l/\g'.1.l<g'.1.r/\g'.1.r<=p.r:=i2;lia
theorem Hi{t:Tr}{ww hh:Int}(w1:1<=ww)(h1:1<=hh)(f:Fit t ww hh):GB.Tiles ww hh ((BC t ⟨0,0,hh,ww⟩).map (·.1)):=by
 refine⟨λ p hp=>?_,Hk (p:=⟨0,0,hh,ww⟩) (show(0:Int)<hh by lia) (show(0:Int)<ww by lia) (Ro f),λ r c a1 a2 a3 a4=>?_⟩
 .obtain⟨g,hg,rfl⟩:=List.mem_map.mp hp;exact N5 w1 h1 f g hg
 .obtain⟨g,hg,z⟩:=DC (p:=⟨0,0,hh,ww⟩) (Ro f) r c a1 a2 a3 a4;exact⟨g.1,List.mem_map.mpr ⟨g,hg,rfl⟩,z⟩
inductive HW(K:Frag)(cM:Addr)(vs:LUz)(H:Hp)(Q:VK)(E:XK):Prop
 |mk (l sh:Addr) (w h:Int) (ts:List (Addr×Rc)) (h0:vs=[.ref l,.ref sh]) (h1:SqL K H l (Cl ts)) (h2:At H ts) (h3:H sh=some (.tup (DD 0 0 h w))) (h4:(∀p∈rcs ts,p.In w h)) (h5:(ts.length<=52->∀H',Same H H'->Q .non H')) (h6:(52<ts.length->Rf H E cM λ fs _=>fs=[(("many":Str),.int (ts.length:Int))])):HW K cM vs H Q E
def IZ(K:Frag)(cM:Addr) :Sp:=λ vs H Q E=>HW K cM vs H Q E
inductive Ib(K:Frag)(C cM:Addr)(vs:LUz)(H:Hp)(Q:VK)(E:XK):Prop
 |mk (a dx l:Addr) (w h:Int) (ts:List (Addr×Rc)) (h0:vs=[.ref a,.int w,.int h,.ref l]) (h1:H a=some (.ins C dx [])) (h2:SqL K H l (Cl ts)) (h3:At H ts) (h4:GB.Tiles w h (rcs ts)) (h5:(1<=w/\w<=12)) (h6:(1<=h/\h<=12)) (h7:(ts.length<=52->∀(ts':List (Addr×Rc))(ls ld:Addr)(kvs:LKz)(H':Hp),SameX a H H'->ts'.Perm ts->PanelAt C H' a w h ts' dx ls ld kvs->Q .non H')) (h8:(52<ts.length->Rf H E cM λ fs _=>fs=[(("many":Str),.int (ts.length:Int))])):Ib K C cM vs H Q E
def Jf(K:Frag)(C cM:Addr) :Sp:=λ vs H Q E=>Ib K C cM vs H Q E
theorem GM{f:Addr}{fd:FuncData}(F:Fun K "check_panes" "check_panes" CA f fd){cM cP:Addr}(T:Txt mg tk)(X_TooMany:JE P w K mg base 1 "TooMany" cM ["self","many"] ["many"])(X_NoPane:JE P w K mg base 1 "NoPane" cP ["self","place"] ["place"])(D_is_rectangle:AC P w K mg base 2 "is_rectangle" ["thing"] Ni)(D_inside:AC P w K mg base 1 "inside" ["one","other"] Jc) :
  A9 P w K mg base (CX1 P w) 3 f fd ["panes","sheet"] (IZ K cM):=by
 have S:=ID;refine F.okx S (λ vs H Q E h=>?_) (λ cdv A outer s H vs Q E hr h=>?_)
 .obtain⟨l,sh,w,h,ts,rfl,_⟩:=h;rfl
 .obtain⟨l,sh,w,h,ts,rfl,hl,hat,hsh,hin,q,qm⟩:=h;refine⟨_,(Ad (A6 (Ak Fz (A3 AD rfl T.z_len rfl (Aa (pv 0) Ab)) (A7 (v:=.int 52) rfl T.g_MOST_PANES ⟨_,rfl⟩) (Am _)) (Ag (EA BD X_TooMany hr (Aa (A3 AD rfl T.z_len rfl (Aa (pv 0) Ab)) Ab))) Ao)
   (Ag (B7 Ms rfl (JY rfl T.z_enumerate (Aa (pv 0) Ab)) (CG rfl (Aw (Aq (i:=2) S.nd rfl (Or.inl rfl)) (Aw (Aq (i:=3) S.nd rfl (Or.inl rfl)) Bf))) (Ag (A6 (PW.pt (Ca (BG (BO (A0 D_is_rectangle hr (Aa (pv 3) Ab)))) (Cg (BG (BO (A0 D_inside hr (Aa (pv 3) (Aa (pv 1) Ab)))))))) (Ag (EA BD X_NoPane hr (Aa (pv 2) Ab))) Ao))))),?_⟩
  refine⟨_,rfl,l,_,rfl,.inl hl,_,_,rfl,rfl,_,rfl,BB (λ c=>?_) (λ c=>?_)⟩
  .have c:=of_decide_eq_true c;rw[List.length_map]at c;exact⟨_,rfl,l,_,rfl,.inl hl,rfl,λ y dx T H2 hy s2 e ed nd hT nT=>(qm (by lia)).raise (Same.refl H) hy s2 e ed nd hT (by rw[List.length_map];rfl)⟩
  have c:=of_decide_eq_false c;rw[List.length_map]at c;have hlen:ts.length<=52:=by lia
  refine⟨_,rfl,l,rfl,⟨_,hl⟩,Hl (K:=K) (a:=l) (xs:=Cl ts) (λ i σ H'=>(∃x y,σ=[some (.ref l),some (.ref sh),x,y])/\Same H H') ⟨⟨none,none,rfl⟩,Same.refl H⟩ (λ i σ H' _ hp=>hp.2.seq hl) ?_ ?_⟩
  .rintro i x σ H' t hx ⟨⟨x0,y0,rfl⟩,hs⟩ ht;obtain⟨u,hu,rfl⟩:=G2 hx;have hum:=List.mem_of_getElem? hu;have hsT:=Same.new (o:=.tup [.int i,.ref u.1]) ht;have s1:=hs.trans hsT;have hui:=hin u.2 (List.mem_map.mpr ⟨u,hum,rfl⟩);have hua:=s1 _ _ (hat u hum);refine⟨t,_,rfl,SqT.of Ac,rfl,_,_,rfl,_,_,rfl,rfl,?_⟩;refine⟨_,rfl,_,rfl,.inl ⟨u.1,_,rfl,hua,(by show(4:Nat)<=100;decide),Rj,λ H2 s2=>⟨_,rfl,A5 (by rw[Rb hui];rfl) ?_⟩⟩⟩;refine⟨_,rfl,_,rfl,u.1,sh,_,_,_,_,_,_,_,_,rfl,s2 _ _ hua,s2 _ _ (s1 _ _ hsh),_,rfl,A5 (by rw[SE hui];rfl) ?_⟩;exact⟨⟨_,_,rfl⟩,s1.trans s2⟩
  .rintro σ H' ⟨⟨x0,y0,rfl⟩,hs⟩;exact q hlen H' hs
theorem Im{f:Addr}{fd:FuncData}(F:Fun K "__init__" "Panel.__init__" Di f fd)(T:Txt mg tk)(PC:Qt K C){cS cM:Addr}(D_check_sides:BR P w K mg base 3 "check_sides" ["width","height"] (EW cS))(D_check_panes:BR P w K mg base 3 "check_panes" ["panes","sheet"] (IZ K cM))
  (D_panes_by_square:AC P w K mg base 2 "panes_by_square" ["panes"] (E6 K)) (D_check_covered:AC P w K mg base 2 "check_covered" ["by_square","sheet"] CQ):A9 P w K mg base (CX1 P w) 4 f fd ["self","width","height","panes"] (Jf K C cM):=by
 have S:=KB;refine F.okx S (λ vs H Q E h=>?_) (λ cdv A outer s H vs Q E hr h=>?_)
 .obtain⟨a,dx,l,w,h,ts,rfl,_⟩:=h;rfl
 .obtain⟨a,dx,l,w,h,ts,rfl,hob,hl,hat,til,gw,gh,q,qm⟩:=h;refine⟨_,(Ad (Bo (D7 D_check_sides hr (Em BD (GA (H:=H) (E:=E))) (Aa (pv 1) (Aa (pv 2) Ab))))
   (Ad (As (i:=4) S.nd rfl (Or.inl rfl) (AF (Aa Ae (Aa Ae (Aa (pv 2) (Aa (pv 1) Ab))))))
   (Ad (Bo (D7 D_check_panes hr (Em BD (GA (H:=H) (E:=E))) (Aa (pv 3) (Aa (pv 4) Ab))))
   (Ad (Mo rfl (Aq (i:=5) S.nd rfl (Or.inl rfl)) (BH (pv 3)) (λ_ _ _ _ _=>(Aq (i:=0) (show List.Nodup (["pane"]:LSz) from by decide +kernel) rfl (Or.inl rfl))) (λ_ _ _ _ _=>(Bk (K2 (K:=K)) rfl T.z_tuple rfl (Aa (pv 0) Ab))) (N:=["pane"]) (fr:=[none]))
   (Ad (As (i:=6) S.nd rfl (Or.inl rfl) (A0 D_panes_by_square hr (Aa (pv 5) Ab)))
   (Ad (Bo (A0 D_check_covered hr (Aa (pv 6) (Aa (pv 4) Ab))))
   (Ad (Cs (pv 0) (pv 1) rfl)
   (Ad (Cs (pv 0) (pv 2) rfl)
   (Ad (Cs (pv 0) (A3 K3 rfl T.z_sorted rfl (Aa (pv 5) Ab)) rfl)
   (Ag (Cs (pv 0) (pv 6) rfl))))))))))),?_⟩
  have sw:Bq (.int w)=true:=by show(decide (1<=w)&&decide (w<=12))=true;rw[decide_eq_true gw.1,decide_eq_true gw.2];rfl
  have sh:Bq (.int h)=true:=by show(decide (1<=h)&&decide (h<=12))=true;rw[decide_eq_true gh.1,decide_eq_true gh.2];rfl
  refine⟨_,rfl,_,rfl,.int w,.int h,rfl,⟨"int",rfl⟩,⟨"int",rfl⟩,λ_ _ H1 s1=>?_,(λ z=>by rw[sw]at z;cases z),(λ_ z=>by rw[sh]at z;cases z)⟩;refine⟨_,rfl,_,rfl,Az 4,λ t ht=>?_⟩;have s2:=s1.trans (Same.new (o:=.tup (DD 0 0 h w)) ht);have hsh:(upd H1 t (.tup (DD 0 0 h w))) t=some (.tup (DD 0 0 h w)):=Ac;generalize upd H1 t (.tup (DD 0 0 h w))=H2 at s2 hsh |-;refine⟨_,rfl,_,rfl,l,t,w,h,ts,rfl,s2.seq hl,hat.same s2,hsh,til.ins,λ hlen H3 s3=>?_,λ big=>Pj s2 (qm big) Gs⟩;have s13:=s2.trans s3;refine⟨_,rfl,l,rfl,⟨_,s13.seq hl⟩,λ acc hacc=>CW (K:=K) (a:=l) (ys:=Cl ts) (λ i xs σ H'=>(∃y,σ=[y])/\Same H3 H'/\xs=(Cl ts).take i) ⟨⟨none,rfl⟩,Same.new hacc,rfl⟩
   (λ i xs σ H' _ _ hp=>(s13.trans hp.2.1).seq hl) ?_ ?_⟩
  .rintro i x xs σ H' hx hi hl' hacc' ⟨⟨y,rfl⟩,hs,rfl⟩;obtain⟨u,hu',rfl⟩:=G2 hx;have hua:=(s13.trans hs) _ _ (hat u (List.mem_of_getElem? hu'));refine⟨_,rfl,u.1,_,rfl,.inr ⟨SqT.of hua,cNx.mk (Nat.le_of_lt (Au (by rw[List.length_map];lia))) hi hl' hacc' ⟨⟨_,rfl⟩,λ b o e=>?_,?_⟩⟩⟩
   .rw[Ai (Af e hacc)];exact hs b o e
   .rw[List.take_succ,hx];rfl
  .rintro xs σ H4 hl4 hacc4 ⟨_,s4,rfl⟩;rw[List.take_length]at hacc4;have s14:=s13.trans s4;refine⟨_,rfl,acc,w,h,ts,rfl,SqL.of hacc4,hat.same s14,til.ins,til.dis,hlen,gw.2,gh.2,λ d kvs H5 s5 n5 hd5 hk5=>?_⟩;have s15:=s14.trans s5;have look:∀r c,0<=r->r<h->0<=c->c<w->∃t∈ts,Bd kvs (sqK r c)=some (.ref t.1)/\t.2.has r c:=λ r c a1 a2 a3 a4=>by
    obtain⟨p,hp,hh⟩:=til.cov r c a1 a2 a3 a4;obtain⟨u,hu',rfl⟩:=List.mem_map.mp hp;exact⟨u,hu',hk5 u hu' r c hh,hh⟩
   refine⟨_,rfl,_,rfl,d,t,w,h,kvs,rfl,hd5,(s3.trans (s4.trans s5)) _ _ hsh,gw,gh,λ r c a1 a2 a3 a4 e=>?_,λ H6 s6=>?_⟩
   .obtain⟨u,_,hv,_⟩:=look r c a1 a2 a3 a4;rw[hv]at e;cases e
   have s16:=s15.trans s6;have ob6:=s16 _ _ hob;have hacc6:=(s5.trans s6) _ _ hacc4;have hd6:=s6 _ _ hd5;have na:acc≠a:=CT hacc6 ob6 (by intro z;cases z);have nd:d≠a:=CT hd6 ob6 (by intro z;cases z);refine⟨_,rfl,_,rfl,a,C,dx,_,rfl,ob6,PC.cl,PC.n_width,(by show 0<1000;decide),?_⟩;refine⟨_,rfl,_,rfl,a,C,dx,_,rfl,Ac,PC.cl,PC.n_height,(by show 1<1000;decide),?_⟩;have hacc7:(upd (upd H6 a (.ins C dx (Be "width" (.int w) []))) a (.ins C dx (Be "height" (.int h) (Be "width" (.int w) [])))) acc=some (.lst (Cl ts)):=by rw[Ai na,Ai na];exact hacc6
   have tup:∀t∈ts,(upd (upd H6 a (.ins C dx (Be "width" (.int w) []))) a (.ins C dx (Be "height" (.int h) (Be "width" (.int w) [])))) t.1=some (.tup (DD t.2.t t.2.l t.2.b t.2.r)):=λ t ht=>by
    have e:=s16 _ _ (hat t ht);have nt:t.1≠a:=CT e ob6 (by intro z;cases z);rw[Ai nt,Ai nt];exact e
   refine⟨_,rfl,acc,ts.map λ t=>(t.1,t.2.ls),3,key,rfl,?_,by rw[List.length_map];lia,?_,?_,λ ls us hls hp hsr=>?_⟩
   .rw[List.map_map];exact SqL.of hacc7
   .intro z hz;obtain⟨t,ht,rfl⟩:=List.mem_map.mp hz;exact⟨rfl,tup t ht⟩
   .intro z hz y hy;obtain⟨t,ht,rfl⟩:=List.mem_map.mp hz;obtain⟨u,hu',rfl⟩:=List.mem_map.mp hy;exact key_lt (til.ins _ (List.mem_map.mpr ⟨t,ht,rfl⟩)) (til.ins _ (List.mem_map.mpr ⟨u,hu',rfl⟩)) gw.2 gh.2 gw.2 gh.2
   obtain⟨ts',hp',rfl⟩:=Mq hp rfl;have nls:ls≠a:=Ne.symm (Af Ac hls);refine⟨_,rfl,a,C,dx,_,rfl,by rw[Ai (Ne.symm nls)];exact Ac,PC.cl,PC.n_sorted_panes,(by show 2<1000;decide),?_⟩;refine⟨_,rfl,_,rfl,a,C,dx,_,rfl,Ac,PC.cl,PC.n_by_square,(by show 3<1000;decide),?_⟩;have sx:SameX a H6 (upd (upd (upd (upd (upd H6 a (.ins C dx (Be "width" (.int w) []))) a (.ins C dx (Be "height" (.int h) (Be "width" (.int w) [])))) ls (.lst (List.map (λ t=>V.ref t.1) (List.map (λ t:Addr×Rc=>(t.1,t.2.ls)) ts')))) a (.ins C dx (Be "sorted_panes" (.ref ls) (Be "height" (.int h) (Be "width" (.int w) []))))) a (.ins C dx (Hn w h ls d))):=by
    refine SameX.trans (SameX.trans (SameX.trans (SameX.trans SameX.upd SameX.upd) (SameX.new hls)) SameX.upd) SameX.upd
   refine q hlen ts' ls d kvs _ (λ b o nb e=>sx b o nb (s16 b o e)) hp' ⟨Ac,?_,sx _ _ nd hd6,λ t ht=>?_,til.perm (hp'.map _),by rw[hp'.length_eq];exact hlen,?_,λ r c a1 a2 a3 a4=>?_,gw,gh⟩
   .rw[Ai nls,Ai nls,Ac,List.map_map];rfl
   .have ht':=hp'.mem_iff.mp ht;have e:=s16 _ _ (hat t ht');have nt:t.1≠a:=CT e ob6 (by intro z;cases z);exact sx _ _ nt e
   .unfold Srt;rw[List.map_map]at hsr |-;exact hsr
   .obtain⟨u,hu',hv,hh⟩:=look r c a1 a2 a3 a4;exact⟨u,hp'.mem_iff.mpr hu',hv,hh⟩
def rts(ts:List PT):List (Addr×Rc):=ts.map λ t=>(t.2.1,t.2.2.1)
theorem Ph{H:Hp}{ts:List PT}(h:PcO H ts):At H (rts ts):=λ u hu=>by
 obtain⟨t,ht,rfl⟩:=List.mem_map.mp hu;exact(h t ht).2
inductive F9(tb cW cU cL cN cS cM C:Addr)(vs:LUz)(H:Hp)(Q:VK)(E:XK):Prop
 |mk (v:V) (t:Tr) (x y:V) (h0:vs=[v,x,y]) (h1:Ty H x) (h2:Ty H y) (h3:Obj cW cU cL H t v) (h4:t.nd<=400) (h5:TabOk Iu FM tb H) (h6:(Bq x=false->RfN H E cS (Qs tb [(("side":Str),x)]))) (h7:(Bq x=true->Bq y=false->RfN H E cS (Qs tb [(("side":Str),y)]))) (h8:∀ww hh:Int,x=.int ww->y=.int hh->1<=ww->ww<=12->1<=hh->hh<=12->(∀k,BQ t ww hh=some k->RfN H E cN (Qs tb [(("at":Str),.int k)])) /\
  (BQ t ww hh=none->52<t.sz->RfN H E cM (Qs tb [(("many":Str),.int (t.sz:Int))])) /\
  (BQ t ww hh=none->t.sz<=52->∀a dx ls ld ts kvs H',SameN H H'->TabOk Iu FM tb H'->PanelAt C H' a ww hh ts dx ls ld kvs->(rcs ts).Perm ((BC t ⟨0,0,hh,ww⟩).map (·.1))->Q (.ref a) H')):F9 tb cW cU cL cN cS cM C vs H Q E
def Eb(tb cW cU cL cN cS cM C:Addr) :Sp:=λ vs H Q E=>F9 tb cW cU cL cN cS cM C vs H Q E
theorem MS:Al ["tree","width","height"] ["tree","width","height"] (Ah Ee):=fsc
theorem Lj{f:Addr}{fd:FuncData}{cN cS cM tb:Addr}(F:Fun K "panel_of" "panel_of" Ee f fd)(K_Panel:Qx P w K mg base 4 "Panel" C ["self","width","height","panes"] (Jf K C cM))(D_pieces:BR P w K mg base 5 "pieces" ["tree","width","height"] (DM tb cW cU cL cN cS)) :
  A9 P w K mg base (CX1 P w) 6 f fd ["tree","width","height"] (Eb tb cW cU cL cN cS cM C):=by
 have S:=MS;refine F.okx S (λ vs H Q E h=>?_) (λ cdv A outer s H vs Q E hr h=>?_)
 .obtain⟨v,t,x,y,rfl,_⟩:=h;rfl
 .obtain⟨v,t,x,y,rfl,tx,ty,ho,hn,tab,r1,r2,q⟩:=h;refine⟨_,(Ag (An (Si K_Panel hr (Em BD (N0 (H:=H) (E:=E))) (Aa (pv 1) (Aa (pv 2) (Aa (Cy rfl (BH (D7 D_pieces hr (Em BD (N0 (H:=H) (E:=E))) (Aa (pv 0) (Aa (pv 1) (Aa (pv 2) Ab))))) (λ_ _ _ _ _=>(DQ (K:=K) (n:=2) rfl (Aw (Aq (i:=0) (show List.Nodup (["rectangle","mark"]:LSz) from by decide +kernel) rfl (Or.inl rfl)) (Aw (Aq (i:=1) (show List.Nodup (["rectangle","mark"]:LSz) from by decide +kernel) rfl (Or.inl rfl)) Bf)))) (λ_ _ _ _ _=>(pv 0)) (N:=["rectangle","mark"]) (fr:=[none,none])) Ab)))))),?_⟩;refine⟨_,rfl,_,rfl,_,rfl,_,rfl,_,rfl,v,t,x,y,rfl,tx,ty,ho,hn,tab,(λ z=>Nq (SameN.refl H) (r1 z) FS λ fs H' s' e=>⟨e,tab.same s'⟩),(λ z z'=>Nq (SameN.refl H) (r2 z z') FS λ fs H' s' e=>⟨e,tab.same s'⟩),λ ww hh ex ey w1 w2 h1 h2=>?_⟩;subst ex ey;obtain⟨qb,qm,q⟩:=q ww hh rfl rfl w1 w2 h1 h2;refine⟨λ k hk=>Nq (SameN.refl H) (qb k hk) FS λ fs H' s' e=>⟨e,tab.same s'⟩,λ hb l ts H1 s1 tab1 nl hl pc du=>?_⟩;have fit:=bad_none.mp hb;have dul:=du.len;rw[List.length_map]at dul;have szn:=OX t;refine⟨l,rfl,⟨_,SqL.of hl⟩,λ acc hacc=>CW (K:=K) (a:=l) (ys:=pcs ts) (λ i zs σ H'=>(∃y0 y1,σ=[y0,y1])/\Same H1 H'/\zs=Cl (rts (ts.take i))) ⟨⟨none,none,rfl⟩,Same.new hacc,rfl⟩ (λ i zs σ H' _ _ hp=>SqL.of (hp.2.1 _ _ hl)) ?_ ?_⟩
  .rintro i x zs σ H' hx hi hl' hacc' ⟨⟨y0,y1,rfl⟩,hs,rfl⟩;rw[List.getElem?_map]at hx;cases e:ts[i]? with
   |none=>rw[e]at hx;cases hx
   |some t' =>
    rw[e]at hx;obtain rfl:=(Option.some.inj hx).symm;obtain⟨p1,p2⟩:=(pc.same hs) t' (List.mem_of_getElem? e);refine⟨t'.1,_,rfl,SqT.of p1,rfl,_,_,rfl,_,_,rfl,rfl,_,rfl,cNx.mk (Nat.le_of_lt (Au (by rw[List.length_map];lia))) hi hl' hacc' ⟨⟨_,_,rfl⟩,λ b o e=>?_,?_⟩⟩
    .rw[Ai (Af e hacc)];exact hs b o e
    .rw[List.take_succ,e];show Cl (rts (ts.take i))++[V.ref t'.2.1]=Cl (rts (ts.take i++[t']));rw[show rts (ts.take i++[t'])=rts (ts.take i)++[(t'.2.1,t'.2.2.1)] from List.map_append,Jg]
  .rintro zs σ H2 hl2 hacc2 ⟨_,s2,rfl⟩;rw[List.length_map,List.take_length]at hacc2;have ats:At H2 (rts ts):=Ph (pc.same s2);have Rt:rcs (rts ts)=(cons ts).map (·.1):=by
    show List.map (·.2) (List.map (λ t:PT=>(t.2.1,t.2.2.1)) ts)=List.map (·.1) (List.map (λ t:PT=>t.2.2) ts);rw[List.map_map,List.map_map];rfl
   have pm:(rcs (rts ts)).Perm ((BC t ⟨0,0,hh,ww⟩).map (·.1)):=by rw[Rt];exact du.1.map _
   have til:GB.Tiles ww hh (rcs (rts ts)):=(Hi w1 h1 fit).perm pm;have ltt:(rts ts).length=t.sz:=by unfold rts;rw[List.length_map];exact dul
   have sN2:SameN H H2:=s1.trans s2.n;have tab2:=tab1.same s2;refine λ x dx nx ndx nex=>⟨x,dx,acc,ww,hh,rts ts,rfl,Ac,SqL.of (Bb nx ndx _ _ hacc2),ats.same (Bb nx ndx),til,⟨w1,w2⟩,⟨h1,h2⟩,λ few ts' ls ld kvs H3 sx pm' pn=>⟨rfl,?_⟩,λ big=>?_⟩
   .have s3:Same H2 H3:=λ b o e=>sx b o (Af e nx) (Bb nx ndx b o e);exact q hb (by lia) x dx ls ld ts' kvs H3 (sN2.trans s3.n) (tab2.same s3) pn ((pm'.map _).trans pm)
   .rw[ltt];exact Nq (sN2.trans (Bb nx ndx).n) (qm hb (by lia)) FS λ fs H' s' e=>⟨e,tab2.same ((Bb nx ndx).trans s')⟩
theorem Qb(i:Int):(!decide (V.int i=V.int i))=false:=by rw[decide_eq_true rfl];rfl
theorem P4{w h:Int}{ls ld:Addr}:(Hn w h ls ld).lookup ("panes":Str)=none:=N8 _ _ _ _ (by decide +kernel) (by decide +kernel) (by decide +kernel) (by decide +kernel)
theorem P6{H:Hp}{us vs:List (Addr×Rc)}(ha:At H us)(hb:At H vs)(e:rcs us=rcs vs)(hl:∃l,H l=some (.lst (Cl us))):deq (.lst (G3 (rcs us))) (.lst (G3 (rcs vs)))=true:=by
 rw[<-e];obtain⟨l,h⟩:=hl;exact CV (K:=[]) (H:=H) _ (GU (SqL.of h) ha)
theorem Jn:∀t:Tr,t.nd=2*t.cs+1
 |.whole _=>rfl
 |.cut _ _ x y=>by
  have a:=Jn x;have b:=Jn y;show x.nd+y.nd+1=2*(x.cs+y.cs+1)+1;lia
def num(i:Int):Str:=Str.ofString (toString i)
def Iq(m:Nat):Str:=⟨((Nat.toDigits 10 m).map Char.toNat).toArray⟩
theorem Sr(m:Nat):num ((m:Nat):Int)=Iq m:=by
 have e:=KIN.signs_num m;unfold num Iq;cases h:Str.ofString (toString ((m:Nat):Int)) with
 |mk c =>
  rw[h]at e;have e:c.toList=(Nat.toDigits 10 m).map Char.toNat:=e;rw[<-e,Array.toArray_toList]
def sgn:Bool->Str
 |true=>"|"
 |false=>"-"
def WdE:En->Prop
 |.w m=>MkB m
 |.c _ k=>1<=k/\k<=11
def Bz:En->Str
 |.w none=>"."
 |.w (some i)=>("#":Str)++num i
 |.c u k=>sgn u++num k
theorem Da:∀{t:Tr},Wd t->∀e∈ents t,WdE e
 |.whole m,h,e,he=>by
  rw[Wd]at h;rw[List.mem_singleton.mp he];exact h
 |.cut u k x y,h,e,he=>by
  rw[Wd]at h;rcases List.mem_cons.mp he with rfl|he
  .exact⟨h.1,h.2.1⟩
  .rcases List.mem_append.mp he with he|he
   .exact Da h.2.2.1 e he
   .exact Da h.2.2.2 e he
def Ax(t:Tr):LSz:=(ents t).map Bz
def CN(t:Tr):Str:=Txt.join " " (Ax t)
def figs:Str:="0123456789"
def Tv(m:Nat):Bool:=decide (1<=(Iq m).length)&&decide ((Iq m).length<=3)&&(Iq m).cps.all (·<128)&&(Iq m).cps.all (λ c=>!(Builtin.Str.occurrences figs ⟨#[c]⟩ 0 figs.length 1).isEmpty) &&
 (!decide ((Iq m).cps.getD 0 0=48)||decide (Iq m="0"))&&!(Iq m).cps.contains 32
theorem Sq:(List.range 1000).all Tv=true:=by decide +kernel
theorem Cv{i:Int}(h0:0<=i)(h1:i<=999):1<=(num i).length/\(num i).length<=3/\(num i).cps.all (·<128)=true/\(num i).cps.all (λ c=>!(Builtin.Str.occurrences figs ⟨#[c]⟩ 0 figs.length 1).isEmpty)=true/\((num i).cps.getD 0 0=48->num i="0")/\32∉(num i).cps.toList:=by
 have e:num i=Iq i.toNat:=by
  have:=Sr i.toNat;rw[Int.toNat_of_nonneg h0]at this;exact this
 have b:=List.all_eq_true.mp Sq i.toNat (List.mem_range.mpr (by lia));unfold Tv at b;rw[<-e]at b;simp only[Bool.and_eq_true,Bool.or_eq_true,Bool.not_eq_true',decide_eq_true_eq,decide_eq_false_iff_not]at b;obtain⟨⟨⟨⟨⟨b1,b2⟩,b3⟩,b4⟩,b5⟩,b6⟩:=b;refine⟨b1,b2,b3,b4,λ z=>b5.resolve_left (λ n=>n z),λ z=>?_⟩;have:(num i).cps.contains 32=true:=by rw[Array.contains_iff_mem];exact Array.mem_toList_iff.mp z
 rw[this]at b6;cases b6
theorem num_reads{i:Int}(h0:0<=i)(h1:i<=999):PySem.intText? (num i)=some i:=KIN.num_reads h0 (by lia)
theorem Fn{i:Int}(h0:0<=i)(h1:i<=999):i.natAbs.log2<1920:=Nat.lt_trans (Ep (k:=64) (by decide) (by lia)) (by decide)
theorem LB{c:Nat}{d:Str}:((⟨#[c]⟩:Str)++d).cps[0]?=some c:=by
 show(#[c]++d.cps)[0]?=some c;rw[Array.getElem?_append_left (show 0<1 from by decide)];rfl
theorem CH{c:Nat}{d:Str}:((⟨#[c]⟩:Str)++d).length=d.length+1:=by rw[strLen_append];show 1+_=_;lia
theorem Nr{c:Nat}{d:Str}:Txt.slice ((⟨#[c]⟩:Str)++d) (some 1) none=d:=by
 have e:Txt.slice ((⟨#[c]⟩:Str)++d) (some 1) none=StrLaws.sliceText ((⟨#[c]⟩:Str)++d) (some ((1:Nat):Int)) (some ((((⟨#[c]⟩:Str)++d).length:Nat):Int)):=by
  unfold StrLaws.sliceText Txt.slice;rw[StrLaws.sliceIdx_none_hi];rfl
 rw[e,StrLaws.sliceText_nat _ (by rw[CH];lia) (Nat.le_refl _),CH];have e2:((⟨#[c]⟩:Str)++d).cps.toList=c::d.cps.toList:=by
  show(#[c]++d.cps).toList=_;rw[Array.toList_append];rfl
 rw[e2,List.drop_succ_cons,List.drop_zero,Nat.add_sub_cancel];have e3:d.length=d.cps.toList.length:=by rw[Array.length_toList];rfl
 rw[e3,List.take_length,Array.toArray_toList]
theorem IQ{e:En}(h:WdE e):1<=(Bz e).length/\(Bz e).length<=4:=by
 cases e with
 |w m =>
  cases m with
  |none=>exact⟨by decide +kernel,by decide +kernel⟩
  |some i =>
   obtain⟨h0,h1⟩:=h i rfl;have:=(Cv h0 h1).2.1;have e:(Bz (.w (some i))).length=(num i).length+1:=CH (c:=35);lia
 |c u k =>
  have:=(Cv (i:=k) (by have:=h.1;lia) (by have:=h.2;lia)).2.1;have e:(Bz (.c u k)).length=(num k).length+1:=by cases u;exact CH (c:=45);exact CH (c:=124)
  lia
theorem Ma{e:En}(h:WdE e):32∉(Bz e).cps.toList:=by
 have app:∀(c:Nat)(d:Str),c≠32->32∉d.cps.toList->32∉((⟨#[c]⟩:Str)++d).cps.toList:=λ c d n m z=>by
  have e2:((⟨#[c]⟩:Str)++d).cps.toList=c::d.cps.toList:=by
   show(#[c]++d.cps).toList=_;rw[Array.toList_append];rfl
  rw[e2]at z;rcases List.mem_cons.mp z with z|z
  .exact n z.symm
  .exact m z
 cases e with
 |w m =>
  cases m with
  |none=>decide +kernel
  |some i =>
   obtain⟨h0,h1⟩:=h i rfl;exact app 35 _ (by decide) (Cv h0 h1).2.2.2.2.2
 |c u k =>
  have:=(Cv (i:=k) (by have:=h.1;lia) (by have:=h.2;lia)).2.2.2.2.2;cases u
  .exact app 45 _ (by decide) this
  .exact app 124 _ (by decide) this
theorem NH{c:Nat}:∀{a b r s:List Nat},c∉a->c∉b->a++c::r=b++c::s->a=b/\r=s
 |[],[],r,s,_,_,h=>⟨rfl,(List.cons.inj h).2⟩
 |[],y::b,r,s,_,hb,h=>absurd (List.mem_cons.mpr (.inl (List.cons.inj h).1)) hb
 |x::a,[],r,s,ha,_,h=>absurd (List.mem_cons.mpr (.inl (List.cons.inj h).1.symm)) ha
 |x::a,y::b,r,s,ha,hb,h=>by
  obtain⟨h1,h2⟩:=List.cons.inj h;obtain⟨e,e'⟩:=NH (λ z=>ha (List.mem_cons_of_mem _ z)) (λ z=>hb (List.mem_cons_of_mem _ z)) h2;exact⟨by rw[h1,e],e'⟩
theorem Th{x y:Str}(h:x.cps.toList=y.cps.toList):x=y:=by
 cases x;cases y;exact congrArg Str.mk (Array.toList_inj.mp h)
theorem L6{c:Nat}{x y:Str}{r:LSz}:(Str.join ⟨#[c]⟩ (x::y::r)).cps.toList=x.cps.toList++c::(Str.join ⟨#[c]⟩ (y::r)).cps.toList:=by
 show(x.cps++#[c]++(Str.join ⟨#[c]⟩ (y::r)).cps).toList=_;rw[Array.toList_append,Array.toList_append,List.append_assoc];rfl
theorem L5{c:Nat}:∀{xs ys:LSz},xs≠[]->ys≠[]->(∀p∈xs,c∉p.cps.toList)->(∀p∈ys,c∉p.cps.toList)->Str.join ⟨#[c]⟩ xs=Str.join ⟨#[c]⟩ ys->xs=ys
 |[],_,h,_,_,_,_=>absurd rfl h
 |_,[],_,h,_,_,_=>absurd rfl h
 |[x],[y],_,_,_,_,h=>by
  have h:x=y:=h;rw[h]
 |[x],y::z::s,_,_,hx,_,h=>by
  have h:=congrArg (λ t:Str=>t.cps.toList) h;have h:x.cps.toList=_:=h;rw[L6]at h;exact absurd (by rw[h];simp) (hx x List.mem_cons_self)
 |x::w::r,[y],_,_,_,hy,h=>by
  have h:=congrArg (λ t:Str=>t.cps.toList) h;have h:_=y.cps.toList:=h;rw[L6]at h;exact absurd (by rw[<-h];simp) (hy y List.mem_cons_self)
 |x::w::r,y::z::s,_,_,hx,hy,h=>by
  have h:=congrArg (λ t:Str=>t.cps.toList) h;have h:(Str.join ⟨#[c]⟩ (x::w::r)).cps.toList=(Str.join ⟨#[c]⟩ (y::z::s)).cps.toList:=h;rw[L6,L6]at h;obtain⟨e1,e2⟩:=NH (hx x List.mem_cons_self) (hy y List.mem_cons_self) h;have e3:=L5 (xs:=w::r) (ys:=z::s) (by intro z;cases z) (by intro z;cases z) (λ p hp=>hx p (List.mem_cons_of_mem _ hp)) (λ p hp=>hy p (List.mem_cons_of_mem _ hp)) (Th e2);rw[Th e1,e3]
theorem Kr(x:Str)(ys:LSz):Txt.join x ys=Str.join x ys:=StrLaws.glued_eq_join x ys
theorem AR(t:Tr):(Ax t).length=t.nd:=by
 unfold Ax;rw[List.length_map,Bu]
theorem RY:∀{ys:LSz},(∀p∈ys,p.length<=4)->(ys.map (·.length)).sum<=4*ys.length
 |[],_=>Nat.le_refl 0
 |y::r,h=>by
  have a:=h y List.mem_cons_self;have b:=RY (ys:=r) λ p hp=>h p (List.mem_cons_of_mem _ hp);rw[List.map_cons,List.sum_cons,List.length_cons];lia
theorem OJ{t:Tr}(h:Wd t):∀p∈Ax t,p.length<=4:=λ p hp=>by
 obtain⟨e,he,rfl⟩:=List.mem_map.mp hp;exact(IQ (Da h e he)).2
theorem Qj:(" ":Str).length=1:=by decide +kernel
theorem FZ{t:Tr}(h:Wd t)(hn:t.nd<=400):((Ax t).map (·.length)).sum+(Ax t).length*(" ":Str).length<=16777216:=by
 have a:=RY (OJ h);have b:=AR t;rw[b]at a;rw[Qj,b];lia
theorem OP{t:Tr}(h:Wd t)(hn:t.nd<=103):(CN t).length+2<=1000:=by
 have a:=RY (OJ h);have b:=AR t;have c:=StrLaws.join_length_le " " (Ax t);unfold CN;rw[Kr];rw[Qj,b]at c;rw[b]at a;lia
theorem KM(t:Tr):Ax t≠[]:=λ z=>by
 have a:=AR t;have b:=Kl t;rw[z]at a;exact absurd a (by show ¬0=_;lia)
theorem Sm{t:Tr}(h:Wd t):Txt.split (CN t) " "=Ax t:=by
 have e:(" ":Str)=⟨#[32]⟩:=by decide +kernel
 have j:=StrLaws.join_split (CN t) " ";have f:=StrLaws.split_free (CN t) 32;rw[<-e]at f;have w:∀p∈Ax t,32∉p.cps.toList:=λ p hp=>by
  obtain⟨e,he,rfl⟩:=List.mem_map.mp hp;exact Ma (Da h e he)
 have ne:Txt.split (CN t) " "≠[]:=λ z=>by
  rw[z]at j;have j:Str.empty=CN t:=j;unfold CN at j;rw[Kr]at j;have n:=KM t;cases hw:Ax t with
  |nil=>exact n hw
  |cons x r =>
   have x1:1<=x.length:=by
    obtain⟨e,he,ex⟩:=List.mem_map.mp (show x∈Ax t by rw[hw];exact List.mem_cons_self);rw[<-ex];exact(IQ (Da h e he)).1
   rw[hw]at j;cases r with
   |nil =>
    have j:Str.empty=x:=j;rw[<-j]at x1;exact absurd x1 (by decide)
   |cons y r =>
    rw[e]at j;have j:=congrArg (λ t:Str=>t.cps.toList.length) j;have j:0=(Str.join ⟨#[32]⟩ (x::y::r)).cps.toList.length:=j;rw[L6,List.length_append,List.length_cons]at j;lia
 refine L5 (c:=32) ?_ (KM t) ?_ w ?_
 .exact ne
 .exact f
 .have j:=StrLaws.join_split (CN t) " ";rw[<-e,j];exact Kr _ _
theorem E7{i:Int}{x:Str}(hx:x.length=1)(h0:0<=i)(h1:i<=999):x.length+(Str.ofString (toString i)).length<=sizeLine:=by
 have:=(Cv h0 h1).2.1;exact Nat.le_of_lt (Au (by show x.length+(num i).length<=1000;lia))
inductive LR(vs:LUz)(H:Hp)(Q:VK)(E:XK):Prop
 |mk (e:En) (a b:V) (h0:vs=[a,b]) (h1:enV e=[a,b]) (h2:WdE e) (h3:Q (.str (Bz e)) H):LR vs H Q E
def Ng:Sp:=λ vs H Q E=>LR vs H Q E
theorem OC:Al ["kind","number"] ["kind","number"] (Ah Fa):=fsc
theorem Mw{f:Addr}{fd:FuncData}(F:Fun K "word_of" "word_of" Fa f fd)(T:Txt mg tk):A9 P w K mg base CX0 1 f fd ["kind","number"] Ng:=by
 have S:=OC;refine F.ok S (λ vs H Q E h=>?_) (λ cdv A outer s H vs Q E hr h=>?_)
 .obtain⟨e,a,b,rfl,_⟩:=h;rfl
 .obtain⟨e,a,b,rfl,he,hw,q⟩:=h;refine⟨_,(Ad (A6 (Ak AO (pv 0) (A7 (v:=.str "whole") rfl T.g_WHOLE ⟨_,rfl⟩) (Am _)) (Ag (An (AY (Ak GG (pv 1) Bt (Am _)) AK (Px (pv 1))))) Ao)
   (Ag (An (AY (Ak AO (pv 0) (A7 (v:=.str "upright") rfl T.g_UPRIGHT ⟨_,rfl⟩) (Am _)) (Px (pv 1)) (Px (pv 1)))))),?_⟩
  cases e with
  |w m =>
   have he:[V.str "whole",Ba m]=[a,b]:=he;cases he;refine⟨_,rfl,rfl,_,rfl,AT (decide_eq_true rfl) ?_⟩;cases m with
   |none=>exact⟨_,rfl,rfl,_,rfl,AT (decide_eq_true rfl) q⟩
   |some i =>
    obtain⟨h0,h1⟩:=hw i rfl;exact⟨_,rfl,rfl,_,rfl,A5 (decide_eq_false (by intro z;cases z)) ⟨_,rfl,i,rfl,Fn h0 h1,E7 (by decide +kernel) h0 h1,q⟩⟩
  |c u k =>
   have he:[V.str (wd u),V.int k]=[a,b]:=he;cases he;have h0:0<=k:=by have:=hw.1;lia
   have h1:k<=999:=by have:=hw.2;lia
   refine⟨_,rfl,rfl,_,rfl,A5 (Bp u) ?_⟩;cases u with
   |true=>exact⟨_,rfl,rfl,_,rfl,AT (Bc true true) ⟨_,rfl,k,rfl,Fn h0 h1,E7 (by decide +kernel) h0 h1,q⟩⟩
   |false=>exact⟨_,rfl,rfl,_,rfl,A5 (Bc false true) ⟨_,rfl,k,rfl,Fn h0 h1,E7 (by decide +kernel) h0 h1,q⟩⟩
inductive F7(cW cU cL:Addr)(vs:LUz)(H:Hp)(Q:VK)(E:XK):Prop
 |mk (v:V) (t:Tr) (h0:vs=[v]) (h1:Obj cW cU cL H t v) (h2:Wd t) (h3:t.nd<=400) (h4:∀H',Same H H'->Q (.str (CN t)) H'):F7 cW cU cL vs H Q E
def DZ(cW cU cL:Addr) :Sp:=λ vs H Q E=>F7 cW cU cL vs H Q E
theorem OB:Al ["tree"] ["tree"] (Ah EZ):=fsc
theorem OQ{es:List En}{i:Nat}{e:En}(h:es[i]?=some e):((es.take (i+1)).map Bz).map V.str=((es.take i).map Bz).map V.str++[.str (Bz e)]:=by
 rw[List.take_succ,h,List.map_append,List.map_append];rfl
theorem Mv{f:Addr}{fd:FuncData}(F:Fun K "written" "written" EZ f fd)(T:Txt mg tk)(D_entries_of:AC P w K mg base 3 "entries_of" ["tree"] (BN cW cU cL))(D_word_of:AC P w K mg base 1 "word_of" ["kind","number"] Ng) :
  A9 P w K mg base CX0 4 f fd ["tree"] (DZ cW cU cL):=by
 have S:=OB;refine F.ok S (λ vs H Q E h=>?_) (λ cdv A outer s H vs Q E hr h=>?_)
 .obtain⟨v,t,rfl,_⟩:=h;rfl
 .obtain⟨v,t,rfl,ho,hw,hn,q⟩:=h;refine⟨_,(Ag (An (Cz PySem.F.plainAttrs_str PySem.F.slot_str_join PySem.F.type_str_join FY AK (Aa (Cy rfl (BH (A0 D_entries_of hr (Aa (pv 0) Ab))) (λ_ _ _ _ _=>(DQ (K:=K) (n:=2) rfl (Aw (Aq (i:=0) (show List.Nodup (["kind","number"]:LSz) from by decide +kernel) rfl (Or.inl rfl)) (Aw (Aq (i:=1) (show List.Nodup (["kind","number"]:LSz) from by decide +kernel) rfl (Or.inl rfl)) Bf)))) (λ_ _ _ _ _=>(A0 D_word_of hr (Aa (pv 0) (Aa (pv 1) Ab)))) (N:=["kind","number"]) (fr:=[none,none])) Ab)))),?_⟩;refine⟨rfl,_,rfl,v,t,rfl,ho,hn,λ l ys H1 s1 nl h1 en=>⟨l,rfl,⟨_,SqL.of h1⟩,λ acc na=>CW (K:=K) (a:=l) (ys:=ys) (λ i zs σ H'=>(∃x y,σ=[x,y])/\Same H1 H'/\zs=(((ents t).take i).map Bz).map V.str) ⟨⟨_,_,rfl⟩,Same.new na,rfl⟩ (λ i zs σ H' _ _ hp=>SqL.of (hp.2.1 _ _ h1)) ?_ ?_⟩⟩
  .rintro i x zs σ H' hx hi hl hacc ⟨⟨y1,y2,rfl⟩,hs,rfl⟩;obtain⟨e,a,he,rfl,ha⟩:=en.get hx;obtain⟨a1,b1,hab⟩:∃a b,enV e=[a,b]:=by cases e<;>exact⟨_,_,rfl⟩
   rw[hab]at ha;have yl:ys.length<=sizeLine:=Nat.le_of_lt (Au (by rw[en.len,Bu];lia));refine⟨a,_,rfl,SqT.of (hs _ _ ha),rfl,_,_,rfl,_,_,rfl,rfl,_,rfl,_,rfl,e,a1,b1,rfl,hab,Da hw e (List.mem_of_getElem? he),cNx.mk yl hi hl hacc ⟨⟨_,_,rfl⟩,λ b o z=>?_,(OQ he).symm⟩⟩;rw[Ai (Af z na)];exact hs b o z
  .rintro zs σ H' hl hacc ⟨_,hs,rfl⟩;rw[en.len,List.take_length]at hacc;exact⟨_,acc,Ax t,rfl,rfl,hacc,FZ hw hn,q H' (s1.trans hs)⟩
inductive HX(vs:LUz)(H:Hp)(Q:VK)(E:XK):Prop
 |mk (i:Int) (h0:vs=[.str (num i),.int 3]) (h1:0<=i) (h2:i<=999) (h3:∀H',Same H H'->Q (.int i) H'):HX vs H Q E
def Ja:Sp:=λ vs H Q E=>HX vs H Q E
theorem LK:Al ["text","most"] ["text","most"] (Ah D0):=fsc
theorem Ke{f:Addr}{fd:FuncData}(F:Fun K "number_in" "number_in" D0 f fd)(T:Txt mg tk):A9 P w K mg base CX0 1 f fd ["text","most"] Ja:=by
 have S:=LK;refine F.ok S (λ vs H Q E h=>?_) (λ cdv A outer s H vs Q E hr h=>?_)
 .obtain⟨i,rfl,_⟩:=h;rfl
 .obtain⟨i,rfl,h0,h1,q⟩:=h;obtain⟨n1,n2,n3,n4,n5,n6⟩:=Cv h0 h1;have nr:=num_reads h0 h1;generalize num i=z at n1 n2 n3 n4 n5 n6 nr |-;refine⟨_,(Ad (A6 (PW.pt (Ca (BG (G5 Cj Cj Ae (A3 K4 rfl T.z_len rfl (Aa (pv 0) Ab)) (pv 1))) (Cg (BG (BO (A3 HG rfl T.z_all rfl (Aa (Cy rfl (QM (pv 0)) (λ_ _ _ _ _=>(Aq (i:=0) (show List.Nodup (["sign"]:LSz) from by decide +kernel) rfl (Or.inl rfl))) (λ_ _ _ _ _=>(BU Jm (pv 0) (A7 (v:=.str "0123456789") rfl T.g_FIGURES ⟨_,rfl⟩) rfl)) (N:=["sign"]) (fr:=[none])) Ab))))))) (Ag (An Bt)) Ao)
   (Ad (A6 (PW.pt (Ek (Ak AO (BA (pv 0) Ae (λ_ _=>rfl)) AK (Am _)) (E9 (Ak Fy (pv 0) AK (Am _))))) (Ag (An Bt)) Ao)
   (Ag (An (Bk CJ rfl T.z_int rfl (Aa (pv 0) Ab)))))),?_⟩
  have zl:z.length<=sizeLine:=Nat.le_of_lt (Au (by lia));refine⟨_,rfl,z,rfl,zl,_,_,rfl,rfl,_,rfl,BB (λ_=>?_) (λ b=>absurd (of_decide_eq_false b) (by lia))⟩;refine⟨_,rfl,_,_,rfl,rfl,_,rfl,BB (λ b=>absurd b (by rw[decide_eq_true (by lia)];decide)) (λ_=>?_)⟩;refine⟨_,rfl,z,rfl,n3,λ acc na=>O5 (λ k zs σ H'=>(∃x,σ=[x])/\Same H H'/\zs=(List.replicate k true).map V.bl) ⟨⟨_,rfl⟩,Same.new na,rfl⟩ ?_ ?_⟩
  .rintro k c zs σ H' hc hk hl hacc ⟨⟨y,rfl⟩,hs,rfl⟩;have hin:(!(Builtin.Str.occurrences figs ⟨#[c]⟩ 0 figs.length 1).isEmpty)=true:=by
    obtain⟨hk',e⟩:=Array.getElem?_eq_some_iff.mp hc;have:=Array.all_eq_true.mp n4 k hk';rw[e]at this;exact this
   refine⟨_,rfl,_,_,rfl,rfl,cNx.mk zl hk hl hacc ⟨⟨_,rfl⟩,λ b o e=>?_,?_⟩⟩
   .rw[Ai (Af e na)];exact hs b o e
   .show _++[V.bl (!(Builtin.Str.occurrences figs ⟨#[c]⟩ 0 figs.length 1).isEmpty)]=_;rw[hin,List.replicate_succ',List.map_append];rfl
  .rintro zs σ H' hl hacc ⟨_,hs,rfl⟩;have al:∀m,(List.replicate m true).all id=true:=λ m=>by
    rw[List.all_eq_true];intro x hx;exact List.eq_of_mem_replicate hx
   refine⟨acc,_,rfl,SqL.of hacc,rfl,_,rfl,A5 (by rw[al];rfl) ?_⟩;obtain⟨c0,hc0⟩:∃c0,z.cps[0]?=some c0:=⟨z.cps[0]'n1,Array.getElem?_eq_getElem n1⟩;have fin:Q (.int i) H':=q H' hs;refine⟨_,rfl,z,0,c0,rfl,rfl,by decide,by decide,(by show(0:Int)<(z.length:Int);lia),hc0,rfl,_,rfl,BB (λ b=>?_) (λ b=>?_)⟩
   .have e1:(⟨#[c0]⟩:Str)="0":=by
     have:=of_decide_eq_true b;injection this
    have e2:c0=48:=by
     have e3:("0":Str)=⟨#[48]⟩:=by decide +kernel
     rw[e3]at e1;injection e1 with e1;injection e1 with e1;injection e1
    have e4:z="0":=n5 (by rw[Array.getD_eq_getD_getElem?,hc0,e2];rfl);exact⟨_,rfl,rfl,_,rfl,A5 (by rw[e4,decide_eq_true rfl];rfl) ⟨_,rfl,z,i,rfl,by lia,nr,fin⟩⟩
   .exact MF ⟨_,rfl,z,i,rfl,by lia,nr,fin⟩
inductive NN(vs:LUz)(H:Hp)(Q:VK)(E:XK):Prop
 |mk (e:En) (h0:vs=[.str (Bz e)]) (h1:WdE e) (h2:∀a H',Same H H'->H a=none->H' a=some (.tup (enV e))->Q (.ref a) H'):NN vs H Q E
def Pc:Sp:=λ vs H Q E=>NN vs H Q E
theorem MY:Al ["word","number"] ["word"] (Ah Eh):=fsc
theorem Qm{c:Nat}{d:Str}(h:1<=d.length):(⟨#[c]⟩:Str)++d≠".":=λ z=>by
 have:=CH (c:=c) (d:=d);rw[z]at this;have e:((".":Str)).length=1:=by decide +kernel
 lia
theorem Lq{f:Addr}{fd:FuncData}(F:Fun K "entry_in" "entry_in" Eh f fd)(T:Txt mg tk)(D_number_in:AC P w K mg base 1 "number_in" ["text","most"] Ja):A9 P w K mg base CX0 2 f fd ["word"] Pc:=by
 have S:=MY;refine F.ok S (λ vs H Q E h=>?_) (λ cdv A outer s H vs Q E hr h=>?_)
 .obtain⟨e,rfl,_⟩:=h;rfl
 .obtain⟨e,rfl,hw,q⟩:=h;refine⟨_,(Ad (A6 (Ak AO (pv 0) AK (Am _)) (Ag (An (AF (Aa (A7 (v:=.str "whole") rfl T.g_WHOLE ⟨_,rfl⟩) (Aa Bt Ab))))) Ao)
   (Ad (As (i:=1) S.nd rfl (Or.inl rfl) (A0 D_number_in hr (Aa (G7 Mf (pv 0) (JV Ae) JW) (Aa (A7 (v:=.int 3) rfl T.g_MARK_FIGURES ⟨_,rfl⟩) Ab))))
   (Ad (A6 (Ak GG (pv 1) Bt (Am _)) (Ag (An Bt)) Ao)
   (Ad (A6 (Ak AO (BA (pv 0) Ae (λ_ _=>rfl)) AK (Am _)) (Ag (An (AF (Aa (A7 (v:=.str "whole") rfl T.g_WHOLE ⟨_,rfl⟩) (Aa (pv 1) Ab))))) Ao)
   (Ad (A6 (PW.pt (Ca (Ak Ka (BA (pv 0) Ae (λ_ _=>rfl)) AK rfl) (Cg (BG (G5 Cj ED Ae (pv 1) (A7 (v:=.int 12) rfl T.g_LONGEST_SIDE ⟨_,rfl⟩)))))) (Ag (An Bt)) Ao)
   (Ag (An (AF (Aa (AY (Ak AO (BA (pv 0) Ae (λ_ _=>rfl)) AK (Am _)) (A7 (v:=.str "upright") rfl T.g_UPRIGHT ⟨_,rfl⟩) (A7 (v:=.str "level") rfl T.g_LEVEL ⟨_,rfl⟩)) (Aa (pv 1) Ab)))))))))),?_⟩
  have main:∀(c:Nat)(i:Int),Bz e=(⟨#[c]⟩:Str)++num i->0<=i->i<=999->∃x:Str,Bz e=x/\decide (V.str x=V.str ".")=false/\x.length<=sizeLine/\Txt.slice x (some 1) none=num i/\x.cps[(0:Int).toNat]?=some c/\(0:Int)<(x.length:Int):=λ c i h h0 h1=>by
   have n:=Cv h0 h1;refine⟨_,h,decide_eq_false (λ z=>?_),?_,Nr,LB,?_⟩
   .injection z with z;exact Qm n.1 z
   .rw[CH];exact Nat.le_of_lt (Au (by lia))
   .rw[CH];lia
  cases e with
  |w m =>
   cases m with
   |none=>exact⟨_,rfl,rfl,_,rfl,AT (decide_eq_true rfl) ⟨Az 2,λ a ha=>q a _ (Same.new ha) ha Ac⟩⟩
   |some i =>
    obtain⟨h0,h1⟩:=hw i rfl;obtain⟨x,hx,xn,xl,xr,x0,xp⟩:=main 35 i rfl h0 h1;rw[hx];refine⟨_,rfl,rfl,_,rfl,A5 xn ?_⟩;refine⟨_,rfl,_,rfl,x,rfl,xl,i,(by rw[xr];rfl),h0,h1,λ H1 s1=>?_⟩;refine⟨_,rfl,rfl,_,rfl,A5 (decide_eq_false (by intro z;cases z)) ?_⟩;refine⟨_,rfl,x,0,35,rfl,rfl,by decide,by decide,xp,x0,rfl,_,rfl,AT (by decide +kernel) ?_⟩;exact⟨_,rfl,Az 2,λ a ha=>q a _ (s1.trans (Same.new ha)) (s1.free ha) Ac⟩
  |c u k =>
   have h0:0<=k:=by have:=hw.1;lia
   have h1:k<=999:=by have:=hw.2;lia
   have g1:=hw.1;have g2:=hw.2;cases u with
   |true =>
    obtain⟨x,hx,xn,xl,xr,x0,xp⟩:=main 124 k rfl h0 h1;rw[hx];refine⟨_,rfl,rfl,_,rfl,A5 xn ?_⟩;refine⟨_,rfl,_,rfl,x,rfl,xl,k,(by rw[xr];rfl),h0,h1,λ H1 s1=>?_⟩;refine⟨_,rfl,rfl,_,rfl,A5 (decide_eq_false (by intro z;cases z)) ?_⟩;refine⟨_,rfl,x,0,124,rfl,rfl,by decide,by decide,xp,x0,rfl,_,rfl,A5 (by decide +kernel) ?_⟩;refine⟨_,rfl,x,0,124,rfl,rfl,by decide,by decide,xp,x0,_,_,rfl,rfl,_,rfl,A5 (by decide +kernel) ?_⟩;refine⟨_,rfl,_,_,rfl,rfl,_,rfl,AT (decide_eq_true g1) ⟨_,_,rfl,rfl,_,rfl,A5 (by rw[decide_eq_true (by lia)];rfl) ?_⟩⟩;exact⟨_,rfl,x,0,124,rfl,rfl,by decide,by decide,xp,x0,rfl,_,rfl,AT (by decide +kernel) ⟨_,rfl,Az 2,λ a ha=>q a _ (s1.trans (Same.new ha)) (s1.free ha) Ac⟩⟩
   |false =>
    obtain⟨x,hx,xn,xl,xr,x0,xp⟩:=main 45 k rfl h0 h1;rw[hx];refine⟨_,rfl,rfl,_,rfl,A5 xn ?_⟩;refine⟨_,rfl,_,rfl,x,rfl,xl,k,(by rw[xr];rfl),h0,h1,λ H1 s1=>?_⟩;refine⟨_,rfl,rfl,_,rfl,A5 (decide_eq_false (by intro z;cases z)) ?_⟩;refine⟨_,rfl,x,0,45,rfl,rfl,by decide,by decide,xp,x0,rfl,_,rfl,A5 (by decide +kernel) ?_⟩;refine⟨_,rfl,x,0,45,rfl,rfl,by decide,by decide,xp,x0,_,_,rfl,rfl,_,rfl,A5 (by decide +kernel) ?_⟩;refine⟨_,rfl,_,_,rfl,rfl,_,rfl,AT (decide_eq_true g1) ⟨_,_,rfl,rfl,_,rfl,A5 (by rw[decide_eq_true (by lia)];rfl) ?_⟩⟩;exact⟨_,rfl,x,0,45,rfl,rfl,by decide,by decide,xp,x0,rfl,_,rfl,A5 (by decide +kernel) ⟨_,rfl,Az 2,λ a ha=>q a _ (s1.trans (Same.new ha)) (s1.free ha) Ac⟩⟩
inductive LZ(vs:LUz)(H:Hp)(Q:VK)(E:XK):Prop
 |mk (l:Addr) (t:Tr) (h0:vs=[.ref l]) (h1:H l=some (.lst ((Ax t).map V.str))) (h2:Wd t) (h3:t.nd<=103) (h4:∀l' xs H',Same H H'->H' l'=some (.lst xs)->EnsAt H' xs (ents t)->Q (.ref l') H'):LZ vs H Q E
def Nm:Sp:=λ vs H Q E=>LZ vs H Q E
theorem K9:Al ["words","entries","lacking","place","word","entry"] ["words"] (Ah Dg):=fsc
theorem OG(t:Tr){i:Nat}(h:i<(ents t).length):wts ((ents t).take i)<=0:=by
 have a:=BV t;have b:=Ey ((ents t).take i) ((ents t).drop i);rw[List.take_append_drop]at b;have c:=FR t ((ents t).take i) ((ents t).drop i) (List.take_append_drop _ _).symm (λ z=>by
  have:=congrArg List.length z;rw[List.length_drop]at this;exact absurd this (by show ¬_=0;lia))
 lia
theorem Ik{f:Addr}{fd:FuncData}(F:Fun K "entries_in" "entries_in" Dg f fd)(T:Txt mg tk)(D_entry_in:AC P w K mg base 2 "entry_in" ["word"] Pc):A9 P w K mg base CX0 3 f fd ["words"] Nm:=by
 have S:=K9;refine F.ok S (λ vs H Q E h=>?_) (λ cdv A outer s H vs Q E hr h=>?_)
 .obtain⟨l,t,rfl,_⟩:=h;rfl
 .obtain⟨l,t,rfl,hl,hw,hn,q⟩:=h;refine⟨_,(Ad (As (i:=1) S.nd rfl (Or.inl rfl) (AV Ab))
   (Ad (As (i:=2) S.nd rfl (Or.inl rfl) Ae)
   (Ad (B7 PassesOwn.never rfl (JY rfl T.z_enumerate (Aa (pv 0) Ab)) (CG rfl (Aw (Aq (i:=3) S.nd rfl (Or.inl rfl)) (Aw (Aq (i:=4) S.nd rfl (Or.inl rfl)) Bf))) (Ad (As (i:=5) S.nd rfl (Or.inl rfl) (A0 D_entry_in hr (Aa (pv 4) Ab)))
   (Ad (A6 (PW.pt (Ca (Ak AO (pv 2) Ae (Am _)) (Ca (Ak AO (pv 3) (A7 (v:=.int 103) rfl T.g_MOST_WORDS ⟨_,rfl⟩) (Am _)) (Cg (Ak GG (pv 5) Bt (Am _)))))) (Ag D6) Ao)
   (Ad (Bo (Cz PySem.F.plainAttrs_list PySem.F.slot_list_append PySem.F.type_list_append Bl (pv 1) (Aa (pv 5) Ab)))
   (Ag (Sf (i:=2) S.nd rfl (Or.inl rfl) (AY (Ak AO (Ap Ar (pv 5) Ae (λ_ _=>rfl)) (A7 (v:=.str "whole") rfl T.g_WHOLE ⟨_,rfl⟩) (Am _)) (Lg Gm Ae) Ae) SD))))))
   (Ad (A6 (Ak Fz (pv 2) Ae (Am _)) (Ag D6) Ao)
   (Ag (An (pv 1))))))),?_⟩
  refine⟨Az 0,λ le nle=>⟨_,rfl,l,rfl,⟨_,SqL.of (Same.new nle _ _ hl)⟩,?_⟩⟩;have hel:=Bu t;have wl:((Ax t).map V.str).length=(ents t).length:=by rw[List.length_map,AR,hel]
  refine Hl (K:=K) (a:=l) (xs:=(Ax t).map V.str) (λ i σ H'=>∃(xs:LUz)(lk:Int)(x3 x4 x5:Option V),σ=[some (.ref l),some (.ref le),some (.int lk),x3,x4,x5]/\Same H H'/\H' le=some (.lst xs)/\EnsAt H' xs ((ents t).take i)/\lk=1-wts ((ents t).take i))
   ⟨[],1,_,_,_,rfl,Same.new nle,Ac,trivial,rfl⟩ (λ i σ H' _ hp=>let ⟨_,_,_,_,_,_,s,_⟩:=hp;SqL.of (s _ _ hl)) ?_ ?_
  .rintro i x σ H' t0 hx ⟨xs,lk,x3,x4,x5,rfl,s1,h1,en,rfl⟩ nt0;obtain⟨e,he,rfl⟩:∃e,(ents t)[i]?=some e/\x=.str (Bz e):=by
    unfold Ax at hx;rw[List.getElem?_map,List.getElem?_map]at hx;cases he:(ents t)[i]? with
    |none=>rw[he]at hx;cases hx
    |some e=>rw[he]at hx;exact⟨e,rfl,(Option.some.inj hx).symm⟩
   obtain⟨hi,_⟩:=List.getElem?_eq_some_iff.mp he;have wt0:=OG t hi;have s2:Same H' (upd H' t0 (.tup [.int i,.str (Bz e)])):=Same.new nt0;refine⟨t0,_,rfl,SqT.of Ac,rfl,_,_,rfl,_,_,rfl,rfl,_,rfl,e,rfl,Da hw e (List.mem_of_getElem? he),λ a H2 s3 na ha=>?_⟩;have s4:=s2.trans s3;generalize upd H' t0 (.tup [.int i,.str (Bz e)])=Hx at s2 s3 na;have h2:=s4 _ _ h1;have xl:xs.length=i:=by rw[en.len,List.length_take];lia
   refine⟨_,rfl,rfl,_,rfl,A5 (decide_eq_false (by intro z;injection z;lia)) ?_⟩;refine⟨_,rfl,rfl,_,rfl,A5 (decide_eq_false (by intro z;injection z;lia)) ?_⟩;refine⟨_,rfl,rfl,_,rfl,A5 (decide_eq_false (by intro z;cases z)) ?_⟩;refine⟨_,rfl,.inl ⟨rfl,_,SqL.of h2⟩,_,rfl,le,xs,.ref a,rfl,rfl,h2,Au (by lia),?_⟩;have k4:Kp H2 (upd H2 le (.lst (xs++[.ref a]))):=Kp.put h2;have ha4:=k4 _ _ ha (by intro xs z;cases z);have en4:EnsAt (upd H2 le (.lst (xs++[.ref a]))) (xs++[.ref a]) ((ents t).take (i+1)):=by
    rw[List.take_succ,he];exact((en.kp (F3 s4)).kp k4).snoc ha4
   have s5:Same H (upd H2 le (.lst (xs++[.ref a]))):=λ b o z=>by
    rw[Ai (Af z nle)];exact s4 b o (s1 b o z)
   have wn:wts ((ents t).take (i+1))=wts ((ents t).take i)+wt e:=by
    rw[List.take_succ,he,Ey];show _+wts [e]=_;rw[Gj];show _+(_+0)=_;lia
   cases e with
   |w m =>
    refine⟨_,rfl,_,rfl,a,_,_,_,rfl,rfl,SqT.of ha4,Cc,rfl,_,rfl,AT (decide_eq_true rfl) ?_⟩;exact⟨_,rfl,_,_,rfl,rfl,xs++[.ref a],_,_,_,_,rfl,s5,Ac,en4,by rw[wn];show(1-wts ((ents t).take i))+-1=1-(wts ((ents t).take i)+1);lia⟩
   |c u k =>
    refine⟨_,rfl,_,rfl,a,_,_,_,rfl,rfl,SqT.of ha4,Cc,rfl,_,rfl,A5 (Bp u) ?_⟩;exact⟨_,_,rfl,rfl,xs++[.ref a],_,_,_,_,rfl,s5,Ac,en4,by rw[wn];show(1-wts ((ents t).take i))+1=1-(wts ((ents t).take i)+-1);lia⟩
  .rintro σ H' ⟨xs,lk,x3,x4,x5,rfl,s1,h1,en,rfl⟩;rw[wl,List.take_length]at en |-;have a1:=BV t;refine⟨_,rfl,_,_,rfl,rfl,_,rfl,A5 (decide_eq_false (by lia)) ⟨_,rfl,q le xs H' s1 h1 en⟩⟩
inductive LU(cW cU cL:Addr)(vs:LUz)(H:Hp)(Q:VK)(E:XK):Prop
 |mk (t:Tr) (h0:vs=[.str (CN t)]) (h1:Wd t) (h2:t.nd<=103) (h3:∀v' H',Same H H'->Obj cW cU cL H' t v'->Q v' H'):LU cW cU cL vs H Q E
def JT(cW cU cL:Addr) :Sp:=λ vs H Q E=>LU cW cU cL vs H Q E
theorem LJ:Al ["text"] ["text"] (Ah Dz):=fsc
theorem Kd{f:Addr}{fd:FuncData}(F:Fun K "read_tree" "read_tree" Dz f fd)(T:Txt mg tk)(D_entries_in:AC P w K mg base 3 "entries_in" ["words"] Nm)(D_tree_from:AC P w K mg base 4 "tree_from" ["entries"] (FU K cW cU cL)) :
  A9 P w K mg base CX0 5 f fd ["text"] (JT cW cU cL):=by
 have S:=LJ;refine F.ok S (λ vs H Q E h=>?_) (λ cdv A outer s H vs Q E hr h=>?_)
 .obtain⟨t,rfl,_⟩:=h;rfl
 .obtain⟨t,rfl,hw,hn,q⟩:=h;have pt:=Sm hw;have tl:=OP hw hn;generalize CN t=z at pt tl |-;refine⟨_,(Ad (A6 (BG (BO (A3 CY rfl T.z_isinstance rfl (Aa (pv 0) (Aa (EC (v:=.ty "str") rfl T.z_str rfl rfl) Ab))))) (Ag D6) Ao)
   (Ag (An (A0 D_tree_from hr (Aa (A0 D_entries_in hr (Aa (Cz PySem.F.plainAttrs_str PySem.F.slot_str_split PySem.F.type_str_split P9 (pv 0) (Aa AK Ab)) Ab)) Ab))))),?_⟩
  refine⟨_,rfl,_,"str","str",rfl,rfl,.inr (.inr (.inr (.inr rfl))),_,rfl,A5 (by decide +kernel) ?_⟩;refine⟨_,rfl,rfl,z,_,rfl,rfl,by decide +kernel,Nat.le_of_lt (Au tl),λ l nl=>?_⟩;rw[pt];refine⟨l,t,rfl,Ac,hw,hn,λ l' xs H' s1 h1 en=>?_⟩;exact⟨l',xs,t,rfl,SqL.of h1,en,by lia,λ v' H2 s2 o2=>q v' H2 ((Same.new nl).trans (s1.trans s2)) o2⟩
inductive JH(n:Nat)(vs:LUz)(H:Hp)(Q:VK)(E:XK):Prop
 |mk (v:V) (t:Tr) (h0:vs=[v]) (h1:Told H t v) (h2:Wd t) (h3:t.dp<n) (h4:t.nd<=400) (h5:∀l H',Same H H'->H' l=some (.lst ((Ax t).map V.str))->Q (.ref l) H'):JH n vs H Q E
def Dx(n:Nat) :Sp:=λ vs H Q E=>JH n vs H Q E
theorem RK{vs:LUz}{H:Hp}{Q:VK}{E:XK}:¬Dx 0 vs H Q E:=by
 rintro⟨v,t,_,_,_,h,_⟩;lia
theorem NQ(u:Bool)(k:Int)(x y:Tr):(Ax (.cut u k x y)).map V.str=([V.str (sgn u++num k)]++(Ax x).map V.str)++(Ax y).map V.str:=by
 unfold Ax;rw[ents,List.map_cons,List.map_append,List.map_cons,List.map_append];rfl
theorem F5:Al ["_law_told","_law_sign"] ["_law_told"] (Ah Dh):=fsc
theorem Kf{f:Addr}{fd:FuncData}{n:Nat}(F:Fun K "_law_words" "_law_words" Dh f fd)(T:Txt mg tk)(D__law_words:AC P w K mg base (n+3) "_law_words" ["_law_told"] (Dx n)) :
  A9 P w K mg base CX0 (n+4) f fd ["_law_told"] (Dx (n+1)):=by
 have S:=F5;refine F.ok S (λ vs H Q E h=>?_) (λ cdv A outer s H vs Q E hr h=>?_)
 .obtain⟨v,t,rfl,_⟩:=h;rfl
 .obtain⟨v,t,rfl,ht,hw,hd,hn,q⟩:=h;refine⟨_,(Ad (A6 (Ak AO (Ap Ar (pv 0) Ae (λ_ _=>rfl)) AK (Am _)) (Ag (An (AY (Ak GG (Ap Ar (pv 0) Ae (λ_ _=>rfl)) Bt (Am _)) (AV (Aa AK Ab)) (AV (Aa (Av GH AK (Bk EK rfl T.z_str rfl (Aa (Ap Ar (pv 0) Ae (λ_ _=>rfl)) Ab))) Ab))))) Ao)
   (Ad (As (i:=1) S.nd rfl (Or.inl rfl) AK)
   (Ad (A6 (Ak AO (Ap Ar (pv 0) Ae (λ_ _=>rfl)) AK (Am _)) (Ag (As (i:=1) S.nd rfl (Or.inl rfl) AK)) Ao)
   (Ag (An (Av Mu (Av Mu (AV (Aa (Av GH (pv 1) (Bk EK rfl T.z_str rfl (Aa (Ap Ar (pv 0) Ae (λ_ _=>rfl)) Ab))) Ab)) (A0 D__law_words hr (Aa (Ap Ar (pv 0) Ae (λ_ _=>rfl)) Ab) (by lia))) (A0 D__law_words hr (Aa (Ap Ar (pv 0) Ae (λ_ _=>rfl)) Ab) (by lia)))))))),?_⟩
  cases t with
  |whole m =>
   rw[Told]at ht;rw[Wd]at hw;obtain⟨a,rfl,ha⟩:=ht;refine⟨_,rfl,a,_,_,_,rfl,rfl,SqT.of ha,Cc,rfl,_,rfl,AT (decide_eq_true rfl) ?_⟩;refine⟨_,rfl,a,_,_,_,rfl,rfl,SqT.of ha,DH,rfl,_,rfl,?_⟩;cases m with
   |none=>exact AT (decide_eq_true rfl) ⟨Az 1,λ l nl=>q l _ (Same.new nl) Ac⟩
   |some i =>
    obtain⟨h0,h1⟩:=hw i rfl;exact A5 (decide_eq_false (by intro z;cases z)) ⟨_,rfl,a,_,_,_,rfl,rfl,SqT.of ha,DH,i,rfl,Fn h0 h1,_,_,rfl,rfl,E7 (by decide +kernel) h0 h1,Az 1,λ l nl=>q l _ (Same.new nl) Ac⟩
  |cut u k y1 y2 =>
   rw[Told]at ht;rw[Wd]at hw;obtain⟨a,v1,v2,rfl,ha,t1,t2⟩:=ht;obtain⟨k1,k2,w1,w2⟩:=hw;have hd:max y1.dp y2.dp+1<n+1:=hd;have hn:y1.nd+y2.nd+1<=400:=hn;have h0:0<=k:=by lia
   have h1:k<=999:=by lia
   have sl:(sgn u).length+(num k).length<=sizeLine:=E7 (by cases u<;>decide +kernel) h0 h1;have l1:((Ax y1).map V.str).length=y1.nd:=by rw[List.length_map,AR]
   have l2:((Ax y2).map V.str).length=y2.nd:=by rw[List.length_map,AR]
   have wc:=NQ u k y1 y2;rw[wc]at q;refine⟨_,rfl,a,_,_,_,rfl,rfl,SqT.of ha,at0,rfl,_,rfl,A5 (Bp u) ?_⟩;refine⟨_,rfl,a,_,_,_,rfl,rfl,SqT.of ha,at0,rfl,_,rfl,?_⟩;cases u with
   |true =>
    refine AT (Bc true true) ?_;refine⟨_,rfl,_,rfl,a,_,_,_,rfl,rfl,SqT.of ha,at1,k,rfl,Fn h0 h1,_,_,rfl,rfl,sl,Az 1,λ p1 np1=>?_⟩;have s1:Same H (upd H p1 (.lst [.str (sgn true++num k)])):=Same.new np1;have e1:(upd H p1 (.lst [.str (sgn true++num k)])) p1=some (.lst [.str (sgn true++num k)]):=Ac;refine⟨_,rfl,a,_,_,_,rfl,rfl,SqT.of (s1 _ _ ha),at2,v1,y1,rfl,t1.same s1,w1,by lia,by lia,λ p2 H2 s2 e2=>?_⟩;refine⟨p1,p2,_,_,rfl,rfl,s2 _ _ e1,e2,Nat.le_of_lt (Au (by rw[l1];show 1+_<=_;lia)),λ p3 np3=>?_⟩;have s3:Same H2 (upd H2 p3 (.lst ([.str (sgn true++num k)]++(Ax y1).map V.str))):=Same.new np3;have e3:(upd H2 p3 (.lst ([.str (sgn true++num k)]++(Ax y1).map V.str))) p3=some (.lst ([.str (sgn true++num k)]++(Ax y1).map V.str)):=Ac;have S3:=(s1.trans s2).trans s3;refine⟨_,rfl,a,_,_,_,rfl,rfl,SqT.of (S3 _ _ ha),at3,v2,y2,rfl,t2.same S3,w2,by lia,by lia,λ p4 H4 s4 e4=>?_⟩;refine⟨p3,p4,_,_,rfl,rfl,s4 _ _ e3,e4,Nat.le_of_lt (Au (by rw[List.length_append,l1,l2];show 1+_+_<=_;lia)),λ p5 np5=>?_⟩;exact q p5 _ ((S3.trans s4).trans (Same.new np5)) Ac
   |false =>
    refine A5 (Bc false true) ?_;refine⟨_,rfl,_,rfl,a,_,_,_,rfl,rfl,SqT.of ha,at1,k,rfl,Fn h0 h1,_,_,rfl,rfl,sl,Az 1,λ p1 np1=>?_⟩;have s1:Same H (upd H p1 (.lst [.str (sgn false++num k)])):=Same.new np1;have e1:(upd H p1 (.lst [.str (sgn false++num k)])) p1=some (.lst [.str (sgn false++num k)]):=Ac;refine⟨_,rfl,a,_,_,_,rfl,rfl,SqT.of (s1 _ _ ha),at2,v1,y1,rfl,t1.same s1,w1,by lia,by lia,λ p2 H2 s2 e2=>?_⟩;refine⟨p1,p2,_,_,rfl,rfl,s2 _ _ e1,e2,Nat.le_of_lt (Au (by rw[l1];show 1+_<=_;lia)),λ p3 np3=>?_⟩;have s3:Same H2 (upd H2 p3 (.lst ([.str (sgn false++num k)]++(Ax y1).map V.str))):=Same.new np3;have e3:(upd H2 p3 (.lst ([.str (sgn false++num k)]++(Ax y1).map V.str))) p3=some (.lst ([.str (sgn false++num k)]++(Ax y1).map V.str)):=Ac;have S3:=(s1.trans s2).trans s3;refine⟨_,rfl,a,_,_,_,rfl,rfl,SqT.of (S3 _ _ ha),at3,v2,y2,rfl,t2.same S3,w2,by lia,by lia,λ p4 H4 s4 e4=>?_⟩;refine⟨p3,p4,_,_,rfl,rfl,s4 _ _ e3,e4,Nat.le_of_lt (Au (by rw[List.length_append,l1,l2];show 1+_+_<=_;lia)),λ p5 np5=>?_⟩;exact q p5 _ ((S3.trans s4).trans (Same.new np5)) Ac
def isW:En->Bool
 |.w _=>true
 |.c _ _=>false
theorem RX:∀t:Tr,((ents t).filter isW).length=t.sz
 |.whole _=>rfl
 |.cut u k x y=>by
  rw[ents,List.filter_cons,if_neg (show ¬isW (.c u k)=true from Bool.false_ne_true),List.filter_append,List.length_append,RX x,RX y];rfl
inductive HY(cW cU cL:Addr)(vs:LUz)(H:Hp)(Q:VK)(E:XK):Prop
 |mk (v:V) (t:Tr) (h0:vs=[v]) (h1:Obj cW cU cL H t v) (h2:t.nd<=400) (h3:∀H',Same H H'->Q (.int (t.sz:Int)) H'):HY cW cU cL vs H Q E
def EX(cW cU cL:Addr) :Sp:=λ vs H Q E=>HY cW cU cL vs H Q E
theorem IF:Al ["self"] ["self"] (Ah B4):=fsc
theorem Cu{f:Addr}{fd:FuncData}(F:Fun K "leaves" "Tree.leaves" B4 f fd)(T:Txt mg tk)(D_entries_of:AC P w K mg base 3 "entries_of" ["tree"] (BN cW cU cL)):A9 P w K mg base CX0 4 f fd ["self"] (EX cW cU cL):=by
 have S:=IF;refine F.ok S (λ vs H Q E h=>?_) (λ cdv A outer s H vs Q E hr h=>?_)
 .obtain⟨v,t,rfl,_⟩:=h;rfl
 .obtain⟨v,t,rfl,ho,hn,q⟩:=h;refine⟨_,(Ag (An (A3 AD rfl T.z_len rfl (Aa (Li rfl (BH (A0 D_entries_of hr (Aa (pv 0) Ab))) (λ_ _ _ _ _=>(DQ (K:=K) (n:=2) rfl (Aw (Aq (i:=0) (show List.Nodup (["word","number"]:LSz) from by decide +kernel) rfl (Or.inl rfl)) (Aw (Aq (i:=1) (show List.Nodup (["word","number"]:LSz) from by decide +kernel) rfl (Or.inl rfl)) Bf)))) (λ_ _ _ _ _=>(Ak AO (pv 0) (A7 (v:=.str "whole") rfl T.g_WHOLE ⟨_,rfl⟩) (Am _))) (λ_ _ _ _ _=>(pv 0)) (N:=["word","number"]) (fr:=[none,none])) Ab)))),?_⟩;refine⟨_,rfl,v,t,rfl,ho,hn,λ l xs H1 s1 nl hl hen=>?_⟩;have hxl:=hen.len;have hel:=Bu t;have sz:xs.length<=sizeLine:=Nat.le_of_lt (Au (by lia));refine⟨l,rfl,⟨_,SqL.of hl⟩,λ acc hacc=>HE (K:=K) (a:=l) (ys:=xs) (λ i zs σ H'=>(∃y0 y1,σ=[y0,y1])/\Same H1 H'/\zs.length=(((ents t).take i).filter isW).length) ⟨⟨none,none,rfl⟩,Same.new hacc,rfl⟩ (λ i zs σ H' _ _ hp=>SqL.of (hp.2.1 _ _ hl)) ?_ ?_⟩
  .rintro i x zs σ H' hx hi hl' hacc' ⟨⟨y0,y1,rfl⟩,hs,hz⟩;obtain⟨e,a,he,rfl,ha⟩:=hen.get hx;have ha':=hs _ _ ha;have tk1:(ents t).take (i+1)=(ents t).take i++[e]:=by rw[List.take_succ,he];rfl
   cases e with
   |w m =>
    refine⟨a,_,rfl,SqT.of ha',rfl,_,_,rfl,_,_,rfl,rfl,_,rfl,rfl,true,congrArg V.bl (decide_eq_true rfl),?_⟩;refine⟨_,rfl,fNx.mk sz hi hl' hacc' ⟨⟨_,_,rfl⟩,λ d o e=>by rw[Ai (Af e hacc)];exact hs d o e,?_⟩⟩;rw[tk1,List.filter_append,List.length_append,List.length_append,hz];rfl
   |c u k =>
    refine⟨a,_,rfl,SqT.of ha',rfl,_,_,rfl,_,_,rfl,rfl,_,rfl,rfl,false,congrArg V.bl (Bp u),?_⟩;refine fSk.mk hi hl' hacc' ⟨⟨_,_,rfl⟩,hs,?_⟩;rw[tk1,List.filter_append,List.length_append,hz];rfl
  .rintro zs σ H' hl' hacc' ⟨_,hs,hz⟩;rw[hxl,List.take_length,RX]at hz;refine⟨acc,zs,rfl,.inl (SqL.of hacc'),?_⟩;rw[hz];exact q H' (s1.trans hs)
structure RN(mg:MGz)(K:Frag)(cN:Addr):Prop where
 g_NoCut:mg "NoCut"=some (.ref cN)
 x_NoCut:∃fI,Ch K cN fI=true
inductive JK(cW cU cL:Addr)(vs:LUz)(H:Hp)(Q:VK)(E:XK):Prop
 |mk (v:V) (t:Tr) (ww hh:Int) (h0:vs=[v,.int ww,.int hh]) (h1:Obj cW cU cL H t v) (h2:t.nd<=400) (h3:Fit t ww hh) (h4:∀H',Same H H'->Q (.bl true) H'):JK cW cU cL vs H Q E
def Gv(cW cU cL:Addr) :Sp:=λ vs H Q E=>JK cW cU cL vs H Q E
theorem LN:Al ["self","width","height"] ["self","width","height"] (Ah BY):=fsc
theorem Dl{f:Addr}{fd:FuncData}{cN:Addr}(F:Fun K "fits" "Tree.fits" BY f fd)(R:RN mg K cN)(D_cut_out:BR P w K mg base 4 "cut_out" ["tree","width","height"] (JU cW cU cL cN)):A9 P w K mg base CX0 5 f fd ["self","width","height"] (Gv cW cU cL):=by
 have S:=LN;refine F.ok S (λ vs H Q E h=>?_) (λ cdv A outer s H vs Q E hr h=>?_)
 .obtain⟨v,t,ww,hh,rfl,_⟩:=h;rfl
 .obtain⟨v,t,ww,hh,rfl,ho,hn,fit,q⟩:=h;have hb:=bad_none.mpr fit;refine⟨_,(Ad (Mn (λ_=>To D_cut_out hr (Aa (pv 0) (Aa (pv 1) (Aa (pv 2) Ab)))) rfl R.g_NoCut R.x_NoCut rfl rfl (λ_=>(Ag (An CS))))
   (Ag (An CS))),?_⟩
  exact⟨λ_ _ _=>False,⟨_,rfl,_,rfl,_,rfl,v,t,ww,hh,rfl,ho,hn,λ_ l ts H1 s1 _ _ _ _=>q H1 s1,λ k hk=>by rw[hb]at hk;cases hk⟩,λ_ _ _ _ _ _ z=>z.elim⟩
abbrev HK:=(Int×Int)×Addr
def Co(L:List HK):LKz:=L.map λ z=>(sqK z.1.1 z.1.2,V.ref z.2)
theorem EU{r c:Int}:∀{L:List HK},(r,c)∉L.map (·.1)->Bd (Co L) (sqK r c)=none
 |[],_=>rfl
 |z::L,h=>by
  show Bd ((sqK z.1.1 z.1.2,V.ref z.2)::Co L) (sqK r c)=none;rw[AX (p:=(sqK z.1.1 z.1.2,V.ref z.2)) (λ e=>h (by
   obtain⟨e1,e2⟩:=FT e;exact List.mem_map.mpr ⟨z,List.mem_cons_self,Prod.ext e1 e2⟩))]
  exact EU λ m=>h (by rw[List.map_cons];exact List.mem_cons_of_mem _ m)
theorem IW{r c:Int}:∀{L:List HK},(r,c)∈L.map (·.1)->∃a,((r,c),a)∈L/\Bd (Co L) (sqK r c)=some (.ref a)
 |[],h=>nomatch h
 |z::L,h=>by
  show ∃a,((r,c),a)∈z::L/\Bd ((sqK z.1.1 z.1.2,V.ref z.2)::Co L) (sqK r c)=some (.ref a);by_cases e:z.1=(r,c)
  .obtain⟨zz,za⟩:=z;have e:zz=(r,c):=e;subst e;exact⟨za,List.mem_cons_self,Bi rfl⟩
  .rw[AX (p:=(sqK z.1.1 z.1.2,V.ref z.2)) (λ e'=>e (by
    obtain⟨e1,e2⟩:=FT e';exact Prod.ext e1 e2))]
   rw[List.map_cons]at h;obtain⟨a,m,v⟩:=IW ((List.mem_cons.mp h).resolve_left λ e'=>e e'.symm);exact⟨a,List.mem_cons_of_mem _ m,v⟩
structure SqI(ts:List PT)(L:List HK):Prop where
 nd:(L.map (·.1)).Nodup
 of:∀z∈L,∃t∈ts,t.2.2.1.has z.1.1 z.1.2/\z.2=t.2.1
theorem SqI.put{ts:List PT}{L:List HK}(h:SqI ts L){r c:Int}{t:PT}(n:(r,c)∉L.map (·.1))(m:t∈ts)(hs:t.2.2.1.has r c):SqI ts (L++[((r,c),t.2.1)]):=by
 refine⟨?_,λ z hz=>?_⟩
 .rw[List.map_append];exact List.nodup_append.mpr ⟨h.nd,by simp,λ a ha b hb=>by
   have:b=(r,c):=List.mem_singleton.mp hb;intro e;rw[e,this]at ha;exact n ha⟩
 .rcases List.mem_append.mp hz with hz|hz
  .exact h.of z hz
  .rw[List.mem_singleton.mp hz];exact⟨t,m,hs,rfl⟩
abbrev BS(ts:List PT):List Rk:=ts.map λ t=>t.2.2.1
inductive Ia(vs:LUz)(H:Hp)(Q:VK)(E:XK):Prop
 |mk (l:Addr) (ww hh:Int) (ts:List PT) (h0:vs=[.ref l,.int ww,.int hh]) (h1:H l=some (.lst (pcs ts))) (h2:PcO H ts) (h3:GB.Tiles ww hh (BS ts)) (h4:ts.length<=52) (h5:(1<=ww/\ww<=12)) (h6:(1<=hh/\hh<=12)) (h7:∀d L H',Same H H'->H d=none->H' d=some (.dT (Co L))->SqI ts L->(∀r c,0<=r->r<hh->0<=c->c<ww->(r,c)∈L.map (·.1))->Q (.ref d) H'):Ia vs H Q E
def Je:Sp:=λ vs H Q E=>Ia vs H Q E
abbrev Qw:LSz:=["_law_found","_law_width","_law_height","_law_known","_law_rectangle","_law_mark_here","_law_top","_law_left","_law_bottom","_law_right","_law_row","_law_column"]
theorem K7:Al Qw ["_law_found","_law_width","_law_height"] (Ah CB):=fsc
theorem Mr{ts:List PT}{i:Nat}{x:V}(h:(pcs ts)[i]?=some x):∃t,ts[i]?=some t/\x=.ref t.1:=by
 rw[List.getElem?_map]at h;cases e:ts[i]? with
 |none=>rw[e]at h;cases h
 |some t=>rw[e]at h;exact⟨t,rfl,(Option.some.inj h).symm⟩
theorem NI{ww hh:Int}{L:List HK}{ts:List PT}(w1:1<=ww)(h1:1<=hh)(til:∀p∈BS ts,GB.Rc.In ww hh p)(q:SqI ts L)(cov:∀r c,0<=r->r<hh->0<=c->c<ww->(r,c)∈L.map (·.1)):(L.length:Int)=ww*hh:=by
 have pm:(L.map (·.1)).Perm (sqs ⟨0,0,hh,ww⟩):=(List.perm_ext_iff_of_nodup q.nd (DY (p:=⟨0,0,hh,ww⟩) (show(0:Int)<=ww by lia) _)).mpr λ z=>by
  obtain⟨r,c⟩:=z;show _↔(r,c)∈sqs ⟨0,0,hh,ww⟩;rw[EE (p:=⟨0,0,hh,ww⟩) (show(0:Int)<=ww by lia) (show(0:Int)<=hh by lia)]
  constructor
  .intro hz;obtain⟨y,hy,e⟩:=List.mem_map.mp hz;obtain⟨t,ht,hs,_⟩:=q.of y hy;rw[e]at hs;obtain⟨a1,a2,a3,a4,a5,a6⟩:=til t.2.2.1 (List.mem_map.mpr ⟨t,ht,rfl⟩);obtain⟨b1,b2,b3,b4⟩:=hs;exact⟨by show 0<=r;lia,by show r<hh;lia,by show 0<=c;lia,by show c<ww;lia⟩
  .rintro⟨b1,b2,b3,b4⟩;exact cov r c b1 b2 b3 b4
 have e:=pm.length_eq;rw[List.length_map]at e;rw[e,show sqs ⟨0,0,hh,ww⟩=EV ⟨0,0,hh,ww⟩ (hh-0).toNat from rfl,E4];show(((hh-0).toNat*(ww-0).toNat:Nat):Int)=ww*hh;rw[Int.sub_zero,Int.sub_zero,Int.natCast_mul,Int.toNat_of_nonneg (by lia),Int.toNat_of_nonneg (by lia),Int.mul_comm]
theorem Ii{f:Addr}{fd:FuncData}(F:Fun K "_law_filled" "_law_filled" CB f fd)(T:Txt mg tk):A9 P w K mg base CX0 1 f fd ["_law_found","_law_width","_law_height"] Je:=by
 have S:=K7;refine F.ok S (λ vs H Q E h=>?_) (λ cdv A outer s H vs Q E hr h=>?_)
 .obtain⟨l,ww,hh,ts,rfl,_⟩:=h;rfl
 .obtain⟨l,ww,hh,ts,rfl,hl,pc,til,few,⟨w1,w2⟩,⟨h1,h2⟩,q⟩:=h;have hu:=L8 hr;refine⟨_,(Ad (As (i:=3) S.nd rfl (Or.inl rfl) Lh)
   (Ad (B7 PassesOwn.never rfl (BH (pv 0)) (CG rfl (Aw (Aq (i:=4) S.nd rfl (Or.inl rfl)) (Aw (Aq (i:=5) S.nd rfl (Or.inl rfl)) Bf))) (Ad (Mp (pv 4) (CG rfl (Aw (Aq (i:=6) S.nd rfl (Or.inl rfl)) (Aw (Aq (i:=7) S.nd rfl (Or.inl rfl)) (Aw (Aq (i:=8) S.nd rfl (Or.inl rfl)) (Aw (Aq (i:=9) S.nd rfl (Or.inl rfl)) Bf))))))
   (Ad (A6 (PW.pt (Ca (Ak ED (pv 6) Ae (Am _)) (Ca (Ak ED (pv 7) Ae (Am _)) (Ca (Ak Fz (pv 8) (pv 2) (Am _)) (Ca (Ak Fz (pv 9) (pv 1) (Am _)) (Ca (Ak P1 (pv 6) (pv 8) (Am _)) (Cg (Ak P1 (pv 7) (pv 9) (Am _))))))))) (Ag (An Bt)) Ao)
   (Ag (B7 PassesOwn.never rfl (DP rfl T.z_range (Aa (pv 6) (Aa (pv 8) Ab))) (Aq (i:=10) S.nd rfl (Or.inl rfl)) (Ag (B7 PassesOwn.never rfl (DP rfl T.z_range (Aa (pv 7) (Aa (pv 9) Ab))) (Aq (i:=11) S.nd rfl (Or.inl rfl)) (Ad (A6 (Mm (Pz hu (AF (Aa (pv 10) (Aa (pv 11) Ab))) (pv 3))) (Ag (An Bt)) Ao)
   (Ag (Nw hu (pv 3) (AF (Aa (pv 10) (Aa (pv 11) Ab))) (pv 4) rfl))))))))))
   (Ad (A6 (Ak Fy (A3 O7 rfl T.z_len rfl (Aa (pv 3) Ab)) (Av DR (pv 1) (pv 2)) (Am _)) (Ag (An Bt)) Ao)
   (Ag (An (pv 3)))))),?_⟩
  intro d nd;obtain⟨H1,g,s1,hd1⟩:=nw (.dT []) nd;rw[g];have hd1:H1 d=some (.dT (Co [])):=hd1;have dl:l≠d:=λ z=>by rw[z,nd]at hl;cases hl
  refine⟨_,rfl,l,rfl,⟨_,SqL.of (s1 _ _ hl)⟩,EF (K:=K) (a:=l) (xs:=pcs ts) (λ i σ H'=>(∃x4 x5 x6 x7 x8 x9 x10 x11,σ=[some (.ref l),some (.int ww),some (.int hh),some (.ref d),x4,x5,x6,x7,x8,x9,x10,x11])/\SameX d H1 H'/\∃L,H' d=some (.dT (Co L))/\SqI (ts.take i) L/\L.length<=144*i/\∀t∈ts.take i,∀r c,t.2.2.1.has r c->(r,c)∈L.map (·.1))
   ⟨⟨_,_,_,_,_,_,_,_,rfl⟩,SameX.refl,[],hd1,⟨List.nodup_nil,λ z hz=>nomatch hz⟩,Nat.zero_le _,λ t ht=>nomatch ht⟩ (λ i σ H' _ hp=>SqL.of (hp.2.1 _ _ dl (s1 _ _ hl))) ?_ ?_⟩
  .rintro i x σ H2 hx ⟨⟨x4,x5,x6,x7,x8,x9,x10,x11,rfl⟩,s2,L,hd2,sq,ll,cov⟩;obtain⟨t,hti,rfl⟩:=Mr hx;have tm:=List.mem_of_getElem? hti;have hi:i<ts.length:=(List.getElem?_eq_some_iff.mp hti).1;have tk1:ts.take (i+1)=ts.take i++[t]:=by rw[List.take_succ,hti];rfl
   obtain⟨c1,c2,c3,c4,c5,c6⟩:=til.ins t.2.2.1 (List.mem_map.mpr ⟨t,tm,rfl⟩);obtain⟨p1,p2⟩:=(pc.same s1) t tm;have p1:=s2 _ _ (λ z=>by rw[z,hd1]at p1;cases p1) p1;have p2:=s2 _ _ (λ z=>by rw[z,hd1]at p2;cases p2) p2;have new:∀r c,t.2.2.1.has r c->∀u∈ts.take i,¬u.2.2.1.has r c:=λ r c a u hu b=>by
    obtain⟨j,hj,e⟩:=List.getElem_of_mem hu;have hj':j<i:=by rw[List.length_take]at hj;lia
    have ej:ts[j]'(by lia)=u:=by rw[<-e,List.getElem_take]
    have ei:ts[i]'hi=t:=(List.getElem?_eq_some_iff.mp hti).2;have:=List.pairwise_iff_getElem.mp til.dis j i (by rw[List.length_map];lia) (by rw[List.length_map];exact hi) hj';rw[List.getElem_map,List.getElem_map,ej,ei]at this;exact this r c b a
   refine⟨t.1,_,rfl,SqT.of p1,rfl,_,_,rfl,_,_,rfl,rfl,?_⟩;refine⟨_,rfl,t.2.1,_,rfl,SqT.of p2,rfl,_,_,rfl,_,_,rfl,_,_,rfl,_,_,rfl,rfl,?_⟩;refine⟨_,rfl,_,_,rfl,rfl,_,rfl,A5 (decide_eq_false (by lia)) ⟨_,rfl,_,_,rfl,rfl,_,rfl,A5 (decide_eq_false (by lia)) ⟨_,rfl,_,rfl,_,_,rfl,rfl,_,rfl,A5 (decide_eq_false (by lia)) ⟨_,rfl,_,rfl,_,_,rfl,rfl,_,rfl,A5 (decide_eq_false (by lia)) ⟨_,rfl,_,rfl,_,_,rfl,rfl,_,rfl,A5 (decide_eq_false (by lia)) ⟨_,rfl,_,rfl,_,_,rfl,rfl,_,rfl,A5 (decide_eq_false (by lia)) ?_⟩⟩⟩⟩⟩⟩;obtain⟨ta,tp,pk,tmk⟩:=t;have c1:0<=pk.t:=c1;have c2:pk.t<pk.b:=c2;have c3:pk.b<=hh:=c3;have c4:0<=pk.l:=c4;have c5:pk.l<pk.r:=c5;have c6:pk.r<=ww:=c6;refine⟨_,rfl,_,rfl,pk.t,pk.b,rfl,⟨by lia,by lia,by lia,by lia⟩,BP (lo:=pk.t) (n:=(pk.b-pk.t).toNat) (λ j σ H'=>(∃x10 x11,σ=[some (.ref l),some (.int ww),some (.int hh),some (.ref d),some (.ref tp),some (Ba tmk),some (.int pk.t),some (.int pk.l),some (.int pk.b),some (.int pk.r),x10,x11])/\SameX d H2 H'/\∃L,H' d=some (.dT (Co L))/\SqI (ts.take (i+1)) L/\L.length<=144*i+12*j/\(∀u∈ts.take i,∀r c,u.2.2.1.has r c->(r,c)∈L.map (·.1))/\∀r c,pk.has r c->((r,c)∈L.map (·.1)↔r<pk.t+j))
    ⟨⟨_,_,rfl⟩,SameX.refl,L,hd2,⟨sq.nd,λ z hz=>?_⟩,by lia,cov,λ r c hs=>⟨λ m=>?_,λ m=>?_⟩⟩ ?_ ?_⟩
   .obtain⟨u,hu,a⟩:=sq.of z hz;exact⟨u,by rw[tk1];exact List.mem_append_left _ hu,a⟩
   .obtain⟨z,hz,e⟩:=List.mem_map.mp m;obtain⟨u,hu,a,_⟩:=sq.of z hz;rw[e]at a;exact(new r c hs u hu a).elim
   .have:=hs.1;lia
   .rintro j σ H3 hj ⟨⟨x10,x11,rfl⟩,s3,L3,hd3,sq3,l3,o3,n3⟩;refine⟨_,rfl,_,rfl,pk.l,pk.r,rfl,⟨by lia,by lia,by lia,by lia⟩,BP (lo:=pk.l) (n:=(pk.r-pk.l).toNat) (λ k σ H'=>(∃x11,σ=[some (.ref l),some (.int ww),some (.int hh),some (.ref d),some (.ref tp),some (Ba tmk),some (.int pk.t),some (.int pk.l),some (.int pk.b),some (.int pk.r),some (.int (pk.t+j)),x11])/\SameX d H2 H'/\∃L,H' d=some (.dT (Co L))/\SqI (ts.take (i+1)) L/\L.length<=144*i+12*j+k/\(∀u∈ts.take i,∀r c,u.2.2.1.has r c->(r,c)∈L.map (·.1))/\∀r c,pk.has r c->((r,c)∈L.map (·.1)↔(r<pk.t+j\/(r=pk.t+j/\c<pk.l+k))))
     ⟨⟨_,rfl⟩,s3,L3,hd3,sq3,by lia,o3,λ r c hs=>?_⟩ ?_ ?_⟩
    .rw[n3 r c hs];have:=hs.2.2.1;lia
    .rintro k σ H4 hk ⟨⟨x11,rfl⟩,s4,L4,hd4,sq4,l4,o4,n4⟩;have here:pk.has (pk.t+j) (pk.l+k):=⟨by lia,by lia,by lia,by lia⟩;have no:(pk.t+(j:Int),pk.l+(k:Int))∉L4.map (·.1):=λ m=>by
      have:=(n4 _ _ here).mp m;lia
     refine⟨_,rfl,_,rfl,Az 2,λ kt nk=>?_⟩;obtain⟨H5,g,s5,hk5⟩:=nw (.tup [.int (pk.t+j),.int (pk.l+k)]) nk;rw[g];have hk5:H5 kt=some (.tup ((sqK (pk.t+j) (pk.l+k)).map kV)):=hk5;have dg:=DGet.t (s5 _ _ hd4) hk5;rw[EU no]at dg;refine⟨_,rfl,d,_,rfl,dg,_,rfl,MF ?_⟩;refine⟨_,rfl,_,rfl,_,rfl,_,rfl,Az 2,λ kt2 nk2=>?_⟩;obtain⟨H6,g,s6,hk6⟩:=nw (.tup [.int (pk.t+j),.int (pk.l+k)]) nk2;rw[g];have hk6:H6 kt2=some (.tup ((sqK (pk.t+j) (pk.l+k)).map kV)):=hk6;have hd6:=s6 _ _ (s5 _ _ hd4);have l5:(Co L4).length=L4.length:=List.length_map ..;refine⟨d,_,rfl,DPut.t hd6 hk6 (Nat.lt_of_le_of_lt (m:=20000) (by rw[l5];lia) (by rw[sizeLine_eq];decide)),⟨_,rfl⟩,λ x o nx ex=>?_,L4++[((pk.t+(j:Int),pk.l+(k:Int)),tp)],?_,?_,by rw[List.length_append];show L4.length+1<=_;lia,λ u hu r c hs=>?_,λ r c hs=>?_⟩
     .rw[Ai nx];exact s6 _ _ (s5 _ _ (s4 x o nx ex))
     .rw[Ac,Pn _ (EU no)];unfold Co;rw[List.map_append];rfl
     .exact sq4.put (t:=(ta,tp,pk,tmk)) no (by rw[tk1];exact List.mem_append_right _ (List.mem_singleton.mpr rfl)) here
     .rw[List.map_append];exact List.mem_append_left _ (o4 u hu r c hs)
     .rw[List.map_append,List.mem_append,n4 r c hs];show _\/(r,c)∈[(pk.t+(j:Int),pk.l+(k:Int))]↔_;rw[List.mem_singleton]
      constructor
      .rintro(z|z)
       .lia
       .have z1:r=pk.t+(j:Int):=(Prod.mk.inj z).1;have z2:c=pk.l+(k:Int):=(Prod.mk.inj z).2;lia
      .intro z;by_cases e:r=pk.t+(j:Int)/\c=pk.l+(k:Int)
       .exact .inr (Prod.ext e.1 e.2)
       .exact .inl (by lia)
    .rintro σ H4 ⟨⟨x11,rfl⟩,s4,L4,hd4,sq4,l4,o4,n4⟩;refine⟨⟨_,_,rfl⟩,s4,L4,hd4,sq4,by lia,o4,λ r c hs=>?_⟩;rw[n4 r c hs];have:=hs.2.2.2;lia
   .rintro σ H3 ⟨⟨x10,x11,rfl⟩,s3,L3,hd3,sq3,l3,o3,n3⟩;refine⟨⟨_,_,_,_,_,_,_,_,rfl⟩,s2.trans s3,L3,hd3,sq3,by lia,λ u hu r c hs=>?_⟩;rw[tk1]at hu;rcases List.mem_append.mp hu with hu|hu
    .exact o3 u hu r c hs
    .rw[List.mem_singleton.mp hu]at hs;have hs:pk.has r c:=hs;have:=hs.2.1;exact(n3 r c hs).mpr (by lia)
  .rintro σ H2 ⟨⟨x4,x5,x6,x7,x8,x9,x10,x11,rfl⟩,s2,L,hd2,sq,ll,cov⟩;rw[List.length_map,List.take_length]at sq cov;have cov':∀r c,0<=r->r<hh->0<=c->c<ww->(r,c)∈L.map (·.1):=λ r c a1 a2 a3 a4=>by
    obtain⟨p,hp,hs⟩:=til.cov r c a1 a2 a3 a4;obtain⟨t,ht,rfl⟩:=List.mem_map.mp hp;exact cov t ht r c hs
   have len:=NI w1 h1 til.ins sq cov';have s02:=s2.same s1 nd;refine⟨_,rfl,d,_,rfl,hd2,_,rfl,_,rfl,_,_,rfl,rfl,GR (by lia) (by lia) (by lia) (by lia),rfl,_,rfl,A5 ?_ ⟨_,rfl,q d L H2 s02 nd hd2 sq cov'⟩⟩;rw[show(Co L).length=L.length from List.length_map ..,len,decide_eq_true rfl];rfl
def inR(p g:Rk):Bool:=decide (p.t<=g.t)&&(decide (p.l<=g.l)&&(decide (g.b<=p.b)&&decide (g.r<=p.r)))
def sel(p:Rk)(ts:List PT):List PT:=ts.filter λ t=>inR p t.2.2.1
inductive JL(vs:LUz)(H:Hp)(Q:VK)(E:XK):Prop
 |mk (l a:Addr) (p:Rk) (ts:List PT) (h0:vs=[.ref l,.ref a]) (h1:H l=some (.lst (pcs ts))) (h2:PcO H ts) (h3:H a=some (.tup p.vs)) (h4:ts.length<=52) (h5:∀l' H',Same H H'->H l'=none->H' l'=some (.lst (pcs (sel p ts)))->Q (.ref l') H'):JL vs H Q E
def KZ:Sp:=λ vs H Q E=>JL vs H Q E
theorem MT:Al ["_law_found","_law_piece"] ["_law_found","_law_piece"] (Ah D1):=fsc
theorem No(p:Rk)(ts:List PT):(sel p ts).length<=ts.length:=List.length_filter_le ..
theorem Pf{p:Rk}{ts:List PT}{i:Nat}{t:PT}(h:ts[i]?=some t):sel p (ts.take (i+1))=sel p (ts.take i)++if inR p t.2.2.1=true then [t] else []:=by
 unfold sel;rw[List.take_succ,h,List.filter_append];show _++List.filter _ [t]=_;rw[List.filter_cons];rfl
theorem Lk{f:Addr}{fd:FuncData}(F:Fun K "_law_side" "_law_side" D1 f fd):A9 P w K mg base CX0 1 f fd ["_law_found","_law_piece"] KZ:=by
 have S:=MT;refine F.ok S (λ vs H Q E h=>?_) (λ cdv A outer s H vs Q E hr h=>?_)
 .obtain⟨l,a,p,ts,rfl,_⟩:=h;rfl
 .obtain⟨l,a,p,ts,rfl,hl,pc,ha,few,q⟩:=h;refine⟨_,(Ag (An (Li rfl (BH (pv 0)) (λ_ _ _ _ _=>(Aq (i:=0) (show List.Nodup (["_law_one","_law_piece"]:LSz) from by decide +kernel) rfl (Or.inl rfl))) (λ_ _ _ _ _=>(PW.pt (Ek (Ak Cj (Ap (B6 (K:=K)) (pv 1) Ae (λ_ _=>rfl)) (Ap (B6 (K:=K)) (Ap (B6 (K:=K)) (pv 0) Ae (λ_ _=>rfl)) Ae (λ_ _=>rfl)) (Am _)) (Ek (Ak Cj (Ap (B6 (K:=K)) (pv 1) Ae (λ_ _=>rfl)) (Ap (B6 (K:=K)) (Ap (B6 (K:=K)) (pv 0) Ae (λ_ _=>rfl)) Ae (λ_ _=>rfl)) (Am _)) (Ek (Ak Cj (Ap (B6 (K:=K)) (Ap (B6 (K:=K)) (pv 0) Ae (λ_ _=>rfl)) Ae (λ_ _=>rfl)) (Ap (B6 (K:=K)) (pv 1) Ae (λ_ _=>rfl)) (Am _)) (E9 (Ak Cj (Ap (B6 (K:=K)) (Ap (B6 (K:=K)) (pv 0) Ae (λ_ _=>rfl)) Ae (λ_ _=>rfl)) (Ap (B6 (K:=K)) (pv 1) Ae (λ_ _=>rfl)) (Am _)))))))) (λ_ _ _ _ _=>(pv 0)) (N:=["_law_one","_law_piece"]) (fr:=[none,some 1])))),?_⟩;have hlen:=No p;refine⟨_,rfl,l,rfl,⟨_,SqL.of hl⟩,λ acc hacc=>HE (K:=K) (a:=l) (ys:=pcs ts) (λ i zs σ H'=>(∃y0,σ=[y0,some (.ref a)])/\Same H H'/\zs=pcs (sel p (ts.take i))) ⟨⟨none,rfl⟩,Same.new hacc,rfl⟩ (λ i zs σ H' _ _ hp=>SqL.of (hp.2.1 _ _ hl)) ?_ ?_⟩
  .rintro i x zs σ H' hx hi hl' hacc' ⟨⟨y0,rfl⟩,hs,hz⟩;obtain⟨t,hti,rfl⟩:=Mr hx;obtain⟨p1,p2⟩:=pc t (List.mem_of_getElem? hti);have st:=Pf (p:=p) hti;have p1:=SqT.of (K:=K) (hs _ _ p1);have p2:=SqT.of (K:=K) (hs _ _ p2);have ha:=SqT.of (K:=K) (hs _ _ ha);have sk:inR p t.2.2.1=false->zs=pcs (sel p (ts.take (i+1))):=λ e=>by rw[st,e,hz];exact congrArg pcs (List.append_nil _).symm
   refine⟨_,rfl,a,_,_,_,rfl,rfl,ha,at0,_,rfl,t.1,_,_,_,rfl,rfl,p1,Cc,t.2.1,_,_,_,rfl,rfl,p2,at0,_,_,rfl,rfl,_,rfl,?_⟩;by_cases c1:p.t<=t.2.2.1.t
   case neg=>exact A5 (decide_eq_false c1) (fSk.mk hi hl' hacc' ⟨⟨_,rfl⟩,hs,sk (by unfold inR;rw[decide_eq_false c1];rfl)⟩)
   refine AT (decide_eq_true c1) ⟨_,rfl,a,_,_,_,rfl,rfl,ha,at1,_,rfl,t.1,_,_,_,rfl,rfl,p1,Cc,t.2.1,_,_,_,rfl,rfl,p2,at1,_,_,rfl,rfl,_,rfl,?_⟩;by_cases c2:p.l<=t.2.2.1.l
   case neg=>exact A5 (decide_eq_false c2) (fSk.mk hi hl' hacc' ⟨⟨_,rfl⟩,hs,sk (by unfold inR;rw[decide_eq_false c2,Bool.false_and,Bool.and_false])⟩)
   refine AT (decide_eq_true c2) ⟨_,rfl,t.1,_,_,_,rfl,rfl,p1,Cc,t.2.1,_,_,_,rfl,rfl,p2,at2,_,rfl,a,_,_,_,rfl,rfl,ha,at2,_,_,rfl,rfl,_,rfl,?_⟩;by_cases c3:t.2.2.1.b<=p.b
   case neg=>exact A5 (decide_eq_false c3) (fSk.mk hi hl' hacc' ⟨⟨_,rfl⟩,hs,sk (by unfold inR;rw[decide_eq_false c3,Bool.false_and,Bool.and_false,Bool.and_false])⟩)
   refine AT (decide_eq_true c3) ⟨_,rfl,t.1,_,_,_,rfl,rfl,p1,Cc,t.2.1,_,_,_,rfl,rfl,p2,at3,_,rfl,a,_,_,_,rfl,rfl,ha,at3,_,_,rfl,rfl,?_⟩;by_cases c4:t.2.2.1.r<=p.r
   .have e:inR p t.2.2.1=true:=by unfold inR;rw[decide_eq_true c1,decide_eq_true c2,decide_eq_true c3,decide_eq_true c4];rfl
    refine⟨true,congrArg V.bl (decide_eq_true c4),_,rfl,fNx.mk (Nat.le_of_lt (Au (by rw[List.length_map];lia))) hi hl' hacc' ⟨⟨_,rfl⟩,λ d o e=>by rw[Ai (Af e hacc)];exact hs d o e,?_⟩⟩;rw[st,e,hz];exact(List.map_append (f:=λ t:PT=>V.ref t.1) (l₁:=sel p (ts.take i)) (l₂:=[t])).symm
   .exact⟨false,congrArg V.bl (decide_eq_false c4),fSk.mk hi hl' hacc' ⟨⟨_,rfl⟩,hs,sk (by unfold inR;rw[decide_eq_false c4,Bool.and_false,Bool.and_false,Bool.and_false])⟩⟩
  .rintro zs σ H' hl' hacc' ⟨_,hs,hz⟩;rw[List.length_map,List.take_length]at hz;rw[hz]at hacc';exact q acc H' hs hacc hacc'
theorem Qe(p:Rk)(ts:List PT):cons (sel p ts)=(cons ts).filter λ g=>inR p g.1:=by
 induction ts with
 |nil=>rfl
 |cons t ts ih =>
  show cons (List.filter _ (t::ts))=List.filter _ (t.2.2::cons ts);rw[List.filter_cons,List.filter_cons];have ih:cons (List.filter (λ t:PT=>inR p t.2.2.1) ts)=_:=ih;cases inR p t.2.2.1 with
  |true=>rw[if_pos rfl,if_pos rfl,<-ih];rfl
  |false=>rw[if_neg Bool.false_ne_true,if_neg Bool.false_ne_true,<-ih]
theorem inR_iff{p g:Rk}:inR p g=true↔p.t<=g.t/\p.l<=g.l/\g.b<=p.b/\g.r<=p.r:=by
 unfold inR;rw[Bool.and_eq_true,Bool.and_eq_true,Bool.and_eq_true,decide_eq_true_iff,decide_eq_true_iff,decide_eq_true_iff,decide_eq_true_iff]
theorem Kt{p g:Rk}(h:¬(p.t<=g.t/\p.l<=g.l/\g.b<=p.b/\g.r<=p.r)):inR p g=false:=by
 cases e:inR p g with
 |true=>exact(h (inR_iff.mp e)).elim
 |false=>rfl
theorem QG{p q:Rk}{ts:List PT}(h:∀g,inR q g=true->inR p g=true):sel q (sel p ts)=sel q ts:=by
 unfold sel;rw[List.filter_filter];exact List.filter_congr λ t _=>by
  cases e:inR q t.2.2.1 with
  |true=>rw[h _ e];rfl
  |false=>rfl
theorem Fj{p q:Rk}{ts:List PT}{t x y:List (Rk×Option Int)}(pm:(cons (sel p ts)).Perm (x++y))(h:∀g,inR q g=true->inR p g=true)(hx:∀g∈x,inR q g.1=true)(hy:∀g∈y,inR q g.1=false):(cons (sel q ts)).Perm x:=by
 rw[<-QG (ts:=ts) h,Qe];have:=pm.filter λ g=>inR q g.1;have ey:y.filter (λ g=>inR q g.1)=[]:=List.filter_eq_nil_iff.mpr λ g hg=>by rw[hy g hg];exact Bool.false_ne_true
 rw[List.filter_append,List.filter_eq_self.mpr hx,ey,List.append_nil]at this;exact this
theorem GD{p q:Rk}{ts:List PT}{x y:List (Rk×Option Int)}(pm:(cons (sel p ts)).Perm (x++y))(h:∀g,inR q g=true->inR p g=true)(hx:∀g∈x,inR q g.1=false)(hy:∀g∈y,inR q g.1=true):(cons (sel q ts)).Perm y :=
 Fj (t:=x) (pm.trans List.perm_append_comm) h hy hx
structure Ps(p:Rk):Prop where
 t0:0<=p.t
 tb:p.t<p.b
 b1:p.b<=12
 l0:0<=p.l
 lr:p.l<p.r
 r1:p.r<=12
theorem O2{p:Rk}{u:Bool}{k:Int}{x y:Tr}{ts:List PT}(ps:Ps p)(f:FQ p (.cut u k x y))(pm:(cons (sel p ts)).Perm (BC (.cut u k x y) p)) :
  (Ps (p.fst u k)/\FQ (p.fst u k) x/\(cons (sel (p.fst u k) ts)).Perm (BC x (p.fst u k)))/\Ps (p.oth u k)/\FQ (p.oth u k) y/\(cons (sel (p.oth u k) ts)).Perm (BC y (p.oth u k)):=by
 rw[EH]at f;obtain⟨⟨k1,k2⟩,fx,fy⟩:=f;rw[BC]at pm;obtain⟨a1,a2,a3,a4,a5,a6⟩:=ps;cases u with
 |true =>
  have k2:k<p.r-p.l:=k2;have gx:=λ g hg=>BJ (p:=p.fst true k) a2 (show p.l<p.l+k by lia) fx g hg;have gy:=λ g hg=>BJ (p:=p.oth true k) a2 (show p.l+k<p.r by lia) fy g hg;refine⟨⟨⟨a1,a2,a3,a4,show p.l<p.l+k by lia,show p.l+k<=12 by lia⟩,fx,Fj (t:=[]) pm (λ g e=>?_) (λ g hg=>?_) λ g hg=>?_⟩,⟨a1,a2,a3,show 0<=p.l+k by lia,show p.l+k<p.r by lia,a6⟩,fy,GD pm (λ g e=>?_) (λ g hg=>?_) λ g hg=>?_⟩
  .have e:p.t<=g.t/\p.l<=g.l/\g.b<=p.b/\g.r<=p.l+k:=inR_iff.mp e;exact inR_iff.mpr (by lia)
  .have z:=gx g hg;have z:p.t<=g.1.t/\g.1.t<g.1.b/\g.1.b<=p.b/\p.l<=g.1.l/\g.1.l<g.1.r/\g.1.r<=p.l+k:=z;exact inR_iff.mpr (show p.t<=g.1.t/\p.l<=g.1.l/\g.1.b<=p.b/\g.1.r<=p.l+k by lia)
  .have z:=gy g hg;have z:p.t<=g.1.t/\g.1.t<g.1.b/\g.1.b<=p.b/\p.l+k<=g.1.l/\g.1.l<g.1.r/\g.1.r<=p.r:=z;exact Kt (show ¬(p.t<=g.1.t/\p.l<=g.1.l/\g.1.b<=p.b/\g.1.r<=p.l+k) by lia)
  .have e:p.t<=g.t/\p.l+k<=g.l/\g.b<=p.b/\g.r<=p.r:=inR_iff.mp e;exact inR_iff.mpr (by lia)
  .have z:=gx g hg;have z:p.t<=g.1.t/\g.1.t<g.1.b/\g.1.b<=p.b/\p.l<=g.1.l/\g.1.l<g.1.r/\g.1.r<=p.l+k:=z;exact Kt (show ¬(p.t<=g.1.t/\p.l+k<=g.1.l/\g.1.b<=p.b/\g.1.r<=p.r) by lia)
  .have z:=gy g hg;have z:p.t<=g.1.t/\g.1.t<g.1.b/\g.1.b<=p.b/\p.l+k<=g.1.l/\g.1.l<g.1.r/\g.1.r<=p.r:=z;exact inR_iff.mpr (show p.t<=g.1.t/\p.l+k<=g.1.l/\g.1.b<=p.b/\g.1.r<=p.r by lia)
 |false =>
  have k2:k<p.b-p.t:=k2;have gx:=λ g hg=>BJ (p:=p.fst false k) (show p.t<p.t+k by lia) a5 fx g hg;have gy:=λ g hg=>BJ (p:=p.oth false k) (show p.t+k<p.b by lia) a5 fy g hg;refine⟨⟨⟨a1,show p.t<p.t+k by lia,show p.t+k<=12 by lia,a4,a5,a6⟩,fx,Fj (t:=[]) pm (λ g e=>?_) (λ g hg=>?_) λ g hg=>?_⟩,⟨show 0<=p.t+k by lia,show p.t+k<p.b by lia,a3,a4,a5,a6⟩,fy,GD pm (λ g e=>?_) (λ g hg=>?_) λ g hg=>?_⟩
  .have e:p.t<=g.t/\p.l<=g.l/\g.b<=p.t+k/\g.r<=p.r:=inR_iff.mp e;exact inR_iff.mpr (by lia)
  .have z:=gx g hg;have z:p.t<=g.1.t/\g.1.t<g.1.b/\g.1.b<=p.t+k/\p.l<=g.1.l/\g.1.l<g.1.r/\g.1.r<=p.r:=z;exact inR_iff.mpr (show p.t<=g.1.t/\p.l<=g.1.l/\g.1.b<=p.t+k/\g.1.r<=p.r by lia)
  .have z:=gy g hg;have z:p.t+k<=g.1.t/\g.1.t<g.1.b/\g.1.b<=p.b/\p.l<=g.1.l/\g.1.l<g.1.r/\g.1.r<=p.r:=z;exact Kt (show ¬(p.t<=g.1.t/\p.l<=g.1.l/\g.1.b<=p.t+k/\g.1.r<=p.r) by lia)
  .have e:p.t+k<=g.t/\p.l<=g.l/\g.b<=p.b/\g.r<=p.r:=inR_iff.mp e;exact inR_iff.mpr (by lia)
  .have z:=gx g hg;have z:p.t<=g.1.t/\g.1.t<g.1.b/\g.1.b<=p.t+k/\p.l<=g.1.l/\g.1.l<g.1.r/\g.1.r<=p.r:=z;exact Kt (show ¬(p.t+k<=g.1.t/\p.l<=g.1.l/\g.1.b<=p.b/\g.1.r<=p.r) by lia)
  .have z:=gy g hg;have z:p.t+k<=g.1.t/\g.1.t<g.1.b/\g.1.b<=p.b/\p.l<=g.1.l/\g.1.l<g.1.r/\g.1.r<=p.r:=z;exact inR_iff.mpr (show p.t+k<=g.1.t/\p.l<=g.1.l/\g.1.b<=p.b/\g.1.r<=p.r by lia)
structure Wk(H:Hp)(lw lf a:Addr)(ws:LSz)(i:Nat)(ts:List PT)(p:Rk)(t:Tr)(rest:LSz):Prop where
 hw:H lw=some (.lst (ws.map V.str))
 hf:H lf=some (.lst (pcs ts))
 pc:PcO H ts
 ha:H a=some (.tup p.vs)
 few:ts.length<=52
 wl:ws.length<=103
 ps:Ps p
 fit:FQ p t
 wd:Wd t
 at_:ws.drop i=Ax t++rest
 pm:(cons (sel p ts)).Perm (BC t p)
inductive HS(n:Nat)(vs:LUz)(H:Hp)(Q:VK)(E:XK):Prop
 |mk (lw lf a:Addr) (ws:LSz) (i:Nat) (ts:List PT) (p:Rk) (t:Tr) (rest:LSz) (h0:vs=[.ref lw,.int i,.ref lf,.ref a]) (h1:Wk H lw lf a ws i ts p t rest) (h2:t.dp<n) (h3:∀H',Same H H'->Q (.int ((i+t.nd:Nat):Int)) H'):HS n vs H Q E
def CO(n:Nat) :Sp:=λ vs H Q E=>HS n vs H Q E
abbrev LO:LSz:=["_law_words_here","_law_at_here","_law_found","_law_piece","_law_inner","_law_word","_law_due","_law_top","_law_left","_law_bottom","_law_right","_law_number","_law_parts","_law_behind"]
theorem EO:Al LO ["_law_words_here","_law_at_here","_law_found","_law_piece"] (Ah B0):=fsc
theorem Q3{vs:LUz}{H:Hp}{Q:VK}{E:XK}:¬CO 0 vs H Q E:=by
 rintro⟨lw,lf,a,ws,i,ts,p,t,rest,_,_,z,_⟩;exact nomatch z
theorem NG{x0:V}:atI [x0] 0=some x0:=rfl
theorem ET{x:Str}{c:Nat}{i:Int}(h:x=(⟨#[c]⟩:Str)++num i)(h0:0<=i)(h1:i<=999):decide (V.str x=V.str ".")=false/\x.length<=sizeLine/\Txt.slice x (some 1) none=num i/\x.cps[(0:Int).toNat]?=some c/\(0:Int)<(x.length:Int):=by
 have n:=Cv h0 h1;subst h;refine⟨decide_eq_false (λ z=>?_),?_,Nr,LB,?_⟩
 .injection z with z;exact Qm n.1 z
 .rw[CH];exact Nat.le_of_lt (Au (by lia))
 .rw[CH];lia
theorem Of{ts:List PT}{p:Rk}{m:Option Int}(h:(cons ts).Perm [(p,m)]):∃a b,ts=[(a,b,p,m)]:=by
 have e:=List.perm_singleton.mp h
 match ts,e with
 |[(a,b,g)],e =>
  have e:[g]=[(p,m)]:=e;rw[List.cons.inj e |>.1];exact⟨a,b,rfl⟩
theorem OI{ws rest:LSz}{i:Nat}{u:Bool}{k:Int}{x y:Tr}(h:ws.drop i=Ax (.cut u k x y)++rest):ws.drop (i+1)=Ax x++(Ax y++rest)/\ws.drop (i+1+x.nd)=Ax y++rest:=by
 have e:Ax (.cut u k x y)=Bz (.c u k)::(Ax x++Ax y):=by
  unfold Ax;rw[ents,List.map_cons,List.map_append]
 have a:ws.drop (i+1)=Ax x++(Ax y++rest):=by
  rw[<-List.drop_drop,h,e,List.cons_append,List.drop_succ_cons,List.drop_zero,List.append_assoc]
 refine⟨a,?_⟩;rw[<-List.drop_drop,a,List.drop_append_of_le_length (Nat.le_of_eq (AR x).symm),<-AR x,List.drop_length,List.nil_append]
theorem Ih{f:Addr}{fd:FuncData}{n:Nat}(F:Fun K "_law_walked" "_law_walked" B0 f fd)(T:Txt mg tk)(D__law_side:AC P w K mg base 1 "_law_side" ["_law_found","_law_piece"] KZ)(D__law_walked:AC P w K mg base (n+3) "_law_walked" ["_law_words_here","_law_at_here","_law_found","_law_piece"] (CO n)) :
  A9 P w K mg base CX0 (n+4) f fd ["_law_words_here","_law_at_here","_law_found","_law_piece"] (CO (n+1)):=by
 have S:=EO;refine F.ok S (λ vs H Q E h=>?_) (λ cdv A outer s H vs Q E hr h=>?_)
 .obtain⟨lw,lf,a,ws,i,ts,p,t,rest,rfl,_⟩:=h;rfl
 .obtain⟨lw,lf,a,ws,i,ts,p,t,rest,rfl,hk,hd,q⟩:=h;obtain⟨hw,hf,pc,ha,few,wl,ps,fit,wd',at_,pm⟩:=hk;obtain⟨t7,h7,k7⟩:∃rd,PSs (Bv CX0 P w K mg base LO "_law_walked" (Ah B0) f cdv A outer s H E).nox ((AB B0).drop 7) rd/\∀(u:Bool)(k:Int)(x y:Tr)(l1 l2 a1 a2:Addr)(x5 x6 x7 x8 x9 x10 x11 x13:Option V)(H2:Hp),t=.cut u k x y->Same H H2->H2 l1=some (.lst (pcs (sel p ts)))->H2 l2=some (.lst [.ref a1,.ref a2])->H2 a1=some (.tup (p.fst u k).vs)->H2 a2=some (.tup (p.oth u k).vs) ->
    rd { nx:=λ_ H'=>Q .non H',rt:=Q } [some (.ref lw),some (.int i),some (.ref lf),some (.ref a),some (.ref l1),x5,x6,x7,x8,x9,x10,x11,some (.ref l2),x13] H2:=by
   refine⟨_,(Ad (A6 (Ak Fy (Av AQ (A3 AD rfl T.z_len rfl (Aa (A0 D__law_side hr (Aa (pv 2) (Aa (Ap Bh (pv 12) Ae (λ_ _=>rfl)) Ab)) (by lia)) Ab)) (A3 AD rfl T.z_len rfl (Aa (A0 D__law_side hr (Aa (pv 2) (Aa (Ap Bh (pv 12) Ae (λ_ _=>rfl)) Ab)) (by lia)) Ab))) (A3 AD rfl T.z_len rfl (Aa (pv 4) Ab)) (Am _)) (Ag (An (Lg Gm Ae))) Ao)
   (Ad (As (i:=13) S.nd rfl (Or.inl rfl) (A0 D__law_walked hr (Aa (pv 0) (Aa (Av AQ (pv 1) Ae) (Aa (pv 2) (Aa (Ap Bh (pv 12) Ae (λ_ _=>rfl)) Ab)))) (by lia)))
   (Ad (A6 (Ak ED (pv 13) Ae (Am _)) (Ag (An (Lg Gm Ae))) Ao)
   (Ag (An (A0 D__law_walked hr (Aa (pv 0) (Aa (pv 13) (Aa (pv 2) (Aa (Ap Bh (pv 12) Ae (λ_ _=>rfl)) Ab)))) (by lia))))))),?_⟩
   rintro u k x y l1 l2 a1 a2 x5 x6 x7 x8 x9 x10 x11 x13 H2 rfl s2 hl1 hl2 ha1 ha2;obtain⟨⟨ps1,f1,pm1⟩,ps2,f2,pm2⟩:=O2 ps fit pm;rw[Wd]at wd';obtain⟨_,_,wx,wy⟩:=wd';have hd:max x.dp y.dp+1<n+1:=hd;obtain⟨at1',at2'⟩:=OI at_;have len:(pcs (sel (p.fst u k) ts)).length+(pcs (sel (p.oth u k) ts)).length=(pcs (sel p ts)).length:=by
    have e:=pm.length_eq;have e1:=pm1.length_eq;have e2:=pm2.length_eq;rw[BC,List.length_append]at e;rw[List.length_map]at e e1 e2;rw[List.length_map,List.length_map,List.length_map];lia
   refine⟨_,rfl,_,rfl,l2,_,_,_,rfl,rfl,SqL.of hl2,Cc,lf,a1,p.fst u k,ts,rfl,s2 _ _ hf,pc.same s2,ha1,few,λ l3 H3 s3 nl3 hl3=>?_⟩;refine⟨l3,_,rfl,.inl (SqL.of hl3),?_⟩;refine⟨_,rfl,_,rfl,l2,_,_,_,rfl,rfl,SqL.of (s3 _ _ hl2),DH,lf,a2,p.oth u k,ts,rfl,s3 _ _ (s2 _ _ hf),(pc.same s2).same s3,s3 _ _ ha2,few,λ l4 H4 s4 nl4 hl4=>?_⟩;have S3:=s3.trans s4;have S4:=s2.trans S3;refine⟨l4,_,rfl,.inl (SqL.of hl4),_,_,rfl,rfl,_,rfl,l1,_,rfl,.inl (SqL.of (S3 _ _ hl1)),rfl,_,rfl,A5 (by rw[<-len,Int.natCast_add];exact Qb _) ?_⟩;refine⟨_,rfl,_,rfl,_,_,rfl,rfl,_,rfl,_,rfl,l2,_,_,_,rfl,rfl,SqL.of (S3 _ _ hl2),Cc,lw,lf,a1,ws,i+1,ts,p.fst u k,x,Ax y++rest,rfl,⟨S4 _ _ hw,S4 _ _ hf,pc.same S4,S3 _ _ ha1,few,wl,ps1,f1,wx,at1',pm1⟩,by lia,λ H5 s5=>?_⟩;have S5:=S4.trans s5;refine⟨_,rfl,_,_,rfl,rfl,_,rfl,A5 (decide_eq_false (by lia)) ?_⟩;refine⟨_,rfl,_,rfl,_,rfl,_,rfl,l2,_,_,_,rfl,rfl,SqL.of (s5 _ _ (S3 _ _ hl2)),DH,lw,lf,a2,ws,i+1+x.nd,ts,p.oth u k,y,rest,rfl,⟨S5 _ _ hw,S5 _ _ hf,pc.same S5,s5 _ _ (S3 _ _ ha2),few,wl,ps2,f2,wy,at2',pm2⟩,by lia,λ H6 s6=>?_⟩;have e:i+1+x.nd+y.nd=i+(Tr.cut u k x y).nd:=by show _=i+(x.nd+y.nd+1);lia
   rw[e];exact q H6 (S5.trans s6)
  have il:i<ws.length:=by
   have e:=congrArg List.length at_;rw[List.length_drop,List.length_append,AR]at e;have:=Kl t;lia
  have hi:ws[i]?=some (Bz (hdE t)):=by
   have e:(ws.drop i)[0]?=ws[i]?:=by rw[List.getElem?_drop,Nat.add_zero]
   rw[<-e,at_];cases t<;>rfl
  have hat:atI (ws.map V.str) (i:Int)=some (.str (Bz (hdE t))):=K5 (by rw[List.getElem?_map,hi];rfl);have few1:=No p ts;refine⟨_,(Ad (As (i:=4) S.nd rfl (Or.inl rfl) (A0 D__law_side hr (Aa (pv 2) (Aa (pv 3) Ab)) (by lia)))
   (Ad (As (i:=5) S.nd rfl (Or.inl rfl) (Ap Bh (pv 0) (pv 1) (λ_ _=>rfl)))
   (Ad (A6 (Ak Jm (BA (pv 5) Ae (λ_ _=>rfl)) AK rfl) (Ad (A6 (PW.pt (Ca (Ak Fy (A3 AD rfl T.z_len rfl (Aa (pv 4) Ab)) Ae (Am _)) (Cg (Ak (Mt hr) (Ap Ar (Ap Bh (pv 4) Ae (λ_ _=>rfl)) Ae (λ_ _=>rfl)) (pv 3) (Am _))))) (Ag (An (Lg Gm Ae))) Ao)
   (Ad (As (i:=6) S.nd rfl (Or.inl rfl) (AY (Ak AO (pv 5) AK (Am _)) Bt (Bk CJ rfl T.z_int rfl (Aa (G7 Mf (pv 5) (JV Ae) JW) Ab))))
   (Ag (An (AY (Ak AO (Ap Ar (Ap Bh (pv 4) Ae (λ_ _=>rfl)) Ae (λ_ _=>rfl)) (pv 6) (Am _)) (Av AQ (pv 1) Ae) (Lg Gm Ae)))))) Ao)
   (Ad (Mp (pv 3) (CG rfl (Aw (Aq (i:=7) S.nd rfl (Or.inl rfl)) (Aw (Aq (i:=8) S.nd rfl (Or.inl rfl)) (Aw (Aq (i:=9) S.nd rfl (Or.inl rfl)) (Aw (Aq (i:=10) S.nd rfl (Or.inl rfl)) Bf))))))
   (Ad (As (i:=11) S.nd rfl (Or.inl rfl) (Bk CJ rfl T.z_int rfl (Aa (G7 Mf (pv 5) (JV Ae) JW) Ab)))
   (Ad (As (i:=12) S.nd rfl (Or.inl rfl) (AV (Aa (AF (Aa (pv 7) (Aa (pv 8) (Aa (pv 9) (Aa (Av AQ (pv 8) (pv 11)) Ab))))) (Aa (AF (Aa (pv 7) (Aa (Av AQ (pv 8) (pv 11)) (Aa (pv 9) (Aa (pv 10) Ab))))) Ab))))
   (Ad (A6 (Ak AO (BA (pv 5) Ae (λ_ _=>rfl)) AK (Am _)) (Ag (As (i:=12) S.nd rfl (Or.inl rfl) (AV (Aa (AF (Aa (pv 7) (Aa (pv 8) (Aa (Av AQ (pv 7) (pv 11)) (Aa (pv 10) Ab))))) (Aa (AF (Aa (Av AQ (pv 7) (pv 11)) (Aa (pv 8) (Aa (pv 9) (Aa (pv 10) Ab))))) Ab))))) Ao)
   h7))))))),?_⟩
  refine⟨_,rfl,_,rfl,lf,a,p,ts,rfl,hf,pc,ha,few,λ l1 H1 s1 nl1 hl1=>?_⟩;have pc1:=pc.same s1;have ha1:=s1 _ _ ha;refine⟨_,rfl,_,rfl,lw,_,_,_,rfl,rfl,SqL.of (s1 _ _ hw),hat,?_⟩;cases t with
  |whole m =>
   obtain⟨ta,tp,e⟩:=Of pm;have mem:(ta,tp,p,m)∈ts:=(List.mem_filter.mp (show(ta,tp,p,m)∈sel p ts by rw[e];exact List.mem_singleton.mpr rfl)).1;obtain⟨p1,p2⟩:=pc1 _ mem;have p1:H1 ta=some (.tup [.ref tp,Ba m]):=p1;have p2:H1 tp=some (.tup p.vs):=p2;rw[e]at hl1;have hl1:H1 l1=some (.lst [.ref ta]):=hl1;have dq:(if true=true then !deq (rcD p) (rcD p) else deq (rcD p) (rcD p))=false:=by rw[if_pos rfl,CV (K:=K) (H:=H1) _ (D4 ha1)];rfl
   rw[Wd]at wd';cases m with
   |none =>
    refine⟨_,rfl,".",0,46,rfl,rfl,by decide,by decide,by decide +kernel,by decide +kernel,_,_,rfl,rfl,_,rfl,AT (by decide +kernel) ?_⟩;refine⟨_,rfl,l1,_,rfl,.inl (SqL.of hl1),rfl,_,rfl,A5 (Qb 1) ⟨_,rfl,l1,_,_,_,rfl,rfl,SqL.of hl1,NG,ta,_,_,_,rfl,rfl,SqT.of p1,Cc,_,rfl,rcD p,rcD p,D4 p2,D4 ha1,⟨_,rfl⟩,⟨_,rfl⟩,G4 p,_,rfl,A5 dq ?_⟩⟩;refine⟨_,rfl,rfl,_,rfl,AT (decide_eq_true rfl) ?_⟩;exact⟨_,rfl,l1,_,_,_,rfl,rfl,SqL.of hl1,NG,ta,_,_,_,rfl,rfl,SqT.of p1,DH,_,rfl,rfl,_,rfl,AT (decide_eq_true rfl) ⟨_,rfl,_,_,rfl,rfl,q H1 s1⟩⟩
   |some j =>
    obtain⟨h0,h1⟩:=wd' j rfl;obtain⟨x,hx⟩:∃x,Bz (hdE (.whole (some j)))=x:=⟨_,rfl⟩;obtain⟨xn,xl,xr,x0,xp⟩:=ET (c:=35) (i:=j) hx.symm h0 h1;rw[hx];refine⟨_,rfl,x,0,35,rfl,rfl,by decide,by decide,xp,x0,_,_,rfl,rfl,_,rfl,AT (by decide +kernel) ?_⟩;refine⟨_,rfl,l1,_,rfl,.inl (SqL.of hl1),rfl,_,rfl,A5 (Qb 1) ⟨_,rfl,l1,_,_,_,rfl,rfl,SqL.of hl1,NG,ta,_,_,_,rfl,rfl,SqT.of p1,Cc,_,rfl,rcD p,rcD p,D4 p2,D4 ha1,⟨_,rfl⟩,⟨_,rfl⟩,G4 p,_,rfl,A5 dq ?_⟩⟩;refine⟨_,rfl,rfl,_,rfl,A5 xn ⟨_,rfl,_,rfl,x,rfl,xl,_,j,rfl,by rw[xr];exact Nat.le_trans (Cv h0 h1).2.1 (by decide),by rw[xr];exact num_reads h0 h1,?_⟩⟩;exact⟨_,rfl,l1,_,_,_,rfl,rfl,SqL.of hl1,NG,ta,_,_,_,rfl,rfl,SqT.of p1,DH,_,rfl,rfl,_,rfl,AT (decide_eq_true rfl) ⟨_,rfl,_,_,rfl,rfl,q H1 s1⟩⟩
  |cut u k y1 y2 =>
   have wd2:=wd';rw[Wd]at wd2;obtain⟨g1,g2,_,_⟩:=wd2;have h0:0<=k:=by lia
   have h1:k<=999:=by lia
   obtain⟨x,hx⟩:∃x,Bz (hdE (.cut u k y1 y2))=x:=⟨_,rfl⟩;rw[hx];obtain⟨v1,v2,v3,v4,v5,v6⟩:=ps;cases u with
   |true =>
    obtain⟨xn,xl,xr,x0,xp⟩:=ET (c:=124) (i:=k) hx.symm h0 h1;refine⟨_,rfl,x,0,124,rfl,rfl,by decide,by decide,xp,x0,_,_,rfl,rfl,_,rfl,A5 (by decide +kernel) ?_⟩;refine⟨_,rfl,a,_,rfl,SqT.of ha1,rfl,_,_,rfl,_,_,rfl,_,_,rfl,_,_,rfl,rfl,?_⟩;refine⟨_,rfl,_,rfl,x,rfl,xl,_,k,rfl,by rw[xr];exact Nat.le_trans (Cv h0 h1).2.1 (by decide),by rw[xr];exact num_reads h0 h1,?_⟩;refine⟨_,rfl,_,rfl,_,rfl,_,rfl,_,rfl,_,_,rfl,rfl,Az 4,λ c1 nc1=>?_⟩;obtain⟨H2,e2,s2,hc1⟩:=nw (.tup [.int p.t,.int p.l,.int p.b,.int (p.l+k)]) nc1;rw[e2];refine⟨_,rfl,_,rfl,_,rfl,_,_,rfl,rfl,_,rfl,_,rfl,Az 4,λ c2 nc2=>?_⟩;obtain⟨H3,e3,s3,hc2⟩:=nw (.tup [.int p.t,.int (p.l+k),.int p.b,.int p.r]) nc2;rw[e3];refine⟨Az 2,λ l2 nl2=>?_⟩;obtain⟨H4,e4,s4,hl2⟩:=nw (.lst [.ref c1,.ref c2]) nl2;rw[e4];refine⟨_,rfl,x,0,124,rfl,rfl,by decide,by decide,xp,x0,rfl,_,rfl,A5 (by decide +kernel) ?_⟩;have S4:=(s2.trans s3).trans s4;exact k7 true k y1 y2 l1 l2 c1 c2 _ _ _ _ _ _ _ _ H4 rfl (s1.trans S4) (S4 _ _ hl1) hl2 (s4 _ _ (s3 _ _ hc1)) (s4 _ _ hc2)
   |false =>
    obtain⟨xn,xl,xr,x0,xp⟩:=ET (c:=45) (i:=k) hx.symm h0 h1;refine⟨_,rfl,x,0,45,rfl,rfl,by decide,by decide,xp,x0,_,_,rfl,rfl,_,rfl,A5 (by decide +kernel) ?_⟩;refine⟨_,rfl,a,_,rfl,SqT.of ha1,rfl,_,_,rfl,_,_,rfl,_,_,rfl,_,_,rfl,rfl,?_⟩;refine⟨_,rfl,_,rfl,x,rfl,xl,_,k,rfl,by rw[xr];exact Nat.le_trans (Cv h0 h1).2.1 (by decide),by rw[xr];exact num_reads h0 h1,?_⟩;refine⟨_,rfl,_,rfl,_,rfl,_,rfl,_,rfl,_,_,rfl,rfl,Az 4,λ c1 nc1=>?_⟩;obtain⟨H2,e2,s2,hc1⟩:=nw (.tup [.int p.t,.int p.l,.int p.b,.int (p.l+k)]) nc1;rw[e2];refine⟨_,rfl,_,rfl,_,rfl,_,_,rfl,rfl,_,rfl,_,rfl,Az 4,λ c2 nc2=>?_⟩;obtain⟨H3,e3,s3,hc2⟩:=nw (.tup [.int p.t,.int (p.l+k),.int p.b,.int p.r]) nc2;rw[e3];refine⟨Az 2,λ l2 nl2=>?_⟩;obtain⟨H4,e4,s4,hl2⟩:=nw (.lst [.ref c1,.ref c2]) nl2;rw[e4];refine⟨_,rfl,x,0,45,rfl,rfl,by decide,by decide,xp,x0,rfl,_,rfl,AT (by decide +kernel) ?_⟩;refine⟨_,rfl,_,rfl,_,rfl,_,rfl,_,_,rfl,rfl,_,rfl,Az 4,λ c3 nc3=>?_⟩;obtain⟨H5,e5,s5,hc3⟩:=nw (.tup [.int p.t,.int p.l,.int (p.t+k),.int p.r]) nc3;rw[e5];refine⟨_,rfl,_,rfl,_,_,rfl,rfl,_,rfl,_,rfl,_,rfl,Az 4,λ c4 nc4=>?_⟩;obtain⟨H6,e6,s6,hc4⟩:=nw (.tup [.int (p.t+k),.int p.l,.int p.b,.int p.r]) nc4;rw[e6];refine⟨Az 2,λ l3 nl3=>?_⟩;obtain⟨H7,e7,s7,hl3⟩:=nw (.lst [.ref c3,.ref c4]) nl3;rw[e7];have S4:=(s2.trans s3).trans s4;have S7:=S4.trans ((s5.trans s6).trans s7);exact k7 false k y1 y2 l1 l3 c3 c4 _ _ _ _ _ _ _ _ H7 rfl (s1.trans S7) (S7 _ _ hl1) hl3 (s7 _ _ (s6 _ _ hc3)) (s7 _ _ hc4)
theorem Obj.fz{H H':Hp}(s:∀b C dx fs,H b=some (.ins C dx fs)->H' b=some (.ins C dx fs)):∀{t:Tr}{v:V},Obj cW cU cL H t v->Obj cW cU cL H' t v
 |.whole m,v,h=>by
  rw[Obj]at h |-;obtain⟨a,dx,e,h⟩:=h;exact⟨a,dx,e,s _ _ _ _ h⟩
 |.cut u k x y,v,h=>by
  rw[Obj]at h |-;obtain⟨a,dx,vx,vy,e,h,h1,h2⟩:=h;exact⟨a,dx,vx,vy,e,s _ _ _ _ h,Obj.fz s h1,Obj.fz s h2⟩
theorem Ss{z:V}:(!decide (z=z))=false:=by rw[decide_eq_true rfl];rfl
theorem R7(r:Int):1<=1+r % 12/\1+r % 12<=12:=by
 have a:=Int.emod_nonneg r (b:=12) (by decide);have b:=Int.emod_lt_of_pos r (b:=12) (by decide);lia
theorem KU:∀t:Tr,t.sz=t.cs+1
 |.whole _=>rfl
 |.cut u k x y=>by show x.sz+y.sz=x.cs+y.cs+1+1;rw[KU x,KU y];lia
theorem QH{ts:List PT}{ww hh:Int}(til:GB.Tiles ww hh (BS ts)):sel ⟨0,0,hh,ww⟩ ts=ts:=List.filter_eq_self.mpr λ t ht=>by
 obtain⟨c1,c2,c3,c4,c5,c6⟩:=til.ins t.2.2.1 (List.mem_map.mpr ⟨t,ht,rfl⟩);exact inR_iff.mpr ⟨c1,c4,c3,c6⟩
theorem Rt(ts:List PT):rcs (rts ts)=BS ts:=by
 show List.map (·.2) (List.map (λ t:PT=>(t.2.1,t.2.2.1)) ts)=List.map (λ t:PT=>t.2.2.1) ts;rw[List.map_map];rfl
theorem PV(ts:List PT):BS ts=(cons ts).map (·.1):=by
 show List.map (λ t:PT=>t.2.2.1) ts=List.map (·.1) (List.map (λ t:PT=>t.2.2) ts);rw[List.map_map];rfl
theorem QQ{X:Cx}{K:Frag}{k:Nat}(hr:Room k X.A)(hK:X.K=K:=by rfl):OpR X (compareOp .Eq) (Se K false):=by subst hK;exact Kb hr
theorem M6{w h:Int}{ls ld:Addr}:(Hn w h ls ld).lookup ("pane_at":Str)=none:=N8 _ _ _ _ (by decide +kernel) (by decide +kernel) (by decide +kernel) (by decide +kernel)
theorem OR(L:List HK):(Co L).length=L.length:=List.length_map ..
theorem Q5{L:List HK}(n:(L.map (·.1)).Nodup){z:HK}(hz:z∈L):Bd (Co L) (sqK z.1.1 z.1.2)=some (.ref z.2):=by
 obtain⟨a,m,e⟩:=IW (r:=z.1.1) (c:=z.1.2) (List.mem_map.mpr ⟨z,hz,rfl⟩);obtain⟨i,hi,ei⟩:=List.getElem_of_mem hz;obtain⟨j,hj,ej⟩:=List.getElem_of_mem m;have:i=j:=(List.getElem_inj (xs:=L.map (·.1)) (h₀:=by rw[List.length_map];exact hi) (h₁:=by rw[List.length_map];exact hj) n).mp (by rw[List.getElem_map,List.getElem_map,ei,ej]);subst this;rw[e];have:a=z.2:=congrArg Prod.snd (ej.symm.trans ei);rw[this]
abbrev LP:LSz:=["_law_script","_law_width","_law_height","_law_twin","_law_cells","_law_told","_law_words_here","_law_tree","_law_found","_law_known","_law_panel"]
theorem TR:Al LP ["_law_script"] (Ah Cw):=fsc
inductive NL(tb:Addr)(K:Frag)(vs:LUz)(H:Hp)(Q:VK)(E:XK):Prop
 |mk (a:Addr) (ns:List Int) (h0:vs=[.ref a]) (h1:SqL K H a (ns.map V.int)) (h2:ns.length<=63) (h3:H tb=some (.tbl #[])) (h4:∀H',Q (.bl true) H'):NL tb K vs H Q E
def sp_law(tb:Addr)(K:Frag) :Sp:=λ vs H Q E=>NL tb K vs H Q E
theorem So{f tb cN cS cM:Addr}{fd:FuncData}(F:Fun K "law" "law" Cw f fd)(T:Txt mg tk)(D__law_at:AC P w K mg base 1 "_law_at" ["_law_script","_law_k"] (Pd K))(D__law_more:AC P w K mg base 2 "_law_more" ["_law_script","_law_at_here","_law_many"] (Nj K))(D__law_knead:AC P w K mg base 1 "_law_knead" ["_law_number","_law_by"] Gw)
  (D__law_drawn:AC P w K mg base 28 "_law_drawn" ["_law_cells","_law_width","_law_height","_law_twin"] (CP 25)) (D__law_made:AC P w K mg base 27 "_law_made" ["_law_told","_law_twin"] (DN cW cU cL 24)) (D__law_words:AC P w K mg base 27 "_law_words" ["_law_told"] (Dx 24))
  (D__law_filled:AC P w K mg base 1 "_law_filled" ["_law_found","_law_width","_law_height"] Je) (D__law_walked:AC P w K mg base 27 "_law_walked" ["_law_words_here","_law_at_here","_law_found","_law_piece"] (CO 24))
  (D_written:AC P w K mg base 4 "written" ["tree"] (DZ cW cU cL)) (D_read_tree:AC P w K mg base 5 "read_tree" ["text"] (JT cW cU cL)) (D_pieces:BR P w K mg base 5 "pieces" ["tree","width","height"] (DM tb cW cU cL cN cS)) (D_panel_of:BR P w K mg base 6 "panel_of" ["tree","width","height"] (Eb tb cW cU cL cN cS cM C))
  (PC:Qt K C) (M_Panel_panes:Fw P w K mg base 1 C "panes" ["self"] (KY C)) (M_Panel_pane_at:Fw P w K mg base 1 C "pane_at" ["self","row","column"] (Gu C)) (M_turned:∀C,IsT cW cU cL C->Fw P w K mg base 5 C "turned" ["self"] (Ec cW cU cL)) (M_leaves:∀C,IsT cW cU cL C->Fw P w K mg base 4 C "leaves" ["self"] (EX cW cU cL)) (M_fits:∀C,IsT cW cU cL C->Fw P w K mg base 5 C "fits" ["self","width","height"] (Gv cW cU cL)) :
  A9 P w K mg base CX0 29 f fd ["_law_script"] (sp_law tb K):=by
 have S:=TR;refine F.ok S (λ vs H Q E h=>?_) (λ cdv A outer s H vs Q E hr h=>?_)
 .obtain⟨a,ns,rfl,_⟩:=h;rfl
 .obtain⟨a,ns,rfl,hS,hlen,htb,q⟩:=h;have hu:=L8 hr;obtain⟨tE,hE,kE⟩:∃rd,PSs (Bv CX0 P w K mg base LP "law" (Ah Cw) f cdv A outer s H E).nox ((AB Cw).drop 16) rd/\∀(x0 x1 x2 x3 x4 x5 x8:Option V)(ww hh:Int)(o:V)(t:Tr)(lw d b dx ls ld:Addr)(ts:List PT)(us:List (Addr×Rc))(kvs:LKz)(L:List HK)(H1:Hp),Obj cW cU cL H1 t o->Wd t->t.nd<=103->H1 lw=some (.lst ((Ax t).map V.str))->H1 d=some (.dT (Co L))->SqI ts L->(L.length:Int)=ww*hh->(1<=ww/\ww<=12)->(1<=hh/\hh<=12)->PcO H1 ts->GB.Tiles ww hh (BS ts)->PanelAt C H1 b ww hh us dx ls ld kvs->(rcs us).Perm (BS ts) ->
    rd { nx:=λ_ H'=>Q .non H',rt:=Q } [x0,x1,x2,x3,x4,x5,some (.ref lw),some o,x8,some (.ref d),some (.ref b)] H1:=by
   refine⟨_,(Ad (A6 (BG (BO (A3 HG rfl T.z_all rfl (Aa (Cy rfl (Pt (pv 9)) (λ_ _ _ _ _=>(DQ (K:=K) (n:=2) rfl (Aw (Aq (i:=0) (show List.Nodup (["_law_row","_law_column","_law_known","_law_panel"]:LSz) from by decide +kernel) rfl (Or.inl rfl)) (Aw (Aq (i:=1) (show List.Nodup (["_law_row","_law_column","_law_known","_law_panel"]:LSz) from by decide +kernel) rfl (Or.inl rfl)) Bf)))) (λ_ _ _ _ _=>(BU (QQ (K:=K) hr) (Tq M_Panel_pane_at hr (pv 3) (Aa (pv 0) (Aa (pv 1) Ab))) (Ny hu (pv 2) (AF (Aa (pv 0) (Aa (pv 1) Ab))) (λ_ _=>rfl)) (Am _))) (N:=["_law_row","_law_column","_law_known","_law_panel"]) (fr:=[none,none,some 9,some 10])) Ab)))) (Ag (An CS)) Ao)
   (Ag (An (BU AO (A0 D_written hr (Aa (JZ M_turned hr (JZ M_turned hr (pv 7))) Ab)) (Cz PySem.F.plainAttrs_str PySem.F.slot_str_join PySem.F.type_str_join FY AK (Aa (pv 6) Ab)) (Am _))))),?_⟩
   rintro x0 x1 x2 x3 x4 x5 x8 ww hh o t lw d b dx ls ld ts us kvs L H1 ho wd' nd1 hlw hd sq ll ⟨w1,w2⟩ ⟨h1,h2⟩ pc til pn pm;have lb:L.length<=144:=by
    have:ww*hh<=12*12:=Int.mul_le_mul w2 h2 (by lia) (by decide);lia
   refine⟨_,rfl,d,_,rfl,Rd.of hd,λ ob acc nacc=>?_⟩;have dn:∀x o,H1 x=some o->(∀kv,o≠.dT kv)->x≠d:=λ x o e n z=>by rw[z,hd]at e;exact n _ (Option.some.inj e).symm
   have ef:(upd H1 d (.frz ob (.dT (Co L)))) d=some (.frz ob (.dT (Co L))):=Ac;have sf:SameX d H1 (upd H1 d (.frz ob (.dT (Co L)))):=SameX.upd;generalize upd H1 d (.frz ob (.dT (Co L)))=H2 at ef sf nacc |-;have nT:∀(xs:LUz) kv,HO.tup xs≠.dT kv:=λ_ _ z=>by cases z
   have nL:∀(xs:LUz) kv,HO.lst xs≠.dT kv:=λ_ _ z=>by cases z
   have nI:∀(C dx:Addr)(fs:LFz) kv,HO.ins C dx fs≠.dT kv:=λ_ _ _ _ z=>by cases z
   have ob2:=sf _ _ (dn _ _ pn.ob (nI _ _ _)) pn.ob;have rd2:Rd H2 ld (.dT kvs):=by
    by_cases z:ld=d
    .have e:=pn.dic;rw[z,hd]at e;rw[z,<-Option.some.inj e];exact .inr ⟨_,ef⟩
    .exact .inl (sf _ _ z pn.dic)
   have ats2:At H2 us:=λ u hu=>sf _ _ (dn _ _ (pn.ats u hu) (nT _)) (pn.ats u hu);have pc2:∀t∈ts,H2 t.2.1=some (.tup t.2.2.1.vs):=λ t ht=>sf _ _ (dn _ _ (pc t ht).2 (nT _)) (pc t ht).2;have ho2:Obj cW cU cL H2 t o:=ho.fz λ b C dx fs e=>sf _ _ (dn _ _ e (nI _ _ _)) e;have hlw2:=sf _ _ (dn _ _ hlw (nL _)) hlw;refine MN (a:=d) (ob:=ob) (kvs:=Co L) (λ i zs σ H'=>(∃y0 y1,σ=[y0,y1,some (.ref d),some (.ref b)])/\Same H2 H'/\zs=(List.replicate i true).map V.bl) ⟨⟨none,none,rfl⟩,Same.new nacc,rfl⟩ (λ i zs σ H' _ _ hp=>hp.2.1 _ _ ef) ?_ ?_
   .rintro i p c zs σ H3 hp hi hz ha ⟨⟨y0,y1,rfl⟩,s3,hzs⟩ ec;unfold Co at hp;rw[List.getElem?_map]at hp;obtain⟨z,hz0,rfl⟩:=Option.map_eq_some_iff.mp hp;have hzm:=List.mem_of_getElem? hz0;obtain⟨t',ht',has',ez⟩:=sq.of z hzm;have in':=til.ins t'.2.2.1 (List.mem_map.mpr ⟨t',ht',rfl⟩);obtain⟨c1,c2,c3,c4,c5,c6⟩:=in';obtain⟨g1,g2,g3,g4⟩:=has';obtain⟨u,hu1,hv,hh1⟩:=pn.look z.1.1 z.1.2 (by lia) (by lia) (by lia) (by lia);have eu:u.2=t'.2.2.1:=MR pn.til.dis (List.mem_map.mpr ⟨u,hu1,rfl⟩) (pm.mem_iff.mpr (List.mem_map.mpr ⟨t',ht',rfl⟩)) hh1 ⟨g1,g2,g3,g4⟩;have ec:H3 c=some (.tup [.int z.1.1,.int z.1.2]):=ec;refine⟨c,_,rfl,SqT.of ec,rfl,_,_,rfl,_,_,rfl,rfl,?_⟩;refine⟨_,rfl,b,dx,_,rfl,s3 _ _ ob2,M6,_,rfl,_,rfl,b,dx,ls,ld,ww,hh,z.1.1,z.1.2,u.1,kvs,rfl,s3 _ _ ob2,rd2.elim (λ e=>.inl (s3 _ _ e)) (λ⟨o,e⟩=>.inr ⟨o,s3 _ _ e⟩),hv,λ H4 s4=>?_⟩;refine⟨_,rfl,_,rfl,_,rfl,Az 2,λ k nk=>?_⟩;obtain⟨H5,e5,s5,hk⟩:=nw (.tup [.int z.1.1,.int z.1.2]) nk;rw[e5];have S5:=(s3.trans s4).trans s5;have S35:=s4.trans s5;have dg:DGet H5 d (.ref k) (some (.ref z.2)):=.inr ⟨Co L,sqK z.1.1 z.1.2,k,.inr ⟨ob,S5 _ _ ef⟩,rfl,hk,(Q5 sq.nd hzm).symm⟩;have i1:DIs K H5 (rcD u.2) (.ref u.1):=D4 (S5 _ _ (ats2 u hu1));have i2:DIs K H5 (rcD t'.2.2.1) (.ref z.2):=D4 (ez ▸ S5 _ _ (pc2 t' ht'));refine⟨d,_,rfl,dg,rcD u.2,rcD t'.2.2.1,i1,i2,⟨_,rfl⟩,⟨_,rfl⟩,G4 _,cNx.mk (Nat.le_of_lt (Au (by rw[OR];lia))) hi hz (S35 _ _ ha) ⟨⟨_,_,rfl⟩,λ x o e=>by rw[Ai (Af e nacc)];exact S5 x o e,?_⟩⟩;rw[List.replicate_succ',List.map_append,hzs,eu,CV (K:=K) (H:=H5) _ i2];rfl
   .rintro zs σ H3 hz ha ⟨_,s3,rfl⟩;refine⟨acc,_,rfl,SqL.of ha,rfl,_,rfl,A5 (by simp) ?_⟩;have ho3:=ho2.same s3;obtain⟨C1,a1,d1,f1,t1,rfl,e1,l1⟩:=Kj ho3;refine⟨_,rfl,C1,a1,d1,f1,t1,rfl,e1,l1 _ (by decide +kernel) (by decide +kernel) (by decide +kernel) (by decide +kernel),_,t,rfl,ho3,by lia,λ v1 H4 s4 o4=>?_⟩;obtain⟨C2,a2,d2,f2,t2,rfl,e2,l2⟩:=Kj o4;refine⟨C2,a2,d2,f2,t2,rfl,e2,l2 _ (by decide +kernel) (by decide +kernel) (by decide +kernel) (by decide +kernel),_,trn t,rfl,o4,by rw[Kk];lia,λ v2 H5 s5 o5=>?_⟩;rw[JQ]at o5;refine⟨v2,t,rfl,o5,wd',by lia,λ H6 s6=>?_⟩;refine⟨rfl,_,rfl,_,lw,Ax t,rfl,rfl,s6 _ _ (s5 _ _ (s4 _ _ (s3 _ _ hlw2))),FZ wd' (by lia),rfl,?_⟩;rw[show decide (V.str (CN t)=V.str (Txt.join " " (Ax t)))=true from decide_eq_true rfl];exact q H6
  have tyI:∀(i:Int)(H':Hp),Ty H' (.int i):=λ i H'=>⟨"int",rfl⟩;have sdI:∀ww:Int,1<=ww->ww<=12->Bq (.int ww)=true:=λ ww w1 w2=>by show(decide (1<=ww)&&decide (ww<=12))=true;rw[decide_eq_true w1,decide_eq_true w2];rfl
  obtain⟨tD,hD,kD⟩:∃rd,PSs (Bv CX0 P w K mg base LP "law" (Ah Cw) f cdv A outer s H E).nox ((AB Cw).drop 14) rd/\∀(x0 x3 x4 x5:Option V)(ww hh:Int)(o:V)(t:Tr)(lw lf d:Addr)(ts:List PT)(L:List HK)(H1:Hp),Obj cW cU cL H1 t o->Wd t->t.nd<=103->Fit t ww hh->H1 lw=some (.lst ((Ax t).map V.str))->H1 lf=some (.lst (pcs ts))->H1 d=some (.dT (Co L))->SqI ts L->(L.length:Int)=ww*hh->(1<=ww/\ww<=12)->(1<=hh/\hh<=12)->PcO H1 ts->GB.Tiles ww hh (BS ts)->Due t ww hh (cons ts)->TabOk Iu FM tb H1 ->
    rd { nx:=λ_ H'=>Q .non H',rt:=Q } [x0,some (.int ww),some (.int hh),x3,x4,x5,some (.ref lw),some o,some (.ref lf),some (.ref d),none] H1:=by
   refine⟨_,(Ad (As (i:=10) S.nd rfl (Or.inr rfl) (D7 D_panel_of hr N1 (Aa (pv 7) (Aa (pv 1) (Aa (pv 2) Ab)))))
   (Ad (A6 (Ak (Mt hr) (Sk M_Panel_panes hr (pv 10)) (Cy rfl (BH (pv 8)) (λ_ _ _ _ _=>(DQ (K:=K) (n:=2) rfl (Aw (Aq (i:=0) (show List.Nodup (["_law_rectangle","_law_mark_here"]:LSz) from by decide +kernel) rfl (Or.inl rfl)) (Aw (Aq (i:=1) (show List.Nodup (["_law_rectangle","_law_mark_here"]:LSz) from by decide +kernel) rfl (Or.inl rfl)) Bf)))) (λ_ _ _ _ _=>(pv 0)) (N:=["_law_rectangle","_law_mark_here"]) (fr:=[none,none])) (Am _)) (Ag (An CS)) Ao)
   hE)),?_⟩
   rintro x0 x3 x4 x5 ww hh o t lw lf d ts L H1 ho wd' nd1 fit hlw hlf hd sq ll ⟨w1,w2⟩ ⟨h1,h2⟩ pc til du tab;have hb:=bad_none.mpr fit;have sz:=KU t;have nc:=Jn t;have dul:=du.len;rw[List.length_map]at dul;refine⟨_,rfl,_,rfl,_,rfl,o,t,_,_,rfl,tyI _ _,tyI _ _,ho,by lia,tab,(λ z=>by rw[sdI ww w1 w2]at z;cases z),(λ_ z=>by rw[sdI hh h1 h2]at z;cases z),λ ww' hh' ew eh _ _ _ _=>?_⟩;obtain rfl:=V.int.inj ew;obtain rfl:=V.int.inj eh;refine⟨λ k hk=>(by rw[hb]at hk;cases hk),λ_ big=>(by lia),λ_ few b dx ls ld us kvs H2 s2 tab2 pn pm=>?_⟩;refine⟨_,rfl,b,dx,_,rfl,pn.ob,P4,b,dx,ls,ld,ww,hh,us,kvs,rfl,pn,λ l2 nl2=>?_⟩;obtain⟨H3,e3,s3,hl2⟩:=nw (.lst (Cl us)) nl2;rw[e3];have sN3:=s2.trans s3.n;have hlf3:=sN3.lst hlf;have pc3:=pc.n sN3;refine⟨_,rfl,lf,rfl,⟨_,SqL.of hlf3⟩,λ acc hacc=>CW (K:=K) (a:=lf) (ys:=pcs ts) (λ i zs σ H'=>(∃y0 y1,σ=[y0,y1])/\Same H3 H'/\zs=Cl (rts (ts.take i))) ⟨⟨none,none,rfl⟩,Same.new hacc,rfl⟩ (λ i zs σ H' _ _ hp=>SqL.of (hp.2.1 _ _ hlf3)) ?_ ?_⟩
   .rintro i x zs σ H' hx hi hl' hacc' ⟨⟨y0,y1,rfl⟩,hs,rfl⟩;obtain⟨t',hti,rfl⟩:=Mr hx;obtain⟨p1,p2⟩:=(pc3.same hs) t' (List.mem_of_getElem? hti);refine⟨t'.1,_,rfl,SqT.of p1,rfl,_,_,rfl,_,_,rfl,rfl,_,rfl,cNx.mk (Nat.le_of_lt (Au (by rw[List.length_map];lia))) hi hl' hacc' ⟨⟨_,_,rfl⟩,λ b o e=>?_,?_⟩⟩
    .rw[Ai (Af e hacc)];exact hs b o e
    .rw[List.take_succ,hti];show Cl (rts (ts.take i))++[V.ref t'.2.1]=Cl (rts (ts.take i++[t']));rw[show rts (ts.take i++[t'])=rts (ts.take i)++[(t'.2.1,t'.2.2.1)] from List.map_append,Jg]
   .rintro zs σ H4 hl4 hacc4 ⟨_,s4,rfl⟩;rw[List.length_map,List.take_length]at hacc4;have S4:=s3.trans s4;have sN4:=sN3.trans s4.n;have pm':(rcs us).Perm (BS ts):=by rw[PV];exact pm.trans (du.1.map _).symm
    have a1:=pn.ats.same S4;have a2:At H4 (rts ts):=Ph (pc3.same s4);have srt:Srt (rcs (rts ts)):=by
     unfold Srt;rw[Rt,PV,List.map_map];exact du.2
    have eq:rcs us=rcs (rts ts):=Lb pn.til.ins w2 h2 (by rw[Rt];exact pm') pn.srt srt;refine⟨_,_,GU (SqL.of (s4 _ _ hl2)) a1,GU (SqL.of hacc4) a2,⟨_,rfl⟩,⟨_,rfl⟩,Op _,_,rfl,A5 (by rw[if_pos rfl,P6 a1 a2 eq ⟨l2,s4 _ _ hl2⟩];rfl) ?_⟩;exact kE _ _ _ _ _ _ _ ww hh o t lw d b dx ls ld ts us kvs L H4 (ho.n sN4) wd' nd1 (sN4.lst hlw) (sN4 _ _ hd (by intro z e;cases e)) sq ll ⟨w1,w2⟩ ⟨h1,h2⟩ (pc.n sN4) til (pn.same S4) pm'
  obtain⟨tC,hC,kC⟩:∃rd,PSs (Bv CX0 P w K mg base LP "law" (Ah Cw) f cdv A outer s H E).nox ((AB Cw).drop 9) rd/\∀(x0 x3 x4 x5:Option V)(ww hh:Int)(o:V)(t:Tr)(lw:Addr)(H1:Hp),Obj cW cU cL H1 t o->Wd t->t.nd<=103->t.dp<24->Fit t ww hh->H1 lw=some (.lst ((Ax t).map V.str))->(1<=ww/\ww<=12)->(1<=hh/\hh<=12)->TabOk Iu FM tb H1 ->
    rd { nx:=λ_ H'=>Q .non H',rt:=Q } [x0,some (.int ww),some (.int hh),x3,x4,x5,some (.ref lw),some o,none,none,none] H1:=by
   refine⟨_,(Ad (A6 (Ak QP (Sj M_fits hr (pv 7) (Aa (pv 1) (Aa (pv 2) Ab))) CS (Am _)) (Ag (An CS)) Ao)
   (Ad (As (i:=8) S.nd rfl (Or.inl rfl) (D7 D_pieces hr N1 (Aa (pv 7) (Aa (pv 1) (Aa (pv 2) Ab)))))
   (Ad (A6 (PW.pt (Ca (BG (BO (A3 CY rfl T.z_isinstance rfl (Aa (pv 8) (Aa (EC (v:=.ty "list") rfl T.z_list rfl rfl) Ab))))) (Cg (Ak Fy (A3 AD rfl T.z_len rfl (Aa (pv 8) Ab)) (JZ M_leaves hr (pv 7)) (Am _))))) (Ag (An CS)) Ao)
   (Ad (As (i:=9) S.nd rfl (Or.inr rfl) (A0 D__law_filled hr (Aa (pv 8) (Aa (pv 1) (Aa (pv 2) Ab)))))
   (Ad (A6 (PW.pt (Ca (Ak GG (pv 9) Bt (Am _)) (Cg (Ak Fy (A0 D__law_walked hr (Aa (pv 6) (Aa Ae (Aa (pv 8) (Aa (AF (Aa Ae (Aa Ae (Aa (pv 2) (Aa (pv 1) Ab))))) Ab))))) (A3 AD rfl T.z_len rfl (Aa (pv 6) Ab)) (Am _))))) (Ag (An CS)) Ao)
   hD))))),?_⟩
   rintro x0 x3 x4 x5 ww hh o t lw H1 ho wd' nd1 dp1 fit hlw ⟨w1,w2⟩ ⟨h1,h2⟩ tab;have hb:=bad_none.mpr fit;have sz:=KU t;have nc:=Jn t;have nd2:t.nd<=400:=by lia
   obtain⟨C1,a1,d1,f1,t1,rfl,e1,l1⟩:=Kj ho;refine⟨_,rfl,C1,a1,d1,f1,t1,rfl,e1,l1 _ (by decide +kernel) (by decide +kernel) (by decide +kernel) (by decide +kernel),_,rfl,_,rfl,_,t,ww,hh,rfl,ho,nd2,fit,λ H2 s2=>⟨true,true,rfl,rfl,_,rfl,A5 rfl ?_⟩⟩;refine⟨_,rfl,_,rfl,_,rfl,_,t,_,_,rfl,tyI _ _,tyI _ _,ho.same s2,nd2,tab.same s2,(λ z=>by rw[sdI ww w1 w2]at z;cases z),(λ_ z=>by rw[sdI hh h1 h2]at z;cases z),λ ww' hh' ew eh _ _ _ _=>?_⟩;obtain rfl:=V.int.inj ew;obtain rfl:=V.int.inj eh;refine⟨λ k hk=>(by rw[hb]at hk;cases hk),λ_ lf ts H3 s3 tab3 nl hlf pc du=>?_⟩;have sN3:=s2.n.trans s3;have dul:=du.len;rw[List.length_map]at dul;have few:ts.length<=52:=by lia
   have til:GB.Tiles ww hh (BS ts):=(Hi w1 h1 fit).perm (by rw[PV];exact du.1.map _);have ho3:=ho.n sN3;have e3:=sN3 _ _ e1 (by intro z e;cases e);refine⟨_,rfl,.ref lf,"list","list",rfl,RM hlf,.inr (.inr (.inr (.inl rfl))),_,rfl,A5 (by decide) ?_⟩;refine⟨_,rfl,lf,_,rfl,.inl (SqL.of hlf),_,rfl,C1,a1,d1,f1,t1,rfl,e3,l1 _ (by decide +kernel) (by decide +kernel) (by decide +kernel) (by decide +kernel),_,t,rfl,ho3,nd2,λ H4 s4=>⟨rfl,_,rfl,A5 (by rw[List.length_map,dul];exact Qb _) ?_⟩⟩;refine⟨_,rfl,_,rfl,_,rfl,lf,ww,hh,ts,rfl,s4 _ _ hlf,pc.same s4,til,few,⟨w1,w2⟩,⟨h1,h2⟩,λ d L H5 s5 nd hd sq cov=>?_⟩;refine⟨_,rfl,rfl,_,rfl,A5 (decide_eq_false (by intro z;cases z)) ?_⟩;refine⟨_,rfl,_,rfl,_,rfl,_,rfl,Az 4,λ k nk=>?_⟩;obtain⟨H6,e6,s6,hk⟩:=nw (.tup [.int 0,.int 0,.int hh,.int ww]) nk;rw[e6];have S6:=(s4.trans s5).trans s6;have sN6:=sN3.trans S6.n;refine⟨lw,lf,k,Ax t,0,ts,⟨0,0,hh,ww⟩,t,[],rfl,⟨sN6.lst hlw,S6 _ _ hlf,pc.same S6,hk,few,by rw[AR];exact nd1,⟨Int.le_refl 0,show(0:Int)<hh by lia,h2,Int.le_refl 0,show(0:Int)<ww by lia,w2⟩,Ro fit,wd',(List.append_nil _).symm,by rw[QH til];exact du.1⟩,dp1,λ H7 s7=>?_⟩;refine⟨_,rfl,lw,_,rfl,.inl (SqL.of (s7 _ _ (sN6.lst hlw))),rfl,_,rfl,A5 (by rw[List.length_map,AR,Nat.zero_add];exact Qb _) ?_⟩;have S7:=S6.trans s7;exact kD _ _ _ _ ww hh _ t lw lf d ts L H7 (ho3.same S7) wd' nd1 fit (s7 _ _ (sN6.lst hlw)) (S7 _ _ hlf) (s7 _ _ (s6 _ _ hd)) sq (NI w1 h1 til.ins sq cov) ⟨w1,w2⟩ ⟨h1,h2⟩ (pc.same S7) til du (tab3.same S7)
  obtain⟨tB,hB,kB⟩:∃rd,PSs (Bv CX0 P w K mg base LP "law" (Ah Cw) f cdv A outer s H E).nox ((AB Cw).drop 6) rd/\∀(x0 x4:Option V)(ww hh:Int)(tw:Bool)(v:V)(t:Tr)(H1:Hp),Told H1 t v->Wd t->t.nd<=103->t.dp<24->Fit t ww hh->(1<=ww/\ww<=12)->(1<=hh/\hh<=12)->TabOk Iu FM tb H1 ->
    rd { nx:=λ_ H'=>Q .non H',rt:=Q } [x0,some (.int ww),some (.int hh),some (.bl tw),x4,some v,none,none,none,none,none] H1:=by
   refine⟨_,(Ad (As (i:=6) S.nd rfl (Or.inl rfl) (A0 D__law_words hr (Aa (pv 5) Ab)))
   (Ad (As (i:=7) S.nd rfl (Or.inl rfl) (A0 D_read_tree hr (Aa (Cz PySem.F.plainAttrs_str PySem.F.slot_str_join PySem.F.type_str_join FY AK (Aa (pv 6) Ab)) Ab)))
   (Ad (A6 (D5 (pv 3) (λ_=>rfl)) (Ad (As (i:=7) S.nd rfl (Or.inl rfl) (A0 D__law_made hr (Aa (pv 5) (Aa CS Ab))))
   (Ag (A6 (Ak Fy (A0 D_written hr (Aa (pv 7) Ab)) (Cz PySem.F.plainAttrs_str PySem.F.slot_str_join PySem.F.type_str_join FY AK (Aa (pv 6) Ab)) (Am _)) (Ag (An CS)) Ao))) Ao)
   hC))),?_⟩
   rintro x0 x4 ww hh tw v t H1 ht wd' nd1 dp1 fit w1 h1 tab;have nd2:t.nd<=400:=by lia
   refine⟨_,rfl,v,t,rfl,ht,wd',dp1,nd2,λ lw H2 s2 hlw=>?_⟩;refine⟨rfl,_,rfl,_,lw,Ax t,rfl,rfl,hlw,FZ wd' nd2,t,rfl,wd',nd1,λ o H3 s3 o3=>?_⟩;have S3:=s2.trans s3;refine⟨_,rfl,_,rfl,?_⟩;cases tw with
   |false=>exact A5 rfl (kC _ _ _ _ ww hh o t lw H3 o3 wd' nd1 dp1 fit (s3 _ _ hlw) w1 h1 (tab.same S3))
   |true =>
    refine AT rfl ⟨_,rfl,v,t,true,rfl,ht.same S3,dp1,by lia,λ o2 H4 s4 o4=>?_⟩;refine⟨_,rfl,o2,t,rfl,o4,wd',nd2,λ H5 s5=>?_⟩;have S5:=s4.trans s5;have hlw5:=S5 _ _ (s3 _ _ hlw);refine⟨rfl,_,rfl,_,lw,Ax t,rfl,rfl,hlw5,FZ wd' nd2,rfl,_,rfl,A5 Ss ?_⟩;exact kC _ _ _ _ ww hh o2 t lw H5 (o4.same s5) wd' nd1 dp1 fit hlw5 w1 h1 (tab.same (S3.trans S5))
  refine⟨_,(Ad (As (i:=1) S.nd rfl (Or.inl rfl) (Av AQ Ae (Av AZ (A0 D__law_knead hr (Aa (A0 D__law_at hr (Aa (pv 0) (Aa Ae Ab))) (Aa Ae Ab))) Ae)))
   (Ad (As (i:=2) S.nd rfl (Or.inl rfl) (Av AQ Ae (Av AZ (A0 D__law_knead hr (Aa (A0 D__law_at hr (Aa (pv 0) (Aa Ae Ab))) (Aa Ae Ab))) Ae)))
   (Ad (As (i:=3) S.nd rfl (Or.inl rfl) (BU AO (Av AZ (A0 D__law_knead hr (Aa (A0 D__law_at hr (Aa (pv 0) (Aa Ae Ab))) (Aa Ae Ab))) Ae) Ae (Am _)))
   (Ad (As (i:=4) S.nd rfl (Or.inl rfl) (A0 D__law_more hr (Aa (pv 0) (Aa Ae (Aa (Av AZ (A0 D__law_knead hr (Aa (A0 D__law_at hr (Aa (pv 0) (Aa Ae Ab))) (Aa Ae Ab))) Ae) Ab)))))
   (Ad (As (i:=5) S.nd rfl (Or.inl rfl) (A0 D__law_drawn hr (Aa (Bk EL rfl T.z_list rfl (Aa (pv 4) Ab)) (Aa (pv 1) (Aa (pv 2) (Aa (pv 3) Ab))))))
   (Ad (A6 (Ak Fz (A3 AD rfl T.z_len rfl (Aa (A0 D__law_words hr (Aa (pv 5) Ab)) Ab)) Ae (Am _)) (Ag (As (i:=5) S.nd rfl (Or.inl rfl) (A0 D__law_drawn hr (Aa (pv 4) (Aa (pv 1) (Aa (pv 2) (Aa CS Ab))))))) Ao)
   hB)))))),?_⟩
  have bnd:∀(t:Tr)(ww hh:Int),1<=ww->ww<=12->1<=hh->hh<=12->Fit t ww hh->t.dp<24/\t.nd<=400:=λ t ww hh w1 w2 g1 g2 f=>by
   have a1:=Ht w1 g1 f;have a2:=Hr w1 g1 f;have a3:=KU t;have a5:=Jn t;have a4:=Int.mul_le_mul w2 g2 (by lia) (by lia:(0:Int)<=12);exact⟨by lia,by lia⟩
  refine⟨_,rfl,a,ns,0,rfl,hS,by decide,by decide,λ z1 H1 s1=>⟨_,2,rfl,by decide,by decide,λ r1 p1=>⟨_,_,rfl,rfl,(show(0:Int)<12 from by decide),_,_,rfl,rfl,?_⟩⟩⟩;obtain⟨w1,w2⟩:=R7 r1;refine⟨_,rfl,a,ns,0,rfl,s1.seq hS,by decide,by decide,λ z2 H2 s2=>⟨_,3,rfl,by decide,by decide,λ r2 p2=>⟨_,_,rfl,rfl,(show(0:Int)<12 from by decide),_,_,rfl,rfl,?_⟩⟩⟩;obtain⟨g1,g2⟩:=R7 r2;generalize 1+r1 % 12=ww at w1 w2 |-;generalize 1+r2 % 12=hh at g1 g2 |-;have s12:=s1.trans s2;refine⟨_,rfl,a,ns,0,rfl,s12.seq hS,by decide,by decide,λ z3 H3 s3=>⟨_,7,rfl,by decide,by decide,λ r3 p3=>⟨_,_,rfl,rfl,(show(0:Int)<8 from by decide),rfl,?_⟩⟩⟩;have s13:=s12.trans s3;refine⟨_,rfl,_,rfl,a,ns,0,rfl,s13.seq hS,by decide,by decide,λ z4 H4 s4=>⟨_,6,rfl,by decide,by decide,λ r4 p4=>⟨_,_,rfl,rfl,(show(0:Int)<51 from by decide),?_⟩⟩⟩;have s14:=s13.trans s4;have c0:=Int.emod_nonneg r4 (b:=51) (by decide);have c1:=Int.emod_lt_of_pos r4 (b:=51) (by decide);refine⟨a,ns,1,_,rfl,s14.seq hS,by decide,by decide,c0,by lia,λ l ms H5 s5 nl el ml=>?_⟩;have s15:=s14.trans s5;refine⟨_,rfl,l,_,rfl,.inl (SqL.of el),λ lc nlc=>?_⟩;obtain⟨H6,e6,s6,hlc⟩:=nw (.lst (ms.map V.int)) nlc;rw[e6];have s16:=s15.trans s6;have el6:=s6 _ _ el;have lne:l≠lc:=Af el nlc;refine⟨_,rfl,_,rfl,_,rfl,lc,ms,ww,hh,_,rfl,hlc,w1,g1,by lia,w2,g2,λ v t H7 ms' sx _ told fit dr=>?_⟩;have s17:Same H H7:=λ b o e=>sx b o (Af (s15 b o e) nlc) (s16 b o e);have el7:=sx _ _ lne el6;obtain⟨hd,hn⟩:=bnd t _ _ w1 w2 g1 g2 fit;have tab0:TabOk Iu FM tb H:=TabOk.new htb;refine⟨_,rfl,v,t,rfl,told,dr.1,hd,hn,λ lw H8 s8 hlw=>⟨lw,_,rfl,.inl (SqL.of hlw),_,_,rfl,rfl,_,rfl,BB (λ c=>?_) (λ c=>?_)⟩⟩
  .refine⟨_,rfl,_,rfl,_,rfl,l,ms,ww,hh,false,rfl,s8 _ _ el7,w1,g1,by lia,w2,g2,λ v' t' H9 ms2 sx9 _ told' fit' dr'=>?_⟩;obtain⟨hd',hn'⟩:=bnd t' _ _ w1 w2 g1 g2 fit';have s18:=s17.trans s8;have nlH:H l=none:=s14.free nl;have s19:Same H H9:=λ b o e=>sx9 b o (Af e nlH) (s18 b o e);have cs:=dr'.2 rfl;have nc:=Jn t';exact kB _ _ ww hh _ v' t' H9 told' dr'.1 (by lia) hd' fit' ⟨w1,w2⟩ ⟨g1,g2⟩ (tab0.same s19)
  .rw[List.length_map,AR]at c;have c:=of_decide_eq_false c;exact kB _ _ ww hh _ v t H8 (told.same s8) dr.1 (by lia) hd fit ⟨w1,w2⟩ ⟨g1,g2⟩ (tab0.same (s17.trans s8))
theorem Q1{H H1:Hp}{Q:VK}{x d:Addr}{o1 o2:HO}{E1:HO}(hx:H x=some E1)(hd:H d=none):(upd (upd H d o1) x o2) x=some o2/\(upd (upd H d o1) x o2) d=some o1/\∀a o,a≠x->H a=some o->(upd (upd H d o1) x o2) a=some o :=
 ⟨Ac,by rw[Ai (Ne.symm (Af hx hd)),Ac],λ a o ne e=>by rw[Ai ne,Ai (Af e hd)];exact e⟩
theorem KC:Al ["self","at"] ["self","at"] (Ah Dj):=fsc
theorem Io{f cN:Addr}{fd:FuncData}(F:Fun K "__init__" "NoCut.__init__" Dj f fd)(xc:XCls K cN)(xn:NoAttr K cN "at"):A9 P w K mg base CX0 1 f fd ["self","at"] (NW cN ["at"]):=by
 have S:=KC;refine F.ok S (λ vs H Q E h=>?_) (λ cdv A outer s H vs Q E hr h=>?_)
 .obtain⟨x,ws,rfl,hl,_⟩:=h;rw[List.length_cons,hl];rfl
 .obtain⟨x,ws,rfl,hl,hx,q⟩:=h;obtain⟨v0,rfl⟩:=ME hl;refine⟨_,(Ag (FW (pv 0) (pv 1) rfl)),?_⟩;refine⟨_,rfl,_,rfl,x,cN,rfl,xc,xn,.inl ⟨hx,λ d hd=>?_⟩⟩;obtain⟨e1,e2,e3⟩:=Q1 (H1:=H) (Q:=Q) (o1:=DK d [("at",v0)]) (o2:=DJ cN d x) hx hd;exact q d _ hd e1 e2 e3
theorem IH:Al ["self","side"] ["self","side"] (Ah CD):=fsc
theorem GO{f cN:Addr}{fd:FuncData}(F:Fun K "__init__" "NoSide.__init__" CD f fd)(xc:XCls K cN)(xn:NoAttr K cN "side"):A9 P w K mg base CX0 1 f fd ["self","side"] (NW cN ["side"]):=by
 have S:=IH;refine F.ok S (λ vs H Q E h=>?_) (λ cdv A outer s H vs Q E hr h=>?_)
 .obtain⟨x,ws,rfl,hl,_⟩:=h;rw[List.length_cons,hl];rfl
 .obtain⟨x,ws,rfl,hl,hx,q⟩:=h;obtain⟨v0,rfl⟩:=ME hl;refine⟨_,(Ag (FW (pv 0) (pv 1) rfl)),?_⟩;refine⟨_,rfl,_,rfl,x,cN,rfl,xc,xn,.inl ⟨hx,λ d hd=>?_⟩⟩;obtain⟨e1,e2,e3⟩:=Q1 (H1:=H) (Q:=Q) (o1:=DK d [("side",v0)]) (o2:=DJ cN d x) hx hd;exact q d _ hd e1 e2 e3
theorem HP:Al ["self","many"] ["self","many"] (Ah Cr):=fsc
theorem FK{f cN:Addr}{fd:FuncData}(F:Fun K "__init__" "TooMany.__init__" Cr f fd)(xc:XCls K cN)(xn:NoAttr K cN "many"):A9 P w K mg base CX0 1 f fd ["self","many"] (NW cN ["many"]):=by
 have S:=HP;refine F.ok S (λ vs H Q E h=>?_) (λ cdv A outer s H vs Q E hr h=>?_)
 .obtain⟨x,ws,rfl,hl,_⟩:=h;rw[List.length_cons,hl];rfl
 .obtain⟨x,ws,rfl,hl,hx,q⟩:=h;obtain⟨v0,rfl⟩:=ME hl;refine⟨_,(Ag (FW (pv 0) (pv 1) rfl)),?_⟩;refine⟨_,rfl,_,rfl,x,cN,rfl,xc,xn,.inl ⟨hx,λ d hd=>?_⟩⟩;obtain⟨e1,e2,e3⟩:=Q1 (H1:=H) (Q:=Q) (o1:=DK d [("many",v0)]) (o2:=DJ cN d x) hx hd;exact q d _ hd e1 e2 e3
theorem II:Al ["self","place"] ["self","place"] (Ah CF):=fsc
theorem GP{f cN:Addr}{fd:FuncData}(F:Fun K "__init__" "NoPane.__init__" CF f fd)(xc:XCls K cN)(xn:NoAttr K cN "place"):A9 P w K mg base CX0 1 f fd ["self","place"] (NW cN ["place"]):=by
 have S:=II;refine F.ok S (λ vs H Q E h=>?_) (λ cdv A outer s H vs Q E hr h=>?_)
 .obtain⟨x,ws,rfl,hl,_⟩:=h;rw[List.length_cons,hl];rfl
 .obtain⟨x,ws,rfl,hl,hx,q⟩:=h;obtain⟨v0,rfl⟩:=ME hl;refine⟨_,(Ag (FW (pv 0) (pv 1) rfl)),?_⟩;refine⟨_,rfl,_,rfl,x,cN,rfl,xc,xn,.inl ⟨hx,λ d hd=>?_⟩⟩;obtain⟨e1,e2,e3⟩:=Q1 (H1:=H) (Q:=Q) (o1:=DK d [("place",v0)]) (o2:=DJ cN d x) hx hd;exact q d _ hd e1 e2 e3
theorem Ks{Pr:Addr->Prop}(a:Pr cW)(b:Pr cU)(c:Pr cL):∀C,IsT cW cU cL C->Pr C:=by
 rintro C (rfl|rfl|rfl)
 .exact a
 .exact b
 .exact c
def icB(K:Frag)(C:Addr):Bool:=plainGet K C Str.empty&&(hasDictIn K C&&(plainOver K C&&((findIn K (.ref C) "__setattr__"==some (some (.builtin "object.__setattr__")))&&((findIn K (.ref C) "__class__"==some (some (.builtin "object.__class__"))) &&
 ((specialIn K (.builtin "object.__class__") "__get__"==some (some (.builtin "getset_descriptor.__get__")))&&((takesIn K (.builtin "object.__class__")==some true)&&((mroIn K C (.type "object")==some true)&&(makesIn K C&&keepIn K (.ref C)))))))))
theorem MJ{C:Addr}(h:icB K C=true):Nb K C/\makesIn K C=true/\keepIn K (.ref C)=true:=by
 unfold icB at h;simp only[Bool.and_eq_true,beq_iff_eq]at h;obtain⟨a,b,c,d,e,f,g,i,j,l⟩:=h;exact⟨⟨⟨a,b,c,d⟩,e,f,g,i⟩,j,l⟩
def Sz(K:Frag)(cT cW cU cL:Addr):Bool:=([(cW,"mark"),(cU,"at"),(cU,"first"),(cU,"other"),(cL,"at"),(cL,"first"),(cL,"other")]:List (Addr×Str)).all (λ p=>findIn K (.ref p.1) p.2==some none) &&
 ([(cW,cW,true),(cW,cU,false),(cW,cL,false),(cU,cW,false),(cL,cW,false),(cU,cU,true),(cU,cL,false),(cL,cU,false),(cL,cL,true),(cW,cT,true),(cU,cT,true),(cL,cT,true)]:List (Addr×Addr×Bool)).all (λ p=>kitOne K (.ref p.1) (.ref p.2.1)==some p.2.2)
theorem Tm(h:Sz K cT cW cU cL=true)(iW:Nb K cW)(iU:Nb K cU)(iL:Nb K cL)(gT:mg "Tree"=some (.ref cT))(gW:mg "Whole"=some (.ref cW))(gU:mg "Upright"=some (.ref cU))(gL:mg "Level"=some (.ref cL)):RT mg K cT cW cU cL:=by
 unfold Sz at h;rw[Bool.and_eq_true,List.all_eq_true,List.all_eq_true]at h;obtain⟨h1,h2⟩:=h;have f1:∀p∈([(cW,"mark"),(cU,"at"),(cU,"first"),(cU,"other"),(cL,"at"),(cL,"first"),(cL,"other")]:List (Addr×Str)),findIn K (.ref p.1) p.2=some none:=λ p hp=>beq_iff_eq.mp (h1 p hp);have f2:∀p∈([(cW,cW,true),(cW,cU,false),(cW,cL,false),(cU,cW,false),(cL,cW,false),(cU,cU,true),(cU,cL,false),(cL,cU,false),(cL,cL,true),(cW,cT,true),(cU,cT,true),(cL,cT,true)]:List (Addr×Addr×Bool)),kitOne K (.ref p.1) (.ref p.2.1)=some p.2.2:=λ p hp=>beq_iff_eq.mp (h2 p hp);simp only[List.forall_mem_cons,List.not_mem_nil,false_implies,implies_true,and_true]at f1 f2;obtain⟨a1,a2,a3,a4,a5,a6,a7⟩:=f1;obtain⟨k1,k2,k3,k4,k5,k6,k7,k8,k9,k10,k11,k12⟩:=f2;refine⟨gT,gW,gU,gL,iW,?_,a1,?_,?_,?_,k1,?_,?_,?_,k10,?_⟩
 .intro u;cases u;exact iL;exact iU
 .intro u;cases u;exact a5;exact a2
 .intro u;cases u;exact a6;exact a3
 .intro u;cases u;exact a7;exact a4
 .intro u;cases u;exact k3;exact k2
 .intro u;cases u;exact k5;exact k4
 .intro u v;cases u<;>cases v;exact k9;exact k8;exact k7;exact k6
 .intro u;cases u;exact k12;exact k11
end
theorem MD{α β:Type}{us:List α}{p:β}{ps:List β}(h:us.length=(p::ps).length):∃u vs,us=u::vs/\vs.length=ps.length:=by
 cases us with
 |nil=>cases h
 |cons u vs=>exact⟨u,vs,rfl,Nat.succ.inj h⟩
theorem MC{α β:Type}{us:List α}(h:us.length=([]:List β).length):us=[]:=List.length_eq_zero_iff.mp h
abbrev FB(K:Frag)(x qual:Str)(st:Stmt)(f:Addr):Prop:=∃fd,Fun K x qual st f fd
abbrev FI(K:Frag)(x:Str)(st:Stmt)(f:Addr):Prop:=nsIn K mainGlobals x=some (some (.ref f))/\FB K x x st f
abbrev MI(K:Frag)(C:Addr)(x qual:Str)(st:Stmt)(f:Addr):Prop:=findIn K (.ref C) x=some (some (.ref f))/\isFn K (.ref f)=true/\FB K x qual st f
structure HC(P:Program)(w:World)(K:Frag)(mg:MGz)(base:Heap):Prop where
 ex:∃h:Heap,K.In h/\h.Ns mainGlobals mg
abbrev BOk(x qual:Str)(st:Stmt)(ps:LSz):Prop:=∀(kV doc pm:Value)(an:Option Addr)(cdv ct:Value)(us:LWz),us.length=ps.length->bindArgs (fnOf x qual (By st) (AB st) (Ah st) .none kV doc pm an cdv ct) ⟨us,[]⟩=pure (ps.zip us)
section
variable{P:Program}{w:World}{K:Frag}{mg:MGz}{base:Heap}{x qual:Str}{st:Stmt}{f C:Addr}{n:Nat}{ps:LSz}{sp:Sp}{v:Value}
theorem HC.g(c:HC P w K mg base)(a:nsIn K mainGlobals x=some (some v)):mg x=some v:=let ⟨_,X,G⟩:=c.ex;mg_of X G a
theorem HC.d(c:HC P w K mg base)(i:FI K x st f)(ok:∀fd,Fun K x x st f fd->A9 P w K mg base CX0 n f fd ps sp)(hb:BOk x x st ps:=by intro _ _ _ _ _ _ us hl;(repeat (obtain⟨_,_,e,h⟩:=MD hl;clear hl;subst e;have hl:=h;clear h));cases MC hl;rfl):AC P w K mg base n x ps sp:=let ⟨a,_,F⟩:=i;⟨_,_,ok _ F,c.g a,F.kp,F.binds hb⟩
theorem HC.dx(c:HC P w K mg base)(i:FI K x st f)(ok:∀fd,Fun K x x st f fd->A9 P w K mg base (CX1 P w) n f fd ps sp)(hb:BOk x x st ps:=by intro _ _ _ _ _ _ us hl;(repeat (obtain⟨_,_,e,h⟩:=MD hl;clear hl;subst e;have hl:=h;clear h));cases MC hl;rfl):BR P w K mg base n x ps sp:=let ⟨a,_,F⟩:=i;⟨_,_,ok _ F,c.g a,F.kp,F.binds hb⟩
theorem HC.m(_:HC P w K mg base)(l:Cls K C)(i:MI K C x qual st f)(ok:∀fd,Fun K x qual st f fd->A9 P w K mg base CX0 n f fd ps sp)(hb:BOk x qual st ps:=by intro _ _ _ _ _ _ us hl;(repeat (obtain⟨_,_,e,h⟩:=MD hl;clear hl;subst e;have hl:=h;clear h));cases MC hl;rfl):Fw P w K mg base n C x ps sp:=let ⟨a,b,_,F⟩:=i;⟨l,_,_,⟨a,b,F.kp⟩,ok _ F,F.binds hb⟩
theorem HC.k{cn:Str}(c:HC P w K mg base)(m:makesIn K C=true)(k:keepIn K (.ref C)=true)(ac:nsIn K mainGlobals cn=some (some (.ref C)))(i:MI K C "__init__" qual st f)(ok:∀fd,Fun K "__init__" qual st f fd->A9 P w K mg base CX0 n f fd ps sp)(hb:BOk "__init__" qual st ps:=by intro _ _ _ _ _ _ us hl;(repeat (obtain⟨_,_,e,h⟩:=MD hl;clear hl;subst e;have hl:=h;clear h));cases MC hl;rfl):KF P w K mg base n cn C ps sp:=let ⟨a,b,_,F⟩:=i;⟨_,_,⟨m,a,b,k⟩,ok _ F,c.g ac,F.binds hb⟩
theorem HC.kx{cn:Str}(c:HC P w K mg base)(m:makesIn K C=true)(k:keepIn K (.ref C)=true)(ac:nsIn K mainGlobals cn=some (some (.ref C)))(i:MI K C "__init__" qual st f)(ok:∀fd,Fun K "__init__" qual st f fd->A9 P w K mg base (CX1 P w) n f fd ps sp)(hb:BOk "__init__" qual st ps:=by intro _ _ _ _ _ _ us hl;(repeat (obtain⟨_,_,e,h⟩:=MD hl;clear hl;subst e;have hl:=h;clear h));cases MC hl;rfl):Qx P w K mg base n cn C ps sp:=let ⟨a,b,_,F⟩:=i;⟨_,_,⟨m,a,b,k⟩,ok _ F,c.g ac,F.binds hb⟩
theorem HC.xm{cn:Str}{ns:LSz}(c:HC P w K mg base)(l:Gh K C=true)(e:Ch K C f=true)(k:keepIn K (.ref C)=true)(ac:nsIn K mainGlobals cn=some (some (.ref C)))(i:MI K C "__init__" qual st f)(ok:∀fd,Fun K "__init__" qual st f fd->XCls K C->A9 P w K mg base CX0 n f fd ps (NW C ns))(fw:ns.length<=1000:=by decide)(hb:BOk "__init__" qual st ps:=by intro _ _ _ _ _ _ us hl;(repeat (obtain⟨_,_,e,h⟩:=MD hl;clear hl;subst e;have hl:=h;clear h));cases MC hl;rfl):JE P w K mg base n cn C ps ns:=let ⟨a,b,_,F⟩:=i;⟨fw,_,_,⟨XCls.of l,e,k,b⟩,ok _ F (XCls.of l),c.g ac,F.binds hb⟩
end
theorem all_mk{l:OpenLaw}{w:World}{K:Frag}{h:Heap}{mg:MGz}{fa:Addr}(X:K.In h)(G:h.Ns mainGlobals mg)(hfa:mg "law"=some (.ref fa))
  {C:Addr} (aC:nsIn K mainGlobals "Panel"=some (some (.ref C)))
  (pg_C:plainGet K C Str.empty=true)
  (hd_C:hasDictIn K C=true)
  (po_C:plainOver K C=true)
  (sa_C:findIn K (.ref C) "__setattr__"=some (some (.builtin "object.__setattr__")))
  (mk_C:makesIn K C=true)
  (kc_C:keepIn K (.ref C)=true)
  (n_C_width:findIn K (.ref C) "width"=some none)
  (n_C_height:findIn K (.ref C) "height"=some none)
  (n_C_sorted_panes:findIn K (.ref C) "sorted_panes"=some none)
  (n_C_by_square:findIn K (.ref C) "by_square"=some none)
  {cT:Addr} (aT:nsIn K mainGlobals "Tree"=some (some (.ref cT)))
  {cW:Addr} (aC_cW:nsIn K mainGlobals "Whole"=some (some (.ref cW))) (ic_cW:icB K cW=true)
  {f_cW:Addr} {od_cW an_cW:Option Addr} {sl_cW:AOz} {oc_cW kV_cW dc_cW pm_cW cd_cW ct_cW:Value} {T_cW:Addr} {to_cW:Value} {td_cW:Option Addr} {ts_cW:AOz} {ti_cW:Array Value} {tn_cW:Nat} (a_cWcW:findIn K (.ref cW) "__init__"=some (some (.ref f_cW))) (i_cW:isFn K (.ref f_cW)=true) (l_cW:K.lookup f_cW=some ⟨oc_cW,od_cW,.func (fnOf "__init__" "Whole.__init__" (By Bx) (AB Bx) (Ah Bx) (.ref T_cW) kV_cW dc_cW pm_cW an_cW cd_cW ct_cW),sl_cW⟩) (cc_cW:codeIn K cd_cW "Whole.__init__"=true) (k_cW:keepIn K (.ref f_cW)=true) (lT_cW:K.lookup T_cW=some ⟨to_cW,td_cW,.seq ti_cW tn_cW,ts_cW⟩) (eT_cW:ti_cW=#[.none])
  {cU:Addr} (aC_cU:nsIn K mainGlobals "Upright"=some (some (.ref cU))) (ic_cU:icB K cU=true)
  {f_cU:Addr} (h_cUcU:MI K cU "__init__" "Upright.__init__" Cq f_cU)
  {cL:Addr} (aC_cL:nsIn K mainGlobals "Level"=some (some (.ref cL))) (ic_cL:icB K cL=true)
  {f_cL:Addr} (h_cLcL:MI K cL "__init__" "Level.__init__" Dk f_cL)
  (kit:Sz K cT cW cU cL=true)
  {cG:Addr} (aG:nsIn K mainGlobals "GlassError"=some (some (.ref cG))) (eG:excIn K cG vErr "ValueError.__new__"=true)
  {cS:Addr} (aC_cS:nsIn K mainGlobals "NoSide"=some (some (.ref cS))) (kC_cS:keepIn K (.ref cS)=true) (nC_cS:findIn K (.ref cS) "side"=some none)
  {f_cS:Addr} (h_cScS:MI K cS "__init__" "NoSide.__init__" CD f_cS)
  (ei_cS:Ch K cS f_cS=true) (xc_cS:Gh K cS=true) (xm_cS:mroIn K cS (.ref cG)=some true)
  {cM:Addr} (aC_cM:nsIn K mainGlobals "TooMany"=some (some (.ref cM))) (kC_cM:keepIn K (.ref cM)=true) (nC_cM:findIn K (.ref cM) "many"=some none)
  {f_cM:Addr} (h_cMcM:MI K cM "__init__" "TooMany.__init__" Cr f_cM)
  (ei_cM:Ch K cM f_cM=true) (xc_cM:Gh K cM=true) (xm_cM:mroIn K cM (.ref cG)=some true)
  {cP:Addr} (aC_cP:nsIn K mainGlobals "NoPane"=some (some (.ref cP))) (kC_cP:keepIn K (.ref cP)=true) (nC_cP:findIn K (.ref cP) "place"=some none)
  {f_cP:Addr} (h_cPcP:MI K cP "__init__" "NoPane.__init__" CF f_cP)
  (ei_cP:Ch K cP f_cP=true) (xc_cP:Gh K cP=true) (xm_cP:mroIn K cP (.ref cG)=some true)
  {cN:Addr} (aC_cN:nsIn K mainGlobals "NoCut"=some (some (.ref cN))) (kC_cN:keepIn K (.ref cN)=true) (nC_cN:findIn K (.ref cN) "at"=some none)
  {f_cN:Addr} (h_cNcN:MI K cN "__init__" "NoCut.__init__" Dj f_cN)
  (ei_cN:Ch K cN f_cN=true) (xc_cN:Gh K cN=true) (xm_cN:mroIn K cN (.ref cG)=some true)
  {f0:Addr} (h0:FI K "is_whole" Ef f0)
  {f1:Addr} (h1:FI K "is_side" Fc f1)
  {f2:Addr} (h2:FI K "is_rectangle" Cp f2)
  {f3:Addr} (h3:FI K "inside" Gz f3)
  {f4:Addr} (h4:FI K "squares_of" De f4)
  {f5:Addr} (h5:FI K "check_sides" C9 f5)
  {f6:Addr} (h6:FI K "check_panes" CA f6)
  {f7:Addr} (h7:FI K "panes_by_square" BE f7)
  {f8:Addr} (h8:FI K "check_covered" Cd f8)
  {f9:Addr} (h9C:MI K C "__init__" "Panel.__init__" Di f9)
  {f10:Addr} (h10C:MI K C "panes" "Panel.panes" CC f10)
  {f11:Addr} (h11C:MI K C "pane_at" "Panel.pane_at" Ce f11)
  {f12:Addr} (h12:FI K "kind_of" Fb f12)
  {f13:Addr} (h13:FI K "entry_of" Eg f13)
  {f14:Addr} (h14:FI K "entries_of" Df f14)
  {f15:Addr} (h15:FI K "cut_from" Ei f15)
  {f16:Addr} (h16:FI K "tree_from" Dy f16)
  {f17:Addr} (h17:FI K "turned_word" C6 f17)
  {f18:Addr} (h18:FI K "check_cut" BW f18)
  {f19:Addr} (h19:FI K "first_piece" C8 f19)
  {f20:Addr} (h20:FI K "other_piece" C7 f20)
  {f21:Addr} (h21:FI K "cut_out" Fd f21)
  {f22:Addr} {od22 an22:Option Addr} {sl22:AOz} {oc22 kV22 dc22 pm22 cd22 ct22:Value} (a22:nsIn K mainGlobals "pieces"=some (some (.ref f22))) (l22:K.lookup f22=some ⟨oc22,od22,.func (fnOf "pieces" "pieces" (By Br) (AB Br) (Ah Br) .none kV22 dc22 pm22 an22 cd22 ct22),sl22⟩) (cc22:codeIn K cd22 "pieces"=true) (k22:keepIn K (.ref f22)=true) {c22 tb:Addr} (ec22:cd22=.ref c22) (hC22:K1 K c22 tb=true)
  {f23:Addr} (h23:FI K "panel_of" Ee f23)
  {f24:Addr} (h24cW:MI K cW "turned" "Tree.turned" B3 f24)
  (h24cU:MI K cU "turned" "Tree.turned" B3 f24)
  (h24cL:MI K cL "turned" "Tree.turned" B3 f24)
  {f25:Addr} (h25cW:MI K cW "leaves" "Tree.leaves" B4 f25)
  (h25cU:MI K cU "leaves" "Tree.leaves" B4 f25)
  (h25cL:MI K cL "leaves" "Tree.leaves" B4 f25)
  {f26:Addr} (h26cW:MI K cW "fits" "Tree.fits" BY f26)
  (h26cU:MI K cU "fits" "Tree.fits" BY f26)
  (h26cL:MI K cL "fits" "Tree.fits" BY f26)
  {f27:Addr} (h27:FI K "word_of" Fa f27)
  {f28:Addr} (h28:FI K "written" EZ f28)
  {f29:Addr} (h29:FI K "number_in" D0 f29)
  {f30:Addr} (h30:FI K "entry_in" Eh f30)
  {f31:Addr} (h31:FI K "entries_in" Dg f31)
  {f32:Addr} (h32:FI K "read_tree" Dz f32)
  {f33:Addr} (h33:FI K "_law_at" Fe f33)
  {f34:Addr} (h34:FI K "_law_more" D2 f34)
  {f35:Addr} (h35:FI K "_law_knead" BF f35)
  {f36:Addr} (h36:FI K "_law_mark" D3 f36)
  {f37:Addr} (h37:FI K "_law_drawn" AA f37)
  {f38:Addr} (h38:FI K "_law_made" BX f38)
  {f39:Addr} (h39:FI K "_law_words" Dh f39)
  {f40:Addr} (h40:FI K "_law_filled" CB f40)
  {f41:Addr} (h41:FI K "_law_side" D1 f41)
  {f42:Addr} (h42:FI K "_law_walked" B0 f42)
  {f43:Addr} (h43:FI K "law" Cw f43)
  {bm:Addr} {bsl:AOz} (abm:nsIn K mainGlobals "__builtins__"=some (some (.ref bm))) (lbm:K.lookup bm=some ⟨.type "module",some builtinsNs,.plain,bsl⟩) (nbm1:bm≠builtinsNs) (nbm2:bm≠mainGlobals)
  (z0:nsIn K mainGlobals "isinstance"=some none)
  (z1:nsIn K mainGlobals "int"=some none)
  (z2:nsIn K mainGlobals "bool"=some none)
  (z3:nsIn K mainGlobals "tuple"=some none)
  (z4:nsIn K mainGlobals "list"=some none)
  (z5:nsIn K mainGlobals "len"=some none)
  (z6:nsIn K mainGlobals "enumerate"=some none)
  (z7:nsIn K mainGlobals "range"=some none)
  (z8:nsIn K mainGlobals "sorted"=some none)
  (z9:nsIn K mainGlobals "reversed"=some none)
  (z10:nsIn K mainGlobals "all"=some none)
  (z11:nsIn K mainGlobals "str"=some none)
  (z12:nsIn K mainGlobals "abs"=some none)
  {tk0:Tok} (g0:nsIn K mainGlobals "WHOLE"=some (some (.str "whole" tk0)))
  {tk1:Tok} (g1:nsIn K mainGlobals "UPRIGHT"=some (some (.str "upright" tk1)))
  {tk2:Tok} (g2:nsIn K mainGlobals "LEVEL"=some (some (.str "level" tk2)))
  {tk3:Tok} (g3:nsIn K mainGlobals "LONGEST_SIDE"=some (some (.int 12 tk3)))
  {tk4:Tok} (g4:nsIn K mainGlobals "MOST_PANES"=some (some (.int 52 tk4)))
  {tk5:Tok} (g5:nsIn K mainGlobals "FIGURES"=some (some (.str "0123456789" tk5)))
  {tk6:Tok} (g6:nsIn K mainGlobals "MARK_FIGURES"=some (some (.int 3 tk6)))
  {tk7:Tok} (g7:nsIn K mainGlobals "MOST_WORDS"=some (some (.int 103 tk7)))
  : ∃fd:FuncData,(∀(s:Shared)(v:Value),BindsTo s fd ⟨[v],[]⟩ [("_law_script",v)])/\∀base:Heap,K.In base->base.Ns mainGlobals mg->A9 l.prog w K mg base CX0 29 fa fd ["_law_script"] (sp_law tb K):=by
 have e:=hfa.symm.trans (mg_of X G h43.1);cases e;have T:Txt mg (tk0,tk1,tk2,tk3,tk4,tk5,tk6,tk7):=⟨mg_none_of X G z0,mg_none_of X G z1,mg_none_of X G z2,mg_none_of X G z3,mg_none_of X G z4,mg_none_of X G z5,mg_none_of X G z6,mg_none_of X G z7,mg_none_of X G z8,mg_none_of X G z9,mg_none_of X G z10,mg_none_of X G z11,mg_none_of X G z12,mg_of X G g0,mg_of X G g1,mg_of X G g2,mg_of X G g3,mg_of X G g4,mg_of X G g5,mg_of X G g6,mg_of X G g7⟩;have PC:Qt K C:=⟨⟨pg_C,hd_C,po_C,sa_C⟩,n_C_width,n_C_height,n_C_sorted_panes,n_C_by_square⟩;obtain⟨I_cW,mk_cW,kc_cW⟩:=MJ ic_cW;obtain⟨I_cU,mk_cU,kc_cU⟩:=MJ ic_cU;obtain⟨I_cL,mk_cL,kc_cL⟩:=MJ ic_cL;have R0:RT mg K cT cW cU cL:=Tm kit I_cW I_cU I_cL (mg_of X G aT) (mg_of X G aC_cW) (mg_of X G aC_cU) (mg_of X G aC_cL);have hB0:ST K mg:=⟨bm,bsl,mg_of X G abm,nbm1,nbm2,lbm⟩;have RN0:RN mg K cN:=⟨mg_of X G aC_cN,_,ei_cN⟩;have F_cW:FunD K "__init__" "Whole.__init__" Bx f_cW _:=⟨⟨_,_,_,_,_,_,_,_,_,_,_,tn_cW,rfl,l_cW,cc_cW,lT_cW,by rw[eT_cW]⟩,k_cW⟩;have b_cW:=F_cW.binds (ps:=["self","mark"]) (ds:=[]) λ_ _ _ _ _ _ _ us hl=>by obtain⟨u0,u1,rfl⟩:=Sw ((List.append_nil us) ▸ hl);exact⟨_,rfl,rfl⟩
 have F22:=Ri (st:=Br) l22 cc22 k22 ec22;have b22:=F22.fn.binds (ps:=["tree","width","height"]) λ_ _ _ _ _ _ us hl=>by (repeat (obtain⟨_,_,e,h⟩:=MD hl;clear hl;subst e;have hl:=h;clear h));cases MC hl;rfl
 obtain⟨ha43,fd,F43⟩:=h43;obtain⟨oc,od,kV,doc,pm,an,cdv,ct,osl,rfl,lk,hcd⟩:=id F43.ex;refine⟨fnOf "law" "law" (By Cw) (AB Cw) (Ah Cw) .none kV doc pm an cdv ct,λ s v=>.of_eq rfl,λ base _ _=>?_⟩;have c:HC l.prog w K mg base:=⟨h,X,G⟩;have K_Whole:KF l.prog w K mg base 1 "Whole" cW ["self","mark"] (Nl cW):=⟨_,_,⟨mk_cW,a_cWcW,i_cW,kc_cW⟩,Il F_cW R0,mg_of X G aC_cW,b_cW⟩;have K_Upright:=c.k mk_cU kc_cU aC_cU h_cUcU λ_ F=>FJ F R0;have K_Level:=c.k mk_cL kc_cL aC_cL h_cLcL λ_ F=>Ip F R0;have X_NoSide:=c.xm xc_cS ei_cS kC_cS aC_cS h_cScS λ_ F x=>GO F x nC_cS;have X_TooMany:=c.xm xc_cM ei_cM kC_cM aC_cM h_cMcM λ_ F x=>FK F x nC_cM;have X_NoPane:=c.xm xc_cP ei_cP kC_cP aC_cP h_cPcP λ_ F x=>GP F x nC_cP;have X_NoCut:=c.xm xc_cN ei_cN kC_cN aC_cN h_cNcN λ_ F x=>Io F x nC_cN;have D_is_whole:=c.d h0 λ_ F=>Lo F T;have D_is_side:=c.d h1 λ_ F=>Mz F T D_is_whole;have D_is_rectangle:=c.d h2 λ_ F=>FH F T D_is_whole;have D_inside:=c.d h3 λ_ F=>Oi F;have D_squares_of:=c.d h4 λ_ F=>Ig F T;have D_check_sides:=c.dx h5 λ_ F=>GL F X_NoSide D_is_side;have D_check_panes:=c.dx h6 λ_ F=>GM F T X_TooMany X_NoPane D_is_rectangle D_inside;have D_panes_by_square:=c.d h7 λ_ F=>Eo F T D_squares_of;have D_check_covered:=c.d h8 λ_ F=>Fk F D_squares_of;have K_Panel:=c.kx mk_C kc_C aC h9C λ_ F=>Im F T PC D_check_sides D_check_panes D_panes_by_square D_check_covered;have M_Panel_panes:=c.m ⟨pg_C,hd_C,po_C,sa_C⟩ h10C λ_ F=>GN F T PC;have M_Panel_pane_at:=c.m ⟨pg_C,hd_C,po_C,sa_C⟩ h11C λ_ F=>Fl F PC;have D_kind_of:=c.d (sp:=EY cW cU cL) h12 λ_ F=>Mx F T R0;have D_entry_of:=c.d (sp:=Gx cW cU cL) h13 λ_ F=>Lp F T R0 D_kind_of;have D_entries_of:=c.d (sp:=BN cW cU cL) h14 λ_ F=>Ij F T R0 D_entry_of;have D_cut_from:=c.d (sp:=Ed cW cU cL) h15 λ_ F=>Lr F T K_Upright K_Level;have D_tree_from:=c.d (sp:=FU K cW cU cL) h16 λ_ F=>Kc F T R0 K_Whole D_cut_from;have D_turned_word:=c.d h17 λ_ F=>GI F T;have D_check_cut:=c.dx h18 λ_ F=>Ki F T X_NoCut D_is_whole;have D_first_piece:=c.d h19 λ_ F=>GK F T;have D_other_piece:=c.d h20 λ_ F=>GJ F T;have D_cut_out:=c.dx (sp:=JU cW cU cL cN) h21 λ_ F=>M0 F T D_entries_of D_check_cut D_first_piece D_other_piece;have D_pieces:BR l.prog w K mg base 5 "pieces" ["tree","width","height"] (DM tb cW cU cL cN cS):=⟨_,_,Og F22 T hC22 hB0 D_check_sides D_cut_out,mg_of X G a22,k22,b22⟩;have D_panel_of:=c.dx (sp:=Eb tb cW cU cL cN cS cM C) h23 λ_ F=>Lj F K_Panel D_pieces;have M_turned:∀C,IsT cW cU cL C->Fw l.prog w K mg base 5 C "turned" ["self"] (Ec cW cU cL):=Ks (c.m I_cW.cl h24cW λ_ F=>Ct F T D_entries_of D_turned_word D_tree_from) (c.m I_cU.cl h24cU λ_ F=>Ct F T D_entries_of D_turned_word D_tree_from) (c.m I_cL.cl h24cL λ_ F=>Ct F T D_entries_of D_turned_word D_tree_from);have M_leaves:∀C,IsT cW cU cL C->Fw l.prog w K mg base 4 C "leaves" ["self"] (EX cW cU cL):=Ks (c.m I_cW.cl h25cW λ_ F=>Cu F T D_entries_of) (c.m I_cU.cl h25cU λ_ F=>Cu F T D_entries_of) (c.m I_cL.cl h25cL λ_ F=>Cu F T D_entries_of);have M_fits:∀C,IsT cW cU cL C->Fw l.prog w K mg base 5 C "fits" ["self","width","height"] (Gv cW cU cL):=Ks (c.m I_cW.cl h26cW λ_ F=>Dl F RN0 D_cut_out) (c.m I_cU.cl h26cU λ_ F=>Dl F RN0 D_cut_out) (c.m I_cL.cl h26cL λ_ F=>Dl F RN0 D_cut_out);have D_word_of:=c.d h27 λ_ F=>Mw F T;have D_written:=c.d (sp:=DZ cW cU cL) h28 λ_ F=>Mv F T D_entries_of D_word_of;have D_number_in:=c.d h29 λ_ F=>Ke F T;have D_entry_in:=c.d h30 λ_ F=>Lq F T D_number_in;have D_entries_in:=c.d h31 λ_ F=>Ik F T D_entry_in;have D_read_tree:=c.d (sp:=JT cW cU cL) h32 λ_ F=>Kd F T D_entries_in D_tree_from;have D__law_at:=c.d h33 λ_ F=>Oh F T;have D__law_more:=c.d h34 λ_ F=>Ll F T D__law_at;have D__law_knead:=c.d h35 λ_ F=>Kg F T;have D__law_mark:=c.d h36 λ_ F=>Lm F;have A__law_drawn:∀n:Nat,AC l.prog w K mg base (n+3) "_law_drawn" ["_law_cells","_law_width","_law_height","_law_twin"] (CP n):=λ n=>by
  induction n with
  |zero=>exact c.d h37 λ_ F=>Gc F F6 λ_ _ _ _=>SL
  |succ n ih=>exact c.d h37 λ_ F=>Kh F T D__law_knead D__law_mark ih
 have D__law_drawn:=A__law_drawn 25;have A__law_made:∀n:Nat,AC l.prog w K mg base (n+3) "_law_made" ["_law_told","_law_twin"] (DN cW cU cL n):=λ n=>by
  induction n with
  |zero=>exact c.d h38 λ_ F=>Gc F HL λ_ _ _ _=>Tx
  |succ n ih=>exact c.d h38 λ_ F=>Ln F K_Whole K_Upright K_Level ih
 have D__law_made:=A__law_made 24;have A__law_words:∀n:Nat,AC l.prog w K mg base (n+3) "_law_words" ["_law_told"] (Dx n):=λ n=>by
  induction n with
  |zero=>exact c.d h39 λ_ F=>Gc F F5 λ_ _ _ _=>RK
  |succ n ih=>exact c.d h39 λ_ F=>Kf F T ih
 have D__law_words:=A__law_words 24;have D__law_filled:=c.d h40 λ_ F=>Ii F T;have D__law_side:=c.d h41 λ_ F=>Lk F;have A__law_walked:∀n:Nat,AC l.prog w K mg base (n+3) "_law_walked" ["_law_words_here","_law_at_here","_law_found","_law_piece"] (CO n):=λ n=>by
  induction n with
  |zero=>exact c.d h42 λ_ F=>Gc F EO λ_ _ _ _=>Q3
  |succ n ih=>exact c.d h42 λ_ F=>Ih F T D__law_side ih
 have D__law_walked:=A__law_walked 24;exact So F43 T D__law_at D__law_more D__law_knead D__law_drawn D__law_made D__law_words D__law_filled D__law_walked D_written D_read_tree D_pieces D_panel_of PC M_Panel_panes M_Panel_pane_at M_turned M_leaves M_fits
theorem walk(tb:Addr){l:OpenLaw}{q:Program}{loose:LSz}{XP:(MGz)->Heap->Prop}{YP:World->Heap->Prop}{d:DefRec}{K:Params->Frag}{Ts:List Addr}(hm_tb:tb∈Ts)(hn:l.most=some 63)(hdf:d.params.defaults=[])
  (hY:∀(w:World)(h:Heap),YP w h->(K w.params).In h) (hT:∀(w:World)(h:Heap),YP w h->∀T∈Ts,h.get? T=some (tabObj #[])/\(K w.params).lookup T=none/\∃c,CodeHd h c T)
  (F:∀(w:World)(mg:MGz)(fa:Addr)(h:Heap),(K w.params).In h->h.Ns mainGlobals mg->mg d.name=some (.ref fa) ->
   ∃fd:FuncData,(∀(s:Shared)(u:Value),BindsTo s fd ⟨[u],[]⟩ [("_law_script",u)])/\∀base:Heap,(K w.params).In base->base.Ns mainGlobals mg->A9 l.prog w (K w.params) mg base CX0 29 fa fd ["_law_script"] (sp_law tb (K w.params))) :
  WalkO q loose XP YP l.row.toRowW d [] (λ f vs=>PySem.call f vs) :=
 L2.walk_ofT (n:=63) (k:=29) (x:="_law_script") (CX:=λ_=>CX0) (sp:=λ w=>sp_law tb (K w.params)) hn (by decide) hdf ⟨rfl,by decide,by decide⟩ hY hT F (λ_ _ a ns hl hO hS=>⟨a,ns,rfl,hS,hl,hO.2 tb hm_tb,λ_=>rfl⟩) λ_ _ _ _ _ z=>z
end K15
open PySem PySem.W PyProof.Rows
set_option maxRecDepth 100000 in
set_option maxHeartbeats 0 in
theorem PySem.Challenge.cw_glazebench_k15_whole_cut_and_told_holds : PySem.Challenge.rw_glazebench_k15_whole_cut_and_told.Holds := by
 refine KH.prep fun said => ?_
 have fx : ∀ s, KH.Xp PySem.Challenge.pw_glazebench_k15_whole_cut_and_told s = true → XL (KH.qv PySem.Challenge.pw_glazebench_k15_whole_cut_and_told) [] (s.heap.nsMap mainGlobals) s.heap := fun s e => xl_of s (Bool.and_eq_true_iff.mp e).1
 have fr : ∀ s, KH.Xp PySem.Challenge.pw_glazebench_k15_whole_cut_and_told s = true → RecFacts (RowW.records (OpenRow.toRowW PySem.Challenge.rw_glazebench_k15_whole_cut_and_told.row)) s.heap := fun s e => recFacts_of (Bool.and_eq_true_iff.mp e).2
 refine holds_open (XP := XL (KH.qv PySem.Challenge.pw_glazebench_k15_whole_cut_and_told) []) KH.left (L2.hookT (kHook KH.KK KH.kas KH.kas_is) KH.Ts).of (L2.hookT (kHook KH.KK KH.kas KH.kas_is) KH.Ts).keeps fx XL.keeps (by rfl) (by rfl) (by rfl) fr (by rfl) said (by decide +kernel) ?hb ?hw ?hc
 case hb => exact ⟨rfl,rfl, rfl,rfl, rfl, by decide +kernel⟩
 case hw => w_witness2
 case hc =>
  k_fill
  refine K15.walk (l := PySem.Challenge.rw_glazebench_k15_whole_cut_and_told) (Ts := KH.Ts) 441 (by simp [KH.Ts]) rfl rfl (fun w h Y => PySem.W.kIn_of Y.1) ?HT ?F
  case HT =>
   intro w h Y T hT
   refine ⟨Y.2 T hT, ?_⟩
   have hT : T ∈ [441] := hT
   simp only [List.mem_cons, List.not_mem_nil, or_false] at hT
   subst hT
   ·exact ⟨by kernel_rfl, 445, L2.codeTB_of (c := 445) (T := 441) (by kernel_rfl) h (PySem.W.kIn_of Y.1)⟩
  case F =>
   intro w mg fa h KX G hmg
   refine' K15.all_mk (tb := 441) KX G hmg ?my_aC ?my_pg_C ?my_hd_C ?my_po_C ?my_sa_C ?my_mk_C ?my_kc_C ?my_n_C_width ?my_n_C_height ?my_n_C_sorted_panes ?my_n_C_by_square ?my_aT ?my_aC_cW ?my_ic_cW ?my_a_cWcW ?my_i_cW ?my_l_cW ?my_cc_cW ?my_k_cW ?my_lT_cW ?my_eT_cW ?my_aC_cU ?my_ic_cU ?my_h_cUcU ?my_aC_cL ?my_ic_cL ?my_h_cLcL ?my_kit ?my_aG ?my_eG ?my_aC_cS ?my_kC_cS ?my_nC_cS ?my_h_cScS ?my_ei_cS ?my_xc_cS ?my_xm_cS ?my_aC_cM ?my_kC_cM ?my_nC_cM ?my_h_cMcM ?my_ei_cM ?my_xc_cM ?my_xm_cM ?my_aC_cP ?my_kC_cP ?my_nC_cP ?my_h_cPcP ?my_ei_cP ?my_xc_cP ?my_xm_cP ?my_aC_cN ?my_kC_cN ?my_nC_cN ?my_h_cNcN ?my_ei_cN ?my_xc_cN ?my_xm_cN ?my_h0 ?my_h1 ?my_h2 ?my_h3 ?my_h4 ?my_h5 ?my_h6 ?my_h7 ?my_h8 ?my_h9C ?my_h10C ?my_h11C ?my_h12 ?my_h13 ?my_h14 ?my_h15 ?my_h16 ?my_h17 ?my_h18 ?my_h19 ?my_h20 ?my_h21 ?my_a22 ?my_l22 ?my_cc22 ?my_k22 ?my_ec22 ?my_hC22 ?my_h23 ?my_h24cW ?my_h24cU ?my_h24cL ?my_h25cW ?my_h25cU ?my_h25cL ?my_h26cW ?my_h26cU ?my_h26cL ?my_h27 ?my_h28 ?my_h29 ?my_h30 ?my_h31 ?my_h32 ?my_h33 ?my_h34 ?my_h35 ?my_h36 ?my_h37 ?my_h38 ?my_h39 ?my_h40 ?my_h41 ?my_h42 ?my_h43 ?my_abm ?my_lbm ?my_nbm1 ?my_nbm2 ?my_z0 ?my_z1 ?my_z2 ?my_z3 ?my_z4 ?my_z5 ?my_z6 ?my_z7 ?my_z8 ?my_z9 ?my_z10 ?my_z11 ?my_z12 ?my_g0 ?my_g1 ?my_g2 ?my_g3 ?my_g4 ?my_g5 ?my_g6 ?my_g7
   (case my_aC => k_is); (case my_pg_C => k_is); (case my_hd_C => k_is); (case my_po_C => k_is); (case my_sa_C => k_is); (case my_mk_C => k_is); (case my_kc_C => k_is); (case my_n_C_width => k_is)
   (case my_n_C_height => k_is); (case my_n_C_sorted_panes => k_is); (case my_n_C_by_square => k_is); (case my_aT => k_is); (case my_aC_cW => k_is); (case my_a_cWcW => k_is); (case my_i_cW => k_is); (case my_l_cW => k_is)
   (case my_cc_cW => k_is); (case my_k_cW => k_is); (case my_lT_cW => k_is); (case my_aC_cU => k_is); (case my_aC_cL => k_is); (case my_aG => k_is); (case my_aC_cS => k_is); (case my_kC_cS => k_is)
   (case my_nC_cS => k_is); (case my_xm_cS => k_is); (case my_aC_cM => k_is); (case my_kC_cM => k_is); (case my_nC_cM => k_is); (case my_xm_cM => k_is); (case my_aC_cP => k_is); (case my_kC_cP => k_is)
   (case my_nC_cP => k_is); (case my_xm_cP => k_is); (case my_aC_cN => k_is); (case my_kC_cN => k_is); (case my_nC_cN => k_is); (case my_xm_cN => k_is); (case my_a22 => k_is); (case my_l22 => k_is)
   (case my_cc22 => k_is); (case my_k22 => k_is); (case my_abm => k_is); (case my_lbm => k_is); (case my_z0 => k_is); (case my_z1 => k_is); (case my_z2 => k_is); (case my_z3 => k_is)
   (case my_z4 => k_is); (case my_z5 => k_is); (case my_z6 => k_is); (case my_z7 => k_is); (case my_z8 => k_is); (case my_z9 => k_is); (case my_z10 => k_is); (case my_z11 => k_is)
   (case my_z12 => k_is); (case my_g0 => k_is); (case my_g1 => k_is); (case my_g2 => k_is); (case my_g3 => k_is); (case my_g4 => k_is); (case my_g5 => k_is); (case my_g6 => k_is)
   (case my_g7 => k_is); (case my_eT_cW => rfl); (case my_ec22 => rfl); (case my_ic_cW => kernel_rfl); (case my_ic_cU => kernel_rfl); (case my_ic_cL => kernel_rfl); (case my_kit => kernel_rfl); (case my_eG => kernel_rfl)
   (case my_ei_cS => kernel_rfl); (case my_xc_cS => kernel_rfl); (case my_ei_cM => kernel_rfl); (case my_xc_cM => kernel_rfl); (case my_ei_cP => kernel_rfl); (case my_xc_cP => kernel_rfl); (case my_ei_cN => kernel_rfl); (case my_xc_cN => kernel_rfl)
   (case my_hC22 => kernel_rfl); (case my_nbm1 => decide); (case my_nbm2 => decide)
   case my_h_cUcU | my_h_cLcL | my_h_cScS | my_h_cMcM | my_h_cPcP | my_h_cNcN | my_h9C | my_h10C | my_h11C | my_h24cW | my_h24cU | my_h24cL | my_h25cW | my_h25cU | my_h25cL | my_h26cW | my_h26cU | my_h26cL => exact ⟨by k_is, by k_is, _, ⟨⟨_,_,_,_,_,_,_,_,_,rfl, by k_is, by k_is⟩, by k_is⟩⟩
   case my_h0 | my_h1 | my_h2 | my_h3 | my_h4 | my_h5 | my_h6 | my_h7 | my_h8 | my_h12 | my_h13 | my_h14 | my_h15 | my_h16 | my_h17 | my_h18 | my_h19 | my_h20 | my_h21 | my_h23 | my_h27 | my_h28 | my_h29 | my_h30 | my_h31 | my_h32 | my_h33 | my_h34 | my_h35 | my_h36 | my_h37 | my_h38 | my_h39 | my_h40 | my_h41 | my_h42 | my_h43 => exact ⟨by k_is, _, ⟨⟨_,_,_,_,_,_,_,_,_,rfl, by k_is, by k_is⟩, by k_is⟩⟩
