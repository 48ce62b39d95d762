import PyProof.Rows.All
import Wide.All
import OpenK.AllK
import Wide.FinOn
import Lean
import PyProof.EqAt
import PyProof.EqKinds
import PyProof.TupleCall
import PyProof.Rows.SortRuns
import PyProof.NeKinds
import PyProof.ExcAttrAll.ValueError
import PyProof.StationsW
import PyProof.PassesOwn
import PyProof.RulesAs
import PyProof.NsDelKeeps
import PyProof.CompMap
import PyProof.DictItems
import KE.KPairComp
import KE.KMinKey
import KE.KDictList
import KE.KDictOf
import KE.KEqDict
import PyProof.DictIter
import PyProof.DictWalks
import PyProof.Rows.DictUnroll
import KE.KRevIter
import KE.KLam
import KE.KSortKey
import KE.KSortTup
import PyProof.Rows.StrJoin2
import PyProof.Rows.StrNews
import PyProof.StrLawsTight
import PyProof.StrWalks
import PyProof.StrBlockH
import KE.KIntText
import KE.LcSums
import KE.KNest
import PyProof.ZipIter
import KE.KItemsList
import PySem.Challenge.RW_glazebench_k73_bench_refused
set_option Elab.async false
set_option linter.all false
set_option maxRecDepth 100000
open List renaming mem_singleton→aa,length_map→ae,getElem?_eq_getElem→ag,map_append→ah,mem_of_getElem?→ai,length_append→ak,size_toArray→am,getElem?_eq_some_iff→av,mem_append→aw,mem_map→ay,mem_append_right→az,mem_cons→aA,length_cons→aD,getElem?_map→aE,append_nil→aI,append_assoc→aK,map_cons→aL,length_singleton→aM,mem_cons_of_mem→aO,mem_cons_self→aR,cons_append→aX,map_map→aY,lookup_cons→bc,not_mem_nil→bd,filter_cons→be,filterMap_append→bg,getElem?_append_right→bj,nodup_cons→bx,eraseIdx_eq_take_drop_succ→bC,take_length→bE,length_take→bF,mem_append_left→bG,getElem_map→bI,zip_cons_cons→bJ,getD_eq_getElem?_getD→bK,perm_append_comm→bM,length_nil→bO,sum_cons→bR,take_succ→bU,nil_append→bX,mem_iff_getElem?→bY,length_drop→b8,all_eq_true→b9,mem_or_eq_of_mem_set→ce,replicate_succ→cg,any_cons→cj,find?_cons→cq,mem_filterMap→cw,filter_append→cx,getElem?_set_self→cA,perm_middle→cI,getElem?_set_ne→cJ,sum_append→cN,mem_filter→cO,toList_toArray→cQ,map_congr_left→cR,perm_append_comm_assoc→cY,contains_cons→c5,pairwise_iff_getElem→c7,getElem?_append_left→c8,findIdx?_eq_none_iff→c9,drop_eq_getElem_cons→db,nodup_append→dc,flatten_cons→de,map_nil→dm,length_set→dw,set_append_right→dB,getElem?_eq_none→dC,map_eq_cons_iff→dF,filterMap_cons→dH,map_singleton→dJ,findIdx?_eq_some_iff_getElem→dL,getElem_mem→dQ,ext_getElem→dR,of_mem_zip→dU,forIn_cons→dW,nodup_nil→d0,mem_range→ef,length_filterMap_le→eJ,all_cons→eK,length_eraseIdx_le→eL,length_eq_zero_iff→eM,map_set→eN,take_append_drop→eR,mem_of_mem_take→eW,dropLast_concat→eX
open PySem.Heap renaming get?_push_of_some→af,lt_size→aB,get?_push_size→aH,get?_update_other→aV,get?_update_self→bD,size_push→b7,get?_update_ne→cV,get?_push_ne→df,size_update→dS,get?_none_of_le→eY
open Nat renaming le_refl→aj,ne_of_lt→aJ,lt_of_lt_of_le→aQ,le_trans→aS,zero_le→aZ,le_of_lt→ba,lt_or_ge→bh,le_succ→bH,lt_of_le_of_lt→bL,lt_irrefl→bS,sub_self→bV,lt_succ_of_lt→bZ,le_of_eq→cb,le_antisymm→cu,lt_succ_self→dk,ne_of_gt→dq,not_lt_zero→dz,min_self→eQ
open Bool renaming false_ne_true→au,and_eq_true→aP,false_eq_true→aU,and_false→cC,and_eq_true_iff→cK,eq_iff_iff→cP,not_eq_true'→dh,and_true→dI,or_true→dM,or_eq_true→dX
open Or renaming inl→aF,inr→eV
open Option renaming map_eq_some_iff→aN,bind_eq_some_iff→cm,bind_some→di
open List.Perm renaming append_right→aW,append_left→bp,cons_inv→cf,swap→cr
open Int renaming le_refl→bb,emod_lt_of_pos→bN,emod_nonneg→bP,toNat_natCast→bQ,toNat_of_nonneg→ci,zero_add→cH,sub_zero→cZ,le_antisymm→dD,le_trans→dO,add_zero→eS
open Array renaming getElem?_eq_some_iff→bi,length_toList→bT,getD_eq_getD_getElem?→cX,getElem?_toList→eO,toList_append→eZ
open PySem.F renaming slot_dict_itemiterator_next→bq,plainAttrs_list→br,plain_min_loop→bu,type_list_pop→cy,slot_list_pop→cz,entry_min_loop→dj,args_dict_itemiterator_next_1→dy,entry_dict_itemiterator_next→dE,slot_dict_items_iter→dN,attrBase_ValueError→dP,slot_dict_items→dY,args_tuple_lt_2→dZ,entry_tuple_lt→eg,slot_tuple_lt→eh
open Prod renaming ext→bW,mk→dG,fst→eU
open PySem.Value renaming notImplemented→eP
abbrev VPz:=PySem.Value→PySem.Shared→Prop
abbrev PNz:=List (PySem.Addr × PySem.Obj)
abbrev MGz:=PySem.Str→Option PySem.Value
abbrev AOz:=Array (Option PySem.Value)
abbrev LSz:=List PySem.Str
abbrev LWz:=List PySem.Value
namespace L2
open PySem.W
open PySem PySem.Spec PyProof.Rows
abbrev Key:=Sum Int Str
def Ig:Key->Value->Bool
 |.inl k,v=>Value.isInt k v
 |.inr x,v=>Value.isStrOf x v
def TQ(w:World):Key->Int
 |.inl k=>hashInt k
 |.inr x=>hashStr w x
theorem AR:∀{k:Key}{v:Value},Ig k v=true->(∃i t,k=Sum.inl i/\v=Value.int i t)\/(∃x t,k=Sum.inr x/\v=Value.str x t)
 |.inl i,v,h=>by
  obtain⟨t,e⟩:=Value.isInt_shape (k:=i) (v:=v) h;exact .inl ⟨i,t,rfl,e⟩
 |.inr x,v,h=>by
  obtain⟨t,e⟩:=Value.isStrOf_shape (x:=x) (v:=v) h;exact .inr ⟨x,t,rfl,e⟩
theorem NH(i:Int)(t:Tok):Ig (.inl i) (.int i t)=true:=by simp[Ig,Value.isInt]
theorem NG(x:Str)(t:Tok):Ig (.inr x) (.str x t)=true:=by simp[Ig,Value.isStrOf]
theorem RI(a b:Int):decide ((Sum.inl a:Key)=Sum.inl b)=(a==b):=by
 by_cases e:a=b
 .subst e;simp
 .have h:¬(Sum.inl a:Key)=Sum.inl b:=λ q=>e (Sum.inl.inj q);rw[decide_eq_false h];exact(beq_eq_false_iff_ne.mpr e).symm
theorem RE(a b:Str):decide ((Sum.inr a:Key)=Sum.inr b)=decide (a=b):=by
 by_cases e:a=b
 .subst e;simp
 .have h:¬(Sum.inr a:Key)=Sum.inr b:=λ q=>e (Sum.inr.inj q);rw[decide_eq_false h,decide_eq_false e]
theorem RH(a:Int)(b:Str):decide ((Sum.inl a:Key)=Sum.inr b)=false:=decide_eq_false (λ q=>nomatch q)
theorem RF(a:Str)(b:Int):decide ((Sum.inr a:Key)=Sum.inl b)=false:=decide_eq_false (λ q=>nomatch q)
def AJ(prog:Program)(w:World):PySem.KeyKind prog w Key where
 is:=Ig
 hash:=TQ w
 inj:=λ v a b ha hb=>by
  rcases AR ha with ⟨i,t,rfl,rfl⟩|⟨x,t,rfl,rfl⟩
  .rcases AR hb with ⟨j,u,rfl,e⟩|⟨y,u,rfl,e⟩
   .injection e with e1 _;rw[e1]
   .exact nomatch e
  .rcases AR hb with ⟨j,u,rfl,e⟩|⟨y,u,rfl,e⟩
   .exact nomatch e
   .injection e with e1 _;rw[e1]
 byValue:=λ k v h=>by
  rcases AR h with ⟨i,t,rfl,rfl⟩|⟨x,t,rfl,rfl⟩<;>rfl
 pyHash:=λ hv h=>by
  rcases AR hv with ⟨i,t,rfl,rfl⟩|⟨x,t,rfl,rfl⟩
  .exact wpAny_pyHash_int h
  .exact wpAny_pyHash_str h
 eqBool:=λ hu hv h=>by
  rcases AR hu with ⟨i,t,rfl,rfl⟩|⟨x,t,rfl,rfl⟩
  .rcases AR hv with ⟨j,u,rfl,rfl⟩|⟨y,u,rfl,rfl⟩
   .rw[RI]at h;exact wpAny_eqBool_int h
   .rw[RH]at h;exact SeqAt.EqAt.int_str i t y u _ _ _ _ h
  .rcases AR hv with ⟨j,u,rfl,rfl⟩|⟨y,u,rfl,rfl⟩
   .rw[RF]at h;exact SeqAt.EqAt.str_int x t j u _ _ _ _ h
   .rw[RE]at h;exact wpAny_eqBool_str h
 «strs»:=λ k x t v h=>by
  rcases AR h with ⟨i,u,rfl,e⟩|⟨y,u,rfl,e⟩
  .exact nomatch e
  .injection e with e1 _;subst e1;cases v<;>rfl
theorem Kx(prog:Program)(w:World)(i:Int)(t:Tok):(AJ prog w).is (.inl i) (.int i t)=true:=NH i t
theorem Kw(prog:Program)(w:World)(x:Str)(t:Tok):(AJ prog w).is (.inr x) (.str x t)=true:=NG x t
inductive V where
 |non|bl (b:Bool)|int (i:Int)|str (x:Str)|byt (b:Array UInt8)|flt (b:UInt64)|ref (a:Addr)|ty (n:String)
 deriving DecidableEq
abbrev LKz:=List (List Key×V)
abbrev LFz:=List (Str×V)
abbrev LUz:=List V
def RelV:V->Value->Prop
 |.non,u=>u=Value.none
 |.bl b,u=>u=Value.bool b
 |.int i,u=>∃t,u=Value.int i t
 |.str x,u=>∃t,u=Value.str x t
 |.byt b,u=>∃t,u=Value.bytes b t
 |.flt b,u=>∃t,u=Value.float b t
 |.ref a,u=>u=Value.ref a
 |.ty n,u=>u=Value.type n
abbrev Vals:LUz->LWz->Prop:=Paired RelV
theorem Vals.length{xs:LUz}{us:LWz}(r:Vals xs us):xs.length=us.length:=Paired.length r
theorem Vals.get:∀{xs:LUz}{us:LWz}{i:Nat}{x:V},Vals xs us->xs[i]?=some x->∃u,us[i]?=some u/\RelV x u
 |_,_,_,_,.nil,e=>by simp at e
 |_,_,0,_,.cons r _,e=>by simp at e;subst e;exact⟨_,rfl,r⟩
 |_,_,i+1,x,.cons _ t,e=>by
  obtain⟨u,h1,h2⟩:=Vals.get (i:=i) (x:=x) t (by simpa using e);exact⟨u,by simpa using h1,h2⟩
theorem Vals.set{x:V}{u:Value}(r:RelV x u):∀{xs:LUz}{us:LWz}(i:Nat),Vals xs us->Vals (xs.set i x) (us.set i u)
 |_,_,_,.nil=>.nil
 |_,_,0,.cons _ t=>.cons r t
 |_,_,i+1,.cons q t=>.cons q (Vals.set r i t)
theorem Vals.append:∀{xs ys:LUz}{us ws:LWz},Vals xs us->Vals ys ws->Vals (xs++ys) (us++ws)
 |_,_,_,_,.nil,s=>s
 |_,_,_,_,.cons r t,s=>.cons r (Vals.append t s)
theorem Vals.take:∀{xs:LUz}{us:LWz}(n:Nat),Vals xs us->Vals (xs.take n) (us.take n)
 |_,_,0,_=>.nil
 |_,_,_+1,.nil=>.nil
 |_,_,n+1,.cons r t=>.cons r (Vals.take n t)
theorem Vals.drop:∀{xs:LUz}{us:LWz}(n:Nat),Vals xs us->Vals (xs.drop n) (us.drop n)
 |_,_,0,r=>r
 |_,_,_+1,.nil=>.nil
 |_,_,n+1,.cons _ t=>Vals.drop n t
def RelO:Option V->Option Value->Prop
 |some v,some u=>RelV v u
 |none,none=>True
 |_,_=>False
def KV{κ:Type}:List (κ×V)->List (κ×Value)->Prop:=Paired λ(p:κ×V)(q:κ×Value)=>p.1=q.1/\RelV p.2 q.2
def kV:Key->V
 |.inl i=>.int i
 |.inr x=>.str x
inductive HO where
 |lst (xs:LUz)
 |tup (xs:LUz)
 |dK (kvs:List (Key×V))|dT (kvs:LKz)
 |set (S:Int->Bool) (n:Nat)
 |ins (C dx:Addr) (fs:LFz)
 |own (x:Addr)
 |xd (fs:LFz)
 |met (f x:Addr)
 |rng (lo hi:Int)
 |frz (o:Obj) (u:HO)
 |tbl (ps:Array Value)
 |ext (φ:Heap->Prop)
abbrev Hp:=Addr->Option HO
def upd(H:Hp)(a:Addr)(o:HO):Hp:=λ b=>if b=a then some o else H b
theorem upd_same{H:Hp}{a:Addr}{o:HO}:upd H a o a=some o:=by unfold upd;rw[if_pos rfl]
theorem Af{H:Hp}{a b:Addr}{o:HO}(h:b≠a):upd H a o b=H b:=by unfold upd;rw[if_neg h]
theorem Kv{H:Hp}{a b:Addr}{o u:HO}(h:H a=some o)(h':H b=some u)(d:o≠u):a≠b:=by
 intro e;subst e;rw[h]at h';exact d (Option.some.inj h')
theorem Ah{H:Hp}{a b:Addr}{o:HO}(h:H a=some o)(h':H b=none):a≠b:=by
 intro e;subst e;rw[h]at h';cases h'
section
variable(P:Program)(w:World)
def ObjOk(H:Hp)(h:Heap)(a:Addr):HO->Prop
 |.lst xs=>xs.length<=sizeLine/\∃(its:LWz)(n:Nat),Vals xs its/\h.get? a=some { cls:=.type "list",data:=.seq its.toArray n }
 |.tup xs=>xs.length<=sizeLine/\∃its:LWz,Vals xs its/\IsTup h a its.toArray
 |.dK kvs=>kvs.length<=sizeLine/\(a==sysModules)=false/\∃vs,KV kvs vs/\h.DictOf (AJ P w) a vs
 |.dT kvs=>kvs.length<=sizeLine/\(a==sysModules)=false/\∃xs:List (List Key×Addr×Value),
   Paired (λ(p:List Key×V)(q:List Key×Addr×Value)=>p.1=q.1/\H q.2.1=some (.tup (p.1.map kV))/\RelV p.2 q.2.2) kvs xs /\
   ∃o es ep,h.get? a=some o/\o.ExactDict/\o.data=.dict es ep/\es.toList=xs.map (entryOfKey (tupleKind (AJ P w)))/\(xs.map (·.1)).Nodup
 |.set S n=>h.SetOf (intKind P w) a S n
 |.ins C dx fs=>H dx=some (.own a)/\fs.length<=1000/\dx≠a/\h.get? a=some (instObj C dx) /\
   ∃mA,h.Ns1 dx mA/\(∀f,RelO (fs.lookup f) (mA f))/\PySem.Within mA (fs.map (·.1))
 |.own _=>∃o,h.get? a=some o
 |.xd fs=>∃mA,h.Ns1 a mA/\∀f,RelO (fs.lookup f) (mA f)
 |.rng lo hi=>∃t u v,h.get? a=some { cls:=.type "range",data:=.fields #[.int lo t,.int hi u,.int 1 v] }
 |.frz o u=>h.get? a=some o/\ObjOk H h a u
 |.tbl ps=>h.get? a=some { cls:=.none,data:=.fields ps }
 |.met f x=>h.get? a=some (methodObj (.ref f) (.ref x))
 |.ext φ=>φ h/\(∃o,h.get? a=some o)/\∀h1 h2:Heap,φ h1->(∀o,h1.get? a=some o->h2.get? a=some o)->φ h2
def HOk(H:Hp)(h:Heap):Prop:=∀a o,H a=some o->ObjOk P w H h a o
end
section
variable{P:Program}{w:World}{H H':Hp}{h h':Heap}{a:Addr}{o:HO}
theorem ObjOk.lt(x:ObjOk P w H h a o):a<h.objs.size:=by
 cases o with
 |lst xs=>obtain⟨_,_,_,_,e⟩:=x;exact aB e
 |tup xs=>obtain⟨_,_,_,p⟩:=x;exact p.lt
 |dK kvs=>obtain⟨_,_,_,_,o,_,_,e,_⟩:=x;exact aB e
 |dT kvs=>obtain⟨_,_,_,_,o,_,_,e,_⟩:=x;exact aB e
 |set S n=>obtain⟨o,_,_,_,e,_⟩:=x;exact aB e
 |ins C dx fs=>obtain⟨_,_,_,e,_⟩:=x;exact aB e
 |own y=>obtain⟨_,e⟩:=x;exact aB e
 |xd fs=>obtain⟨_,⟨_,_,_,e,_⟩,_⟩:=x;exact aB e
 |rng lo hi=>obtain⟨_,_,_,e⟩:=x;exact aB e
 |frz ob u=>obtain⟨e,_⟩:=x;exact aB e
 |tbl ps=>exact aB (show h.get? a=some _ from x)
 |met f y=>exact aB (show h.get? a=some _ from x)
 |ext φ=>obtain⟨_,⟨_,e⟩,_⟩:=x;exact aB e
theorem Paired.mapP{α β:Type}{F G:α->β->Prop}:∀{l₁:List α}{l₂:List β},Paired F l₁ l₂->(∀a b,F a b->G a b)->Paired G l₁ l₂
 |_,_,.nil,_=>.nil
 |_,_,.cons r t,f=>.cons (f _ _ r) (Paired.mapP t f)
theorem ObjOk.stay(x:ObjOk P w H h a o)(k:∀b u,(b=a\/H b=some (.own a))->h.get? b=some u->h'.get? b=some u)
  (ho:∀b,H b=some (.own a)->H' b=some (.own a)) (ht:∀b xs,H b=some (.tup xs)->H' b=some (.tup xs)):ObjOk P w H' h' a o:=by
 induction o with
 |lst xs=>obtain⟨z,its,n,r,e⟩:=x;exact⟨z,its,n,r,k _ _ (.inl rfl) e⟩
 |tup xs=>obtain⟨z,its,r,ob,e,c⟩:=x;exact⟨z,its,r,ob,k _ _ (.inl rfl) e,c⟩
 |dK kvs=>obtain⟨z,y,vs,r,ob,es,ep,e,c⟩:=x;exact⟨z,y,vs,r,ob,es,ep,k _ _ (.inl rfl) e,c⟩
 |dT kvs =>
  obtain⟨z,y,xs,r,ob,es,ep,e,c⟩:=x;exact⟨z,y,xs,Paired.mapP r λ p q z=>⟨z.1,ht _ _ z.2.1,z.2.2⟩,ob,es,ep,k _ _ (.inl rfl) e,c⟩
 |set S n=>obtain⟨ob,es,ep,t,e,c⟩:=x;exact⟨ob,es,ep,t,k _ _ (.inl rfl) e,c⟩
 |ins C dx fs =>
  obtain⟨d,z,ne,e,mA,⟨od,es,ep,e2,c⟩,r⟩:=x;exact⟨ho _ d,z,ne,k _ _ (.inl rfl) e,mA,⟨od,es,ep,k _ _ (.inr d) e2,c⟩,r⟩
 |own y=>obtain⟨ob,e⟩:=x;exact⟨ob,k _ _ (.inl rfl) e⟩
 |xd fs=>obtain⟨mA,⟨od,es,ep,e,c⟩,r⟩:=x;exact⟨mA,⟨od,es,ep,k _ _ (.inl rfl) e,c⟩,r⟩
 |rng lo hi=>obtain⟨t,u,v,e⟩:=x;exact⟨t,u,v,k _ _ (.inl rfl) e⟩
 |frz ob u ih=>obtain⟨e,q⟩:=x;exact⟨k _ _ (.inl rfl) e,ih q⟩
 |tbl ps =>
  have e:h.get? a=some { cls:=.none,data:=.fields ps }:=x;show h'.get? a=some { cls:=.none,data:=.fields ps };exact k a _ (.inl rfl) e
 |met f y =>
  have e:h.get? a=some (methodObj (.ref f) (.ref y)):=x;show h'.get? a=some (methodObj (.ref f) (.ref y));exact k a _ (.inl rfl) e
 |ext φ=>obtain⟨p,⟨o,e⟩,st⟩:=x;exact⟨st _ _ p λ o q=>k _ _ (.inl rfl) q,⟨o,k _ _ (.inl rfl) e⟩,st⟩
theorem HOk.lt(x:HOk P w H h)(e:H a=some o):a<h.objs.size:=(x a o e).lt
theorem HOk.fresh(x:HOk P w H h)(e:h.objs.size<=a):H a=none:=by
 cases q:H a with
 |none=>rfl
 |some u=>exact absurd (aQ (x.lt q) e) (bS _)
theorem HOk.kept(x:HOk P w H h)(k:∀b u,h.get? b=some u->h'.get? b=some u):HOk P w H h':=λ a o e =>
 (x a o e).stay (λ b u _ q=>k b u q) (λ_ q=>q) λ_ _ q=>q
theorem HOk.laid(x:HOk P w H h)(k:∀b u,h.get? b=some u->h'.get? b=some u)(hp:h.objs.size<=a)(new:ObjOk P w (upd H a o) h' a o):HOk P w (upd H a o) h':=λ b u e=>by
 have hn:=x.fresh hp;by_cases hb:b=a
 .subst hb;rw[upd_same]at e;cases e;exact new
 .rw[Af hb]at e;exact(x b u e).stay (λ c v _ q=>k c v q) (λ c q=>by rw[Af (Ah q hn)];exact q) λ c xs q=>by rw[Af (Ah q hn)];exact q
end
def Rd(H:Hp)(a:Addr)(u:HO):Prop:=H a=some u\/∃o,H a=some (.frz o u)
theorem Rd.ok{P:Program}{w:World}{H:Hp}{h:Heap}{a:Addr}{u:HO}(r:Rd H a u)(x:HOk P w H h):ObjOk P w H h a u:=by
 rcases r with r|⟨o,r⟩
 .exact x a u r
 .obtain⟨_,q⟩:=x a _ r;exact q
def Mut:Option HO->Prop
 |some (.lst _)=>True
 |some (.dK _)=>True
 |some (.dT _)=>True
 |some (.set _ _)=>True
 |some (.ins _ _ _)=>True
 |some (.ext _)=>True
 |_=>False
section
variable{P:Program}{w:World}{H:Hp}{h h':Heap}{x e:Addr}{o':HO}
theorem HOk.write(ok:HOk P w H h)(mu:Mut (H x))(he:e=x\/H e=some (.own x))(k:∀b u,b≠e->h.get? b=some u->h'.get? b=some u)(heo:∃u,h'.get? e=some u)
  (new:ObjOk P w (upd H x o') h' x o'):HOk P w (upd H x o') h':=λ b u q=>by
 have nown:∀c y,H c=some (.own y)->c≠x:=λ c y r z=>by subst z;rw[r]at mu;exact mu
 have ntup:∀c xs,H c=some (.tup xs)->c≠x:=λ c xs r z=>by subst z;rw[r]at mu;exact mu
 by_cases hb:b=x
 .subst hb;rw[upd_same]at q;cases q;exact new
 .rw[Af hb]at q;by_cases hbe:b=e
  .have q':H b=some (.own x):=by
    rcases he with z|z
    .exact absurd (hbe.trans z) hb
    .rw[hbe];exact z
   rw[q]at q';cases q';obtain⟨v,hv⟩:=heo;exact⟨v,by rw[hbe];exact hv⟩
  .refine(ok b u q).stay (λ c v hc r=>k c v ?_ r) (λ c r=>by rw[Af (nown c b r)];exact r) λ c xs r=>by rw[Af (ntup c xs r)];exact r
   rcases hc with rfl|hc
   .exact hbe
   .rintro rfl;rcases he with z|z
    .exact nown c b hc z
    .rw[hc]at z;cases z;exact hb rfl
end
structure Un(fs ex:List Addr)(H H':Hp)(h h':Heap):Prop where
 keep:∀b o,h.get? b=some o->H b=none->b∉fs->b∉ex->h'.get? b=some o
 slot:∀b o,h.get? b=some o->H b=none->b∈fs->b∉ex->∃sl,h'.get? b=some { o with slots:=sl }
 free:∀b o,h.get? b=some o->H b=none->b∉ex->H' b=none
 there:∀b o,h.get? b=some o->b∉ex->∃o',h'.get? b=some o'
 tups:∀b xs,H b=some (.tup xs)->H' b=some (.tup xs)
 frzs:∀b o u,H b=some (.frz o u)->H' b=some (.frz o u)
 tbls:∀b ps,H b=some (.tbl ps)->∃more,H' b=some (.tbl (ps++more))
section
variable{fs fs' ex ex':List Addr}{H H1 H2:Hp}{h h1 h2 h':Heap}{a x e:Addr}{o:HO}
theorem Un.any(u:Un fs ex H H1 h h1){b:Addr}{ob:Obj}(q:h.get? b=some ob)(n:H b=none)(hx:b∉ex):∃sl,h1.get? b=some { ob with slots:=sl }:=by
 by_cases hb:b∈fs
 .exact u.slot b ob q n hb hx
 .exact⟨ob.slots,u.keep b ob q n hb hx⟩
theorem Un.kept(k:∀b u,h.get? b=some u->h'.get? b=some u):Un fs ex H H h h' :=
 ⟨λ b ob q _ _ _=>k b ob q,λ b ob q _ _ _=>⟨ob.slots,k b ob q⟩,λ_ _ _ n _=>n,λ b ob q _=>⟨ob,k b ob q⟩,λ_ _ q=>q,λ_ _ _ q=>q,λ_ ps q=>⟨#[],by rw[q];simp⟩⟩
theorem Un.refl:Un fs ex H H h h:=Un.kept λ_ _ q=>q
theorem Un.laid(k:∀b u,h.get? b=some u->h'.get? b=some u)(hp:h.objs.size<=a)(hn:H a=none):Un fs ex H (upd H a o) h h' where
 keep:=λ b u q _ _ _=>k b u q
 slot:=λ b u q _ _ _=>⟨u.slots,k b u q⟩
 free:=λ b u q n _=>by rw[Af (aJ (aQ (aB q) hp))];exact n
 there:=λ b u q _=>⟨u,k b u q⟩
 tups:=λ b xs q=>by rw[Af (Ah q hn)];exact q
 frzs:=λ b u xs q=>by rw[Af (Ah q hn)];exact q
 tbls:=λ b ps q=>⟨#[],by rw[Af (Ah q hn),q];simp⟩
theorem Un.write(mu:Mut (H x))(he:e=x\/H e=some (.own x))(k:∀b u,b≠e->h.get? b=some u->h'.get? b=some u)(heo:∃u,h'.get? e=some u):Un fs ex H (upd H x o) h h':=by
 have hx:∀b,H b=none->b≠x:=λ b n z=>by subst z;rw[n]at mu;exact mu
 have hb:∀b,H b=none->b≠e:=λ b n z=>by
  subst z;rcases he with r|r
  .exact hx b n r
  .rw[n]at r;cases r
 have hm:∀b u,H b=some u->¬Mut (some u)->b≠x:=λ b u q nm z=>by subst z;rw[q]at mu;exact nm mu
 refine⟨λ b u q n _ _=>k b u (hb b n) q,λ b u q n _ _=>⟨u.slots,k b u (hb b n) q⟩,λ b u q n _=>by rw[Af (hx b n)];exact n,λ b u q _=>?_,
  λ b xs q=>by rw[Af (hm b _ q λ z=>z)];exact q,λ b u xs q=>by rw[Af (hm b _ q λ z=>z)];exact q,λ b ps q=>⟨#[],by rw[Af (hm b _ q λ z=>z),q];simp⟩⟩
 by_cases hbe:b=e
 .subst hbe;exact heo
 .exact⟨u,k b u hbe q⟩
end
def trk(h:Heap)(H:Hp):List Addr:=(List.range h.objs.size).filter λ a=>(H a).isSome
def Jv(h:Heap)(H:Hp):Heap:=hideAll h (trk h H)
theorem NL(h:Heap)(H:Hp):(Jv h H).objs.size=h.objs.size:=hideAll_size _ _
theorem OW{h:Heap}{H:Hp}{b:Addr}{o:Obj}(e:h.get? b=some o)(n:H b=none):(Jv h H).get? b=some o :=
 hideAll_get _ e λ hm=>by
  have q:(H b).isSome=true:=(cO.mp hm).2;rw[n]at q;simp at q
theorem Qj{h:Heap}{H:Hp}{b:Addr}{o:Obj}(e:(Jv h H).get? b=some o):h.get? b=some o/\H b=none:=by
 have e':h.get? b=some o:=of_hideAll (trk h H) e;refine⟨e',?_⟩;cases q:H b with
 |none=>rfl
 |some x =>
  have hm:b∈trk h H:=cO.mpr ⟨ef.mpr (aB e'),by simp[q]⟩;have z:(Jv h H).get? b=none:=hideAll_none (trk h H) hm;rw[z]at e;cases e
structure Mod(K:Frag)(mg:MGz)(base:Heap):Prop where
 kin:K.In base
 glob:base.Ns mainGlobals mg
 blt:∃mb,base.Ns builtinsNs mb/\∀x:Str,x≠"__name__"->mb x=bootBuiltins x
 nolimit:base.NoLimit
structure Cx where
 prog:Program
 w:World
 K:Frag
 mg:MGz
 base:Heap
 A:Around
 N:LSz
 s₀:Shared
 H₀:Hp
 env:Env
 outer:List Env
 stack:List Env
 ex:List Addr
 fn:Str->Bool
 calm:Bool
 pn:PNz
 xe:VPz
def frs(l:List Env):List Addr:=l.filterMap (·.frame)
abbrev Cx.fs(X:Cx):List Addr:=frs X.outer
def Vis(sc:Scope)(x:Str):Prop:=sc.names.lookup x=some .local\/sc.names.lookup x=some .cell\/sc.names.lookup x=some .free
def Loc(sc:Scope)(x:Str):Prop:=sc.names.lookup x=some .local\/sc.names.lookup x=some .cell
def Uj(env:Env)(h:Heap)(m:MGz)(x:Str)(u:Value):Prop :=
 (env.kindOf x=some .local/\m x=some u)\/((env.kindOf x=some .cell\/env.kindOf x=some .free)/\∃c,env.cells.lookup x=some c/\h.IsCell c (some u))
structure Cx.Ok(X:Cx):Prop where
 mod:Mod X.K X.mg X.base
 kind:X.env.scope.kind=.function
 glob:X.env.globals=mainGlobals
 blt:X.env.builtins=builtinsNs
 above:X.s₀.heap.objs.size<=X.env.locals
 inj:∀x y c,X.env.cells.lookup x=some c->X.env.cells.lookup y=some c->x=y
 has:∀x,(X.env.kindOf x=some .cell\/X.env.kindOf x=some .free)->∃c,X.env.cells.lookup x=some c
 cab:∀x c,X.fn x=true->X.env.cells.lookup x=some c->X.s₀.heap.objs.size<=c
 hd:X.calm=true->X.A.handled=none
 frames:X.A.frames=some X.stack
 stk:X.stack=X.outer\/(X.stack=X.env::X.outer/\X.env.frame=some X.env.locals)
 exf:∀b∈X.ex,b≠X.env.locals/\∀x c,X.env.cells.lookup x=some c->c≠b
 bs:∀b o,X.base.get? b=some o->X.s₀.heap.get? b=some o/\X.H₀ b=none
 bsz:X.base.objs.size<=X.s₀.heap.objs.size
 noex:∀b o,X.base.get? b=some o->b∉X.ex
 exfs:∀b∈X.ex,b∉X.fs
 funs:X.s₀.heap.FunFrames X.base X.outer
 frf:∀b∈X.fs,X.H₀ b=none
structure Inv(X:Cx)(pins:PNz)(σ:List (Option V))(H:Hp)(s:Shared):Prop where
 ok:X.Ok
 os:s.os=X.s₀.os
 bare:AllBare s.gens
 base:Un X.fs X.ex X.H₀ H X.s₀.heap s.heap
 loc:∃m,s.heap.Ns X.env.locals m/\∀(i:Nat)(x:Str)(v:V),X.N[i]?=some x->σ[i]?=some (some v)->Vis X.env.scope x->∃u,RelV v u/\Uj X.env s.heap m x u
 cell:∀x c,X.env.cells.lookup x=some c->∃v,s.heap.IsCell c v
 free:H X.env.locals=none
 freeC:∀x c,X.env.cells.lookup x=some c->H c=none
 pin:∀p∈X.pn++pins,s.heap.get? p.1=some p.2/\H p.1=none/\p.1≠X.env.locals/\p.1∉X.fs/\∀v,p.2.data≠.cell v
 hok:HOk X.prog X.w H s.heap
 len:σ.length=X.N.length
section
variable{X:Cx}{pins:PNz}{σ:List (Option V)}{H H':Hp}{s:Shared}{h':Heap}
theorem Cx.Ok.nofr(ok:X.Ok){b:Addr}{o:Obj}(e:X.base.get? b=some o):b∉X.fs:=λ hb=>by
 have:=(ok.funs.mem hb).1;rw[e]at this;cases this
theorem Inv.bs(I:Inv X pins σ H s):∀b o,X.base.get? b=some o->s.heap.get? b=some o/\H b=none:=λ b o e =>
 ⟨I.base.keep b o (I.ok.bs b o e).1 (I.ok.bs b o e).2 (I.ok.nofr e) (I.ok.noex b o e),I.base.free b o (I.ok.bs b o e).1 (I.ok.bs b o e).2 (I.ok.noex b o e)⟩
theorem Inv.bk(I:Inv X pins σ H s):∀b o,X.base.get? b=some o->s.heap.get? b=some o:=λ b o e=>(I.bs b o e).1
theorem Inv.mod(I:Inv X pins σ H s):Mod X.K X.mg X.base:=I.ok.mod
theorem Inv.kIn(I:Inv X pins σ H s):X.K.In s.heap:=I.ok.mod.kin.keeps I.bk
theorem Inv.lt(I:Inv X pins σ H s):X.env.locals<s.heap.objs.size:=let ⟨_,hn,_⟩:=I.loc;hn.lt
theorem Inv.sz(I:Inv X pins σ H s):X.s₀.heap.objs.size<=s.heap.objs.size:=aS I.ok.above (ba I.lt)
theorem Inv.nofs(I:Inv X pins σ H s){a:Addr}(h:s.heap.objs.size<=a):a∉X.fs:=λ hb=>by
 obtain⟨_,o,ho,_⟩:=I.ok.funs.mem hb;exact absurd (aQ (aB ho) (aS I.sz h)) (bS _)
theorem Inv.cne(I:Inv X pins σ H s):∀x c,X.env.cells.lookup x=some c->c≠X.env.locals:=λ x c e z=>by
 obtain⟨v,o,ho,hd⟩:=I.cell x c e;obtain⟨m,⟨o',es,ep,ho',hd',_⟩,_⟩:=I.loc;rw[z,ho']at ho;cases ho;rw[hd']at hd;cases hd
theorem Inv.funs(I:Inv X pins σ H s):s.heap.FunFrames X.base X.outer:=by
 have all:∀(l:List Env),(∀b∈frs l,b∈X.fs)->X.s₀.heap.FunFrames X.base l->s.heap.FunFrames X.base l:=by
  intro l
  induction l with
  |nil=>intro _ _;trivial
  |cons env r ih =>
   intro hs hl;obtain⟨hk,⟨L,o,hf,hn,ho,hd⟩,hr⟩:=hl;have hL:L∈X.fs:=hs L (by unfold frs;rw[dH,hf];exact aR);obtain⟨sl,e⟩:=I.base.slot L o ho (I.ok.frf L hL) hL λ z=>I.ok.exfs L z hL;exact⟨hk,⟨L,_,hf,hn,e,hd⟩,ih (λ b hb=>hs b (by unfold frs;rw[dH,hf];exact aO _ hb)) hr⟩
 exact all X.outer (λ_ hb=>hb) I.ok.funs
theorem Inv.stack(I:Inv X pins σ H s):s.heap.FunFrames X.base X.stack:=by
 rcases I.ok.stk with e|⟨e,hf⟩
 .rw[e];exact I.funs
 .rw[e];obtain⟨m,hn,_⟩:=I.loc;refine .cons (by rw[I.ok.kind];decide) hf hn ?_ I.funs;exact eY (aS I.ok.bsz I.ok.above)
theorem Inv.stkSub(I:Inv X pins σ H s):∀b∈frs X.stack,b∈X.env.locals::X.fs:=λ b hb=>by
 rcases I.ok.stk with e|⟨e,hf⟩
 .rw[e]at hb;exact aO _ hb
 .rw[e]at hb;unfold frs at hb;rw[dH,hf]at hb;exact hb
theorem Inv.stkFree(I:Inv X pins σ H s):∀b∈frs X.stack,H b=none:=λ b hb=>by
 rcases aA.mp (I.stkSub b hb) with e|hb
 .rw[e];exact I.free
 .obtain⟨_,o,ho,_⟩:=I.ok.funs.mem hb;exact I.base.free b o ho (I.ok.frf b hb) λ z=>I.ok.exfs b z hb
theorem Inv.step{g':Array GenState}{t':Nat}{d':Drawn}{ch:List Addr}(I:Inv X pins σ H s)
  (hch:∀b∈ch,(b∈X.ex\/X.s₀.heap.objs.size<=b)/\b≠X.env.locals/\(∀x c,X.env.cells.lookup x=some c->c≠b)/\∀p∈X.pn++pins,p.1≠b)
  (keep:∀b o,b≠X.env.locals->b∉X.fs->b∉ch->s.heap.get? b=some o->H b=none->h'.get? b=some o)
  (slot:∀b o,b≠X.env.locals->b∈X.fs->b∉ch->s.heap.get? b=some o->H b=none->∃sl,h'.get? b=some { o with slots:=sl }) (free:∀b o,b∉ch->s.heap.get? b=some o->H b=none->H' b=none)
  (there:∀b o,b∉ch->s.heap.get? b=some o->∃o',h'.get? b=some o')
  (tups:∀b xs,H b=some (.tup xs)->H' b=some (.tup xs)) (frzs:∀b o u,H b=some (.frz o u)->H' b=some (.frz o u)) (tbls:∀b ps,H b=some (.tbl ps)->∃more,H' b=some (.tbl (ps++more)))
  (ns:∀m,s.heap.Ns X.env.locals m->h'.Ns X.env.locals m) (hok:HOk X.prog X.w H' h') (hg:AllBare g') :
  Inv X pins σ H' { s with heap:=h',gens:=g',drawn:=d',toks:=t' }:=by
 have neL:∀b o,X.s₀.heap.get? b=some o->b≠X.env.locals:=λ b o e=>aJ (aQ (aB e) I.ok.above);have neC:∀b o,X.s₀.heap.get? b=some o->b∉X.ex->b∉ch:=λ b o e hx hb=>by
  rcases(hch b hb).1 with z|z
  .exact hx z
  .exact absurd (aQ (aB e) z) (bS _)
 have cellK:∀x c,X.env.cells.lookup x=some c->∀v,s.heap.IsCell c v->h'.IsCell c v:=λ x c e v ⟨o,ho,hd⟩=>by
  have nch:c∉ch:=λ z=>(hch c z).2.2.1 x c e rfl;by_cases hc:c∈X.fs
  .obtain⟨sl,q⟩:=slot c o (I.cne x c e) hc nch ho (I.freeC x c e);exact⟨_,q,hd⟩
  .exact⟨o,keep c o (I.cne x c e) hc nch ho (I.freeC x c e),hd⟩
 refine⟨I.ok,I.os,hg,⟨λ b o e n hb hx=>?_,λ b o e n hb hx=>?_,λ b o e n hx=>?_,λ b o e hx=>?_,λ b xs e=>tups b xs (I.base.tups b xs e),λ b o xs e=>frzs b o xs (I.base.frzs b o xs e),λ b ps e=>?_⟩,?_,λ x c e=>?_,?_,λ x c e=>?_,λ p hp=>?_,hok,I.len⟩
 .exact keep b o (neL b o e) hb (neC b o e hx) (I.base.keep b o e n hb hx) (I.base.free b o e n hx)
 .obtain⟨sl,e1⟩:=I.base.slot b o e n hb hx;obtain⟨sl',e2⟩:=slot b _ (neL b o e) hb (neC b o e hx) e1 (I.base.free b o e n hx);exact⟨sl',e2⟩
 .obtain⟨o',e1⟩:=I.base.there b o e hx;exact free b o' (neC b o e hx) e1 (I.base.free b o e n hx)
 .obtain⟨o',e1⟩:=I.base.there b o e hx;exact there b o' (neC b o e hx) e1
 .obtain⟨m1,e1⟩:=I.base.tbls b ps e;obtain⟨m2,e2⟩:=tbls b _ e1;exact⟨m1++m2,by rw[e2,Array.append_assoc]⟩
 .obtain⟨m,hn,hl⟩:=I.loc;refine⟨m,ns m hn,λ i x v e1 e2 e3=>?_⟩;obtain⟨u,r,l⟩:=hl i x v e1 e2 e3;refine⟨u,r,?_⟩;rcases l with l|⟨k,c,e,z⟩
  .exact .inl l
  .exact .inr ⟨k,c,e,cellK x c e _ z⟩
 .obtain⟨v,z⟩:=I.cell x c e;exact⟨v,cellK x c e v z⟩
 .obtain⟨m,⟨o,_,_,ho,_⟩,_⟩:=I.loc;exact free _ o (λ z=>(hch _ z).2.1 rfl) ho I.free
 .obtain⟨v,o,ho,hd⟩:=I.cell x c e;exact free c o (λ z=>(hch c z).2.2.1 x c e rfl) ho (I.freeC x c e)
 .obtain⟨e,n,ne,nf,d⟩:=I.pin p hp;have nch:p.1∉ch:=λ z=>(hch p.1 z).2.2.2 p hp rfl;exact⟨keep p.1 p.2 ne nf nch e n,free p.1 p.2 nch e n,ne,nf,d⟩
theorem Inv.un{t':Nat}(I:Inv X pins σ H s)(u:Un X.fs [] H H' s.heap h')(hok:HOk X.prog X.w H' h'):Inv X pins σ H' { s with heap:=h',toks:=t' }:=by
 obtain⟨m,⟨o,es,ep,ho,r⟩,_⟩:=id I.loc;obtain⟨sl,hL⟩:=u.any ho I.free (by simp);exact I.step (g':=s.gens) (d':=s.drawn) (ch:=[]) (λ_ z=>nomatch z) (λ b o _ hb _ e n=>u.keep b o e n hb (by simp)) (λ b o _ hb _ e n=>u.slot b o e n hb (by simp)) (λ b o _ e n=>u.free b o e n (by simp)) (λ b o _ e=>u.there b o e (by simp)) u.tups u.frzs u.tbls (λ m' hm=>by
  obtain⟨o',es',ep',ho',r'⟩:=hm;rw[ho]at ho';cases ho';exact⟨_,es',ep',hL,r'⟩) hok I.bare
theorem Inv.call{g':Array GenState}{t':Nat}{d':Drawn}{ch:List Addr}(I:Inv X pins σ H s)(u:Un (frs X.stack) ch H H' s.heap h')(hok:HOk X.prog X.w H' h')(hg:AllBare g')
  (hch:∀b∈ch,(b∈X.ex\/X.s₀.heap.objs.size<=b)/\b≠X.env.locals/\(∀x c,X.env.cells.lookup x=some c->c≠b)/\∀p∈X.pn++pins,p.1≠b) :
  Inv X pins σ H' { s with heap:=h',gens:=g',drawn:=d',toks:=t' }:=by
 obtain⟨m,⟨o,es,ep,ho,r⟩,_⟩:=id I.loc;obtain⟨sl,hL⟩:=u.any ho I.free λ z=>(hch _ z).2.1 rfl;exact I.step (ch:=ch) hch (λ b o hL hb hc e n=>u.keep b o e n (λ z=>(aA.mp (I.stkSub b z)).elim hL hb) hc) (λ b o _ _ hc e n=>u.any e n hc) (λ b o hc e n=>u.free b o e n hc) (λ b o hc e=>u.there b o e hc) u.tups u.frzs u.tbls (λ m' hm=>by
  obtain⟨o',es',ep',ho',r'⟩:=hm;rw[ho]at ho';cases ho';exact⟨_,es',ep',hL,r'⟩) hok hg
theorem Inv.turned{t':Nat}{it:Addr}(I:Inv X pins σ H s)(k:∀b o,b≠it->s.heap.get? b=some o->h'.get? b=some o)(hn:H it=none)(hL:it≠X.env.locals)
  (h1:it∈X.ex\/X.s₀.heap.objs.size<=it) (h2:∀x c,X.env.cells.lookup x=some c->c≠it) (h3:∀p∈X.pn++pins,p.1≠it):Inv X pins σ H { s with heap:=h',toks:=t' }:=by
 have nit:∀b u,H b=some u->b≠it:=λ b u e z=>by rw[z,hn]at e;cases e
 refine I.step (g':=s.gens) (d':=s.drawn) (ch:=[it]) (λ b hb=>?_) (λ b o _ _ hc e _=>k b o (λ z=>hc (by simp[z])) e) (λ b o _ _ hc e _=>⟨o.slots,k b o (λ z=>hc (by simp[z])) e⟩) (λ_ _ _ _ n=>n)
  (λ b o hc e=>⟨o,k b o (λ z=>hc (by simp[z])) e⟩) (λ_ _ e=>e) (λ_ _ _ e=>e) (λ b ps e=>⟨#[],by rw[e];simp⟩) (λ m hm=>?_) (λ b u e=>?_) I.bare
 .have e:b=it:=by simpa using hb
  subst e;exact⟨h1,hL,h2,h3⟩
 .obtain⟨o,es,ep,ho,r⟩:=hm;exact⟨o,es,ep,k _ o (Ne.symm hL) ho,r⟩
 .refine(I.hok b u e).stay (λ c v hc q=>k c v ?_ q) (λ_ q=>q) λ_ _ q=>q;rcases hc with z|z
  .rw[z];exact nit b u e
  .exact nit c _ z
theorem Inv.tok(I:Inv X pins σ H s)(t:Nat):Inv X pins σ H { s with toks:=t }:=I.un (h':=s.heap) (t':=t) Un.refl I.hok
theorem Inv.kept{t':Nat}(I:Inv X pins σ H s)(k:∀b u,s.heap.get? b=some u->h'.get? b=some u):Inv X pins σ H { s with heap:=h',toks:=t' }:=I.un (Un.kept k) (I.hok.kept k)
theorem Inv.laid{a:Addr}{o:HO}{t':Nat}(I:Inv X pins σ H s)(k:∀b u,s.heap.get? b=some u->h'.get? b=some u)(hp:s.heap.objs.size<=a)(new:ObjOk X.prog X.w (upd H a o) h' a o) :
  Inv X pins σ (upd H a o) { s with heap:=h',toks:=t' }:=I.un (Un.laid k hp (I.hok.fresh hp)) (I.hok.laid k hp new)
theorem Inv.write{x e:Addr}{o:HO}{t':Nat}(I:Inv X pins σ H s)(mu:Mut (H x))(he:e=x\/H e=some (.own x))(k:∀b u,b≠e->s.heap.get? b=some u->h'.get? b=some u)(heo:∃u,h'.get? e=some u)
  (new:ObjOk X.prog X.w (upd H x o) h' x o):Inv X pins σ (upd H x o) { s with heap:=h',toks:=t' }:=I.un (Un.write mu he k heo) (I.hok.write mu he k heo new)
theorem Inv.pins_of{pins':PNz}(I:Inv X pins σ H s)(h:∀p∈pins',s.heap.get? p.1=some p.2/\H p.1=none/\p.1≠X.env.locals/\p.1∉X.fs/\∀v,p.2.data≠.cell v):Inv X pins' σ H s :=
 ⟨I.ok,I.os,I.bare,I.base,I.loc,I.cell,I.free,I.freeC,λ p hp=>(aw.mp hp).elim (λ z=>I.pin p (bG _ z)) (h p),I.hok,I.len⟩
theorem GD{N:LSz}(hN:N.Nodup){i j:Nat}{x:Str}(a:N[i]?=some x)(b:N[j]?=some x):i=j:=by
 obtain⟨h1,e1⟩:=av.mp a;obtain⟨h2,e2⟩:=av.mp b;exact(List.getElem_inj hN).mp (e1.trans e2.symm)
theorem Nu{M:Model}{A:Around}{E:VPz}{i:Nat}{x:Str}{v:V}{u:Value}{Q:Unit->Shared->Prop}(I:Inv X pins σ H s)(hN:X.N.Nodup)(hi:X.N[i]?=some x)(hx:Loc X.env.scope x)(r:RelV v u)
  (h:∀s',Inv X pins (σ.set i (some v)) H s'->(∃a,Heap.SameBut a s.heap s'.heap/\(a=X.env.locals\/X.env.cells.lookup x=some a))->Q () s') (hf:X.fn x=true\/X.env.scope.names.lookup x=some .local:=by first|exact .inl rfl|exact .inr rfl|assumption):wpAny M A (storeName X.env x u) Q E s:=by
 obtain⟨m,hn,hl⟩:=id I.loc;have hcls:(X.env.scope.kind==.class||(X.env.scope.kind==.module&&X.env.locals != X.env.globals))=false:=by rw[I.ok.kind];rfl
 have hiσ:i<σ.length:=by rw[I.len];exact(av.mp hi).1
 have cne:=I.cne;have tracked:∀{a:Addr}{h':Heap},(∃o,s.heap.get? a=some o/\H a=none)->Heap.SameBut a s.heap h'->HOk X.prog X.w H h':=λ{a h'} ha hs b ob e=>by
  obtain⟨_,_,hfree⟩:=ha;refine(I.hok b ob e).stay (λ c w' hc q=>(hs.2 c ?_).trans q) (λ_ q=>q) λ_ _ q=>q;rintro rfl;rcases hc with rfl|hc
  .rw[hfree]at e;cases e
  .rw[hfree]at hc;cases hc
 rcases hx with hk|hk
 .refine wpAny_storeName_local hk hn (λ h' hn' hs=>?_) hcls;obtain⟨oL,_,_,hoL,_⟩:=id hn;refine h _ ⟨I.ok,I.os,I.bare,⟨λ b o e n hb hx=>?_,λ b o e n hb hx=>?_,I.base.free,λ b o e hx=>?_,I.base.tups,I.base.frzs,I.base.tbls⟩,⟨_,hn',λ j y v' e1 e2 e3=>?_⟩,λ y c e=>?_,I.free,I.freeC,λ p hp=>?_,tracked ⟨oL,hoL,I.free⟩ hs,by simpa using I.len⟩ ⟨_,hs,.inl rfl⟩
  .exact(hs.2 b (aJ (aQ (aB e) I.ok.above))).trans (I.base.keep b o e n hb hx)
  .obtain⟨sl,e1⟩:=I.base.slot b o e n hb hx;exact⟨sl,(hs.2 b (aJ (aQ (aB e) I.ok.above))).trans e1⟩
  .obtain⟨o',e1⟩:=I.base.there b o e hx;exact⟨o',(hs.2 b (aJ (aQ (aB e) I.ok.above))).trans e1⟩
  .by_cases hj:j=i
   .subst hj;rw[hi]at e1;cases e1;rw[cA hiσ]at e2;cases e2;exact⟨u,r,.inl ⟨hk,by simp⟩⟩
   .rw[cJ (Ne.symm hj)]at e2;obtain⟨u',r',q⟩:=hl j y v' e1 e2 e3;refine⟨u',r',?_⟩;rcases q with ⟨k,e⟩|⟨k,c,e,z⟩
    .refine .inl ⟨k,?_⟩;have:y≠x:=λ e=>hj (GD hN e1 (e ▸ hi));simp[this,e]
    .exact .inr ⟨k,c,e,z.sameBut hs (cne y c e)⟩
  .obtain⟨w',z⟩:=I.cell y c e;exact⟨w',z.sameBut hs (cne y c e)⟩
  .obtain⟨e,n,ne,nf,d⟩:=I.pin p hp;exact⟨(hs.2 p.1 ne).trans e,n,ne,nf,d⟩
 .have hfn:X.fn x=true:=by
   rcases hf with z|z
   .exact z
   .rw[z]at hk;cases hk
  obtain⟨c,hc⟩:=I.ok.has x (.inl hk);obtain⟨w',z⟩:=I.cell x c hc;refine wpAny_storeName_cell I.ok.kind hk hc z (λ h' hc' hs=>?_);obtain⟨oc,hoc,hocd⟩:=id z;refine h { s with heap:=h' } ⟨I.ok,I.os,I.bare,⟨λ b o e n hb hx=>?_,λ b o e n hb hx=>?_,I.base.free,λ b o e hx=>?_,I.base.tups,I.base.frzs,I.base.tbls⟩,⟨m,hn.sameBut hs (Ne.symm (cne x c hc)),λ j y v' e1 e2 e3=>?_⟩,λ y c' e=>?_,I.free,I.freeC,λ p hp=>?_,tracked ⟨oc,hoc,I.freeC x c hc⟩ hs,by simpa using I.len⟩ ⟨c,hs,.inr hc⟩
  .exact(hs.2 b (aJ (aQ (aB e) (I.ok.cab x c hfn hc)))).trans (I.base.keep b o e n hb hx)
  .obtain⟨sl,e1⟩:=I.base.slot b o e n hb hx;exact⟨sl,(hs.2 b (aJ (aQ (aB e) (I.ok.cab x c hfn hc)))).trans e1⟩
  .obtain⟨o',e1⟩:=I.base.there b o e hx;exact⟨o',(hs.2 b (aJ (aQ (aB e) (I.ok.cab x c hfn hc)))).trans e1⟩
  .by_cases hj:j=i
   .subst hj;rw[hi]at e1;cases e1;rw[cA hiσ]at e2;cases e2;exact⟨u,r,.inr ⟨.inl hk,c,hc,hc'⟩⟩
   .rw[cJ (Ne.symm hj)]at e2;obtain⟨u',r',q⟩:=hl j y v' e1 e2 e3;refine⟨u',r',?_⟩;rcases q with q|⟨k,c',e,z'⟩
    .exact .inl q
    .refine .inr ⟨k,c',e,z'.sameBut hs ?_⟩;rintro rfl;exact hj (GD hN e1 (I.ok.inj _ _ _ e hc ▸ hi))
  .by_cases hcc:c'=c
   .subst hcc;exact⟨_,hc'⟩
   .obtain⟨w2,z2⟩:=I.cell y c' e;exact⟨w2,z2.sameBut hs hcc⟩
  .obtain⟨e,n,ne,nf,d⟩:=I.pin p hp;refine⟨(hs.2 p.1 ?_).trans e,n,ne,nf,d⟩;intro q;rw[q,hoc]at e;have q':oc=p.2:=Option.some.inj e;exact d w' (by rw[<-q'];exact hocd)
theorem Ep{M:Model}{A:Around}{E:VPz}{i:Nat}{x:Str}{v:V}{u:Value}{Q:Unit->Shared->Prop}(I:Inv X pins σ H s)(hN:X.N.Nodup)(hi:X.N[i]?=some x)(hx:Loc X.env.scope x)(r:RelV v u)
  (h:∀s',Inv X pins (σ.set i (some v)) H s'->Q () s') (hf:X.fn x=true\/X.env.scope.names.lookup x=some .local:=by first|exact .inl rfl|exact .inr rfl|assumption):wpAny M A (storeName X.env x u) Q E s :=
 Nu I hN hi hx r (λ s' I' _=>h s' I') hf
theorem Inv.call'{s':Shared}{ch:List Addr}(I:Inv X pins σ H s)(ho:s'.os=s.os)(u:Un (frs X.stack) ch H H' s.heap s'.heap)(hok:HOk X.prog X.w H' s'.heap)(hg:AllBare s'.gens)
  (hch:∀b∈ch,(b∈X.ex\/X.s₀.heap.objs.size<=b)/\b≠X.env.locals/\(∀x c,X.env.cells.lookup x=some c->c≠b)/\∀p∈X.pn++pins,p.1≠b):Inv X pins σ H' s':=by
 obtain⟨h',g',d',t',o'⟩:=s';have e:o'=s.os:=ho;subst e;exact I.call (g':=g') (t':=t') (d':=d') u hok hg hch
end
abbrev XK:=Value->Option Addr->Hp->Prop
abbrev St:=List (Option V)
abbrev VK:=V->Hp->Prop
abbrev TE:=St->Hp->VK->Prop
abbrev TT:=St->Hp->(Bool->Hp->Prop)->Prop
abbrev TA:=St->Hp->(LUz->Hp->Prop)->Prop
structure CT where
 nx:St->Hp->Prop
 rt:VK
 bk:St->Hp->Prop:=λ_ _=>False
 ct:St->Hp->Prop:=λ_ _=>False
abbrev TS:=CT->St->Hp->Prop
def EP(X:Cx)(pins:PNz)(σ:St)(Q:VK)(u:Value)(s':Shared):Prop:=∃v H',Inv X pins σ H' s'/\RelV v u/\Q v H'
def TP(X:Cx)(pins:PNz)(σ:St)(Q:Bool->Hp->Prop)(b:Bool)(s':Shared):Prop:=∃H',Inv X pins σ H' s'/\Q b H'
def AP(X:Cx)(pins:PNz)(σ:St)(Q:LUz->Hp->Prop)(us:LWz)(s':Shared):Prop:=∃vs H',Inv X pins σ H' s'/\Vals vs us/\Q vs H'
def SP(X:Cx)(pins:PNz)(D:CT)(f:Flow)(s':Shared):Prop :=
 match f with
 |.next=>∃σ' H',Inv X pins σ' H' s'/\D.nx σ' H'
 |.brk=>∃σ' H',Inv X pins σ' H' s'/\D.bk σ' H'
 |.cont=>∃σ' H',Inv X pins σ' H' s'/\D.ct σ' H'
 |.ret u=>∃v σ' H',Inv X pins σ' H' s'/\RelV v u/\D.rt v H'
def PE(X:Cx)(e:Expr)(t:TE):Prop :=
 ∀(pins:PNz)(s:Shared)(σ:St)(H:Hp)(Q:VK),Inv X pins σ H s->t σ H Q->wpAny (model X.prog X.w) X.A (eval e X.env) (EP X pins σ Q) X.xe s
def PT(X:Cx)(e:Expr)(t:TT):Prop :=
 ∀(pins:PNz)(s:Shared)(σ:St)(H:Hp)(Q:Bool->Hp->Prop),Inv X pins σ H s->t σ H Q->wpAny (model X.prog X.w) X.A (isTrue e X.env (eval e X.env)) (TP X pins σ Q) X.xe s
def PW(X:Cx)(e:Expr)(t:TT):Prop :=
 ∀(whole:Sem Value)(pins:PNz)(s:Shared)(σ:St)(H:Hp)(Q:Bool->Hp->Prop),Inv X pins σ H s->t σ H Q->wpAny (model X.prog X.w) X.A (isTrue e X.env whole) (TP X pins σ Q) X.xe s
theorem PW.pt{X:Cx}{e:Expr}{t:TT}(h:PW X e t):PT X e t:=h _
def PA(X:Cx)(es:List Expr)(t:TA):Prop :=
 ∀(pos:Pos)(pins:PNz)(s:Shared)(σ:St)(H:Hp)(Q:LUz->Hp->Prop),Inv X pins σ H s->t σ H Q->wpAny (model X.prog X.w) X.A (spliced (backTo pos (starEach es X.env))) (AP X pins σ Q) X.xe s
def PS(X:Cx)(st:Stmt)(t:TS):Prop :=
 ∀(pins:PNz)(s:Shared)(σ:St)(H:Hp)(D:CT),Inv X pins σ H s->t D σ H->wpAny (model X.prog X.w) X.A (exec st X.env) (SP X pins D) X.xe s
def PSs(X:Cx)(st:List Stmt)(t:TS):Prop :=
 ∀(pins:PNz)(s:Shared)(σ:St)(H:Hp)(D:CT),Inv X pins σ H s->t D σ H->wpAny (model X.prog X.w) X.A (execs st X.env) (SP X pins D) X.xe s
theorem thn{α:Type}{t:Sem α}{Q Q':α->Shared->Prop}{M:Model}{A:Around}{E:VPz}{s:Shared}(h:wpAny M A t Q E s)(hQ:∀a s,Q a s->Q' a s):wpAny M A t Q' E s:=wpAny_mono h hQ λ_ _ x=>x
section
variable{X:Cx}
inductive Td(i:Nat)(σ:St)(H:Hp)(Q:VK):Prop
 |mk (v:V) (e:σ[i]?=some (some v)) (q:Q v H):Td i σ H Q
def Nt(i:Nat):TE:=λ σ H Q=>Td i σ H Q
inductive IBl(x:V)(Q:Bool->Prop):Prop
 |mk (c:Bool) (e:x=.bl c) (q:Q c):IBl x Q
def tC(v:V):TE:=λ_ H Q=>Q v H
theorem O6{i:Nat}{x:Str}{pos:Pos}(hN:X.N[i]?=some x)(hv:Vis X.env.scope x)(hd:(x==("__debug__":Str))=false:=by decide)(hcd:(x==("__classdict__":Str))=false:=by decide):PE X (.Name x pos) (Nt i):=by
 intro pins s σ H Q I h;obtain⟨v,e,h⟩:=h;obtain⟨m,hn,hl⟩:=I.loc;obtain⟨u,r,l⟩:=hl i x v hN e hv;have fin:EP X pins σ Q u s:=⟨v,H,I,r,h⟩;rcases l with ⟨hk,hm⟩|⟨hk,c,hc,hcell⟩
 .exact wpAny_Name (wpAny_loadName_local I.ok.kind hk hn hm fin) hd
 .rcases hk with hk|hk
  .exact wpAny_Name (wpAny_loadName_cell I.ok.kind hk hc hcell fin) hd
  .exact wpAny_Name (wpAny_loadName_free I.ok.kind hk hc hcell fin hcd) hd
theorem Ac{i j pos}:PE X (.Constant (.int i) j pos) (tC (.int i)):=λ_ _ _ H _ I h=>wpAny_Constant_int ⟨.int i,H,I.tok _,⟨_,rfl⟩,h⟩
theorem BD{b j pos}:PE X (.Constant (.bool b) j pos) (tC (.bl b)):=λ_ _ _ H _ I h=>Constant_bool ⟨.bl b,H,I,rfl,h⟩
theorem AL{j pos}:PE X (.Constant .none j pos) (tC .non):=λ_ _ _ H _ I h=>Constant_none ⟨.non,H,I,rfl,h⟩
theorem A8{x j pos}:PE X (.Constant (.str x) j pos) (tC (.str x)):=λ_ _ _ H _ I h=>Calls.Constant_str ⟨.str x,H,I.tok _,⟨_,rfl⟩,h⟩
def Gl(X:Cx)(x:Str):Prop:=X.env.kindOf x=some .globalImplicit
theorem CO{E:VPz}{pins:PNz}{s:Shared}{σ:St}{H:Hp}{x:Str}{u:Value}{pos:Pos}{Q:VPz}(I:Inv X pins σ H s)(hg:Gl X x)(hm:X.mg x=some u)(h:Q u s)
  (hd:(x==("__debug__":Str))=false:=by decide):wpAny (model X.prog X.w) X.A (eval (.Name x pos) X.env) Q E s :=
 Calls.Name_function_global I.ok.kind hg (Calls.loadGlobal_global (by rw[I.ok.glob];exact I.mod.glob.keeps I.bk) hm h) hd
theorem Fe{E:VPz}{pins:PNz}{s:Shared}{σ:St}{H:Hp}{x:Str}{u:Value}{pos:Pos}{Q:VPz}(I:Inv X pins σ H s)(hg:Gl X x)(hm:X.mg x=none)(hv:bootBuiltins x=some u)(h:Q u s)
  (hn:x≠"__name__":=by decide) (hd:(x==("__debug__":Str))=false:=by decide):wpAny (model X.prog X.w) X.A (eval (.Name x pos) X.env) Q E s:=by
 obtain⟨mb,h1,h2⟩:=I.mod.blt;exact Calls.Name_function_global I.ok.kind hg (Calls.loadGlobal_builtin (by rw[I.ok.glob];exact I.mod.glob.keeps I.bk) hm (by rw[I.ok.blt];exact h1.keeps I.bk) ((h2 x hn).trans hv) h) hd
theorem Az{x:Str}{v:V}{u:Value}{pos:Pos}(hg:Gl X x)(hm:X.mg x=some u)(r:RelV v u)(hd:(x==("__debug__":Str))=false:=by decide):PE X (.Name x pos) (tC v) :=
 λ_ _ _ H _ I h=>CO I hg hm ⟨v,H,I,r,h⟩ hd
theorem CM{x:Str}{v:V}{u:Value}{pos:Pos}(hg:Gl X x)(hm:X.mg x=none)(hv:bootBuiltins x=some u)(r:RelV v u)(hn:x≠"__name__":=by decide)(hd:(x==("__debug__":Str))=false:=by decide):PE X (.Name x pos) (tC v) :=
 λ_ _ _ H _ I h=>Fe I hg hm hv ⟨v,H,I,r,h⟩ hn hd
variable{a b:Expr}{ta tb:TE}{pos:Pos}
def tB(t:TE):TT:=λ σ H Q=>t σ H λ x H1=>IBl x λ c=>Q c H1
theorem DX{e:Expr}{t:TE}(h:PE X e t)(he:∀whole,isTrue e X.env whole=(do let v <-whole;standAt e.pos;holding [v] (truthy v)):=by intro _;rfl):PT X e (tB t):=by
  intro pins s σ H Q I hw;refine isTrue_plain (thn (h pins s σ H _ I hw) λ v s1 hz_=>?_) (he _);obtain⟨x,H1,I1,r1,q1⟩:=hz_;obtain⟨d,rfl,q⟩:=q1;cases r1;exact wpAny_truthy_bool ⟨H1,I1,q⟩
variable{tA tB':TT}{rest:List Expr}
def Tw(t u:TT):TT:=λ σ H Q=>t σ H λ c H1=>if c=true then u σ H1 Q else Q false H1
def tOr(t u:TT):TT:=λ σ H Q=>t σ H λ c H1=>if c=true then Q true H1 else u σ H1 Q
def To(t:TT):TT:=λ σ H Q=>t σ H λ c H1=>Q (!c) H1
theorem Ew(ha:PT X a tA):PW X (.BoolOp .And [a] pos) tA:=by
 intro wh pins s σ H Q I h;refine isTrue_and (thn (ha pins s σ H Q I h) λ c s1 e=>?_);cases c with
 |true=>exact isTrue_and_nil e
 |false=>exact e
theorem DW(ha:PT X a tA):PW X (.BoolOp .Or [a] pos) tA:=by
 intro wh pins s σ H Q I h;refine isTrue_or (thn (ha pins s σ H Q I h) λ c s1 e=>?_);cases c with
 |false=>exact isTrue_or_nil e
 |true=>exact e
theorem EW(ha:PT X a tA)(hb:PW X (.BoolOp .And (b::rest) pos) tB'):PW X (.BoolOp .And (a::b::rest) pos) (Tw tA tB'):=by
 intro wh pins s σ H Q I h;refine isTrue_and (thn (ha pins s σ H _ I h) λ c s1 hz_=>?_);obtain⟨H1,I1,q1⟩:=hz_;cases c with
 |true=>exact hb wh pins s1 σ H1 Q I1 q1
 |false=>exact⟨H1,I1,q1⟩
theorem Gu(ha:PT X a tA)(hb:PW X (.BoolOp .Or (b::rest) pos) tB'):PW X (.BoolOp .Or (a::b::rest) pos) (tOr tA tB'):=by
 intro wh pins s σ H Q I h;refine isTrue_or (thn (ha pins s σ H _ I h) λ c s1 hz_=>?_);obtain⟨H1,I1,q1⟩:=hz_;cases c with
 |true=>exact⟨H1,I1,q1⟩
 |false=>exact hb wh pins s1 σ H1 Q I1 q1
theorem DY(ha:PT X a tA):PT X (.UnaryOp .Not a pos) (To tA):=by
 intro pins s σ H Q I h;exact isTrue_not (ha pins s σ H (λ c H1=>Q (!c) H1) I h)
def Sv(ta tb:TE):TE:=λ σ H Q=>ta σ H λ x H1=>IBl x λ c=>if c=true then tb σ H1 Q else Q (.bl false) H1
def Sn(ta:TE):TE:=λ σ H Q=>ta σ H λ x H1=>IBl x λ c=>Q (.bl (!c)) H1
theorem Jf{op}{t:TE}(h:PE X a t):PE X (.BoolOp op [a] pos) t:=λ pins s σ H Q I hw=>BoolOp_one (h pins s σ H Q I hw)
theorem Gy(ha:PE X a ta)(hb:PE X (.BoolOp .And (b::rest) pos) tb):PE X (.BoolOp .And (a::b::rest) pos) (Sv ta tb):=by
 intro pins s σ H Q I h;refine BoolOp_and (thn (ha pins s σ H _ I h) λ v s1 hz_=>?_);obtain⟨x,H1,I1,r1,q1⟩:=hz_;obtain⟨c,rfl,q1⟩:=q1;cases r1;refine wpAny_truthy_bool ?_;cases c with
 |true=>exact hb pins s1 σ H1 Q I1 q1
 |false=>exact⟨.bl false,H1,I1,rfl,q1⟩
theorem O7(ha:PE X a ta):PE X (.UnaryOp .Not a pos) (Sn ta):=by
 intro pins s σ H Q I h;refine UnaryOp_ (thn (ha pins s σ H _ I h) λ v s1 hz_=>?_);obtain⟨x,H1,I1,r1,q1⟩:=hz_;obtain⟨c,rfl,q1⟩:=q1;cases r1;exact not_of (wpAny_truthy_bool ⟨.bl (!c),H1,I1,rfl,q1⟩)
end
def SqL(K:Frag)(H:Hp)(a:Addr)(xs:LUz):Prop :=
 Rd H a (.lst xs) \/
  ∃(o:Obj)(its:Array Value)(n:Nat),K.lookup a=some o/\o.cls=.type "list"/\o.dict=none/\o.data=.seq its n/\its.size<=sizeLine/\Vals xs its.toList
def SqT(K:Frag)(H:Hp)(a:Addr)(xs:LUz):Prop :=
 Rd H a (.tup xs) \/
  ∃(o:Obj)(its:Array Value)(n:Nat),K.lookup a=some o/\o.cls=.type "tuple"/\o.data=.seq its n/\its.size<=sizeLine/\Vals xs its.toList
def Uc:Value->Option V
 |.none=>some .non
 |.bool b=>some (.bl b)
 |.int i _=>some (.int i)
 |.str x _=>some (.str x)
 |.bytes b _=>some (.byt b)
 |.float b _=>some (.flt b)
 |.ref a=>some (.ref a)
 |.type n=>some (.ty n)
 |_=>none
theorem RelV.abs{x:V}{u:Value}(r:RelV x u):Uc u=some x:=by
 cases x with
 |non=>cases r;rfl
 |bl _=>cases r;rfl
 |int _=>obtain⟨t,rfl⟩:=r;rfl
 |str _=>obtain⟨t,rfl⟩:=r;rfl
 |byt _=>obtain⟨t,rfl⟩:=r;rfl
 |flt _=>obtain⟨t,rfl⟩:=r;rfl
 |ref _=>cases r;rfl
 |ty _=>cases r;rfl
theorem RelV.inj{x y:V}{u:Value}(r:RelV x u)(q:RelV y u):x=y:=Option.some.inj (r.abs.symm.trans q.abs)
theorem Vals.inj:∀{xs ys:LUz}{us:LWz},Vals xs us->Vals ys us->xs=ys
 |_,_,_,.nil,.nil=>rfl
 |_,_,_,.cons r t,.cons r' t'=>by rw[r.inj r',Vals.inj t t']
section
variable{X:Cx}{pins:PNz}{σ:St}{H:Hp}{s:Shared}{a:Addr}{xs ys:LUz}
theorem SqL.of{K:Frag}(h:H a=some (.lst xs)):SqL K H a xs:=.inl (.inl h)
theorem SqT.of{K:Frag}(h:H a=some (.tup xs)):SqT K H a xs:=.inl (.inl h)
theorem Inv.list(I:Inv X pins σ H s)(h:SqL X.K H a xs):∃its:LWz,Vals xs its/\PlainL s.heap a its.toArray/\xs.length<=sizeLine:=by
 rcases h with h|⟨o,its,n,hk,hc,hd,hs,hz,r⟩
 .obtain⟨z,its,n,r,e⟩:=h.ok I.hok;exact⟨its,r,⟨_,n,e,rfl,rfl,rfl⟩,z⟩
 .refine⟨its.toList,r,⟨o,n,I.kIn a o hk,hc,hd,by simpa using hs⟩,?_⟩;have e:=r.length;simp only[bT]at e;lia
theorem Inv.tuple(I:Inv X pins σ H s)(h:SqT X.K H a xs):∃its:LWz,Vals xs its/\IsTup s.heap a its.toArray/\xs.length<=sizeLine:=by
 rcases h with h|⟨o,its,n,hk,hc,hs,hz,r⟩
 .obtain⟨z,its,r,p⟩:=h.ok I.hok;exact⟨its,r,p,z⟩
 .refine⟨its.toList,r,⟨o,I.kIn a o hk,hc,n,by simpa using hs⟩,?_⟩;have e:=r.length;simp only[bT]at e;lia
theorem Inv.list_inj(I:Inv X pins σ H s)(h:SqL X.K H a xs)(h':SqL X.K H a ys):xs=ys:=by
 obtain⟨its,r,⟨o,n,e,_,_,d⟩,_⟩:=I.list h;obtain⟨its',r',⟨o',n',e',_,_,d'⟩,_⟩:=I.list h';rw[e]at e';cases e';rw[d]at d';injection d' with d1 _;have:its=its':=by simpa using congrArg Array.toList d1
 subst this;exact r.inj r'
theorem Inv.tuple_inj(I:Inv X pins σ H s)(h:SqT X.K H a xs)(h':SqT X.K H a ys):xs=ys:=by
 obtain⟨its,r,⟨o,e,_,n,d⟩,_⟩:=I.tuple h;obtain⟨its',r',⟨o',e',_,n',d'⟩,_⟩:=I.tuple h';rw[e]at e';cases e';rw[d]at d';injection d' with d1 _;have:its=its':=by simpa using congrArg Array.toList d1
 subst this;exact r.inj r'
end
abbrev Cx.wish(X:Cx)(E:VPz):Cx:={ X with xe:=E }
abbrev Cx.nox(X:Cx):Cx:=X.wish λ_ _=>False
theorem Cx.Ok.wish{X:Cx}(ok:X.Ok)(E:VPz):(X.wish E).Ok :=
 ⟨ok.mod,ok.kind,ok.glob,ok.blt,ok.above,ok.inj,ok.has,ok.cab,ok.hd,ok.frames,ok.stk,ok.exf,ok.bs,ok.bsz,ok.noex,ok.exfs,ok.funs,ok.frf⟩
theorem Cx.Ok.unwish{X:Cx}{E:VPz}(ok:(X.wish E).Ok):X.Ok :=
 ⟨ok.mod,ok.kind,ok.glob,ok.blt,ok.above,ok.inj,ok.has,ok.cab,ok.hd,ok.frames,ok.stk,ok.exf,ok.bs,ok.bsz,ok.noex,ok.exfs,ok.funs,ok.frf⟩
section
variable{X:Cx}{pins:PNz}{σ:St}{H:Hp}{s:Shared}{E:VPz}
theorem Inv.wish(I:Inv X pins σ H s)(E:VPz):Inv (X.wish E) pins σ H s:=⟨I.ok.wish E,I.os,I.bare,I.base,I.loc,I.cell,I.free,I.freeC,I.pin,I.hok,I.len⟩
theorem Inv.unwish(I:Inv (X.wish E) pins σ H s):Inv X pins σ H s:=⟨I.ok.unwish,I.os,I.bare,I.base,I.loc,I.cell,I.free,I.freeC,I.pin,I.hok,I.len⟩
theorem SP.unwish{D:CT}{f:Flow}{s':Shared}(h:SP (X.wish E) pins D f s'):SP X pins D f s':=by
 cases f with
 |next=>obtain⟨σ',H',I,q⟩:=h;exact⟨σ',H',I.unwish,q⟩
 |brk=>obtain⟨σ',H',I,q⟩:=h;exact⟨σ',H',I.unwish,q⟩
 |cont=>obtain⟨σ',H',I,q⟩:=h;exact⟨σ',H',I.unwish,q⟩
 |ret u=>obtain⟨v,σ',H',I,r,q⟩:=h;exact⟨v,σ',H',I.unwish,r,q⟩
theorem PSs.nox{st:List Stmt}{t:TS}(h:PSs X.nox st t):PSs X st t:=λ pins s σ H D I hw =>
 wpAny_mono (h pins s σ H D (I.wish _) hw) (λ_ _ q=>q.unwish) λ_ _ z=>False.elim z
end
section
variable{X:Cx}{st:Stmt}{rest:List Stmt}{t u:TS}{e:Expr}{te:TE}{pos:Pos}
def So:TS:=λ D σ H=>D.nx σ H
def Tn(t u:TS):TS:=λ D σ H=>t { D with nx:=u D } σ H
theorem Ay:PSs X [] So:=λ_ _ σ H _ I h=>wpAny_execs_nil ⟨σ,H,I,h⟩
theorem Ae(h1:PS X st t)(h2:PSs X rest u):PSs X (st::rest) (Tn t u):=by
 intro pins s σ H D I h;refine wpAny_execs_cons (thn (h1 pins s σ H { D with nx:=u D } I h) λ f s1 q=>?_);cases f with
 |next =>
  obtain⟨σ',H',I',q⟩:=q;exact h2 pins s1 σ' H' D I' q
 |ret v=>exact q
 |brk=>exact q
 |cont=>exact q
theorem Ag(h1:PS X st t):PSs X [st] t:=by
 intro pins s σ H D I h;refine wpAny_execs_cons (thn (h1 pins s σ H D I h) λ f s1 q=>?_);cases f with
 |next=>exact wpAny_execs_nil q
 |ret v=>exact q
 |brk=>exact q
 |cont=>exact q
theorem Inv.quiet{pins:PNz}{σ:St}{H:Hp}{s:Shared}(I:Inv X pins σ H s):interactive X.env=false:=by simp[interactive,I.ok.kind]
def Ss(te:TE):TS:=λ D σ H=>te σ H λ_ H1=>D.nx σ H1
theorem AU(he:PE X e te)(hs:swapsWith e none pos.line X.env=pure false:=by rfl):PS X (.Expr e pos) (Ss te):=by
 intro pins s σ H D I h;exact wpAny_Expr_any (thn (he pins s σ H _ I h) λ v s1 ⟨x,H1,I1,r1,q1⟩=>⟨σ,H1,I1,q1⟩) I.quiet hs
def Sl(te:TE):TS:=λ D σ H=>te σ H D.rt
theorem As(he:PE X e te):PS X (.Return (some e) pos) (Sl te):=by
 intro pins s σ H D I h;exact wpAny_Return_some (thn (he pins s σ H _ I h) λ v s1 ⟨x,H1,I1,r1,q1⟩=>⟨x,σ,H1,I1,r1,q1⟩)
def Tq(c:TT)(t u:TS):TS:=λ D σ H=>c σ H λ b H1=>if b=true then t D σ H1 else u D σ H1
theorem AB{c:Expr}{a b:List Stmt}{tc:TT}(hc:PT X c tc)(ha:PSs X a t)(hb:PSs X b u):PS X (.If c a b pos) (Tq tc t u):=by
 intro pins s σ H D I h;refine wpAny_If (thn (hc pins s σ H _ I h) λ d s1 hz_=>?_);obtain⟨H1,I1,q1⟩:=hz_;cases d with
 |true=>exact ha pins s1 σ H1 D I1 q1
 |false=>exact hb pins s1 σ H1 D I1 q1
end
abbrev TG:=V->St->Hp->(St->Hp->Prop)->Prop
abbrev TGs:=LUz->St->Hp->(St->Hp->Prop)->Prop
def PG(X:Cx)(target:Expr)(t:TG):Prop :=
 ∀(pins:PNz)(s:Shared)(σ:St)(H:Hp)(v:V)(u:Value)(Q:St->Hp->Prop),Inv X pins σ H s->RelV v u->t v σ H Q ->
  wpAny (model X.prog X.w) X.A (assign target X.env u) (λ_ s'=>∃σ' H',Inv X pins σ' H' s'/\Q σ' H') X.xe s
def PGs(X:Cx)(ts:List Expr)(t:TGs):Prop :=
 ∀(pins:PNz)(s:Shared)(σ:St)(H:Hp)(vs:LUz)(us:LWz)(Q:St->Hp->Prop),Inv X pins σ H s->Vals vs us->t vs σ H Q ->
  wpAny (model X.prog X.w) X.A (assignInOrder ((assignEach ts X.env).map (·.2)) us) (λ_ s'=>∃σ' H',Inv X pins σ' H' s'/\Q σ' H') X.xe s
abbrev Sa:=V->V->V->Hp->(Hp->Prop)->Prop
def Ta(X:Cx)(t:Sa):Prop :=
 ∀(pins:PNz)(s:Shared)(σ:St)(H:Hp)(o i v:V)(ov iv u:Value)(Q:Hp->Prop),Inv X pins σ H s->RelV o ov->RelV i iv->RelV v u->t o i v H Q ->
  wpAny (model X.prog X.w) X.A (setItem ov iv u) (λ_ s'=>∃H',Inv X pins σ H' s'/\Q H') X.xe s
section
variable{X:Cx}{pos:Pos}
def OY(i:Nat):TG:=λ v σ H Q=>Q (σ.set i (some v)) H
theorem Al{i:Nat}{x:Str}(hN:X.N.Nodup)(hi:X.N[i]?=some x)(hx:Loc X.env.scope x)(hf:X.fn x=true\/X.env.scope.names.lookup x=some .local:=by first|exact .inl rfl|exact .inr rfl|assumption):PG X (.Name x pos) (OY i):=by
 intro pins s σ H v u Q I r h;exact wpAny_assign_Name (Ep I hN hi hx r (λ s' I'=>⟨_,H,I',h⟩) hf)
def TX:TGs:=λ vs σ H Q=>vs=[]/\Q σ H
def SQ(t:TG)(u:TGs):TGs:=λ vs σ H Q=>∃v r,vs=v::r/\t v σ H λ σ' H'=>u r σ' H' Q
theorem AM:PGs X [] TX:=by
 intro pins s σ H vs us Q I r h;obtain⟨e,h⟩:=h;subst e;cases r;exact assignInOrder_nil ⟨σ,H,I,h⟩
theorem Am{e:Expr}{es:List Expr}{t:TG}{u:TGs}(h1:PG X e t)(h2:PGs X es u)
  (hs:(assignEach (e::es) X.env).map (·.2)=assign e X.env::(assignEach es X.env).map (·.2):=by rfl):PGs X (e::es) (SQ t u):=by
 intro pins s σ H vs us Q I r h;obtain⟨v,vr,e1,h⟩:=h;subst e1;cases r with
 |cons r rr =>
  rw[hs];refine assignInOrder_cons (thn (h1 pins s σ H _ _ _ I r h) λ_ s1 hz_=>?_);obtain⟨σ1,H1,I1,q1⟩:=hz_;exact h2 pins s1 σ1 H1 _ _ Q I1 rr q1
inductive QZ(K:Frag)(n:Nat)(t:TGs)(v:V)(σ:St)(H:Hp)(Q:St->Hp->Prop):Prop
 |mk (a:Addr) (xs:LUz) (e:v=.ref a) (s:SqT K H a xs) (l:xs.length=n) (q:t xs σ H Q):QZ K n t v σ H Q
def SO(K:Frag)(n:Nat)(t:TGs):TG:=λ v σ H Q=>QZ K n t v σ H Q
theorem Cw{es:List Expr}{k:Nat}{t:TGs}{n:Nat}(hc:X.calm=true)(h:PGs X es t)
  (hn:(assignEach es X.env).length=n:=by rfl) (hst:(assignEach es X.env).findIdx? (·.1)=none:=by rfl):PG X (.Tuple es k pos) (SO X.K n t):=by
 intro pins s σ H v u Q I r hw;obtain⟨a,xs,e1,hq,hl,hw⟩:=hw;subst e1;cases r;obtain⟨its,rv,ht,hz⟩:=I.tuple hq;refine assign_Tuple_tuple (I.ok.hd hc) ht (by simp[hn,<-hl,rv.length]) hst λ h' hx=>?_;have I1:Inv X pins σ H { s with heap:=h' }:=I.kept (t':=s.toks) λ b o e=>hx b o (aJ (aB e)) e;exact h pins _ σ H xs _ Q I1 (by simpa using rv) hw
def TW(to ti:TE)(t:Sa):TG:=λ v σ H Q=>to σ H λ o H1=>ti σ H1 λ i H2=>t o i v H2 λ H3=>Q σ H3
theorem Rz{o i:Expr}{to ti:TE}{t:Sa}(ho:PE X o to)(hi:PE X i ti)(hs:Ta X t)
    (ha:∀v,assign (.Subscript o i pos) X.env v=(do
      let ov <-holding [v] (eval o X.env)
      let iv <-holding [v,ov] (eval i X.env)
      standAt pos
      holding [v,ov,iv] (setItem ov iv v)
      release [v,ov,iv] []):=by intro _;rfl):PG X (.Subscript o i pos) (TW to ti t):=by
  intro pins s σ H v u Q I r h;rw[ha];refine wpAny_bind (wpAny_holding (thn (ho pins s σ H _ I h) λ ov s1 hz_=>?_));obtain⟨x,H1,I1,r1,q1⟩:=hz_;refine wpAny_bind (wpAny_holding (thn (hi pins s1 σ H1 _ I1 q1) λ iv s2 hz_=>?_));obtain⟨y,H2,I2,r2,q2⟩:=hz_;refine wpAny_bind (wpAny_standAt (wpAny_bind (wpAny_holding (thn (hs pins s2 σ H2 x y v ov iv u _ I2 r1 r2 r q2) λ_ s3 hz_=>?_))));obtain⟨H3,I3,q3⟩:=hz_;exact wpAny_release ⟨σ,H3,I3,q3⟩
def PB(te:TE)(g:TG):TS:=λ D σ H=>te σ H λ x H1=>g x σ H1 D.nx
theorem EX{tg e:Expr}{te:TE}{g:TG}(he:PE X e te)(hg:PG X tg g)(hs:swapsWithSole [tg] e pos.line X.env=pure false:=by rfl)(hw:swappedStores [tg] e X.env=pure none:=by rfl)
  (h1:(assignEach [tg] X.env).map (·.2)=[assign tg X.env]:=by rfl):PS X (.Assign [tg] e pos) (PB te g):=by
 intro pins s σ H D I h;refine wpAny_Assign_stores (thn (he pins s σ H _ I h) λ v s1 hz_=>?_) hs hw;obtain⟨x,H1,I1,r1,q1⟩:=hz_;rw[h1];exact thn (hg pins s1 σ H1 x v _ I1 r1 q1) λ_ s2 q=>q
theorem Au{i:Nat}{x:Str}{e:Expr}{te:TE}{pos':Pos}(hN:X.N.Nodup)(hi:X.N[i]?=some x)(hx:Loc X.env.scope x)(he:PE X e te)(hs:swapsWith e (some (.Name x pos')) pos.line X.env=pure false:=by rfl)(hf:X.fn x=true\/X.env.scope.names.lookup x=some .local:=by first|exact .inl rfl|exact .inr rfl|assumption) :
  PS X (.Assign [.Name x pos'] e pos) (PB te (OY i)):=by
 intro pins s σ H D I h;refine wpAny_Assign_Name (thn (he pins s σ H _ I h) λ v s1 hz_=>?_) hs;obtain⟨y,H1,I1,r1,q1⟩:=hz_;exact Ep I1 hN hi hx r1 (λ s2 I2=>⟨_,H1,I2,q1⟩) hf
def Rm(c:TT)(tb:TS):TS:=λ D σ H=>∃W:Nat->St->Hp->Prop,(∃m,W m σ H)/\∀m σ H,W m σ H ->
 c σ H λ b H1=>if b=true then ∃N:St->Hp->Prop,(∀σ' H',N σ' H'->∃m',m'<m/\W m' σ' H')/\tb { D with nx:=N,ct:=N,bk:=D.nx } σ H1 else D.nx σ H1
theorem O4{c:Expr}{body:List Stmt}{tc:TT}{tb:TS}(hp:PassesOwn (model X.prog X.w) X.A X.env X.xe)(hc:PT X c tc)(hb:PSs X body tb):PS X (.While c body [] pos) (Rm tc tb):=by
 intro pins s σ H D I h;obtain⟨W,⟨m0,w0⟩,turn⟩:=h;refine wpAny_While (codeAny_whileLoop (λ n s'=>∃σ' H',Inv X pins σ' H' s'/\W n σ' H') ?_ m0 ⟨σ,H,I,w0⟩);rintro n s1 ⟨σ1,H1,I1,w1⟩;refine wpAny_passesOwn hp (thn (hc pins s1 σ1 H1 _ I1 (turn n σ1 H1 w1)) λ b s2 hz_=>?_);obtain⟨H2,I2,q2⟩:=hz_;cases b with
 |true =>
  obtain⟨N,hN,q2⟩:=q2;rw[if_pos rfl];refine wpAny_passesOwn hp (thn (hb pins s2 σ1 H2 _ I2 q2) λ f s3 q3=>?_);cases f with
  |next =>
   obtain⟨σ3,H3,I3,n3⟩:=q3;obtain⟨m',hm,w3⟩:=hN σ3 H3 n3;exact⟨m',hm,σ3,H3,I3,w3⟩
  |cont =>
   obtain⟨σ3,H3,I3,n3⟩:=q3;obtain⟨m',hm,w3⟩:=hN σ3 H3 n3;exact⟨m',hm,σ3,H3,I3,w3⟩
  |brk=>exact q3
  |ret v=>exact q3
 |false =>
  rw[if_neg au];exact wpAny_execs_nil ⟨σ1,H2,I2,q2⟩
end
structure It where
 go:Nat->Hp->Prop
 yld:Nat->Hp->V->Hp->Prop
 stop:Nat->Hp->Prop
def Ei(X:Cx)(pins:PNz)(H:Hp)(b:Addr):Prop :=
 H b=none/\b≠X.env.locals/\b∉X.fs/\(b∈X.ex\/X.s₀.heap.objs.size<=b)/\(∀x c,X.env.cells.lookup x=some c->c≠b)/\∀p∈X.pn++pins,p.1≠b
theorem Inv.fpOk{X:Cx}{pins:PNz}{σ:St}{H H':Hp}{s:Shared}{b:Addr}(I:Inv X pins σ H s)(hb:s.heap.objs.size<=b)(hn:H' b=none):Ei X pins H' b:=by
 refine⟨hn,dq (aQ I.lt hb),I.nofs hb,.inr (aS I.sz hb),λ x c e z=>?_,λ p hp z=>?_⟩
 .obtain⟨v,q⟩:=I.cell x c e;exact absurd (aQ q.lt (by rw[z];exact hb)) (bS _)
 .exact absurd (aQ (aB (I.pin p hp).1) (by rw[z];exact hb)) (bS _)
structure Mr(P:Program)(w:World)(K:Frag)(tg:Expr)(J:It)(fp:List Addr)(it:Addr)(tn:Nat->Heap->Prop):Prop where
 mem:it∈fp
 obj:∀i h,tn i h->∀b∈fp,∃o,h.get? b=some o/\∀v,o.data≠.cell v
 keep:∀i h h',tn i h->(∀b∈fp,∀o,h.get? b=some o->h'.get? b=some o)->tn i h'
 item:∀(X:Cx),X.prog=P->X.w=w->X.K=K->X.calm=true->∀(i:Nat)(pins:PNz)(s:Shared)(σ:St)(H:Hp)(E:VPz),Inv X pins σ H s->(∀b∈fp,Ei X pins H b)->tn i s.heap->J.go i H ->
  wpAny (model P w) X.A (pyNext (.ref it)) (λ r s1=>∃u,r=some u /\
   wpAny (model P w) X.A (letOwnedTupleGo tg (.ref it) u) (λ_ s2=>∃x H',Inv X pins σ H' s2/\RelV x u/\J.yld i H x H'/\tn (i+1) s2.heap/\∀b∈fp,H' b=none) E s1) E s
 done:∀(X:Cx),X.prog=P->X.w=w->X.K=K->X.calm=true->∀(i:Nat)(pins:PNz)(s:Shared)(σ:St)(H:Hp)(E:VPz),Inv X pins σ H s->(∀b∈fp,Ei X pins H b)->tn i s.heap->J.stop i H ->
  wpAny (model P w) X.A (pyNext (.ref it)) (λ r s1=>r=none/\Inv X pins σ H s1) E s
 self:∀(A:Around)(i:Nat)(s:Shared)(Q:VPz)(E:VPz),tn i s.heap->Q (.ref it) s->wpAny (model P w) A (pyIter (.ref it)) Q E s
abbrev TI:=St->Hp->(It->Hp->Prop)->Prop
def PIE(X:Cx)(pins:PNz)(σ:St)(tg:Expr)(R:It->Hp->Prop)(itv:Value)(s2:Shared):Prop :=
 ∃(it:Addr)(fp:List Addr)(tn:Nat->Heap->Prop)(J:It)(H':Hp),itv=.ref it/\Inv X pins σ H' s2/\Mr X.prog X.w X.K tg J fp it tn/\tn 0 s2.heap/\(∀b∈fp,Ei X pins H' b)/\R J H'
def PI(X:Cx)(tg iter:Expr)(wi:TI):Prop :=
 ∀(pins:PNz)(s:Shared)(σ:St)(H:Hp)(R:It->Hp->Prop),Inv X pins σ H s->wi σ H R ->
  wpAny (model X.prog X.w) X.A (eval iter X.env) (λ v s1=>wpAny (model X.prog X.w) X.A (pyIter v) (PIE X pins σ tg R) X.xe s1) X.xe s
theorem MR{M:Model}{A:Around}{E:VPz}{s:Shared}{tg:Expr}{it:Addr}{u:Value}{o:Obj}{n:String}{vs:Array Value}{Q:Unit->Shared->Prop}(ho:s.heap.get? it=some o)(hc:o.cls=.type n)(hd:o.data=.fields vs)
    (hn:["enumerate","zip","dict_itemiterator","dict_reverseitemiterator","odict_iterator","itertools.zip_longest","itertools.pairwise"].contains n=false) (hQ:Q () s):wpAny M A (letOwnedTupleGo tg (.ref it) u) Q E s:=by
  unfold letOwnedTupleGo;cases tg<;>first
    |exact wpAny_pure hQ
    | (cases u<;>first
        |exact wpAny_pure hQ
        | (refine wpAny_bind (wpAny_load ho ?_)
           rw[hc,hd];show wpAny M A (if (["enumerate","zip","dict_itemiterator","dict_reverseitemiterator","odict_iterator","itertools.zip_longest","itertools.pairwise"].contains n&&vs[0]?==some (rawInt _))=true then _ else _) Q E s;rw[if_neg (by intro h;rw[hn,Bool.false_and]at h;cases h)];exact wpAny_pure hQ))
def Itl(K:Frag)(a:Addr):It :=
 ⟨λ i H=>∃xs x,SqL K H a xs/\xs[i]?=some x,λ i H x H'=>H'=H/\∀xs,SqL K H a xs->xs[i]?=some x,λ i H=>∃xs,SqL K H a xs/\xs.length<=i⟩
def Itt(K:Frag)(a:Addr):It :=
 ⟨λ i H=>∃xs x,SqT K H a xs/\xs[i]?=some x,λ i H x H'=>H'=H/\∀xs,SqT K H a xs->xs[i]?=some x,λ i H=>∃xs,SqT K H a xs/\xs.length<=i⟩
def Itr(lo:Int)(n:Nat):It:=⟨λ i _=>i<n,λ i H x H'=>H'=H/\x=.int (lo+i),λ i _=>n<=i⟩
theorem Nq{P:Program}{w:World}{K:Frag}{tg:Expr}(a it:Addr):Mr P w K tg (Itl K a) [it] it (λ i h=>h.IsListIter it a i) where
 mem:=by simp
 obj:=λ i h st b hb=>by
  have e:b=it:=by simpa using hb
  subst e;obtain⟨o,e,c,d⟩:=st;exact⟨o,e,λ v z=>by rw[d]at z;cases z⟩
 keep:=λ i h h' st k=>st.at λ o e=>k it (by simp) o e
 item:=by
  intro X hP hw hK hc i pins s σ H E I hf st hg;subst hP hw hK;obtain⟨xs,x,hq,hx⟩:=hg;obtain⟨its,rv,p,hz⟩:=I.list hq;obtain⟨u,hu,ru⟩:=rv.get hx;obtain⟨f0,f1,f2,f3,f4,f5⟩:=hf it (by simp);refine wpAny_pyNext_list_item st p.isList (x:=u) (by simpa using hu) λ h' st' sb=>?_;have I1:Inv X pins σ H { s with heap:=h' }:=I.turned (t':=s.toks) (λ b o hb e=>(sb.2 b hb).trans e) f0 f1 f3 f4 f5;obtain⟨o,e,c,d⟩:=id st';exact⟨u,rfl,MR (s:={ s with heap:=h' }) e c d (by decide) ⟨x,H,I1,ru,⟨rfl,λ ys hy=>by rw[I.list_inj hy hq];exact hx⟩,st',λ b hb=>(hf b hb).1⟩⟩
 done:=by
  intro X hP hw hK hc i pins s σ H E I hf st hg;subst hP hw hK;obtain⟨xs,hq,hx⟩:=hg;obtain⟨its,rv,p,hz⟩:=I.list hq;obtain⟨f0,f1,f2,f3,f4,f5⟩:=hf it (by simp);have hl:=rv.length;exact wpAny_pyNext_list_end (I.ok.hd hc) st p.isList (by simp;lia) λ h' eb=>⟨rfl,I.turned (t':=s.toks) (λ b o hb e=>eb b o hb e) f0 f1 f3 f4 f5⟩
 self:=λ_ _ _ _ _ st h=>wpAny_pyIter_listiter st h
theorem Lk{P:Program}{w:World}{K:Frag}{tg:Expr}(a it:Addr):Mr P w K tg (Itt K a) [it] it (λ i h=>h.IsTupleIter it a i) where
 mem:=by simp
 obj:=λ i h st b hb=>by
  have e:b=it:=by simpa using hb
  subst e;obtain⟨o,e,c,d⟩:=st;exact⟨o,e,λ v z=>by rw[d]at z;cases z⟩
 keep:=λ i h h' st k=>st.at λ o e=>k it (by simp) o e
 item:=by
  intro X hP hw hK hc i pins s σ H E I hf st hg;subst hP hw hK;obtain⟨xs,x,hq,hx⟩:=hg;obtain⟨its,rv,p,hz⟩:=I.tuple hq;obtain⟨u,hu,ru⟩:=rv.get hx;obtain⟨f0,f1,f2,f3,f4,f5⟩:=hf it (by simp);refine wpAny_pyNext_tuple_item st (show s.heap.IsTuple a its.toArray from p) (x:=u) (by simpa using hu) λ h' st' sb=>?_;have I1:Inv X pins σ H { s with heap:=h' }:=I.turned (t':=s.toks) (λ b o hb e=>(sb.2 b hb).trans e) f0 f1 f3 f4 f5;obtain⟨o,e,c,d⟩:=id st';exact⟨u,rfl,MR (s:={ s with heap:=h' }) e c d (by decide) ⟨x,H,I1,ru,⟨rfl,λ ys hy=>by rw[I.tuple_inj hy hq];exact hx⟩,st',λ b hb=>(hf b hb).1⟩⟩
 done:=by
  intro X hP hw hK hc i pins s σ H E I hf st hg;subst hP hw hK;obtain⟨xs,hq,hx⟩:=hg;obtain⟨its,rv,p,hz⟩:=I.tuple hq;obtain⟨f0,f1,f2,f3,f4,f5⟩:=hf it (by simp);have hl:=rv.length;exact wpAny_pyNext_tuple_end (I.ok.hd hc) st (show s.heap.IsTuple a its.toArray from p) (by simp;lia) λ h' eb=>⟨rfl,I.turned (t':=s.toks) (λ b o hb e=>eb b o hb e) f0 f1 f3 f4 f5⟩
 self:=λ_ _ _ _ _ st h=>wpAny_pyIter_tupleiter st h
theorem Ll{P:Program}{w:World}{K:Frag}{tg:Expr}(it:Addr)(lo:Int)(n:Nat):Mr P w K tg (Itr lo n) [it] it (λ i h=>IsRangeIter h it (lo+(i:Nat)*1) ((n:Int)-(i:Nat)) 1) where
 mem:=by simp
 obj:=λ i h st b hb=>by
  have e:b=it:=by simpa using hb
  subst e;exact⟨_,st,λ v z=>by
   have z':Data.fields _=Data.cell v:=z;cases z'⟩
 keep:=λ i h h' st k=>k it (by simp) _ st
 item:=by
  intro X hP hw hK hc i pins s σ H E I hf st hg;subst hP hw hK;obtain⟨f0,f1,f2,f3,f4,f5⟩:=hf it (by simp);have W:=Walks.range (prog:=X.prog) (w:=X.w) (I.ok.hd hc) it lo 1 n;refine W.item i s _ _ hg st λ v h' tk hv st' kk=>?_;obtain⟨t,rfl⟩:=hv;have I1:Inv X pins σ H { s with heap:=h',toks:=tk }:=I.turned (λ b o hb e=>kk b o (by simpa using hb) e) f0 f1 f3 f4 f5;refine⟨_,rfl,MR (s:={ s with heap:=h',toks:=tk }) (n:="range_iterator") st' rfl rfl (by decide) ⟨.int (lo+i),H,I1,⟨t,?_⟩,⟨rfl,rfl⟩,st',λ b hb=>(hf b hb).1⟩⟩;rw[Int.mul_one]
 done:=by
  intro X hP hw hK hc i pins s σ H E I hf st hg;subst hP hw hK;obtain⟨f0,f1,f2,f3,f4,f5⟩:=hf it (by simp);exact wpAny_pyNext_range_end (I.ok.hd hc) st (by have:n<=i:=hg;lia) λ h' eb=>⟨rfl,I.turned (t':=s.toks) (λ b o hb e=>eb b o hb e) f0 f1 f3 f4 f5⟩
 self:=λ_ _ _ _ _ st h=>wpAny_pyIter_rangeiter st h
section
variable{X:Cx}{tg:Expr}
inductive Se(x:V)(S Q:Addr->Prop):Prop
 |mk (a:Addr) (e:x=.ref a) (s:S a) (q:Q a):Se x S Q
def SK(K:Frag)(tl:TE):TI:=λ σ H R=>tl σ H λ x H1=>Se x (λ a=>∃xs,SqL K H1 a xs) λ a=>R (Itl K a) H1
def TR(K:Frag)(tl:TE):TI:=λ σ H R=>tl σ H λ x H1=>Se x (λ a=>∃xs,SqT K H1 a xs) λ a=>R (Itt K a) H1
theorem BP{l:Expr}{tl:TE}(hl:PE X l tl):PI X tg l (SK X.K tl):=by
 intro pins s σ H R I h;refine thn (hl pins s σ H _ I h) λ v s1 hz_=>?_;obtain⟨x,H1,I1,r1,q1⟩:=hz_;obtain⟨a,e,⟨xs,hq⟩,q⟩:=q1;subst e;cases r1;obtain⟨its,rv,p,hz⟩:=I1.list hq;refine wpAny_pyIter_list p.isList ?_;refine⟨s1.heap.objs.size,[s1.heap.objs.size],_,_,H1,rfl,I1.kept (t':=s1.toks) λ b o e=>af _ e,Nq a _,⟨_,aH _ rfl,rfl,rfl⟩,λ b hb=>?_,q⟩;have e:b=s1.heap.objs.size:=by simpa using hb
 subst e;exact I1.fpOk (aj _) (I1.hok.fresh (aj _))
theorem L4{l:Expr}{tl:TE}(hl:PE X l tl):PI X tg l (TR X.K tl):=by
 intro pins s σ H R I h;refine thn (hl pins s σ H _ I h) λ v s1 hz_=>?_;obtain⟨x,H1,I1,r1,q1⟩:=hz_;obtain⟨a,e,⟨xs,hq⟩,q⟩:=q1;subst e;cases r1;obtain⟨its,rv,p,hz⟩:=I1.tuple hq;refine wpAny_pyIter_tuple (show s1.heap.IsTuple a its.toArray from p) ?_;refine⟨s1.heap.objs.size,[s1.heap.objs.size],_,_,H1,rfl,I1.kept (t':=s1.toks) λ b o e=>af _ e,Lk a _,⟨_,aH _ rfl,rfl,rfl⟩,λ b hb=>?_,q⟩;have e:b=s1.heap.objs.size:=by simpa using hb
 subst e;exact I1.fpOk (aj _) (I1.hok.fresh (aj _))
theorem O0{pins:PNz}{σ:St}{H:Hp}{s:Shared}{R:It->Hp->Prop}{E:VPz}{lo hi:Int}{t u v:Tok}{tk:Nat}(I:Inv X pins σ H s)(h1:-(2^62)<=lo)(h2:lo<2^62)(h3:-(2^62)<=hi)(h4:hi<2^62)
  (q:R (Itr lo (hi-lo).toNat) H):wpAny (model X.prog X.w) X.A (pyIter (.ref s.heap.objs.size)) (PIE X pins σ tg R) E { s with heap:=s.heap.push { cls:=.type "range",data:=.fields #[.int lo t,.int hi u,.int 1 v] },toks:=tk }:=by
 refine wpAny_pyIter_range (IsRange.new ..) (small_one h1 h2 h3 h4) ?_;have I1:Inv X pins σ H { s with heap:=s.heap.push { cls:=.type "range",data:=.fields #[.int lo t,.int hi u,.int 1 v] },toks:=tk }:=I.kept λ b o e=>af _ e;refine⟨(s.heap.push { cls:=.type "range",data:=.fields #[.int lo t,.int hi u,.int 1 v] }).objs.size,[(s.heap.push { cls:=.type "range",data:=.fields #[.int lo t,.int hi u,.int 1 v] }).objs.size],_,_,H,rfl,
  I1.kept (t':=tk) λ b o e=>af _ e,Ll _ lo (hi-lo).toNat,?_,λ b hb=>?_,q⟩
 .have e1:lo+((0:Nat):Int)*1=lo:=by simp
  have e2:(((hi-lo).toNat:Nat):Int)-((0:Nat):Int)=Builtin.Range.rangeSize lo hi 1:=by rw[rangeSize_one];split<;>lia
  show IsRangeIter _ _ (lo+((0:Nat):Int)*1) ((((hi-lo).toNat:Nat):Int)-((0:Nat):Int)) 1;rw[e1,e2];exact aH _ rfl
 .have e:b=(s.heap.push { cls:=.type "range",data:=.fields #[.int lo t,.int hi u,.int 1 v] }).objs.size:=by simpa using hb
  subst e;exact I1.fpOk (aj _) (I1.hok.fresh (aj _))
inductive Ra(vs:LUz)(R:Int->Prop):Prop
 |mk (j:Int) (e:vs=[.int j]) (l:-(2^62)<=j) (h:j<2^62) (q:R j):Ra vs R
def SJ(ta:TA):TI:=λ σ H R=>ta σ H λ vs H1=>Ra vs λ j=>R (Itr 0 j.toNat) H1
theorem C4{a:Expr}{ta:TA}{p pos:Pos}(hg:Gl X "range")(hm:X.mg "range"=none)(ha:PA X [a] ta)(hs:starEach [a] X.env=[(false,eval a X.env)]:=by rfl):PI X tg (.Call (.Name "range" p) [a] [] pos) (SJ ta):=by
 intro pins s σ H R I h;refine Call_ (Fe I hg hm boot_range (PyProof.Rows.callWith_type1 (thn (ha pos pins s σ H _ I h) λ us s1 hz_=>?_) hs rfl));obtain⟨vs,H1,I1,r1,q1⟩:=hz_;obtain⟨j,e,q1,q2,q⟩:=q1;subst e;cases r1 with
 |cons r rr =>
  cases rr;obtain⟨t,rfl⟩:=r;exact call_range_1 (O0 I1 (by lia) (by lia) q1 q2 (by simpa using q))
def Tt(wi:TI)(g:TG)(tb:TS):TS:=λ D σ H=>wi σ H λ J H1=>∃W:Nat->Nat->St->Hp->Prop,(∃m,W 0 m σ H1)/\∀i m σ H,W i m σ H ->
 (J.stop i H/\D.nx σ H)\/(J.go i H/\∃N:St->Hp->Prop,(∀σ' H',N σ' H'->∃m',m'<m/\W (i+1) m' σ' H')/\∀x H',J.yld i H x H'->g x σ H' λ σ2 H2=>tb { D with nx:=N,ct:=N,bk:=D.nx } σ2 H2)
def Jd(fp:List Addr)(h:Heap):PNz:=fp.filterMap λ b=>(h.get? b).map λ o=>(b,o)
theorem AS{fp:List Addr}{h:Heap}{b:Addr}{o:Obj}(hb:b∈fp)(e:h.get? b=some o):(b,o)∈Jd fp h:=cw.mpr ⟨b,hb,by rw[e];rfl⟩
theorem N5{fp:List Addr}{h:Heap}{p:Addr×Obj}(hp:p∈Jd fp h):p.1∈fp/\h.get? p.1=some p.2:=by
 obtain⟨b,hb,e⟩:=cw.mp hp;cases q:h.get? b with
 |none=>rw[q]at e;cases e
 |some o =>
  rw[q]at e;have e':(b,o)=p:=Option.some.inj e;subst e';exact⟨hb,q⟩
theorem Inv.pinned{pins:PNz}{σ:St}{H:Hp}{s:Shared}{fp:List Addr}(I:Inv X pins σ H s)(hf:∀b∈fp,Ei X pins H b)(ho:∀b∈fp,∃o,s.heap.get? b=some o/\∀v,o.data≠.cell v):Inv X (pins++Jd fp s.heap) σ H s :=
 I.pins_of λ p hp=>(aw.mp hp).elim (λ z=>I.pin p (az _ z)) λ z=>by
  obtain⟨hb,e⟩:=N5 z;obtain⟨f0,f1,f2,_⟩:=hf p.1 hb;obtain⟨o,e',d⟩:=ho p.1 hb;rw[e]at e';cases e';exact⟨e,f0,f1,f2,d⟩
theorem Inv.unpinned{pins pl:PNz}{σ:St}{H:Hp}{s:Shared}(I:Inv X (pins++pl) σ H s):Inv X pins σ H s:=I.pins_of λ p hp=>I.pin p (az _ (bG _ hp))
theorem Cc{iter:Expr}{body:List Stmt}{wi:TI}{g:TG}{tb:TS}{pos:Pos}(hp:PassesOwn (model X.prog X.w) X.A X.env X.xe)(hc:X.calm=true)(hi:PI X tg iter wi)(hg:PG X tg g)(hb:PSs X body tb)
  (hs:∀x,foldedSetIterable iter X.env x=pure x:=by intro _;rfl):PS X (.For tg iter body [] pos) (Tt wi g tb):=by
 intro pins s σ H D I h;refine wpAny_For (thn (hi pins s σ H _ I h) λ v s1 h1=>thn h1 λ itv s2 h2=>?_) hs;obtain⟨it,fp,tn,J,H2,e,I2,T,st2,f2,W,⟨m0,w0⟩,turn⟩:=h2;subst e;have stat:∀{H':Hp},(∀b∈fp,H' b=none)->∀b∈fp,Ei X pins H' b:=λ hn b hb=>⟨hn b hb,(f2 b hb).2⟩;refine codeAny_forLoop_any (λ n s'=>∃i σ' H',Inv X pins σ' H' s'/\tn i s'.heap/\(∀b∈fp,H' b=none)/\W i n σ' H') ?_ m0 ⟨0,σ,H2,I2,st2,λ b hb=>(f2 b hb).1,w0⟩;rintro n s3 ⟨i,σ3,H3,I3,st3,fr3,w3⟩;rcases turn i n σ3 H3 w3 with ⟨stop,qn⟩|⟨go,N,hN,step⟩
 .refine wpAny_passesOwn hp (thn (T.done X rfl rfl rfl hc i pins s3 σ3 H3 X.xe I3 (stat fr3) st3 stop) λ r s4 hz_=>?_);obtain⟨hr,I4⟩:=hz_;subst hr;exact wpAny_execs_nil ⟨σ3,H3,I4,qn⟩
 .refine wpAny_passesOwn hp (thn (T.item X rfl rfl rfl hc i pins s3 σ3 H3 X.xe I3 (stat fr3) st3 go) λ r s4 hz_=>?_);obtain⟨u,hr,h4⟩:=hz_;subst hr;refine wpAny_passesOwn hp (thn h4 λ_ s5 hz_=>?_);obtain⟨x,H5,I5,r5,y5,st5,fr5⟩:=hz_;have I5':=I5.pinned (stat fr5) (T.obj _ _ st5);refine wpAny_passesOwn hp (thn (hg _ s5 σ3 H5 x u _ I5' r5 (step x H5 y5)) λ_ s6 hz_=>?_);obtain⟨σ6,H6,I6,q6⟩:=hz_;refine wpAny_passesOwn hp (thn (hb _ s6 σ6 H6 _ I6 q6) λ f s7 q7=>?_);have again:∀{σ7:St}{H7:Hp},Inv X (pins++Jd fp s5.heap) σ7 H7 s7->N σ7 H7->∃m,m<n/\∃i σ' H',Inv X pins σ' H' s7/\tn i s7.heap/\(∀b∈fp,H' b=none)/\W i m σ' H':=λ{σ7 H7} I7 n7=>by
   obtain⟨m',hm,w7⟩:=hN σ7 H7 n7;refine⟨m',hm,i+1,σ7,H7,I7.unpinned,T.keep _ _ _ st5 λ b hb o e=>(I7.pin (b,o) (az _ (az _ (AS hb e)))).1,λ b hb=>?_,w7⟩;obtain⟨o,e,d⟩:=T.obj _ _ st5 b hb;exact(I7.pin (b,o) (az _ (az _ (AS hb e)))).2.1
  cases f with
  |next=>obtain⟨σ7,H7,I7,n7⟩:=q7;exact again I7 n7
  |cont=>obtain⟨σ7,H7,I7,n7⟩:=q7;exact again I7 n7
  |brk=>obtain⟨σ7,H7,I7,q7⟩:=q7;exact⟨σ7,H7,I7.unpinned,q7⟩
  |ret v=>obtain⟨x7,σ7,H7,I7,r7,q7⟩:=q7;exact⟨x7,σ7,H7,I7.unpinned,r7,q7⟩
end
theorem Pb{K:Frag}{a:Addr}{xs:LUz}{g:TG}{tb:TS}{D:CT}{σ:St}{H:Hp}(Pv:Nat->St->Hp->Prop)(h0:Pv 0 σ H)(hl:∀i σ H,i<=xs.length->Pv i σ H->SqL K H a xs)
  (hs:∀i x σ H,xs[i]?=some x->Pv i σ H->g x σ H λ σ2 H2=>tb { D with nx:=Pv (i+1),ct:=Pv (i+1),bk:=D.nx } σ2 H2) (hd:∀σ H,Pv xs.length σ H->D.nx σ H) :
  ∃W:Nat->Nat->St->Hp->Prop,(∃m,W 0 m σ H)/\∀i m σ H,W i m σ H ->
   ((Itl K a).stop i H/\D.nx σ H)\/((Itl K a).go i H/\∃N:St->Hp->Prop,(∀σ' H',N σ' H'->∃m',m'<m/\W (i+1) m' σ' H')/\∀x H',(Itl K a).yld i H x H'->g x σ H' λ σ2 H2=>tb { D with nx:=N,ct:=N,bk:=D.nx } σ2 H2):=by
 refine⟨λ i m σ H=>m=xs.length-i/\i<=xs.length/\Pv i σ H,⟨xs.length,by simp,aZ _,h0⟩,?_⟩;rintro i m σ H ⟨rfl,hi,p⟩;have q:=hl i σ H hi p;by_cases hlt:i<xs.length
 .refine .inr ⟨⟨xs,xs[i],q,by simp[hlt]⟩,Pv (i+1),λ σ' H' p'=>⟨xs.length-(i+1),by lia,rfl,hlt,p'⟩,λ x H' y=>?_⟩;obtain⟨e,y⟩:=y;subst e;exact hs i x σ _ (y xs q) p
 .have e:i=xs.length:=by lia
  subst e;exact .inl ⟨⟨xs,q,aj _⟩,hd σ H p⟩
theorem Jy{K:Frag}{a:Addr}{xs:LUz}{g:TG}{tb:TS}{D:CT}{σ:St}{H:Hp}(Pv:Nat->St->Hp->Prop)(h0:Pv 0 σ H)(hl:∀i σ H,i<=xs.length->Pv i σ H->SqT K H a xs)
  (hs:∀i x σ H,xs[i]?=some x->Pv i σ H->g x σ H λ σ2 H2=>tb { D with nx:=Pv (i+1),ct:=Pv (i+1),bk:=D.nx } σ2 H2) (hd:∀σ H,Pv xs.length σ H->D.nx σ H) :
  ∃W:Nat->Nat->St->Hp->Prop,(∃m,W 0 m σ H)/\∀i m σ H,W i m σ H ->
   ((Itt K a).stop i H/\D.nx σ H)\/((Itt K a).go i H/\∃N:St->Hp->Prop,(∀σ' H',N σ' H'->∃m',m'<m/\W (i+1) m' σ' H')/\∀x H',(Itt K a).yld i H x H'->g x σ H' λ σ2 H2=>tb { D with nx:=N,ct:=N,bk:=D.nx } σ2 H2):=by
 refine⟨λ i m σ H=>m=xs.length-i/\i<=xs.length/\Pv i σ H,⟨xs.length,by simp,aZ _,h0⟩,?_⟩;rintro i m σ H ⟨rfl,hi,p⟩;have q:=hl i σ H hi p;by_cases hlt:i<xs.length
 .refine .inr ⟨⟨xs,xs[i],q,by simp[hlt]⟩,Pv (i+1),λ σ' H' p'=>⟨xs.length-(i+1),by lia,rfl,hlt,p'⟩,λ x H' y=>?_⟩;obtain⟨e,y⟩:=y;subst e;exact hs i x σ _ (y xs q) p
 .have e:i=xs.length:=by lia
  subst e;exact .inl ⟨⟨xs,q,aj _⟩,hd σ H p⟩
theorem DA{lo:Int}{n:Nat}{g:TG}{tb:TS}{D:CT}{σ:St}{H:Hp}(Pv:Nat->St->Hp->Prop)(h0:Pv 0 σ H)
  (hs:∀i σ H,i<n->Pv i σ H->g (.int (lo+i)) σ H λ σ2 H2=>tb { D with nx:=Pv (i+1),ct:=Pv (i+1),bk:=D.nx } σ2 H2) (hd:∀σ H,Pv n σ H->D.nx σ H) :
  ∃W:Nat->Nat->St->Hp->Prop,(∃m,W 0 m σ H)/\∀i m σ H,W i m σ H ->
   ((Itr lo n).stop i H/\D.nx σ H)\/((Itr lo n).go i H/\∃N:St->Hp->Prop,(∀σ' H',N σ' H'->∃m',m'<m/\W (i+1) m' σ' H')/\∀x H',(Itr lo n).yld i H x H'->g x σ H' λ σ2 H2=>tb { D with nx:=N,ct:=N,bk:=D.nx } σ2 H2):=by
 refine⟨λ i m σ H=>m=n-i/\i<=n/\Pv i σ H,⟨n,by simp,aZ _,h0⟩,?_⟩;rintro i m σ H ⟨rfl,hi,p⟩;by_cases hlt:i<n
 .refine .inr ⟨hlt,Pv (i+1),λ σ' H' p'=>⟨n-(i+1),by lia,rfl,hlt,p'⟩,λ x H' y=>?_⟩;obtain⟨e,y⟩:=y;subst e y;exact hs i σ _ hlt p
 .have e:i=n:=by lia
  subst e;exact .inl ⟨aj _,hd σ H p⟩
abbrev R2:=V->V->Hp->VK->Prop
def OpR(X:Cx)(f:Value->Value->Sem Value)(r:R2):Prop :=
 ∀(pins:PNz)(s:Shared)(σ:St)(H:Hp)(x y:V)(v u:Value)(Q:VK),Inv X pins σ H s->RelV x v->RelV y u->r x y H Q ->
  wpAny (model X.prog X.w) X.A (f v u) (EP X pins σ Q) X.xe s
def UnR(X:Cx)(f:Value->Sem Value)(r:V->Hp->VK->Prop):Prop :=
 ∀(pins:PNz)(s:Shared)(σ:St)(H:Hp)(x:V)(v:Value)(Q:VK),Inv X pins σ H s->RelV x v->r x H Q ->
  wpAny (model X.prog X.w) X.A (f v) (EP X pins σ Q) X.xe s
def CV(X:Cx)(f:Value)(r:LUz->Hp->VK->Prop):Prop :=
 ∀(pins:PNz)(s:Shared)(σ:St)(H:Hp)(xs:LUz)(us:LWz)(Q:VK),Inv X pins σ H s->Vals xs us->r xs H Q ->
  wpAny (model X.prog X.w) X.A (call f us) (EP X pins σ Q) X.xe s
def Ud(X:Cx)(r:V->Hp->(Bool->Hp->Prop)->Prop):Prop :=
 ∀(pins:PNz)(s:Shared)(σ:St)(H:Hp)(x:V)(v:Value)(Q:Bool->Hp->Prop),Inv X pins σ H s->RelV x v->r x H Q ->
  wpAny (model X.prog X.w) X.A (truthy v) (TP X pins σ Q) X.xe s
def tOp(r:R2)(ta tb:TE):TE:=λ σ H Q=>ta σ H λ x H1=>tb σ H1 λ y H2=>r x y H2 Q
def tUn(r:V->Hp->VK->Prop)(ta:TE):TE:=λ σ H Q=>ta σ H λ x H1=>r x H1 Q
inductive II1(C:Int->Int->Prop)(g:Int->Int->V)(x y:V)(H:Hp)(Q:VK):Prop
 |mk (i j:Int) (e1:x=.int i) (e2:y=.int j) (c:C i j) (q:Q (g i j) H):II1 C g x y H Q
inductive II0(g:Int->Int->V)(x y:V)(H:Hp)(Q:VK):Prop
 |mk (i j:Int) (e1:x=.int i) (e2:y=.int j) (q:Q (g i j) H):II0 g x y H Q
inductive IU(g:Int->V)(x:V)(H:Hp)(Q:VK):Prop
 |mk (i:Int) (e:x=.int i) (q:Q (g i) H):IU g x H Q
def rI(C:Int->Int->Prop)(g:Int->Int->V):R2:=λ x y H Q=>II1 C g x y H Q
def rI0(g:Int->Int->V):R2:=λ x y H Q=>II0 g x y H Q
def rU(g:Int->V):V->Hp->VK->Prop:=λ x H Q=>IU g x H Q
section
variable{X:Cx}{a b c:Expr}{ta tb tc:TE}{pos:Pos}
theorem RV(ha:PE X a ta)(hb:PE X b tb){pins:PNz}{s:Shared}{σ:St}{H:Hp}{R:V->V->Hp->Prop}(I:Inv X pins σ H s)
  (h:ta σ H λ x H1=>tb σ H1 λ y H2=>R x y H2) {Q:VPz} {f:Value->Value->Sem Value}
  (hf:∀v u s2 x y H2,Inv X pins σ H2 s2->RelV x v->RelV y u->R x y H2->wpAny (model X.prog X.w) X.A (f v u) Q X.xe s2) :
  wpAny (model X.prog X.w) X.A (eval a X.env) (λ v s₁=>wpAny (model X.prog X.w) X.A (eval b X.env) (λ u s₂=>wpAny (model X.prog X.w) X.A (f v u) Q X.xe s₂) X.xe s₁) X.xe s:=by
 refine thn (ha pins s σ H _ I h) λ v s1 hz_=>?_;obtain⟨x,H1,I1,r1,q1⟩:=hz_;refine thn (hb pins s1 σ H1 _ I1 q1) λ u s2 hz_=>?_;obtain⟨y,H2,I2,r2,q2⟩:=hz_;exact hf v u s2 x y H2 I2 r1 r2 q2
theorem Aw{op:Operator}{r:R2}(ho:OpR X (binaryOp op) r)(ha:PE X a ta)(hb:PE X b tb):PE X (.BinOp a op b pos) (tOp r ta tb):=by
 intro pins s σ H Q I h;exact wpAny_BinOp (RV ha hb I h λ v u s2 x y H2 I2 rx ry q=>ho pins s2 σ H2 x y v u Q I2 rx ry q)
theorem QP{op:UnaryOp}{r:V->Hp->VK->Prop}(ho:UnR X (unaryOp op) r)(ha:PE X a ta):PE X (.UnaryOp op a pos) (tUn r ta):=by
 intro pins s σ H Q I h;exact UnaryOp_ (thn (ha pins s σ H _ I h) λ v s1 ⟨x,H1,I1,r1,q1⟩=>ho pins s1 σ H1 x v Q I1 r1 q1)
theorem opI{f:Value->Value->Sem Value}{C:Int->Int->Prop}{g:Int->Int->Int}
  (rule:∀(i j:Int)(t u:Tok)(s:Shared)(Q:VPz)(E:VPz),C i j->Q (.int (g i j) s.toks) { s with toks:=s.toks+1 }->wpAny (model X.prog X.w) X.A (f (.int i t) (.int j u)) Q E s) :
  OpR X f (rI C λ i j=>.int (g i j)):=by
 intro pins s σ H x y v u Q I rx ry h;obtain⟨i,j,rfl,rfl,hc,q⟩:=h;obtain⟨t,rfl⟩:=rx;obtain⟨t',rfl⟩:=ry;exact rule i j t t' s _ _ hc ⟨.int (g i j),H,I.tok _,⟨_,rfl⟩,q⟩
theorem SE{f:Value->Value->Sem Value}{g:Int->Int->Int}
  (rule:∀(i j:Int)(t u:Tok)(s:Shared)(Q:VPz)(E:VPz),Q (.int (g i j) s.toks) { s with toks:=s.toks+1 }->wpAny (model X.prog X.w) X.A (f (.int i t) (.int j u)) Q E s) :
  OpR X f (rI0 λ i j=>.int (g i j)):=by
 intro pins s σ H x y v u Q I rx ry h;obtain⟨i,j,rfl,rfl,q⟩:=h;obtain⟨t,rfl⟩:=rx;obtain⟨t',rfl⟩:=ry;exact rule i j t t' s _ _ ⟨.int (g i j),H,I.tok _,⟨_,rfl⟩,q⟩
theorem Qi{f:Value->Value->Sem Value}{g:Int->Int->Bool}
  (rule:∀(i j:Int)(t u:Tok)(s:Shared)(Q:VPz)(E:VPz),Q (.bool (g i j)) s->wpAny (model X.prog X.w) X.A (f (.int i t) (.int j u)) Q E s) :
  OpR X f (rI0 λ i j=>.bl (g i j)):=by
 intro pins s σ H x y v u Q I rx ry h;obtain⟨i,j,rfl,rfl,q⟩:=h;obtain⟨t,rfl⟩:=rx;obtain⟨t',rfl⟩:=ry;exact rule i j t t' s _ _ ⟨.bl (g i j),H,I,rfl,q⟩
def Uk(i j:Int):Prop:=0<=j/\j<=1000000/\i.natAbs<2^64
theorem AI:OpR X (binaryOp .Add) (rI0 λ i j=>.int (i+j)):=SE λ_ _ _ _ _ _ _ q=>add_int q
theorem B1:OpR X (binaryOp .Sub) (rI0 λ i j=>.int (i-j)):=SE λ_ _ _ _ _ _ _ q=>sub_int q
theorem Cd:OpR X (binaryOp .Mod) (rI (λ_ j=>0<j) λ i j=>.int (i % j)):=opI λ i j _ _ _ _ _ hc q=>by
 have h1:(0:Int)<j:=hc;exact mod_int' (by lia) (by rw[Int.fmod_eq_emod_of_nonneg i (by lia)];exact q)
theorem R9:OpR X (binaryOp .Pow) (rI Uk λ i j=>.int (i^j.toNat)):=opI λ_ _ _ _ _ _ _ hc q=>pow_int_small hc.1 hc.2.1 hc.2.2 q
theorem unI{f:Value->Sem Value}{g:Int->Int}
  (rule:∀(i:Int)(t:Tok)(s:Shared)(Q:VPz)(E:VPz),Q (.int (g i) s.toks) { s with toks:=s.toks+1 }->wpAny (model X.prog X.w) X.A (f (.int i t)) Q E s) :
  UnR X f (rU λ i=>.int (g i)):=by
 intro pins s σ H x v Q I rx h;obtain⟨i,rfl,q⟩:=h;obtain⟨t,rfl⟩:=rx;exact rule i t s _ _ ⟨.int (g i),H,I.tok _,⟨_,rfl⟩,q⟩
theorem Oh:UnR X (unaryOp .USub) (rU λ i=>.int (-i)):=unI λ_ _ _ _ _ q=>neg_int q
end
def Sw:V->V->Bool
 |.non,.non=>true|.non,.int _=>true|.int _,.non=>true|.non,.bl _=>true|.bl _,.non=>true|.non,.str _=>true|.str _,.non=>true
 |.int _,.int _=>true|.bl _,.bl _=>true|.str _,.str _=>true|.byt _,.byt _=>true
 |.int _,.str _=>true|.str _,.int _=>true|.bl _,.str _=>true|.str _,.bl _=>true
 |_,_=>false
def rEq:R2:=λ x y H Q=>Sw x y=true/\Q (.bl (decide (x=y))) H
def rNe:R2:=λ x y H Q=>Sw x y=true/\Q (.bl (!decide (x=y))) H
theorem MX{i j:Int}:decide (V.int i=V.int j)=(i==j):=by
 rw[cP];simp
theorem Po{i j:Bool}:decide (V.bl i=V.bl j)=(i==j):=by
 rw[cP];simp
theorem MW{i j:Str}:decide (V.str i=V.str j)=(i==j):=by
 rw[cP];simp
theorem MY{i j:Array UInt8}:decide (V.byt i=V.byt j)=(i.toList==j.toList):=by
 rw[cP];cases i;cases j;simp
section
variable{X:Cx}{a b c:Expr}{ta tb tc:TE}{pos:Pos}
theorem A9{pins:PNz}{σ:St}{H:Hp}{s:Shared}{Q:VK}{k k':Bool}(I:Inv X pins σ H s)(q:Q (.bl k) H)(e:k=k'):EP X pins σ Q (.bool k') s:=by
 subst e;exact⟨.bl k,H,I,rfl,q⟩
theorem Dp:OpR X (compareOp .Eq) rEq:=by
 intro pins s σ H x y v u Q I rx ry h;obtain⟨hs,q⟩:=h;cases x with
 |non =>
  cases rx;cases y with
  |non=>cases ry;exact PySem.EqNone.eq_none_none (A9 I q (by simp))
  |bl j=>cases ry;exact PySem.EqNone.eq_none_bool (A9 I q (by simp))
  |int j=>obtain⟨t',rfl⟩:=ry;exact PySem.EqNone.eq_none_int (A9 I q (by simp))
  |str j=>obtain⟨t',rfl⟩:=ry;exact PySem.EqNone.eq_none_str (A9 I q (by simp))
  |_=>exact absurd (show false=true from hs) au
 |bl i =>
  cases rx;cases y with
  |non=>cases ry;exact PySem.EqNone.eq_bool_none (A9 I q (by simp))
  |bl j=>cases ry;exact eq_bool (A9 I q Po)
  |str j=>obtain⟨t',rfl⟩:=ry;exact PySem.EqMixed.eq_bool_str (A9 I q (by simp))
  |_=>exact absurd (show false=true from hs) au
 |int i =>
  obtain⟨t,rfl⟩:=rx;cases y with
  |non=>cases ry;exact PySem.EqNone.eq_int_none (A9 I q (by simp))
  |int j=>obtain⟨t',rfl⟩:=ry;exact eq_int (A9 I q MX)
  |str j=>obtain⟨t',rfl⟩:=ry;exact PySem.EqMixed.eq_int_str (A9 I q (by simp))
  |_=>exact absurd (show false=true from hs) au
 |str i =>
  obtain⟨t,rfl⟩:=rx;cases y with
  |non=>cases ry;exact PySem.EqNone.eq_str_none (A9 I q (by simp))
  |bl j=>cases ry;exact PySem.EqMixed.eq_str_bool (A9 I q (by simp))
  |int j=>obtain⟨t',rfl⟩:=ry;exact PySem.EqMixed.eq_str_int (A9 I q (by simp))
  |str j=>obtain⟨t',rfl⟩:=ry;exact eq_str (A9 I q MW)
  |_=>exact absurd (show false=true from hs) au
 |byt i =>
  obtain⟨t,rfl⟩:=rx;cases y with
  |byt j=>obtain⟨t',rfl⟩:=ry;exact eq_bytes (A9 I q MY)
  |_=>exact absurd (show false=true from hs) au
 |_=>cases y<;>exact absurd (show false=true from hs) au
theorem ME:OpR X (compareOp .NotEq) rNe:=by
 intro pins s σ H x y v u Q I rx ry h;obtain⟨hs,q⟩:=h;cases x with
 |non =>
  cases rx;cases y with
  |non=>cases ry;exact PySem.EqNone.ne_none_none (A9 I q (by simp))
  |bl j=>cases ry;exact PySem.EqNone.ne_none_bool (A9 I q (by simp))
  |int j=>obtain⟨t',rfl⟩:=ry;exact PySem.EqNone.ne_none_int (A9 I q (by simp))
  |str j=>obtain⟨t',rfl⟩:=ry;exact PySem.EqNone.ne_none_str (A9 I q (by simp))
  |_=>exact absurd (show false=true from hs) au
 |bl i =>
  cases rx;cases y with
  |non=>cases ry;exact PySem.EqNone.ne_bool_none (A9 I q (by simp))
  |bl j=>cases ry;exact ne_bool (A9 I q (congrArg not Po))
  |str j=>obtain⟨t',rfl⟩:=ry;exact PySem.EqMixed.ne_bool_str (A9 I q (by simp))
  |_=>exact absurd (show false=true from hs) au
 |int i =>
  obtain⟨t,rfl⟩:=rx;cases y with
  |non=>cases ry;exact PySem.EqNone.ne_int_none (A9 I q (by simp))
  |int j=>obtain⟨t',rfl⟩:=ry;exact ne_int (A9 I q (congrArg not MX))
  |str j=>obtain⟨t',rfl⟩:=ry;exact PySem.EqMixed.ne_int_str (A9 I q (by simp))
  |_=>exact absurd (show false=true from hs) au
 |str i =>
  obtain⟨t,rfl⟩:=rx;cases y with
  |non=>cases ry;exact PySem.EqNone.ne_str_none (A9 I q (by simp))
  |bl j=>cases ry;exact PySem.EqMixed.ne_str_bool (A9 I q (by simp))
  |int j=>obtain⟨t',rfl⟩:=ry;exact PySem.EqMixed.ne_str_int (A9 I q (by simp))
  |str j=>obtain⟨t',rfl⟩:=ry;exact ne_str (A9 I q (congrArg not MW))
  |_=>exact absurd (show false=true from hs) au
 |byt i =>
  obtain⟨t,rfl⟩:=rx;cases y with
  |byt j=>obtain⟨t',rfl⟩:=ry;exact ne_bytes (A9 I q (congrArg not MY))
  |_=>exact absurd (show false=true from hs) au
 |_=>cases y<;>exact absurd (show false=true from hs) au
theorem Kg:OpR X (compareOp .Lt) (rI0 λ i j=>.bl (decide (i<j))):=Qi λ_ _ _ _ _ _ _ q=>lt_int q
theorem Fq:OpR X (compareOp .LtE) (rI0 λ i j=>.bl (decide (i<=j))):=Qi λ_ _ _ _ _ _ _ q=>le_int q
theorem HW:OpR X (compareOp .Gt) (rI0 λ i j=>.bl (decide (j<i))):=Qi λ_ _ _ _ _ _ _ q=>gt_int q
theorem MF:OpR X (compareOp .GtE) (rI0 λ i j=>.bl (decide (j<=i))):=Qi λ_ _ _ _ _ _ _ q=>ge_int q
theorem Ea:OpR X (compareOp .Is) (λ x y H Q=>y=.non/\Q (.bl (decide (x=.non))) H):=by
 intro pins s σ H x y v u Q I rx ry h;obtain⟨rfl,q⟩:=h;cases ry;refine is_none_gen (A9 I q ?_);cases x<;>first
  | (cases rx;rfl)
  | (obtain⟨t,rfl⟩:=rx;rfl)
theorem EA:OpR X (compareOp .IsNot) (λ x y H Q=>y=.non/\Q (.bl (!decide (x=.non))) H):=by
 intro pins s σ H x y v u Q I rx ry h;obtain⟨rfl,q⟩:=h;cases ry;refine isnot_none_gen (A9 I q ?_);cases x<;>first
  | (cases rx;rfl)
  | (obtain⟨t,rfl⟩:=rx;rfl)
theorem Av(b:Expr){op:CmpOp}(h:op≠.In:=by decide)(h2:op≠.NotIn:=by decide):behindInMarks op b=false:=by
 have e1:(op==CmpOp.In)=false:=by cases op<;>first|rfl|exact absurd rfl h
 have e2:(op==CmpOp.NotIn)=false:=by cases op<;>first|rfl|exact absurd rfl h2
 cases b<;>simp[behindInMarks,e1,e2]
theorem Jh{op:CmpOp}{r:R2}(ho:OpR X (compareOp op) r)(ha:PE X a ta)(hb:PE X b tb)(hm:behindInMarks op b=false):PE X (.Compare a [op] [b] pos) (tOp r ta tb):=by
 intro pins s σ H Q I h;exact wpAny_Compare1 (RV ha hb I h λ v u s2 x y H2 I2 rx ry q=>ho pins s2 σ H2 x y v u Q I2 rx ry q) hm
def QK(t:TE):TT:=λ σ H Q=>t σ H λ x H'=>IBl x λ k=>Q k H'
theorem Aq{op:CmpOp}{r:R2}(ho:OpR X (compareOp op) r)(ha:PE X a ta)(hb:PE X b tb)(hm:behindInMarks op b=false):PT X (.Compare a [op] [b] pos) (QK (tOp r ta tb)):=by
 intro pins s σ H Q I h;refine wpAny_isTrue_Compare1 (thn (ha pins s σ H _ I h) λ v s1 ⟨x,H1,I1,r1,q1⟩=>thn (hb pins s1 σ H1 _ I1 q1) λ u s2 ⟨y,H2,I2,r2,q2⟩ =>
  thn (ho pins s2 σ H2 x y v u _ I2 r1 r2 q2) λ c s3 ⟨z,H3,I3,r3,k,e,q3⟩=>?_) hm
 subst e;cases r3;exact wpAny_truthy_bool ⟨H3,I3,q3⟩
def Op(r r':R2)(ta tb tc:TE):TE:=λ σ H Q=>ta σ H λ x H1=>tb σ H1 λ y H2=>r x y H2 λ z H3=>IBl z λ k =>
 (if k=true then tc σ H3 λ w' H4=>r' y w' H4 Q else Q (.bl false) H3)
theorem Kf{op op':CmpOp}{r r':R2}(ho:OpR X (compareOp op) r)(ho':OpR X (compareOp op') r')(ha:PE X a ta)(hb:PE X b tb)(hc:PE X c tc)
  (hm:lastMarks [op,op'] [b,c]=false:=by with_unfolding_all rfl):PE X (.Compare a [op,op'] [b,c] pos) (Op r r' ta tb tc):=by
 intro pins s σ H Q I h;refine Compare_chain (thn (ha pins s σ H _ I h) λ v s1 ⟨x,H1,I1,r1,q1⟩=>chain_link (thn (hb pins s1 σ H1 _ I1 q1) λ u s2 ⟨y,H2,I2,r2,q2⟩ =>
  thn (ho pins s2 σ H2 x y v u _ I2 r1 r2 q2) λ d s3 ⟨z,H3,I3,r3,k,e,q3⟩=>?_)) hm
 subst e;cases r3;refine wpAny_truthy_bool ?_;cases k with
 |false=>exact ite_ff ⟨.bl false,H3,I3,rfl,q3⟩
 |true=>exact ite_tt (chain_last (thn (hc pins s3 σ H3 _ I3 q3) λ w' s4 ⟨z',H4,I4,r4,q4⟩=>ho' pins s4 σ H4 y z' u w' Q I4 r2 r4 q4))
theorem O3{op op':CmpOp}{r r':R2}(ho:OpR X (compareOp op) r)(ho':OpR X (compareOp op') r')(ha:PE X a ta)(hb:PE X b tb)(hc:PE X c tc)
  (hm:lastMarks [op,op'] [b,c]=false:=by with_unfolding_all rfl):PT X (.Compare a [op,op'] [b,c] pos) (QK (Op r r' ta tb tc)):=by
 intro pins s σ H Q I h;refine isTrue_chain (thn (ha pins s σ H _ I h) λ v s1 ⟨x,H1,I1,r1,q1⟩=>test_link (thn (hb pins s1 σ H1 _ I1 q1) λ u s2 ⟨y,H2,I2,r2,q2⟩ =>
  thn (ho pins s2 σ H2 x y v u _ I2 r1 r2 q2) λ d s3 ⟨z,H3,I3,r3,k,e,q3⟩=>?_)) hm
 subst e;cases r3;refine wpAny_truthy_bool ?_;cases k with
 |false =>
  obtain⟨k',e',q'⟩:=q3;cases e';exact ite_ff ⟨H3,I3,q'⟩
 |true =>
  refine ite_tt (test_last (thn (hc pins s3 σ H3 _ I3 q3) λ w' s4 ⟨z',H4,I4,r4,q4⟩=>thn (ho' pins s4 σ H4 y z' u w' _ I4 r2 r4 q4) λ d' s5 ⟨z2,H5,I5,r5,k2,e2,q5⟩=>?_));subst e2;cases r5;exact wpAny_truthy_bool ⟨H5,I5,q5⟩
def SX(K:Frag)(x:V)(H:Hp)(k:Bool):Prop :=
 match x with
 |.non=>k=false
 |.bl b=>k=b
 |.int i=>k=(i != 0)
 |.str y=>y.length<=sizeLine/\k=((y.length:Int) != 0)
 |.byt y=>y.size<=sizeLine/\k=((y.size:Int) != 0)
 |.ref p=>(∃xs,SqL K H p xs/\k=!xs.isEmpty)\/(∃xs,SqT K H p xs/\k=!xs.isEmpty)\/∃kvs,H p=some (.dK kvs)/\k=!kvs.isEmpty
 |_=>False
theorem LW{κ:Type}{kvs:List (κ×V)}{vs:List (κ×Value)}(r:KV kvs vs):(!vs.isEmpty)=!kvs.isEmpty:=by
 cases r<;>rfl
theorem GN{xs:LUz}{its:LWz}(r:Vals xs its):(!its.toArray.isEmpty)=!xs.isEmpty:=by
 cases r<;>simp
theorem Fd:(sizeLine:Nat)<2^63:=by rw[sizeLine_eq];decide
theorem Rl:Ud X (λ x H Q=>∃k,SX X.K x H k/\Q k H):=by
 intro pins s σ H x v Q I rx h;obtain⟨k,e,q⟩:=h;have hl:=Fd;have hs:sizeLine=16777216:=sizeLine_eq;cases x with
 |non =>
  cases rx;have e':k=false:=e;subst e';exact truthy_none ⟨H,I,q⟩
 |bl b =>
  cases rx;have e':k=b:=e;subst e';exact wpAny_truthy_bool ⟨H,I,q⟩
 |int i =>
  obtain⟨t,rfl⟩:=rx;have e':k=(i != 0):=e;subst e';exact PySem.P.truthy_int ⟨H,I,q⟩
 |str y =>
  obtain⟨t,rfl⟩:=rx;obtain⟨hy,e'⟩:y.length<=sizeLine/\k=((y.length:Int) != 0):=e;subst e';exact PySem.P.truthy_str (by lia) ⟨H,I.tok _,q⟩
 |byt y =>
  obtain⟨t,rfl⟩:=rx;obtain⟨hy,e'⟩:y.size<=sizeLine/\k=((y.size:Int) != 0):=e;subst e';exact truthy_bytes (by lia) ⟨H,I.tok _,q⟩
 |ref p =>
  cases rx;have e':(∃xs,SqL X.K H p xs/\k=!xs.isEmpty)\/(∃xs,SqT X.K H p xs/\k=!xs.isEmpty)\/∃kvs,H p=some (.dK kvs)/\k=!kvs.isEmpty:=e;rcases e' with ⟨xs,hx,e'⟩|⟨xs,hx,e'⟩|⟨kvs,hx,e'⟩
  .subst e';obtain⟨its,r,pl,hz⟩:=I.list hx;have hlen:=r.length;exact wpAny_truthy_list pl.isList (by simp only[am];lia) ⟨H,I.tok _,by rw[GN r];exact q⟩
  .subst e';obtain⟨its,r,pl,hz⟩:=I.tuple hx;have hlen:=r.length;exact truthy_tuple pl (by simp only[am];lia) ⟨H,I.tok _,by rw[GN r];exact q⟩
  .subst e';obtain⟨hz,hS,vs,r,m⟩:kvs.length<=sizeLine/\(p==sysModules)=false/\∃vs,KV kvs vs/\s.heap.DictOf (AJ X.prog X.w) p vs:=I.hok p _ hx;have hlen:kvs.length=vs.length:=Paired.length r;exact wpAny_truthy_dict hS m (by lia) ⟨H,I.tok _,by rw[LW r];exact q⟩
 |_=>exact(show False from e).elim
theorem Dk(ha:PE X a ta)(he:∀whole,isTrue a X.env whole=(do let v <-whole;standAt a.pos;holding [v] (truthy v))) :
    PT X a (λ σ H Q=>ta σ H λ x H'=>∃k,SX X.K x H' k/\Q k H'):=by
  intro pins s σ H Q I h;exact isTrue_plain (thn (ha pins s σ H _ I h) λ v s1 ⟨x,H1,I1,r1,q1⟩=>Rl pins s1 σ H1 x v Q I1 r1 q1) (he _)
theorem HG{x:V}{us:LWz}(r:Vals [x] us):∃u,us=[u]/\RelV x u:=by
 cases r with
 |cons r1 r2=>cases r2;exact⟨_,rfl,r1⟩
theorem Of{x y:V}{us:LWz}(r:Vals [x,y] us):∃u w',us=[u,w']/\RelV x u/\RelV y w':=by
 cases r with
 |cons r1 r2 =>
  cases r2 with
  |cons r3 r4=>cases r4;exact⟨_,_,rfl,r1,r3⟩
end
structure ObjM(h:Heap)(x dx C:Addr)(mA:MGz):Prop where
 obj:h.get? x=some (instObj C dx)
 ns:h.Ns1 dx mA
 ne:dx≠x
theorem Ic{h:Heap}{dx:Addr}{mA:MGz}(n:h.Ns1 dx mA):∃od,h.get? dx=some od/\∀name,lookIn name od=some (mA name):=by
 obtain⟨o,es,ep,ho,hd,hk,_,hm⟩:=n;refine⟨o,ho,λ name=>?_⟩;have e:=hm name;unfold nsFind findBy at e;rw[<-Array.find?_toList]at e;unfold lookIn;rw[hd];dsimp only;split
 .rename_i y q;rw[q]at e;exact congrArg some e
 .rename_i q;rw[q]at e;have a:es.toList.any (·.refKey)=false:=by
   rw[List.any_eq_false];intro y hy;obtain⟨z,t,hkey⟩:=hk y (Array.mem_toList_iff.mp hy);simp[DictEntry.refKey,hkey]
  have a':¬es.toList.any (·.refKey)=true:=by rw[a];exact au
  rw[if_neg a'];exact congrArg some e
theorem ObjM.look{h:Heap}{x dx C:Addr}{mA:MGz}(I:ObjM h x dx C mA):∃od,InstAt h x (instObj C dx) C (some od)/\∀name,lookIn name od=some (mA name) :=
 let ⟨od,ho,hl⟩:=Ic I.ns
 ⟨od,⟨I.obj,rfl,rfl,ho⟩,hl⟩
section
variable{prog:Program}{w:World}{A:Around}{E:VPz}{s:Shared}{K:Frag}{x dx C f:Addr}{mA:MGz}{name:Str}{v:Value}
theorem Qv{expr:Bool}{Q:VPz}(X:K.In s.heap)(I:ObjM s.heap x dx C mA)(hg:plainGet K C name=true)(hh:hasDictIn K C=true)
  (ha:findIn K (.ref C) name=some none) (hv:mA name=some v) (hv':handedIn v=true) (h:Q v { s with toks:=s.toks+1 }) :
  wpAny (model prog w) A (getAttr (.ref x) name expr) Q E s:=by
 obtain⟨od,J,hl⟩:=I.look;exact get_value X J (plainGet_of hg).1 (findObj_own hh ha rfl (by rw[hl,hv])) hv' h
theorem OX{pl:Sem Bool}{Q:Value×LWz->Shared->Prop}(X:K.In s.heap)(I:ObjM s.heap x dx C mA)(hg:plainGet K C name=true)
  (hf:findIn K (.ref C) name=some (some (.ref f))) (ht:isFn K (.ref f)=true) (hv:mA name=none) (h:Q (.ref f,[.ref x]) s) :
  wpAny (model prog w) A (getMethod (.ref x) name pl) Q E s:=by
 obtain⟨od,J,hl⟩:=I.look;exact method_fn X J (plainGet_of hg).1 (plainGet_of hg).2 hf (beq_iff_eq.mp ht) (by show(lookIn name od).map (·.isSome)=some false;rw[hl,hv];rfl) h
theorem PJ{ns:LSz}{Q:Unit->Shared->Prop}(X:K.In s.heap)(I:ObjM s.heap x dx C mA)
  (hs:findIn K (.ref C) "__setattr__"=some (some (.builtin "object.__setattr__"))) (hp:plainOver K C=true) (ht:takerIn K C name=some none) (hh:hasDictIn K C=true)
  (hw:PySem.Within mA ns) (hsz:ns.length<=sizeLine)
  (h:∀h',ObjM h' x dx C (λ y=>if y=name then some v else mA y)->Heap.SameBut dx s.heap h'->Q () { s with heap:=h',toks:=s.toks+2 }) :
  wpAny (model prog w) A (setAttr (.ref x) name v) Q E s:=by
 obtain⟨od,J,hl⟩:=I.look;refine set_plain X J hs (osa_open (s:={ s with toks:=s.toks+1 }) (r:=none) X J hp ht λ b=>?_);obtain⟨cd,hc,hd'⟩:=any_some hh;have hx:s.heap.get? x=some ⟨.ref C,some dx,.plain,#[]⟩:=I.obj;refine wpAny_bind (wpAny_pure (wpAny_bind (wpAny_bind (wpAny_loadPart hx (wpAny_bind (Looks.here (s:={ s with toks:=s.toks+1 }) (looks_clsIn X hc) ?_))))));rw[hd'];refine wpAny_pure (a:=some dx) (wpAny_bind (wpAny_pure (wpAny_bind ?_)));refine wpAny_nsSet1 (s:={ s with toks:=s.toks+1 }) I.ns λ h' hn2 hs2=>?_;obtain⟨oD,esD,epD,hoD,hdD,hcD⟩:=hn2.count (PySem.Within.cons name v hw);refine wpAny_bind (wpAny_lookBehind hoD (by rw[hdD];exact pastItsLine_dict (aS hcD (by rw[aD];lia))) ?_);exact wpAny_pure (h _ ⟨(hs2.2 _ (Ne.symm I.ne)).trans I.obj,hn2,I.ne⟩ hs2)
theorem Kz{R:Result->Shared->Prop}{vs:LWz}{kw:List (Str×Value)}(X:K.In s.heap)(hm:makesIn K C=true)
  (hi:findIn K (.ref C) "__init__"=some (some (.ref f))) (hf:typeIn K (.ref f)=some (.type "function"))
  (h:codeAny (model prog w) (A.under (.builtin "type.__call__" ⟨.ref C::vs,kw⟩)) (.call (.ref f) ⟨.ref (s.heap.objs.size+1)::vs,kw⟩) (InitBack (s.heap.objs.size+1) R)
   { s with heap:=(s.heap.push emptyDict).push (instObj C s.heap.objs.size) }) :
  codeAny (model prog w) A (.call (.ref C) ⟨vs,kw⟩) R s:=by
 obtain⟨hh,g,d,t,os⟩:=s;exact make_core (makes_of X hm) (looks_findIn X hi) (λ self=>bind_fn X self hf) (.inl rfl) h
end
def Bh(f:Str)(v:V):LFz->LFz
 |[]=>[(f,v)]
 | (g,x)::r=>if g=f then (g,v)::r else (g,x)::Bh f v r
theorem AQ(f g:Str)(v:V):∀fs:LFz,(Bh f v fs).lookup g=if g=f then some v else fs.lookup g
 |[]=>by
  show List.lookup g [(f,v)]=_;by_cases h:g=f
  .have hb:(g==f)=true:=beq_iff_eq.mpr h;simp only[List.lookup,hb,if_pos h]
  .have hb:(g==f)=false:=beq_eq_false_iff_ne.mpr h;simp only[List.lookup,hb,if_neg h]
 | (k,x)::r=>by
  have ih:=AQ f g v r;rw[show Bh f v ((k,x)::r)=(if k=f then (k,v)::r else (k,x)::Bh f v r) from rfl];by_cases hk:k=f
  .rw[if_pos hk];by_cases h:g=k
   .have hb:(g==k)=true:=beq_iff_eq.mpr h;simp only[List.lookup,hb,if_pos (h.trans hk)]
   .have hb:(g==k)=false:=beq_eq_false_iff_ne.mpr h;simp only[List.lookup,hb,if_neg (λ e:g=f=>h (e.trans hk.symm))]
  .rw[if_neg hk];by_cases h:g=k
   .have hb:(g==k)=true:=beq_iff_eq.mpr h;simp only[List.lookup,hb,if_neg (λ e:g=f=>hk (h.symm.trans e))]
   .have hb:(g==k)=false:=beq_eq_false_iff_ne.mpr h;simp only[List.lookup,hb];exact ih
theorem C8(f:Str)(v:V):∀fs:LFz,f∈(Bh f v fs).map (·.1)/\∀g,g∈fs.map (·.1)->g∈(Bh f v fs).map (·.1)
 |[]=>⟨by simp[Bh],λ g h=>by simp at h⟩
 | (k,x)::r=>by
  obtain⟨i1,i2⟩:=C8 f v r;rw[show Bh f v ((k,x)::r)=(if k=f then (k,v)::r else (k,x)::Bh f v r) from rfl];by_cases hk:k=f
  .rw[if_pos hk];subst hk;exact⟨by simp,λ g h=>by simpa using h⟩
  .rw[if_neg hk];refine⟨?_,λ g h=>?_⟩
   .rw[aL];exact aO _ i1
   .rw[aL]at h |-;rcases aA.mp h with e|e
    .exact aA.mpr (.inl e)
    .exact aO _ (i2 g e)
theorem Fs(f:Str)(v:V):∀fs:LFz,(Bh f v fs).length<=fs.length+1
 |[]=>by simp[Bh]
 | (k,x)::r=>by
  have ih:=Fs f v r;rw[show Bh f v ((k,x)::r)=(if k=f then (k,v)::r else (k,x)::Bh f v r) from rfl];by_cases hk:k=f
  .rw[if_pos hk,aD,aD];lia
  .rw[if_neg hk,aD,aD];lia
theorem RelO.some_of{v:V}{o:Option Value}(r:RelO (some v) o):∃u,o=some u/\RelV v u:=by
 cases o with
 |none=>exact(show False from r).elim
 |some u=>exact⟨u,rfl,r⟩
theorem RelO.none_of{o:Option Value}(r:RelO none o):o=none:=by
 cases o with
 |none=>rfl
 |some u=>exact(show False from r).elim
theorem Ij{v:V}{u:Value}(r:RelV v u):handedIn u=true:=by
 cases v with
 |non=>cases(show u=Value.none from r);rfl
 |bl b=>cases(show u=Value.bool b from r);rfl
 |int i=>obtain⟨t,e⟩:=(show ∃t,u=Value.int i t from r);cases e;rfl
 |str x=>obtain⟨t,e⟩:=(show ∃t,u=Value.str x t from r);cases e;rfl
 |byt b=>obtain⟨t,e⟩:=(show ∃t,u=Value.bytes b t from r);cases e;rfl
 |flt b=>obtain⟨t,e⟩:=(show ∃t,u=Value.float b t from r);cases e;rfl
 |ref a=>cases(show u=Value.ref a from r);rfl
 |ty n=>cases(show u=Value.type n from r);rfl
section
variable{P:Program}{w:World}{H H':Hp}{h h':Heap}{a C dx:Addr}{fs fs':LFz}
theorem FO(hok:HOk P w H h)(e:H a=some (.ins C dx fs)):∃mA,ObjM h a dx C mA/\(∀f,RelO (fs.lookup f) (mA f))/\PySem.Within mA (fs.map (·.1))/\fs.length<=1000/\H dx=some (.own a):=by
 obtain⟨d,z,ne,ob,mA,n,r,q⟩:=(show ObjOk P w H h a (.ins C dx fs) from hok a _ e);exact⟨mA,⟨ob,n,ne⟩,r,q,z,d⟩
end
structure Cls(K:Frag)(C:Addr):Prop where
 pg:plainGet K C Str.empty=true
 hd:hasDictIn K C=true
 po:plainOver K C=true
 sa:findIn K (.ref C) "__setattr__"=some (some (.builtin "object.__setattr__"))
theorem Cls.get{K:Frag}{C:Addr}(c:Cls K C)(f:Str):plainGet K C f=true:=c.pg
def NoAttr(K:Frag)(C:Addr)(f:Str):Prop:=findIn K (.ref C) f=some none
theorem NoAttr.taker{K:Frag}{C:Addr}{f:Str}(n:NoAttr K C f):takerIn K C f=some none:=by
 unfold takerIn;rw[show findIn K (.ref C) f=some none from n];rfl
structure Pz(K:Frag)(C:Addr)(m:Str)(f:Addr):Prop where
 at_:findIn K (.ref C) m=some (some (.ref f))
 fn:isFn K (.ref f)=true
 kp:keepIn K (.ref f)=true
section
variable{X:Cx}{pins:PNz}{σ:St}{H:Hp}{s:Shared}{a C dx:Addr}{fs:LFz}{f:Str}{v:V}{A:Around}{E:VPz}
theorem Ma{b:Bool}{Q:VPz}(I:Inv X pins σ H s)(e:H a=some (.ins C dx fs))(c:Cls X.K C)(n:NoAttr X.K C f)(l:fs.lookup f=some v)
  (h:∀u s',Inv X pins σ H s'->RelV v u->Q u s'):wpAny (model X.prog X.w) A (getAttr (.ref a) f b) Q E s:=by
 obtain⟨mA,O,r,_,_,_⟩:=FO I.hok e;obtain⟨u,hu,ru⟩:=RelO.some_of (v:=v) (o:=mA f) (by rw[<-l];exact r f);exact Qv I.kIn O (c.get f) c.hd n hu (Ij ru) (h u _ (I.tok _) ru)
theorem Ee{m:Str}{g:Addr}{pl:Sem Bool}{Q:Value×LWz->Shared->Prop}(I:Inv X pins σ H s)(e:H a=some (.ins C dx fs))(c:Cls X.K C)(k:Pz X.K C m g)(l:fs.lookup m=none)
  (h:Q (.ref g,[.ref a]) s):wpAny (model X.prog X.w) A (getMethod (.ref a) m pl) Q E s:=by
 obtain⟨mA,O,r,_,_,_⟩:=FO I.hok e;have hn:mA m=none:=RelO.none_of (by rw[<-l];exact r m);exact OX I.kIn O (c.get m) k.at_ k.fn hn h
theorem Lu{y:V}{u:Value}{Q:Unit->Shared->Prop}(I:Inv X pins σ H s)(e:H a=some (.ins C dx fs))(c:Cls X.K C)(n:NoAttr X.K C f)(hl:fs.length<1000)(ry:RelV y u)
  (h:∀s',Inv X pins σ (upd H a (.ins C dx (Bh f y fs))) s'->Q () s'):wpAny (model X.prog X.w) A (setAttr (.ref a) f u) Q E s:=by
 obtain⟨mA,O,r,wi,_,ho⟩:=FO I.hok e;have hz:(fs.map (·.1)).length<=sizeLine:=by rw[ae,sizeLine_eq];lia
 refine PJ I.kIn O c.sa c.po n.taker c.hd wi hz λ h' O' sb=>h _ ?_;have hd:∃o,h'.get? dx=some o:=let ⟨o,_,_,e',_⟩:=O'.ns;⟨o,e'⟩;refine I.write (x:=a) (e:=dx) (by rw[e];exact True.intro) (.inr ho) (λ b q hb z=>(sb.2 b hb).trans z) hd ?_;refine⟨by rw[Af O.ne];exact ho,?_,O.ne,O'.obj,_,O'.ns,λ g=>?_,λ g hg=>?_⟩
 .have:=Fs f y fs;lia
 .show RelO ((Bh f y fs).lookup g) (if g=f then some u else mA g);rw[AQ];by_cases q:g=f
  .rw[if_pos q,if_pos q];exact ry
  .rw[if_neg q,if_neg q];exact r g
 .by_cases q:g=f
  .rw[q];exact(C8 f y fs).1
  .refine(C8 f y fs).2 g (wi g λ z=>hg ?_);show(if g=f then some u else mA g)=none;rw[if_neg q];exact z
theorem Inv.made(I:Inv X pins σ H s):Inv X pins σ (upd (upd H s.heap.objs.size (.own (s.heap.objs.size+1))) (s.heap.objs.size+1) (.ins C s.heap.objs.size []))
  { s with heap:=(s.heap.push emptyDict).push (instObj C s.heap.objs.size) }:=by
 have e1:(s.heap.push emptyDict).get? s.heap.objs.size=some emptyDict:=aH s.heap rfl;have e2:((s.heap.push emptyDict).push (instObj C s.heap.objs.size)).get? (s.heap.objs.size+1)=some (instObj C s.heap.objs.size):=by
  have:=aH (s.heap.push emptyDict) (o:=instObj C s.heap.objs.size) rfl;rwa [b7]at this
 have e3:(s.heap.push emptyDict).Ns s.heap.objs.size (λ_=>none):=⟨emptyDict,#[],_,e1,rfl,(λ e he=>absurd he (by simp)),λ_=>rfl⟩;have I1:=I.laid (a:=s.heap.objs.size) (o:=.own (s.heap.objs.size+1)) (h':=s.heap.push emptyDict) (t':=s.toks) (λ b u q=>af _ q) (aj _) ⟨_,e1⟩;refine I1.laid (a:=s.heap.objs.size+1) (o:=.ins C s.heap.objs.size []) (t':=s.toks) (λ b u q=>af _ q) (cb (b7 _ _)) ?_;have ne:s.heap.objs.size≠s.heap.objs.size+1:=aJ (dk _);refine⟨by rw[Af ne,upd_same],aZ _,ne,e2,λ_=>none,(Heap.Ns1.of_empty e3).at λ o q=>af _ q,λ_=>True.intro,λ y hy=>absurd rfl hy⟩
theorem Nf{prog:Program}{w:World}{env:Env}{e:Expr}{f:Str}{pos:Pos}{s:Shared}{Q:VPz}(hb:attributeBase e f env (eval e env)=eval e env)
  (h:wpAny (model prog w) A (eval e env) (λ o s₁=>wpAny (model prog w) A (getAttr o f true) Q E s₁) E s):wpAny (model prog w) A (eval (.Attribute e f pos) env) Q E s :=
 Attribute_any_ h (by rw[arm_eval_Attribute,hb])
end
inductive Tg(K:Frag)(f:Str)(x:V)(H:Hp)(Q:VK):Prop
 |mk (a C dx:Addr) (fs:LFz) (v:V) (e:x=.ref a) (h:H a=some (.ins C dx fs)) (c:Cls K C) (n:NoAttr K C f) (l:fs.lookup f=some v) (q:Q v H):Tg K f x H Q
def Sr(K:Frag)(ta:TE)(f:Str):TE:=λ σ H Q=>ta σ H λ x H1=>Tg K f x H1 Q
def T4(K:Frag)(ta tv:TE)(f:Str):TS:=λ D σ H=>tv σ H λ y H1=>ta σ H1 λ x H2=>∃a C dx fs,x=.ref a/\H2 a=some (.ins C dx fs)/\Cls K C/\NoAttr K C f/\fs.length<1000 /\
 D.nx σ (upd H2 a (.ins C dx (Bh f y fs)))
section
variable{X:Cx}{o e value:Expr}{f:Str}{pos pos' tpos:Pos}{ta tv:TE}
theorem CL(he:PE X e ta)(hb:attributeBase e f X.env (eval e X.env)=eval e X.env):PE X (.Attribute e f pos) (Sr X.K ta f):=by
 intro pins s σ H Q I h;refine Nf hb (thn (he pins s σ H _ I h) λ u s1 hz_=>?_);obtain⟨x,H1,I1,rx,a,C,dx,fs,v,ex,ea,c,n,l,q⟩:=hz_;subst ex;obtain rfl:u=Value.ref a:=rx;exact Ma I1 ea c n l λ u' s2 I2 ru=>⟨v,H1,I2,ru,q⟩
theorem CK(ha:PE X o ta)(hv:PE X value tv)(hs:swapsWith value (some (.Attribute o f pos')) pos.line X.env=pure false):PS X (.Assign [.Attribute o f pos'] value pos) (T4 X.K ta tv f):=by
 intro pins s σ H D I h;refine plainObj_wpAny_Assign_Attribute (thn (hv pins s σ H _ I h) λ u s1 hz_=>?_) hs;obtain⟨y,H1,I1,ry,q⟩:=hz_;refine thn (ha pins s1 σ H1 _ I1 q) λ ov s2 hz_=>?_;obtain⟨x,H2,I2,rx,a,C,dx,fs,ex,ea,c,n,l,q2⟩:=hz_;subst ex;obtain rfl:ov=Value.ref a:=rx;exact Lu I2 ea c n l ry λ s3 I3=>⟨σ,_,I3,q2⟩
end
section
variable{X:Cx}{pins:PNz}{σ:St}{H:Hp}{s:Shared}{A:Around}{E:VPz}{Q:VPz}{c:Value}{b:Bool}
inductive Fk(K:Frag)(H:Hp):V->Value->Prop where
 |non:Fk K H .non (.type "NoneType")
 |bl (x:Bool):Fk K H (.bl x) (.type "bool")
 |int (i:Int):Fk K H (.int i) (.type "int")
 |str (x:Str):Fk K H (.str x) (.type "str")
 |flt (x:UInt64):Fk K H (.flt x) (.type "float")
 |lst {a:Addr} {xs:LUz} (e:H a=some (.lst xs)):Fk K H (.ref a) (.type "list")
 |frz {a:Addr} {o:Obj} {xs:LUz} (e:H a=some (.frz o (.lst xs))):Fk K H (.ref a) (.type "list")
 |tup {a:Addr} {xs:LUz} (e:H a=some (.tup xs)):Fk K H (.ref a) (.type "tuple")
 |dK {a:Addr} {kvs:List (Key×V)} (e:H a=some (.dK kvs)):Fk K H (.ref a) (.type "dict")
 |dT {a:Addr} {kvs:LKz} (e:H a=some (.dT kvs)):Fk K H (.ref a) (.type "dict")
 |ins {a C dx:Addr} {fs:LFz} (e:H a=some (.ins C dx fs)) (cl:Cls K C) (ha:findIn K (.ref C) "__class__"=some (some (.builtin "object.__class__")))
   (hn:specialIn K (.builtin "object.__class__") "__get__"=some (some (.builtin "getset_descriptor.__get__"))) (htk:takesIn K (.builtin "object.__class__")=some true)
   (hm:mroIn K C (.type "object")=some true):Fk K H (.ref a) (.ref C)
theorem NJ{x:V}{u t:Value}(I:Inv X pins σ H s)(rx:RelV x u)(ty:Fk X.K H x t)(e:kitOne X.K t c=some b)(h:∀tk,Q (.bool b) { s with toks:=tk }) :
  wpAny (model X.prog X.w) A (call (.builtin "isinstance") [u,c]) Q E s:=by
 cases ty with
 |non=>cases(show u=Value.none from rx);exact kia_one kitx_none I.kIn True.intro e (λ z=>nomatch z) h
 |bl y=>cases(show u=Value.bool y from rx);exact kia_one kitx_bool I.kIn True.intro e (λ z=>nomatch z) h
 |int i=>obtain⟨t,q⟩:=(show ∃t,u=Value.int i t from rx);cases q;exact kia_one kitx_int I.kIn True.intro e (λ z=>nomatch z) h
 |str y=>obtain⟨t,q⟩:=(show ∃t,u=Value.str y t from rx);cases q;exact kia_one kitx_str I.kIn True.intro e (λ z=>nomatch z) h
 |flt y=>obtain⟨t,q⟩:=(show ∃t,u=Value.float y t from rx);cases q;exact kia_one kitx_float I.kIn True.intro e (λ z=>nomatch z) h
 |@lst a xs ea =>
  cases(show u=Value.ref a from rx);obtain⟨_,_,n,_,h1⟩:=(show ObjOk X.prog X.w H s.heap a (.lst xs) from I.hok a _ ea);exact kia_one kitx_list I.kIn ⟨_,h1,rfl⟩ e (λ z=>nomatch z) h
 |@frz a ob xs ea =>
  cases(show u=Value.ref a from rx);obtain⟨_,_,_,n,_,h1⟩:=(show ObjOk X.prog X.w H s.heap a (.frz ob (.lst xs)) from I.hok a _ ea);exact kia_one kitx_list I.kIn ⟨_,h1,rfl⟩ e (λ z=>nomatch z) h
 |@tup a xs ea =>
  cases(show u=Value.ref a from rx);obtain⟨_,_,_,p⟩:=(show ObjOk X.prog X.w H s.heap a (.tup xs) from I.hok a _ ea);obtain⟨o,h1,h2,_⟩:=p;exact kia_one kitx_tuple I.kIn ⟨o,h1,h2⟩ e (λ z=>nomatch z) h
 |@dK a kvs ea =>
  cases(show u=Value.ref a from rx);obtain⟨_,_,vs,_,p⟩:=(show ObjOk X.prog X.w H s.heap a (.dK kvs) from I.hok a _ ea);obtain⟨o,es,ep,h1,h2,_⟩:=p;exact kia_one kitx_dict I.kIn ⟨o,h1,h2.1⟩ e (λ z=>nomatch z) h
 |@dT a kvs ea =>
  cases(show u=Value.ref a from rx);obtain⟨_,_,xs,_,o,es,ep,h1,h2,_⟩:=(show ObjOk X.prog X.w H s.heap a (.dT kvs) from I.hok a _ ea);exact kia_one kitx_dict I.kIn ⟨o,h1,h2.1⟩ e (λ z=>nomatch z) h
 |@ins a C dx fs ea cl ha hn htk hm =>
  cases(show u=Value.ref a from rx);obtain⟨mA,O,_⟩:=FO I.hok ea;obtain⟨od,J,_⟩:=O.look;exact kia_one (kitx_own (cl.get _) cl.hd ha hn htk hm) I.kIn J e (λ z=>nomatch z) h
end
structure Room(k:Nat)(A:Around):Prop where
 hd:A.handled=none
 dp:A.depth+3*k+5<recursionLimit
 un:A.units+16*k+200<cLine
theorem Room.mono{j k:Nat}{A:Around}(r:Room k A)(h:j<=k):Room j A:=⟨r.hd,by have:=r.dp;lia,by have:=r.un;lia⟩
theorem Room.deeper{k:Nat}{A:Around}(r:Room (k+1) A)(env:Env):Room k (A.deeper env) :=
 ⟨r.hd,by have:=r.dp;show A.depth+1+3*k+5<_;lia,by have:=r.un;show A.units+3+16*k+200<_;lia⟩
theorem LO{A:Around}{C:Addr}{us:LWz}{kw:List (Str×Value)}:(A.under (.builtin "type.__call__" ⟨.ref C::us,kw⟩)).depth=A.depth+1:=by
 first|rfl|simp[Around.under,Code.weight,Code.isCreation,Code.isGuard,Code.isCaller,Code.frames,Code.isFrame,guardIds]
theorem LN{A:Around}{C:Addr}{us:LWz}{kw:List (Str×Value)}:(A.under (.builtin "type.__call__" ⟨.ref C::us,kw⟩)).units=A.units+1:=by
 first|rfl|simp[Around.under,Code.cUnits,Code.frames,Code.isFrame]
theorem Room.make{k:Nat}{A:Around}(r:Room (k+1) A)(C:Addr)(us:LWz)(kw:List (Str×Value)):Room k (A.under (.builtin "type.__call__" ⟨.ref C::us,kw⟩)) :=
 ⟨r.hd,by have:=r.dp;rw[LO];lia,by have:=r.un;rw[LN];lia⟩
theorem Room.depth{k:Nat}{A:Around}(r:Room k A):A.depth<recursionLimit:=by have:=r.dp;lia
theorem Room.units{k:Nat}{A:Around}(r:Room k A):A.units+64<cLine:=by have:=r.un;lia
def Lo:TA:=λ_ H Q=>Q [] H
def On(ta:TE)(tr:TA):TA:=λ σ H Q=>ta σ H λ x H1=>tr σ H1 λ xs H2=>Q (x::xs) H2
section
variable{X:Cx}{e:Expr}{es:List Expr}{te:TE}{t:TA}{pos:Pos}
theorem Ab:PA X [] Lo:=λ_ _ _ _ H Q I h=>Calls.spliced_nil ⟨[],H,I,.nil,h⟩
theorem Aa(ha:PE X e te)(hr:PA X es t)(hs:starEach (e::es) X.env=(false,eval e X.env)::starEach es X.env:=by rfl):PA X (e::es) (On te t):=by
 intro pos pins s σ H Q I h;rw[hs];show wpAny _ _ (spliced ((false,eval e X.env)::backTo pos (starEach es X.env))) _ _ s;refine Calls.spliced_cons (thn (ha pins s σ H _ I h) λ u s1 hz_=>?_);obtain⟨x,H1,I1,r1,q1⟩:=hz_;exact thn (hr pos pins s1 σ H1 _ I1 q1) λ us s2 ⟨xs,H2,I2,r2,q2⟩=>⟨x::xs,H2,I2,.cons r1 r2,q2⟩
def Si(t:TA):TE:=λ σ H Q=>t σ H λ xs H1=>xs.length<=sizeLine/\∀p,H1 p=none->Q (.ref p) (upd H1 p (.tup xs))
def Tp(t:TA):TE:=λ σ H Q=>t σ H λ xs H1=>xs.length<=sizeLine/\∀p,H1 p=none->Q (.ref p) (upd H1 p (.lst xs))
theorem An{x1}(h:PA X es t):PE X (.Tuple es x1 pos) (Si t):=by
 intro pins s σ H Q I hq;refine wpAny_Tuple_spliced (thn (h pos pins s σ H _ I hq) λ us s1 ⟨xs,H1,I1,r,z,q⟩=>⟨by rw[<-r.length];exact z,?_⟩);have hf:H1 s1.heap.objs.size=none:=I1.hok.fresh (aj _);refine⟨.ref s1.heap.objs.size,upd H1 s1.heap.objs.size (.tup xs),I1.laid (t':=s1.toks) (λ b u e=>af _ e) (aj _) ?_,rfl,q _ hf⟩;exact⟨z,us,r,⟨_,aH _ rfl,rfl,_,rfl⟩⟩
theorem Bc(h:PA X es t):PE X (.List es pos) (Tp t):=by
 intro pins s σ H Q I hq;refine wpAny_List_spliced (thn (h pos pins s σ H _ I hq) λ us s1 ⟨xs,H1,I1,r,z,q⟩=>⟨by rw[<-r.length];exact z,?_⟩);have hf:H1 s1.heap.objs.size=none:=I1.hok.fresh (aj _);refine⟨.ref s1.heap.objs.size,upd H1 s1.heap.objs.size (.lst xs),I1.laid (t':=s1.toks) (λ b u e=>af _ e) (aj _) ?_,rfl,q _ hf⟩;exact⟨z,us,0,r,aH _ rfl⟩
end
abbrev Sp:=LUz->Hp->VK->XK->Prop
abbrev CXT:=List Env->Hp->Shared->XK->Value->Shared->Prop
structure Env0(P:Program)(w:World)(K:Frag)(mg:MGz)(base:Heap)(A:Around)(outer:List Env)(s:Shared)(H:Hp):Prop where
 frames:A.frames=some outer
 mod:Mod K mg base
 bs:∀b o,base.get? b=some o->s.heap.get? b=some o/\H b=none
 bsz:base.objs.size<=s.heap.objs.size
 funs:s.heap.FunFrames base outer
 frf:∀b∈frs outer,H b=none
 hok:HOk P w H s.heap
 bare:AllBare s.gens
def CE(outer:List Env)(P:Program)(w:World)(H:Hp)(s:Shared)(Q:VK)(u:Value)(s':Shared):Prop :=
 ∃v H',s'.os=s.os/\AllBare s'.gens/\Un (frs outer) [] H H' s.heap s'.heap/\HOk P w H' s'.heap/\RelV v u/\Q v H'
def CR(CX:CXT)(outer:List Env)(P:Program)(w:World)(H:Hp)(s:Shared)(Q:VK)(E:XK)(r:Result)(s':Shared):Prop :=
 match r with
 |.ok (.ret u)=>CE outer P w H s Q u s'
 |.ok _=>False
 |.error e=>CX outer H s E e s'
structure A3(P:Program)(w:World)(K:Frag)(mg:MGz)(base:Heap)(CX:CXT)(k:Nat)(f:Addr)(fd:FuncData)(ps:LSz)(sp:Sp):Prop where
 len:∀vs H Q E,sp vs H Q E->vs.length=ps.length
 run:∀(A:Around)(outer:List Env)(s:Shared)(H:Hp)(args:Args)(us:LWz)(vs:LUz)(Q:VK)(E:XK),Room k A->Env0 P w K mg base A outer s H->BindsTo s fd args (ps.zip us)->Vals vs us->sp vs H Q E ->
  codeAny (model P w) A (.call (.ref f) args) (CR CX outer P w H s Q E) s
theorem Env0.make{P:Program}{w:World}{K:Frag}{mg:MGz}{base:Heap}{A:Around}{outer:List Env}{s:Shared}{H:Hp}(e:Env0 P w K mg base A outer s H)(C:Addr)(us:LWz)(kw:List (Str×Value)) :
  Env0 P w K mg base (A.under (.builtin "type.__call__" ⟨.ref C::us,kw⟩)) outer s H:=⟨by first|exact e.frames|(simpa [Around.under,Code.envs,Code.isFrame,pushEnvs] using e.frames),e.mod,e.bs,e.bsz,e.funs,e.frf,e.hok,e.bare⟩
section
variable{X:Cx}{pins:PNz}{σ:St}{H:Hp}{s s':Shared}
theorem Inv.env0(I:Inv X pins σ H s):Env0 X.prog X.w X.K X.mg X.base X.A X.stack s H :=
 ⟨I.ok.frames,I.ok.mod,I.bs,aS I.ok.bsz I.sz,I.stack,I.stkFree,I.hok,I.bare⟩
theorem Inv.after{Q:VK}{u:Value}(I:Inv X pins σ H s)(h:CE X.stack X.prog X.w H s Q u s'):EP X pins σ Q u s':=by
 obtain⟨v,H',os,bare,un,hok,r,q⟩:=h;obtain⟨hh,g,d,t,os'⟩:=s';obtain rfl:os'=s.os:=os;exact⟨v,H',I.call (h':=hh) (g':=g) (d':=d) (t':=t) (ch:=[]) un hok bare (λ b z=>absurd z (by simp)),r,q⟩
end
def Oq(sp:Sp)(dvs:LUz)(E:XK)(t:TA):TE:=λ σ H Q=>t σ H λ vs H1=>sp (vs++dvs) H1 Q E
def JR(C:Addr)(m:Str)(sp:Sp)(dvs:LUz)(E:XK)(ta:TE)(t:TA):TE:=λ σ H Q=>ta σ H λ x H1=>∃a dx fs,x=.ref a/\H1 a=some (.ins C dx fs)/\fs.lookup m=none /\
 t σ H1 λ vs H2=>sp (x::(vs++dvs)) H2 Q E
def M1(C:Addr)(sp:Sp)(dvs:LUz)(E:XK)(t:TA):TE:=λ σ H Q=>t σ H λ vs H1=>∀x dx,H1 x=none->H1 dx=none->dx≠x ->
 sp (.ref x::(vs++dvs)) (upd (upd H1 dx (.own x)) x (.ins C dx [])) (λ v H2=>v=.non/\Q (.ref x) H2) E
def Binds(K:Frag)(fd:FuncData)(ps:LSz)(ds:LWz):Prop :=
 ∀(s:Shared)(us:LWz),K.In s.heap->(us++ds).length=ps.length->BindsTo s fd ⟨us,[]⟩ (ps.zip (us++ds))
theorem Binds.all{K:Frag}{fd:FuncData}{ps:LSz}(h:∀us:LWz,us.length=ps.length->bindArgs fd ⟨us,[]⟩=pure (ps.zip us)):Binds K fd ps []:=λ s us _ hl=>by
 rw[aI]at hl |-;exact .of_eq (h us hl)
def B7(CX:CXT)(X:Cx)(E:XK):Prop:=∀(pins:PNz)(σ:St)(H:Hp)(s:Shared)(e:Value)(s':Shared),Inv X pins σ H s->CX X.stack H s E e s'->X.xe e s'
section
variable{X:Cx}{CX:CXT}{k:Nat}{f C:Addr}{fd:FuncData}{ps:LSz}{sp:Sp}{dvs:LUz}{ds:LWz}{E:XK}{x m:Str}{p pos apos:Pos}{e o:Expr}{es:List Expr}{ta:TE}{t:TA}
theorem Lv{pins:PNz}{σ:St}{H:Hp}{s:Shared}{Q:VK}{us:LWz}{vs:LUz}(F:A3 X.prog X.w X.K X.mg X.base CX k f fd ps sp)(hr:Room k X.A)(hb:Binds X.K fd ps ds)(hd:Vals dvs ds)(hx:B7 CX X E)
  (I:Inv X pins σ H s) (r:Vals vs us) (h:sp (vs++dvs) H Q E):wpAny (model X.prog X.w) X.A (call (.ref f) us) (EP X pins σ Q) X.xe s:=by
 have r2:Vals (vs++dvs) (us++ds):=r.append hd;have hl:(us++ds).length=ps.length:=by rw[<-r2.length];exact F.len _ _ _ _ h
 refine wpAny_call (codeAny_mono (F.run X.A X.stack s H ⟨us,[]⟩ (us++ds) (vs++dvs) Q E hr I.env0 (hb s us I.kIn hl) r2 h) λ r s' hq=>?_);cases r with
 |error e=>exact hx pins σ H s e s' I hq
 |ok fl =>
  cases fl with
  |ret u=>exact I.after hq
  |next=>exact False.elim hq
  |brk=>exact False.elim hq
  |cont=>exact False.elim hq
theorem MC(F:A3 X.prog X.w X.K X.mg X.base CX k f fd ps sp)(hr:Room k X.A)(hg:Gl X x)(hm:X.mg x=some (.ref f))(hk:keepIn X.K (.ref f)=true)(hb:Binds X.K fd ps ds)(hd:Vals dvs ds)(hx:B7 CX X E)
  (ha:PA X (e::es) t) (hdb:(x==("__debug__":Str))=false:=by decide) (he:starEach (e::es) X.env=(false,eval e X.env)::starEach es X.env:=by rfl) (hpl:(backTo pos (starEach es X.env)).any (·.1)=false:=by rfl) :
  PE X (.Call (.Name x p) (e::es) [] pos) (Oq sp dvs E t):=by
 intro pins s σ H Q I h;refine wpAny_Call_Name_kw (CO I hg hm ?_ hdb);refine callWith_K (h₀:=X.base) I.ok.mod.kin hk (thn (ha pos pins s σ H _ I h) λ us s1 ⟨vs,H1,I1,r,q⟩=>⟨I1.kIn,?_⟩) he hpl;exact Lv F hr hb hd hx I1 r q
theorem Qb{pl:Sem Bool}(he:PE X o ta)(c:Cls X.K C)(hm:Pz X.K C m f)(F:A3 X.prog X.w X.K X.mg X.base CX k f fd ps sp)(hr:Room k X.A)(hb:Binds X.K fd ps ds)(hd:Vals dvs ds)(hx:B7 CX X E)(ha:PA X (e::es) t)
    (hst:starEach (e::es) X.env=(false,eval e X.env)::starEach es X.env:=by rfl) (hpl:(backTo pos (starEach es X.env)).any (·.1)=false:=by rfl)
    (ht:eval (.Call (.Attribute o m apos) (e::es) [] pos) X.env=(do
      let ov <-eval o X.env
      standAt apos.atName
      let (f,first) <-holding [ov] (getMethod ov m pl)
      callWith pos f first (backTo pos (starEach (e::es) X.env)) (backToKw pos (keywordEach [] X.env))):=by rfl) :
    PE X (.Call (.Attribute o m apos) (e::es) [] pos) (JR C m sp dvs E ta t):=by
  intro pins s σ H Q I h;refine methodCall_KW (pl:=pl) (thn (he pins s σ H _ I h) λ u s1 hz_=>?_) ht;obtain⟨x,H1,I1,rx,a,dx,fs,ex,ea,l,q⟩:=hz_;subst ex;obtain rfl:u=Value.ref a:=rx;refine Ee I1 ea c hm l ?_;refine callWith_K (first:=[.ref a]) (h₀:=X.base) I.ok.mod.kin hm.kp (thn (ha pos pins s1 σ H1 _ I1 q) λ us s2 ⟨vs,H2,I2,r,q2⟩=>⟨I2.kIn,?_⟩) hst hpl;exact Lv (us:=.ref a::us) (vs:=.ref a::vs) F hr hb hd hx I2 (.cons rfl r) q2
theorem O9{pl:Sem Bool}(he:PE X o ta)(c:Cls X.K C)(hm:Pz X.K C m f)(F:A3 X.prog X.w X.K X.mg X.base CX k f fd ps sp)(hr:Room k X.A)(hb:Binds X.K fd ps ds)(hd:Vals dvs ds)(hx:B7 CX X E)
    (ht:eval (.Call (.Attribute o m apos) [] [] pos) X.env=(do
      let ov <-eval o X.env
      standAt apos.atName
      let (f,first) <-holding [ov] (getMethod ov m pl)
      callWith pos f first (backTo pos (starEach [] X.env)) (backToKw pos (keywordEach [] X.env))):=by rfl) :
    PE X (.Call (.Attribute o m apos) [] [] pos) (JR C m sp dvs E ta Lo):=by
  intro pins s σ H Q I h;refine methodCall_KW (pl:=pl) (thn (he pins s σ H _ I h) λ u s1 hz_=>?_) ht;obtain⟨x,H1,I1,rx,a,dx,fs,ex,ea,l,q⟩:=hz_;subst ex;obtain rfl:u=Value.ref a:=rx;refine Ee I1 ea c hm l ?_;exact callWith_K0 (first:=[.ref a]) I1.kIn hm.kp (Lv (us:=[.ref a]) (vs:=[.ref a]) F hr hb hd hx I1 (.cons rfl .nil) q)
structure Mk(K:Frag)(C f:Addr):Prop where
 makes:makesIn K C=true
 init:findIn K (.ref C) "__init__"=some (some (.ref f))
 fn:isFn K (.ref f)=true
 kp:keepIn K (.ref C)=true
theorem Oy{pins:PNz}{σ:St}{H:Hp}{s:Shared}{Q:VK}{us:LWz}{vs:LUz}(M:Mk X.K C f)(F:A3 X.prog X.w X.K X.mg X.base CX k f fd ps sp)(hr:Room (k+1) X.A)(hb:Binds X.K fd ps ds)(hd:Vals dvs ds)
  (hx:B7 CX X E) (I:Inv X pins σ H s) (r:Vals vs us)
  (h:∀x dx,H x=none->H dx=none->dx≠x->sp (.ref x::(vs++dvs)) (upd (upd H dx (.own x)) x (.ins C dx [])) (λ v H2=>v=.non/\Q (.ref x) H2) E) :
  wpAny (model X.prog X.w) X.A (call (.ref C) us) (EP X pins σ Q) X.xe s:=by
 have hq:=h (s.heap.objs.size+1) s.heap.objs.size (I.hok.fresh (bH _)) (I.hok.fresh (aj _)) (aJ (dk _));have I2:=Inv.made (C:=C) I;have r2:Vals (V.ref (s.heap.objs.size+1)::(vs++dvs)) (Value.ref (s.heap.objs.size+1)::(us++ds)):=.cons rfl (r.append hd);have hl:(Value.ref (s.heap.objs.size+1)::us++ds).length=ps.length:=by
  have e:=r2.length;rw[F.len _ _ _ _ hq]at e;exact e.symm
 refine wpAny_call (Kz (f:=f) I.kIn M.makes M.init (beq_iff_eq.mp M.fn) (codeAny_mono (F.run _ X.stack _ _ ⟨Value.ref (s.heap.objs.size+1)::us,[]⟩ (Value.ref (s.heap.objs.size+1)::(us++ds)) _ _ E (hr.make C us [])
  (I2.env0.make C us []) (hb _ (Value.ref (s.heap.objs.size+1)::us) I2.kIn hl) r2 hq) λ r s' hq'=>?_))
 cases r with
 |error e=>exact hx pins σ _ _ e s' I2 hq'
 |ok fl =>
  cases fl with
  |ret u =>
   obtain⟨v,H',I3,rv,ev,q3⟩:=I2.after hq';subst ev;exact⟨rv,⟨V.ref (s.heap.objs.size+1),H',I3,rfl,q3⟩⟩
  |next=>exact False.elim hq'
  |brk=>exact False.elim hq'
  |cont=>exact False.elim hq'
theorem MB(M:Mk X.K C f)(F:A3 X.prog X.w X.K X.mg X.base CX k f fd ps sp)(hr:Room (k+1) X.A)(hg:Gl X x)(hm:X.mg x=some (.ref C))(hb:Binds X.K fd ps ds)(hd:Vals dvs ds)(hx:B7 CX X E)
  (ha:PA X (e::es) t) (hdb:(x==("__debug__":Str))=false:=by decide) (he:starEach (e::es) X.env=(false,eval e X.env)::starEach es X.env:=by rfl) (hpl:(backTo pos (starEach es X.env)).any (·.1)=false:=by rfl) :
  PE X (.Call (.Name x p) (e::es) [] pos) (M1 C sp dvs E t):=by
 intro pins s σ H Q I h;refine wpAny_Call_Name_kw (CO I hg hm ?_ hdb);refine callWith_K (h₀:=X.base) I.ok.mod.kin M.kp (thn (ha pos pins s σ H _ I h) λ us s1 ⟨vs,H1,I1,r,q⟩=>⟨I1.kIn,?_⟩) he hpl;exact Oy M F hr hb hd hx I1 r q
end
structure Aj(N P:LSz)(sc:Scope):Prop where
 kind:sc.kind=.function
 co:sc.isCoroutine=false
 gen:sc.isGenerator=false
 nd:N.Nodup
 pre:N.take P.length=P
 par:∀x∈P,sc.names.lookup x=some .local\/sc.names.lookup x=some .cell
 nofree:∀y∈sc.names,y.2≠.free
theorem fsc{N P:List Str}{sc:Scope}(a:sc.kind=.function:=by rfl)(b:sc.isCoroutine=false:=by rfl)(c:sc.isGenerator=false:=by rfl)(d:N.Nodup:=by decide +kernel)(e:N.take P.length=P:=by rfl)(f:∀x∈P,sc.names.lookup x=some .local\/sc.names.lookup x=some .cell:=by decide +kernel)(g:∀y∈sc.names,y.2≠.free:=by decide +kernel):Aj N P sc:=⟨a,b,c,d,e,f,g⟩
theorem Ir{kindOf:Str->Option NameKind}{x:Str}:∀{binds:List (Str×Value)}{m:MGz},(∀v,(x,v)∉binds)->bindL kindOf binds m x=m x
 |[],_,_=>rfl
 | (n,v)::r,m,h=>by
  unfold bindL;rw[Ir λ w hw=>h w (aO _ hw)];split
  .have:x≠n:=by rintro rfl;exact h v aR
   simp[this]
  .rfl
theorem Iv{kindOf:Str->Option NameKind}{x:Str}:∀{binds:List (Str×Value)}{m:MGz},(∀v,(x,v)∉binds)->bindC kindOf binds m x=m x
 |[],_,_=>rfl
 | (n,v)::r,m,h=>by
  unfold bindC;rw[Iv λ w hw=>h w (aO _ hw)];split
  .rfl
  .have:x≠n:=by rintro rfl;exact h v aR
   simp[this]
theorem Iu{kindOf:Str->Option NameKind}{x:Str}{v:Value}:∀{P:LSz}{vs:LWz}{i:Nat}{m:MGz},P.Nodup->P[i]?=some x->vs[i]?=some v->kindOf x=some .local ->
  bindL kindOf (P.zip vs) m x=some v
 |[],_,_,_,_,h,_,_=>by simp at h
 |_::_,[],_,_,_,_,h,_=>by simp at h
 |p::P,w::vs,0,m,nd,h1,h2,hk=>by
  simp at h1 h2;subst h1;subst h2;show bindL kindOf ((p,w)::P.zip vs) m p=_;unfold bindL;rw[Ir λ v hv=>(bx.mp nd).1 (dU hv).1,if_pos hk];simp
 |p::P,w::vs,i+1,m,nd,h1,h2,hk=>by
  show bindL kindOf ((p,w)::P.zip vs) m x=_;unfold bindL;exact Iu (i:=i) (bx.mp nd).2 (by simpa using h1) (by simpa using h2) hk
theorem Iw{kindOf:Str->Option NameKind}{x:Str}{v:Value}:∀{P:LSz}{vs:LWz}{i:Nat}{m:MGz},P.Nodup->P[i]?=some x->vs[i]?=some v->kindOf x≠some .local ->
  bindC kindOf (P.zip vs) m x=some v
 |[],_,_,_,_,h,_,_=>by simp at h
 |_::_,[],_,_,_,_,h,_=>by simp at h
 |p::P,w::vs,0,m,nd,h1,h2,hk=>by
  simp at h1 h2;subst h1;subst h2;show bindC kindOf ((p,w)::P.zip vs) m p=_;unfold bindC;rw[Iv λ v hv=>(bx.mp nd).1 (dU hv).1,if_neg hk];simp
 |p::P,w::vs,i+1,m,nd,h1,h2,hk=>by
  show bindC kindOf ((p,w)::P.zip vs) m x=_;unfold bindC;exact Iw (i:=i) (bx.mp nd).2 (by simpa using h1) (by simpa using h2) hk
def start(N:LSz)(vs:LUz):St:=vs.map some++List.replicate (N.length-vs.length) none
def Bd(CX:CXT)(P:Program)(w:World)(K:Frag)(mg:MGz)(base:Heap)(N:LSz)(qual:Str)(scope:Scope)(f:Addr)(cd:Value)(A:Around)(outer:List Env)(s:Shared)(H:Hp)(E:XK):Cx where
 prog:=P
 w:=w
 K:=K
 mg:=mg
 base:=base
 A:=A.deeper (envOfC qual scope s.heap.objs.size f cd)
 N:=N
 s₀:=s
 H₀:=H
 env:=envOfC qual scope s.heap.objs.size f cd
 outer:=outer
 stack:=envOfC qual scope s.heap.objs.size f cd::outer
 ex:=[]
 calm:=true
 fn:=λ_=>true
 pn:=[]
 xe:=λ e s'=>wpAny (model P w) (A.deeper (envOfC qual scope s.heap.objs.size f cd)) (leaving (envOfC qual scope s.heap.objs.size f cd) e) (λ_ s''=>CX outer H s E e s'') (λ e' s''=>CX outer H s E e' s'') s'
theorem KR{sc:Scope}{n:Nat}{x:Str}(h:sc.names.lookup x=some .cell):∃c,(cellsFrom n sc.names []).lookup x=some c:=by
 have q:=cellsFrom_some sc.names n [] (.inl h);exact Option.isSome_iff_exists.mp q
theorem NK{CX:CXT}{P:Program}{w:World}{K:Frag}{mg:MGz}{base:Heap}{N ps:LSz}{qual:Str}{scope:Scope}{f:Addr}{cd:Value}{A:Around}{outer:List Env}{s s1:Shared}{H:Hp}{E:XK}{us:LWz}{vs:LUz}
  (S:Aj N ps scope) (hd:A.handled=none) (e0:Env0 P w K mg base A outer s H) (hl:vs.length=ps.length) (r:Vals vs us)
  (x:InCallC s s.heap.objs.size (bindL (envOfC qual scope s.heap.objs.size f cd).kindOf (ps.zip us) λ_=>none) (cellsFrom (s.heap.objs.size+1) scope.names []) (bindC (envOfC qual scope s.heap.objs.size f cd).kindOf (ps.zip us) λ_=>none) s1) :
  Inv (Bd CX P w K mg base N qual scope f cd A outer s H E) [] (start N vs) H s1:=by
 have hpl:ps.length<=N.length:=by have:=congrArg List.length S.pre;rw[bF]at this;lia
 obtain⟨h1,tk,rfl,hk⟩:=x.done;have noA:∀b:Addr,b∉(Bd CX P w K mg base N qual scope f cd A outer s H E).ex:=λ b z=>absurd (show b∈([]:List Addr) from z) (by simp);refine⟨⟨e0.mod,S.kind,rfl,rfl,aj _,λ y z c h1 h2=>?_,λ y hy=>?_,λ y c _ h=>?_,λ_=>hd,Around.frames_deeper e0.frames,.inr ⟨rfl,rfl⟩,λ b z=>absurd z (noA b),e0.bs,e0.bsz,λ b _ _=>noA b,λ b z=>absurd z (noA b),e0.funs,e0.frf⟩,
  rfl,e0.bare,Un.kept hk,⟨_,x.toInCall.ns,λ i y v h1 h2 h3=>?_⟩,λ y c h=>⟨_,x.cell y c h⟩,e0.hok.fresh (aj _),λ y c h=>?_,λ p hp=>absurd (show p∈([]:PNz) from hp) (by simp),e0.hok.kept hk,?_⟩
 .exact name_of_addr x.apart (PySem.mem_of_lookup h1) (PySem.mem_of_lookup h2)
 .have hy:scope.names.lookup y=some .cell\/scope.names.lookup y=some .free:=hy;rcases hy with hy|hy
  .exact KR hy
  .exact absurd rfl (S.nofree _ (PySem.mem_of_lookup hy))
 .exact ba (x.above y c (PySem.mem_of_lookup h))
 .have hi:i<vs.length:=by
   unfold start at h2;by_cases hi:i<vs.length
   .exact hi
   .rw[bj (by simpa using hi)]at h2;rw[List.getElem?_replicate]at h2;split at h2<;>cases h2
  have ha:vs[i]?=some v:=by
   unfold start at h2;rw[c8 (by simpa using hi),aE]at h2;cases e:vs[i]? with
   |none=>rw[e]at h2;cases h2
   |some a=>rw[e]at h2;cases h2;rfl
  obtain⟨u,hu,rv⟩:=r.get ha;have hp:ps[i]?=some y:=by
   rw[<-S.pre,List.getElem?_take_of_lt (by lia)];exact h1
  have ndP:ps.Nodup:=by rw[<-S.pre];exact S.nd.sublist (List.take_sublist _ _)
  refine⟨u,rv,?_⟩;rcases S.par y (ai hp) with k|k
  .exact .inl ⟨k,Iu ndP hp hu k⟩
  .obtain⟨c,e⟩:=KR (n:=s.heap.objs.size+1) k;refine .inr ⟨.inl k,c,e,?_⟩;have q:=x.cell y c e;rw[Iw ndP hp hu (by show scope.names.lookup y≠_;rw[k];decide)]at q;exact q
 .exact e0.hok.fresh (ba (x.above y c (PySem.mem_of_lookup h)))
 .unfold start;show _=N.length;rw[ak,ae,List.length_replicate];lia
theorem KF{CX:CXT}{P:Program}{w:World}{K:Frag}{mg:MGz}{base:Heap}{k:Nat}{f:Addr}{name qual:Str}{params:Arguments}{body:List Stmt}{scope:Scope}{dV kV doc pm cdv ct oc:Value}{an od:Option Addr}
  {osl:AOz} {N ps:LSz} {sp:Sp} (lk:K.lookup f=some ⟨oc,od,.func (fnOf name qual params body scope dV kV doc pm an cdv ct),osl⟩) (hcd:codeIn K cdv qual=true) (S:Aj N ps scope)
  (len:∀vs H Q E,sp vs H Q E->vs.length=ps.length)
  (hbody:∀(A:Around)(outer:List Env)(s:Shared)(H:Hp)(vs:LUz)(Q:VK)(E:XK),Room k (A.deeper (envOfC qual scope s.heap.objs.size f cdv))->sp vs H Q E ->
   ∃t,PSs (Bd CX P w K mg base N qual scope f cdv A outer s H E) body t/\t { nx:=λ_ H'=>Q .non H',rt:=Q } (start N vs) H) :
  A3 P w K mg base CX (k+1) f (fnOf name qual params body scope dV kV doc pm an cdv ct) ps sp:=by
 refine⟨len,λ A outer s H args us vs Q E hr e0 hb r hsp=>?_⟩;have hl:=len _ _ _ _ hsp;have KX:K.In s.heap:=e0.mod.kin.keeps λ b o e=>(e0.bs b o e).1;have lim:s.heap.NoLimit:=e0.mod.nolimit.keeps λ b o e=>(e0.bs b o e).1;have hkind:∀y∈ps.zip us,scope.names.lookup y.1=some .local\/(scope.names.lookup y.1=some .cell/\((cellsFrom (s.heap.objs.size+1) scope.names []).lookup y.1).isSome=true):=λ⟨n,v⟩ hy=>by
  rcases S.par n (dU hy).1 with q|q
  .exact .inl q
  .exact .inr ⟨q,cellsFrom_some _ _ _ (.inl q)⟩
 refine codeAny_call_function hr.depth (KX _ _ lk) rfl S.co S.gen rfl (codeRec_of KX hcd) (hb _ _ _ _ ?_);refine wpAny_newFunctionEnv_cells S.kind hkind λ env he s1 x=>?_;subst he;refine⟨lim.keeps x.toInCall.keep,codeAny_func ?_⟩;obtain⟨t,ht,hq⟩:=hbody A outer s H vs Q E (hr.deeper _) hsp;have I:Inv (Bd CX P w K mg base N qual scope f cdv A outer s H E) [] (start N vs) H s1:=NK S hr.hd e0 hl r x;refine wpAny_mono (ht [] s1 (start N vs) H _ I hq) (λ fl s' hs=>?_) λ e s' hs=>hs;have fin:∀{σ':St}{H':Hp}{v:V}{u:Value},Inv (Bd CX P w K mg base N qual scope f cdv A outer s H E) [] σ' H' s'->RelV v u->Q v H'->CE outer P w H s Q u s' :=
  λ{σ' H' v u} J rv q=>⟨v,H',J.os,J.bare,J.base,J.hok,rv,q⟩
 cases fl with
 |ret u =>
  obtain⟨v,σ',H',J,rv,q⟩:=hs;exact fin J rv q
 |next =>
  obtain⟨σ',H',J,q⟩:=hs;exact fin (v:=V.non) (u:=Value.none) J rfl q
 |brk =>
  obtain⟨_,_,_,q⟩:=hs;exact False.elim q
 |cont =>
  obtain⟨_,_,_,q⟩:=hs;exact False.elim q
section
variable{X:Cx}{x:Str}{p pos:Pos}{e:Expr}{es:List Expr}{t:TA}{id T:String}{r:LUz->Hp->VK->Prop}
def tCB(r:LUz->Hp->VK->Prop)(t:TA):TE:=λ σ H Q=>t σ H λ vs H1=>r vs H1 Q
theorem Ar(hc:CV X (.builtin id) r)(hg:Gl X x)(hm:X.mg x=none)(hv:bootBuiltins x=some (.builtin id))(ha:PA X (e::es) t)(hn:x≠"__name__":=by decide)(hdb:(x==("__debug__":Str))=false:=by decide)
  (he:starEach (e::es) X.env=(false,eval e X.env)::starEach es X.env:=by rfl) (hpl:(backTo pos (starEach es X.env)).any (·.1)=false:=by rfl):PE X (.Call (.Name x p) (e::es) [] pos) (tCB r t):=by
 intro pins s σ H Q I h;refine wpAny_Call_Name_kw (Fe I hg hm hv ?_ hn hdb);exact PyProof.Rows.callWith_builtin1 (thn (ha pos pins s σ H _ I h) λ us s1 ⟨vs,H1,I1,r1,q1⟩=>hc pins s1 σ H1 vs us Q I1 r1 q1) he hpl
theorem HU(hc:CV X (.type T) r)(hg:Gl X x)(hm:X.mg x=none)(hv:bootBuiltins x=some (.type T))(ha:PA X (e::es) t)(hn:x≠"__name__":=by decide)(hdb:(x==("__debug__":Str))=false:=by decide)
  (he:starEach (e::es) X.env=(false,eval e X.env)::starEach es X.env:=by rfl) (hpl:(backTo pos (starEach es X.env)).any (·.1)=false:=by rfl):PE X (.Call (.Name x p) (e::es) [] pos) (tCB r t):=by
 intro pins s σ H Q I h;refine wpAny_Call_Name_kw (Fe I hg hm hv ?_ hn hdb);exact PyProof.Rows.callWith_type1 (thn (ha pos pins s σ H _ I h) λ us s1 ⟨vs,H1,I1,r1,q1⟩=>hc pins s1 σ H1 vs us Q I1 r1 q1) he hpl
end
end L2
namespace HT
open PySem.W
open PySem PyProof.Rows
def lexLt:List Int->List Int->Bool
 |[],[]=>false
 |[],_::_=>true
 |_::_,[]=>false
 |x::xs,y::ys=>if x=y then lexLt xs ys else decide (x<y)
theorem lexLt_cons(x y:Int)(xs ys:List Int):lexLt (x::xs) (y::ys)=if x=y then lexLt xs ys else decide (x<y):=rfl
theorem lexLt_nil_nil:lexLt [] []=false:=rfl
theorem GI(y:Int)(ys:List Int):lexLt [] (y::ys)=true:=rfl
theorem GJ(x:Int)(xs:List Int):lexLt (x::xs) []=false:=rfl
theorem eqAt_int(A:Around)(s:Shared)(a:Int)(t:Tok)(c:Int)(u:Tok):∃e,SeqAt.EqAt A s (.int a t) (.int c u) e/\(e=true↔a=c) :=
 ⟨(a==c),SeqAt.EqAt.int_int a t c u,by simp⟩
theorem rcLt_int(A:Around)(s:Shared)(a:Int)(t:Tok)(c:Int)(u:Tok)(prog:Program)(w:World)(E:VPz)(Q:VPz)(h:Q (.bool (decide (a<c))) s) :
  wpAny (model prog w) A (richCompare .Lt (.int a t) (.int c u)) Q E s :=
 (PyProof.Rows.lt_int h:wpAny (model prog w) A (compareOp .Lt (.int a t) (.int c u)) Q E s)
section
open PySem.SeqAt
open PySem.AutoSeq1 (wpAny_loadPart')
open PySem.MeetsSeq PySem.MeetsSeq2 PySem.MeetsSeq3
theorem Hk(l b:Addr)(items items2:Array Value)(n n2:Nat)(dd dd2:Option Addr)(sl sl2:AOz)(ns ms:List Int)(hi:IntsAre items.toList ns)(hj:IntsAre items2.toList ms) :
  Meets (Builtin.«tuple.__lt__» ⟨[.ref l,.ref b],[]⟩)
   (λ_ R s=>s.heap.get? l=some { cls:=.type "tuple",dict:=dd,data:=.seq items n,slots:=sl }/\s.heap.get? b=some { cls:=.type "tuple",dict:=dd2,data:=.seq items2 n2,slots:=sl2 } /\
    R (.ok (.ret (.bool (lexLt ns ms)))) s) :=
 .of_wp λ prog w A R s h=>by
  obtain⟨hp,g,d,tk,os⟩:=s;obtain⟨hl,hb,h⟩:=h;have f2:=AutoSeq1.sub_tuple_tuple;have z1:items.size=ns.length:=by rw[<-hi.length];simp
  have z2:items2.size=ms.length:=by rw[<-hj.length];simp
  wp_walk using wpAny_loadPart' hl,wpAny_loadPart' hb,wpAny_forIn_list _ (λ rest b s'=>b.1=none/\s'=⟨hp,g,d,tk,os⟩/\∃(vs ws:LWz)(ns' ms':List Int),rest=vs.zip ws /\
   IntsAre vs ns'/\IntsAre ws ms'/\ns'.length+items2.size=ms'.length+items.size/\R (.ok (.ret (.bool (lexLt ns' ms')))) ⟨hp,g,d,tk,os⟩) _
  case turn =>
   rintro⟨y,x⟩ rest b s' ⟨hb',rfl,vs,ws,ns',ms',hz,hvi,hwi,hlen,hR⟩;cases hvi with
   |nil=>rw[List.zip_nil_left]at hz;cases hz
   |cons a t hvi' =>
    cases hwi with
    |nil=>rw[List.zip_nil_right]at hz;cases hz
    |cons c u hwi' =>
     rw[bJ]at hz;injection hz with hyx hrest;injection hyx with hy hx;subst hy hx;rw[lexLt_cons]at hR;simp only[aD]at hlen;obtain⟨e,he,hiff⟩:=eqAt_int A.in1 ⟨hp,g,d,tk,os⟩ a t c u;refine wpAny_bind (he prog w _ _ ?_);cases e with
     |true =>
      rw[if_pos (hiff.mp rfl)]at hR
      wp_walk
      exact⟨rfl,rfl,_,_,_,_,hrest,hvi',hwi',by lia,hR⟩
     |false =>
      rw[if_neg (λ q=>absurd (hiff.mpr q) au)]at hR;have hri:=rcLt_int A.in1 ⟨hp,g,d,tk,os⟩ a t c u prog w
      wp_walk using hri
      exact⟨_,rfl,by simpa using hR⟩
  case fin =>
   rintro⟨b1,b2⟩ s' ⟨hb',rfl,vs,ws,ns',ms',hz,hvi,hwi,hlen,hR⟩;simp only at hb';subst hb';have hv:lexLt ns' ms'=decide (items.size<items2.size):=by
    cases hvi with
    |nil =>
     cases hwi with
     |nil =>
      simp only[bO]at hlen;rw[lexLt_nil_nil];exact(decide_eq_false (by lia)).symm
     |cons c u hw =>
      simp only[bO,aD]at hlen;rw[GI];exact(decide_eq_true (by lia)).symm
    |cons a t hv =>
     cases hwi with
     |nil =>
      simp only[bO,aD]at hlen;rw[GJ];exact(decide_eq_false (by lia)).symm
     |cons c u hw =>
      rw[bJ]at hz;cases hz
   rw[hv]at hR
   wp_walk
   exact⟨_,rfl,by simpa [Builtin.Tuple.tupleCompareSizes] using hR⟩
  case h =>
   exact⟨rfl,rfl,items.toList,items2.toList,ns,ms,rfl,hi,hj,by lia,h⟩
end
section
variable{prog:Program}{w:World}{A:Around}{E:VPz}{s:Shared}
theorem lt_tupInts{l b:Addr}{items items2:Array Value}{ns ms:List Int}{Q:VPz}(hl:IsTup s.heap l items)(hb:IsTup s.heap b items2)(hi:IntsAre items.toList ns)(hj:IntsAre items2.toList ms)
  (hu:A.units<cLine) (h:Q (.bool (lexLt ns ms)) s):wpAny (model prog w) A (compareOp .Lt (.ref l) (.ref b)) Q E s:=by
 obtain⟨⟨cls,dd,data,sl⟩,ho,hc,n,hd⟩:=id hl;obtain⟨⟨cls2,dd2,data2,sl2⟩,ho2,hc2,n2,hd2⟩:=id hb;simp only at hc hd hc2 hd2;subst hc hd hc2 hd2;exact richCompare_meets_room (op:=.Lt) ⟨_,ho,rfl⟩ ⟨_,ho2,rfl⟩ eh eg (dZ _ _) (Hk l b items items2 n n2 dd dd2 sl sl2 ns ms hi hj)
  ⟨ho,ho2,show Value.bool (lexLt ns ms)≠eP/\Q (.bool (lexLt ns ms)) s from ⟨(λ x=>nomatch x),h⟩⟩ hu
def sIx(n d:Nat):Option Int->Nat
 |none=>d
 |some v=>if v<0 then (v+(n:Int)).toNat else min v.toNat n
theorem Ru(n d:Nat)(hd:d<=n)(o:Option Int):sIx n d o<=n:=by
 cases o with
 |none=>exact hd
 |some v =>
  show(if v<0 then (v+(n:Int)).toNat else min v.toNat n)<=n;by_cases hv:v<0
  .rw[if_pos hv];lia
  .rw[if_neg hv];exact Nat.min_le_right _ _
theorem Nb(v:Int)(n d:Nat):(if v<0 then max (v+(n:Int)) 0 else min v (n:Int))=((sIx n d (some v):Nat):Int):=by
 show(if v<0 then max (v+(n:Int)) 0 else min v (n:Int))=(((if v<0 then (v+(n:Int)).toNat else min v.toNat n):Nat):Int);by_cases hv:v<0
 .simp only[if_pos hv];lia
 .simp only[if_neg hv];lia
theorem Mq(lo hi:Option Int)(n:Nat):Builtin.Slice.sliceAdjust lo hi 1 (n:Int)=(((sIx n 0 lo:Nat):Int),((sIx n n hi:Nat):Int)):=by
 have h1:¬((1:Int)<0):=by lia
 unfold Builtin.Slice.sliceAdjust;simp only[h1,if_false];refine bW ?_ ?_
 .cases lo with
  |none=>rfl
  |some v=>exact Nb v n 0
 .cases hi with
  |none=>rfl
  |some v=>exact Nb v n n
theorem L3(i j:Nat):Builtin.Slice.slicePlaces (i:Int) (j:Int) 1=j-i:=by
 unfold Builtin.Slice.slicePlaces;have h1:(1:Int)>0:=by lia
 simp only[h1,if_true,Int.ediv_one];split<;>lia
theorem Go{v:Value}{o:Option Int}{Q:Option Int->Shared->Prop}(p:IsPart v o)(h:Q o s):wpAny (model prog w) A (Builtin.Slice.slicePartIndex v) Q E s:=by
 cases p with
 |none=>exact slicePart_none h
 |int i t=>exact slicePart_int h
theorem ER{sl:Addr}{vl vu:Value}{lo hi:Option Int}{n:Nat}{Q:Int×Int×Nat->Shared->Prop}(hs:s.heap.IsSliceOf sl vl vu .none)(pl:IsPart vl lo)(pu:IsPart vu hi)
  (h:Q (((sIx n 0 lo:Nat):Int),1,sIx n n hi-sIx n 0 lo) s):wpAny (model prog w) A (Builtin.Slice.sliceApplied (.ref sl) (pure (n:Int))) Q E s:=by
 obtain⟨os,hos,hcs,hds⟩:=id hs;unfold Builtin.Slice.sliceApplied Builtin.Slice.sliceFields;refine wpAny_bind (wpAny_bind (wpAny_field hos hds (x:=vl) rfl (wpAny_bind (wpAny_field hos hds (x:=vu) rfl (wpAny_bind (wpAny_field hos hds (x:=.none) rfl (wpAny_pure ?_)))))));refine wpAny_bind (slicePart_none ?_);show wpAny _ _ (if ((1:Int)==0)=true then _ else _) _ _ s;rw[if_neg (by decide)];refine wpAny_bind (Go pl (wpAny_bind (Go pu (wpAny_bind (wpAny_pure ?_)))));show wpAny _ _ (match Builtin.Slice.sliceAdjust lo hi 1 (n:Int) with|(lo,hi)=>pure (lo,(1:Int),Builtin.Slice.slicePlaces lo hi 1)) _ _ s;rw[Mq lo hi n];show wpAny _ _ (pure (((sIx n 0 lo:Nat):Int),(1:Int),Builtin.Slice.slicePlaces ((sIx n 0 lo:Nat):Int) ((sIx n n hi:Nat):Int) 1)) _ _ s;rw[L3];exact wpAny_pure h
theorem O5(xs:Array Value)(i k:Nat):((List.range k).filterMap λ(m:Nat)=>xs[((i:Int)+(m:Int)*1).toNat]?).toArray=((xs.toList.drop i).take k).toArray:=by
 have e:(λ(m:Nat)=>xs[((i:Int)+(m:Int)*1).toNat]?)=λ m=>xs[i+m]?:=by
  funext m
  have:((i:Int)+(m:Int)*1).toNat=i+m:=by lia
  rw[this]
 rw[e];have:=pick_run xs i k;rw[List.filterMap_map]at this;have e2:((λ x=>xs[x]?)∘λ x=>i+x)=λ m=>xs[i+m]?:=rfl;rw[e2]at this;rw[this]
theorem getItem_tuple_cut{t sl:Addr}{items:Array Value}{vl vu:Value}{lo hi:Option Int}{Q:VPz}(ht:IsTup s.heap t items)(hs:s.heap.IsSliceOf sl vl vu .none)(pl:IsPart vl lo)(pu:IsPart vu hi)
  (hw:¬(sIx items.size 0 lo=0/\sIx items.size items.size hi=items.size))
  (h:Q (.ref s.heap.objs.size) { s with heap:=s.heap.push { cls:=.type "tuple",data:=.seq ((items.toList.drop (sIx items.size 0 lo)).take (sIx items.size items.size hi-sIx items.size 0 lo)).toArray } })
  (hsz:items.size<=sizeLine):wpAny (model prog w) A (getItem (.ref t) (.ref sl)) Q E s:=by
 have htake:sizeOk (.seq ((items.toList.drop (sIx items.size 0 lo)).take (sIx items.size items.size hi-sIx items.size 0 lo)).toArray):=by
  show((items.toList.drop (sIx items.size 0 lo)).take (sIx items.size items.size hi-sIx items.size 0 lo)).toArray.size<=sizeLine;rw[am,bF,b8,bT];lia
 have hj:sIx items.size items.size hi<=items.size:=Ru _ _ (aj _) hi;obtain⟨os,hos,hcs,hds⟩:=id hs;have hTs:s.TypeIs (.ref sl) "slice":=⟨os,hos,hcs⟩;unfold getItem
 try with_reducible refine wpAny_holding ?_
 first|refine wpAny_bind (wpAny_pure ?_)|skip
 refine wpAny_bind (wpAny_sequenceKey ht.typeIs (by decide) ?_);refine wpAny_bind (wpAny_callSpecial?_slot (name:=Str.ofString "__getitem__") ht.typeIs PyProof.Rows.slot_tuple_getitem
  (wpAny_call_entry PyProof.Rows.slot_tuple_getitem ht.typeIs entry_tuple_getitem ?_ (args_tuple_getitem _ _)))
 show wpAny _ _ (Builtin.Tuple.tupleItemsOf (.ref t) >>= _) _ _ s;refine wpAny_bind (tupleItemsOf_ ht ?_);refine wpAny_bind (wpAny_typeOf hTs ?_);rw[if_pos (by decide)];refine wpAny_bind (ER hs pl pu ?_);have hno:¬((((sIx items.size 0 lo:Nat):Int)==0&&(1:Int)==1&&(sIx items.size items.size hi-sIx items.size 0 lo)==items.size)=true):=by
  intro q;rw[aP,aP]at q;have q1:((sIx items.size 0 lo:Nat):Int)=0:=eq_of_beq q.1.1;have q2:sIx items.size items.size hi-sIx items.size 0 lo=items.size:=eq_of_beq q.2;exact hw ⟨by lia,by lia⟩
 show wpAny _ _ (if (((sIx items.size 0 lo:Nat):Int)==0&&(1:Int)==1&&(sIx items.size items.size hi-sIx items.size 0 lo)==items.size)=true then _ else _) _ _ s;rw[if_neg hno,O5]
 first
  |exact wpAny_bind (m:=Builtin.Tuple.tupleExact _) (wpAny_newObj_type (wpAny_pure ⟨_,rfl,wpAny_pure h⟩) htake)
  |exact wpAny_bind (m:=Builtin.Tuple.tupleExact _) (wpAny_newObj_type (wpAny_bind (wpAny_pure (wpAny_pure ⟨_,rfl,wpAny_pure h⟩))) htake)
  |exact wpAny_bind (wpAny_bind (m:=Builtin.Tuple.tupleExact _) (wpAny_newObj_type (wpAny_pure (wpAny_pure ⟨_,rfl,wpAny_pure h⟩)) htake))
  |exact wpAny_bind (wpAny_bind (m:=Builtin.Tuple.tupleExact _) (wpAny_newObj_type (wpAny_pure ⟨_,rfl,wpAny_pure h⟩) htake))
end
end HT
namespace L2
open PySem.W
open PySem PySem.Spec PyProof.Rows
abbrev TO:=St->Hp->(Option Int->Hp->Prop)->Prop
def PO(X:Cx)(e:Option Expr)(t:TO):Prop :=
 ∀(pins:PNz)(s:Shared)(σ:St)(H:Hp)(Q:Option Int->Hp->Prop),Inv X pins σ H s->t σ H Q ->
  wpAny (model X.prog X.w) X.A (evalPart e X.env) (λ u s'=>∃o H',Inv X pins σ H' s'/\IsPart u o/\Q o H') X.xe s
def P9:TO:=λ_ H Q=>Q none H
def Sm(t:TE):TO:=λ σ H Q=>t σ H λ x H1=>∃i,x=.int i/\Q (some i) H1
theorem GO{ns:List Int}:∀{us:LWz},Vals (ns.map V.int) us->IntsAre us ns:=by
 induction ns with
 |nil=>intro us r;rw[dm]at r;cases r;exact .nil
 |cons n ns ih =>
  intro us r;rw[aL]at r;cases r with
  |cons r1 r2 =>
   obtain⟨t,e⟩:=r1;subst e;exact .cons n t (ih r2)
section
variable{X:Cx}{e:Expr}{te:TE}{lo hi:Option Expr}{tl th:TO}{pos p2:Pos}
theorem Jc:PO X none P9:=by
 intro pins s σ H Q I h;rw[evalPart_none];exact wpAny_pure ⟨none,H,I,.none,h⟩
theorem E4(h:PE X e te):PO X (some e) (Sm te):=by
 intro pins s σ H Q I hw;rw[evalPart_some];refine thn (h pins s σ H _ I hw) λ u s1 hz_=>?_;obtain⟨x,H1,I1,r1,q1⟩:=hz_;obtain⟨i,rfl,q⟩:=q1;obtain⟨t,rfl⟩:=r1;exact⟨some i,H1,I1,.int i t,q⟩
def SlR(X:Cx)(r:V->Option Int->Option Int->Hp->VK->Prop):Prop :=
 ∀(pins:PNz)(s:Shared)(σ:St)(H:Hp)(x:V)(v vl vu:Value)(lo hi:Option Int)(sl:Addr)(Q:VK),Inv X pins σ H s->RelV x v->s.heap.IsSliceOf sl vl vu .none->IsPart vl lo->IsPart vu hi->r x lo hi H Q ->
  ∃T id,typeLookup (.type T) "__getitem__"=pure (some (.builtin id))/\s.TypeIs v T/\wpAny (model X.prog X.w) X.A (getItem v (.ref sl)) (EP X pins σ Q) X.xe s
def tSl(r:V->Option Int->Option Int->Hp->VK->Prop)(te:TE)(tl th:TO):TE:=λ σ H Q=>te σ H λ x H1=>tl σ H1 λ l H2=>th σ H2 λ u H3=>r x l u H3 Q
theorem E6{r:V->Option Int->Option Int->Hp->VK->Prop}(hr:SlR X r)(he:PE X e te)(hl:PO X lo tl)(hu:PO X hi th):PE X (.Subscript e (.Slice lo hi none p2) pos) (tSl r te tl th):=by
 intro pins s σ H Q I h;refine Subscript_ (thn (he pins s σ H _ I h) λ v s1 hz_=>?_);obtain⟨x,H1,I1,r1,q1⟩:=hz_;refine wpAny_Slice (thn (hl pins s1 σ H1 _ I1 q1) λ vl s2 hz_=>?_);obtain⟨l,H2,I2,pl,q2⟩:=hz_;refine thn (hu pins s2 σ H2 _ I2 q2) λ vu s3 hz_=>?_;obtain⟨u,H3,I3,pu,q3⟩:=hz_;rw[evalPart_none];refine wpAny_pure ?_;have I4:Inv X pins σ H3 { s3 with heap:=s3.heap.push { cls:=.type "slice",data:=.fields #[vl,vu,.none] } }:=I3.kept (t':=s3.toks) λ b ob q=>af _ q;obtain⟨T,id,hT,ht,hg⟩:=hr pins { s3 with heap:=s3.heap.push { cls:=.type "slice",data:=.fields #[vl,vu,.none] } } σ H3 x v vl vu l u s3.heap.objs.size Q I4 r1 (Heap.IsSliceOf.new ..) pl pu q3;show wpAny (model X.prog X.w) X.A (subscriptTail e (.Slice lo hi none p2) v (.ref s3.heap.objs.size)) (EP X pins σ Q) X.xe { s3 with heap:=s3.heap.push { cls:=.type "slice",data:=.fields #[vl,vu,.none] } };exact tail_any (ops:=[.ref s3.heap.objs.size,v]) ht hT hg (by with_unfolding_all rfl)
def Bt(xs:LUz)(lo hi:Option Int):LUz:=(xs.drop (HT.sIx xs.length 0 lo)).take (HT.sIx xs.length xs.length hi-HT.sIx xs.length 0 lo)
theorem Fw(xs:LUz)(lo hi:Option Int):(Bt xs lo hi).length<=xs.length:=by
 unfold Bt;rw[bF,b8];lia
def T8(K:Frag):V->Option Int->Option Int->Hp->VK->Prop:=λ x lo hi H Q=>∃a xs,x=.ref a/\SqT K H a xs /\
 ¬(HT.sIx xs.length 0 lo=0/\HT.sIx xs.length xs.length hi=xs.length)/\∀p,H p=none->Q (.ref p) (upd H p (.tup (Bt xs lo hi)))
theorem Rs:SlR X (T8 X.K):=by
 intro pins s σ H x v vl vu lo hi sl Q I rx hs pl pu h;obtain⟨a,xs,rfl,hx,hw,q⟩:=h;cases rx;obtain⟨its,r,ht,hz⟩:=I.tuple hx;have hlen:its.toArray.size=xs.length:=by rw[am];exact r.length.symm
 refine⟨"tuple",_,PyProof.Rows.slot_tuple_getitem.lookup,ht.typeIs,?_⟩;refine HT.getItem_tuple_cut ht hs pl pu (by rw[hlen];exact hw) ?_ (by rw[hlen];exact hz);rw[hlen];refine⟨.ref s.heap.objs.size,_,I.laid (t':=s.toks) (o:=.tup (Bt xs lo hi)) (λ b ob q=>af _ q) (aj _) ?_,rfl,q _ (I.hok.fresh (aj _))⟩;exact⟨aS (Fw xs lo hi) hz,_,(r.drop (HT.sIx xs.length 0 lo)).take (HT.sIx xs.length xs.length hi-HT.sIx xs.length 0 lo),IsTup.new _ _⟩
end
def ixN(n:Nat)(i:Int):Option Nat:=if 0<=i then (if i<n then some i.toNat else none) else if -(n:Int)<=i then some (i+n).toNat else none
def atI{α:Type}(xs:List α)(i:Int):Option α:=(ixN xs.length i).bind λ j=>xs[j]?
theorem MO{n:Nat}{i:Int}{j:Nat}(h:ixN n i=some j):seqIndex? i n=some j/\j<n/\-(n:Int)<=i/\i<n:=by
 unfold ixN at h;by_cases h0:0<=i
 .rw[if_pos h0]at h;by_cases h1:i<n
  .rw[if_pos h1]at h;have e:i.toNat=j:=Option.some.inj h;exact⟨by rw[seqIndex_of h0 h1,e],by lia,by lia,h1⟩
  .rw[if_neg h1]at h;cases h
 .rw[if_neg h0]at h;by_cases h1:-(n:Int)<=i
  .rw[if_pos h1]at h;have e:(i+n).toNat=j:=Option.some.inj h;exact⟨by rw[seqIndex_neg (by lia) h1,e],by lia,h1,by lia⟩
  .rw[if_neg h1]at h;cases h
theorem JF{α:Type}{xs:List α}{i:Int}{v:α}(h:atI xs i=some v):∃j,seqIndex? i xs.length=some j/\xs[j]?=some v/\j<xs.length/\-(xs.length:Int)<=i/\i<xs.length:=by
 unfold atI at h;cases e:ixN xs.length i with
 |none=>rw[e]at h;cases h
 |some j =>
  rw[e]at h;obtain⟨h1,h2,h3,h4⟩:=MO e;exact⟨j,h1,h,h2,h3,h4⟩
theorem Bs{α:Type}{xs:List α}{j:Nat}{v:α}(h:xs[j]?=some v):atI xs (j:Int)=some v:=by
 have hj:j<xs.length:=(av.mp h).1;have e:ixN xs.length (j:Int)=some j:=by
  unfold ixN;rw[if_pos (by lia),if_pos (by lia)];simp
 unfold atI;rw[e];exact h
theorem Pu{α:Type}(xs:List α)(v:α):atI (xs++[v]) (-1)=some v:=by
 have hl:(xs++[v]).length=xs.length+1:=by simp
 have e:ixN (xs++[v]).length (-1)=some xs.length:=by
  unfold ixN;rw[hl,if_neg (by decide),if_pos (by lia)];congr 1;lia
 unfold atI;rw[e];show(xs++[v])[xs.length]?=some v;simp
def QE(b:Expr):Prop:=∀o i,subscripted b false o i=operate [o,i] (getItem o i)
def IxR(X:Cx)(r:R2):Prop :=
 ∀(value slice:Expr)(pins:PNz)(s:Shared)(σ:St)(H:Hp)(x y:V)(v u:Value)(Q:VK),Inv X pins σ H s->RelV x v->RelV y u->r x y H Q ->
  subscripted slice false v u=operate [v,u] (getItem v u)->wpAny (model X.prog X.w) X.A (subscriptTail value slice v u) (EP X pins σ Q) X.xe s
def MtR(X:Cx)(id:String)(r:V->LUz->Hp->VK->Prop):Prop :=
 ∀(pins:PNz)(s:Shared)(σ:St)(H:Hp)(x:V)(xs:LUz)(v:Value)(us:LWz)(Q:VK),Inv X pins σ H s->RelV x v->Vals xs us->r x xs H Q ->
  wpAny (model X.prog X.w) X.A (call (.builtin id) (v::us)) (EP X pins σ Q) X.xe s
section
variable{X:Cx}{a b:Expr}{ta tb:TE}{pos:Pos}
theorem IxR.or{r r':R2}(h:IxR X r)(h':IxR X r'):IxR X (λ x y H Q=>r x y H Q\/r' x y H Q):=by
 intro value slice pins s σ H x y v u Q I rx ry q hs;rcases q with q|q
 .exact h value slice pins s σ H x y v u Q I rx ry q hs
 .exact h' value slice pins s σ H x y v u Q I rx ry q hs
theorem Ak{r:R2}(hr:IxR X r)(ha:PE X a ta)(hb:PE X b tb)(hs:QE b):PE X (.Subscript a b pos) (tOp r ta tb):=by
 intro pins s σ H Q I h;exact Subscript_ (RV ha hb I h λ v u s2 x y H2 I2 rx ry q=>hr a b pins s2 σ H2 x y v u Q I2 rx ry q (hs _ _))
inductive Tf(K:Frag)(x y:V)(H:Hp)(Q:VK):Prop
 |mk (p:Addr) (xs:LUz) (i:Int) (v:V) (e1:x=.ref p) (e2:y=.int i) (s:SqL K H p xs) (a:atI xs i=some v) (q:Q v H):Tf K x y H Q
inductive Te(K:Frag)(x y:V)(H:Hp)(Q:VK):Prop
 |mk (p:Addr) (xs:LUz) (i:Int) (v:V) (e1:x=.ref p) (e2:y=.int i) (s:SqT K H p xs) (a:atI xs i=some v) (q:Q v H):Te K x y H Q
def Rx(K:Frag):R2:=λ x y H Q=>Tf K x y H Q
def Rw(K:Frag):R2:=λ x y H Q=>Te K x y H Q
def S9:R2:=λ x y H Q=>∃z i c,x=.str z/\y=.int i/\z.length<=sizeLine/\atI z.cps.toList i=some c/\Q (.str ⟨#[c]⟩) H
theorem ix_list:IxR X (Rx X.K):=by
 intro value slice pins s σ H x y v u Q I rx ry h hs;obtain⟨p,xs,i,z,rfl,rfl,hq,he,q⟩:=h;cases rx;obtain⟨t,rfl⟩:=ry;obtain⟨its,r,pl,hz⟩:=I.list hq;obtain⟨j,h1,h2,h3,h4,h5⟩:=JF he;obtain⟨w,ew,rw'⟩:=r.get h2;have hl:=r.length;have hn:=Fd;have fin:EP X pins σ Q w s:=⟨z,H,I,rw',q⟩;by_cases h0:0<=i
 .have hj:i.toNat=j:=by
   rw[seqIndex_of h0 h5]at h1;exact Option.some.inj h1
  exact item_listR pl.isList h0 (by lia) (by rw[hj];simpa using ew) fin hs
 .have hj:(i+(its.toArray.size:Int)).toNat=j:=by
   rw[seqIndex_neg (by lia) h4]at h1;rw[am,<-hl];exact Option.some.inj h1
  exact subscriptTail_builtinR (x:=w) pl.isList.typeIs slot_list_getitem.lookup
   (wpAny_getItem_list_neg (Q:=λ r s'=>r=w/\EP X pins σ Q r s') pl.isList (by lia) (by rw[am]<;>lia) (by lia) (by rw[hj];simpa using ew) ⟨rfl,fin⟩) hs
theorem ix_tup:IxR X (Rw X.K):=by
 intro value slice pins s σ H x y v u Q I rx ry h hs;obtain⟨p,xs,i,z,rfl,rfl,hq,he,q⟩:=h;cases rx;obtain⟨t,rfl⟩:=ry;obtain⟨its,r,pl,hz⟩:=I.tuple hq;obtain⟨j,h1,h2,h3,h4,h5⟩:=JF he;obtain⟨w,ew,rw'⟩:=r.get h2;have hl:=r.length;have hn:=Fd;have fin:EP X pins σ Q w s:=⟨z,H,I,rw',q⟩;exact subscriptTail_builtinR (x:=w) pl.typeIs slot_tuple_getitem.lookup
  (getItem_tuple (j:=j) (Q:=λ r s'=>r=w/\EP X pins σ Q r s') pl (by lia) (by lia) (by rw[am,<-hl];exact h1) (by simpa using ew) ⟨rfl,fin⟩) hs
theorem RJ:IxR X S9:=by
 intro value slice pins s σ H x y v u Q I rx ry h hs;obtain⟨z,i,c,rfl,rfl,hz,he,q⟩:=h;obtain⟨t,rfl⟩:=rx;obtain⟨t',rfl⟩:=ry;obtain⟨j,h1,h2,h3,h4,h5⟩:=JF he;have hl:z.cps.toList.length=z.length:=by simp[Str.length]
 rw[hl]at h1 h4 h5;have hn:=Fd;exact tail_any (typeIs_str s z t) slot_str_getitem.lookup (getItem_str (c:=c) (by
  have e1:decide (i < -(2^63:Int))=false:=decide_eq_false (by lia);have e2:decide (i>=2^63)=false:=decide_eq_false (by lia);rw[e1,e2,Bool.or_false]) (by rw[h1];simpa using h2) ⟨.str ⟨#[c]⟩,H,I.tok _,⟨_,rfl⟩,q⟩) hs
def rIx(K:Frag):R2:=λ x y H Q=>Rx K x y H Q\/Rw K x y H Q\/S9 x y H Q
theorem LU:IxR X (rIx X.K):=ix_list.or (ix_tup.or RJ)
theorem LM(its:LWz)(n j:Nat)(u:Value):Obj.mapSeq (·.setIfInBounds j u) { cls:=.type "list",data:=.seq its.toArray n }={ cls:=.type "list",data:=.seq (its.set j u).toArray n }:=by
 simp[Obj.mapSeq]
theorem Inv.lst{pins:PNz}{σ:St}{H:Hp}{s:Shared}{p:Addr}{xs:LUz}(I:Inv X pins σ H s)(h:H p=some (.lst xs)) :
  ∃(its:LWz)(n:Nat),Vals xs its/\s.heap.get? p=some { cls:=.type "list",data:=.seq its.toArray n }/\xs.length<=sizeLine:=by
 obtain⟨z,its,n,r,e⟩:=I.hok p _ h;exact⟨its,n,r,e,z⟩
theorem Inv.lstUpd{pins:PNz}{σ:St}{H:Hp}{s:Shared}{p:Addr}{xs ys:LUz}{its its':LWz}{n n':Nat}{f:Obj->Obj}(I:Inv X pins σ H s)(h:H p=some (.lst xs))
  (ho:s.heap.get? p=some { cls:=.type "list",data:=.seq its.toArray n }) (hf:f { cls:=.type "list",data:=.seq its.toArray n }={ cls:=.type "list",data:=.seq its'.toArray n' }) (r:Vals ys its') (hz:ys.length<=sizeLine) (t:Nat) :
  Inv X pins σ (upd H p (.lst ys)) { s with heap:=s.heap.update p f,toks:=t }:=by
 have e:(s.heap.update p f).get? p=some { cls:=.type "list",data:=.seq its'.toArray n' }:=by
  rw[bD f ho (by rw[hf]<;>rfl),hf]
 refine I.write (x:=p) (e:=p) (by rw[h];trivial) (.inl rfl) (λ b u hb q=>(aV _ _ (Ne.symm hb)).trans q) ⟨_,e⟩ ?_;exact⟨hz,its',n',r,e⟩
def S8:V->V->V->Hp->(Hp->Prop)->Prop:=λ o i v H Q=>∃p xs k j,o=.ref p/\i=.int k/\H p=some (.lst xs)/\ixN xs.length k=some j/\Q (upd H p (.lst (xs.set j v)))
theorem Ov:Ta X S8:=by
 intro pins s σ H o i v ov iv u Q I ro ri rv h;obtain⟨p,xs,k,j,rfl,rfl,hp,hj,q⟩:=h;cases ro;obtain⟨t,rfl⟩:=ri;obtain⟨its,n,r,ho,hz⟩:=I.lst hp;obtain⟨h1,h2,h3,h4⟩:=MO hj;have hl:=r.length;have hn:=Fd;have I':Inv X pins σ (upd H p (.lst (xs.set j v))) { s with heap:=s.heap.update p (Obj.mapSeq (·.setIfInBounds j u)) } :=
  I.lstUpd hp ho (LM its n j u) (r.set rv j) (by rw[dw];exact hz) s.toks
 by_cases h0:0<=k
 .have hk:k.toNat=j:=by
   rw[seqIndex_of h0 h4]at h1;exact Option.some.inj h1
  exact ki_setAt ho h0 (by lia) (by rw[am,<-hl];exact h4) (by rw[hk];exact⟨_,I',q⟩)
 .have hk:(k+(its.toArray.size:Int)).toNat=j:=by
   rw[seqIndex_neg (by lia) h3]at h1;rw[am,<-hl];exact Option.some.inj h1
  exact ki_setBack ho (by lia) (by rw[am,<-hl];exact h3) (by lia) (by rw[hk];exact⟨_,I',q⟩)
theorem IS(lo hi:Option Int)(n:Nat):(sliceBounds lo hi none n).1=((HT.sIx n 0 lo:Nat):Int)/\(sliceBounds lo hi none n).2.1=((HT.sIx n n hi:Nat):Int)/\(sliceBounds lo hi none n).2.2=1:=by
 refine⟨?_,?_,rfl⟩
 .cases lo with
  |none=>simp[sliceBounds,HT.sIx]
  |some i =>
   simp only[sliceBounds,HT.sIx,Option.getD_none,show(1:Int)>0 by decide,if_true];by_cases h:i<0
   .simp only[h,if_true]<;>lia
   .simp only[h,if_false]<;>lia
 .cases hi with
  |none=>simp[sliceBounds,HT.sIx]
  |some i =>
   simp only[sliceBounds,HT.sIx,Option.getD_none,show(1:Int)>0 by decide,if_true];by_cases h:i<0
   .simp only[h,if_true]<;>lia
   .simp only[h,if_false]<;>lia
theorem Hl(its:LWz)(lo hi:Option Int):slicePick its.toArray lo hi none=((its.drop (HT.sIx its.length 0 lo)).take (HT.sIx its.length its.length hi-HT.sIx its.length 0 lo)).toArray:=by
 obtain⟨h1,h2,h3⟩:=IS lo hi its.toArray.size;unfold slicePick;rw[h1,h2,h3];simp only[sliceRange_one,pick_run,am]<;>rfl
def T9(K:Frag):V->Option Int->Option Int->Hp->VK->Prop:=λ x lo hi H Q=>∃a xs,x=.ref a/\SqL K H a xs/\∀p,H p=none->Q (.ref p) (upd H p (.lst (Bt xs lo hi)))
theorem IT:SlR X (T9 X.K):=by
 intro pins s σ H x v vl vu lo hi sl Q I rx hs pl pu h;obtain⟨a,xs,rfl,hx,q⟩:=h;cases rx;obtain⟨its,r,ht,hz⟩:=I.list hx;have hlen:=r.length;refine⟨"list",_,slot_list_getitem.lookup,ht.isList.typeIs,?_⟩;refine wpAny_getItem_list_slice ht.isList hs pl pu .none (by simp) ?_ (by rw[am]<;>lia);rw[Hl,<-hlen];refine⟨.ref s.heap.objs.size,_,I.laid (t':=s.toks) (o:=.lst (Bt xs lo hi)) (λ b ob q=>af _ q) (aj _) ?_,rfl,q _ (I.hok.fresh (aj _))⟩;exact⟨aS (Fw xs lo hi) hz,_,0,(r.drop (HT.sIx xs.length 0 lo)).take (HT.sIx xs.length xs.length hi-HT.sIx xs.length 0 lo),aH _ rfl⟩
def Bp:V->Bool
 |.non=>true
 |.bl _=>true
 |.int _=>true
 |.str _=>true
 |_=>false
def eqV:V->V->Bool
 |.non,.non=>true
 |.bl a,.bl b=>a==b
 |.bl a,.int b=>(if a then 1 else 0)==b
 |.int a,.bl b=>a==(if b then 1 else 0)
 |.int a,.int b=>a==b
 |.str a,.str b=>a==b
 |_,_=>false
theorem Mc{A:Around}{s:Shared}{y x:V}{u v:Value}(ry:RelV y u)(rx:RelV x v)(fy:Bp y=true)(fx:Bp x=true):SeqAt.EqAt A s u v (eqV y x):=by
 cases y with
 |non =>
  cases ry;cases x with
  |non=>cases rx;exact SeqAt.EqAt.same _
  |bl b=>cases rx;exact SeqAt.EqAt.none_bool b
  |int b=>obtain⟨t,rfl⟩:=rx;exact SeqAt.EqAt.none_int b t
  |str b=>obtain⟨t,rfl⟩:=rx;exact SeqAt.EqAt.none_str b t
  |_=>exact absurd (show false=true from fx) au
 |bl a =>
  cases ry;cases x with
  |non=>cases rx;exact SeqAt.EqAt.bool_none a
  |bl b=>cases rx;exact SeqAt.EqAt.bool_bool a b
  |int b=>obtain⟨t,rfl⟩:=rx;exact SeqAt.EqAt.bool_int a b t
  |str b=>obtain⟨t,rfl⟩:=rx;exact SeqAt.EqAt.bool_str a b t
  |_=>exact absurd (show false=true from fx) au
 |int a =>
  obtain⟨t',rfl⟩:=ry;cases x with
  |non=>cases rx;exact SeqAt.EqAt.int_none a t'
  |bl b=>cases rx;exact SeqAt.EqAt.int_bool a t' b
  |int b=>obtain⟨t,rfl⟩:=rx;exact SeqAt.EqAt.int_int a t' b t
  |str b=>obtain⟨t,rfl⟩:=rx;exact SeqAt.EqAt.int_str a t' b t
  |_=>exact absurd (show false=true from fx) au
 |str a =>
  obtain⟨t',rfl⟩:=ry;cases x with
  |non=>cases rx;exact SeqAt.EqAt.str_none a t'
  |bl b=>cases rx;exact SeqAt.EqAt.str_bool a t' b
  |int b=>obtain⟨t,rfl⟩:=rx;exact SeqAt.EqAt.str_int a t' b t
  |str b=>obtain⟨t,rfl⟩:=rx;exact SeqAt.EqAt.str_str a t' b t
  |_=>exact absurd (show false=true from fx) au
 |_=>exact absurd (show false=true from fy) au
def eqU(x:V)(u:Value):Bool:=match u with
 |.none=>eqV .non x
 |.bool b=>eqV (.bl b) x
 |.int i _=>eqV (.int i) x
 |.str z _=>eqV (.str z) x
 |_=>false
theorem Pg{x y:V}{u:Value}(r:RelV y u)(f:Bp y=true):eqU x u=eqV y x:=by
 cases y with
 |non=>cases r;rfl
 |bl b=>cases r;rfl
 |int i=>obtain⟨t,rfl⟩:=r;rfl
 |str z=>obtain⟨t,rfl⟩:=r;rfl
 |_=>exact absurd (show false=true from f) au
theorem JG{x:V}:∀{xs:LUz}{us:LWz},Vals xs us->xs.all Bp=true->us.any (eqU x)=xs.any λ y=>eqV y x
 |_,_,.nil,_=>rfl
 |y::xs,u::us,.cons r t,f=>by
  rw[eK,aP]at f;rw[cj,cj,Pg r f.1,JG t f.2]
theorem GF{A:Around}{s:Shared}{x:V}{v:Value}(rx:RelV x v)(fx:Bp x=true):∀{xs:LUz}{us:LWz},Vals xs us->xs.all Bp=true->∀u∈us,SeqAt.EqAt A s u v (eqU x u)
 |_,_,.nil,_=>λ u hu=>by cases hu
 |y::xs,u::us,.cons r t,f=>λ u' hu=>by
  rw[eK,aP]at f;rcases aA.mp hu with rfl|hu
  .rw[Pg r f.1];exact Mc r rx f.1 fx
  .exact GF rx fx t f.2 u' hu
def inV(x:V)(xs:LUz):Bool:=xs.any λ y=>eqV y x
def rIn(K:Frag)(neg:Bool):R2:=λ x y H Q=>∃p xs,y=.ref p/\(SqL K H p xs\/SqT K H p xs)/\Bp x=true/\xs.all Bp=true/\Q (.bl (if neg then !inV x xs else inV x xs)) H
theorem N3:OpR X (compareOp .In) (rIn X.K false):=by
 intro pins s σ H x y v u Q I rx ry h;obtain⟨p,xs,rfl,hq,fx,fs,q⟩:=h;cases ry;rcases hq with hq|hq
 .obtain⟨its,r,pl,hz⟩:=I.list hq;refine SeqAt.in_listAt (eqU x) pl.isList (λ w hw=>GF rx fx r fs w (by simpa using hw)) ⟨.bl _,H,I,rfl,?_⟩;rw[show its.toArray.any (eqU x)=its.any (eqU x) by simp,JG r fs];exact q
 .obtain⟨its,r,pl,hz⟩:=I.tuple hq;refine SeqAt.in_tupleAt (eqU x) pl (λ w hw=>GF rx fx r fs w (by simpa using hw)) ⟨.bl _,H,I,rfl,?_⟩;rw[show its.toArray.any (eqU x)=its.any (eqU x) by simp,JG r fs];exact q
theorem A1:CV X (.builtin "len") (λ xs H Q=>∃p ys,xs=[.ref p]/\(SqL X.K H p ys\/SqT X.K H p ys)/\Q (.int ys.length) H):=by
 intro pins s σ H xs us Q I r h;obtain⟨p,ys,rfl,hq,q⟩:=h;obtain⟨u,rfl,rx⟩:=HG r;cases rx;have hn:=Fd;rcases hq with hq|hq
 .obtain⟨its,r',pl,hz⟩:=I.list hq;have hlen:=r'.length;exact Calls.call_len_list pl.isList (by simp only[am]<;>lia) ⟨.int ys.length,H,I.tok _,⟨s.toks+1,by rw[am,hlen]⟩,q⟩
 .obtain⟨its,r',pl,hz⟩:=I.tuple hq;have hlen:=r'.length;exact len_tuple pl (by simp only[am]<;>lia) ⟨.int ys.length,H,I.tok _,⟨s.toks+1,by rw[am,hlen]⟩,q⟩
theorem EG:CV X (.type "list") (λ xs H Q=>∃p ys,xs=[.ref p]/\(SqL X.K H p ys\/SqT X.K H p ys)/\∀l,H l=none->Q (.ref l) (upd H l (.lst ys))):=by
 intro pins s σ H xs us Q I r h;obtain⟨p,ys,rfl,hq,q⟩:=h;obtain⟨u,rfl,rx⟩:=HG r;cases rx;have fin:∀(its:LWz),Vals ys its->ys.length<=sizeLine->∀(h':Heap)(c':Nat),(∀b o',s.heap.get? b=some o'->h'.get? b=some o') ->
   h'.get? s.heap.objs.size=some { cls:=.type "list",dict:=none,data:=.seq its.toArray c',slots:=#[] }->EP X pins σ Q (.ref s.heap.objs.size) { s with heap:=h' }:=λ its r' hz h' c' kp e =>
  ⟨.ref s.heap.objs.size,_,I.laid (t':=s.toks) kp (aj _) (show ObjOk X.prog X.w _ h' _ (.lst ys) from ⟨hz,its,c',r',e⟩),rfl,q _ (I.hok.fresh (aj _))⟩
 rcases hq with hq|hq
 .obtain⟨its,r',pl,hz⟩:=I.list hq;have hlen:=r'.length;obtain⟨o,ho,hc,n,hd⟩:=pl.isList;exact call_list_seq p (.inl rfl) ho hc hd (λ h' c' kp e=>fin its r' hz h' c' kp e) (by simp only[am]<;>lia)
 .obtain⟨its,r',pl,hz⟩:=I.tuple hq;have hlen:=r'.length;obtain⟨o,ho,hc,n,hd⟩:=pl;exact call_list_seq p (.inr rfl) ho hc hd (λ h' c' kp e=>fin its r' hz h' c' kp e) (by simp only[am]<;>lia)
def tyV(K:Frag)(T:String)(x:V)(H:Hp):Prop:=match x with
 |.str _=>T="str"
 |.int _=>T="int"
 |.ref p=>(T="list"/\∃xs,SqL K H p xs)\/(T="tuple"/\∃o,K.lookup p=some o/\o.cls=.type "tuple"/\o.dict=none) \/
   (T="dict"/\((∃kvs,H p=some (.dK kvs))\/∃kvs,H p=some (.dT kvs)))\/(T="set"/\∃S n,H p=some (.set S n))
 |_=>False
theorem Oi{pins:PNz}{σ:St}{H:Hp}{s:Shared}{T:String}{x:V}{v:Value}(I:Inv X pins σ H s)(r:RelV x v)(ty:tyV X.K T x H) :
  s.TypeIs v T/\∀a,v=.ref a->∃ob,s.heap.get? a=some ob/\ob.dict=none:=by
 cases x with
 |str z =>
  obtain⟨t,rfl⟩:=r;cases(show T="str" from ty);exact⟨typeIs_str s z t,λ_ e=>nomatch e⟩
 |int i =>
  obtain⟨t,rfl⟩:=r;cases(show T="int" from ty);exact⟨typeIs_int s i t,λ_ e=>nomatch e⟩
 |ref p =>
  cases r;rcases ty with ⟨rfl,xs,hq⟩|⟨rfl,o,hk,hc,hd⟩|⟨rfl,hk⟩|⟨rfl,S,n,hk⟩
  .obtain⟨its,_,pl,_⟩:=I.list hq;refine⟨pl.isList.typeIs,λ a e=>?_⟩;cases e;obtain⟨o,n,e,c,hd,_⟩:=pl;exact⟨o,e,hd⟩
  .refine⟨⟨o,I.kIn p o hk,hc⟩,λ a e=>?_⟩;cases e;exact⟨o,I.kIn _ o hk,hd⟩
  .have z:∃o,s.heap.get? p=some o/\o.ExactDict:=by
    rcases hk with ⟨kvs,hk⟩|⟨kvs,hk⟩
    .obtain⟨_,_,_,_,o,_,_,e,ex,_⟩:=I.hok p _ hk;exact⟨o,e,ex⟩
    .obtain⟨_,_,_,_,o,_,_,e,ex,_⟩:=I.hok p _ hk;exact⟨o,e,ex⟩
   obtain⟨o,e,ex⟩:=z;refine⟨⟨o,e,ex.1⟩,λ a e2=>?_⟩;cases e2;exact⟨o,e,ex.2.1⟩
  .obtain⟨o,_,_,_,e,ex,_⟩:=I.hok p _ hk;refine⟨⟨o,e,ex.1⟩,λ a e2=>?_⟩;cases e2;exact⟨o,e,ex.2.1⟩
 |_=>exact False.elim ty
def Tv(K:Frag)(T:String)(r:V->LUz->Hp->VK->Prop)(to:TE):TE:=λ σ H Q=>to σ H λ x H1=>tyV K T x H1/\r x [] H1 Q
def tBM(K:Frag)(T:String)(r:V->LUz->Hp->VK->Prop)(to:TE)(t:TA):TE:=λ σ H Q=>to σ H λ x H1=>tyV K T x H1/\t σ H1 λ xs H2=>r x xs H2 Q
variable{o e:Expr}{es:List Expr}{to:TE}{t:TA}{name:Str}{apos cpos:Pos}{T id:String}{r:V->LUz->Hp->VK->Prop}
theorem Ji(pa:PlainAttrs T)(slot:Slot T name id)(hty:typeOf (.builtin id)=pure (.type "method_descriptor"))(hm:MtR X id r)(ho:PE X o to)
  (hbase:attributeBase o name X.env (eval o X.env)=eval o X.env:=by rfl) (hline:(apos.endLine==cpos.line)=true:=by rfl):PE X (.Call (.Attribute o name apos) [] [] cpos) (Tv X.K T r to):=by
 intro pins s σ H Q I h;refine wpAny_Call_method0_late hbase hline (thn (ho pins s σ H _ I h) λ v s1 hz_=>?_);obtain⟨x,H1,I1,r1,ty,q1⟩:=hz_;obtain⟨h1,h2⟩:=Oi I1 r1 ty;exact⟨T,id,pa,slot,hty,h1,h2,Calls.callWith_builtin rfl (PySem.evalArgs_none (hm pins s1 σ H1 x [] v [] Q I1 r1 .nil q1))⟩
theorem OC(pa:PlainAttrs T)(slot:Slot T name id)(hty:typeOf (.builtin id)=pure (.type "method_descriptor"))(hm:MtR X id r)(ho:PE X o to)(ha:PA X (e::es) t)
  (hbase:attributeBase o name X.env (eval o X.env)=eval o X.env:=by rfl)
  (hfew:((backTo cpos (starEach (e::es) X.env)).all (λ x=>!x.1)&&(backToKw cpos (keywordEach [] X.env)).all (λ x=>x.1.isSome)
  &&decide ((e::es).length+([]:List Keyword).length+(if ([]:List Keyword).isEmpty then 0 else 1)<30))=true:=by rfl)
  (hline:(apos.endLine==cpos.line)=true:=by rfl) (hs:starEach (e::es) X.env=(false,eval e X.env)::starEach es X.env:=by rfl) (hplain:(backTo cpos (starEach es X.env)).any (·.1)=false:=by rfl) :
  PE X (.Call (.Attribute o name apos) (e::es) [] cpos) (tBM X.K T r to t):=by
 intro pins s σ H Q I h;refine wpAny_Call_method_late hbase hfew hline rfl (thn (ho pins s σ H _ I h) λ v s1 hz_=>?_);obtain⟨x,H1,I1,r1,ty,q1⟩:=hz_;obtain⟨h1,h2⟩:=Oi I1 r1 ty;refine⟨T,id,pa,slot,hty,h1,h2,?_⟩;have hA:=ha cpos pins s1 σ H1 _ I1 q1;rw[hs]at hA |-;refine Calls.callWith_builtin (by show(false||(backTo cpos (starEach es X.env)).any (·.1))=false;rw[hplain]<;>rfl) (Calls.evalArgs_plain ?_);exact thn hA λ us s2 ⟨vs,H2,I2,r2,q2⟩=>hm pins s2 σ H2 x vs v us Q I2 r1 r2 q2
/- xs.append(e),list.index on a module's tuple .. are MtR facts of 06m -/
end
def MtM(X:Cx)(id:String)(r:V->LUz->Hp->VK->Prop):Prop :=
 ∀(pins:PNz)(s:Shared)(σ:St)(H:Hp)(x:V)(xs:LUz)(v:Value)(us:LWz)(Q:VK),Inv X pins σ H s->RelV x v->Vals xs us->r x xs H Q ->
  wpAny (model X.prog X.w) X.A (call (.builtin id) (v::us)) (EP X pins σ Q) X.xe s
theorem Vals.one:∀{x:V}{us:LWz},Vals [x] us->∃u,us=[u]/\RelV x u
 |_,_,.cons r .nil=>⟨_,rfl,r⟩
theorem Vals.zero:∀{us:LWz},Vals [] us->us=[]
 |_,.nil=>rfl
theorem Vals.dropLast{xs:LUz}{us:LWz}(h:Vals xs us):Vals xs.dropLast us.dropLast:=by
 induction h with
 |nil=>exact .nil
 |cons r t ih =>
  cases t with
  |nil=>exact .nil
  |cons q t'=>exact .cons r ih
theorem Vals.rep{xs:LUz}{us:LWz}(h:Vals xs us):∀k:Nat,Vals (List.replicate k xs).flatten (List.replicate k us).flatten
 |0=>.nil
 |k+1=>by
  rw[cg,cg,de,de];exact Vals.append h (Vals.rep h k)
theorem Mb{α:Type}(l:List α):l.eraseIdx (l.length-1)=l.dropLast:=by
 induction l with
 |nil=>rfl
 |cons a r ih =>
  cases r with
  |nil=>rfl
  |cons b r =>
   have e:(a::b::r).length-1=((b::r).length-1)+1:=by
    have h1:(a::b::r).length=r.length+2:=rfl;have h2:(b::r).length=r.length+1:=rfl;lia
   rw[e,List.eraseIdx_cons_succ,ih]
   all_goals rfl
theorem Il(its:LWz):∀(k:Nat)(acc:LWz),
  List.foldl (λ x1 x2=>x1++x2) acc.toArray (List.replicate k its.toArray)=(acc++(List.replicate k its).flatten).toArray
 |0,acc=>by simp
 |k+1,acc=>by
  have e:acc.toArray++its.toArray=(acc++its).toArray:=by simp
  have e2:(acc++its)++(List.replicate k its).flatten=acc++(List.replicate (k+1) its).flatten:=by
   rw[cg,de,aK]
  rw[<-e2,<-Il its k (acc++its),<-e,cg,List.foldl_cons]
section
variable{X:Cx}{pins:PNz}{σ:St}{H:Hp}{s:Shared}{l b:Addr}{xs ys zs:LUz}
theorem Inv.lset{its its':LWz}{n:Nat}{f:Array Value->Array Value}{t':Nat}(I:Inv X pins σ H s)(hH:H l=some (.lst xs))
  (e:s.heap.get? l=some { cls:=.type "list",data:=.seq its.toArray n }) (hf:f its.toArray=its'.toArray) (hv:Vals ys its') (hz:ys.length<=sizeLine) :
  Inv X pins σ (upd H l (.lst ys)) { s with heap:=s.heap.update l (Obj.mapSeq f),toks:=t' }:=by
 have q:=PySem.IsL.update e f;rw[hf]at q;refine I.write (x:=l) (e:=l) (by rw[hH];exact trivial) (.inl rfl) (λ b' u hb hu=>(aV s.heap (Obj.mapSeq f) (Ne.symm hb)).trans hu) ⟨_,q⟩ ?_;exact⟨hz,its',_,hv,q⟩
theorem Inv.lnew{its:LWz}{t':Nat}(I:Inv X pins σ H s)(hv:Vals ys its)(hz:ys.length<=sizeLine) :
  Inv X pins σ (upd H s.heap.objs.size (.lst ys)) { s with heap:=s.heap.push { cls:=.type "list",data:=.seq its.toArray },toks:=t' } :=
 I.laid (λ_ _ q=>af _ q) (aj _) ⟨hz,its,0,hv,aH _ rfl⟩
theorem Inv.fresh(I:Inv X pins σ H s):H s.heap.objs.size=none:=I.hok.fresh (aj _)
theorem Inv.lstM(I:Inv X pins σ H s)(hH:H l=some (.lst xs)):xs.length<=sizeLine/\∃(its:LWz)(n:Nat),Vals xs its/\xs.length=its.length/\s.heap.get? l=some { cls:=.type "list",data:=.seq its.toArray n }:=by
 obtain⟨z,its,n,r,e⟩:=I.hok l _ hH;exact⟨z,its,n,r,r.length,e⟩
theorem Ku{n:Nat}(h:n<=sizeLine):Builtin.List.listTooLong n=false:=by
 unfold Builtin.List.listTooLong;exact decide_eq_false (by lia)
end
section
variable{X:Cx}
def M7:V->LUz->Hp->VK->Prop:=λ x vs H Q=>∃l xs y,x=.ref l/\vs=[y]/\H l=some (.lst xs)/\xs.length<sizeLine/\Q .non (upd H l (.lst (xs++[y])))
theorem EZ:MtM X "list.append" M7:=by
 intro pins s σ H x vs v us Q I rx rv h;obtain⟨l,xs,y,rfl,rfl,hH,hz,q⟩:=h;cases rx;obtain⟨u,rfl,ru⟩:=rv.one;obtain⟨z,its,n,r,hl,e⟩:=I.lstM hH;refine call_meets F.slot_list_append ⟨_,e,rfl⟩ F.entry_list_append (F.args_list_append_2 _ _) (PySem.list_append l its.toArray n u (by rw[am];lia)) ⟨e,?_⟩;refine⟨.non,_,I.lset (its':=its++[u]) hH e (by simp) (r.append (.cons ru .nil)) ?_,rfl,q⟩;rw[ak,aM];lia
def PR:V->LUz->Hp->VK->Prop:=λ x vs H Q=>∃l b xs zs,x=.ref l/\vs=[.ref b]/\H l=some (.lst xs)/\H b=some (.lst zs)/\xs.length+zs.length<=sizeLine/\Q .non (upd H l (.lst (xs++zs)))
theorem N9:MtM X "list.extend" PR:=by
 intro pins s σ H x vs v us Q I rx rv h;obtain⟨l,b,xs,zs,rfl,rfl,hH,hB,hz,q⟩:=h;cases rx;obtain⟨u,rfl,ru⟩:=rv.one;cases ru;obtain⟨z,its,n,r,hl,e⟩:=I.lstM hH;obtain⟨z2,its2,n2,r2,hl2,e2⟩:=I.lstM hB;have hsz:its.toArray.size+its2.toArray.size<=sizeLine:=by rw[am,am];lia
 have hlong:¬(!its.toArray.isEmpty&&Builtin.List.listTooLong (its.toArray.size+its2.toArray.size))=true:=by
  rw[Ku hsz,cC];exact au
 refine call_meets F.slot_list_extend ⟨_,e,rfl⟩ F.entry_list_extend (F.args_list_extend_2 _ _)
  (AutoSeq1.list_extend_list_list_0 l its.toArray n b its2.toArray n2 hlong (by rw[am];lia) (by lia)) ⟨e,e2,?_⟩
 refine⟨.non,_,I.lset (its':=its++its2) hH e (by simp) (r.append r2) ?_,rfl,q⟩;rw[ak];lia
def TC:V->LUz->Hp->VK->Prop:=λ x vs H Q=>∃l xs y,x=.ref l/\vs=[]/\H l=some (.lst xs)/\xs[xs.length-1]?=some y/\Q y (upd H l (.lst xs.dropLast))
theorem Jp:MtM X "list.pop" TC:=by
 intro pins s σ H x vs v us Q I rx rv h;obtain⟨l,xs,y,rfl,rfl,hH,hy,q⟩:=h;cases rx;have hus:=rv.zero;subst hus;obtain⟨z,its,n,r,hl,e⟩:=I.lstM hH;obtain⟨u,hu,ru⟩:=r.get hy;have hy':its.toArray[its.toArray.size-1]?=some u:=by
  show its.toArray[its.length-1]?=some u;rw[<-eO,<-hl];exact hu
 refine call_meets F.slot_list_pop ⟨_,e,rfl⟩ F.entry_list_pop (F.args_list_pop_1 _) (MeetsSeq.list_pop_last l its.toArray n u hy' (by rw[am];lia)) ⟨e,?_⟩;refine⟨y,_,I.lset (its':=its.dropLast) hH e ?_ r.dropLast ?_,ru,q⟩
 .show its.toArray.eraseIdxIfInBounds (its.toArray.size-1)=its.dropLast.toArray;rw[am,List.eraseIdxIfInBounds_toArray,Mb]
 .rw[List.length_dropLast];lia
inductive Th(x y:V)(H:Hp)(Q:VK):Prop
 |mk (l b:Addr) (xs zs:LUz) (e1:x=.ref l) (e2:y=.ref b) (h1:H l=some (.lst xs)) (h2:H b=some (.lst zs)) (n:xs.length+zs.length<=sizeLine) (q:∀p,H p=none->Q (.ref p) (upd H p (.lst (xs++zs)))):Th x y H Q
def TF:R2:=λ x y H Q=>Th x y H Q
theorem OH:OpR X (binaryOp .Add) TF:=by
 intro pins s σ H x y v u Q I rx ry h;obtain⟨l,b,xs,zs,rfl,rfl,hH,hB,hz,q⟩:=h;cases rx;cases ry;obtain⟨z,its,n,r,hl,e⟩:=I.lstM hH;obtain⟨z2,its2,n2,r2,hl2,e2⟩:=I.lstM hB;refine PySem.P.add_list e e2 ?_ (by rw[am,am];lia);have ea:its.toArray++its2.toArray=(its++its2).toArray:=by simp
 rw[ea];exact⟨.ref _,_,I.lnew (t':=s.toks) (r.append r2) (by rw[ak];lia),rfl,q _ I.fresh⟩
def TB:R2:=λ x y H Q=>∃l k xs,x=.ref l/\y=.int k/\H l=some (.lst xs)/\-(2^63)<=k/\k<2^63/\xs.length*k.toNat<=sizeLine /\
 ∀p,H p=none->Q (.ref p) (upd H p (.lst (List.replicate k.toNat xs).flatten))
theorem ML{α:Type}(xs:List α)(k:Nat):(List.replicate k xs).flatten.length=k*xs.length:=by
 induction k with
 |zero=>simp
 |succ k ih=>rw[cg,de,ak,ih,Nat.succ_mul,Nat.add_comm]
theorem R8:OpR X (binaryOp .Mult) TB:=by
 intro pins s σ H x y v u Q I rx ry h;obtain⟨l,k,xs,rfl,rfl,hH,h1,h2,hz,q⟩:=h;cases rx;obtain⟨t,rfl⟩:=ry;obtain⟨z,its,n,r,hl,e⟩:=I.lstM hH;have hlen:its.toArray.size*k.toNat<=sizeLine:=by rw[am,<-hl];exact hz
 have hcap:¬its.toArray.size*k.toNat>(2^63-1) / 8:=by
  have:(sizeLine:Nat)<=(2^63-1) / 8:=by decide
  lia
 have hfit:¬(!Builtin.List.listFitsIndex k)=true:=by
  rw[fitsIndex_both h1 h2];exact au
 have hlong:¬Builtin.List.listTooLong (its.toArray.size*k.toNat)=true:=by
  rw[Ku hlen];exact au
 have hnew:List.foldl (λ x1 x2=>x1++x2) #[] (List.replicate (if its.toArray.isEmpty=true then 0 else k.toNat) its.toArray)=(List.replicate k.toNat its).flatten.toArray:=by
  have f0:∀m:Nat,List.foldl (λ x1 x2=>x1++x2) #[] (List.replicate m its.toArray)=(List.replicate m its).flatten.toArray:=λ m=>by
   have:=Il its m [];rw[bX]at this;exact this
  rw[f0];cases its with
  |nil=>simp
  |cons a r'=>rw[if_neg (by simp)]
 refine wpAny_binaryOp_repeat_ref (T:="list") (U:="int") (by decide) ⟨_,e,rfl⟩ (λ s'=>typeIs_int s' k t) noFill_list_mul F.fills_int_mul F.slot_int_rmul repeat_list F.slot_int_index.lookup
  (call_meets F.slot_int_rmul (typeIs_int s k t) F.entry_int_rmul (F.args_int_rmul_2 _ _) (int___rmul___int_list k t l its.toArray n)
   ⟨e,rfl,⟨_,e,rfl⟩,call_meets F.slot_list_mul ⟨_,e,rfl⟩ F.entry_list_mul (F.args_list_mul_2 _ _) (AutoListH.list___mul___list_int_3 l its.toArray n k t hfit hcap hlong) ⟨e,?_⟩⟩)
 rw[hnew];exact⟨.ref _,_,I.lnew (t':=s.toks) (r.rep k.toNat) (by rw[ML,Nat.mul_comm];exact hz),rfl,q _ I.fresh⟩
end
end L2
namespace Att
open PySem.W
open PySem PySem.Calls PyProof.Rows
theorem FF{P:Params}{h:Heap}:∀(ns:List Int)(vs:LWz),WellAll P h vs (ns.map WData.int)->IntsAre vs ns:=by
 intro ns
 induction ns with
 |nil =>
  intro vs w;rw[dm]at w;cases w;exact .nil
 |cons n ns ih =>
  intro vs w;rw[aL]at w;cases w with
  |cons a b =>
   cases a;exact .cons _ _ (ih _ b)
theorem Nz{l:OpenLaw}{n:Nat}(hn:l.most=some n){P:Params}{h:Heap}{args:List WData}{vals:LWz}
  (hpre:l.row.toRowW.claim.pre args=true) (hwl:WellAll P h vals args) :
  ∃a vs ns,vals=[Value.ref a]/\args=[WData.list (ns.map WData.int)]/\h.get? a=some { cls:=.type "list",data:=.seq vs.toArray }/\IntsAre vs ns/\ns.length<=n:=by
 have hsh:WShape.hasAll [] args [.list .int]=true:=(pre_splitW hpre).1;have hc:l.pre.holds [] { args:=args }=true:=(pre_splitW hpre).2;obtain⟨d,r,rfl,h1,h2⟩:=hasAllW_cons hsh;obtain rfl:=hasAllW_nil h2;obtain⟨xs,rfl,h3⟩:=hasW_list h1;obtain⟨ns,rfl⟩:=items_int h3;have hlen:ns.length<=n:=by
  unfold OpenLaw.pre at hc;have h4:(WTm.not (.lt (.lit (.int (n:Int))) (.len (.arg 0)))).holds [] { args:=[.list (ns.map .int)] }=true:=by
   have h4:=(holds_andW hc).1;rw[hn]at h4;exact h4
  have h5:=condW_of h4 (w_not (w_lt w_lit (w_len_list (w_arg rfl))));rw[ae]at h5;refine Nat.le_of_not_lt λ q=>?_;have q':(n:Int)<((ns.length:Nat):Int):=by lia
  first
   | (rw[decide_eq_true q']at h5;exact absurd h5 (by decide))
   | (simp at h5;lia)
 cases hwl with
 |cons w1 w2 =>
  cases w2;cases w1 with
  |list ho hall=>exact⟨_,_,ns,rfl,rfl,ho,FF ns _ hall,hlen⟩
theorem N0(l:OpenLaw)(args:List WData):l.row.toRowW.claim.post args (.bool true) args=true :=
 postW_of (r:=l.row.toRowW) (X:=(true==true))
  (show WShape.has [] (.bool true) .bool=true by first|rfl|decide|simp[WShape.has,WShape.arms,WShape.armsAll])
  (show(WTm.eq .res (.lit (.bool true))).value [] { args:=args,res:=some (.bool true),after:=args }=some (.bool (true==true)) from w_eq_bool (w_res rfl) w_lit) rfl
theorem attach_call{l:OpenLaw}{n:Nat}{q:Program}{loose:LSz}{XP:(MGz)->Heap->Prop}{YP:World->Heap->Prop}{d:DefRec}
  (hn:l.most=some n) (hdf:d.params.defaults=[])
  (call:∀(w:World)(s₀ s₁:Shared)(mg mb:MGz)(fa:Addr)(o:Obj)(pm cd doc:Value)(a:Addr)(vs:LWz)(ns:List Int),
   Ground q loose [] XP w s₀ mg mb s₁.heap->YP w s₁.heap ->
   s₁.heap.get? fa=some o->o.data=.func (docDef d.name d.params d.body d.scope pm cd doc)->s₁.heap.CodeRec cd d.name->mg d.name=some (.ref fa) ->
   s₁.heap.get? a=some { cls:=.type "list",data:=.seq vs.toArray }->IntsAre vs ns->ns.length<=n->s₁.gens=#[] ->
   codeAny (model l.prog w) callerA (.call (.ref fa) ⟨[.ref a],[]⟩) (λ r s'=>r=.ok (.ret (.bool true))/\OldK s₁.heap s'.heap/\s'.os=s₁.os/\AllBare s'.gens) s₁) :
  WalkO q loose XP YP l.row.toRowW d [] (λ f vs=>PySem.call f vs):=by
 intro w s₀ s₁ mg mb G Y fa o pm cd doc dV kV ho hd hcd hD hmg hg args vals as hpre hlay hrd hwl hlo;obtain rfl:dV=.none:=Dflts.none hD hdf;obtain rfl:kV=.none:=Dflts.noKw hD;obtain⟨a,vs,ns,rfl,rfl,hobj,hints,hlen⟩:=Nz hn hpre hwl;refine enter_call (codeAny_mono (call w s₀ s₁ mg mb fa o pm cd doc a vs ns G Y ho (fd_plain hd) hcd hmg hobj hints hlen hg) λ r s' hq=>?_);obtain⟨rfl,h2,h3,h4⟩:=hq;exact⟨.inl ⟨.bool true,.bool true,[],rfl,λ_=>rfl,.bool true,N0 l _,λ_=>⟨List.Pairwise.nil,λ_ hm=>(nomatch hm)⟩⟩,h2,h3,h4⟩
end Att
namespace L2
open PySem.W
open PySem PySem.Spec PyProof.Rows
theorem Hz:∀{vs:LWz}{ns:List Int},IntsAre vs ns->Vals (ns.map V.int) vs
 |_,_,.nil=>.nil
 |_,_,.cons n t h=>.cons ⟨t,rfl⟩ (Hz h)
end L2
/- THE LAST THEOREM (shape;LID,My.* are yours):
  My.Adr: a structure of the addresses that your layer names (classes,functions);My.Txt K t: a structure (Prop) of the equations over K;
  My.txt_mk:{K} {implicit addresses ..} (e1:nsIn K mainGlobals "law"=some (some (.ref f))) (e2:K.lookup f=some ⟨oc,od,.func (fnOf "law" "law" params body scope dV kV doc pm an cdv ct),sl⟩) (e3:codeIn K cdv "law"=true) ..:∃t,My.Txt K t
set_option maxRecDepth 100000 in
set_option maxHeartbeats 0 in
theorem PySem.Challenge.cw_LID_holds:PySem.Challenge.rw_LID.Holds:=by
 w_on;o_law;k_head;(case hw=>w_witness2)
 k_fill
 refine L2.walk_of (l:=PySem.Challenge.rw_LID) (n:=63) (k:=40) (x:="script") (CX:=λ w=>..) (sp:=λ_=>My.sp_law) rfl (by decide) rfl ⟨rfl,by decide,by decide⟩ (λ w h Y=>kIn_of Y) ?F ?S ?C
 case F =>
  intro w mg fa h KX G hmg;have T:∃t,My.Txt (L2.KOf KX) t:=by
   dsimp only[L2.KOf]                          -- K must stand as «<heap const> w.params» for k_is;refine' My.txt_mk ?e1 ?e2 ?e3 ..
   (case e1=>k_is)                    -- in the order: a name -> its address -> its object -> its parts
   (case e2=>k_is)
   ..
  obtain⟨t,T⟩:=T;have e0:=hmg.symm.trans (mg_of KX G T.law);cases e0                                       -- fa is the law's own address;exact⟨_,λ s u=>.of_eq rfl,λ base kb nb=>My.law_fn T kb nb⟩     -- if «.of_eq rfl» comes too early: refine'⟨_,?b,λ base kb nb=>My.law_fn T kb nb⟩;exact λ s u=>.of_eq rfl
 case S=>exact λ w H a ns hl hO hS=>..
 case C=>exact ..
(the tactic k_is has no namespace: write k_is) -/
namespace L2
open PySem.W
open PySem PySem.Spec PyProof.Rows
def A0(s:Stmt)(j:Nat):Stmt:=match s with
 |.ClassDef _ _ _ body _ _ _ _ _ _ _=>body.getD j (.Pass ⟨0,0,0,0⟩)
 |_=>.Pass ⟨0,0,0,0⟩
def AV(s:Stmt):Arguments:=match s with
 |.FunctionDef _ a _ _ _ _ _ _ _ _=>a
 |_=>{ posonlyargs:=[],args:=[],vararg:=none,kwonlyargs:=[],kw_defaults:=[],kwarg:=none,defaults:=[] }
def Ap(s:Stmt):List Stmt:=match s with
 |.FunctionDef _ _ b _ _ _ _ _ _ _=>b
 |_=>[]
def Ad(s:Stmt):Scope:=match s with
 |.FunctionDef _ _ _ _ _ _ sc _ _ _=>sc
 |_=>{ kind:=.function,names:=[],isGenerator:=false,isCoroutine:=false }
abbrev CX0:CXT:=λ_ _ _ _ _ _=>False
abbrev E0:XK:=λ_ _ _=>False
theorem HV{X:Cx}:B7 CX0 X E0:=λ_ _ _ _ _ _ _ h=>h.elim
structure Fun(K:Frag)(x qual:Str)(st:Stmt)(f:Addr)(fd:FuncData):Prop where
 ex:∃(oc:Value)(od:Option Addr)(kV doc pm:Value)(an:Option Addr)(cdv ct:Value)(osl:AOz),
  fd=fnOf x qual (AV st) (Ap st) (Ad st) .none kV doc pm an cdv ct/\K.lookup f=some ⟨oc,od,.func fd,osl⟩/\codeIn K cdv qual=true
 kp:keepIn K (.ref f)=true
section
variable{P:Program}{w:World}{K:Frag}{mg:MGz}{base:Heap}
theorem Fun.ok{x qual:Str}{st:Stmt}{f:Addr}{fd:FuncData}{N ps:LSz}{k:Nat}{sp:Sp}(F:Fun K x qual st f fd)(S:Aj N ps (Ad st))(len:∀vs H Q E,sp vs H Q E->vs.length=ps.length)
  (hbody:∀(cdv:Value)(A:Around)(outer:List Env)(s:Shared)(H:Hp)(vs:LUz)(Q:VK)(E:XK),Room k (A.deeper (envOfC qual (Ad st) s.heap.objs.size f cdv))->sp vs H Q E ->
   ∃t,PSs (Bd CX0 P w K mg base N qual (Ad st) f cdv A outer s H E).nox (Ap st) t/\t { nx:=λ_ H'=>Q .non H',rt:=Q } (start N vs) H):A3 P w K mg base CX0 (k+1) f fd ps sp:=by
 obtain⟨oc,od,kV,doc,pm,an,cdv,ct,osl,rfl,lk,hcd⟩:=F.ex;refine KF lk hcd S len λ A outer s H vs Q E hr hsp=>?_;obtain⟨t,h,q⟩:=hbody cdv A outer s H vs Q E hr hsp;exact⟨t,h.nox,q⟩
theorem Fun.binds{x qual:Str}{st:Stmt}{f:Addr}{fd:FuncData}{ps:LSz}(F:Fun K x qual st f fd)
  (h:∀(kV doc pm:Value)(an:Option Addr)(cdv ct:Value)(us:LWz),us.length=ps.length->bindArgs (fnOf x qual (AV st) (Ap st) (Ad st) .none kV doc pm an cdv ct) ⟨us,[]⟩=pure (ps.zip us)):Binds K fd ps []:=by
 obtain⟨oc,od,kV,doc,pm,an,cdv,ct,osl,rfl,lk,hcd⟩:=F.ex;exact .all (h kV doc pm an cdv ct)
end
theorem Fu{A:Around}{k:Nat}(hr:Room k A):A.units+1<cLine:=bL (Nat.add_le_add_left (by decide:1<=64) _) hr.units
theorem At{n:Nat}(h:n<=1000):n<sizeLine:=bL h (by decide)
section
variable{X:Cx}
theorem pv(i:Nat){x:Str}{pos:Pos}(hN:X.N[i]?=some x:=by rfl)(hv:Vis X.env.scope x:=by first|exact aF rfl|exact eV (aF rfl)|exact eV (eV rfl))(hd:(x==("__debug__":Str))=false:=by decide)
  (hcd:(x==("__classdict__":Str))=false:=by decide):PE X (.Name x pos) (Nt i):=O6 hN hv hd hcd
end
theorem Qs{A B:Prop}(h:B):if false=true then A else B:=by
 rw[if_neg au];exact h
theorem NI{A B:Prop}(h:A):if true=true then A else B:=by
 rw[if_pos rfl];exact h
def Same(H H':Hp):Prop:=∀b o,H b=some o->H' b=some o
theorem Same.refl(H:Hp):Same H H:=λ_ _ h=>h
theorem Same.trans{H H1 H2:Hp}(a:Same H H1)(b:Same H1 H2):Same H H2:=λ c o h=>b c o (a c o h)
theorem Same.seq{K:Frag}{H H':Hp}{a:Addr}{xs:LUz}(e:Same H H')(h:SqL K H a xs):SqL K H' a xs:=by
 rcases h with (h|⟨o,h⟩)|h
 .exact .inl (.inl (e _ _ h))
 .exact .inl (.inr ⟨o,e _ _ h⟩)
 .exact .inr h
end L2
set_option maxHeartbeats 4000000
namespace L2
open PySem.W
open PySem PyProof.Rows
def Ib{α β:Type}(oS:Program->LSz->LSz->(Shared->Bool)->Bool->Shared->α)(ms:LSz)(p q:Program)(lo:LSz)(Xt:Shared->Bool)(Yf:Shared->β)(h0:Heap)(s:Shared):Bool×α×β :=
 ((((staticsOk ms h0 s.heap&&namesBound p s.heap)&&gensDone s)&&laidKept h0 s.heap),oS q lo ms Xt true s,Yf s)
noncomputable abbrev Dy(P:Params)(os:OsState):Shared:=Shared.mk (boot_heap P) (Array.mk []) boot_drawn boot_toks os
theorem NC{p q:Program}{lo:LSz}{Xt:Shared->Bool}{β:Type}{Yf:Shared->β}{Ya:World->β}{N m:Nat}{an:Option Value}
  (bo:∀w:World,Option.map (λ s=>(s.heap,s.gens,s.drawn,s.toks)) (fencedOpening treeTable p w N)=some (boot_heap w.params,Array.mk [],boot_drawn,boot_toks))
  (sz:∀w:World,((boot_heap w.params).isNs mainGlobals,(boot_heap w.params).objs.size,(boot_heap w.params).nsMap mainGlobals "__annotations__")=(true,m,an))
  (rn:∀(w:World)(os:OsState),Option.map (Ib openSeen (importedModules p.main.body) p q lo Xt Yf (boot_heap w.params)) (topRun treeTable p w m an N (Dy w.params os) (topStub p))=some (true,openGood q lo,Ya w)) :
  LeftO p q lo Xt Yf Ya N:=by
 intro w;obtain⟨s0,e0,e1⟩:=aN.mp (bo w);obtain⟨hp,gs,dr,tk,os⟩:=s0;simp only[dG.injEq]at e1;obtain⟨rfl,rfl,rfl,rfl⟩:=e1;have z:=sz w;simp only[dG.injEq]at z;obtain⟨z1,z2,z3⟩:=z;obtain⟨s1,r1,r2⟩:=aN.mp (rn w os);unfold Ib at r2;simp only[dG.injEq]at r2;obtain⟨l1,l2,l3⟩:=r2;have tf:topFrom treeTable p w N (Dy w.params os)=some s1:=by
  unfold topFrom;dsimp only;rw[z1,z2,z3];show Option.bind (topRun treeTable p w m an N (Dy w.params os) (topStub p)) _=_;rw[r1];show(match (((staticsOk (importedModules p.main.body) (boot_heap w.params) s1.heap&&namesBound p s1.heap)&&gensDone s1)&&laidKept (boot_heap w.params) s1.heap) with|true=>some s1|false=>none)=_;rw[l1]
 unfold openEnds;rw[e0];show Option.map _ (topFrom treeTable p w N (Dy w.params os))=_;rw[tf];exact congrArg some (bW l2 l3)
def Ol:List Obj->Nat->BT->BT
 |[],_,t=>t
 |o::r,i,t=>Ol r (i+1) (t.ins i o)
def BO(ok:Thread->Bool)(stp:SharedT->Thread->Option (SharedT×Thread)):Nat->SharedT->Thread->Option SharedT
 |0,_,_=>none
 |n+1,s,t=>match through t with
  |true=>some s
  |false=>match ok t with
   |false=>none
   |true=>match stp s t with
    |some (s1,t1)=>BO ok stp n s1 t1
    |none=>none
theorem Gc{tb:String->Option Builtin}{p:Program}{w:World}{m:Nat}{an:Option Value}:∀{n:Nat}{s s1:SharedT}{t:Thread},BO (stepOk m an) (stepT (denote tb) p w) n s t=some s1->topRun tb p w m an n s.abs t=some s1.abs
 |0,_,_,_,h=>by cases h
 |n+1,s,s1,t,h=>by
  rw[BO]at h;rw[topRun];cases ht:through t with
  |true=>rw[ht]at h;cases h;rfl
  |false =>
   rw[ht]at h;cases hk:stepOk m an t with
   |false=>rw[hk]at h;cases h
   |true =>
    rw[hk]at h;cases hs:stepT (denote tb) p w s t with
    |none=>rw[hs]at h;cases h
    |some r =>
     obtain⟨s2,t2⟩:=r;rw[hs]at h;rw[stepT_spec hs];exact Gc h
noncomputable def ST(P:Params):BT:=Ol (boot_heap P).objs.toList 0 .nil
noncomputable def DD(P:Params)(os:OsState):SharedT:=SharedT.mk (ST P) 11 (boot_heap P).life (Array.mk []) boot_drawn boot_toks os
theorem Ps(P:Params)(os:OsState):(DD P os).abs=Dy P os:=by kernel_rfl
theorem Rv{p q:Program}{lo ms:LSz}{Xt:Shared->Bool}{α β:Type}{Yf:Shared->β}{N m:Nat}{an:Option Value}{w:World}{os:OsState}{r:Bool×α×β}{oS:Program->LSz->LSz->(Shared->Bool)->Bool->Shared->α}
  (h:Option.map (λ s=>Ib oS ms p q lo Xt Yf (boot_heap w.params) (SharedT.abs s)) (BO (stepOk m an) (stepT (denote treeTable) p w) N (DD w.params os) (topStub p))=some r) :
  Option.map (Ib oS ms p q lo Xt Yf (boot_heap w.params)) (topRun treeTable p w m an N (Dy w.params os) (topStub p))=some r:=by
 obtain⟨s,e,z⟩:=aN.mp h;have e:=Gc e;rw[Ps]at e;rw[e];exact congrArg some z
theorem SI{σ α β:Type}{r:Option σ}{f:σ->Bool}{g:σ->α}{k:σ->β}{a:α}{b:β}(h1:r.map f=some true)(h2:r.map g=some a)(h3:r.map k=some b):r.map (λ s=>(f s,g s,k s))=some (true,a,b):=by
 cases r with
 |none=>cases h1
 |some s =>
  have e1:=Option.some.inj h1;have e2:=Option.some.inj h2;have e3:=Option.some.inj h3;exact congrArg some (bW e1 (bW e2 e3))
def SH(ms:LSz)(p:Program)(h0:Heap)(s:Shared):Bool:=(((staticsOk ms h0 s.heap&&namesBound p s.heap)&&gensDone s)&&laidKept h0 s.heap)
def SZ(N m:Nat)(an:Option Value){p p':Program}{sT:(Code->Sem Fin)->Program->World->SharedT->Thread->Option (SharedT×Thread)}{dn:(String->Option Builtin)->Code->Sem Fin}{tT:String->Option Builtin}{iM:List Stmt->LSz}{oS:∀(q:Program)(lo ms:LSz)(Xt:Shared->Bool)(g0:Bool)(s:Shared),_}(h1:@stepT=sT)(h0:@denote=dn)(h2:treeTable=tT)(h3:@importedModules=iM)(h4:@openSeen=oS)(h5:p=p'):Prop:=∀(w:World)(os:OsState),Option.map (λ s=>SH (iM p'.main.body) p' (boot_heap w.params) (SharedT.abs s)) (BO (stepOk m an) (sT (dn tT) p' w) N (DD w.params os) (topStub p'))=some true
def RunB(N m:Nat)(an:Option Value)(q:Program->Program)(lo:LSz)(Xt:Program->Shared->Bool){p p':Program}{sT:(Code->Sem Fin)->Program->World->SharedT->Thread->Option (SharedT×Thread)}{dn:(String->Option Builtin)->Code->Sem Fin}{tT:String->Option Builtin}{iM:List Stmt->LSz}{oS:∀(q:Program)(lo ms:LSz)(Xt:Shared->Bool)(g0:Bool)(s:Shared),_}(h1:@stepT=sT)(h0:@denote=dn)(h2:treeTable=tT)(h3:@importedModules=iM)(h4:@openSeen=oS)(h5:p=p'):Prop:=∀(w:World)(os:OsState),Option.map (λ s=>oS (q p') lo (iM p'.main.body) (Xt p') true (SharedT.abs s)) (BO (stepOk m an) (sT (dn tT) p' w) N (DD w.params os) (topStub p'))=some (openGood (q p') lo)
def SY(N m:Nat)(an:Option Value){β:Type}(Yf:Shared->β)(Ya:World->β){p p':Program}{sT:(Code->Sem Fin)->Program->World->SharedT->Thread->Option (SharedT×Thread)}{dn:(String->Option Builtin)->Code->Sem Fin}{tT:String->Option Builtin}{iM:List Stmt->LSz}{oS:∀(q:Program)(lo ms:LSz)(Xt:Shared->Bool)(g0:Bool)(s:Shared),_}(h1:@stepT=sT)(h0:@denote=dn)(h2:treeTable=tT)(h3:@importedModules=iM)(h4:@openSeen=oS)(h5:p=p'):Prop:=∀(w:World)(os:OsState),Option.map (λ s=>Yf (SharedT.abs s)) (BO (stepOk m an) (sT (dn tT) p' w) N (DD w.params os) (topStub p'))=some (Ya w)
theorem PN{q:Program->Program}{lo:LSz}{Xt:Program->Shared->Bool}{β:Type}{Yf:Shared->β}{Ya:World->β}{N m:Nat}{an:Option Value}{p p':Program}{sT:(Code->Sem Fin)->Program->World->SharedT->Thread->Option (SharedT×Thread)}{dn:(String->Option Builtin)->Code->Sem Fin}{tT:String->Option Builtin}{iM:List Stmt->LSz}{oS:∀(q:Program)(lo ms:LSz)(Xt:Shared->Bool)(g0:Bool)(s:Shared),_}{h1:@stepT=sT}{h0:@denote=dn}{h2:treeTable=tT}{h3:@importedModules=iM}{h4:@openSeen=oS}{h5:p=p'}
  (rA:SZ N m an h1 h0 h2 h3 h4 h5) (rB:RunB N m an q lo Xt h1 h0 h2 h3 h4 h5) (rC:SY N m an Yf Ya h1 h0 h2 h3 h4 h5) :
  ∀(w:World)(os:OsState),Option.map (Ib openSeen (importedModules p.main.body) p (q p) lo (Xt p) Yf (boot_heap w.params)) (topRun treeTable p w m an N (Dy w.params os) (topStub p))=some (true,openGood (q p) lo,Ya w):=by
 subst h1 h0 h2 h3 h4 h5;exact λ w os=>Rv (SI (rA w os) (rB w os) (rC w os))
open PySem.Spec
def hookT(K:Hook)(Ts:List Addr):Hook :=
 ⟨K.α×List (Option Obj),λ s=>(K.obs s,Ts.map λ T=>s.heap.get? T),λ w=>(K.val w,Ts.map λ_=>some (tabObj #[])),λ w h=>K.says w h/\∀T∈Ts,h.get? T=some (tabObj #[]),
  λ w s e=>⟨K.of w s (dG.inj e).1,λ T hT=>by
   have e2:=(dG.inj e).2;have:=List.map_eq_map_iff.mp e2 T hT;exact this⟩,λ w h h' x k=>⟨K.keeps w h h' x.1 k,λ T hT=>k _ _ (x.2 T hT)⟩⟩
def Hy{β:Type _}(N m:Nat)(an:Option Value)(q:Program->Program)(lo:LSz)(Xt:Program->Shared->Bool)(g:type_of% (openGood (q default) lo)->β)(b:Program->β){p p':Program}{sT:(Code->Sem Fin)->Program->World->SharedT->Thread->Option (SharedT×Thread)}{dn:(String->Option Builtin)->Code->Sem Fin}{tT:String->Option Builtin}{iM:List Stmt->LSz}{oS:∀(q:Program)(lo ms:LSz)(Xt:Shared->Bool)(g0:Bool)(s:Shared),_}(h1:@stepT=sT)(h0:@denote=dn)(h2:treeTable=tT)(h3:@importedModules=iM)(h4:@openSeen=oS)(h5:p=p'):Prop:=∀(w:World)(os:OsState),Option.map (λ s=>g (oS (q p') lo (iM p'.main.body) (Xt p') true (SharedT.abs s))) (BO (stepOk m an) (sT (dn tT) p' w) N (DD w.params os) (topStub p'))=some (b (q p'))
theorem RunB.of5{N m:Nat}{an:Option Value}{q:Program->Program}{lo:LSz}{Xt:Program->Shared->Bool}{p p':Program}{sT:(Code->Sem Fin)->Program->World->SharedT->Thread->Option (SharedT×Thread)}{dn:(String->Option Builtin)->Code->Sem Fin}{tT:String->Option Builtin}{iM:List Stmt->LSz}{oS:∀(q:Program)(lo ms:LSz)(Xt:Shared->Bool)(g0:Bool)(s:Shared),_}{h1:@stepT=sT}{h0:@denote=dn}{h2:treeTable=tT}{h3:@importedModules=iM}{h4:@openSeen=oS}{h5:p=p'}(r1:Hy N m an q lo Xt (λ x=>x.1) (expectedOf) h1 h0 h2 h3 h4 h5)(r2:Hy N m an q lo Xt (λ x=>(x.2.1,x.2.2.1)) (λ_=>(bltViewBooted,true)) h1 h0 h2 h3 h4 h5)(r3:Hy N m an q lo Xt (λ x=>(x.2.2.2.1,x.2.2.2.2.1)) (λ q=>(true,pinGoodD (drecsOf q))) h1 h0 h2 h3 h4 h5)(r4:Hy N m an q lo Xt (λ x=>(x.2.2.2.2.2.1,x.2.2.2.2.2.2.1)) (λ q=>(plainGoodE q (looseW q lo),plainGoodD q lo)) h1 h0 h2 h3 h4 h5)(r5:Hy N m an q lo Xt (λ x=>x.2.2.2.2.2.2.2) (λ q=>(wideGood q,clsGoodW q lo)) h1 h0 h2 h3 h4 h5):RunB N m an q lo Xt h1 h0 h2 h3 h4 h5:=λ w os=>by
 have e1:=r1 w os;have e2:=r2 w os;have e3:=r3 w os;have e4:=r4 w os;have e5:=r5 w os;show Option.map _ _=_;generalize BO _ _ _ _ _=r at e1 e2 e3 e4 e5 |-;cases r with
 |none=>cases e1
 |some s =>
  have e1:=Option.some.inj e1;have e2:=dG.inj (Option.some.inj e2);have e3:=dG.inj (Option.some.inj e3);have e4:=dG.inj (Option.some.inj e4);have e5:=Option.some.inj e5;exact congrArg some (bW e1 (bW e2.1 (bW e2.2 (bW e3.1 (bW e3.2 (bW e4.1 (bW e4.2 e5)))))))
end L2
namespace KH
open PySem.W
open PySem PyProof.Rows L2
noncomputable def top(i:Nat):Stmt:=PySem.Challenge.pw_glazebench_k73_bench_refused.main.body.getD i (.Pass ⟨0,0,0,0⟩)
noncomputable def kE(P:Params)(x:Str)(t:Tok)(v:Value):DictEntry:=⟨PyData.keyHash P x,.str x t,v⟩
noncomputable abbrev fo(a b:Str)(e:Stmt)(d m:Value)(c:Addr):Obj:=⟨(.type "function"),none,(.func (fnOf a b (AV e) (Ap e) (Ad e) d .none .none m none (.ref c) .none)),#[]⟩
noncomputable abbrev cp(a b:Str)(t u v:Tok)(l n:Int)(r:Addr)(i:Int)(p:Addr)(q x y:Value)(j k:Int)(z:Tok):Obj:=⟨(.type "code"),none,(.fields #[(.str a t),(.str b u),(.str "/claim/cut.py" v),(.int l 0),(.int n 0),(.int (0) 0),(.int (0) 0),(.int (3) 0),(.ref r),(.bool true),(.int i 0),(.ref p),.none,q,x,y,(.int j 0),(.int k 0),(.str "/claim/cut.py" z)]),#[]⟩
noncomputable abbrev co(a b:Str)(t u v:Tok)(l n:Int)(r:Addr)(i:Int)(p q x y:Addr)(j k:Int)(z:Tok):Obj:=⟨(.type "code"),none,(.fields #[(.str a t),(.str b u),(.str "/claim/cut.py" v),(.int l 0),(.int n 0),(.int (0) 0),(.int (0) 0),(.int (3) 0),(.ref r),(.bool true),(.int i 0),(.ref p),.none,(.ref q),(.ref x),(.ref y),(.int j 0),(.int k 0),(.str "/claim/cut.py" z)]),#[]⟩
noncomputable def KK:Params->Frag:=λ P=>(nat_lit 2,⟨.none,none,(.dict #[] 0),#[]⟩)::(nat_lit 3,⟨(.type "dict"),none,(.dict #[kE P "__name__" 165 (.str "law_glazebench_k73_bench_refused" 740),kE P "__doc__" 166 .none,kE P "__package__" 167 .none,kE P "__loader__" 168 (.builtin "__main__.__loader__#opaque"),kE P "__spec__" 169 .none,kE P "__annotations__" 170 (.ref 6),kE P "__builtins__" 171 (.ref 4),kE P "__file__" 173 (.str "/claim/cut.py" 172),kE P "__cached__" 174 .none,kE P "_wall" 193 (.ref 21),kE P "GlassError" 213 (.ref 31),kE P "NoSide" 238 (.ref 51),kE P "TooMany" 263 (.ref 70),kE P "NoSheet" 288 (.ref 89),kE P "NoGlass" 315 (.ref 108),kE P "LONGEST_SIDE" 319 (.int (12) 318),kE P "is_whole" 326 (.ref 117),kE P "is_side" 333 (.ref 124),kE P "size_of" 340 (.ref 131),kE P "area_of" 347 (.ref 138),kE P "check_sides" 356 (.ref 145),kE P "WHOLE" 360 (.str "whole" 359),kE P "UPRIGHT" 362 (.str "upright" 361),kE P "LEVEL" 364 (.str "level" 363),kE P "Tree" 421 (.ref 188),kE P "Whole" 446 (.ref 210),kE P "Upright" 475 (.ref 229),kE P "Level" 504 (.ref 248),kE P "kind_of" 511 (.ref 257),kE P "entry_of" 519 (.ref 264),kE P "entries_of" 529 (.ref 271),kE P "cut_from" 539 (.ref 278),kE P "tree_from" 551 (.ref 285),kE P "entries_by" 563 (.ref 292),kE P "turned_word" 570 (.ref 299),kE P "first_piece" 579 (.ref 306),kE P "other_piece" 588 (.ref 313),kE P "ways_to_lie" 597 (.ref 320),kE P "ways_held" 603 (.ref 325),kE P "MOST_SHEETS" 607 (.int (4) 606),kE P "is_sheet" 614 (.ref 332),kE P "check_sheets" 623 (.ref 339),kE P "MOST_CUT" 627 (.int (60) 626),kE P "holds" 636 (.ref 346),kE P "cut_pane" 651 (.ref 353),kE P "tree_in" 660 (.ref 360),kE P "Bench" 739 (.ref 415),kE P "_law_cell" 749 (.ref 426),kE P "_law_draw" 759 (.ref 433),kE P "_law_held" 769 (.ref 440),kE P "_law_area" 776 (.ref 447),kE P "_law_choice" 793 (.ref 454),kE P "_law_cut" 812 (.ref 461),kE P "_law_sheets" 818 (.ref 466),kE P "_law_made" 827 (.ref 473),kE P "_law_side" 834 (.ref 480),kE P "_law_is_side" 841 (.ref 487),kE P "_law_asked" 854 (.ref 494),kE P "_law_due" 866 (.ref 501),kE P "_law_is" 874 (.ref 508),kE P "law" 880 (.ref 513)] 61),#[]⟩)::(nat_lit 20,co "_wall" "_wall" 187 188 189 1 1 15 181 16 17 18 19 191 1 192)::(nat_lit 21,fo "_wall" "_wall" (top 0) .none (.str "__main__" 164) 20)::(nat_lit 30,⟨(.type "dict"),none,(.dict #[kE P "__module__" 203 (.str "glazebench.errors" 194),kE P "__firstlineno__" 207 (.int (5) 206),kE P "__static_attributes__" 208 (.ref 29),kE P "__weakref__" 210 (.ref 32),kE P "__doc__" 211 .none] 3),#[]⟩)::(nat_lit 31,⟨(.type "type"),none,(.cls { name:="GlassError",bases:=[(.type "ValueError")],mro:=[(.ref 31),(.type "ValueError"),(.type "Exception"),(.type "BaseException"),(.type "object")],ns:=30,qualname:="GlassError",hasDict:=true,slotNames:=[],subclasses:=[(.ref 51),(.ref 70),(.ref 89),(.ref 108)],abstract:=false,collection:=none,hasDel:=false }),#[some (.ref 22),none,some (.str "GlassError" 196),some (.str "GlassError" 204),some (.builtin "ValueError.__new__"),some (.bool true)]⟩)::(nat_lit 32,⟨(.type "getset_descriptor"),none,(.fields #[(.str "__weakref__" 209),(.ref 31),(.builtin "ExceptionGroup.__weakref__"),.none]),#[]⟩)::(nat_lit 47,co "__init__" "NoSide.__init__" 226 227 228 9 2 42 181 43 44 45 46 231 9 232)::(nat_lit 48,fo "__init__" "NoSide.__init__" (A0 (top 3) 0) .none (.str "glazebench.errors" 194) 47)::(nat_lit 50,⟨(.type "dict"),none,(.dict #[kE P "__module__" 221 (.str "glazebench.errors" 194),kE P "__firstlineno__" 225 (.int (7) 224),kE P "__init__" 233 (.ref 48),kE P "__static_attributes__" 235 (.ref 49),kE P "__doc__" 236 .none] 2),#[]⟩)::(nat_lit 51,⟨(.type "type"),none,(.cls { name:="NoSide",bases:=[(.ref 31)],mro:=[(.ref 51),(.ref 31),(.type "ValueError"),(.type "Exception"),(.type "BaseException"),(.type "object")],ns:=50,qualname:="NoSide",hasDict:=true,slotNames:=[],subclasses:=[],abstract:=false,collection:=none,hasDel:=false }),#[some (.ref 35),none,some (.str "NoSide" 214),some (.str "NoSide" 222),some (.builtin "ValueError.__new__"),some (.bool true)]⟩)::(nat_lit 66,co "__init__" "TooMany.__init__" 251 252 253 13 2 61 181 62 63 64 65 256 13 257)::(nat_lit 67,fo "__init__" "TooMany.__init__" (A0 (top 4) 0) .none (.str "glazebench.errors" 194) 66)::(nat_lit 69,⟨(.type "dict"),none,(.dict #[kE P "__module__" 246 (.str "glazebench.errors" 194),kE P "__firstlineno__" 250 (.int (11) 249),kE P "__init__" 258 (.ref 67),kE P "__static_attributes__" 260 (.ref 68),kE P "__doc__" 261 .none] 2),#[]⟩)::(nat_lit 70,⟨(.type "type"),none,(.cls { name:="TooMany",bases:=[(.ref 31)],mro:=[(.ref 70),(.ref 31),(.type "ValueError"),(.type "Exception"),(.type "BaseException"),(.type "object")],ns:=69,qualname:="TooMany",hasDict:=true,slotNames:=[],subclasses:=[],abstract:=false,collection:=none,hasDel:=false }),#[some (.ref 54),none,some (.str "TooMany" 239),some (.str "TooMany" 247),some (.builtin "ValueError.__new__"),some (.bool true)]⟩)::(nat_lit 85,co "__init__" "NoSheet.__init__" 276 277 278 17 2 80 181 81 82 83 84 281 17 282)::(nat_lit 86,fo "__init__" "NoSheet.__init__" (A0 (top 5) 0) .none (.str "glazebench.errors" 194) 85)::(nat_lit 88,⟨(.type "dict"),none,(.dict #[kE P "__module__" 271 (.str "glazebench.errors" 194),kE P "__firstlineno__" 275 (.int (15) 274),kE P "__init__" 283 (.ref 86),kE P "__static_attributes__" 285 (.ref 87),kE P "__doc__" 286 .none] 2),#[]⟩)::(nat_lit 89,⟨(.type "type"),none,(.cls { name:="NoSheet",bases:=[(.ref 31)],mro:=[(.ref 89),(.ref 31),(.type "ValueError"),(.type "Exception"),(.type "BaseException"),(.type "object")],ns:=88,qualname:="NoSheet",hasDict:=true,slotNames:=[],subclasses:=[],abstract:=false,collection:=none,hasDel:=false }),#[some (.ref 73),none,some (.str "NoSheet" 264),some (.str "NoSheet" 272),some (.builtin "ValueError.__new__"),some (.bool true)]⟩)::(nat_lit 104,co "__init__" "NoGlass.__init__" 301 302 303 21 3 99 181 100 101 102 103 307 21 308)::(nat_lit 105,fo "__init__" "NoGlass.__init__" (A0 (top 6) 0) .none (.str "glazebench.errors" 194) 104)::(nat_lit 107,⟨(.type "dict"),none,(.dict #[kE P "__module__" 296 (.str "glazebench.errors" 194),kE P "__firstlineno__" 300 (.int (19) 299),kE P "__init__" 309 (.ref 105),kE P "__static_attributes__" 312 (.ref 106),kE P "__doc__" 313 .none] 2),#[]⟩)::(nat_lit 108,⟨(.type "type"),none,(.cls { name:="NoGlass",bases:=[(.ref 31)],mro:=[(.ref 108),(.ref 31),(.type "ValueError"),(.type "Exception"),(.type "BaseException"),(.type "object")],ns:=107,qualname:="NoGlass",hasDict:=true,slotNames:=[],subclasses:=[],abstract:=false,collection:=none,hasDel:=false }),#[some (.ref 92),none,some (.str "NoGlass" 289),some (.str "NoGlass" 297),some (.builtin "ValueError.__new__"),some (.bool true)]⟩)::(nat_lit 116,co "is_whole" "is_whole" 320 321 322 26 1 111 181 112 113 114 115 324 26 325)::(nat_lit 117,fo "is_whole" "is_whole" (top 9) .none (.str "glazebench.panels" 316) 116)::(nat_lit 123,co "is_side" "is_side" 327 328 329 28 1 118 181 119 120 121 122 331 28 332)::(nat_lit 124,fo "is_side" "is_side" (top 10) .none (.str "glazebench.panels" 316) 123)::(nat_lit 130,co "size_of" "size_of" 334 335 336 30 1 125 181 126 127 128 129 338 30 339)::(nat_lit 131,fo "size_of" "size_of" (top 11) .none (.str "glazebench.panels" 316) 130)::(nat_lit 137,co "area_of" "area_of" 341 342 343 32 1 132 181 133 134 135 136 345 32 346)::(nat_lit 138,fo "area_of" "area_of" (top 12) .none (.str "glazebench.panels" 316) 137)::(nat_lit 144,co "check_sides" "check_sides" 348 349 350 34 2 139 181 140 141 142 143 354 34 355)::(nat_lit 145,fo "check_sides" "check_sides" (top 13) .none (.str "glazebench.panels" 316) 144)::(nat_lit 158,co "leaves" "Tree.leaves" 377 378 379 44 1 153 181 154 155 156 157 381 44 382)::(nat_lit 159,fo "leaves" "Tree.leaves" (A0 (top 18) 0) .none (.str "glazebench.cuts" 357) 158)::(nat_lit 165,co "depth" "Tree.depth" 384 385 386 47 1 160 181 161 162 163 164 388 47 389)::(nat_lit 166,fo "depth" "Tree.depth" (A0 (top 18) 1) .none (.str "glazebench.cuts" 357) 165)::(nat_lit 170,cp "turned" "Tree.turned" 391 392 393 50 1 167 181 168 .none .none (.ref 169) 394 50 395)::(nat_lit 171,fo "turned" "Tree.turned" (A0 (top 18) 2) .none (.str "glazebench.cuts" 357) 170)::(nat_lit 177,co "fits" "Tree.fits" 397 398 399 53 3 172 181 173 174 175 176 403 53 404)::(nat_lit 178,fo "fits" "Tree.fits" (A0 (top 18) 3) .none (.str "glazebench.cuts" 357) 177)::(nat_lit 184,co "same" "Tree.same" 406 407 408 56 2 179 181 180 181 182 183 411 56 412)::(nat_lit 185,fo "same" "Tree.same" (A0 (top 18) 4) .none (.str "glazebench.cuts" 357) 184)::(nat_lit 187,⟨(.type "dict"),none,(.dict #[kE P "__module__" 372 (.str "glazebench.cuts" 357),kE P "__firstlineno__" 376 (.int (42) 375),kE P "leaves" 383 (.ref 159),kE P "depth" 390 (.ref 166),kE P "turned" 396 (.ref 171),kE P "fits" 405 (.ref 178),kE P "same" 413 (.ref 185),kE P "__static_attributes__" 414 (.ref 186),kE P "__dict__" 416 (.ref 189),kE P "__weakref__" 418 (.ref 190),kE P "__doc__" 419 .none] 4),#[]⟩)::(nat_lit 188,⟨(.type "type"),none,(.cls { name:="Tree",bases:=[(.type "object")],mro:=[(.ref 188),(.type "object")],ns:=187,qualname:="Tree",hasDict:=true,slotNames:=[],subclasses:=[(.ref 210),(.ref 229),(.ref 248)],abstract:=false,collection:=none,hasDel:=false }),#[none,none,some (.str "Tree" 365),some (.str "Tree" 373),some (.builtin "object.__new__"),some (.bool true)]⟩)::(nat_lit 189,⟨(.type "getset_descriptor"),none,(.fields #[(.str "__dict__" 415),(.ref 188),(.builtin "function.__dict__"),(.builtin "function.__dict__#set")]),#[]⟩)::(nat_lit 190,⟨(.type "getset_descriptor"),none,(.fields #[(.str "__weakref__" 417),(.ref 188),(.builtin "ExceptionGroup.__weakref__"),.none]),#[]⟩)::(nat_lit 200,⟨(.type "tuple"),none,(.seq #[.none] 0),#[]⟩)::(nat_lit 206,co "__init__" "Whole.__init__" 434 435 436 60 2 201 181 202 203 204 205 439 60 440)::(nat_lit 207,fo "__init__" "Whole.__init__" (A0 (top 19) 0) (.ref 200) (.str "glazebench.cuts" 357) 206)::(nat_lit 209,⟨(.type "dict"),none,(.dict #[kE P "__module__" 429 (.str "glazebench.cuts" 357),kE P "__firstlineno__" 433 (.int (58) 432),kE P "__init__" 441 (.ref 207),kE P "__static_attributes__" 443 (.ref 208),kE P "__doc__" 444 .none] 2),#[]⟩)::(nat_lit 210,⟨(.type "type"),none,(.cls { name:="Whole",bases:=[(.ref 188)],mro:=[(.ref 210),(.ref 188),(.type "object")],ns:=209,qualname:="Whole",hasDict:=true,slotNames:=[],subclasses:=[],abstract:=false,collection:=none,hasDel:=false }),#[some (.ref 193),none,some (.str "Whole" 422),some (.str "Whole" 430),some (.builtin "object.__new__"),some (.bool true)]⟩)::(nat_lit 225,co "__init__" "Upright.__init__" 459 460 461 64 4 220 181 221 222 223 224 466 64 467)::(nat_lit 226,fo "__init__" "Upright.__init__" (A0 (top 20) 0) .none (.str "glazebench.cuts" 357) 225)::(nat_lit 228,⟨(.type "dict"),none,(.dict #[kE P "__module__" 454 (.str "glazebench.cuts" 357),kE P "__firstlineno__" 458 (.int (62) 457),kE P "__init__" 468 (.ref 226),kE P "__static_attributes__" 472 (.ref 227),kE P "__doc__" 473 .none] 2),#[]⟩)::(nat_lit 229,⟨(.type "type"),none,(.cls { name:="Upright",bases:=[(.ref 188)],mro:=[(.ref 229),(.ref 188),(.type "object")],ns:=228,qualname:="Upright",hasDict:=true,slotNames:=[],subclasses:=[],abstract:=false,collection:=none,hasDel:=false }),#[some (.ref 213),none,some (.str "Upright" 447),some (.str "Upright" 455),some (.builtin "object.__new__"),some (.bool true)]⟩)::(nat_lit 244,co "__init__" "Level.__init__" 488 489 490 70 4 239 181 240 241 242 243 495 70 496)::(nat_lit 245,fo "__init__" "Level.__init__" (A0 (top 21) 0) .none (.str "glazebench.cuts" 357) 244)::(nat_lit 247,⟨(.type "dict"),none,(.dict #[kE P "__module__" 483 (.str "glazebench.cuts" 357),kE P "__firstlineno__" 487 (.int (68) 486),kE P "__init__" 497 (.ref 245),kE P "__static_attributes__" 501 (.ref 246),kE P "__doc__" 502 .none] 2),#[]⟩)::(nat_lit 248,⟨(.type "type"),none,(.cls { name:="Level",bases:=[(.ref 188)],mro:=[(.ref 248),(.ref 188),(.type "object")],ns:=247,qualname:="Level",hasDict:=true,slotNames:=[],subclasses:=[],abstract:=false,collection:=none,hasDel:=false }),#[some (.ref 232),none,some (.str "Level" 476),some (.str "Level" 484),some (.builtin "object.__new__"),some (.bool true)]⟩)::(nat_lit 256,co "kind_of" "kind_of" 505 506 507 74 1 251 181 252 253 254 255 509 74 510)::(nat_lit 257,fo "kind_of" "kind_of" (top 22) .none (.str "glazebench.cuts" 357) 256)::(nat_lit 263,co "entry_of" "entry_of" 512 513 514 78 1 258 181 259 260 261 262 517 78 518)::(nat_lit 264,fo "entry_of" "entry_of" (top 23) .none (.str "glazebench.cuts" 357) 263)::(nat_lit 270,co "entries_of" "entries_of" 520 521 522 81 1 265 181 266 267 268 269 527 81 528)::(nat_lit 271,fo "entries_of" "entries_of" (top 24) .none (.str "glazebench.cuts" 357) 270)::(nat_lit 277,co "cut_from" "cut_from" 530 531 532 90 4 272 181 273 274 275 276 537 90 538)::(nat_lit 278,fo "cut_from" "cut_from" (top 25) .none (.str "glazebench.cuts" 357) 277)::(nat_lit 284,co "tree_from" "tree_from" 540 541 542 94 1 279 181 280 281 282 283 549 94 550)::(nat_lit 285,fo "tree_from" "tree_from" (top 26) .none (.str "glazebench.cuts" 357) 284)::(nat_lit 291,co "entries_by" "entries_by" 552 553 554 104 2 286 181 287 288 289 290 561 104 562)::(nat_lit 292,fo "entries_by" "entries_by" (top 27) .none (.str "glazebench.cuts" 357) 291)::(nat_lit 298,co "turned_word" "turned_word" 564 565 566 115 1 293 181 294 295 296 297 568 115 569)::(nat_lit 299,fo "turned_word" "turned_word" (top 28) .none (.str "glazebench.cuts" 357) 298)::(nat_lit 305,co "first_piece" "first_piece" 571 572 573 119 3 300 181 301 302 303 304 577 119 578)::(nat_lit 306,fo "first_piece" "first_piece" (top 29) .none (.str "glazebench.cuts" 357) 305)::(nat_lit 312,co "other_piece" "other_piece" 580 581 582 123 3 307 181 308 309 310 311 586 123 587)::(nat_lit 313,fo "other_piece" "other_piece" (top 30) .none (.str "glazebench.cuts" 357) 312)::(nat_lit 319,co "ways_to_lie" "ways_to_lie" 591 592 593 128 1 314 181 315 316 317 318 595 128 596)::(nat_lit 320,fo "ways_to_lie" "ways_to_lie" (top 32) .none (.str "glazebench.stairs" 589) 319)::(nat_lit 324,cp "ways_held" "ways_held" 598 599 600 132 3 321 181 322 .none .none (.ref 323) 601 132 602)::(nat_lit 325,fo "ways_held" "ways_held" (top 33) .none (.str "glazebench.stairs" 589) 324)::(nat_lit 331,co "is_sheet" "is_sheet" 608 609 610 136 1 326 181 327 328 329 330 612 136 613)::(nat_lit 332,fo "is_sheet" "is_sheet" (top 36) .none (.str "glazebench.plans" 604) 331)::(nat_lit 338,co "check_sheets" "check_sheets" 615 616 617 140 1 333 181 334 335 336 337 621 140 622)::(nat_lit 339,fo "check_sheets" "check_sheets" (top 37) .none (.str "glazebench.plans" 604) 338)::(nat_lit 345,co "holds" "holds" 628 629 630 148 2 340 181 341 342 343 344 634 148 635)::(nat_lit 346,fo "holds" "holds" (top 40) .none (.str "glazebench.bench" 624) 345)::(nat_lit 352,co "cut_pane" "cut_pane" 637 638 639 151 4 347 181 348 349 350 351 649 151 650)::(nat_lit 353,fo "cut_pane" "cut_pane" (top 41) .none (.str "glazebench.bench" 624) 352)::(nat_lit 359,co "tree_in" "tree_in" 652 653 654 161 2 354 181 355 356 357 358 658 161 659)::(nat_lit 360,fo "tree_in" "tree_in" (top 42) .none (.str "glazebench.bench" 624) 359)::(nat_lit 371,cp "__init__" "Bench.__init__" 673 674 675 165 2 368 181 369 .none .none (.ref 370) 676 165 677)::(nat_lit 372,fo "__init__" "Bench.__init__" (A0 (top 43) 0) .none (.str "glazebench.bench" 624) 371)::(nat_lit 376,cp "whole_pieces" "Bench.whole_pieces" 679 680 681 170 1 373 181 374 .none .none (.ref 375) 682 170 683)::(nat_lit 377,fo "whole_pieces" "Bench.whole_pieces" (A0 (top 43) 1) .none (.str "glazebench.bench" 624) 376)::(nat_lit 381,cp "panes_cut" "Bench.panes_cut" 685 686 687 176 1 378 181 379 .none .none (.ref 380) 688 176 689)::(nat_lit 382,fo "panes_cut" "Bench.panes_cut" (A0 (top 43) 2) .none (.str "glazebench.bench" 624) 381)::(nat_lit 386,cp "offcuts" "Bench.offcuts" 691 692 693 179 1 383 181 384 .none .none (.ref 385) 694 179 695)::(nat_lit 387,fo "offcuts" "Bench.offcuts" (A0 (top 43) 3) .none (.str "glazebench.bench" 624) 386)::(nat_lit 391,cp "sheets" "Bench.sheets" 697 698 699 182 1 388 181 389 .none .none (.ref 390) 700 182 701)::(nat_lit 392,fo "sheets" "Bench.sheets" (A0 (top 43) 4) .none (.str "glazebench.bench" 624) 391)::(nat_lit 398,co "areas" "Bench.areas" 703 704 705 185 1 393 181 394 395 396 397 707 185 708)::(nat_lit 399,fo "areas" "Bench.areas" (A0 (top 43) 5) .none (.str "glazebench.bench" 624) 398)::(nat_lit 403,cp "piece_for" "Bench.piece_for" 710 711 712 188 2 400 181 401 .none .none (.ref 402) 713 188 714)::(nat_lit 404,fo "piece_for" "Bench.piece_for" (A0 (top 43) 6) .none (.str "glazebench.bench" 624) 403)::(nat_lit 405,⟨(.type "tuple"),none,(.seq #[(.bool false)] 0),#[]⟩)::(nat_lit 411,co "cut" "Bench.cut" 716 717 718 199 4 406 181 407 408 409 410 727 199 728)::(nat_lit 412,fo "cut" "Bench.cut" (A0 (top 43) 7) (.ref 405) (.str "glazebench.bench" 624) 411)::(nat_lit 414,⟨(.type "dict"),none,(.dict #[kE P "__module__" 668 (.str "glazebench.bench" 624),kE P "__firstlineno__" 672 (.int (163) 671),kE P "__init__" 678 (.ref 372),kE P "whole_pieces" 684 (.ref 377),kE P "panes_cut" 690 (.ref 382),kE P "offcuts" 696 (.ref 387),kE P "sheets" 702 (.ref 392),kE P "areas" 709 (.ref 399),kE P "piece_for" 715 (.ref 404),kE P "cut" 729 (.ref 412),kE P "__static_attributes__" 732 (.ref 413),kE P "__dict__" 734 (.ref 416),kE P "__weakref__" 736 (.ref 417),kE P "__doc__" 737 .none] 4),#[]⟩)::(nat_lit 415,⟨(.type "type"),none,(.cls { name:="Bench",bases:=[(.type "object")],mro:=[(.ref 415),(.type "object")],ns:=414,qualname:="Bench",hasDict:=true,slotNames:=[],subclasses:=[],abstract:=false,collection:=none,hasDel:=false }),#[none,none,some (.str "Bench" 661),some (.str "Bench" 669),some (.builtin "object.__new__"),some (.bool true)]⟩)::(nat_lit 416,⟨(.type "getset_descriptor"),none,(.fields #[(.str "__dict__" 733),(.ref 415),(.builtin "function.__dict__"),(.builtin "function.__dict__#set")]),#[]⟩)::(nat_lit 417,⟨(.type "getset_descriptor"),none,(.fields #[(.str "__weakref__" 735),(.ref 415),(.builtin "ExceptionGroup.__weakref__"),.none]),#[]⟩)::(nat_lit 425,co "_law_cell" "_law_cell" 742 743 744 209 2 420 181 421 422 423 424 747 209 748)::(nat_lit 426,fo "_law_cell" "_law_cell" (top 45) .none (.str "law_glazebench_k73_bench_refused" 740) 425)::(nat_lit 432,co "_law_draw" "_law_draw" 750 751 752 213 3 427 181 428 429 430 431 757 213 758)::(nat_lit 433,fo "_law_draw" "_law_draw" (top 46) .none (.str "law_glazebench_k73_bench_refused" 740) 432)::(nat_lit 439,co "_law_held" "_law_held" 760 761 762 216 4 434 181 435 436 437 438 767 216 768)::(nat_lit 440,fo "_law_held" "_law_held" (top 47) .none (.str "law_glazebench_k73_bench_refused" 740) 439)::(nat_lit 446,co "_law_area" "_law_area" 770 771 772 222 1 441 181 442 443 444 445 774 222 775)::(nat_lit 447,fo "_law_area" "_law_area" (top 48) .none (.str "law_glazebench_k73_bench_refused" 740) 446)::(nat_lit 453,co "_law_choice" "_law_choice" 777 778 779 224 4 448 181 449 450 451 452 791 224 792)::(nat_lit 454,fo "_law_choice" "_law_choice" (top 49) .none (.str "law_glazebench_k73_bench_refused" 740) 453)::(nat_lit 460,co "_law_cut" "_law_cut" 794 795 796 246 4 455 181 456 457 458 459 810 246 811)::(nat_lit 461,fo "_law_cut" "_law_cut" (top 50) .none (.str "law_glazebench_k73_bench_refused" 740) 460)::(nat_lit 465,cp "_law_sheets" "_law_sheets" 813 814 815 260 2 462 181 463 .none .none (.ref 464) 816 260 817)::(nat_lit 466,fo "_law_sheets" "_law_sheets" (top 51) .none (.str "law_glazebench_k73_bench_refused" 740) 465)::(nat_lit 472,co "_law_made" "_law_made" 819 820 821 271 1 467 181 468 469 470 471 825 271 826)::(nat_lit 473,fo "_law_made" "_law_made" (top 52) .none (.str "law_glazebench_k73_bench_refused" 740) 472)::(nat_lit 479,co "_law_side" "_law_side" 828 829 830 280 1 474 181 475 476 477 478 832 280 833)::(nat_lit 480,fo "_law_side" "_law_side" (top 53) .none (.str "law_glazebench_k73_bench_refused" 740) 479)::(nat_lit 486,co "_law_is_side" "_law_is_side" 835 836 837 284 1 481 181 482 483 484 485 839 284 840)::(nat_lit 487,fo "_law_is_side" "_law_is_side" (top 54) .none (.str "law_glazebench_k73_bench_refused" 740) 486)::(nat_lit 493,co "_law_asked" "_law_asked" 842 843 844 286 4 488 181 489 490 491 492 852 286 853)::(nat_lit 494,fo "_law_asked" "_law_asked" (top 55) .none (.str "law_glazebench_k73_bench_refused" 740) 493)::(nat_lit 500,co "_law_due" "_law_due" 855 856 857 298 4 495 181 496 497 498 499 864 298 865)::(nat_lit 501,fo "_law_due" "_law_due" (top 56) .none (.str "law_glazebench_k73_bench_refused" 740) 500)::(nat_lit 507,co "_law_is" "_law_is" 867 868 869 308 2 502 181 503 504 505 506 872 308 873)::(nat_lit 508,fo "_law_is" "_law_is" (top 57) .none (.str "law_glazebench_k73_bench_refused" 740) 507)::(nat_lit 512,cp "law" "law" 875 876 877 312 1 509 181 510 .none .none (.ref 511) 878 312 879)::(nat_lit 513,fo "law" "law" (top 58) .none (.str "law_glazebench_k73_bench_refused" 740) 512)::(nat_lit 4,⟨(.type "module"),(some 0),.plain,#[]⟩)::[]
noncomputable def kas:List Addr:=nat_lit 2::nat_lit 3::nat_lit 20::nat_lit 21::nat_lit 30::nat_lit 31::nat_lit 32::nat_lit 47::nat_lit 48::nat_lit 50::nat_lit 51::nat_lit 66::nat_lit 67::nat_lit 69::nat_lit 70::nat_lit 85::nat_lit 86::nat_lit 88::nat_lit 89::nat_lit 104::nat_lit 105::nat_lit 107::nat_lit 108::nat_lit 116::nat_lit 117::nat_lit 123::nat_lit 124::nat_lit 130::nat_lit 131::nat_lit 137::nat_lit 138::nat_lit 144::nat_lit 145::nat_lit 158::nat_lit 159::nat_lit 165::nat_lit 166::nat_lit 170::nat_lit 171::nat_lit 177::nat_lit 178::nat_lit 184::nat_lit 185::nat_lit 187::nat_lit 188::nat_lit 189::nat_lit 190::nat_lit 200::nat_lit 206::nat_lit 207::nat_lit 209::nat_lit 210::nat_lit 225::nat_lit 226::nat_lit 228::nat_lit 229::nat_lit 244::nat_lit 245::nat_lit 247::nat_lit 248::nat_lit 256::nat_lit 257::nat_lit 263::nat_lit 264::nat_lit 270::nat_lit 271::nat_lit 277::nat_lit 278::nat_lit 284::nat_lit 285::nat_lit 291::nat_lit 292::nat_lit 298::nat_lit 299::nat_lit 305::nat_lit 306::nat_lit 312::nat_lit 313::nat_lit 319::nat_lit 320::nat_lit 324::nat_lit 325::nat_lit 331::nat_lit 332::nat_lit 338::nat_lit 339::nat_lit 345::nat_lit 346::nat_lit 352::nat_lit 353::nat_lit 359::nat_lit 360::nat_lit 371::nat_lit 372::nat_lit 376::nat_lit 377::nat_lit 381::nat_lit 382::nat_lit 386::nat_lit 387::nat_lit 391::nat_lit 392::nat_lit 398::nat_lit 399::nat_lit 403::nat_lit 404::nat_lit 405::nat_lit 411::nat_lit 412::nat_lit 414::nat_lit 415::nat_lit 416::nat_lit 417::nat_lit 425::nat_lit 426::nat_lit 432::nat_lit 433::nat_lit 439::nat_lit 440::nat_lit 446::nat_lit 447::nat_lit 453::nat_lit 454::nat_lit 460::nat_lit 461::nat_lit 465::nat_lit 466::nat_lit 472::nat_lit 473::nat_lit 479::nat_lit 480::nat_lit 486::nat_lit 487::nat_lit 493::nat_lit 494::nat_lit 500::nat_lit 501::nat_lit 507::nat_lit 508::nat_lit 512::nat_lit 513::nat_lit 4::[]
noncomputable def keeps:List Nat:=0::2::3::4::5::6::8::9::10::11::12::13::15::16::17::18::19::20::21::22::23::24::25::26::27::28::29::30::32::33::35::36::37::39::40::41::42::43::45::46::47::48::49::50::51::52::53::54::55::56::57::58::[]
noncomputable def lo:LSz:=["Whole"]
noncomputable def Ts:List Addr:=nat_lit 355::[]
theorem prep(h:PySem.Challenge.rw_glazebench_k73_bench_refused.row.wellSaid=true->PySem.Challenge.rw_glazebench_k73_bench_refused.row.Holds):PySem.Challenge.rw_glazebench_k73_bench_refused.Holds:=by
 w_on
 o_law
 exact h (by assumption)
noncomputable def qv(p:Program):Program:=view p keeps
noncomputable def Xp(p:Program)(s:Shared):Bool:=xlAt (qv p) [] s&&recOk (RowW.records (OpenRow.toRowW PySem.Challenge.rw_glazebench_k73_bench_refused.row)) s
theorem kas_is(P:Params):kas=(KK P).map (λ x=>x.1):=by kernel_rfl
theorem SD:opening PySem.Challenge.pw_glazebench_k73_bench_refused=plainProg PySem.Challenge.pw_glazebench_k73_bench_refused.main.scope.names:=by kernel_rfl
theorem Pe(s:Shared):fenceModules? PySem.Challenge.pw_glazebench_k73_bench_refused s=some s:=by kernel_rfl
theorem QB(w:World):((boot_heap w.params).isNs mainGlobals,(boot_heap w.params).objs.size,(boot_heap w.params).nsMap mainGlobals "__annotations__")=(true,11,(some (.ref 6))):=by kernel_rfl
theorem T7:SZ 7960 11 (some (.ref 6)) Fast.te10156331382660048174 Fast.te11892475500146522536 Fast.te14364793385576792824 Fast.te5923862056798008813 Fast.te4187177175401517315 Fast.te13602438073870403608:=λ w os=>by kernel_rfl
theorem S7:Hy 7960 11 (some (.ref 6)) qv lo Xp (λ x=>x.1) (expectedOf) Fast.te10156331382660048174 Fast.te11892475500146522536 Fast.te14364793385576792824 Fast.te5923862056798008813 Fast.te4187177175401517315 Fast.te13602438073870403608:=λ w os=>by kernel_rfl
theorem S6:Hy 7960 11 (some (.ref 6)) qv lo Xp (λ x=>(x.2.1,x.2.2.1)) (λ_=>(bltViewBooted,true)) Fast.te10156331382660048174 Fast.te11892475500146522536 Fast.te14364793385576792824 Fast.te5923862056798008813 Fast.te4187177175401517315 Fast.te13602438073870403608:=λ w os=>by kernel_rfl
theorem S5:Hy 7960 11 (some (.ref 6)) qv lo Xp (λ x=>(x.2.2.2.1,x.2.2.2.2.1)) (λ q=>(true,pinGoodD (drecsOf q))) Fast.te10156331382660048174 Fast.te11892475500146522536 Fast.te14364793385576792824 Fast.te5923862056798008813 Fast.te4187177175401517315 Fast.te13602438073870403608:=λ w os=>by kernel_rfl
theorem S4:Hy 7960 11 (some (.ref 6)) qv lo Xp (λ x=>(x.2.2.2.2.2.1,x.2.2.2.2.2.2.1)) (λ q=>(plainGoodE q (looseW q lo),plainGoodD q lo)) Fast.te10156331382660048174 Fast.te11892475500146522536 Fast.te14364793385576792824 Fast.te5923862056798008813 Fast.te4187177175401517315 Fast.te13602438073870403608:=λ w os=>by kernel_rfl
theorem S3:Hy 7960 11 (some (.ref 6)) qv lo Xp (λ x=>x.2.2.2.2.2.2.2) (λ q=>(wideGood q,clsGoodW q lo)) Fast.te10156331382660048174 Fast.te11892475500146522536 Fast.te14364793385576792824 Fast.te5923862056798008813 Fast.te4187177175401517315 Fast.te13602438073870403608:=λ w os=>by kernel_rfl
theorem T6:RunB 7960 11 (some (.ref 6)) qv lo Xp Fast.te10156331382660048174 Fast.te11892475500146522536 Fast.te14364793385576792824 Fast.te5923862056798008813 Fast.te4187177175401517315 Fast.te13602438073870403608:=RunB.of5 S7 S6 S5 S4 S3
theorem T5:SY 7960 11 (some (.ref 6)) (hookT (kHook KK kas kas_is) Ts).obs (hookT (kHook KK kas kas_is) Ts).val Fast.te10156331382660048174 Fast.te11892475500146522536 Fast.te14364793385576792824 Fast.te5923862056798008813 Fast.te4187177175401517315 Fast.te13602438073870403608:=λ w os=>by kernel_rfl
theorem ran:∀(w:World)(os:OsState),Option.map (Ib openSeen (importedModules PySem.Challenge.pw_glazebench_k73_bench_refused.main.body) PySem.Challenge.pw_glazebench_k73_bench_refused (qv PySem.Challenge.pw_glazebench_k73_bench_refused) lo (Xp PySem.Challenge.pw_glazebench_k73_bench_refused) (hookT (kHook KK kas kas_is) Ts).obs (boot_heap w.params)) (topRun treeTable PySem.Challenge.pw_glazebench_k73_bench_refused w 11 (some (.ref 6)) 7960 (Dy w.params os) (topStub PySem.Challenge.pw_glazebench_k73_bench_refused))=some (true,openGood (qv PySem.Challenge.pw_glazebench_k73_bench_refused) lo,(hookT (kHook KK kas kas_is) Ts).val w):=PN T7 T6 T5
theorem left:LeftO PySem.Challenge.pw_glazebench_k73_bench_refused (qv PySem.Challenge.pw_glazebench_k73_bench_refused) lo (Xp PySem.Challenge.pw_glazebench_k73_bench_refused) (hookT (kHook KK kas kas_is) Ts).obs (hookT (kHook KK kas kas_is) Ts).val 7960:=NC (boot_open SD (by decide) Pe) QB ran
end KH
namespace L2
open PySem.W
open PySem PySem.Spec PyProof.Rows
section
variable{α:Type}{κ:α->Int}
def Ue(κ:α->Int)(xs:List α):Prop:=xs.Pairwise λ x y=>κ x<=κ y
structure MI(κ:α->Int)(a b out:List α)(ia ib:Nat):Prop where
 pm:(out++(a.drop ia++b.drop ib)).Perm (a++b)
 so:Ue κ out
 le:∀x∈out,∀y∈a.drop ia++b.drop ib,κ x<=κ y
 la:ia<=a.length
 lb:ib<=b.length
end
section
variable{M:Model}{A:Around}{E:VPz}{s:Shared}
theorem P7{α:Type}:∀(ms:List α)(n base:Nat)(xs:Array α),base+n+ms.length<=xs.size ->
  ((ms.zipIdx n).foldl (λ a p=>a.setIfInBounds (base+p.2) p.1) xs).toList=xs.toList.take (base+n)++ms++xs.toList.drop (base+n+ms.length)
 |[],n,base,xs,h=>by simp
 |m::ms,n,base,xs,h=>by
  rw[List.zipIdx_cons,List.foldl_cons];have hl:base+n+(ms.length+1)<=xs.size:=h;rw[P7 ms (n+1) base (xs.setIfInBounds (base+n) m) (by rw[Array.size_setIfInBounds];lia)];rw[Array.toList_setIfInBounds];have h1:base+n<xs.toList.length:=by rw[bT];lia
  rw[show base+(n+1)=base+n+1 by lia];rw[List.take_set,List.drop_set,if_pos (by lia)];have e1:(xs.toList.take (base+n+1)).set (base+n) m=xs.toList.take (base+n)++[m]:=by
   rw[List.take_succ_eq_append_getElem h1,dB _ _ (by rw[bF];lia)];rw[bF,Nat.min_eq_left (by lia),bV];rfl
  rw[e1,show base+n+1+ms.length=base+n+(m::ms).length by simp;lia];simp
end
def OT:Option NameKind->Bool
 |some .cell=>true
 |some .free=>true
 |_=>false
theorem MP{o:Option NameKind}(h:OT o=true):o=some .cell\/o=some .free:=by
 match o,h with
 |some .cell,_=>exact .inl rfl
 |some .free,_=>exact .inr rfl
theorem Eg(env:Env):∀(l:List (Str×NameKind))(acc:List (Str×Addr)),(∀y∈l,y.2=.free->∃c,env.cells.lookup y.1=some c) ->
  (∀x c,acc.lookup x=some c->env.cells.lookup x=some c) ->
  ∃cl,(forIn l acc (λ(x:Str×NameKind)(r:List (Str×Addr))=>if (x.2==.free)=true then (cellOf env x.1 >>= λ c=>pure (ForInStep.yield ((x.1,c)::r))) else pure (ForInStep.yield r)):Sem (List (Str×Addr)))=pure cl /\
   (∀x c,cl.lookup x=some c->env.cells.lookup x=some c)/\(∀x,((∃c,acc.lookup x=some c)\/(x,NameKind.free)∈l)->∃c,cl.lookup x=some c)
 |[],acc,_,ha=>⟨acc,by rfl,ha,λ x h=>h.elim id λ z=>nomatch z⟩
 | (n,k)::l,acc,hl,ha=>by
  have hl':∀y∈l,y.2=.free->∃c,env.cells.lookup y.1=some c:=λ y hy=>hl y (aO _ hy);by_cases hk:k=.free
  .subst hk;obtain⟨c,hc⟩:=hl (n,.free) aR rfl;have hc':env.cells.lookup n=some c:=hc;have look:∀x,((n,c)::acc).lookup x=if x=n then some c else acc.lookup x:=λ x=>by
    rw[bc];by_cases e:x=n
    .subst e;simp
    .rw[if_neg e,show(x==n)=false by simpa using e]
   have ha':∀x d,((n,c)::acc).lookup x=some d->env.cells.lookup x=some d:=λ x d e=>by
    rw[look]at e;split at e
    .rename_i q;subst q;rw[hc'];exact e
    .exact ha x d e
   obtain⟨cl,e,h1,h2⟩:=Eg env l ((n,c)::acc) hl' ha';refine⟨cl,?_,h1,λ x h=>h2 x ?_⟩
   .rw[<-e,dW];have ec:cellOf env n=pure c:=by unfold cellOf;rw[hc']
    show((cellOf env n >>= λ c=>pure (ForInStep.yield ((n,c)::acc))) >>= _:Sem (List (Str×Addr)))=_;rw[ec];rfl
   .rcases h with ⟨d,q⟩|h
    .left
     rw[look];by_cases z:x=n
     .exact⟨c,by rw[if_pos z]⟩
     .exact⟨d,by rw[if_neg z];exact q⟩
    .rcases aA.mp h with z|z
     .left
      rw[look];exact⟨c,by rw[if_pos (congrArg eU z)]⟩
     .exact .inr z
  .obtain⟨cl,e,h1,h2⟩:=Eg env l acc hl' ha;refine⟨cl,?_,h1,λ x h=>h2 x ?_⟩
   .rw[<-e,dW];have hb:(k==NameKind.free)=false:=by simpa using hk
    show((if (k==NameKind.free)=true then _ else pure (ForInStep.yield acc)) >>= _:Sem (List (Str×Addr)))=_;rw[hb];rfl
   .rcases h with h|h
    .exact .inl h
    .rcases aA.mp h with z|z
     .exact absurd (congrArg Prod.snd z).symm hk
     .exact .inr z
theorem Ml{scope:Scope}{env:Env}(h:∀y∈scope.names,y.2=.free->∃c,env.cells.lookup y.1=some c) :
  ∃cl,closureFor scope env=pure cl/\(∀x c,cl.lookup x=some c->env.cells.lookup x=some c)/\(∀x,(x,NameKind.free)∈scope.names->∃c,cl.lookup x=some c):=by
 obtain⟨cl,e,h1,h2⟩:=Eg env scope.names [] h (λ x c e=>by simp at e);refine⟨cl,?_,h1,λ x hx=>h2 x (.inr hx)⟩;have e2:closureFor scope env=(forIn scope.names [] (λ(x:Str×NameKind)(r:List (Str×Addr))=>if (x.2==.free)=true then (cellOf env x.1 >>= λ c=>pure (ForInStep.yield ((x.1,c)::r))) else pure (ForInStep.yield r)) >>= λ r=>pure r:Sem (List (Str×Addr))):=by
  rfl
 rw[e2,e];rfl
abbrev AD(X:Cx)(scope:Scope)(cl:List (Str×Addr))(N:LSz)(C:Addr)(s:Shared)(H:Hp)(ex:List Addr):Cx :=
 { X with N:=N,s₀:=s,H₀:=H,env:=compEnvC scope cl C X.env,outer:=X.stack,ex:=ex,fn:=λ_=>false,pn:=[],xe:=λ_ _=>False }
def DC(osc:Scope)(oN:LSz)(sc:Scope)(N:LSz)(fr:List (Option Nat)):Bool :=
 decide (sc.kind=.function)&&sc.names.all (λ y=>decide (y.2≠.cell))&&sc.names.all (λ y=>decide (y.2≠.free)||OT (osc.names.lookup y.1)) &&
 sc.names.all (λ y=>decide (y.2≠.local)||decide (sc.names.lookup y.1=some .local)) &&
 (N.zip fr).all (λ y=>match y.2 with
  |none=>true
  |some i=>decide (oN[i]?=some y.1)&&OT (osc.names.lookup y.1)&&decide (sc.names.lookup y.1=some .free))&&decide (N.length=fr.length)
structure EK(osc:Scope)(oN:LSz)(sc:Scope)(N:LSz)(fr:List (Option Nat)):Prop where
 kind:sc.kind=.function
 nocell:∀y∈sc.names,y.2≠.cell
 free:∀y∈sc.names,y.2=.free->OT (osc.names.lookup y.1)=true
 loc:∀y∈sc.names,y.2=.local->sc.names.lookup y.1=some .local
 slots:∀(j:Nat)(x:Str)(i:Nat),N[j]?=some x->fr[j]?=some (some i)->oN[i]?=some x/\OT (osc.names.lookup x)=true/\sc.names.lookup x=some .free
 len:N.length=fr.length
theorem CQ{osc:Scope}{oN:LSz}{sc:Scope}{N:LSz}{fr:List (Option Nat)}(h:DC osc oN sc N fr=true):EK osc oN sc N fr:=by
 unfold DC at h;simp only[aP,b9,decide_eq_true_eq,dX]at h;obtain⟨⟨⟨⟨⟨h1,h2⟩,h3⟩,h4⟩,h5⟩,h6⟩:=h;refine⟨h1,h2,λ y hy e=>(h3 y hy).resolve_left λ z=>z e,λ y hy e=>(h4 y hy).resolve_left λ z=>z e,λ j x i e1 e2=>?_,h6⟩;have hm:(x,some i)∈N.zip fr:=by
  have:(N.zip fr)[j]?=some (x,some i):=by rw[List.getElem?_zip_eq_some];exact⟨e1,e2⟩
  exact ai this
 have:=h5 _ hm;simp only[aP,decide_eq_true_eq]at this;exact⟨this.1.1,this.1.2,this.2⟩
def stC(fr:List (Option Nat))(σ:St):St:=fr.map λ o=>o.bind λ i=>(σ[i]?).join
def Oo(wi:TI)(g:TG)(te:TE)(fr:List (Option Nat)):TE:=λ σ H Q=>wi σ H λ J H1=>∀acc,H1 acc=none->∃W:Nat->Nat->St->Hp->Prop,(∃m,W 0 m (stC fr σ) (upd H1 acc (.lst [])))/\∀i m σ1 H2,W i m σ1 H2 ->
 (J.stop i H2/\Q (.ref acc) H2)\/(J.go i H2/\∀x H3,J.yld i H2 x H3->g x σ1 H3 λ σ4 H4=>te σ4 H4 λ v H5=>∃xs,H5 acc=some (.lst xs)/\xs.length<sizeLine/\∃m',m'<m/\W (i+1) m' σ4 (upd H5 acc (.lst (xs++[v]))))
section
variable{prog:Program}{w:World}{A:Around}{R:Result->Shared->Prop}{s:Shared}
theorem JA{elt target iter:Expr}{scope:Scope}{pos:Pos}{it acc:Value}{env:Env}(I:Nat->Shared->Prop)
    (turn:∀n s,I n s->wpAny (model prog w) A (pyNext it) (λ r s₁=>match r with
      |none=>R (.ok .next) s₁
      |some v=>wpAny (model prog w) A (letOwnedTupleGo target it v) (λ_ s₁=>wpAny (model prog w) A (assign target env v) (λ_ s₂=>wpAny (model prog w) A (eval elt env) (λ x s₃ =>
          wpAny (model prog w) A (call (.builtin "list.append") [acc,x]) (λ_ s₄=>∃m,m<n/\I m s₄) (notedBy (model prog w) A env λ e s'=>R (.error e) s') s₃)
          (notedBy (model prog w) A env λ e s'=>R (.error e) s') s₂) (notedBy (model prog w) A env λ e s'=>R (.error e) s') s₁) (notedBy (model prog w) A env λ e s'=>R (.error e) s') s₁) (notedBy (model prog w) A env λ e s'=>R (.error e) s') s)
    (n:Nat) (h:I n s) :
    codeAny (model prog w) A (.compLoop (.ListComp elt [⟨target,iter,[],0⟩] scope pos) 0 it acc env) R s:=by
  refine codeAny_loop rfl I (λ n s hI=>?_) n h;show wpAny _ _ ((compTurn (.ListComp elt [⟨target,iter,[],0⟩] scope pos) 0 it acc env).onRaise (λ x=>do noteFrame x env;theTreesLotGoes x)) _ _ s;refine wpAny_noted ?_;rw[compTurn_list1];refine wpAny_bind (wpAny_standAt (wpAny_bind (wpAny_mono (turn n s hI) (λ r s₁ h₁=>?_) λ_ _ h'=>h')));cases r with
  |none=>exact wpAny_pure h₁
  |some v =>
    refine wpAny_bind (wpAny_mono h₁ (λ_ s₁ h₁=>?_) λ_ _ h'=>h');exact wpAny_bind (wpAny_mono h₁ (λ_ s₂ h₂=>wpAny_bind (wpAny_bind (wpAny_mono h₂ (λ x s₃ h₃=>wpAny_bind (wpAny_mono h₃
      (λ_ s₄ h₄=>wpAny_pure (wpAny_pure ⟨rfl,h₄⟩)) λ_ _ h'=>h')) λ_ _ h'=>h'))) λ_ _ h'=>h')
end
theorem Bj{α:Type}{M:Model}{A:Around}{t:Sem α}{Q:α->Shared->Prop}{E:VPz}{s:Shared}(h:wpAny M A t Q (λ_ _=>False) s):wpAny M A t Q E s :=
 wpAny_mono h (λ_ _ q=>q) λ_ _ z=>z.elim
theorem Ly{scope:Scope}{env:Env}(hc:∀y∈scope.names,y.2≠.cell){x:Str}(h:(relabel scope env).names.lookup x=some .cell\/(relabel scope env).names.lookup x=some .free):(x,NameKind.free)∈scope.names:=by
 have key:∀(l:List (Str×NameKind)),(∀y∈l,y.2≠.cell)->((l.map λ(n,k)=>if (k==NameKind.free&&env.scope.kind==.function&&env.kindOf n==some .cell) then (n,NameKind.cell) else (n,k)).lookup x=some .cell \/
   (l.map λ(n,k)=>if (k==NameKind.free&&env.scope.kind==.function&&env.kindOf n==some .cell) then (n,NameKind.cell) else (n,k)).lookup x=some .free)->(x,NameKind.free)∈l:=by
  intro l
  induction l with
  |nil=>intro _ h;simp at h
  |cons y r ih =>
   obtain⟨n,k⟩:=y;intro hc h;have hr:∀y∈r,y.2≠.cell:=λ y hy=>hc y (aO _ hy);have hk:k≠.cell:=hc (n,k) aR;rw[aL]at h;by_cases hxn:x=n
   .subst hxn;have hkf:k=.free:=by
     by_cases hb:(k==NameKind.free&&env.scope.kind==.function&&env.kindOf x==some .cell)=true
     .simp only[aP,beq_iff_eq]at hb;exact hb.1.1
     .simp only[hb,if_neg,aU,if_false]at h;simp only[bc,beq_self_eq_true]at h;rcases h with h|h
      .exact absurd (Option.some.inj h) hk
      .exact Option.some.inj h
    rw[hkf];exact aR
   .have hb:(x==n)=false:=by simpa using hxn
    refine aO _ (ih hr ?_);by_cases hq:(k==NameKind.free&&env.scope.kind==.function&&env.kindOf n==some .cell)=true
    .simp only[hq,if_true,bc,hb]at h;exact h
    .simp only[hq,aU,if_false,bc,hb]at h;exact h
 exact key scope.names hc h
theorem Ev{env:Env}{x:Str}:∀{l:List (Str×NameKind)},l.lookup x=some .free ->
  ((l.map λ(n,k)=>if (k==NameKind.free&&env.scope.kind==.function&&env.kindOf n==some .cell) then (n,NameKind.cell) else (n,k)).lookup x=some .cell \/
   (l.map λ(n,k)=>if (k==NameKind.free&&env.scope.kind==.function&&env.kindOf n==some .cell) then (n,NameKind.cell) else (n,k)).lookup x=some .free)
 |[],h=>by simp at h
 | (n,k)::r,h=>by
  rw[aL];by_cases hxn:x=n
  .subst hxn;simp only[bc,beq_self_eq_true]at h;have hk:=Option.some.inj h;subst hk;by_cases hq:(NameKind.free==NameKind.free&&env.scope.kind==.function&&env.kindOf x==some .cell)=true
   .left
    show List.lookup x ((if (NameKind.free==NameKind.free&&env.scope.kind==.function&&env.kindOf x==some .cell)=true then (x,NameKind.cell) else (x,NameKind.free))::_)=_;rw[if_pos hq,bc,beq_self_eq_true]
   .right
    show List.lookup x ((if (NameKind.free==NameKind.free&&env.scope.kind==.function&&env.kindOf x==some .cell)=true then (x,NameKind.cell) else (x,NameKind.free))::_)=_;rw[if_neg hq,bc,beq_self_eq_true]
  .have hb:(x==n)=false:=by simpa using hxn
   simp only[bc,hb]at h;have ih:=Ev (env:=env) h;by_cases hq:(k==NameKind.free&&env.scope.kind==.function&&env.kindOf n==some .cell)=true
   .simp only[hq,if_true,bc,hb];exact ih
   .simp only[hq,aU,if_false,bc,hb];exact ih
theorem Ky{x:Str}{k:NameKind}:∀{l:List (Str×NameKind)},l.lookup x=some k->(x,k)∈l
 |[],h=>by simp at h
 | (n,j)::r,h=>by
  by_cases e:x=n
  .subst e;simp only[bc,beq_self_eq_true]at h;rw[<-Option.some.inj h];exact aR
  .have hb:(x==n)=false:=by simpa using e
   simp only[bc,hb]at h;exact aO _ (Ky h)
section
variable{X:Cx}{elt tg iter:Expr}{scope:Scope}{pos:Pos}{wi:TI}{g:TG}{te:TE}{N:LSz}{fr:List (Option Nat)}
theorem GZ{pins:PNz}{σ:St}{H:Hp}{s s1:Shared}{cl:List (Str×Addr)}{ex:List Addr}{C:Addr}{m:MGz}(I:Inv X pins σ H s)(ck:EK X.env.scope X.N scope N fr)
    (c1:∀x c,cl.lookup x=some c->X.env.cells.lookup x=some c) (c2:∀x,(x,NameKind.free)∈scope.names->∃c,cl.lookup x=some c) (hex:∀b∈ex,Ei X pins H b/\b<s.heap.objs.size) (hC:s.heap.objs.size<=C)
    (hn:s1.heap.Ns C m) (k:∀b o,s.heap.get? b=some o->s1.heap.get? b=some o) (ho:s1.os=s.os) (hg:s1.gens=s.gens) :
    Inv (AD X scope cl N C s H ex) [] (stC fr σ) H s1:=by
  have lt_ne:∀{b:Addr}{o:Obj},s.heap.get? b=some o->b≠C:=λ e=>aJ (aQ (aB e) hC);have ok:(AD X scope cl N C s H ex).Ok :=
    { mod:=I.ok.mod
      kind:=ck.kind
      glob:=I.ok.glob
      blt:=I.ok.blt
      above:=hC
      inj:=λ x y c e1 e2=>I.ok.inj x y c (c1 x c e1) (c1 y c e2)
      has:=λ x h=>c2 x (Ly ck.nocell h)
      cab:=λ x c z=>by cases z
      hd:=I.ok.hd
      frames:=I.ok.frames
      stk:=.inl rfl
      exf:=λ b hb=>⟨aJ (aQ (hex b hb).2 hC),λ x c e=>(hex b hb).1.2.2.2.2.1 x c (c1 x c e)⟩
      bs:=I.bs
      bsz:=aS I.ok.bsz I.sz
      noex:=λ b o e hb=>by
        rcases(hex b hb).1.2.2.2.1 with z|z
        · exact I.ok.noex b o e z
        · exact absurd (aQ (aB e) (aS I.ok.bsz z)) (bS _)
      exfs:=λ b hb hz=>by
        rcases aA.mp (I.stkSub b hz) with z|z
        · exact(hex b hb).1.2.1 z
        · exact(hex b hb).1.2.2.1 z
      funs:=I.stack
      frf:=I.stkFree }
  refine⟨ok,ho,by rw[hg];exact I.bare,Un.kept k,⟨m,hn,λ j x v e1 e2 e3=>?_⟩,λ x c e=>?_,I.hok.fresh hC,λ x c e=>I.freeC x c (c1 x c e),λ p hp=>by simp at hp,I.hok.kept k,?_⟩
  · have e1':N[j]?=some x:=e1
    unfold stC at e2;rw[aE]at e2;cases q:fr[j]? with
    |none=>rw[q]at e2;cases e2
    |some o =>
      rw[q]at e2;cases o with
      |none =>
        have:(none:Option V)=some v:=Option.some.inj e2;cases this
      |some i =>
        have e2':(σ[i]?).join=some v:=Option.some.inj e2;obtain⟨s1',s2',s3'⟩:=ck.slots j x i e1' q;have hσ:σ[i]?=some (some v):=by
          cases z:σ[i]? with
          |none=>rw[z]at e2';cases e2'
          |some y=>rw[z]at e2';exact congrArg some e2'
        have hcf:=MP s2';obtain⟨m0,hn0,hl⟩:=I.loc;obtain⟨u,r,lk⟩:=hl i x v s1' hσ (eV hcf);refine⟨u,r,eV ⟨Ev s3',?_⟩⟩;obtain⟨c,hc⟩:=c2 x (Ky s3');refine⟨c,hc,?_⟩;rcases lk with ⟨z,_⟩|⟨_,c',hc',hv⟩
        · rcases hcf with y|y
          · have z':X.env.scope.names.lookup x=some .local:=z
            rw[y]at z';cases z'
          · have z':X.env.scope.names.lookup x=some .local:=z
            rw[y]at z';cases z'
        · have:=c1 x c hc
          rw[hc']at this;cases this;exact hv.keeps k
  · obtain⟨v,z⟩:=I.cell x c (c1 x c e)
    exact⟨v,z.keeps k⟩
  · unfold stC
    rw[ae];exact ck.len.symm
theorem Ip{pins:PNz}{σ:St}{H:Hp}{s:Shared}{Q:VK}{cl:List (Str×Addr)}{R:Value->Addr->Result->Shared->Prop}(hc:X.calm=true)(I:Inv X pins σ H s)(hi:PI X tg iter wi)
  (hg:∀cl C s H ex,PG (AD X scope cl N C s H ex) tg g) (he:∀cl C s H ex,PE (AD X scope cl N C s H ex) elt te) (ck:EK X.env.scope X.N scope N fr)
  (c1:∀x c,cl.lookup x=some c->X.env.cells.lookup x=some c) (c2:∀x,(x,NameKind.free)∈scope.names->∃c,cl.lookup x=some c)
  (h:Oo wi g te fr σ H Q)
  (hR:∀acc C s' H' m,s'.heap.Ns C m->Ei X pins H' C->Inv X pins σ H' s'->Q (.ref acc) H'->R (.ref acc) C (.ok .next) s') :
  wpAny (model X.prog X.w) X.A (eval iter X.env) (λ x s₁=>wpAny (model X.prog X.w) X.A (pyIter x) (λ it s₂=>wpAny (model X.prog X.w) X.A (newList []) (λ acc s₃ =>
   wpAny (model X.prog X.w) X.A (newFunctionEnv scope X.env.globals cl [] X.env.qual none .none (some X.env)) (λ cenv s₄ =>
    codeAny (model X.prog X.w) X.A (.compStart (.ListComp elt [⟨tg,iter,[],0⟩] scope pos) 0 it acc { cenv with scope:=relabel scope X.env }) (R acc cenv.locals) s₄) X.xe s₃) X.xe s₂) X.xe s₁) X.xe s:=by
 refine thn (hi pins s σ H _ I h) λ v s1 h1=>thn h1 λ itv s2 h2=>?_;obtain⟨it,fp,tn,J,H2,e,I2,T,st2,f2,q2⟩:=h2;subst e;refine wpAny_newObj_type (wpAny_newFunctionEnv ck.nocell (by intro y hy;simp at hy) (λ h₁ hns₁ hsb₁=>?_) ck.kind);dsimp only at hns₁ hsb₁ |-;have I3:Inv X pins σ (upd H2 s2.heap.objs.size (.lst [])) { s2 with heap:=s2.heap.push { cls:=.type "list",dict:=none,data:=.seq ([]:LWz).toArray } }:=I2.lnew (t':=s2.toks) (its:=[]) .nil (aZ _);have acc0:H2 s2.heap.objs.size=none:=I2.fresh;obtain⟨W,⟨m0,w0⟩,turn⟩:=q2 s2.heap.objs.size acc0;generalize hH3:s2.heap.push { cls:=.type "list",dict:=none,data:=.seq ([]:LWz).toArray }=h3 at hns₁ hsb₁ I3 |-;have hz3:h3.objs.size=s2.heap.objs.size+1:=by rw[<-hH3,b7]
 have k23:∀b o,s2.heap.get? b=some o->h3.get? b=some o:=λ b o e=>by rw[<-hH3];exact af _ e
 have k34:∀b o,h3.get? b=some o->h₁.get? b=some o:=λ b o e=>hsb₁.extBut b o (aJ (aB e)) (af _ e);have fpo:∀b∈fp,∃o,s2.heap.get? b=some o/\∀v,o.data≠.cell v:=T.obj 0 _ st2;have hex:∀b∈fp,Ei X pins (upd H2 s2.heap.objs.size (.lst [])) b/\b<h3.objs.size:=λ b hb=>by
  obtain⟨o,eo,_⟩:=fpo b hb;have lt:=aB eo;obtain⟨f0,fr'⟩:=f2 b hb;exact⟨⟨by rw[Af (aJ lt)];exact f0,fr'⟩,by rw[hz3];exact bZ lt⟩
 have I4:Inv (AD X scope cl N h3.objs.size { s2 with heap:=h3 } (upd H2 s2.heap.objs.size (.lst [])) fp) [] (stC fr σ) (upd H2 s2.heap.objs.size (.lst [])) { s2 with heap:=h₁,toks:=s2.toks+([]:List (Str×Value)).length } :=
  GZ I3 ck c1 c2 hex (aj _) hns₁ k34 rfl rfl
 have stat:∀{H':Hp},(∀b∈fp,H' b=none)->∀b∈fp,Ei (AD X scope cl N h3.objs.size { s2 with heap:=h3 } (upd H2 s2.heap.objs.size (.lst [])) fp) [] H' b:=λ hn b hb =>
  ⟨hn b hb,(I4.ok.exf b hb).1,I4.ok.exfs b hb,.inl hb,(I4.ok.exf b hb).2,λ p hp=>by simp at hp⟩
 have stn:∀i h h',tn i h->(∀b o,h.get? b=some o->h'.get? b=some o)->tn i h':=λ i h h' st kk=>T.keep i h h' st λ b _ o e=>kk b o e;have loop:codeAny (model X.prog X.w) X.A (.compLoop (.ListComp elt [⟨tg,iter,[],0⟩] scope pos) 0 (.ref it) (.ref s2.heap.objs.size) (compEnvC scope cl h3.objs.size X.env)) (R (.ref s2.heap.objs.size) h3.objs.size)
   { s2 with heap:=h₁,toks:=s2.toks+([]:List (Str×Value)).length }:=by
  refine JA (λ n s'=>∃i σ' H',Inv (AD X scope cl N h3.objs.size { s2 with heap:=h3 } (upd H2 s2.heap.objs.size (.lst [])) fp) [] σ' H' s'/\tn i s'.heap/\(∀b∈fp,H' b=none)/\W i n σ' H') ?_ m0
   ⟨0,_,_,I4,stn _ _ _ st2 λ b o e=>k34 b o (k23 b o e),λ b hb=>(hex b hb).1.1,w0⟩
  rintro n s3 ⟨i,σ3,H3,J3,st3,fr3,w3⟩;rcases turn i n σ3 H3 w3 with ⟨stop,qn⟩|⟨go,step⟩
  .refine Bj (thn (T.done (AD X scope cl N h3.objs.size { s2 with heap:=h3 } (upd H2 s2.heap.objs.size (.lst [])) fp) rfl rfl rfl hc i [] s3 σ3 H3 (λ_ _=>False) J3 (stat fr3) st3 stop) λ r s4 hz_=>?_);obtain⟨hr,J4⟩:=hz_;subst hr;obtain⟨mc,hmc,_⟩:=J4.loc;have I5:Inv X pins σ H3 s4:=I3.call' (ch:=fp) J4.os J4.base J4.hok J4.bare λ b hb=>⟨(hex b hb).1.2.2.2.1,(hex b hb).1.2.1,(hex b hb).1.2.2.2.2.1,(hex b hb).1.2.2.2.2.2⟩;exact hR _ _ s4 H3 mc hmc (I3.fpOk (aj _) J4.free) I5 qn
  .refine Bj (thn (T.item (AD X scope cl N h3.objs.size { s2 with heap:=h3 } (upd H2 s2.heap.objs.size (.lst [])) fp) rfl rfl rfl hc i [] s3 σ3 H3 (λ_ _=>False) J3 (stat fr3) st3 go) λ r s4 hz_=>?_);obtain⟨u,hr,h4⟩:=hz_;subst hr;refine Bj (thn h4 λ_ s5 hz_=>?_);obtain⟨x,H5,J5,r5,y5,st5,fr5⟩:=hz_;have J5':=J5.pinned (stat fr5) (T.obj _ _ st5);refine Bj (thn (hg _ _ _ _ _ _ s5 σ3 H5 x u _ J5' r5 (step x H5 y5)) λ_ s6 hz_=>?_);obtain⟨σ6,H6,J6,q6⟩:=hz_;refine Bj (thn (he _ _ _ _ _ _ s6 σ6 H6 _ J6 q6) λ y s7 hz_=>?_);obtain⟨v7,H7,J7,r7,xs,hx,hz,m',hm',w7⟩:=hz_;refine Bj (thn (EZ _ s7 σ6 H7 (.ref s2.heap.objs.size) [v7] (.ref s2.heap.objs.size) [y] (λ v H8=>H8=upd H7 s2.heap.objs.size (.lst (xs++[v7]))) J7 rfl (.cons r7 .nil) ⟨_,xs,v7,rfl,rfl,hx,hz,rfl⟩) λ_ s8 hz_=>?_);obtain⟨_,H8,J8,_,e8⟩:=hz_;subst e8;refine⟨m',hm',i+1,σ6,_,J8.unpinned,T.keep _ _ _ st5 λ b hb o e=>(J8.pin (b,o) (az _ (az _ (AS hb e)))).1,λ b hb=>?_,w7⟩;obtain⟨o,e,d⟩:=T.obj _ _ st5 b hb;exact(J8.pin (b,o) (az _ (az _ (AS hb e)))).2.1
 exact codeAny_compStart_list loop (T.self _ 0 _ _ _ (stn _ _ _ st2 λ b o e=>k34 b o (k23 b o e)) loop)
theorem FV(I:X.Ok)(ck:EK X.env.scope X.N scope N fr):∃cl,closureFor scope X.env=pure cl/\(∀x c,cl.lookup x=some c->X.env.cells.lookup x=some c)/\(∀x,(x,NameKind.free)∈scope.names->∃c,cl.lookup x=some c) :=
 Ml λ y hy e=>I.has y.1 (MP (ck.free y hy e))
theorem Jg(hc:X.calm=true)(hi:PI X tg iter wi)(hg:∀cl C s H ex,PG (AD X scope cl N C s H ex) tg g)(he:∀cl C s H ex,PE (AD X scope cl N C s H ex) elt te)
  (hk:DC X.env.scope X.N scope N fr=true:=by rfl) (hs:∀x,foldedSetIterable iter X.env x=pure x:=by intro _;rfl):PE X (.ListComp elt [⟨tg,iter,[],0⟩] scope pos) (Oo wi g te fr):=by
 intro pins s σ H Q I h;have ck:=CQ hk;obtain⟨cl,e1,c1,c2⟩:=FV I.ok ck;rw[eval_ListComp];refine wpAny_comprehension_free (use:=none) (Q:=EP X pins σ Q) rfl hs e1 ck.kind ck.loc (Ip (R:=λ acc C=>compPost (model X.prog X.w) X.A X.xe none (EP X pins σ Q) acc C) hc I hi hg he ck c1 c2 h λ acc C s' H' m hn f I' q=>?_);obtain⟨f0,f1,f2,f3,f4,f5⟩:=f;exact⟨m,hn,λ h' hs'=>⟨.ref acc,H',I'.turned (t':=s'.toks) (λ b o hb e=>hs'.extBut b o hb e) f0 f1 f3 f4 f5,rfl,q⟩⟩
theorem Gv{y:Str}{py spos:Pos}{gy:TG}(hc:X.calm=true)(hy:PG X (.Name y py) gy)(hi:PI X tg iter wi)(hg:∀cl C s H ex,PG (AD X scope cl N C s H ex) tg g)(he:∀cl C s H ex,PE (AD X scope cl N C s H ex) elt te)
    (hk:DC X.env.scope X.N scope N fr=true:=by rfl) (hsw:swapsWith (.ListComp elt [⟨tg,iter,[],0⟩] scope pos) (some (.Name y py)) spos.line X.env=pure true:=by rfl) (hs:∀x,foldedSetIterable iter X.env x=pure x:=by intro _;rfl) :
    PS X (.Assign [.Name y py] (.ListComp elt [⟨tg,iter,[],0⟩] scope pos) spos) (PB (Oo wi g te fr) gy):=by
  intro pins s σ H D I h;have ck:=CQ hk;obtain⟨cl,e1,c1,c2⟩:=FV I.ok ck;rw[exec_Assign_Name_used _ _ _ _ hsw];refine wpAny_bind (wpAny_standAt (wpAny_bind ?_));show wpAny _ X.A (do let _ <-comprehension (.ListComp elt [⟨tg,iter,[],0⟩] scope pos) scope X.env _ (newList []) false (eval iter X.env) (some (assign (.Name y py) X.env))) _ _ s;refine wpAny_bind (wpAny_mono (wpAny_comprehension_free (use:=some (assign (.Name y py) X.env)) (Q:=λ_ s'=>SP X pins D .next s') rfl hs e1 ck.kind ck.loc
    (Ip (R:=λ acc C=>compPost (model X.prog X.w) X.A X.xe (some (assign (.Name y py) X.env)) (λ_ s'=>SP X pins D .next s') acc C) hc I hi hg he ck c1 c2 h λ acc C s' H' m hn f I' q=>?_)) (λ_ s' hq=>wpAny_pure (wpAny_pure hq)) λ_ _ e=>e)
  show wpAny _ X.A (assign (.Name y py) X.env (.ref acc)) _ _ _;obtain⟨oC,es,ep,hoC,hdC,hrC⟩:=id hn;have IP:=I'.pinned (fp:=[C]) (λ b hb=>by rw[aa.mp hb];exact f) (λ b hb=>by rw[aa.mp hb];exact⟨oC,hoC,λ v z=>by rw[hdC]at z;cases z⟩);refine thn (hy _ s' σ H' (.ref acc) (.ref acc) _ IP rfl q) λ_ s'' ⟨σ6,H6,I6,q6⟩=>?_;have pC:=I6.pin (C,oC) (az _ (az _ (AS (aa.mpr rfl) hoC)));obtain⟨f0,f1,f2,f3,f4,f5⟩:=f;exact⟨m,⟨oC,es,ep,pC.1,hdC,hrC⟩,λ h' hs'=>⟨σ6,H6,I6.unpinned.turned (t':=s''.toks) (λ b o hb e=>hs'.extBut b o hb e) pC.2.1 f1 f3 f4 f5,q6⟩⟩
end
section
variable{X:Cx}
def Rg(_ j:Int):Prop:=0<j/\j.natAbs.log2<9000
theorem EB:OpR X (binaryOp .FloorDiv) (rI Rg λ i j=>.int (i / j)):=opI λ i j _ _ _ _ _ hc q=>by
 have h1:(0:Int)<j:=hc.1;exact floordiv_int (by lia) (by rw[Int.fdiv_eq_ediv_of_nonneg i (by lia)];exact q) (.inl (PyProof.noPylong_of_log2 hc.2))
theorem CN:OpR X (binaryOp .Mult) (rI IntMulOk λ i j=>.int (i*j)):=opI λ_ _ _ _ _ _ _ hc q=>mul_int q hc
theorem GG{n k:Nat}(hk:0<k)(h:n<2^k):n.log2<k:=by
 rcases Nat.eq_zero_or_pos n with h0|hp
 .rw[h0];simpa using hk
 .exact(Nat.log2_lt (dq hp)).mpr h
theorem GP{z:Int}{k:Nat}(hk:0<k)(h:z.natAbs<2^k):Builtin.Int.intBits z<=k:=by
 unfold Builtin.Int.intBits;split
 .exact aZ _
 .exact GG hk h
theorem OM{a b:Int}(h1:a.natAbs<2^128)(h2:b.natAbs<2^128):IntMulOk a b:=by
 have e1:=GP (by decide) h1;have e2:=GP (by decide) h2;unfold IntMulOk Builtin.Int.intTooBig;intro h;simp only[aP,decide_eq_true_eq]at h;have h3:=h.2;have hb:(256:Int)<=(bitsLine:Int):=by decide +kernel
 lia
def tyO:Option HO->Option String
 |some (.lst _)=>some "list"
 |some (.frz _ (.lst _))=>some "list"
 |some (.tup _)=>some "tuple"
 |some (.dK _)=>some "dict"
 |some (.dT _)=>some "dict"
 |_=>none
def tyS(H:Hp):V->Option String
 |.non=>some "NoneType"
 |.bl _=>some "bool"
 |.int _=>some "int"
 |.str _=>some "str"
 |.ref a=>tyO (H a)
 |_=>none
theorem Rj{K:Frag}{H:Hp}{x:V}{T:String}(h:tyS H x=some T):Fk K H x (.type T)/\(T="NoneType"\/T="bool"\/T="int"\/T="str"\/T="list"\/T="tuple"\/T="dict"):=by
 unfold tyS at h;split at h
 .cases h;exact⟨.non,by simp⟩
 .cases h;exact⟨.bl _,by simp⟩
 .cases h;exact⟨.int _,by simp⟩
 .cases h;exact⟨.str _,by simp⟩
 .unfold tyO at h;split at h
  .rename_i e;cases h;exact⟨.lst e,by simp⟩
  .rename_i e;cases h;exact⟨.frz e,by simp⟩
  .rename_i e;cases h;exact⟨.tup e,by simp⟩
  .rename_i e;cases h;exact⟨.dK e,by simp⟩
  .rename_i e;cases h;exact⟨.dT e,by simp⟩
  .cases h
 .cases h
def isB(T c:String):Bool:=decide (T=c)||(decide (T="bool")&&decide (c="int"))
theorem RM:isB "tuple" "tuple"=true:=by decide
theorem Qq{K:Frag}{T c:String}(h:T="NoneType"\/T="bool"\/T="int"\/T="str"\/T="list"\/T="tuple"\/T="dict")(hc:c="int"\/c="bool"\/c="tuple"\/c="list"\/c="str") :
  kitOne K (.type T) (.type c)=some (isB T c):=by
 rcases h with rfl|rfl|rfl|rfl|rfl|rfl|rfl<;>rcases hc with rfl|rfl|rfl|rfl|rfl<;>rfl
inductive Rb(xs:LUz)(H:Hp)(Q:VK):Prop
 |mk (x:V) (T c:String) (e:xs=[x,.ty c]) (t:tyS H x=some T) (h:c="int"\/c="bool"\/c="tuple"\/c="list"\/c="str") (q:Q (.bl (isB T c)) H):Rb xs H Q
theorem B6:CV X (.builtin "isinstance") (λ xs H Q=>Rb xs H Q):=by
 intro pins s σ H xs us Q I r h;obtain⟨x,T,c,rfl,hT,hc,q⟩:=h;obtain⟨u,w',rfl,rx,ry⟩:=Of r;cases(show w'=Value.type c from ry);obtain⟨ty,hl⟩:=Rj (K:=X.K) hT;exact NJ I rx ty (Qq hl hc) λ tk=>⟨.bl (isB T c),H,I.tok tk,rfl,q⟩
end
structure AC(P:Program)(w:World)(K:Frag)(mg:MGz)(base:Heap)(k:Nat)(x:Str)(ps:LSz)(sp:Sp):Prop where
 ex:∃(f:Addr)(fd:FuncData),A3 P w K mg base CX0 k f fd ps sp/\mg x=some (.ref f)/\keepIn K (.ref f)=true/\Binds K fd ps []
section
variable{X:Cx}{k j:Nat}{x:Str}{ps:LSz}{sp:Sp}{p pos:Pos}{e:Expr}{es:List Expr}{t:TA}
theorem A2(D:AC X.prog X.w X.K X.mg X.base k x ps sp)(hr:Room j X.A)(ha:PA X (e::es) t)(hj:k<=j:=by decide)(hg:Gl X x:=by rfl)(hdb:(x==("__debug__":Str))=false:=by decide)
  (he:starEach (e::es) X.env=(false,eval e X.env)::starEach es X.env:=by rfl) (hpl:(backTo pos (starEach es X.env)).any (·.1)=false:=by rfl):PE X (.Call (.Name x p) (e::es) [] pos) (Oq sp [] E0 t):=by
 obtain⟨f,fd,F,hm,hk,hb⟩:=D.ex;exact MC F (hr.mono hj) hg hm hk hb .nil HV ha hdb he hpl
end
theorem Ao{xs:LUz}(n:Nat)(h:xs.length=n:=by rfl)(h2:n<=1000:=by decide):xs.length<=sizeLine:=by rw[h];exact ba (At h2)
theorem C9{c:Bool}{A B:Prop}(h:c=true)(a:A):if c=true then A else B:=by rw[if_pos h];exact a
theorem B4{c:Bool}{A B:Prop}(h:c=false)(b:B):if c=true then A else B:=by rw[if_neg (by rw[h];exact au)];exact b
theorem Bi{c:Bool}{A B:Prop}(h1:c=true->A)(h2:c=false->B):if c=true then A else B:=by
 cases c with
 |true=>exact NI (h1 rfl)
 |false=>exact Qs (h2 rfl)
theorem decI{i j:Int}:decide (V.int i=V.int j)=true↔i=j:=by
 rw[decide_eq_true_eq];exact⟨λ h=>by injection h,λ h=>by rw[h]⟩
def SameX(p:Addr)(H H':Hp):Prop:=∀b o,b≠p->H b=some o->H' b=some o
theorem SameX.refl{p:Addr}{H:Hp}:SameX p H H:=λ_ _ _ h=>h
theorem SameX.trans{p:Addr}{H H1 H2:Hp}(a:SameX p H H1)(b:SameX p H1 H2):SameX p H H2:=λ c o n h=>b c o n (a c o n h)
theorem SameX.upd{p:Addr}{H:Hp}{o:HO}:SameX p H (upd H p o):=λ b u n h=>by rw[Af n];exact h
theorem SameX.new{p l:Addr}{H:Hp}{o:HO}(h:H l=none):SameX p H (L2.upd H l o):=λ b u _ e=>by rw[Af (Ah e h)];exact e
theorem Same.new{l:Addr}{H:Hp}{o:HO}(h:H l=none):Same H (L2.upd H l o):=λ b u e=>by rw[Af (Ah e h)];exact e
theorem SameX.same{p:Addr}{H H0 H':Hp}(a:SameX p H H')(s:Same H0 H)(h:H0 p=none):Same H0 H':=λ b o e=>a b o (Ah e h) (s b o e)
theorem Same.x{p:Addr}{H H':Hp}(a:Same H H'):SameX p H H':=λ b o _ e=>a b o e
def cW(acc:Addr)(n:Nat)(Pv:Nat->LUz->St->Hp->Prop)(i m:Nat)(σ:St)(H:Hp):Prop:=i<=n/\m=n-i/\∃xs,xs.length=i/\H acc=some (.lst xs)/\Pv i xs σ H
def cNx(acc:Addr)(n:Nat)(Pv:Nat->LUz->St->Hp->Prop)(i:Nat)(σ:St)(v:V)(H:Hp):Prop:=∃xs,H acc=some (.lst xs)/\xs.length<sizeLine/\∃m',m'<n-i/\cW acc n Pv (i+1) m' σ (upd H acc (.lst (xs++[v])))
theorem cNx.mk{acc:Addr}{n:Nat}{Pv:Nat->LUz->St->Hp->Prop}{i:Nat}{σ:St}{v:V}{H:Hp}{xs:LUz}(hn:n<=sizeLine)(hi:i<n)(hl:xs.length=i)(ha:H acc=some (.lst xs))(hp:Pv (i+1) (xs++[v]) σ (upd H acc (.lst (xs++[v])))) :
  cNx acc n Pv i σ v H:=⟨xs,ha,by lia,n-(i+1),by lia,hi,rfl,xs++[v],by rw[ak,hl];rfl,upd_same,hp⟩
theorem Mi{lo:Int}{n:Nat}{g:TG}{te:TE}{σ:St}{H1:Hp}{acc:Addr}{Qr:Hp->Prop}(Pv:Nat->LUz->St->Hp->Prop)(h0:Pv 0 [] σ (upd H1 acc (.lst [])))
  (hs:∀i xs σ H,i<n->xs.length=i->H acc=some (.lst xs)->Pv i xs σ H->g (.int (lo+i)) σ H λ σ2 H2=>te σ2 H2 λ v H3=>cNx acc n Pv i σ2 v H3)
  (hd:∀xs σ H,xs.length=n->H acc=some (.lst xs)->Pv n xs σ H->Qr H) :
  ∃W:Nat->Nat->St->Hp->Prop,(∃m,W 0 m σ (upd H1 acc (.lst [])))/\∀i m σ1 H2,W i m σ1 H2 ->
   ((Itr lo n).stop i H2/\Qr H2)\/((Itr lo n).go i H2/\∀x H3,(Itr lo n).yld i H2 x H3->g x σ1 H3 λ σ4 H4=>te σ4 H4 λ v H5=>∃xs,H5 acc=some (.lst xs)/\xs.length<sizeLine/\∃m',m'<m/\W (i+1) m' σ4 (upd H5 acc (.lst (xs++[v])))):=by
 refine⟨cW acc n Pv,⟨n,aZ _,rfl,[],rfl,upd_same,h0⟩,?_⟩;rintro i m σ1 H2 ⟨hi,rfl,xs,hl,ha,hp⟩;rcases bh i n with h|h
 .refine .inr ⟨h,?_⟩;rintro x H3 ⟨rfl,rfl⟩;exact hs i xs σ1 H3 h hl ha hp
 .have e:i=n:=cu hi h;subst e;exact .inl ⟨aj _,hd xs σ1 H2 hl ha hp⟩
theorem DB{K:Frag}{a:Addr}{ys:LUz}{g:TG}{te:TE}{σ:St}{H1:Hp}{acc:Addr}{Qr:Hp->Prop}(Pv:Nat->LUz->St->Hp->Prop)(h0:Pv 0 [] σ (upd H1 acc (.lst [])))
  (hq:∀i xs σ H,i<=ys.length->H acc=some (.lst xs)->Pv i xs σ H->SqL K H a ys)
  (hs:∀i x xs σ H,ys[i]?=some x->i<ys.length->xs.length=i->H acc=some (.lst xs)->Pv i xs σ H->g x σ H λ σ2 H2=>te σ2 H2 λ v H3=>cNx acc ys.length Pv i σ2 v H3)
  (hd:∀xs σ H,xs.length=ys.length->H acc=some (.lst xs)->Pv ys.length xs σ H->Qr H) :
  ∃W:Nat->Nat->St->Hp->Prop,(∃m,W 0 m σ (upd H1 acc (.lst [])))/\∀i m σ1 H2,W i m σ1 H2 ->
   ((Itl K a).stop i H2/\Qr H2)\/((Itl K a).go i H2/\∀x H3,(Itl K a).yld i H2 x H3->g x σ1 H3 λ σ4 H4=>te σ4 H4 λ v H5=>∃xs,H5 acc=some (.lst xs)/\xs.length<sizeLine/\∃m',m'<m/\W (i+1) m' σ4 (upd H5 acc (.lst (xs++[v])))):=by
 refine⟨cW acc ys.length Pv,⟨ys.length,aZ _,rfl,[],rfl,upd_same,h0⟩,?_⟩;rintro i m σ1 H2 ⟨hi,rfl,xs,hl,ha,hp⟩;have hsq:=hq i xs σ1 H2 hi ha hp;rcases bh i ys.length with h|h
 .refine .inr ⟨⟨ys,ys[i],hsq,ag h⟩,?_⟩;rintro x H3 ⟨rfl,hx⟩;exact hs i x xs σ1 H3 (hx ys hsq) h hl ha hp
 .have e:i=ys.length:=cu hi h;subst e;exact .inl ⟨⟨ys,hsq,aj _⟩,hd xs σ1 H2 hl ha hp⟩
section
variable{cmp:Nat->Nat->(Bool->Shared->Prop)->Shared->Prop}{key:Nat->Int}{N:Nat}{s:Shared}
def KP(key:Nat->Int)(p:Array Nat)(i:Nat):Int:=key (p.getD i 0)
def PermN(N:Nat)(p:Array Nat):Prop:=p.toList.Perm (List.range N)
theorem PermN.size{p:Array Nat}(h:PermN N p):p.size=N:=by
 have:=List.Perm.length_eq h;rw[List.length_range]at this
 simpa using this
theorem PermN.lt{p:Array Nat}(h:PermN N p){i:Nat}(hi:i<N):p.getD i 0<N:=by
 have hs:=h.size;have hi':i<p.size:=by lia
 have e:p.getD i 0=p[i]:=by simp[Array.getD,hi']
 rw[e];have hm:p[i]∈p.toList:=by simp
 exact ef.mp ((List.Perm.mem_iff h).mp hm)
theorem PermN.of{p q:Array Nat}(h:PermN N p)(hq:q.Perm p):PermN N q:=(Array.perm_iff_toList_perm.mp hq).trans h
def He(key:Nat->Int)(p:Array Nat)(k:Nat):Prop:=∀i j,i<=j->j<k->KP key p i<=KP key p j
def Ms(key:Nat->Int)(p:Array Nat)(k:Nat):Prop:=∀i j,i<=j->j<k->KP key p j<=KP key p i
theorem D0{p q:Array Nat}{i j:Nat}(h:p[i]?=q[j]?):KP key p i=KP key q j:=by
 unfold KP;rw[cX,cX,h]
theorem Hh{p:Array Nat}{i j:Nat}(hj:j<=p.size)(k:Nat):KP key (kas_rev p i j) k=if i<=k/\k<j then KP key p (i+j-1-k) else KP key p k:=by
 have e:=getElem?_mirror_all (i:=i) hj k;by_cases h:i<=k/\k<j
 .rw[if_pos h]at e |-;exact D0 e
 .rw[if_neg h]at e |-;exact D0 e
theorem I0{p:Array Nat}{src d:Nat}(hs:src<p.size)(hd:d<=src)(k:Nat) :
  KP key (bubble p src d) k=if k=src-d then KP key p src else if src-d<k/\k<=src then KP key p (k-1) else KP key p k:=by
 have e:=getElem?_bubble hs d hd k;by_cases h1:k=src-d
 .rw[if_pos h1]at e |-;exact D0 e
 .rw[if_neg h1]at e |-;by_cases h2:src-d<k/\k<=src
  .rw[if_pos h2]at e |-;exact D0 e
  .rw[if_neg h2]at e |-;exact D0 e
theorem PermN.rev{p:Array Nat}(h:PermN N p)(i j:Nat):PermN N (kas_rev p i j):=h.of (mirror_perm _ _ _ _)
theorem PermN.bub{p:Array Nat}(h:PermN N p)(i j:Nat):PermN N (bubble p i j):=h.of (bubble_perm _ _ _)
theorem PD{p:Array Nat}{n:Nat}(h:He key p n)(hn:1<=n)(hc:KP key p (n-1)<=KP key p n):He key p (n+1):=λ i j hij hj=>by
 by_cases e:j=n
 .subst e;by_cases e2:i=j
  .subst e2;exact bb _
  .exact dO (h i (j-1) (by lia) (by lia)) hc
 .exact h i j hij (by lia)
theorem FK{p:Array Nat}{n:Nat}(h:Ms key p n)(hn:1<=n)(hc:KP key p n<=KP key p (n-1)):Ms key p (n+1):=λ i j hij hj=>by
 by_cases e:j=n
 .subst e;by_cases e2:i=j
  .subst e2;exact bb _
  .exact dO hc (h i (j-1) (by lia) (by lia))
 .exact h i j hij (by lia)
variable(hcmp:∀i j (C:Bool->Shared->Prop),i<N->j<N->C (decide (key i<key j)) s->cmp i j C s)
include hcmp
theorem Mo{p:Array Nat}(hp:PermN N p){G:Nat->Shared->Prop}:∀(f n:Nat),1<=n->n+f<=N->He key p n->(∀m,n<=m->m<=n+f->He key p m->(m<n+f->KP key p m<KP key p (m-1))->G m s)->(kas_asc p f n).kasWp cmp G s
 |0,n,h1,hn,hs,hG=>hG n (aj _) (by lia) hs (λ h=>absurd h (by lia))
 |f+1,n,h1,hn,hs,hG=>by
  show cmp _ _ _ s;refine hcmp _ _ _ (hp.lt (by lia)) (hp.lt (by lia)) ?_;by_cases h:key (p.getD n 0)<key (p.getD (n-1) 0)
  .rw[decide_eq_true h];simp only[if_true];exact hG n (aj _) (by lia) hs λ_=>h
  .rw[decide_eq_false h];simp only[aU,if_false];exact Mo hp f (n+1) (by lia) (by lia) (PD hs h1 (by unfold KP;lia)) λ m a b c d=>hG m (by lia) (by lia) c λ z=>d (by lia)
theorem JQ{p:Array Nat}(hp:PermN N p){n:Nat}(h1:1<=n)(hn:n<=N)(hs:Ms key p n){G:Nat×Array Nat->Shared->Prop}(hG:∀m q,1<=m->m<=N->PermN N q->He key q m->G (m,q) s):(kas_tail3 n N p).kasWp cmp G s:=by
 unfold kas_tail3;rw[KasT.kasWp_bind];have hz:=hp.size;refine Mo hcmp (hp.rev 0 n) (N-n) n h1 (by lia) (λ i j hij hj=>?_) λ m a b c _=>hG m _ (by lia) (by lia) (hp.rev 0 n) c;rw[Hh (by lia),Hh (by lia),if_pos (by lia),if_pos (by lia)];exact hs _ _ (by lia) (by lia)
theorem FS{G:Array Nat×Nat×Nat->Shared->Prop}:∀(f:Nat)(p:Array Nat)(n q:Nat),PermN N p->1<=n->n+f<=N->q<n->Ms key p n->(∀i,n-1-q<=i->i<n->KP key p i=KP key p (n-1)) ->
  (∀p' m r,PermN N p'->1<=m->m<=N->r<m->Ms key p' m->(∀i,m-1-r<=i->i<m->KP key p' i=KP key p' (m-1))->G (p',m,r) s)->(kas_desc f p n q).kasWp cmp G s
 |0,p,n,q,hp,h1,hn,hq,hs,he,hG=>hG p n q hp h1 (by lia) hq hs he
 |f+1,p,n,q,hp,h1,hn,hq,hs,he,hG=>by
  have hz:=hp.size;show cmp _ _ _ s;refine hcmp _ _ _ (hp.lt (by lia)) (hp.lt (by lia)) ?_;by_cases h:key (p.getD n 0)<key (p.getD (n-1) 0)
  .rw[decide_eq_true h];simp only[if_true];have h':KP key p n<KP key p (n-1):=h;have key1:Ms key p (n+1):=FK hs h1 (by lia);by_cases hq0:q>0
   .rw[if_pos hq0];have same:∀k,KP key (kas_rev p (n-(q+1)) n) k=KP key p k:=λ k=>by
     rw[Hh (by lia)];split
     .rw[he _ (by lia) (by lia),he k (by lia) (by lia)]
     .rfl
    refine FS f _ (n+1) 0 (hp.rev _ _) (by lia) (by lia) (by lia) (λ i j hij hj=>?_) (λ i a b=>?_) hG
    .rw[same,same];exact key1 i j hij hj
    .rw[show i=n+1-1 by lia]
   .rw[if_neg hq0];exact FS f _ (n+1) 0 hp (by lia) (by lia) (by lia) key1 (λ i a b=>by rw[show i=n+1-1 by lia]) hG
  .rw[decide_eq_false h];simp only[aU,if_false];show cmp _ _ _ s;refine hcmp _ _ _ (hp.lt (by lia)) (hp.lt (by lia)) ?_;by_cases h2:key (p.getD (n-1) 0)<key (p.getD n 0)
   .rw[decide_eq_true h2];simp only[if_true];exact hG p n q hp h1 (by lia) hq hs he
   .rw[decide_eq_false h2];simp only[aU,if_false];have e:KP key p n=KP key p (n-1):=by unfold KP;lia
    refine FS f p (n+1) (q+1) hp (by lia) (by lia) (by lia) (FK hs h1 (by lia)) (λ i a b=>?_) hG;by_cases hi:i=n
    .subst hi;rfl
    .rw[he i (by lia) (by lia),<-e];rfl
theorem Fv{p:Array Nat}(hp:PermN N p){n:Nat}(hn:n+1<=N)(hs:Ms key p (n+1)){G:Nat×Array Nat->Shared->Prop}(hG:∀m q,1<=m->m<=N->PermN N q->He key q m->G (m,q) s):(kas_descPart n N p).kasWp cmp G s:=by
 unfold kas_descPart;rw[KasT.kasWp_bind];refine FS hcmp (N-(n+1)) p (n+1) 0 hp (by lia) (by lia) (by lia) hs (λ i a b=>by rw[show i=n+1-1 by lia]) λ p' m r hp' h1 hm hr hs' he=>?_;dsimp only;have hz:=hp'.size;split
 .have same:∀k,KP key (kas_rev p' (m-(r+1)) m) k=KP key p' k:=λ k=>by
   rw[Hh (by lia)];split
   .rw[he _ (by lia) (by lia),he k (by lia) (by lia)]
   .rfl
  exact JQ hcmp (hp'.rev _ _) h1 hm (λ i j hij hj=>by rw[same,same];exact hs' i j hij hj) hG
 .exact JQ hcmp hp' h1 hm hs' hG
theorem Pq{p:Array Nat}(hp:PermN N p)(h1:1<=N){G:Nat×Array Nat->Shared->Prop}(hG:∀m q,1<=m->m<=N->PermN N q->He key q m->G (m,q) s):(kas_count N p).kasWp cmp G s:=by
 unfold kas_count;rw[KasT.kasWp_bind];have hz:=hp.size;refine Mo hcmp hp (N-1) 1 (aj _) (by lia) (λ i j hij hj=>by rw[show i=j by lia];exact bb _) λ m a b c d=>?_;split
 .exact hG m p a (by lia) hp c
 .rename_i hne;have hm:m<N:=by
   have:m≠N:=λ e=>hne (by rw[e];exact beq_self_eq_true _);lia
  have hd:=d (by lia);split
  .show cmp _ _ _ s;refine hcmp _ _ _ (hp.lt (by lia)) (hp.lt (by lia)) ?_;by_cases h:key (p.getD 0 0)<key (p.getD (m-1) 0)
   .rw[decide_eq_true h];simp only[if_true];exact hG m p a (by lia) hp c
   .rw[decide_eq_false h];simp only[aU,if_false];have h':KP key p (m-1)<=KP key p 0:=by unfold KP;lia
    have eqs:∀i,i<m->KP key p i=KP key p 0:=λ i hi=>dD (dO (c i (m-1) (by lia) (by lia)) h') (c 0 i (by lia) hi);have same:∀k,KP key (kas_rev p 0 m) k=KP key p k:=λ k=>by
     rw[Hh (by lia)];split
     .rw[eqs _ (by lia),eqs k (by lia)]
     .rfl
    refine Fv hcmp (hp.rev 0 m) (by lia) (FK (λ i j hij hj=>?_) a ?_) hG
    .rw[same,same,eqs i (by lia),eqs j (by lia)];exact bb _
    .rw[same,same];lia
  .have em:m=1:=by lia
   subst em;exact Fv hcmp hp (by lia) (FK (λ i j hij hj=>by rw[show i=j by lia];exact bb _) (aj _) (by lia)) hG
theorem Gw{p:Array Nat}(hp:PermN N p){k:Nat}(hk:k<N)(hs:He key p k){G:Nat->Shared->Prop}(hG:∀l,l<=k->(∀i,i<l->KP key p i<=KP key p k)->(∀i,l<=i->i<k->KP key p k<KP key p i)->G l s) :
  ∀(f l r:Nat),r-l<=f->l<=r->r<=k->(∀i,i<l->KP key p i<=KP key p k)->(∀i,r<=i->i<k->KP key p k<KP key p i)->(kas_place p k f l r).kasWp cmp G s
 |0,l,r,hf,hlr,hr,ha,hb=>hG l (by lia) ha λ i h1 h2=>hb i (by lia) h2
 |f+1,l,r,hf,hlr,hr,ha,hb=>by
  unfold kas_place;split
  .exact hG l (by lia) ha λ i h1 h2=>hb i (by lia) h2
  .show cmp _ _ _ s;refine hcmp _ _ _ (hp.lt hk) (hp.lt (by lia)) ?_;by_cases h:key (p.getD k 0)<key (p.getD ((l+r) / 2) 0)
   .rw[decide_eq_true h];simp only[if_true];refine Gw hp hk hs hG f l ((l+r) / 2) (by lia) (by lia) (by lia) ha λ i h1 h2=>?_;exact Int.lt_of_lt_of_le h (hs _ i h1 h2)
   .rw[decide_eq_false h];simp only[aU,if_false];refine Gw hp hk hs hG f ((l+r) / 2+1) r (by lia) (by lia) hr (λ i h1=>?_) hb;have h2:=hs i ((l+r) / 2) (by lia) (by lia);have h3:KP key p ((l+r) / 2)<=KP key p k:=by unfold KP;lia
    lia
theorem Pt{G:Array Nat->Shared->Prop}(hG:∀q,PermN N q->He key q N->G q s):∀(f:Nat)(p:Array Nat)(k:Nat),PermN N p->k+f=N->He key p k->(kas_bin f p k).kasWp cmp G s
 |0,p,k,hp,hk,hs=>hG p hp (by rw[<-hk];exact hs)
 |f+1,p,k,hp,hk,hs=>by
  unfold kas_bin;rw[KasT.kasWp_bind];have hz:=hp.size;refine Gw hcmp hp (by lia) hs (λ l hl ha hb=>?_) k 0 k (by lia) (by lia) (aj _) (λ i h=>absurd h (by lia)) λ i h1 h2=>absurd h1 (by lia);refine Pt hG f _ (k+1) (hp.bub _ _) (by lia) λ i j hij hj=>?_;rw[I0 (by lia) (by lia),I0 (by lia) (by lia),show k-(k-l)=l by lia];by_cases i1:i=l
  .rw[if_pos i1];by_cases j1:j=l
   .rw[if_pos j1];exact bb _
   .rw[if_neg j1,if_pos (by lia)];exact Int.le_of_lt (hb _ (by lia) (by lia))
  .rw[if_neg i1];by_cases i2:l<i/\i<=k
   .rw[if_pos i2,if_neg (by lia),if_pos (by lia)];exact hs _ _ (by lia) (by lia)
   .rw[if_neg i2];by_cases j1:j=l
    .rw[if_pos j1];exact ha i (by lia)
    .rw[if_neg j1];by_cases j2:l<j/\j<=k
     .rw[if_pos j2];exact hs _ _ (by lia) (by lia)
     .rw[if_neg j2];exact hs _ _ hij (by lia)
theorem K5(h1:1<=N){G:Array Nat->Shared->Prop}(hG:∀q:Array Nat,PermN N q->(q.toList.map key).Pairwise (·<=·)->G q s):(kas_sort N).kasWp cmp G s:=by
 have p0:PermN N (List.toArray (List.range N)):=by show List.Perm _ _;simp
 have hG':∀q,PermN N q->He key q N->G q s:=λ q hq hs=>hG q hq (by
  have hz:=hq.size;rw[c7];intro i j hi hj hij;have hi':i<q.size:=by simpa using hi
  have hj':j<q.size:=by simpa using hj
  have:=hs i j (by lia) (by lia);unfold KP at this;rw[show q.getD i 0=q[i] by simp[Array.getD,hi'],show q.getD j 0=q[j] by simp[Array.getD,hj']]at this
  simpa using this)
 unfold kas_sort;rw[KasT.kasWp_bind];refine Pq hcmp p0 h1 λ m q hm1 hm2 hq hs=>?_;dsimp only;split
 .exact Pt hcmp hG' _ q _ hq (by lia) (by rw[show max m 1=m by lia];exact hs)
 .exact hG' q hq (by rw[show N=m by lia];exact hs)
end
section
variable{prog:Program}{w:World}{A:Around}{E:VPz}{s:Shared}
def Br(h:Heap)(a:Addr)(vs:LWz):Heap:=((h.update a (Obj.mapSeq λ_=>#[])).push (seqObj "tuple" vs.toArray 0)).push (seqObj "list" #[] 0)
theorem Jq{h:Heap}{a b:Addr}{vs:LWz}{o:Obj}(hb:b≠a)(e:h.get? b=some o):(Br h a vs).get? b=some o:=by
 unfold Br;exact af _ (af _ (by rw[cV _ _ _ _ hb];exact e))
theorem Kc(vs:LWz):(List.range vs.length).map (λ i=>vs.getD i Value.none)=vs:=by
 apply List.ext_getElem?;intro i;rw[aE];by_cases h:i<vs.length
 .rw[List.getElem?_range h,Option.map_some,bK,ag h];rfl
 .rw[dC (by simpa using h),dC (by lia)];rfl
theorem FC{a:Addr}{vs:LWz}{n:Nat}{P:PySem.Fin->Shared->Prop}{κ:SortKind}{key:Nat->Int}(ho:s.heap.get? a=some (seqObj "list" vs.toArray n))(h64:vs.length<64)
  (hK:∀(Q:SortKind->Shared->Prop)(E:VPz),2<=vs.length->Q κ { s with heap:=Br s.heap a vs }->wpAny (model prog w) A (keyKind' vs.toArray) Q E { s with heap:=Br s.heap a vs })
  (hL:∀i j (C:Bool->Shared->Prop),i<vs.length->j<vs.length->C (decide (key i<key j)) { s with heap:=Br s.heap a vs } ->
   wpAny (model prog w) A (keyLt' κ (vs.getD i Value.none) (vs.getD j Value.none)) C (λ_ _=>False) { s with heap:=Br s.heap a vs })
  (h:∀q:Array Nat,PermN vs.length q->(q.toList.map key).Pairwise (·<=·)->P (.done (.ret .none)) { s with heap:=sortedHeap s.heap a vs (List.toArray (q.toList.map λ i=>vs.getD i Value.none)) }) :
  wpAny (model prog w) A (Builtin.«list.sort» ⟨[.ref a],[]⟩) P E s:=by
 rw[list_sort_plain];have ha:a<s.heap.objs.size:=aB ho;refine wpAny_bind (listItems_at ho rfl ?_);refine wpAny_bind (listUpdate_at ho rfl ?_ (by rw[am,sizeLine_eq];lia) (aZ _));obtain⟨e1,ho1⟩:∃e1,(s.heap.update a (Obj.mapSeq λ_=>#[])).get? a=some (seqObj "list" #[] e1):=⟨_,get?_update_seq ho (λ_=>#[])⟩;refine wpAny_bind (seqEpoch_at ho1 rfl ?_);refine wpAny_bind (wpAny_newTuple ?_ (by show vs.length<=_;rw[sizeLine_eq];lia));refine wpAny_bind (wpAny_newList ?_ (aZ _));refine wpAny_holding ?_;have ho6:(Br s.heap a vs).get? a=some (seqObj "list" #[] e1):=by
  unfold Br;rw[df _ _ _ (by rw[size_push',dS];exact aJ (bZ ha)),df _ _ _ (by rw[dS];exact aJ ha)];exact ho1
 show wpAny (model prog w) A _ P E { s with heap:=Br s.heap a vs };dsimp only;have hsz:vs.toArray.size=vs.length:=by simp
 by_cases h2:vs.toArray.size<2
 .rw[if_pos h2,if_pos h2];refine wpAny_bind (wpAny_pure ?_);rw[StateT.run_pure];refine wpAny_bind (wpAny_pure ?_);dsimp only;refine wpAny_bind (seqEpoch_at ho6 rfl ?_);refine wpAny_bind (listUpdate_at ho6 rfl ?_ (aZ _) (by rw[Array.size_map];show(pairsOf vs).size<=_;rw[pairsOf_size,sizeLine_eq];lia));simp only[bne_self_eq_false,aU,if_false];have hh:=h (List.toArray (List.range vs.length)) (by show List.Perm _ _;simp) (by
   rw[hsz]at h2;rcases(by lia:vs.length=0\/vs.length=1) with e|e<;>rw[e]<;>simp[List.range_succ])
  have e3:List.map (λ i=>vs.getD i Value.none) (List.range vs.length).toArray.toList=vs:=Kc vs;rw[e3]at hh;have e2:(arrOf (SortSt.mk' general' (vs.toArray.zip vs.toArray) #[] 7 none)).map (·.2)=vs.toArray:=by
   show(vs.toArray.zip vs.toArray).map (·.2)=vs.toArray;apply Array.ext';simp[List.map_snd_zip]
  refine wpAny_pure ?_;rw[e2];exact hh
 .rw[if_neg h2,if_neg h2];have h2':2<=vs.length:=by lia
  refine wpAny_bind (hK _ _ h2' ?_);refine wpAny_bind (wpAny_mono (kat_run (ks:=vs) (vs:=vs) (Q:=λ st' s'=>s'={ s with heap:=Br s.heap a vs }/\∃p:Array Nat,p.size=vs.length/\arrOf st'=p.map (kas_item (vs.toArray.zip vs.toArray))/\failedOf st'=none/\PermN vs.length p/\(p.toList.map key).Pairwise (·<=·))
   (G:=λ p s'=>s'={ s with heap:=Br s.heap a vs }/\PermN vs.length p/\(p.toList.map key).Pairwise (·<=·)) rfl h2' h64 (λ p st' s' a1 a2 a3 a4=>⟨a4.1,p,a1,a2,a3,a4.2⟩)
   (K5 (λ i j C hi hj hC=>hL i j C hi hj hC) (by lia) λ q hq hp=>⟨rfl,hq,hp⟩)) ?_ λ_ _ e=>e)
  rintro⟨⟨⟩,st'⟩ s' ⟨rfl,p,hp,har,hf,pp,ps⟩;dsimp only;have hout:=kat_snds rfl har;have hsz2:(List.toArray (p.toList.map λ i=>vs.getD i Value.none)).size=vs.length:=by rw[am,ae,bT,hp]
  rw[hout];refine wpAny_bind (seqEpoch_at ho6 rfl ?_);refine wpAny_bind (listUpdate_at ho6 rfl ?_ (aZ _) (aS (cb hsz2) (by rw[sizeLine_eq];lia)));rw[hf];simp only[bne_self_eq_false,aU,if_false];exact wpAny_pure (h p pp ps)
end
section
variable{X:Cx}
theorem D4:∀{ts:List Addr}{its:LWz},Vals (ts.map V.ref) its->its=ts.map Value.ref
 |[],_,.nil=>rfl
 |a::r,_,.cons h t=>by
  cases(show _=Value.ref a from h);rw[aL,D4 t]
theorem Gs:∀(ts:List Addr),Vals (ts.map V.ref) (ts.map Value.ref)
 |[]=>.nil
 |a::r=>.cons rfl (Gs r)
end
section
variable{κ:Type}[DecidableEq κ]
def DJ(kvs:List (κ×V))(k:κ):Option V:=(kvs.find? λ kv=>decide (kv.1=k)).map (·.2)
def Bv(kvs:List (κ×V))(k:κ)(v:V):List (κ×V) :=
 if (kvs.any λ kv=>decide (kv.1=k))=true then kvs.map (λ kv=>if kv.1=k then (kv.1,v) else kv) else kvs++[(k,v)]
theorem Ek{p:κ×V}{r:List (κ×V)}{k:κ}(e:p.1=k):DJ (p::r) k=some p.2:=by simp[DJ,cq,e]
theorem El{p:κ×V}{r:List (κ×V)}{k:κ}(e:¬p.1=k):DJ (p::r) k=DJ r k:=by simp[DJ,cq,e]
theorem JN(k:κ):∀kvs:List (κ×V),(kvs.any λ kv=>decide (kv.1=k))=(DJ kvs k).isSome
 |[]=>rfl
 |p::r=>by
  rw[cj];by_cases e:p.1=k
  .simp only[Ek e,decide_eq_true e,Bool.true_or,Option.isSome_some]
  .rw[El e,decide_eq_false e,Bool.false_or];exact JN k r
theorem Du(kvs:List (κ×V))(k:κ)(v:V):(Bv kvs k v).length<=kvs.length+1:=by
 unfold Bv;split
 .rw[ae];lia
 .rw[ak,aD,bO];lia
theorem RelO.isSome_eq{o:Option V}{u:Option Value}(r:RelO o u):o.isSome=u.isSome:=by
 cases o with
 |none=>cases u with
  |none=>rfl
  |some _=>exact(show False from r).elim
 |some _=>cases u with
  |none=>exact(show False from r).elim
  |some _=>rfl
theorem KV.val{kvs:List (κ×V)}{vs:List (κ×Value)}(r:KV kvs vs)(k:κ):RelO (DJ kvs k) (valueAt vs k):=by
 unfold KV at r
 induction r with
 |nil=>exact True.intro
 |@cons p q ps qs h t ih =>
  obtain⟨h1,h2⟩:=h;by_cases e:p.1=k
  .have e':q.1=k:=h1.symm.trans e;have b:valueAt (q::qs) k=some q.2:=by simp[valueAt,cq,e']
   rw[Ek e,b];exact h2
  .have e':¬q.1=k:=λ z=>e (h1.trans z);have b:valueAt (q::qs) k=valueAt qs k:=by simp[valueAt,cq,e']
   rw[El e,b];exact ih
theorem KV.any{kvs:List (κ×V)}{vs:List (κ×Value)}(r:KV kvs vs)(k:κ):(kvs.any λ kv=>decide (kv.1=k))=vs.any λ kv=>decide (kv.1=k):=by
 unfold KV at r
 induction r with
 |nil=>rfl
 |cons h t ih=>rw[cj,cj,ih,h.1]
theorem KV.repl{kvs:List (κ×V)}{vs:List (κ×Value)}(r:KV kvs vs)(k:κ){y:V}{u:Value}(ry:RelV y u) :
  KV (kvs.map λ kv=>if kv.1=k then (kv.1,y) else kv) (vs.map λ kv=>if kv.1=k then (kv.1,u) else kv):=by
 unfold KV at r |-
 induction r with
 |nil=>exact .nil
 |@cons p q ps qs h t ih =>
  rw[aL,aL];refine .cons ?_ ih;obtain⟨h1,h2⟩:=h;by_cases e:p.1=k
  .rw[if_pos e,if_pos (h1.symm.trans e)];exact⟨h1,ry⟩
  .rw[if_neg e,if_neg (λ z=>e (h1.trans z))];exact⟨h1,h2⟩
theorem KV.put{kvs:List (κ×V)}{vs:List (κ×Value)}(r:KV kvs vs)(k:κ){y:V}{u:Value}(ry:RelV y u):KV (Bv kvs k y) (stored vs k u):=by
 unfold Bv stored;rw[r.any k];by_cases e:(vs.any λ kv=>decide (kv.1=k))=true
 .rw[if_pos e,if_pos e];exact r.repl k ry
 .rw[if_neg e,if_neg e];exact Paired.snoc r ⟨rfl,ry⟩
theorem KV.length{kvs:List (κ×V)}{vs:List (κ×Value)}(r:KV kvs vs):kvs.length=vs.length:=Paired.length r
end
theorem MN{P:Program}{w:World}{k:Key}{u:Value}(r:RelV (kV k) u):(AJ P w).is k u=true:=by
 cases k with
 |inl i=>obtain⟨t,e⟩:=(show ∃t,u=Value.int i t from r);subst e;exact Kx P w i t
 |inr x=>obtain⟨t,e⟩:=(show ∃t,u=Value.str x t from r);subst e;exact Kw P w x t
theorem Ih{P:Program}{w:World}:∀{ks:List Key}{us:LWz},Vals (ks.map kV) us->ItemsAre (AJ P w) ks us
 |[],_,r=>by rw[dm]at r;cases r;exact .nil
 |k::ks,_,r=>by
  rw[aL]at r;cases r with
  |cons h t=>exact .cons (MN h) (Ih t)
abbrev KT(H:Hp):LKz->List (List Key×Addr×Value)->Prop:=Paired λ p q=>p.1=q.1/\H q.2.1=some (.tup (p.1.map kV))/\RelV p.2 q.2.2
theorem KT.val{H:Hp}{kvs:LKz}{xs:List (List Key×Addr×Value)}(r:KT H kvs xs)(k:List Key):RelO (DJ kvs k) ((atKey xs k).map (·.2)):=by
 induction r with
 |nil=>exact True.intro
 |@cons p q ps qs h t ih =>
  obtain⟨h1,_,h2⟩:=h;by_cases e:p.1=k
  .have e':q.1=k:=h1.symm.trans e;have b:atKey (q::qs) k=some q.2:=by simp[atKey,cq,e']
   rw[Ek e,b];exact h2
  .have e':¬q.1=k:=λ z=>e (h1.trans z);have b:atKey (q::qs) k=atKey qs k:=by simp[atKey,cq,e']
   rw[El e,b];exact ih
theorem KT.repl{H:Hp}{kvs:LKz}{xs:List (List Key×Addr×Value)}(r:KT H kvs xs)(k:List Key){y:V}{u:Value}(ry:RelV y u) :
  KT H (kvs.map λ kv=>if kv.1=k then (kv.1,y) else kv) (xs.map (putAt k u)):=by
 induction r with
 |nil=>exact .nil
 |@cons p q ps qs h t ih =>
  rw[aL,aL];refine .cons ?_ ih;obtain⟨h1,h2,h3⟩:=h;unfold putAt;by_cases e:p.1=k
  .rw[if_pos e,if_pos (h1.symm.trans e)];exact⟨h1,h2,ry⟩
  .rw[if_neg e,if_neg (λ z=>e (h1.trans z))];exact⟨h1,h2,h3⟩
theorem KT.put{H:Hp}{kvs:LKz}{xs:List (List Key×Addr×Value)}(r:KT H kvs xs)(k:List Key){b:Addr}{y:V}{u:Value}(hb:H b=some (.tup (k.map kV)))(ry:RelV y u) :
  KT H (Bv kvs k y) (storedH xs k b u):=by
 have e:(kvs.any λ kv=>decide (kv.1=k))=(atKey xs k).isSome:=by
  rw[JN,(r.val k).isSome_eq,Option.isSome_map]
 unfold Bv storedH;rw[e];by_cases q:(atKey xs k).isSome=true
 .rw[if_pos q,if_pos q];exact r.repl k ry
 .rw[if_neg q,if_neg q];exact Paired.snoc r ⟨rfl,hb,ry⟩
theorem KT.keeps{H H':Hp}{kvs:LKz}{xs:List (List Key×Addr×Value)}(r:KT H kvs xs)(ht:∀b ys,H b=some (.tup ys)->H' b=some (.tup ys)):KT H' kvs xs :=
 Paired.mapP r λ_ _ z=>⟨z.1,ht _ _ z.2.1,z.2.2⟩
section
variable{P:Program}{w:World}{H:Hp}{h:Heap}{a:Addr}
theorem QO{u:HO}(ok:HOk P w H h)(e:Rd H a u):ObjOk P w H h a u:=e.ok ok
theorem MV{kvs:List (Key×V)}(ok:HOk P w H h)(e:Rd H a (.dK kvs)):kvs.length<=sizeLine/\(a==sysModules)=false/\∃vs,KV kvs vs/\h.DictOf (AJ P w) a vs :=
 show ObjOk P w H h a (.dK kvs) from QO ok e
theorem QX{kvs:List (Key×V)}(ok:HOk P w H h)(e:H a=some (.dK kvs)):kvs.length<=sizeLine/\(a==sysModules)=false/\∃vs,KV kvs vs/\h.DictOf (AJ P w) a vs:=MV ok (.inl e)
theorem Ju{ks:List Key}(ok:HOk P w H h)(e:H a=some (.tup (ks.map kV))):(tupleKind (AJ P w)).is h ks a:=by
 obtain⟨_,its,r,o,h1,h2,n,h3⟩:=(show ObjOk P w H h a (.tup (ks.map kV)) from ok a _ e);exact⟨o,its.toArray,n,h1,h2,h3,by simpa using Ih r⟩
theorem MU{kvs:LKz}(ok:HOk P w H h)(e:Rd H a (.dT kvs)):kvs.length<=sizeLine/\(a==sysModules)=false /\
  ∃xs,KT H kvs xs/\h.DictOfH (tupleKind (AJ P w)) a xs:=by
 obtain⟨z,y,xs,r,o,es,ep,h1,h2,h3,h4,h5⟩:=(show ObjOk P w H h a (.dT kvs) from QO ok e);refine⟨z,y,xs,r,o,es,ep,h1,h2,h3,h4,λ x hx=>?_,h5⟩;have all:∀{l:LKz}{m:List (List Key×Addr×Value)},KT H l m->∀x∈m,(tupleKind (AJ P w)).is h x.1 x.2.1:=by
  intro l m q
  induction q with
  |nil=>intro x hx;exact nomatch hx
  |@cons p q ps qs hq t ih =>
   intro x hx;rcases aA.mp hx with e|hx
   .subst e;exact Ju ok (by rw[<-hq.1];exact hq.2.1)
   .exact ih x hx
 exact all r x hx
theorem QW{kvs:LKz}(ok:HOk P w H h)(e:H a=some (.dT kvs)):kvs.length<=sizeLine/\(a==sysModules)=false /\
  ∃xs,KT H kvs xs/\h.DictOfH (tupleKind (AJ P w)) a xs:=MU ok (.inl e)
end
def DGet(H:Hp)(a:Addr)(y:V)(r:Option V):Prop :=
 (∃kvs k,Rd H a (.dK kvs)/\y=kV k/\r=DJ kvs k)\/∃kvs k b,Rd H a (.dT kvs)/\y=.ref b/\H b=some (.tup (k.map kV))/\r=DJ kvs k
def DPut(H:Hp)(a:Addr)(y v:V)(H':Hp):Prop :=
 (∃kvs k,H a=some (.dK kvs)/\y=kV k/\kvs.length<sizeLine/\H'=upd H a (.dK (Bv kvs k v))) \/
 ∃kvs k b,H a=some (.dT kvs)/\y=.ref b/\H b=some (.tup (k.map kV))/\kvs.length<sizeLine/\H'=upd H a (.dT (Bv kvs k v))
theorem DGet.k{H:Hp}{a:Addr}{kvs:List (Key×V)}{k:Key}(e:H a=some (.dK kvs)):DGet H a (kV k) (DJ kvs k):=.inl ⟨kvs,k,.inl e,rfl,rfl⟩
theorem DGet.t{H:Hp}{a b:Addr}{kvs:LKz}{k:List Key}(e:H a=some (.dT kvs))(eb:H b=some (.tup (k.map kV))):DGet H a (.ref b) (DJ kvs k):=.inr ⟨kvs,k,b,.inl e,rfl,eb,rfl⟩
theorem DPut.t{H:Hp}{a b:Addr}{kvs:LKz}{k:List Key}{v:V}(e:H a=some (.dT kvs))(eb:H b=some (.tup (k.map kV)))(hl:kvs.length<sizeLine) :
  DPut H a (.ref b) v (upd H a (.dT (Bv kvs k v))):=.inr ⟨kvs,k,b,e,rfl,eb,hl,rfl⟩
section
variable{X:Cx}{pins:PNz}{σ:St}{H:Hp}{s:Shared}{a:Addr}{y v:V}{u r:Value}{o:Option V}{A:Around}{E:VPz}
theorem Inv.big(I:Inv X pins σ H s):sysModules<s.heap.objs.size:=by
 have h:mainGlobals<s.heap.objs.size:=(I.mod.glob.keeps I.bk).lt;exact Nat.lt_trans (by decide) h
theorem NR{Q:VPz}(hu:A.units+1<cLine)(I:Inv X pins σ H s)(g:DGet H a y (some v))(ry:RelV y u)(h:∀w' s',Inv X pins σ H s'->RelV v w'->Q w' s') :
  wpAny (model X.prog X.w) A (getItem (.ref a) u) Q E s:=by
 rcases g with ⟨kvs,k,e,ey,l⟩|⟨kvs,k,b,e,ey,eb,l⟩
 .subst ey;obtain⟨z,hd,vs,rel,dd⟩:=MV I.hok e;obtain⟨w',hw,rw'⟩:=RelO.some_of (v:=v) (o:=valueAt vs k) (by rw[l];exact rel.val k);exact wpAny_getItem_of (MN ry) dd.mapOf hw (h w' _ (I.tok _) rw')
 .subst ey;cases(show u=Value.ref b from ry);obtain⟨z,hd,xs,rel,dd⟩:=MU I.hok e;obtain⟨w',hw,rw'⟩:=RelO.some_of (v:=v) (o:=(atKey xs k).map (·.2)) (by rw[l];exact rel.val k);obtain⟨p,hp,hp2⟩:=aN.mp hw;refine wpAny_getItem_heap (tupleKind_room_in1 hu) (Ju I.hok eb) dd hp ?_;rw[hp2];exact h w' _ (I.tok _) rw'
theorem FU{h':Heap}{t':Nat}{ob:HO}(I:Inv X pins σ H s)(mu:Mut (H a))(hs:Heap.SameBut a s.heap h')(he:∃q,h'.get? a=some q)(new:ObjOk X.prog X.w (upd H a ob) h' a ob) :
  Inv X pins σ (upd H a ob) { s with heap:=h',toks:=t' } :=
 I.write (x:=a) (e:=a) mu (.inl rfl) (λ b q hb z=>(hs.2 b hb).trans z) he new
theorem Pm{P:Program}{w:World}{H':Hp}{h':Heap}{kvs:List (Key×V)}{vs:List (Key×Value)}(z:kvs.length<=sizeLine)(hd:(a==sysModules)=false)(rel:KV kvs vs)(dd:h'.DictOf (AJ P w) a vs) :
  ObjOk P w H' h' a (.dK kvs):=⟨z,hd,vs,rel,dd⟩
theorem NQ{H':Hp}{Q:Unit->Shared->Prop}(hu:A.units+1<cLine)(I:Inv X pins σ H s)(g:DPut H a y v H')(ry:RelV y u)(rv:RelV v r)(h:∀s',Inv X pins σ H' s'->Q () s') :
  wpAny (model X.prog X.w) A (setItem (.ref a) u r) Q E s:=by
 rcases g with ⟨kvs,k,e,ey,l,eH⟩|⟨kvs,k,b,e,ey,eb,l,eH⟩
 .subst ey eH;obtain⟨z,hd,vs,rel,dd⟩:=QX I.hok e;have hz:vs.length<=sizeLine:=by rw[<-rel.length];exact z
  have hl:(Bv kvs k v).length<=sizeLine:=by have:=Du kvs k v;lia
  refine wpAny_setItem_pairs (hsz:=hz) (MN ry) dd λ h' dd' hs=>h _ ?_;have he:∃q,h'.get? a=some q:=let ⟨q,_,_,hq,_⟩:=dd';⟨q,hq⟩;exact FU I (by rw[e];exact True.intro) hs he (Pm hl hd (rel.put k rv) dd')
 .subst ey eH;cases(show u=Value.ref b from ry);obtain⟨z,hd,xs,rel,dd⟩:=QW I.hok e;have hz:xs.length<=sizeLine:=by rw[<-Paired.length rel];exact z
  have hl:(Bv kvs k v).length<=sizeLine:=by have:=Du kvs k v;lia
  refine wpAny_setItem_heap (hsz:=hz) (tupleKind_room_in1 hu) (Ju I.hok eb) dd λ h' dd' hs=>h _ ?_;obtain⟨q,es,ep,hq,h2,h3,h4,_,h5⟩:=dd';refine FU I (by rw[e];exact True.intro) hs ⟨q,hq⟩ ⟨hl,hd,_,(rel.put k eb rv).keeps λ c ys ec=>?_,q,es,ep,hq,h2,h3,h4,h5⟩;rw[Af (Kv ec e (λ z=>nomatch z))];exact ec
end
def Tb(i:Expr):Prop:=∀ov iv,subscripted i false ov iv=operate [ov,iv] (getItem ov iv)
theorem PC{prog:Program}{w:World}{A:Around}{E:VPz}{s:Shared}{env:Env}{value slice:Expr}{pos:Pos}{T id:String}{Q:VPz}
  (hl:typeLookup (.type T) "__getitem__"=pure (some (.builtin id))) (hs:Tb slice)
  (h:wpAny (model prog w) A (eval value env) (λ o s₁=>wpAny (model prog w) A (eval slice env) (λ i s₂=>s₂.TypeIs o T/\wpAny (model prog w) A (getItem o i) Q E s₂) E s₁) E s) :
  wpAny (model prog w) A (eval (.Subscript value slice pos) env) Q E s:=by
 refine Subscript_ (wpAny_mono h (λ o s₁ h₁=>wpAny_mono h₁ (λ i s₂ h₂=>?_) λ_ _ x=>x) λ_ _ x=>x);obtain⟨hT,h₂⟩:=h₂;unfold subscriptTail;refine wpAny_bind ?_;rw[getitemInPython_of_ne hT.not_modules];refine wpAny_bind (wpAny_specialOf hT hl ?_);have fin:wpAny (model prog w) A (subscripted slice false o i) (λ r s₃=>wpAny (model prog w) A (letTemporaryGo value o r >>= λ_=>pure r) Q E s₃) E s₂:=by
  rw[hs o i];exact wpAny_operating (wpAny_mono h₂ (λ r s₃ h₃=>wpAny_bind (wpAny_letTemporaryGo (wpAny_pure h₃))) λ_ _ x=>x)
 first
  |exact wpAny_pure (wpAny_bind fin)
  |exact wpAny_bind (wpAny_pure (wpAny_bind fin))
  |exact wpAny_bind fin
theorem KJ{X:Cx}{pins:PNz}{σ:St}{H:Hp}{s:Shared}{a:Addr}{y:V}{o:Option V}(I:Inv X pins σ H s)(g:DGet H a y o):s.TypeIs (.ref a) "dict":=by
 rcases g with ⟨kvs,k,e,_,_⟩|⟨kvs,k,b,e,_,_,_⟩
 .obtain⟨_,_,vs,_,dd⟩:=MV I.hok e;exact dd.typeIs
 .obtain⟨_,_,xs,_,dd⟩:=MU I.hok e;exact dd.typeIs
def QM(td ty:TE):TE:=λ σ H Q=>td σ H λ x H1=>ty σ H1 λ y H2=>∃a v,x=.ref a/\DGet H2 a y (some v)/\Q v H2
def Sz(td ty tv:TE):TS:=λ D σ H=>tv σ H λ v H1=>td σ H1 λ x H2=>ty σ H2 λ y H3=>∃a H4,x=.ref a/\DPut H3 a y v H4/\D.nx σ H4
section
variable{X:Cx}{o i e value:Expr}{pos pos' tpos:Pos}{td ty tv:TE}
theorem AN(hu:X.A.units+1<cLine)(ho:PE X o td)(hi:PE X i ty)(hs:Tb i):PE X (.Subscript o i pos) (QM td ty):=by
 intro pins s σ H Q I h;refine PC PySem.F.slot_dict_getitem.lookup hs (thn (ho pins s σ H _ I h) λ u s1 hz_=>?_);obtain⟨x,H1,I1,rx,q1⟩:=hz_;refine thn (hi pins s1 σ H1 _ I1 q1) λ iv s2 hz_=>?_;obtain⟨y,H2,I2,ry,a,v,ex,g,q2⟩:=hz_;subst ex;obtain rfl:u=Value.ref a:=rx;exact⟨KJ I2 g,NR hu I2 g ry λ w' s3 I3 rw'=>⟨v,H2,I3,rw',q2⟩⟩
theorem Ja(hu:X.A.units+1<cLine)(ho:PE X o td)(hi:PE X i ty)(hv:PE X value tv)(hs:swapsWith value (some (.Subscript o i pos')) pos.line X.env=pure false) :
  PS X (.Assign [.Subscript o i pos'] value pos) (Sz td ty tv):=by
 intro pins s σ H D I h;refine wpAny_Assign_Subscript (thn (hv pins s σ H _ I h) λ r s1 hz_=>?_) hs;obtain⟨v,H1,I1,rv,q1⟩:=hz_;refine thn (ho pins s1 σ H1 _ I1 q1) λ u s2 hz_=>?_;obtain⟨x,H2,I2,rx,q2⟩:=hz_;refine thn (hi pins s2 σ H2 _ I2 q2) λ iv s3 hz_=>?_;obtain⟨y,H3,I3,ry,a,H4,ex,g,q3⟩:=hz_;subst ex;obtain rfl:u=Value.ref a:=rx;exact NQ hu I3 g ry rv λ s4 I4=>⟨σ,H4,I4,q3⟩
end
theorem Pn{P:Program}{w:World}{H:Hp}(h:Heap)(hb:sysModules<h.objs.size):ObjOk P w H (h.push { cls:=.type "dict",data:=.dict #[] }) h.objs.size (.dK []) :=
 ⟨aZ _,beq_eq_false_iff_ne.mpr (Ne.symm (aJ hb)),[],.nil,Heap.DictOf.new h⟩
theorem Pl{P:Program}{w:World}{H:Hp}(h:Heap)(hb:sysModules<h.objs.size):ObjOk P w H (h.push { cls:=.type "dict",data:=.dict #[] }) h.objs.size (.dT []) :=
 ⟨aZ _,beq_eq_false_iff_ne.mpr (Ne.symm (aJ hb)),[],.nil,_,#[],0,aH _ rfl,⟨rfl,rfl,rfl⟩,rfl,rfl,d0⟩
def Ln:List (TE×TE)->St->Hp->(List (V×V)->Hp->Prop)->Prop
 |[],_,H,Q=>Q [] H
 | (tk,tv)::r,σ,H,Q=>tk σ H λ x H1=>tv σ H1 λ y H2=>Ln r σ H2 λ ps H3=>Q ((x,y)::ps) H3
abbrev VV:List (V×V)->List (Value×Value)->Prop:=Paired λ p q=>RelV p.1 q.1/\RelV p.2 q.2
def PPs(X:Cx)(pos:Pos)(keys:List (Option Expr))(values:List Expr)(trs:List (TE×TE)):Prop :=
 ∀(pins:PNz)(s:Shared)(σ:St)(H:Hp)(Q:List (V×V)->Hp->Prop),Inv X pins σ H s->Ln trs σ H Q ->
  wpAny (model X.prog X.w) X.A (evalPairs (pairTrees keys values X.env pos)) (λ vs s'=>∃ps H',Inv X pins σ H' s'/\VV ps vs/\Q ps H') X.xe s
theorem M9{X:Cx}{pos:Pos}:PPs X pos [] [] []:=λ pins s σ H Q I h=>pairTrees_nil_walk ⟨[],H,I,.nil,h⟩
theorem Dm{X:Cx}{pos:Pos}{k v:Expr}{ks:List (Option Expr)}{vs:List Expr}{tk tv:TE}{trs:List (TE×TE)}(hk:PE X k tk)(hv:PE X v tv)(hr:PPs X pos ks vs trs) :
  PPs X pos (some k::ks) (v::vs) ((tk,tv)::trs):=λ pins s σ H Q I h =>
 pairTrees_cons_walk (thn (hk pins s σ H _ I h) λ u s1 ⟨x,H1,I1,rx,q1⟩=>thn (hv pins s1 σ H1 _ I1 q1) λ w2 s2 ⟨y,H2,I2,ry,q2⟩ =>
  thn (hr pins s2 σ H2 _ I2 q2) λ ws s3 ⟨ps,H3,I3,rel,q3⟩=>⟨(x,y)::ps,H3,I3,.cons ⟨rx,ry⟩ rel,q3⟩)
def Fa(kvs more:List (Key×V)):List (Key×V):=more.foldl (λ acc kv=>Bv acc kv.1 kv.2) kvs
theorem KV.merge:∀{more:List (Key×V)}{rs:List (Key×Value)}{kvs:List (Key×V)}{vs:List (Key×Value)},KV more rs->KV kvs vs->KV (Fa kvs more) (merged vs rs):=by
 intro more rs kvs vs r;unfold KV at r
 induction r generalizing kvs vs with
 |nil=>intro q;exact q
 |@cons p q ps qs h t ih =>
  intro r0;have e:KV (Bv kvs p.1 p.2) (stored vs q.1 q.2):=by
   have:=r0.put p.1 h.2;rw[<-h.1];exact this
  exact ih e
theorem DH:∀(more kvs:List (Key×V)),(Fa kvs more).length<=kvs.length+more.length
 |[],kvs=>by show kvs.length<=kvs.length+0;lia
 |p::r,kvs=>by
  have h1:=DH r (Bv kvs p.1 p.2);have h2:=Du kvs p.1 p.2;show(Fa (Bv kvs p.1 p.2) r).length<=_;rw[aD];lia
theorem Hc{P:Program}{w:World}:∀{kvs:List (Key×V)}{ws:List (Value×Value)},VV (kvs.map λ kv=>(kV kv.1,kv.2)) ws->∃rs,Carries (AJ P w) ws rs/\KV kvs rs
 |[],_,r=>by rw[dm]at r;cases r;exact⟨[],True.intro,.nil⟩
 |p::kvs,_,r=>by
  rw[aL]at r;cases r with
  |@cons a b as bs h t =>
   obtain⟨rs,c,q⟩:=Hc (P:=P) (w:=w) t;obtain⟨b1,b2⟩:=b;exact⟨(p.1,b2)::rs,⟨MN h.1,rfl,c⟩,.cons ⟨rfl,h.2⟩ q⟩
def Su(trs:List (TE×TE)):TE:=λ σ H Q=>∀p,H p=none->Ln trs σ (upd H p (.dK [])) λ ps H2=>H2 p=some (.dK [])/\∃kvs:List (Key×V),ps=kvs.map (λ kv=>(kV kv.1,kv.2))/\kvs.length<=15/\Q (.ref p) (upd H2 p (.dK (Fa [] kvs)))
theorem Qe{X:Cx}{pos:Pos}{keys:List (Option Expr)}{values:List Expr}{trs:List (TE×TE)}(h:PPs X pos keys values trs)(hall:keys.all (·.isSome)=true)(hl:keys.length=values.length)(h0:keys≠[])
  (h15:keys.length<=15):PE X (.Dict keys values pos) (Su trs):=by
 intro pins s σ H Q I q;have hn:=I.hok.fresh (aj s.heap.objs.size);have I1:=I.laid (a:=s.heap.objs.size) (o:=.dK []) (h':=s.heap.push { cls:=.type "dict",data:=.dict #[] }) (t':=s.toks) (λ_ _ q=>af _ q) (aj _) (Pn s.heap I.big);refine wpAny_Dict_walk (knd:=AJ X.prog X.w) hall hl h0 h15 (thn (h pins _ σ _ _ I1 (q _ hn)) λ ws s2 hz_=>?_);obtain⟨ps,H2,I2,rel,e,kvs,ep,lk,q2⟩:=hz_;subst ep;obtain⟨rs,c,rk⟩:=Hc (P:=X.prog) (w:=X.w) rel;obtain⟨z,hd,vs0,r0,dd⟩:=QX I2.hok e;cases r0;refine⟨rs,c,dd,λ h' dd' hs=>⟨.ref s.heap.objs.size,_,?_,rfl,q2⟩⟩;have hz:(Fa [] kvs).length<=sizeLine:=by
  have h1:=DH kvs [];rw[bO]at h1;rw[sizeLine_eq];lia
 have he:∃q,h'.get? s.heap.objs.size=some q:=let ⟨q,_,_,hq,_⟩:=dd';⟨q,hq⟩;exact FU I2 (by rw[e];exact True.intro) hs he (Pm hz hd (rk.merge .nil) dd')
def IsD(H:Hp)(a:Addr):Prop:=(∃kvs,Rd H a (.dK kvs))\/∃kvs,Rd H a (.dT kvs)
theorem RL{X:Cx}{pins:PNz}{σ:St}{H:Hp}{s:Shared}{a:Addr}(I:Inv X pins σ H s)(d:IsD H a) :
  s.TypeIs (.ref a) "dict"/\(∀b,Value.ref a=.ref b->∃ob,s.heap.get? b=some ob/\ob.dict=none)/\(a==sysModules)=false:=by
 rcases d with ⟨kvs,e⟩|⟨kvs,e⟩
 .obtain⟨_,hd,vs,_,dd⟩:=MV I.hok e;refine⟨dd.typeIs,λ b q=>?_,hd⟩;cases q;obtain⟨ob,_,_,h1,h2,_⟩:=dd;exact⟨ob,h1,h2.2.1⟩
 .obtain⟨_,hd,xs,_,dd⟩:=MU I.hok e;refine⟨dd.typeIs,λ b q=>?_,hd⟩;cases q;obtain⟨ob,_,_,h1,h2,_⟩:=dd;exact⟨ob,h1,h2.2.1⟩
def Ite(K:Frag)(a:Addr):It :=
 ⟨λ i H=>∃xs x,SqL K H a xs/\xs[i]?=some x,λ i H y H'=>∃t x,(∀xs,SqL K H a xs->xs[i]?=some x)/\y=.ref t/\H t=none/\H'=upd H t (.tup [.int i,x]),λ i H=>∃xs,SqL K H a xs/\xs.length<=i⟩
theorem Io{X:Cx}{pins:PNz}{σ:St}{H:Hp}{s:Shared}{h':Heap}{e it:Addr}{t':Nat}{ys:LUz}(I:Inv X pins σ H s)(fe:Ei X pins H e)(fi:Ei X pins H it)
  (k:∀b o,b≠e->b≠it->s.heap.get? b=some o->h'.get? b=some o) (he:∃o,h'.get? e=some o) (hi:∃o,h'.get? it=some o)
  (new:ObjOk X.prog X.w (upd H s.heap.objs.size (.tup ys)) h' s.heap.objs.size (.tup ys)) :
  Inv X pins σ (upd H s.heap.objs.size (.tup ys)) { s with heap:=h',toks:=t' }:=by
 have hn:H s.heap.objs.size=none:=I.hok.fresh (aj _);obtain⟨e0,e1,e2,e3,e4,e5⟩:=fe;obtain⟨i0,i1,i2,i3,i4,i5⟩:=fi;have nt:∀b u,H b=some u->b≠e/\b≠it:=λ b u q=>⟨λ z=>(by rw[z,e0]at q;cases q),λ z=>(by rw[z,i0]at q;cases q)⟩;have nc:∀b,b∉[e,it]->b≠e/\b≠it:=λ b hb=>⟨λ z=>hb (by simp[z]),λ z=>hb (by simp[z])⟩;have ne:∀b u,H b=some u->b≠s.heap.objs.size:=λ b u q=>Ah q hn;refine I.step (g':=s.gens) (d':=s.drawn) (ch:=[e,it]) (λ b hb=>?_) (λ b o _ _ hc q _=>k b o (nc b hc).1 (nc b hc).2 q) (λ b o _ _ hc q _=>⟨o.slots,k b o (nc b hc).1 (nc b hc).2 q⟩)
  (λ b o _ q n=>by rw[Af (aJ (aB q))];exact n) (λ b o hc q=>⟨o,k b o (nc b hc).1 (nc b hc).2 q⟩) (λ b xs q=>by rw[Af (ne b _ q)];exact q) (λ b o u q=>by rw[Af (ne b _ q)];exact q)
  (λ b ps q=>⟨#[],by rw[Af (ne b _ q),q];simp⟩) (λ m hm=>?_) (λ b u q=>?_) I.bare
 .rcases aA.mp hb with rfl|hb
  .exact⟨e3,e1,e4,e5⟩
  .rw[aa.mp hb];exact⟨i3,i1,i4,i5⟩
 .obtain⟨o,es,ep,ho,r⟩:=hm;exact⟨o,es,ep,k _ o (Ne.symm e1) (Ne.symm i1) ho,r⟩
 .by_cases hb:b=s.heap.objs.size
  .subst hb;rw[upd_same]at q;cases q;exact new
  .rw[Af hb]at q;refine(I.hok b u q).stay (λ c v hc z=>k c v ?_ ?_ z) (λ c z=>by rw[Af (ne c _ z)];exact z) λ c xs z=>by rw[Af (ne c _ z)];exact z
   .rcases hc with rfl|hc
    .exact(nt c u q).1
    .exact(nt c _ hc).1
   .rcases hc with rfl|hc
    .exact(nt c u q).2
    .exact(nt c _ hc).2
theorem Nr{P:Program}{w:World}{K:Frag}{es:List Expr}{k:Nat}{pos:Pos}(a e it:Addr)(hei:e≠it) :
  Mr P w K (.Tuple es k pos) (Ite K a) [e,it] e (λ i h=>(∃old,IsEnum h e it i old)/\h.IsListIter it a i) where
 mem:=by simp
 obj:=λ i h st b hb=>by
  obtain⟨⟨old,he⟩,⟨o,eo,c,d⟩⟩:=st;rcases aA.mp hb with rfl|hb
  .exact⟨_,he,λ v z=>by
    have z':Data.fields _=Data.cell v:=z;cases z'⟩
  .rw[aa.mp hb];exact⟨o,eo,λ v z=>by rw[d]at z;cases z⟩
 keep:=λ i h h' st kk=>by
  obtain⟨⟨old,he⟩,st⟩:=st;exact⟨⟨old,kk e (by simp) _ he⟩,st.at λ o z=>kk it (by simp) o z⟩
 item:=by
  intro X hP hw hK hc i pins s σ H E I hf st hg;subst hP hw hK;obtain⟨⟨old,he⟩,st⟩:=st;obtain⟨xs,x,hq,hx⟩:=hg;obtain⟨its,rv,p,hz⟩:=I.list hq;obtain⟨u,hu,ru⟩:=rv.get hx;have fe:=hf e (by simp);have fi:=hf it (by simp);refine wpAny_pyNext_enum_item he st p.isList (x:=u) (by simpa using hu) hei λ h' he' st' ht hz' kk=>?_;refine⟨_,rfl,?_⟩;have ltE:e<s.heap.objs.size:=aB he;have hn:H s.heap.objs.size=none:=I.hok.fresh (aj _);have I1:Inv X pins σ (upd H s.heap.objs.size (.tup [.int i,x])) { s with heap:=h',toks:=s.toks+1 }:=by
   refine Io I fe fi kk ⟨_,he'⟩ (let ⟨o,eo,_⟩:=st';⟨o,eo⟩) ⟨?_,[.int i s.toks,u],.cons ⟨_,rfl⟩ (.cons ru .nil),⟨_,ht,rfl,_,rfl⟩⟩;show 2<=sizeLine;decide
  refine wpAny_letOwnedTupleGo_enum (s:={ s with heap:=h',toks:=s.toks+1 }) he' λ h2 he2 sb=>?_;have neE:e≠s.heap.objs.size:=aJ ltE;have fe2:(upd H s.heap.objs.size (.tup [.int i,x])) e=none:=by rw[Af neE];exact fe.1
  have I2:Inv X pins σ (upd H s.heap.objs.size (.tup [.int i,x])) { ({ s with heap:=h',toks:=s.toks+1 }:Shared) with heap:=h2,toks:=s.toks+1 } :=
   I1.turned (t':=s.toks+1) (it:=e) (λ b o hb z=>(sb.2 b hb).trans z) fe2 fe.2.1 fe.2.2.2.1 fe.2.2.2.2.1 fe.2.2.2.2.2
  obtain⟨oi,hoi,_⟩:=id st;have ltI:it<s.heap.objs.size:=aB hoi;refine⟨.ref s.heap.objs.size,_,I2,rfl,⟨_,x,λ ys hy=>by rw[I.list_inj hy hq];exact hx,rfl,hn,rfl⟩,⟨⟨u,?_⟩,?_⟩,λ b hb=>?_⟩
  .have e1:((i+1:Nat):Int)=(i:Int)+1:=by push_cast;rfl
   rw[e1];exact he2
  .exact st'.at λ o z=>(sb.2 it (Ne.symm hei)).trans z
  .rcases aA.mp hb with rfl|hb
   .exact fe2
   .rw[aa.mp hb,Af (aJ ltI)];exact fi.1
 done:=by
  intro X hP hw hK hc i pins s σ H E I hf st hg;subst hP hw hK;obtain⟨⟨old,he⟩,st⟩:=st;obtain⟨xs,hq,hx⟩:=hg;obtain⟨its,rv,p,hz⟩:=I.list hq;obtain⟨f0,f1,f2,f3,f4,f5⟩:=hf it (by simp);have hl:=rv.length;exact wpAny_pyNext_enum_end (I.ok.hd hc) he st p.isList (by simp;lia) λ h' eb=>⟨rfl,I.turned (t':=s.toks) (λ b o hb z=>eb b o hb z) f0 f1 f3 f4 f5⟩
 self:=λ_ _ _ _ _ st h=>by
  obtain⟨⟨old,he⟩,_⟩:=st;exact wpAny_pyIter_enum he h
def SL(K:Frag)(ta:TA):TI:=λ σ H R=>ta σ H λ vs H1=>∃a,vs=[.ref a]/\(∃xs,SqL K H1 a xs)/\R (Ite K a) H1
section
variable{X:Cx}
theorem Je{a:Expr}{es:List Expr}{k:Nat}{tpos:Pos}{ta:TA}{p pos:Pos}(hg:Gl X "enumerate")(hm:X.mg "enumerate"=none)(ha:PA X [a] ta)(hs:starEach [a] X.env=[(false,eval a X.env)]:=by rfl) :
  PI X (.Tuple es k tpos) (.Call (.Name "enumerate" p) [a] [] pos) (SL X.K ta):=by
 intro pins s σ H R I h;refine Call_ (Fe I hg hm boot_enumerate (PyProof.Rows.callWith_type1 (thn (ha pos pins s σ H _ I h) λ us s1 hz_=>?_) hs rfl));obtain⟨vs,H1,I1,r1,q1⟩:=hz_;obtain⟨b,e,⟨xs,hq⟩,q⟩:=q1;subst e;cases r1 with
 |cons r rr =>
  cases rr;cases r;obtain⟨its,rv,pl,hz⟩:=I1.list hq;refine call_enumerate_list pl.isList λ h' he hit hsz hk=>?_;have I2:Inv X pins σ H1 { s1 with heap:=h' }:=I1.kept (t':=s1.toks) hk;refine wpAny_pyIter_enum (s:={ s1 with heap:=h' }) he ?_;refine⟨s1.heap.objs.size+1,[s1.heap.objs.size+1,s1.heap.objs.size],_,_,H1,rfl,I2,Nr b _ _ (Nat.succ_ne_self _),⟨⟨_,he⟩,hit⟩,λ c hc=>?_,q⟩;rcases aA.mp hc with rfl|hc
  .exact I1.fpOk (bH _) (I1.hok.fresh (bH _))
  .rw[aa.mp hc];exact I1.fpOk (aj _) (I1.hok.fresh (aj _))
end
theorem KD{K:Frag}{a:Addr}{xs:LUz}{g:TG}{tb:TS}{D:CT}{σ:St}{H:Hp}(Pv:Nat->St->Hp->Prop)(h0:Pv 0 σ H)(hl:∀i σ H,i<=xs.length->Pv i σ H->SqL K H a xs)
  (hs:∀i x σ H t,xs[i]?=some x->Pv i σ H->H t=none->g (.ref t) σ (upd H t (.tup [.int i,x])) λ σ2 H2=>tb { D with nx:=Pv (i+1),ct:=Pv (i+1),bk:=D.nx } σ2 H2) (hd:∀σ H,Pv xs.length σ H->D.nx σ H) :
  ∃W:Nat->Nat->St->Hp->Prop,(∃m,W 0 m σ H)/\∀i m σ H,W i m σ H ->
   ((Ite K a).stop i H/\D.nx σ H)\/((Ite K a).go i H/\∃N:St->Hp->Prop,(∀σ' H',N σ' H'->∃m',m'<m/\W (i+1) m' σ' H')/\∀x H',(Ite K a).yld i H x H'->g x σ H' λ σ2 H2=>tb { D with nx:=N,ct:=N,bk:=D.nx } σ2 H2):=by
 refine⟨λ i m σ H=>m=xs.length-i/\i<=xs.length/\Pv i σ H,⟨xs.length,by simp,aZ _,h0⟩,?_⟩;rintro i m σ H ⟨rfl,hi,p⟩;have q:=hl i σ H hi p;by_cases hlt:i<xs.length
 .refine .inr ⟨⟨xs,xs[i],q,by simp[hlt]⟩,Pv (i+1),λ σ' H' p'=>⟨xs.length-(i+1),by lia,rfl,hlt,p'⟩,λ x H' y=>?_⟩;obtain⟨t,z,hz,rfl,ht,rfl⟩:=y;exact hs i z σ H t (hz xs q) p ht
 .have e:i=xs.length:=by lia
  subst e;exact .inl ⟨⟨xs,q,aj _⟩,hd σ H p⟩
open PySem.SeqAt
mutual
inductive D where
 |at (v:V)
 |tup (xs:Ds)
 |lst (xs:Ds)
inductive Ds where
 |nil
 |cons (d:D) (r:Ds)
end
mutual
def DIs(K:Frag)(H:Hp):D->V->Prop
 |.at u,v=>v=u/\Bp u=true
 |.tup ds,v=>∃a xs,v=.ref a/\SqT K H a xs/\DIss K H ds xs
 |.lst ds,v=>∃a xs,v=.ref a/\SqL K H a xs/\DIss K H ds xs
def DIss(K:Frag)(H:Hp):Ds->LUz->Prop
 |.nil,xs=>xs=[]
 |.cons d r,xs=>∃x ys,xs=x::ys/\DIs K H d x/\DIss K H r ys
end
mutual
def dep:D->Nat
 |.at _=>0
 |.tup ds=>Bw ds+1
 |.lst ds=>Bw ds+1
def Bw:Ds->Nat
 |.nil=>0
 |.cons d r=>max (dep d) (Bw r)
end
mutual
def deq:D->D->Bool
 |.at u,.at v=>eqV u v
 |.tup xs,.tup ys=>Cy xs ys
 |.lst xs,.lst ys=>Cy xs ys
 |_,_=>false
def Cy:Ds->Ds->Bool
 |.nil,.nil=>true
 |.cons d r,.cons e q=>deq d e&&Cy r q
 |_,_=>false
end
def Ds.len:Ds->Nat
 |.nil=>0
 |.cons _ r=>r.len+1
def Ds.get:Ds->Nat->D
 |.nil,_=>.at .non
 |.cons d _,0=>d
 |.cons _ r,i+1=>r.get i
theorem B2:∀(ds es:Ds),((List.range (min ds.len es.len)).all (λ j=>deq (ds.get j) (es.get j))&&ds.len==es.len)=Cy ds es
 |.nil,.nil=>rfl
 |.nil,.cons e q=>by simp[Ds.len,Cy]
 |.cons d r,.nil=>by simp[Ds.len,Cy]
 |.cons d r,.cons e q=>by
  have ih:=B2 r q;rw[show Cy (.cons d r) (.cons e q)=(deq d e&&Cy r q) from by rw[Cy],<-ih];show((List.range (min (r.len+1) (q.len+1))).all _&&(r.len+1==q.len+1))=_;rw[show min (r.len+1) (q.len+1)=min r.len q.len+1 by lia,List.range_succ_eq_map,eK,List.all_map,Bool.and_assoc];congr 1;rw[show(r.len+1==q.len+1)=(r.len==q.len) by simp];rfl
mutual
theorem Cf:∀{K:Frag}{H:Hp}(d:D){v:V},DIs K H d v->deq d d=true
 |_,_,.at u,v,h=>by
  obtain⟨_,hf⟩:=(show v=u/\Bp u=true by simpa [DIs] using h);rw[deq];cases u<;>simp_all [Bp,eqV]
 |_,_,.tup ds,v,h=>by
  rw[DIs]at h;obtain⟨a,xs,_,_,q⟩:=h;rw[deq];exact Fj ds q
 |_,_,.lst ds,v,h=>by
  rw[DIs]at h;obtain⟨a,xs,_,_,q⟩:=h;rw[deq];exact Fj ds q
theorem Fj:∀{K:Frag}{H:Hp}(ds:Ds){xs:LUz},DIss K H ds xs->Cy ds ds=true
 |_,_,.nil,_,_=>by rw[Cy]
 |_,_,.cons d r,xs,h=>by
  rw[DIss]at h;obtain⟨x,ys,_,h1,h2⟩:=h;rw[Cy,Cf d h1,Fj r h2];rfl
end
theorem DIss.len{K:Frag}{H:Hp}:∀{ds:Ds}{xs:LUz},DIss K H ds xs->ds.len=xs.length
 |.nil,xs,h=>by rw[DIss]at h;rw[h];rfl
 |.cons d r,xs,h=>by
  rw[DIss]at h;obtain⟨x,ys,rfl,_,h2⟩:=h;show r.len+1=ys.length+1;rw[DIss.len h2]
theorem DIss.get{K:Frag}{H:Hp}:∀{ds:Ds}{xs:LUz}{i:Nat}{x:V},DIss K H ds xs->xs[i]?=some x->DIs K H (ds.get i) x
 |.nil,xs,i,x,h,e=>by rw[DIss]at h;rw[h]at e;simp at e
 |.cons d r,xs,i,x,h,e=>by
  rw[DIss]at h;obtain⟨y,ys,rfl,h1,h2⟩:=h;cases i with
  |zero=>simp at e;subst e;exact h1
  |succ i =>
   show DIs K H (r.get i) x;exact DIss.get h2 (by simpa using e)
theorem FT:∀(ds:Ds)(i:Nat),i<ds.len->dep (ds.get i)<=Bw ds
 |.nil,i,h=>absurd h (by simp[Ds.len])
 |.cons d r,0,_=>by show dep d<=_;rw[Bw];lia
 |.cons d r,i+1,h=>by
  have:=FT r i (by simpa [Ds.len] using h);show dep (r.get i)<=_;rw[Bw];lia
section
variable{X:Cx}{pins:PNz}{σ:St}{H:Hp}{s:Shared}
mutual
theorem DIs.inj(I:Inv X pins σ H s):∀{d e:D}{v:V},DIs X.K H d v->DIs X.K H e v->d=e
 |.at u,.at w',v,h,h'=>by
  rw[DIs]at h;rw[DIs]at h';rw[<-h.1,<-h'.1]
 |.at u,.tup ds,v,h,h'=>by
  rw[DIs]at h;rw[DIs]at h';obtain⟨a,xs,e,_⟩:=h';have:=h.2;rw[<-h.1,e]at this;cases this
 |.at u,.lst ds,v,h,h'=>by
  rw[DIs]at h;rw[DIs]at h';obtain⟨a,xs,e,_⟩:=h';have:=h.2;rw[<-h.1,e]at this;cases this
 |.tup ds,.at u,v,h',h=>by
  rw[DIs]at h;rw[DIs]at h';obtain⟨a,xs,e,_⟩:=h';have:=h.2;rw[<-h.1,e]at this;cases this
 |.lst ds,.at u,v,h',h=>by
  rw[DIs]at h;rw[DIs]at h';obtain⟨a,xs,e,_⟩:=h';have:=h.2;rw[<-h.1,e]at this;cases this
 |.tup ds,.tup es,v,h,h'=>by
  rw[DIs]at h;rw[DIs]at h';obtain⟨a,xs,rfl,h1,h2⟩:=h;obtain⟨b,ys,e,k1,k2⟩:=h';cases e;have e:=I.tuple_inj h1 k1;subst e;rw[DIss.inj I h2 k2]
 |.lst ds,.lst es,v,h,h'=>by
  rw[DIs]at h;rw[DIs]at h';obtain⟨a,xs,rfl,h1,h2⟩:=h;obtain⟨b,ys,e,k1,k2⟩:=h';cases e;have e:=I.list_inj h1 k1;subst e;rw[DIss.inj I h2 k2]
 |.tup ds,.lst es,v,h,h'=>by
  rw[DIs]at h;rw[DIs]at h';obtain⟨a,xs,rfl,h1,h2⟩:=h;obtain⟨b,ys,e,k1,k2⟩:=h';cases e;obtain⟨_,_,t1,_⟩:=I.tuple h1;obtain⟨_,_,t2,_⟩:=I.list k1;exact absurd rfl (ne_of_list_tuple t2.isList (show s.heap.IsTuple a _ from t1))
 |.lst ds,.tup es,v,h,h'=>by
  rw[DIs]at h;rw[DIs]at h';obtain⟨a,xs,rfl,h1,h2⟩:=h;obtain⟨b,ys,e,k1,k2⟩:=h';cases e;obtain⟨_,_,t1,_⟩:=I.tuple k1;obtain⟨_,_,t2,_⟩:=I.list h1;exact absurd rfl (ne_of_list_tuple t2.isList (show s.heap.IsTuple a _ from t1))
theorem DIss.inj(I:Inv X pins σ H s):∀{ds es:Ds}{xs:LUz},DIss X.K H ds xs->DIss X.K H es xs->ds=es
 |.nil,.nil,xs,h,h'=>rfl
 |.nil,.cons d r,xs,h,h'=>by
  rw[DIss]at h;rw[DIss]at h';obtain⟨x,ys,e,_⟩:=h';rw[h]at e;cases e
 |.cons d r,.nil,xs,h',h=>by
  rw[DIss]at h;rw[DIss]at h';obtain⟨x,ys,e,_⟩:=h';rw[h]at e;cases e
 |.cons d r,.cons e q,xs,h,h'=>by
  rw[DIss]at h;rw[DIss]at h';obtain⟨x,ys,rfl,h1,h2⟩:=h;obtain⟨y,zs,e',k1,k2⟩:=h';cases e';rw[DIs.inj I h1 k1,DIss.inj I h2 k2]
end
theorem GR{A:Around}{u:V}{x:Value}{l:Addr}{items:Array Value}(r:RelV u x)(f:Bp u=true)(hl:s.heap.IsTuple l items)(hu:A.units<cLine):EqAt A s x (.ref l) false/\EqAt A s (.ref l) x false:=by
 cases u with
 |non=>cases r;exact⟨.none_tuple hl hu,.tuple_none hl hu⟩
 |bl b=>cases r;exact⟨.bool_tuple b hl hu,.tuple_bool b hl hu⟩
 |int b=>obtain⟨t,rfl⟩:=r;exact⟨.int_tuple b t hl hu,.tuple_int b t hl hu⟩
 |str b=>obtain⟨t,rfl⟩:=r;exact⟨.str_tuple b t hl hu,.tuple_str b t hl hu⟩
 |_=>exact absurd (show false=true from f) au
theorem GS{A:Around}{u:V}{x:Value}{l:Addr}{items:Array Value}(r:RelV u x)(f:Bp u=true)(hl:s.heap.IsList l items)(hu:A.units<cLine):EqAt A s x (.ref l) false/\EqAt A s (.ref l) x false:=by
 cases u with
 |non=>cases r;exact⟨.none_list hl hu,.list_none hl hu⟩
 |bl b=>cases r;exact⟨.bool_list b hl hu,.list_bool b hl hu⟩
 |int b=>obtain⟨t,rfl⟩:=r;exact⟨.int_list b t hl hu,.list_int b t hl hu⟩
 |str b=>obtain⟨t,rfl⟩:=r;exact⟨.str_list b t hl hu,.list_str b t hl hu⟩
 |_=>exact absurd (show false=true from f) au
theorem Md(I:Inv X pins σ H s):∀(n:Nat)(A:Around)(d e:D)(x y:V)(u v:Value),dep d<=n->DIs X.K H d x->DIs X.K H e y->RelV x u->RelV y v->A.units+n<cLine->EqAt A s u v (deq d e):=by
 intro n
 induction n with
 |zero =>
  intro A d e x y u v hn hd he rx ry hu;cases d with
  |tup ds=>rw[dep]at hn;lia
  |lst ds=>rw[dep]at hn;lia
  | «at» p =>
   rw[DIs]at hd;obtain⟨rfl,hf⟩:=hd;cases e with
   | «at» q =>
    rw[DIs]at he;obtain⟨rfl,hg⟩:=he;rw[deq];exact Mc rx ry hf hg
   |tup es =>
    rw[DIs]at he;obtain⟨b,ys,rfl,h1,_⟩:=he;obtain⟨_,_,t,_⟩:=I.tuple h1;cases ry;rw[deq]
    .exact(GR rx hf (show s.heap.IsTuple b _ from t) hu).1
    all_goals (intros;simp_all)
   |lst es =>
    rw[DIs]at he;obtain⟨b,ys,rfl,h1,_⟩:=he;obtain⟨_,_,t,_⟩:=I.list h1;cases ry;rw[deq]
    .exact(GS rx hf t.isList hu).1
    all_goals (intros;simp_all)
 |succ n ih =>
  intro A d e x y u v hn hd he rx ry hu;have hu1:A.in1.units+n<cLine:=by show A.units+1+n<cLine;lia
  cases d with
  | «at» p =>
   rw[DIs]at hd;obtain⟨rfl,hf⟩:=hd;cases e with
   | «at» q =>
    rw[DIs]at he;obtain⟨rfl,hg⟩:=he;rw[deq];exact Mc rx ry hf hg
   |tup es =>
    rw[DIs]at he;obtain⟨b,ys,rfl,h1,_⟩:=he;obtain⟨_,_,t,_⟩:=I.tuple h1;cases ry;rw[deq]
    .exact(GR rx hf (show s.heap.IsTuple b _ from t) (by lia)).1
    all_goals (intros;simp_all)
   |lst es =>
    rw[DIs]at he;obtain⟨b,ys,rfl,h1,_⟩:=he;obtain⟨_,_,t,_⟩:=I.list h1;cases ry;rw[deq]
    .exact(GS rx hf t.isList (by lia)).1
    all_goals (intros;simp_all)
  |tup ds =>
   have hd0:=hd;rw[dep]at hn;rw[DIs]at hd;obtain⟨a,xs,rfl,h1,h2⟩:=hd;obtain⟨i1,r1,t1,_⟩:=I.tuple h1;cases rx;cases e with
   | «at» q =>
    rw[DIs]at he;obtain⟨rfl,hg⟩:=he;rw[deq]
    .exact(GR ry hg (show s.heap.IsTuple a _ from t1) (by lia)).2
    all_goals (intros;simp_all)
   |lst es =>
    rw[DIs]at he;obtain⟨b,ys,rfl,k1,_⟩:=he;obtain⟨_,_,t2,_⟩:=I.list k1;cases ry;rw[deq]
    .exact EqAt.tuple_list (show s.heap.IsTuple a _ from t1) t2.isList (by lia)
    all_goals (intros;simp_all)
   |tup es =>
    have he0:=he;rw[DIs]at he;obtain⟨b,ys,rfl,k1,k2⟩:=he;obtain⟨i2,r2,t2,_⟩:=I.tuple k1;cases ry;by_cases hab:a=b
    .subst hab;rw[DIs.inj I he0 hd0,Cf _ hd0];exact EqAt.same _
    .refine EqAt.of_refs hab ?_;have:=RcAt.tuples (A:=A) (e:=λ j=>deq (ds.get j) (es.get j)) (show s.heap.IsTuple a i1.toArray from t1) (show s.heap.IsTuple b i2.toArray from t2) (by lia) λ j g1 g2=>?_
     .have l1:=r1.length;have l2:=r2.length;have m1:=h2.len;have m2:=k2.len;rw[am,am,<-l1,<-l2,<-m1,<-m2,B2]at this;rw[deq];exact this
     .have l1:=r1.length;have l2:=r2.length;have m1:=h2.len;have g1':j<xs.length:=by simp at g1;lia
      have g2':j<ys.length:=by simp at g2;lia
      obtain⟨u1,e1,q1⟩:=r1.get (ag g1');obtain⟨u2,e2,q2⟩:=r2.get (ag g2');have d1:i1.toArray[j]=u1:=by
       have:i1[j]?=some i1.toArray[j]:=by simp
       rw[e1]at this;exact(Option.some.inj this).symm
      have d2:i2.toArray[j]=u2:=by
       have:i2[j]?=some i2.toArray[j]:=by simp
       rw[e2]at this;exact(Option.some.inj this).symm
      rw[d1,d2];exact ih _ _ _ _ _ _ _ (aS (FT ds j (by lia)) (by lia)) (h2.get (ag g1')) (k2.get (ag g2')) q1 q2 hu1
  |lst ds =>
   have hd0:=hd;rw[dep]at hn;rw[DIs]at hd;obtain⟨a,xs,rfl,h1,h2⟩:=hd;obtain⟨i1,r1,t1,_⟩:=I.list h1;cases rx;cases e with
   | «at» q =>
    rw[DIs]at he;obtain⟨rfl,hg⟩:=he;rw[deq]
    .exact(GS ry hg t1.isList (by lia)).2
    all_goals (intros;simp_all)
   |tup es =>
    rw[DIs]at he;obtain⟨b,ys,rfl,k1,_⟩:=he;obtain⟨_,_,t2,_⟩:=I.tuple k1;cases ry;rw[deq]
    .exact EqAt.list_tuple t1.isList (show s.heap.IsTuple b _ from t2) (by lia)
    all_goals (intros;simp_all)
   |lst es =>
    have he0:=he;rw[DIs]at he;obtain⟨b,ys,rfl,k1,k2⟩:=he;obtain⟨i2,r2,t2,_⟩:=I.list k1;cases ry;by_cases hab:a=b
    .subst hab;rw[DIs.inj I he0 hd0,Cf _ hd0];exact EqAt.same _
    .refine EqAt.of_refs hab ?_;have l1:=r1.length;have l2:=r2.length;have m1:=h2.len;have m2:=k2.len;rw[deq];rw[<-B2];by_cases hz:ds.len=es.len
     .have:=RcAt.lists (A:=A) (e:=λ j=>deq (ds.get j) (es.get j)) t1.isList t2.isList (by simp;lia) (by lia) λ j g1 g2=>?_
      .rw[am,<-l1,<-m1]at this;rw[hz,eQ,beq_self_eq_true,dI,<-hz];exact this
      .have g1':j<xs.length:=by simp at g1;lia
       have g2':j<ys.length:=by simp at g2;lia
       obtain⟨u1,e1,q1⟩:=r1.get (ag g1');obtain⟨u2,e2,q2⟩:=r2.get (ag g2');have d1:i1.toArray[j]=u1:=by
        have:i1[j]?=some i1.toArray[j]:=by simp
        rw[e1]at this;exact(Option.some.inj this).symm
       have d2:i2.toArray[j]=u2:=by
        have:i2[j]?=some i2.toArray[j]:=by simp
        rw[e2]at this;exact(Option.some.inj this).symm
       rw[d1,d2];exact ih _ _ _ _ _ _ _ (aS (FT ds j (by lia)) (by lia)) (h2.get (ag g1')) (k2.get (ag g2')) q1 q2 hu1
     .have e0:(ds.len==es.len)=false:=by simpa using hz
      rw[e0,cC];exact RcAt.lists_lengths t1.isList t2.isList (by simp;lia) (by lia)
end
section
variable{X:Cx}
theorem FR{pins:PNz}{σ:St}{H:Hp}{s:Shared}(I:Inv X pins σ H s){A:Around}{ds es:Ds}{xs ys:LUz}{i1 i2:LWz}(h2:DIss X.K H ds xs)(k2:DIss X.K H es ys)(r1:Vals xs i1)(r2:Vals ys i2)
  (hu:A.units+60<cLine) (hd:Bw ds<=50):∀j (g1:j<i1.toArray.size) (g2:j<i2.toArray.size),EqAt A.in1 s i1.toArray[j] i2.toArray[j] (deq (ds.get j) (es.get j)):=λ j g1 g2=>by
 have l1:=r1.length;have l2:=r2.length;have m1:=h2.len;have g1':j<xs.length:=by simp at g1;lia
 have g2':j<ys.length:=by simp at g2;lia
 obtain⟨u1,e1,q1⟩:=r1.get (ag g1');obtain⟨u2,e2,q2⟩:=r2.get (ag g2');have d1:i1.toArray[j]=u1:=by
  have:i1[j]?=some i1.toArray[j]:=by simp
  rw[e1]at this;exact(Option.some.inj this).symm
 have d2:i2.toArray[j]=u2:=by
  have:i2[j]?=some i2.toArray[j]:=by simp
  rw[e2]at this;exact(Option.some.inj this).symm
 rw[d1,d2];exact Md I 50 _ _ _ _ _ _ _ (aS (FT ds j (by lia)) hd) (h2.get (ag g1')) (k2.get (ag g2')) q1 q2 (by show A.units+1+50<cLine;lia)
def Ry(K:Frag)(neg:Bool):R2:=λ x y H Q=>∃d e,DIs K H d x/\DIs K H e y/\(∃a,x=.ref a)/\(∃b,y=.ref b)/\dep d<=50/\Q (.bl (if neg then !deq d e else deq d e)) H
theorem OG{k:Nat}(hr:Room k X.A):OpR X (compareOp .Eq) (Ry X.K false):=by
 intro pins s σ H x y v u Q I rx ry h;obtain⟨d,e,hd,he,⟨a,rfl⟩,⟨b,rfl⟩,hn,q⟩:=h;cases rx;cases ry;have hu:=hr.units;cases d with
 | «at» p=>rw[DIs]at hd;obtain⟨rfl,hf⟩:=hd;cases hf
 |tup ds =>
  rw[dep]at hn;rw[DIs]at hd;obtain⟨a',xs,e',h1,h2⟩:=hd;cases e';obtain⟨i1,r1,t1,_⟩:=I.tuple h1;cases e with
  | «at» p=>rw[DIs]at he;obtain⟨rfl,hf⟩:=he;cases hf
  |tup es =>
   rw[DIs]at he;obtain⟨b',ys,e',k1,k2⟩:=he;cases e';obtain⟨i2,r2,t2,_⟩:=I.tuple k1;refine RcAt.tuples (show s.heap.IsTuple a i1.toArray from t1) (show s.heap.IsTuple b i2.toArray from t2) (by lia) (FR I h2 k2 r1 r2 (by lia) (by lia)) _ _ _ _ ⟨.bl _,H,I,?_,q⟩;show Value.bool _=Value.bool _;rw[am,am,<-r1.length,<-r2.length,<-h2.len,<-k2.len,B2];simp only[aU,if_false];rw[deq]
  |lst es =>
   rw[DIs]at he;obtain⟨b',ys,e',k1,k2⟩:=he;cases e';obtain⟨i2,r2,t2,_⟩:=I.list k1;refine RcAt.tuple_list (show s.heap.IsTuple a _ from t1) t2.isList (by lia) _ _ _ _ ⟨.bl _,H,I,?_,q⟩;show Value.bool _=Value.bool _;simp only[aU,if_false];rw[deq]<;>(intros;simp_all)
 |lst ds =>
  rw[dep]at hn;rw[DIs]at hd;obtain⟨a',xs,e',h1,h2⟩:=hd;cases e';obtain⟨i1,r1,t1,_⟩:=I.list h1;cases e with
  | «at» p=>rw[DIs]at he;obtain⟨rfl,hf⟩:=he;cases hf
  |tup es =>
   rw[DIs]at he;obtain⟨b',ys,e',k1,k2⟩:=he;cases e';obtain⟨i2,r2,t2,_⟩:=I.tuple k1;refine RcAt.list_tuple t1.isList (show s.heap.IsTuple b _ from t2) (by lia) _ _ _ _ ⟨.bl _,H,I,?_,q⟩;show Value.bool _=Value.bool _;simp only[aU,if_false];rw[deq]<;>(intros;simp_all)
  |lst es =>
   rw[DIs]at he;obtain⟨b',ys,e',k1,k2⟩:=he;cases e';obtain⟨i2,r2,t2,_⟩:=I.list k1;have l1:=r1.length;have l2:=r2.length;have m1:=h2.len;have m2:=k2.len;by_cases hz:ds.len=es.len
   .refine RcAt.lists t1.isList t2.isList (by simp;lia) (by lia) (FR I h2 k2 r1 r2 (by lia) (by lia)) _ _ _ _ ⟨.bl _,H,I,?_,q⟩;show Value.bool _=Value.bool _;simp only[aU,if_false];rw[deq,<-B2,am,<-l1,<-m1,hz,eQ,beq_self_eq_true,dI]
   .refine RcAt.lists_lengths t1.isList t2.isList (by simp;lia) (by lia) _ _ _ _ ⟨.bl _,H,I,?_,q⟩;show Value.bool _=Value.bool _;have e0:(ds.len==es.len)=false:=by simpa using hz
    simp only[aU,if_false];rw[deq,<-B2,e0,cC]
theorem L7{k:Nat}(hr:Room k X.A):OpR X (compareOp .NotEq) (Ry X.K true):=by
 intro pins s σ H x y v u Q I rx ry h;obtain⟨d,e,hd,he,⟨a,rfl⟩,⟨b,rfl⟩,hn,q⟩:=h;cases rx;cases ry;have hu:=hr.units;cases d with
 | «at» p=>rw[DIs]at hd;obtain⟨rfl,hf⟩:=hd;cases hf
 |tup ds =>
  rw[dep]at hn;rw[DIs]at hd;obtain⟨a',xs,e',h1,h2⟩:=hd;cases e';obtain⟨i1,r1,t1,_⟩:=I.tuple h1;cases e with
  | «at» p=>rw[DIs]at he;obtain⟨rfl,hf⟩:=he;cases hf
  |tup es =>
   rw[DIs]at he;obtain⟨b',ys,e',k1,k2⟩:=he;cases e';obtain⟨i2,r2,t2,_⟩:=I.tuple k1;refine RcNeAt.tuples (show s.heap.IsTuple a i1.toArray from t1) (show s.heap.IsTuple b i2.toArray from t2) (by lia) (FR I h2 k2 r1 r2 (by lia) (by lia)) _ _ _ _ ⟨.bl _,H,I,?_,q⟩;show Value.bool _=Value.bool _;rw[am,am,<-r1.length,<-r2.length,<-h2.len,<-k2.len,B2];simp only[if_true];rw[deq]
  |lst es =>
   rw[DIs]at he;obtain⟨b',ys,e',k1,k2⟩:=he;cases e';obtain⟨i2,r2,t2,_⟩:=I.list k1;refine RcNeAt.tuple_list (show s.heap.IsTuple a _ from t1) t2.isList (by lia) _ _ _ _ ⟨.bl _,H,I,?_,q⟩;show Value.bool _=Value.bool _;simp only[if_true];rw[deq]<;>first|rfl|(intros;simp_all)
 |lst ds =>
  rw[dep]at hn;rw[DIs]at hd;obtain⟨a',xs,e',h1,h2⟩:=hd;cases e';obtain⟨i1,r1,t1,_⟩:=I.list h1;cases e with
  | «at» p=>rw[DIs]at he;obtain⟨rfl,hf⟩:=he;cases hf
  |tup es =>
   rw[DIs]at he;obtain⟨b',ys,e',k1,k2⟩:=he;cases e';obtain⟨i2,r2,t2,_⟩:=I.tuple k1;refine RcNeAt.list_tuple t1.isList (show s.heap.IsTuple b _ from t2) (by lia) _ _ _ _ ⟨.bl _,H,I,?_,q⟩;show Value.bool _=Value.bool _;simp only[if_true];rw[deq]<;>first|rfl|(intros;simp_all)
  |lst es =>
   rw[DIs]at he;obtain⟨b',ys,e',k1,k2⟩:=he;cases e';obtain⟨i2,r2,t2,_⟩:=I.list k1;have l1:=r1.length;have l2:=r2.length;have m1:=h2.len;have m2:=k2.len;by_cases hz:ds.len=es.len
   .refine RcNeAt.lists t1.isList t2.isList (by simp;lia) (by lia) (FR I h2 k2 r1 r2 (by lia) (by lia)) _ _ _ _ ⟨.bl _,H,I,?_,q⟩;show Value.bool _=Value.bool _;simp only[if_true];rw[deq,<-B2,am,<-l1,<-m1,hz,eQ,beq_self_eq_true,dI]
   .refine RcNeAt.lists_lengths t1.isList t2.isList (by simp;lia) (by lia) _ _ _ _ ⟨.bl _,H,I,?_,q⟩;show Value.bool _=Value.bool _;have e0:(ds.len==es.len)=false:=by simpa using hz
    simp only[if_true];rw[deq,<-B2,e0,cC];rfl
end
structure Oa(P:Program)(w:World)(K:Frag)(mg:MGz)(base:Heap)(k:Nat)(x:Str)(C:Addr)(ps:LSz)(sp:Sp):Prop where
 ex:∃(f:Addr)(fd:FuncData),Mk K C f/\A3 P w K mg base CX0 k f fd ps sp/\mg x=some (.ref C)/\Binds K fd ps []
structure KW(P:Program)(w:World)(K:Frag)(mg:MGz)(base:Heap)(k:Nat)(C:Addr)(m:Str)(ps:LSz)(sp:Sp):Prop where
 cl:Cls K C
 ex:∃(f:Addr)(fd:FuncData),Pz K C m f/\A3 P w K mg base CX0 k f fd ps sp/\Binds K fd ps []
section
variable{X:Cx}{k j:Nat}{x m:Str}{C:Addr}{ps:LSz}{sp:Sp}{p pos apos:Pos}{e o:Expr}{es:List Expr}{t:TA}{ta:TE}
theorem O8(D:Oa X.prog X.w X.K X.mg X.base k x C ps sp)(hr:Room j X.A)(ha:PA X (e::es) t)(hj:k+1<=j:=by decide)(hg:Gl X x:=by rfl)(hdb:(x==("__debug__":Str))=false:=by decide)
  (he:starEach (e::es) X.env=(false,eval e X.env)::starEach es X.env:=by rfl) (hpl:(backTo pos (starEach es X.env)).any (·.1)=false:=by rfl):PE X (.Call (.Name x p) (e::es) [] pos) (M1 C sp [] E0 t):=by
 obtain⟨f,fd,M,F,hm,hb⟩:=D.ex;exact MB M F (hr.mono hj) hg hm hb .nil HV ha hdb he hpl
theorem DZ{pl:Sem Bool}(D:KW X.prog X.w X.K X.mg X.base k C m ps sp)(hr:Room j X.A)(he:PE X o ta)(hj:k<=j:=by decide)
    (ht:eval (.Call (.Attribute o m apos) [] [] pos) X.env=(do
      let ov <-eval o X.env
      standAt apos.atName
      let (f,first) <-holding [ov] (getMethod ov m pl)
      callWith pos f first (backTo pos (starEach [] X.env)) (backToKw pos (keywordEach [] X.env))):=by rfl):PE X (.Call (.Attribute o m apos) [] [] pos) (JR C m sp [] E0 ta Lo):=by
  obtain⟨f,fd,M,F,hb⟩:=D.ex;exact O9 he D.cl M F (hr.mono hj) hb .nil HV ht
end
section
variable{X:Cx}{K:Frag}{pos:Pos}
theorem Cp{es:List Expr}{k:Nat}{t:TGs}{n:Nat}(hc:X.calm=true)(h:PGs X es t)(hK:X.K=K:=by rfl)
  (hn:(assignEach es X.env).length=n:=by rfl) (hst:(assignEach es X.env).findIdx? (·.1)=none:=by rfl):PG X (.Tuple es k pos) (SO K n t):=by
 subst hK;exact Cw hc h hn hst
end
end L2
namespace GB
open PySem.W
open PySem L2
structure Rc where
 t:Int
 l:Int
 b:Int
 r:Int
 deriving DecidableEq
end GB
namespace L2
open PySem.W
open PySem PySem.Spec PyProof.Rows
section
variable{prog:Program}{w:World}{A:Around}{E:VPz}{h:Heap}{g:Array GenState}{d:Drawn}{t:Nat}{os:OsState}
 {nm qn:Str} {C N:Addr} {bs bm bmB:LWz} {hdct:Bool} {sn:LSz} {sub:LWz} {ab:Bool} {col:Option Bool} {dd:Option Addr} {k0 k1 k2 k3 k5:Option Value} {B newId initId:String}
def BI(h:Heap)(C:Addr)(rest:LWz):Heap:=(h.push { cls:=.type "tuple",data:=.seq rest.toArray }).push { cls:=.ref C,data:=.fields #[.ref h.objs.size,.none,.none,.none,.bool false,.none] }
theorem BB{C:Addr}{rest:LWz}{b:Addr}{o:Obj}(e:h.get? b=some o):(BI h C rest).get? b=some o:=af _ (af _ e)
theorem HP(C:Addr)(rest:LWz):(BI h C rest).get? (h.objs.size+1)=some { cls:=.ref C,data:=.fields #[.ref h.objs.size,.none,.none,.none,.bool false,.none] }:=by
 unfold BI;heap_get
theorem Ga(F:ExcBaseFacts B newId initId bmB)(T:OwnTail h bmB bm){mN:MGz}{rest:LWz}{fI:Addr}{oI:Obj}{Q:Fin->Shared->Prop}
  (hC:h.get? C=some (excClassObj nm qn C N bs bm hdct sn sub ab col dd k0 k1 k2 k3 k5 newId)) (hn:h.Ns N mN) (hi:mN "__init__"=some (.ref fI)) (hfI:h.get? fI=some oI) (hfc:oI.cls=.type "function") (hrest:rest.length<=sizeLine)
  (hq:wpAny (model prog w) A (call (.ref fI) (.ref (h.objs.size+1)::rest)) (λ r s'=>r=.none/\Q (.done (.ret (.ref (h.objs.size+1)))) s') E ⟨BI h C rest,g,d,t,os⟩) :
  wpAny (model prog w) A (Builtin.«type.__call__» ⟨.ref C::rest,[]⟩) Q E ⟨h,g,d,t,os⟩:=by
 repeat (first|with_reducible refine wpAny_loadPart_at hC ?_|with_reducible refine wpAny_madeBy_exc hC ?_|wp_step)
 refine codeAny_call_builtin_code (Code.quiet_builtin _ F.quiet) (wpAny_check_new_subT F T hC (codeAny_exc_new_subT F T hC ?_ hrest));show wpAny _ _ _ _ _ ⟨BI h C rest,g,d,t,os⟩;have c1:(BI h C rest).get? C=_:=BB hC;have n1:(BI h C rest).Ns N mN:=let ⟨o,es,ep,e,r⟩:=hn;⟨o,es,ep,BB e,r⟩;have e1:=HP (h:=h) C rest;have T1:OwnTail (BI h C rest) bmB bm:=T.keeps λ_ _ e=>BB e;have cc:(Value.ref C::bm).contains (.ref C)=true:=by simp
 unfold isInstance
 repeat (first|with_reducible refine wpAny_loadPart_at e1 ?_|(with_reducible refine wpAny_isSubtype_exc c1 ?_;rw[cc])|wp_step)
 show wpAny _ _ (typeLookup (.ref C) _) _ _ _;refine wpAny_typeLookup_tail c1 n1 T1 F.mroIs F.init.lookup ?_;rw[hi];refine wpAny_holding (wpAny_bind ?_);unfold bindSpecial;refine wpAny_bind (wpAny_typeOf (T:="function") ⟨_,BB hfI,hfc⟩ ?_);rw[if_pos (by decide)];refine wpAny_pure (wpAny_bind (wpAny_mono hq (λ r s' hr=>?_) λ_ _ x=>x));obtain⟨rfl,hQ⟩:=hr
 wp_walk
 exact hQ
theorem NZ(F:ExcBaseFacts B newId initId bmB)(T:OwnTail h bmB bm){mN:MGz}{rest:LWz}{fI:Addr}{oI:Obj}{Q:VPz}
  (hC:h.get? C=some (excClassObj nm qn C N bs bm hdct sn sub ab col dd k0 k1 k2 k3 k5 newId)) (hn:h.Ns N mN) (hi:mN "__init__"=some (.ref fI)) (hfI:h.get? fI=some oI) (hfc:oI.cls=.type "function") (hrest:rest.length<=sizeLine)
  (hq:wpAny (model prog w) (A.under (.builtin "type.__call__" ⟨.ref C::rest,[]⟩)) (call (.ref fI) (.ref (h.objs.size+1)::rest)) (λ r s'=>r=.none/\Q (.ref (h.objs.size+1)) s') E ⟨BI h C rest,g,d,t,os⟩) :
  wpAny (model prog w) A (call (.ref C) rest) Q E ⟨h,g,d,t,os⟩:=by
 have l1:=tc_lookup;have l2:=tc_bind (.ref C);have ty:(⟨h,g,d,t,os⟩:Shared).TypeIs (.ref C) "type":=⟨_,hC,rfl⟩;refine wpAny_call (codeAny_of_tree ?_);show wpAny _ _ (callAny (.ref C) _) _ _ _
 repeat (any_goals (first|assumption|with_reducible refine wpAny_loadPart_at hC ?_|wp_step))
 exact⟨rfl,codeAny_call_builtin_at (Code.quiet_builtin _ (by decide +kernel)) entry_typeCall (wpAny_check_type_call_sub hC (Ga F T hC hn hi hfI hfc hrest hq))⟩
end
open PySem.Builtin PySem.Builtin.ObjectAttr
def vErr:LWz:=[.type "ValueError",.type "Exception",.type "BaseException",.type "object"]
def Fi:LWz->Bool
 |[]=>false
 |x::r=>(match x with|.ref _=>Fi r|_=>false)||(x::r==vErr)
theorem Gr(self:Value):∀{l:LWz},Fi l=true->refuseLoop self "__setattr__" l=pure ()
 |[],e=>by cases e
 |x::r,e=>by
  unfold Fi at e;rw[dX]at e;rcases e with e|e
  .cases x<;>first|(rw[refuseLoop_ref];exact Gr self e)|cases e
  .rw[show x::r=vErr from beq_iff_eq.mp e];exact PySem.F.store_ValueError.passes self
theorem J0{T:String}(hT:vErr.contains (.type T)=true):∀{l:LWz},Fi l=true->l.contains (.type T)=true
 |[],e=>by cases e
 |x::r,e=>by
  unfold Fi at e;rw[dX]at e;rcases e with e|e
  .cases x<;>first|(rw[c5,J0 hT e,dM])|cases e
  .rw[show x::r=vErr from beq_iff_eq.mp e];exact hT
def excIn(K:Frag)(C:Addr):Bool:=(clsIn K C).any λ cd=>Fi cd.mro
section
variable{prog:Program}{w:World}{A:Around}{E:VPz}{R:Result->Shared->Prop}{s:Shared}{K:Frag}{x C:Addr}{ox:Obj}{od:Option Obj}{name:Str}{tk:Tok}{v:Value}
theorem MD(X:K.In s.heap)(I:InstAt s.heap x ox C od)(hp:excIn K C=true)(ht:findIn K (.ref C) name=some none)
  (h:wpAny (model prog w) A.in1 (storeInOwnDict (.ref x) (.ref C) (.str name tk) name v false)
   (λ fin s'=>match fin with|.done f=>R (.ok f) s'|.again c'=>c'.quiet=true/\codeAny (model prog w) A c' R s') (λ e s'=>R (.error e) s') s) :
  codeAny (model prog w) A (.call (.builtin "object.__setattr__") ⟨[.ref x,.str name tk,v],[]⟩) R s:=by
 have SF:=PySem.F.store_object;obtain⟨cd,hc,ho⟩:=any_some hp;have ne:cd.mro.isEmpty=false:=by cases q:cd.mro with|nil=>rw[q]at ho;cases ho|cons _ _=>rfl
 have tO:Looks (model prog w) s.heap (isInstance (.ref x) (.type "object")) true:=I.type.andThen (looks_mroIn X (by
  unfold mroIn;rw[hc,di,ne];show some (cd.mro.contains (.type "object"))=some true;rw[J0 (by decide +kernel) ho]))
 have tM:Looks (model prog w) s.heap (mroOf (.ref C)) cd.mro:=(looks_clsIn X hc).andThen .now;refine codeAny_call_builtin SF.slot.plain SF.entry (@check_slot (model prog w) _ _ s "object.__setattr__" "object" "__setattr__" (.ref x) [.str name tk,v] [] _ SF.kind SF.split tO (SF.args (.ref x) (.str name tk) v) ?_);rw[osa_eq,refuse_eq];refine wpAny_bind (wpAny_bind (I.type.here (wpAny_bind (tM.here ?_))));rw[Gr _ ho];exact wpAny_pure (wpAny_bind (I.type.here (wpAny_bind ((looks_findIn X ht).here (wpAny_bind (wpAny_pure h))))))
theorem Ow{vs:Array Value}{sl:AOz}{Q:Unit->Shared->Prop}(X:K.In s.heap)(hx:s.heap.get? x=some ⟨.ref C,none,.fields vs,sl⟩)(hs:findIn K (.ref C) "__setattr__"=some (some (.builtin "object.__setattr__")))
  (hp:excIn K C=true) (hh:hasDictIn K C=true) (ht:findIn K (.ref C) name=some none)
  (h:∀h',h'.get? x=some ⟨.ref C,some s.heap.objs.size,.fields vs,sl⟩->h'.Ns1 s.heap.objs.size (λ y=>if y=name then some v else none)->(∀b o,b≠x->s.heap.get? b=some o->h'.get? b=some o)->Q () { s with heap:=h',toks:=s.toks+2 }) :
  wpAny (model prog w) A (setAttr (.ref x) name v) Q E s:=by
 have I:InstAt s.heap x ⟨.ref C,none,.fields vs,sl⟩ C none:=⟨hx,rfl,rfl,trivial⟩;obtain⟨cd,hc,hd'⟩:=any_some hh;have nx:x≠s.heap.objs.size:=aJ (aB hx);refine set_plain X I hs (MD (s:={ s with toks:=s.toks+1 }) X I hp ht ?_);refine wpAny_bind (wpAny_pure (wpAny_bind (wpAny_bind (wpAny_loadPart hx (wpAny_bind (Looks.here (s:={ s with toks:=s.toks+1 }) (looks_clsIn X hc) ?_))))));rw[hd'];refine wpAny_bind (wpAny_alloc (wpAny_bind (wpAny_update (af _ hx) (wpAny_pure ?_))));generalize hH:(s.heap.push { cls:=.type "dict",data:=.dict #[] }).update x (λ o=>{ o with dict:=some s.heap.objs.size })=H1;have hx1:H1.get? x=some ⟨.ref C,some s.heap.objs.size,.fields vs,sl⟩:=by
  rw[<-hH];exact bD _ (af _ hx) rfl
 have hd1:H1.get? s.heap.objs.size=some { cls:=.type "dict",data:=.dict #[] }:=by
  rw[<-hH,cV _ _ _ _ (Ne.symm nx)];exact aH _ rfl
 have hk1:∀b o,b≠x->s.heap.get? b=some o->H1.get? b=some o:=λ b o hb e=>by
  rw[<-hH,cV _ _ _ _ hb];exact af _ e
 have hn1:H1.Ns1 s.heap.objs.size (λ_=>none):=Heap.Ns1.of_empty ⟨_,#[],_,hd1,rfl,λ e he=>absurd he (by simp),λ_=>rfl⟩;refine wpAny_bind (wpAny_pure (wpAny_bind (wpAny_nsSet1 (s:={ s with heap:=H1,toks:=s.toks+1 }) hn1 λ h' hn2 hs2=>?_)));obtain⟨oD,esD,epD,hoD,hdD,hcD⟩:=hn2.count (Within.cons name v Within.nil);refine wpAny_bind (wpAny_lookBehind hoD (by rw[hdD];exact pastItsLine_dict (aS hcD (by rw[aD,bO,sizeLine_eq];lia))) ?_);exact wpAny_pure (h _ ((hs2.2 _ nx).trans hx1) hn2 λ b o hb e=>(hs2.2 _ (aJ (aB e))).trans (hk1 b o hb e))
theorem PK{vs:Array Value}{sl:AOz}{dx:Addr}{mA:MGz}{ns:LSz}{Q:Unit->Shared->Prop}(X:K.In s.heap)(hx:s.heap.get? x=some ⟨.ref C,some dx,.fields vs,sl⟩)(hn:s.heap.Ns1 dx mA)(hne:dx≠x)
  (hs:findIn K (.ref C) "__setattr__"=some (some (.builtin "object.__setattr__"))) (hp:excIn K C=true) (hh:hasDictIn K C=true) (ht:findIn K (.ref C) name=some none) (hw:PySem.Within mA ns) (hsz:ns.length<=sizeLine)
  (h:∀h',h'.get? x=some ⟨.ref C,some dx,.fields vs,sl⟩->h'.Ns1 dx (λ y=>if y=name then some v else mA y)->Heap.SameBut dx s.heap h'->Q () { s with heap:=h',toks:=s.toks+2 }) :
  wpAny (model prog w) A (setAttr (.ref x) name v) Q E s:=by
 obtain⟨od,ho⟩:∃o,s.heap.get? dx=some o:=let ⟨o,_,_,e,_⟩:=hn;⟨o,e⟩;have I:InstAt s.heap x ⟨.ref C,some dx,.fields vs,sl⟩ C (some od):=⟨hx,rfl,rfl,ho⟩;obtain⟨cd,hc,hd'⟩:=any_some hh;refine set_plain X I hs (MD (s:={ s with toks:=s.toks+1 }) X I hp ht ?_);refine wpAny_bind (wpAny_pure (wpAny_bind (wpAny_bind (wpAny_loadPart hx (wpAny_bind (Looks.here (s:={ s with toks:=s.toks+1 }) (looks_clsIn X hc) ?_))))));rw[hd'];refine wpAny_pure (a:=some dx) (wpAny_bind (wpAny_pure (wpAny_bind (wpAny_nsSet1 (s:={ s with toks:=s.toks+1 }) hn λ h' hn2 hs2=>?_))));obtain⟨oD,esD,epD,hoD,hdD,hcD⟩:=hn2.count (Within.cons name v hw);refine wpAny_bind (wpAny_lookBehind hoD (by rw[hdD];exact pastItsLine_dict (aS hcD (by rw[aD];lia))) ?_);exact wpAny_pure (h _ ((hs2.2 _ (Ne.symm hne)).trans hx) hn2 hs2)
end
section
variable{prog:Program}{w:World}{A:Around}{E:VPz}{R:Result->Shared->Prop}{s:Shared}{K:Frag}{x C:Addr}{ox:Obj}{od:Option Obj}{name:Str}{tk:Tok}{v:Value}{expr:Bool}
theorem Qx(X:K.In s.heap)(I:InstAt s.heap x ox C od)(hp:L2.excIn K C=true)
  (h:wpAny (model prog w) A.in1 (Builtin.«object.__getattribute__» ⟨[.ref x,.str name tk],[]⟩)
   (λ fin s'=>match fin with|.done f=>R (.ok f) s'|.again c'=>c'.quiet=true/\codeAny (model prog w) A c' R s') (λ e s'=>R (.error e) s') s) :
  codeAny (model prog w) A (.call (.builtin "BaseException.__getattribute__") ⟨[.ref x,.str name tk],[]⟩) R s:=by
 obtain⟨cd,hc,ho⟩:=any_some hp;have ne:cd.mro.isEmpty=false:=by cases q:cd.mro with|nil=>rw[q]at ho;cases ho|cons _ _=>rfl
 have tB:Looks (model prog w) s.heap (isInstance (.ref x) (.type "BaseException")) true:=I.type.andThen (looks_mroIn X (by
  unfold mroIn;rw[hc,di,ne];show some (cd.mro.contains (.type "BaseException"))=some true;rw[J0 (by decide +kernel) ho]))
 exact codeAny_call_builtin dP.ga.plain PySem.F.entry_bexc_ga (@check_slot (model prog w) _ _ s "BaseException.__getattribute__" "BaseException" "__getattribute__" (.ref x) [.str name tk] [] _ (by decide +kernel) (by decide +kernel) tB (PySem.F.args_bexc_ga (.ref x) (.str name tk)) h)
theorem QU(X:K.In s.heap)(I:InstAt s.heap x ox C od)(hp:L2.excIn K C=true)(hga:findIn K (.ref C) "__getattribute__"=some (some (.builtin "BaseException.__getattribute__")))(hk:findIn K (.ref C) "__getattr__"=some none){fill:Bool}{Q:VPz}
  (h:wpAny (model prog w) A.in1 (Builtin.«object.__getattribute__» ⟨[.ref x,.str name tk],[]⟩)
   (λ fin s'=>match fin with|.done (.ret v)=>wpAny (model prog w) A (handedOut v) Q E s'|_=>False) (λ_ _=>False) s) :
  wpAny (model prog w) A (getAttrBy (.ref x) (.str name tk) fill expr) Q E s:=by
 have L0:=I.type (M:=model prog w);have L1:=looks_findIn (M:=model prog w) X hga;have L2:=looks_findIn (M:=model prog w) X hk;unfold getAttrBy;refine wpAny_holding (wpAny_bind (L0.here (wpAny_bind (L1.here ?_))));show wpAny _ _ (getAttrByItsOwn (.ref x) (.str name tk) (.ref C) (.builtin "BaseException.__getattribute__") fill expr) _ _ _;unfold getAttrByItsOwn hookBefore callGetattribute boundAndCalled;refine wpAny_bind (L2.here ?_);refine wpAny_bind (wpAny_attempt (wpAny_holding ?_));rw[show(expr&&onTheHeap (Value.builtin "BaseException.__getattribute__"))=false from by cases expr<;>rfl,if_neg au];refine wpAny_bind (wpAny_of_eq (dP.ga.bind _) ?_);refine wpAny_call (Qx X I hp (wpAny_mono h (λ fin s' z=>?_) λ_ _ z=>z.elim));rcases fin with (_|_|_|_)|_<;>first|exact z.elim|exact z
theorem Qw{Q:VPz}(X:K.In s.heap)(I:InstAt s.heap x ox C od)(hp:L2.excIn K C=true)(hga:findIn K (.ref C) "__getattribute__"=some (some (.builtin "BaseException.__getattribute__")))(hk:findIn K (.ref C) "__getattr__"=some none)
  (hf:findObj K C od name=some (.value v)) (hh:handedIn v=true) (h:Q v { s with toks:=s.toks+1 }):wpAny (model prog w) A (getAttr (.ref x) name expr) Q E s:=by
 unfold getAttr;refine wpAny_bind (wpAny_mkText (QU (s:={ s with toks:=s.toks+1 }) X I hp hga hk ?_));have L0:=I.type (M:=model prog w);have L1:=looks_find (M:=model prog w) X I hf;refine wpAny_bind (wpAny_of_eq (show slotArgs "__getattribute__" 1 ⟨[.ref x,.str name s.toks],[]⟩=pure (.ref x,[.str name s.toks]) from rfl) ?_);refine wpAny_bind (wpAny_pure (wpAny_bind (Looks.here (s:={ s with toks:=s.toks+1 }) L0 (wpAny_bind (Looks.here (s:={ s with toks:=s.toks+1 }) L1 ?_)))));refine wpAny_pure ?_;show wpAny _ _ (handedOut v) _ _ _;rw[handedOut_of hh];exact wpAny_pure h
theorem NW{Q:Option Value->Shared->Prop}(X:K.In s.heap)(I:InstAt s.heap x ox C od)(hp:L2.excIn K C=true)(hga:findIn K (.ref C) "__getattribute__"=some (some (.builtin "BaseException.__getattribute__")))(hk:findIn K (.ref C) "__getattr__"=some none)
  (hf:findObj K C od "__class__"=some (.bind (.builtin "getset_descriptor.__get__") (.builtin "object.__class__"))) (hm:mroIn K C (.type "object")=some true) (h:Q (some (.ref C)) { s with toks:=s.toks+1 }):wpAny (model prog w) A (getAttr? (.ref x) "__class__") Q E s:=by
 unfold getAttr? getAttrBy?;refine wpAny_bind (wpAny_mkText (wpAny_bind (wpAny_attempt (QU (s:={ s with toks:=s.toks+1 }) X I hp hga hk ?_))));have L0:=I.type (M:=model prog w);have L1:=looks_find (M:=model prog w) X I hf;refine wpAny_bind (wpAny_of_eq (show slotArgs "__getattribute__" 1 ⟨[.ref x,.str "__class__" s.toks],[]⟩=pure (.ref x,[.str "__class__" s.toks]) from rfl) ?_);refine wpAny_bind (wpAny_pure (wpAny_bind (Looks.here (s:={ s with toks:=s.toks+1 }) L0 (wpAny_bind (Looks.here (s:={ s with toks:=s.toks+1 }) L1 ?_)))));show wpAny _ _ (holding [.builtin "object.__class__"] (call (.builtin "getset_descriptor.__get__") [.builtin "object.__class__",.ref x,.ref C]) >>= ret) _ _ _;refine wpAny_bind (wpAny_holding (wpAny_call (class_get (s:={ s with toks:=s.toks+1 }) (ox:=ox) (od:=od) X I hm ?_)));exact wpAny_pure (handed_on rfl (wpAny_pure h))
end
def FG(C x:Addr):HO:=.ext λ h=>∃vs sl,h.get? x=some ⟨.ref C,none,.fields vs,sl⟩/\vs[1]?=some Value.none
def Cn(C dx x:Addr):HO:=.ext λ h=>∃vs sl,h.get? x=some ⟨.ref C,some dx,.fields vs,sl⟩/\vs[1]?=some Value.none
def Fl(C:Addr)(d:Option Addr)(x T:Addr):HO:=.ext λ h=>∃vs sl,h.get? x=some ⟨.ref C,d,.fields vs,sl⟩/\vs[1]?=some (.ref T)
def BG(dx:Addr)(fs:LFz):HO:=.ext λ h=>∃mA,h.Ns1 dx mA/\(∀f,RelO (fs.lookup f) (mA f))/\PySem.Within mA (fs.map (·.1))
section
variable{P:Program}{w:World}{H:Hp}{h:Heap}{x C dx:Addr}{fs:LFz}
theorem Q5{vs:Array Value}{sl:AOz}(e:h.get? x=some ⟨.ref C,none,.fields vs,sl⟩)(f:vs[1]?=some Value.none):ObjOk P w H h x (FG C x) :=
 ⟨⟨vs,sl,e,f⟩,⟨_,e⟩,λ_ _ ⟨vs,sl,e,f⟩ k=>⟨vs,sl,k _ e,f⟩⟩
theorem Q4{vs:Array Value}{sl:AOz}(e:h.get? x=some ⟨.ref C,some dx,.fields vs,sl⟩)(f:vs[1]?=some Value.none):ObjOk P w H h x (Cn C dx x) :=
 ⟨⟨vs,sl,e,f⟩,⟨_,e⟩,λ_ _ ⟨vs,sl,e,f⟩ k=>⟨vs,sl,k _ e,f⟩⟩
theorem Q3{d:Option Addr}{T:Addr}{vs:Array Value}{sl:AOz}(e:h.get? x=some ⟨.ref C,d,.fields vs,sl⟩)(f:vs[1]?=some (.ref T)):ObjOk P w H h x (Fl C d x T) :=
 ⟨⟨vs,sl,e,f⟩,⟨_,e⟩,λ_ _ ⟨vs,sl,e,f⟩ k=>⟨vs,sl,k _ e,f⟩⟩
theorem MT{mA:MGz}(n:h.Ns1 dx mA)(r:∀f,RelO (fs.lookup f) (mA f))(wi:PySem.Within mA (fs.map (·.1))):ObjOk P w H h dx (BG dx fs) :=
 ⟨⟨mA,n,r,wi⟩,let ⟨o,_,_,e,_⟩:=n;⟨o,e⟩,λ_ _ ⟨mA,n,r,wi⟩ k=>⟨mA,n.at k,r,wi⟩⟩
end
structure XCls(K:Frag)(C:Addr):Prop where
 ga:findIn K (.ref C) "__getattribute__"=some (some (.builtin "BaseException.__getattribute__"))
 gh:findIn K (.ref C) "__getattr__"=some none
 hd:hasDictIn K C=true
 sa:findIn K (.ref C) "__setattr__"=some (some (.builtin "object.__setattr__"))
 ex:L2.excIn K C=true
 ca:findIn K (.ref C) "__class__"=some (some (.builtin "object.__class__"))
 gn:specialIn K (.builtin "object.__class__") "__get__"=some (some (.builtin "getset_descriptor.__get__"))
 tk:takesIn K (.builtin "object.__class__")=some true
 mo:mroIn K C (.type "object")=some true
def FW(K:Frag)(C:Addr):Bool:=(findIn K (.ref C) "__getattribute__"==some (some (.builtin "BaseException.__getattribute__")))&&(findIn K (.ref C) "__getattr__"==some none)&&hasDictIn K C&&(findIn K (.ref C) "__setattr__"==some (some (.builtin "object.__setattr__")))&&L2.excIn K C &&
 (findIn K (.ref C) "__class__"==some (some (.builtin "object.__class__")))&&(specialIn K (.builtin "object.__class__") "__get__"==some (some (.builtin "getset_descriptor.__get__"))) &&
 (takesIn K (.builtin "object.__class__")==some true)&&(mroIn K C (.type "object")==some true)
theorem XCls.of{K:Frag}{C:Addr}(h:FW K C=true):XCls K C:=by
 unfold FW at h;simp only[aP,beq_iff_eq]at h;obtain⟨⟨⟨⟨⟨⟨⟨⟨a,a'⟩,b⟩,c⟩,d⟩,e⟩,f⟩,g⟩,i⟩:=h;exact⟨a,a',b,c,d,e,f,g,i⟩
section
variable{X:Cx}{pins:PNz}{σ:St}{H:Hp}{s:Shared}{a C dx:Addr}{fs:LFz}{f:Str}{v:V}{A:Around}{E:VPz}
theorem GW{φ:Heap->Prop}{b c:Addr}(h:H b=some (.ext φ)):H b≠some (.own c):=λ e=>by rw[h]at e;cases e
theorem Ls{y:V}{u:Value}{Q:Unit->Shared->Prop}(I:Inv X pins σ H s)(e:H a=some (FG C a))(c:XCls X.K C)(n:NoAttr X.K C f)(ry:RelV y u)
  (h:∀s' d,H d=none->Inv X pins σ (upd (upd H d (BG d [(f,y)])) a (Cn C d a)) s'->Q () s'):wpAny (model X.prog X.w) A (setAttr (.ref a) f u) Q E s:=by
 obtain⟨⟨vs,sl,hx,hv1⟩,_⟩:=(show ObjOk X.prog X.w H s.heap a (FG C a) from I.hok a _ e);refine Ow I.kIn hx c.sa c.ex c.hd n λ h' h1 h2 k=>?_;have hn:H s.heap.objs.size=none:=I.hok.fresh (aj _);have nea:s.heap.objs.size≠a:=Ne.symm (Ah e hn);refine h _ s.heap.objs.size hn ?_;have e':∀b o,H b=some o->b≠s.heap.objs.size:=λ b o q=>Ah q hn;have lt:∀b o,s.heap.get? b=some o->b≠s.heap.objs.size:=λ b o q=>aJ (aB q);have na:∀b o,H b=some o->(∀φ,o≠.ext φ)->b≠a:=λ b o q z t=>by subst t;rw[e]at q;cases q;exact z _ rfl
 refine I.un (h':=h') (t':=s.toks+2) ⟨λ b o q m _ _=>k b o (λ z=>by rw[z,e]at m;cases m) q,λ b o q m _ _=>⟨o.slots,k b o (λ z=>by rw[z,e]at m;cases m) q⟩,
  λ b o q m _=>by rw[Af (λ z=>by rw[z,e]at m;cases m),Af (lt b o q)];exact m,λ b o q _=>?_,λ b xs q=>by rw[Af (na b _ q (λ φ z=>by cases z)),Af (e' b _ q)];exact q,
  λ b o u q=>by rw[Af (na b _ q (λ φ z=>by cases z)),Af (e' b _ q)];exact q,λ b ps q=>⟨#[],by rw[Af (na b _ q (λ φ z=>by cases z)),Af (e' b _ q),q];simp⟩⟩ λ b o q=>?_
 .by_cases hb:b=a
  .subst hb;exact⟨_,h1⟩
  .exact⟨o,k b o hb q⟩
 .by_cases hb:b=a
  .subst hb;rw[upd_same]at q;cases q;exact Q4 h1 hv1
  .rw[Af hb]at q;by_cases hd:b=s.heap.objs.size
   .subst hd;rw[upd_same]at q;cases q;refine MT h2 (λ g=>?_) λ g hg=>?_
    .show RelO (List.lookup g [(f,y)]) (if g=f then some u else none);by_cases q:g=f
     .have hb:(g==f)=true:=beq_iff_eq.mpr q;rw[if_pos q];simp only[List.lookup,hb];exact ry
     .have hb:(g==f)=false:=beq_eq_false_iff_ne.mpr q;rw[if_neg q];simp only[List.lookup,hb];exact True.intro
    .by_cases q:g=f
     .rw[q];simp
     .exact absurd (if_neg q) hg
   .rw[Af hd]at q;refine(I.hok b o q).stay (λ cc w' hc z=>k cc w' ?_ z) (λ cc z=>?_) λ cc xs z=>?_
    .rcases hc with rfl|hc
     .exact hb
     .exact λ t=>GW e (t ▸ hc)
    .rw[Af (λ t=>GW e (t ▸ z)),Af (e' cc _ z)];exact z
    .rw[Af (na cc _ z (λ φ t=>by cases t)),Af (e' cc _ z)];exact z
theorem Ny{y:V}{u:Value}{Q:Unit->Shared->Prop}(I:Inv X pins σ H s)(e:H a=some (Cn C dx a))(ed:H dx=some (BG dx fs))(c:XCls X.K C)(n:NoAttr X.K C f)(hl:fs.length<1000)(ry:RelV y u)
  (h:∀s',Inv X pins σ (upd H dx (BG dx (Bh f y fs))) s'->Q () s'):wpAny (model X.prog X.w) A (setAttr (.ref a) f u) Q E s:=by
 obtain⟨⟨vs,sl,hx,_⟩,_⟩:=(show ObjOk X.prog X.w H s.heap a (Cn C dx a) from I.hok a _ e);obtain⟨⟨mA,hn,r,wi⟩,_⟩:=(show ObjOk X.prog X.w H s.heap dx (BG dx fs) from I.hok dx _ ed);have hne:dx≠a:=λ z=>by
  subst z;obtain⟨o,es,ep,ho,hd,_⟩:=hn;rw[hx]at ho;cases ho;cases hd
 have hz:(fs.map (·.1)).length<=sizeLine:=by rw[ae,sizeLine_eq];lia
 refine PK I.kIn hx hn hne c.sa c.ex c.hd n wi hz λ h' h1 h2 sb=>h _ ?_;have hd:∃o,h'.get? dx=some o:=let ⟨o,_,_,e',_⟩:=h2;⟨o,e'⟩;refine I.write (x:=dx) (e:=dx) (t':=s.toks+2) (by rw[ed];exact True.intro) (.inl rfl) (λ b q hb z=>(sb.2 b hb).trans z) hd (MT h2 (λ g=>?_) λ g hg=>?_)
 .show RelO ((Bh f y fs).lookup g) (if g=f then some u else mA g);rw[AQ];by_cases q:g=f
  .rw[if_pos q,if_pos q];exact ry
  .rw[if_neg q,if_neg q];exact r g
 .by_cases q:g=f
  .rw[q];exact(C8 f y fs).1
  .refine(C8 f y fs).2 g (wi g λ z=>hg ?_);show(if g=f then some u else mA g)=none;rw[if_neg q];exact z
def XAt(H:Hp)(C dx a:Addr):Prop:=H a=some (Cn C dx a)\/∃T,H a=some (Fl C (some dx) a T)
theorem XAt.same{H':Hp}(h:XAt H C dx a)(s:Same H H'):XAt H' C dx a:=h.imp (λ z=>s _ _ z) λ⟨T,z⟩=>⟨T,s _ _ z⟩
theorem XAt.obj(I:Inv X pins σ H s)(h:XAt H C dx a):∃vs sl,s.heap.get? a=some ⟨.ref C,some dx,.fields vs,sl⟩:=by
 rcases h with h|⟨T,h⟩
 .obtain⟨⟨vs,sl,hx,_⟩,_⟩:=(show ObjOk X.prog X.w H s.heap a (Cn C dx a) from I.hok a _ h);exact⟨vs,sl,hx⟩
 .obtain⟨⟨vs,sl,hx,_⟩,_⟩:=(show ObjOk X.prog X.w H s.heap a (Fl C (some dx) a T) from I.hok a _ h);exact⟨vs,sl,hx⟩
theorem NM{b:Bool}{Q:VPz}(I:Inv X pins σ H s)(e:XAt H C dx a)(ed:H dx=some (BG dx fs))(c:XCls X.K C)(n:NoAttr X.K C f)(l:fs.lookup f=some v)
  (h:∀u s',Inv X pins σ H s'->RelV v u->Q u s'):wpAny (model X.prog X.w) A (getAttr (.ref a) f b) Q E s:=by
 obtain⟨vs,sl,hx⟩:=e.obj I;obtain⟨⟨mA,hn,r,wi⟩,_⟩:=(show ObjOk X.prog X.w H s.heap dx (BG dx fs) from I.hok dx _ ed);obtain⟨u,hu,ru⟩:=RelO.some_of (v:=v) (o:=mA f) (by rw[<-l];exact r f);obtain⟨od,ho,hl⟩:=Ic hn;have J:InstAt s.heap a ⟨.ref C,some dx,.fields vs,sl⟩ C (some od):=⟨hx,rfl,rfl,ho⟩;exact Qw I.kIn J c.ex c.ga c.gh (findObj_own c.hd n rfl (by rw[hl,hu])) (Ij ru) (h u _ (I.tok _) ru)
end
theorem K3{K:Frag}{x D:Addr}(c:XCls K D):KitX K (.ref x) (.ref D) (λ h=>∃(ox:Obj)(od:Option Obj),InstAt h x ox D od) where
 ty:=λ_ _ _ ⟨_,_,I⟩=>I.type
 it:=λ_ _ X _=>by
  obtain⟨cdD,hcD,_⟩:=any_some c.hd;unfold clsIn at hcD;split at hcD
  .rename_i c' d' cd' sl' ho;intro A' Q' E' s' k q;unfold isType loadHead;exact wpAny_bind (wpAny_loadPart (k _ _ (X _ _ ho)) (wpAny_pure q))
  .cases hcD
 ne:=λ h tp dd its n sl X htp=>by
  obtain⟨cdD,hcD,_⟩:=any_some c.hd;refine Bool.eq_false_iff.mpr λ q=>?_;have e:D=tp:=Value.ref.inj (beq_iff_eq.mp q);subst e;unfold clsIn at hcD;split at hcD
  .rename_i c' d' cd' sl' ho;have z:=(X _ _ ho).symm.trans htp;cases z
  .cases hcD
 ca:=λ{prog w A E Q s} X ⟨ox,od,I⟩ h=>by
  have hf:findObj K D od "__class__"=some (.bind (.builtin "getset_descriptor.__get__") (.builtin "object.__class__")):=by
   obtain⟨cd,hc,_⟩:=any_some c.hd;unfold findObj;rw[hc,di,c.ca,di];simp[c.gn,c.tk]
  exact NW X I c.ex c.ga c.gh hf c.mo h
def IsExc(H:Hp)(a C:Addr):Prop:=(∃dx fs,XAt H C dx a/\H dx=some (BG dx fs))\/H a=some (FG C a)\/∃T,H a=some (Fl C none a T)
theorem IsExc.same{H H':Hp}{a C:Addr}(h:IsExc H a C)(s:Same H H'):IsExc H' a C:=by
 rcases h with ⟨dx,fs,h1,h2⟩|h|⟨T,h⟩
 .exact .inl ⟨dx,fs,h1.same s,s _ _ h2⟩
 .exact .inr (.inl (s _ _ h))
 .exact .inr (.inr ⟨T,s _ _ h⟩)
section
variable{X:Cx}
theorem GM{pins:PNz}{σ:St}{H:Hp}{s:Shared}{a C:Addr}(I:Inv X pins σ H s)(h:IsExc H a C):∃(ox:Obj)(od:Option Obj),InstAt s.heap a ox C od:=by
 rcases h with ⟨dx,fs,h1,h2⟩|h|⟨T,h⟩
 .obtain⟨vs,sl,hx⟩:=h1.obj I;obtain⟨⟨mA,hn,_⟩,_⟩:=(show ObjOk X.prog X.w H s.heap dx (BG dx fs) from I.hok dx _ h2);obtain⟨o,_,_,ho,_⟩:=hn;exact⟨_,some o,⟨hx,rfl,rfl,ho⟩⟩
 .obtain⟨⟨vs,sl,hx,_⟩,_⟩:=(show ObjOk X.prog X.w H s.heap a (FG C a) from I.hok a _ h);exact⟨_,none,⟨hx,rfl,rfl,trivial⟩⟩
 .obtain⟨⟨vs,sl,hx,_⟩,_⟩:=(show ObjOk X.prog X.w H s.heap a (Fl C none a T) from I.hok a _ h);exact⟨_,none,⟨hx,rfl,rfl,trivial⟩⟩
theorem Mm:CV X (.builtin "isinstance") (λ xs H Q=>∃a C c u b,xs=[.ref a,c]/\IsExc H a C/\XCls X.K C/\RelV c u/\(∀u',RelV c u'->u'=u)/\kitOne X.K (.ref C) u=some b/\Q (.bl b) H):=by
 intro pins s σ H xs us Q I r h;obtain⟨a,C,c,u,b,rfl,he,hc,ru,uq,hk,q⟩:=h;obtain⟨v1,v2,rfl,r1,r2⟩:=Of r;cases r1;have:=uq v2 r2;subst this;exact kia_one (K3 hc) I.kIn (GM I he) hk (λ z=>nomatch z) λ tk=>⟨.bl b,H,I.tok tk,rfl,q⟩
end
def QJ(K:Frag)(ta:TE)(f:Str):TE:=λ σ H Q=>ta σ H λ x H1=>∃a C dx fs v,x=.ref a/\XAt H1 C dx a/\H1 dx=some (BG dx fs)/\XCls K C/\NoAttr K C f/\fs.lookup f=some v/\Q v H1
def Sx(K:Frag)(ta tv:TE)(f:Str):TS:=λ D σ H=>tv σ H λ y H1=>ta σ H1 λ x H2=>∃a C,x=.ref a/\XCls K C/\NoAttr K C f /\
 ((H2 a=some (FG C a)/\∀d,H2 d=none->D.nx σ (upd (upd H2 d (BG d [(f,y)])) a (Cn C d a)))\/∃dx fs,H2 a=some (Cn C dx a)/\H2 dx=some (BG dx fs)/\fs.length<1000/\D.nx σ (upd H2 dx (BG dx (Bh f y fs))))
section
variable{X:Cx}{o e value:Expr}{f:Str}{pos pos':Pos}{ta tv:TE}
theorem PY(he:PE X e ta)(hb:attributeBase e f X.env (eval e X.env)=eval e X.env):PE X (.Attribute e f pos) (QJ X.K ta f):=by
 intro pins s σ H Q I h;refine Nf hb (thn (he pins s σ H _ I h) λ u s1 hz_=>?_);obtain⟨x,H1,I1,rx,a,C,dx,fs,v,ex,ea,ed,c,n,l,q⟩:=hz_;subst ex;obtain rfl:u=Value.ref a:=rx;exact NM I1 ea ed c n l λ u' s2 I2 ru=>⟨v,H1,I2,ru,q⟩
theorem Ez(ha:PE X o ta)(hv:PE X value tv)(hs:swapsWith value (some (.Attribute o f pos')) pos.line X.env=pure false):PS X (.Assign [.Attribute o f pos'] value pos) (Sx X.K ta tv f):=by
 intro pins s σ H D I h;refine plainObj_wpAny_Assign_Attribute (thn (hv pins s σ H _ I h) λ u s1 hz_=>?_) hs;obtain⟨y,H1,I1,ry,q⟩:=hz_;refine thn (ha pins s1 σ H1 _ I1 q) λ ov s2 hz_=>?_;obtain⟨x,H2,I2,rx,a,C,ex,c,n,q2⟩:=hz_;subst ex;obtain rfl:ov=Value.ref a:=rx;rcases q2 with ⟨e0,q2⟩|⟨dx,fs,e1,e2,l,q2⟩
 .exact Ls I2 e0 c n ry λ s3 d hd I3=>⟨σ,_,I3,q2 d hd⟩
 .exact Ny I2 e1 e2 c n l ry λ s3 I3=>⟨σ,_,I3,q2⟩
end
def Ce(K:Frag)(C:Addr)(fI:Addr):Bool:=match K.lookup C with
 |some ⟨.type "type",_,.cls cd,sl⟩=>(match cd.mro,sl.toList with
  |.ref C'::bm,[_,_,_,_,some (.builtin n),_]=>C'==C&&n=="ValueError.__new__"&&!cd.hasDel&&tailIn K vErr bm&&nsOkIn K cd.ns&&nsIn K cd.ns "__init__"==some (some (.ref fI))
  |_,_=>false)
 |_=>false
theorem LF{K:Frag}{h:Heap}{N:Addr}{mg:MGz}{n:Str}{v:Value}(X:K.In h)(G:h.Ns N mg)(e:nsIn K N n=some (some v)):mg n=some v:=by
 obtain⟨o,es,ep,ho,hd,_,hf⟩:=G;unfold nsIn at e;split at e
 .rename_i c d es' n' sl q;have:=X _ _ q;rw[ho]at this;cases this;cases hd;split at e
  .rename_i e' he;cases e;rw[<-hf];unfold nsFind findBy;rw[<-Array.find?_toList,he];rfl
  .split at e<;>cases e
 .cases e
structure XMk(K:Frag)(C fI:Addr):Prop where
 cl:XCls K C
 ei:Ce K C fI=true
 kp:keepIn K (.ref C)=true
 fn:isFn K (.ref fI)=true
theorem XMk.call{K:Frag}{C fI:Addr}(M:XMk K C fI){prog:Program}{w:World}{A:Around}{E:VPz}{s:Shared}{rest:LWz}{Q:VPz}(X:K.In s.heap)(hrest:rest.length<=sizeLine)
  (hq:wpAny (model prog w) (A.under (.builtin "type.__call__" ⟨.ref C::rest,[]⟩)) (call (.ref fI) (.ref (s.heap.objs.size+1)::rest)) (λ r s'=>r=.none/\Q (.ref (s.heap.objs.size+1)) s') E { s with heap:=BI s.heap C rest }) :
  wpAny (model prog w) A (call (.ref C) rest) Q E s:=by
 obtain⟨hh,g,d,t,os⟩:=s;have q:=M.ei;have fnt:typeIn K (.ref fI)=some (.type "function"):=beq_iff_eq.mp M.fn;have hfI:∃oI:Obj,hh.get? fI=some oI/\oI.cls=.type "function":=by
  cases z:K.lookup fI with
  |none=>simp[typeIn,z]at fnt
  |some o=>exact⟨o,X _ _ z,by simpa [typeIn,z] using fnt⟩
 obtain⟨oI,hoI,hcI⟩:=hfI;unfold Ce at q;split at q
 .rename_i dd cd sl ho;split at q
  .rename_i C' bm k0 k1 k2 k3 n k5 hm hs;simp only[aP,beq_iff_eq,dh]at q;obtain⟨⟨⟨⟨⟨rfl,rfl⟩,hdel⟩,ht⟩,hok⟩,hni⟩:=q;obtain⟨nm,bs,mro,ns,qn,hd,sn,sub,ab,col,del⟩:=cd;dsimp only at hm hdel hok hni;subst hm hdel;have hsl:sl=#[k0,k1,k2,k3,some (.builtin "ValueError.__new__"),k5]:=by
    obtain⟨l⟩:=sl;simp only at hs;rw[hs]
   subst hsl;have G:hh.Ns ns (hh.nsMap ns):=.of_isNs (isNs_of_in X hok);exact NZ PySem.F.excBase_ValueError (tail_of_in X ht) (X _ _ ho) G (LF X G hni) hoI hcI hrest hq
  .cases q
 .cases q
theorem ObjOk.there{P:Program}{w:World}{H:Hp}{h:Heap}{a:Addr}{o:HO}(x:ObjOk P w H h a o):∃u,h.get? a=some u:=by
 cases o with
 |lst xs=>obtain⟨_,_,_,_,e⟩:=x;exact⟨_,e⟩
 |tup xs=>obtain⟨_,_,_,p⟩:=x;obtain⟨_,e,_⟩:=p;exact⟨_,e⟩
 |dK kvs=>obtain⟨_,_,_,_,o,_,_,e,_⟩:=x;exact⟨_,e⟩
 |dT kvs=>obtain⟨_,_,_,_,o,_,_,e,_⟩:=x;exact⟨_,e⟩
 |set S n=>obtain⟨o,_,_,_,e,_⟩:=x;exact⟨_,e⟩
 |ins C dx fs=>obtain⟨_,_,_,e,_⟩:=x;exact⟨_,e⟩
 |own y=>obtain⟨_,e⟩:=x;exact⟨_,e⟩
 |xd fs=>obtain⟨_,⟨_,_,_,e,_⟩,_⟩:=x;exact⟨_,e⟩
 |rng lo hi=>obtain⟨_,_,_,e⟩:=x;exact⟨_,e⟩
 |frz ob u=>obtain⟨e,_⟩:=x;exact⟨_,e⟩
 |tbl ps=>exact⟨_,(show h.get? a=some _ from x)⟩
 |met f y=>exact⟨_,(show h.get? a=some _ from x)⟩
 |ext φ=>obtain⟨_,⟨_,e⟩,_⟩:=x;exact⟨_,e⟩
def Nv(C:Addr)(names:LSz):Sp:=λ vs H Q _=>∃x ws,vs=.ref x::ws/\ws.length=names.length/\H x=some (FG C x) /\
 ∀d H',H d=none->H' x=some (Cn C d x)->H' d=some (BG d (names.zip ws))->(∀a o,a≠x->H a=some o->H' a=some o)->Q .non H'
structure Hd(P:Program)(w:World)(K:Frag)(mg:MGz)(base:Heap)(k:Nat)(x:Str)(C:Addr)(ps names:LSz):Prop where
 few:names.length<=1000
 ex:∃(f:Addr)(fd:FuncData),XMk K C f/\A3 P w K mg base CX0 k f fd ps (Nv C names)/\mg x=some (.ref C)/\Binds K fd ps []
section
variable{X:Cx}{CX:CXT}{k j:Nat}{f C:Addr}{fd:FuncData}{ps names:LSz}{sp:Sp}{E:XK}{x m:Str}{p pos apos:Pos}{e o:Expr}{es:List Expr}{ta:TE}{t:TA}
theorem PM{pins:PNz}{σ:St}{H:Hp}{s:Shared}{Q:VK}{us:LWz}{vs:LUz}(M:XMk X.K C f)(F:A3 X.prog X.w X.K X.mg X.base CX k f fd ps sp)(hr:Room (k+1) X.A)(hb:Binds X.K fd ps [])
  (hx:B7 CX X E) (I:Inv X pins σ H s) (r:Vals vs us) (hz:vs.length<=1000)
  (h:∀x,H x=none->sp (.ref x::vs) (upd H x (FG C x)) (λ v H2=>v=.non/\Q (.ref x) H2) E) :
  wpAny (model X.prog X.w) X.A (call (.ref C) us) (EP X pins σ Q) X.xe s:=by
 have hq:=h (s.heap.objs.size+1) (I.hok.fresh (bH _));have hus:us.length<=sizeLine:=by rw[<-r.length,sizeLine_eq];lia
 have I2:Inv X pins σ (upd H (s.heap.objs.size+1) (FG C (s.heap.objs.size+1))) { s with heap:=BI s.heap C us } :=
  I.laid (t':=s.toks) (λ b u z=>BB z) (bH _) (Q5 (HP C us) rfl)
 have r2:Vals (V.ref (s.heap.objs.size+1)::vs) (Value.ref (s.heap.objs.size+1)::us):=.cons rfl r;have hl:(Value.ref (s.heap.objs.size+1)::us++[]).length=ps.length:=by
  have e:=r2.length;rw[F.len _ _ _ _ hq]at e;rw[aI];exact e.symm
 have hb2:=hb { s with heap:=BI s.heap C us } (Value.ref (s.heap.objs.size+1)::us) I2.kIn hl;rw[aI]at hb2;refine M.call I.kIn hus (wpAny_call (codeAny_mono (F.run _ X.stack _ _ ⟨Value.ref (s.heap.objs.size+1)::us,[]⟩ (Value.ref (s.heap.objs.size+1)::us) _ _ E (hr.make C us [])
  (I2.env0.make C us []) hb2 r2 hq) λ r s' hq'=>?_))
 cases r with
 |error e=>exact hx pins σ _ _ e s' I2 hq'
 |ok fl =>
  cases fl with
  |ret u =>
   obtain⟨v,H',I3,rv,ev,q3⟩:=I2.after hq';subst ev;exact⟨rv,⟨V.ref (s.heap.objs.size+1),H',I3,rfl,q3⟩⟩
  |next=>exact False.elim hq'
  |brk=>exact False.elim hq'
  |cont=>exact False.elim hq'
end
structure Hg(fr tt:List Addr)(e T:Addr)(fl cls:Value)(d:Option Addr)(h h':Heap):Prop where
 nT:h.get? T=none
 keep:∀b o,b≠e->b∉fr->b∉tt->h.get? b=some o->h'.get? b=some o
 slot:∀b o,b∈fr->h.get? b=some o->∃sl,h'.get? b=some { o with slots:=sl }
 exc:∃vs sl,h'.get? e=some ⟨cls,d,.fields vs,sl⟩/\vs[1]?=some (.ref T)
 tb:∃o ts,h'.get? T=some o/\o.data=.fields ts/\ts[3]?=some fl
 old:∀t o ts,t∈tt->t≠e->h.get? t=some o->o.data=.fields ts->3<ts.size->∃o' ts',h'.get? t=some o'/\o'.data=.fields ts'/\ts'[3]?=some Value.none
section
variable{M:Model}{A:Around}{E:VPz}{s:Shared}{base:Heap}{env:Env}{outer:List Env}{L e:Addr}{cls:Value}{d:Option Addr}{vs:Array Value}{sl:AOz}{Q:Unit->Shared->Prop}
theorem GC{head:Value}{hadNext:Bool}(hfr:A.frames=some (env::outer))(hl:s.heap.FunFrames base (env::outer))(hf:env.frame=some L)(he:s.heap.get? e=some ⟨cls,d,.fields vs,sl⟩)(hsz:1<vs.size)
    (h:∀h' T,Hg (frs (env::outer)) [] e T (rawInt L) cls d s.heap h'->Q () { s with heap:=h' }) :
    wpAny M A (do
      let a <-frameOf env
      let pl <-entryPlaceOf L hadNext
      let b <-EntryCells.newEntry head a .none (rawInt L) .none pl
      setField (.ref e) 1 b) Q E s:=by
  have hne:e∉frs (env::outer):=λ hm=>by
    obtain⟨_,o,ho,hnf⟩:=hl.mem hm;rw[he]at ho;cases ho;exact hnf vs rfl
  refine wpAny_bind (wpAny_frameOf_fun hfr hl hf λ h₁ hs=>wpAny_bind (wpAny_entryPlaceOf λ pl hpl=>?_));unfold EntryCells.newEntry newFields;refine wpAny_bind (wpAny_newObj_type ?_ (hpl.sizeOk5 _ _ _ _ _));have e1:h₁.get? e=some ⟨cls,d,.fields vs,sl⟩:=(hs.2.1 e hne).trans he;generalize hob:({ cls:=.type "traceback",dict:=none,data:=.fields ([head,.ref L,.none,rawInt L,.none]++(if pl.isEmpty then List.replicate 6 Value.none else pl)).toArray }:Obj)=ob;have hfb:ob.isFreed=false:=by rw[<-hob];rfl
  have e2:=af (h:=h₁) ob e1;refine wpAny_setField e2 rfl hsz (h _ h₁.objs.size ?_);have nTe:h₁.objs.size≠e:=dq (aB e1);have kp:∀b o,b≠e->h₁.get? b=some o->((h₁.push ob).update e (Obj.mapFields (·.setIfInBounds 1 (Value.ref h₁.objs.size)))).get? b=some o:=λ b o nb hb=>by
    rw[aV _ _ (Ne.symm nb)];exact af _ hb
  refine⟨eY (cb hs.1.symm),λ b o nb nf _ hb=>kp b o nb ((hs.2.1 b nf).trans hb),λ b o bf hb=>?_,⟨vs.setIfInBounds 1 (.ref h₁.objs.size),sl,?_,by simp[hsz]⟩,⟨ob,([head,.ref L,.none,rawInt L,.none]++(if pl.isEmpty then List.replicate 6 Value.none else pl)).toArray,?_,by rw[<-hob],?_⟩,λ_ _ _ z=>nomatch z⟩
  · obtain⟨sl',z⟩:=hs.2.2 b o hb
    exact⟨sl',kp b _ (λ q=>hne (q ▸ bf)) z⟩
  · exact bD _ e2 rfl
  · rw[aV _ _ (Ne.symm nTe)];exact aH _ hfb
  · simp
theorem Ks(hfr:A.frames=some (env::outer))(hl:s.heap.FunFrames base (env::outer))(hf:env.frame=some L)(he:s.heap.get? e=some ⟨cls,d,.fields vs,sl⟩)(h1:vs[1]?=some Value.none)
  (h:∀h' T,Hg (frs (env::outer)) [] e T (rawInt L) cls d s.heap h'->Q () { s with heap:=h' }):wpAny M A (noteFrame (.ref e) env) Q E s:=by
 unfold noteFrame;simp only[hf];refine wpAny_bind (wpAny_field he rfl h1 ?_);rw[if_neg (by decide)];exact GC hfr hl hf he (bi.mp h1).1 h
theorem N6{T1:Addr}{oT:Obj}{ts:Array Value}(hfr:A.frames=some (env::outer))(hl:s.heap.FunFrames base (env::outer))(hf:env.frame=some L)(he:s.heap.get? e=some ⟨cls,d,.fields vs,sl⟩)(h1:vs[1]?=some (.ref T1))
  (hT:s.heap.get? T1=some oT) (hd:oT.data=.fields ts) (h3:ts[3]?=some Value.none) (ne:T1≠e)
  (h:∀h' T,Hg (frs (env::outer)) [T1] e T (rawInt L) cls d s.heap h'->Q () { s with heap:=h' }):wpAny M A (noteFrame (.ref e) env) Q E s:=by
 unfold noteFrame;simp only[hf];refine wpAny_bind (wpAny_field he rfl h1 ?_);rw[if_pos (show(Value.ref T1 != Value.none)=true from by simp)];refine wpAny_bind (wpAny_field hT hd h3 ?_);rw[if_neg (show ¬((Value.none==rawInt L)=true) from by simp[rawInt])];have hs3:3<ts.size:=(bi.mp h3).1;refine wpAny_bind (wpAny_setField hT hd hs3 ?_);have oth:∀b,b≠T1->(s.heap.update T1 (Obj.mapFields (·.setIfInBounds 3 Value.none))).get? b=s.heap.get? b:=λ b hb=>aV _ _ (Ne.symm hb);have nT1:T1∉frs (env::outer):=λ hm=>by
  obtain⟨_,o,ho,hnf⟩:=hl.mem hm;rw[hT]at ho;cases ho;exact hnf ts hd
 have self:(s.heap.update T1 (Obj.mapFields (·.setIfInBounds 3 Value.none))).get? T1=some (Obj.mapFields (·.setIfInBounds 3 Value.none) oT):=bD _ hT (Obj.isFreed_of_fields (Obj.data_mapFields hd _));refine GC (s:={ s with heap:=s.heap.update T1 (Obj.mapFields (·.setIfInBounds 3 Value.none)) }) hfr (hl.of_keeps λ b o hb hnf=>⟨o,(oth b λ q=>?_).trans hb,rfl⟩) hf ((oth e (Ne.symm ne)).trans he) (bi.mp h1).1 λ h' T n=>h h' T ?_
 .rw[q,hT]at hb;cases hb;exact hnf ts hd
 .have nT':s.heap.get? T=none:=by
   by_cases q:T=T1
   .have:=n.nT;rw[q]at this;rw[self]at this;cases this
   .rw[<-oth T q];exact n.nT
  refine⟨nT',λ b o nb nf nt hb=>n.keep b o nb nf (by simp) ((oth b (by simpa using nt)).trans hb),λ b o bf hb=>n.slot b o bf ((oth b λ q=>nT1 (q ▸ bf)).trans hb),n.exc,n.tb,λ t o us ht hte hb hdo hsz=>?_⟩;obtain rfl:t=T1:=by simpa using ht
  rw[hT]at hb;cases hb;rw[hd]at hdo;cases hdo;exact⟨_,_,n.keep t _ hte nT1 (by simp) self,Obj.data_mapFields hd _,by simp[hs3]⟩
theorem GQ{T:Addr}{oT:Obj}{ts:Array Value}(he:s.heap.get? e=some ⟨cls,d,.fields vs,sl⟩)(h1:vs[1]?=some (.ref T))(hT:s.heap.get? T=some oT)(hd:oT.data=.fields ts)(hs3:3<ts.size)
  (h:∀h',(∀b,b≠T->h'.get? b=s.heap.get? b)->(∃o' ts',h'.get? T=some o'/\o'.data=.fields ts'/\ts'[3]?=some Value.none)->Q () { s with heap:=h' }):wpAny M A (setFlight (.ref e) none) Q E s:=by
 unfold setFlight;refine wpAny_bind (wpAny_field he rfl h1 ?_);rw[if_pos (show(Value.ref T != Value.none)=true from by simp)];refine wpAny_setField hT hd hs3 (h _ (λ b hb=>aV _ _ (Ne.symm hb)) ⟨_,_,bD _ hT (Obj.isFreed_of_fields (Obj.data_mapFields hd _)),Obj.data_mapFields hd _,by simp[hs3]⟩)
end
section
variable{prog:Program}{w:World}{A:Around}{E:VPz}{s:Shared}{K:Frag}{C fI e:Addr}{d:Option Addr}{env:Env}
theorem Lz{x:Sem Value}{Q:Flow->Shared->Prop}(M:XMk K C fI)(hh:A.handled=none)
  (h:wpAny (model prog w) A x (λ v s₁=>∃e d vs sl,v=.ref e/\K.In s₁.heap/\s₁.heap.get? e=some ⟨.ref C,d,.fields vs,sl⟩/\vs[1]?=some Value.none/\E (.ref e) s₁) E s) :
  wpAny (model prog w) A (raiseStmt env (some x) none) Q E s:=by
 unfold raiseStmt;refine wpAny_bind (wpAny_mono h (λ v s₁ h₁=>?_) λ_ _ x=>x);obtain⟨e,d,vs,sl',rfl,X,he,h1,hE⟩:=h₁;obtain⟨hp,g,dr,tk,os⟩:=s₁;have q:=M.ei;unfold Ce at q;split at q
 .rename_i dd cd sl ho;split at q
  .rename_i C' bm k0 k1 k2 k3 n k5 hm hs;simp only[aP,beq_iff_eq,dh]at q;obtain⟨⟨⟨⟨⟨rfl,rfl⟩,hdel⟩,ht⟩,hok⟩,hni⟩:=q;obtain⟨nm,bs,mro,ns,qn,hd,sn,sub,ab,col,del⟩:=cd;dsimp only at hm hdel hok hni;subst hm hdel;have hsl:sl=#[k0,k1,k2,k3,some (.builtin "ValueError.__new__"),k5]:=by
    obtain⟨l⟩:=sl;simp only at hs;rw[hs]
   subst hsl;have hC:hp.get? C'=some (excClassObj nm qn C' ns bs bm hd sn sub ab col dd k0 k1 k2 k3 k5 "ValueError.__new__"):=X _ _ ho;have hcB:(Value.ref C'::bm).contains (.type "BaseException")=true:=by
    rw[c5,(tail_of_in X ht).hasType (show vErr.contains (.type "BaseException")=true by decide +kernel)];exact dM _
   repeat (first|with_reducible refine wpAny_field he rfl h1 ?_|with_reducible refine wpAny_loadPart_at he ?_|with_reducible refine wpAny_loadPart_at hC ?_|(with_reducible refine wpAny_isSubtype_exc hC ?_;rw[hcB])|wp_step)
   exact wpAny_raiseNew_none hh hE
  .cases q
 .cases q
end
def TbO(T:Addr):HO:=.ext λ h=>∃o ts,h.get? T=some o/\o.data=.fields ts/\ts[3]?=some Value.none
theorem Lm{P:Program}{w:World}{H:Hp}{h:Heap}{T:Addr}(t:∃o ts,h.get? T=some o/\o.data=.fields ts/\ts[3]?=some Value.none):ObjOk P w H h T (TbO T) :=
 ⟨t,let ⟨o,_,e,_⟩:=t;⟨o,e⟩,λ_ _ ⟨o,ts,e,r⟩ k=>⟨o,ts,k _ e,r⟩⟩
def Nn(H:Hp)(x C:Addr)(d:Option Addr):Prop:=(d=none/\H x=some (FG C x))\/∃dx,d=some dx/\H x=some (Cn C dx x)
def CU(H:Hp)(x C:Addr)(d:Option Addr)(T:Addr):Prop:=H x=some (Fl C d x T)/\H T=some (TbO T)/\T≠x
def A4(H:Hp)(x C:Addr)(d:Option Addr)(T:Addr):Hp:=upd (upd H T (TbO T)) x (Fl C d x T)
theorem Dc{H:Hp}{x C T:Addr}{d:Option Addr}:A4 H x C d T x=some (Fl C d x T):=upd_same
theorem Eo{H:Hp}{x C T:Addr}{d:Option Addr}(n:T≠x):A4 H x C d T T=some (TbO T):=by unfold A4;rw[Af n,upd_same]
theorem AW{H:Hp}{x C T b:Addr}{d:Option Addr}(n:b≠x)(m:b≠T):A4 H x C d T b=H b:=by unfold A4;rw[Af n,Af m]
section
variable{X:Cx}{pins:PNz}{σ:St}{H:Hp}{s:Shared}{x C T:Addr}{d:Option Addr}{h1 h2:Heap}{fl:Value}{tt:List Addr}
theorem Qk(I:Inv X pins σ H s){φ:Heap->Prop}(hx:H x=some (.ext φ))(htt:∀t∈tt,H t=some (TbO t)/\t≠x)(n:Hg (frs X.stack) tt x T fl (.ref C) d s.heap h1)(k2:∀b,b≠T->h2.get? b=h1.get? b)
  (t2:∃o ts,h2.get? T=some o/\o.data=.fields ts/\ts[3]?=some Value.none):H T=none/\T≠x/\Un (frs X.stack) [] H (A4 H x C d T) s.heap h2/\HOk X.prog X.w (A4 H x C d T) h2:=by
 have hT:H T=none:=by
  cases q:H T with
  |none=>rfl
  |some u =>
   obtain⟨o,ho⟩:=(I.hok T u q).there;rw[n.nT]at ho;cases ho
 have nTx:T≠x:=λ z=>by rw[z,hx]at hT;cases hT
 have tn:∀b o,s.heap.get? b=some o->b≠T:=λ b o e z=>by rw[z,n.nT]at e;cases e
 have un:∀b,H b=none->b≠x:=λ b e z=>by rw[z,hx]at e;cases e
 have ut:∀b,H b=none->b∉tt:=λ b e z=>by rw[(htt b z).1]at e;cases e
 have hb:∀b u,H b=some u->b≠T:=λ b u e z=>by rw[z,hT]at e;cases e
 have old:∀t∈tt,∃o' ts',h2.get? t=some o'/\o'.data=.fields ts'/\ts'[3]?=some Value.none:=λ t ht=>by
  obtain⟨e,ne⟩:=htt t ht;obtain⟨⟨o,ts,e1,e2,e3⟩,_⟩:=(show ObjOk X.prog X.w H s.heap t (TbO t) from I.hok t _ e);obtain⟨o',ts',f1,f2,f3⟩:=n.old t o ts ht ne e1 e2 (bi.mp e3).1;exact⟨o',ts',(k2 t (hb t _ e)).trans f1,f2,f3⟩
 have exc:∃vs sl,h2.get? x=some ⟨.ref C,d,.fields vs,sl⟩/\vs[1]?=some (.ref T):=by
  obtain⟨vs,sl,e1,e2⟩:=n.exc;exact⟨vs,sl,(k2 x (Ne.symm nTx)).trans e1,e2⟩
 have ne_ext:∀b u,H b=some u->(∀ψ,u≠.ext ψ)->b≠x:=λ b u e z q=>by rw[q,hx]at e;cases e;exact z _ rfl
 refine⟨hT,nTx,⟨λ b o q e nf _=>?_,λ b o q e bf _=>?_,λ b o q e _=>?_,λ b o q _=>?_,λ b xs e=>?_,λ b o u e=>?_,λ b ps e=>⟨#[],?_⟩⟩,λ b u e=>?_⟩
 .exact(k2 b (tn b o q)).trans (n.keep b o (un b e) nf (ut b e) q)
 .obtain⟨sl,z⟩:=n.slot b o bf q;exact⟨sl,(k2 b (tn b o q)).trans z⟩
 .rw[AW (un b e) (tn b o q)];exact e
 .by_cases z:b=x
  .obtain⟨vs,sl,e1,_⟩:=exc;exact⟨_,z ▸ e1⟩
  .by_cases zf:b∈frs X.stack
   .obtain⟨sl,z⟩:=n.slot b o zf q;exact⟨_,(k2 b (tn b o q)).trans z⟩
   .by_cases zt:b∈tt
    .obtain⟨o',_,e1,_⟩:=old b zt;exact⟨o',e1⟩
    .exact⟨o,(k2 b (tn b o q)).trans (n.keep b o z zf zt q)⟩
 .rw[AW (ne_ext b _ e λ ψ z=>by cases z) (hb b _ e)];exact e
 .rw[AW (ne_ext b _ e λ ψ z=>by cases z) (hb b _ e)];exact e
 .rw[AW (ne_ext b _ e λ ψ z=>by cases z) (hb b _ e),e];simp
 .by_cases z:b=x
  .subst z;rw[Dc]at e;cases e;obtain⟨vs,sl,e1,e2⟩:=exc;exact Q3 e1 e2
  .by_cases zT:b=T
   .subst zT;rw[Eo nTx]at e;cases e;exact Lm t2
   .rw[AW z zT]at e;by_cases zt:b∈tt
    .rw[(htt b zt).1]at e;cases e;exact Lm (old b zt)
    .have own_ne:∀c,H c=some (.own b)->c≠x/\c≠T:=λ c hc=>⟨ne_ext c _ hc (λ ψ z=>by cases z),hb c _ hc⟩;refine(I.hok b u e).stay (λ c v hc q=>?_) (λ c q=>?_) λ c xs q=>?_
     .have hcH:∃y,H c=some y:=by
       rcases hc with rfl|hc
       .exact⟨u,e⟩
       .exact⟨_,hc⟩
      obtain⟨y,hy⟩:=hcH;refine(k2 c (hb c y hy)).trans (n.keep c v ?_ (λ zf=>by rw[I.stkFree c zf]at hy;cases hy) (λ zt'=>?_) q)
      .rcases hc with rfl|hc
       .exact z
       .exact(own_ne c hc).1
      .rcases hc with rfl|hc
       .exact zt zt'
       .rw[(htt c zt').1]at hc;cases hc
     .rw[AW (own_ne c q).1 (own_ne c q).2];exact q
     .rw[AW (ne_ext c _ q λ ψ z=>by cases z) (hb c _ q)];exact q
theorem Fr{E:VPz}{Q:Unit->Shared->Prop}(I:Inv X pins σ H s)(hst:X.stack=X.env::X.outer)(hfr:X.env.frame=some X.env.locals)(hf:Nn H x C d\/∃T,CU H x C d T)
  (h:∀h' T,H T=none->T≠x->Inv X pins σ (A4 H x C d T) { s with heap:=h' }->Q () { s with heap:=h' }) :
  wpAny (model X.prog X.w) X.A (noteFrame (.ref x) X.env) (λ_ s₂=>wpAny (model X.prog X.w) X.A (setFlight (.ref x) none) Q E s₂) E s:=by
 have fr:X.A.frames=some (X.env::X.outer):=hst ▸ I.ok.frames;have ff:s.heap.FunFrames X.base (X.env::X.outer):=hst ▸ I.stack;have rest:∀{φ:Heap->Prop}{tt:List Addr}(hx:H x=some (.ext φ))(htt:∀t∈tt,H t=some (TbO t)/\t≠x)(h1:Heap)(T:Addr),Hg (frs (X.env::X.outer)) tt x T (rawInt X.env.locals) (.ref C) d s.heap h1 ->
   wpAny (model X.prog X.w) X.A (setFlight (.ref x) none) Q E { s with heap:=h1 }:=λ{φ tt} hx htt h1 T n=>by
  obtain⟨vs,sl,e1,e2⟩:=n.exc;obtain⟨o,ts,f1,f2,f3⟩:=n.tb;refine GQ (s:={ s with heap:=h1 }) e1 e2 f1 f2 (bi.mp f3).1 λ h2 k2 t2=>?_;obtain⟨hT,nT,un,ok⟩:=Qk I hx htt (hst ▸ n) k2 t2;exact h h2 T hT nT (I.call (g':=s.gens) (d':=s.drawn) (t':=s.toks) (ch:=[]) un ok I.bare (λ b z=>absurd z (by simp)))
 rcases hf with (⟨rfl,hx⟩|⟨dx,rfl,hx⟩)|⟨T,hx,hT,ne⟩
 .obtain⟨⟨vs,sl,e1,e2⟩,_⟩:=(show ObjOk X.prog X.w H s.heap x (FG C x) from I.hok x _ hx);exact Ks fr ff hfr e1 e2 λ h1 T n=>rest (tt:=[]) hx (λ t z=>absurd z (by simp)) h1 T n
 .obtain⟨⟨vs,sl,e1,e2⟩,_⟩:=(show ObjOk X.prog X.w H s.heap x (Cn C dx x) from I.hok x _ hx);exact Ks fr ff hfr e1 e2 λ h1 T n=>rest (tt:=[]) hx (λ t z=>absurd z (by simp)) h1 T n
 .obtain⟨⟨vs,sl,e1,e2⟩,_⟩:=(show ObjOk X.prog X.w H s.heap x (Fl C d x T) from I.hok x _ hx);obtain⟨⟨o,ts,f1,f2,f3⟩,_⟩:=(show ObjOk X.prog X.w H s.heap T (TbO T) from I.hok T _ hT);exact N6 fr ff hfr e1 e2 f1 f2 f3 ne λ h1 T' n=>rest (tt:=[T]) hx (λ t z=>by rw[aa.mp z];exact⟨hT,ne⟩) h1 T' n
theorem ND{E:VPz}{Q:Unit->Shared->Prop}(I:Inv X pins σ H s)(hst:X.stack=X.env::X.outer)(hfr:X.env.frame=some X.env.locals)(hf:Nn H x C d\/∃T,CU H x C d T)
  (h:∀h' T,H T=none->T≠x->Inv X pins σ (A4 H x C d T) { s with heap:=h' }->Q () { s with heap:=h' }):wpAny (model X.prog X.w) X.A (leaving X.env (.ref x)) Q E s:=by
 unfold leaving;exact wpAny_bind (Fr I hst hfr hf h)
end
def CX1(P:Program)(w:World):CXT:=λ outer H s E e s'=>∃x T C d H',e=Value.ref x/\s'.os=s.os/\AllBare s'.gens/\Un (frs outer) [] H H' s.heap s'.heap/\HOk P w H' s'.heap/\CU H' x C d T/\E (.ref x) d H'
def RZ(X:Cx)(E:XK):Prop:=∀(pins:PNz)(σ:St)(H:Hp)(s:Shared)(x C:Addr)(d:Option Addr),Inv X pins σ H s->(Nn H x C d\/∃T,CU H x C d T) ->
 (∀T,H T=none->T≠x->E (.ref x) d (A4 H x C d T))->X.xe (.ref x) s
section
variable{P:Program}{w:World}{K:Frag}{mg:MGz}{base:Heap}{N:LSz}{qual:Str}{scope:Scope}{f:Addr}{cd:Value}{A:Around}{outer:List Env}{s:Shared}{H:Hp}{E E₁:XK}
theorem Co:RZ (Bd (CX1 P w) P w K mg base N qual scope f cd A outer s H E) E:=by
 intro pins σ H1 s1 x C d I hf hE;exact ND I rfl rfl hf λ h' T hT nT I'=>⟨x,T,C,d,_,rfl,I'.os,I'.bare,I'.base,I'.hok,⟨Dc,Eo nT,nT⟩,hE T hT nT⟩
theorem OE:PassesOwn (model (Bd (CX1 P w) P w K mg base N qual scope f cd A outer s H E).prog (Bd (CX1 P w) P w K mg base N qual scope f cd A outer s H E).w) (Bd (CX1 P w) P w K mg base N qual scope f cd A outer s H E).A (Bd (CX1 P w) P w K mg base N qual scope f cd A outer s H E).env (Bd (CX1 P w) P w K mg base N qual scope f cd A outer s H E).xe:=PassesOwn.leaving
end
section
variable{X:Cx}{E E₁:XK}
theorem L5(hX:RZ X E)(h:∀x C d T T2 H',E₁ (.ref x) d H'->CU H' x C d T->H' T2=none->T2≠x->E (.ref x) d (A4 H' x C d T2)):B7 (CX1 X.prog X.w) X E₁:=by
 rintro pins σ H s e s' I ⟨x,T,C,d,H',rfl,os,bare,un,hok,fl,q⟩;obtain⟨hh,g,dr,t,os'⟩:=s';obtain rfl:os'=s.os:=os;exact hX pins σ H' _ x C d (I.call (h':=hh) (g':=g) (d':=dr) (t':=t) (ch:=[]) un hok bare (λ b z=>absurd z (by simp))) (.inr ⟨T,fl⟩) λ T2 h2 n2=>h x C d T T2 H' q fl h2 n2
end
theorem Fun.okx{P:Program}{w:World}{K:Frag}{mg:MGz}{base:Heap}{x qual:Str}{st:Stmt}{f:Addr}{fd:FuncData}{N ps:LSz}{k:Nat}{sp:Sp}(F:Fun K x qual st f fd)(S:Aj N ps (Ad st))(len:∀vs H Q E,sp vs H Q E->vs.length=ps.length)
  (hbody:∀(cdv:Value)(A:Around)(outer:List Env)(s:Shared)(H:Hp)(vs:LUz)(Q:VK)(E:XK),Room k (A.deeper (envOfC qual (Ad st) s.heap.objs.size f cdv))->sp vs H Q E ->
   ∃t,PSs (Bd (CX1 P w) P w K mg base N qual (Ad st) f cdv A outer s H E) (Ap st) t/\t { nx:=λ_ H'=>Q .non H',rt:=Q } (start N vs) H):A3 P w K mg base (CX1 P w) (k+1) f fd ps sp:=by
 obtain⟨oc,od,kV,doc,pm,an,cdv,ct,osl,rfl,lk,hcd⟩:=F.ex;exact KF lk hcd S len λ A outer s H vs Q E hr hsp=>hbody cdv A outer s H vs Q E hr hsp
structure JH(P:Program)(w:World)(K:Frag)(mg:MGz)(base:Heap)(k:Nat)(x:Str)(ps:LSz)(sp:Sp):Prop where
 ex:∃(f:Addr)(fd:FuncData),A3 P w K mg base (CX1 P w) k f fd ps sp/\mg x=some (.ref f)/\keepIn K (.ref f)=true/\Binds K fd ps []
structure KU(P:Program)(w:World)(K:Frag)(mg:MGz)(base:Heap)(k:Nat)(x:Str)(C:Addr)(ps:LSz)(sp:Sp):Prop where
 ex:∃(f:Addr)(fd:FuncData),Mk K C f/\A3 P w K mg base (CX1 P w) k f fd ps sp/\mg x=some (.ref C)/\Binds K fd ps []
def Rt(C:Addr)(names:LSz)(E:XK)(t:TA):TS:=λ_ σ H=>t σ H λ vs H1=>vs.length=names.length /\
 ∀y dx T H2,H1 y=none->Same H1 H2->H2 y=some (Cn C dx y)->H2 dx=some (BG dx (names.zip vs))->dx≠y->H2 T=none->T≠y->E (.ref y) (some dx) (A4 H2 y C (some dx) T)
section
variable{X:Cx}{k j:Nat}{x:Str}{C:Addr}{ps names:LSz}{sp:Sp}{p pos cpos:Pos}{e:Expr}{es:List Expr}{t:TA}{E E₁:XK}
theorem OA(D:JH X.prog X.w X.K X.mg X.base k x ps sp)(hr:Room j X.A)(hx:B7 (CX1 X.prog X.w) X E₁)(ha:PA X (e::es) t)(hj:k<=j:=by decide)(hg:Gl X x:=by rfl)(hdb:(x==("__debug__":Str))=false:=by decide)
  (he:starEach (e::es) X.env=(false,eval e X.env)::starEach es X.env:=by rfl) (hpl:(backTo pos (starEach es X.env)).any (·.1)=false:=by rfl):PE X (.Call (.Name x p) (e::es) [] pos) (Oq sp [] E₁ t):=by
 obtain⟨f,fd,F,hm,hk,hb⟩:=D.ex;exact MC F (hr.mono hj) hg hm hk hb .nil hx ha hdb he hpl
theorem R3(D:KU X.prog X.w X.K X.mg X.base k x C ps sp)(hr:Room j X.A)(hx:B7 (CX1 X.prog X.w) X E₁)(ha:PA X (e::es) t)(hj:k+1<=j:=by decide)(hg:Gl X x:=by rfl)(hdb:(x==("__debug__":Str))=false:=by decide)
  (he:starEach (e::es) X.env=(false,eval e X.env)::starEach es X.env:=by rfl) (hpl:(backTo pos (starEach es X.env)).any (·.1)=false:=by rfl):PE X (.Call (.Name x p) (e::es) [] pos) (M1 C sp [] E₁ t):=by
 obtain⟨f,fd,M,F,hm,hb⟩:=D.ex;exact MB M F (hr.mono hj) hg hm hb .nil hx ha hdb he hpl
theorem Dl(hX:RZ X E)(D:Hd X.prog X.w X.K X.mg X.base k x C ps names)(hr:Room j X.A)(ha:PA X (e::es) t)(hc:X.calm=true:=by rfl)(hj:k+1<=j:=by decide)(hg:Gl X x:=by rfl)(hdb:(x==("__debug__":Str))=false:=by decide)
  (he:starEach (e::es) X.env=(false,eval e X.env)::starEach es X.env:=by rfl) (hpl:(backTo cpos (starEach es X.env)).any (·.1)=false:=by rfl):PS X (.Raise (some (.Call (.Name x p) (e::es) [] cpos)) none pos) (Rt C names E t):=by
 intro pins s σ H Dd I h;obtain⟨f,fd,M,F,hm,hb⟩:=D.ex;have pe:wpAny (model X.prog X.w) X.A (eval (.Call (.Name x p) (e::es) [] cpos) X.env) (EP X pins σ λ v H2=>∃y d,v=V.ref y/\Nn H2 y C d/\∀T,H2 T=none->T≠y->E (.ref y) d (A4 H2 y C d T)) X.xe s:=by
  refine wpAny_Call_Name_kw (CO I hg hm ?_ hdb);refine callWith_K (h₀:=X.base) I.ok.mod.kin M.kp (thn (ha cpos pins s σ H _ I h) λ us s1 ⟨vs,H1,I1,r,hl,q⟩=>⟨I1.kIn,?_⟩) he hpl;refine PM M F (hr.mono hj) hb HV I1 r (hl ▸ D.few) λ y hy=>⟨y,vs,rfl,hl,upd_same,λ d H' hd h1 h2 hs=>⟨rfl,y,some d,rfl,.inr ⟨d,rfl,h1⟩,λ T hT nT=>?_⟩⟩;refine q y d T H' hy (λ a o ho=>hs a o (Ah ho hy) ?_) h1 h2 (λ z=>by rw[z,upd_same]at hd;cases hd) hT nT;rw[Af (Ah ho hy)];exact ho
 rw[arm_exec_Raise];simp only[evalOpt,Option.map];refine wpAny_bind (wpAny_standAt (Lz M (I.ok.hd hc) ?_));refine wpAny_bind (thn pe λ v s1 ⟨u,H2,I2,r,y,d,ey,fr,hE⟩=>wpAny_bind (wpAny_standAt (wpAny_pure ?_)));subst ey;obtain rfl:v=Value.ref y:=r;have ob:∃vs sl,s1.heap.get? y=some ⟨.ref C,d,.fields vs,sl⟩/\vs[1]?=some Value.none:=by
  rcases fr with ⟨rfl,hx⟩|⟨dx,rfl,hx⟩
  .exact(show ObjOk X.prog X.w H2 s1.heap y (FG C y) from I2.hok y _ hx).1
  .exact(show ObjOk X.prog X.w H2 s1.heap y (Cn C dx y) from I2.hok y _ hx).1
 obtain⟨vs,sl,e1,e2⟩:=ob;exact⟨y,d,vs,sl,rfl,I2.kIn,e1,e2,hX pins σ H2 s1 y C d I2 (.inl fr) hE⟩
end
def EF:Nat->Heap
 |0=>{}
 |n+1=>(EF n).push { cls:=.type "dict",data:=.dict #[] }
theorem EE:∀n,(EF n).objs.size=n
 |0=>rfl
 |n+1=>by rw[EF,b7,EE n]
theorem Pf{C C' x T T':Addr}{d d':Option Addr}(h:Fl C d x T=Fl C' d' x T'):C=C'/\d=d'/\T=T':=by
 have h:(HO.ext λ h=>∃vs sl,h.get? x=some ⟨.ref C,d,.fields vs,sl⟩/\vs[1]?=some (.ref T))=HO.ext λ h=>∃vs sl,h.get? x=some ⟨.ref C',d',.fields vs,sl⟩/\vs[1]?=some (.ref T'):=h;injection h with h;have e:=congrFun h ((EF x).push ⟨.ref C,d,.fields #[.none,.ref T],#[]⟩);have g:((EF x).push ⟨.ref C,d,.fields #[.none,.ref T],#[]⟩).get? x=some ⟨.ref C,d,.fields #[.none,.ref T],#[]⟩:=Heap.get?_push_at (EE x).symm rfl;have q:=e.mp ⟨_,_,g,rfl⟩;obtain⟨vs,sl,e1,e2⟩:=q;rw[g]at e1;cases e1;cases e2;exact⟨rfl,rfl,rfl⟩
def XR(H:Hp)(x C:Addr)(d:Option Addr)(fs:LFz):Prop:=(∃dx,d=some dx/\dx≠x/\H dx=some (BG dx fs))/\∃T,H x=some (Fl C d x T)
theorem Rh{H1 H2:Hp}{y C dx T:Addr}{fs:LFz}(hy:H1 y=none)(s:Same H1 H2)(e:H2 y=some (Cn C dx y))(ed:H2 dx=some (BG dx fs))(hT:H2 T=none)(nd:dx≠y) :
  XR (A4 H2 y C (some dx) T) y C (some dx) fs/\Same H1 (A4 H2 y C (some dx) T) :=
 ⟨⟨⟨dx,rfl,nd,by rw[AW nd (Ah ed hT)];exact ed⟩,T,Dc⟩,λ a o ho=>by rw[AW (Ah ho hy) (Ah (s a o ho) hT)];exact s a o ho⟩
theorem Oe{H H1:Hp}{x C C':Addr}{d:Option Addr}{T T2:Addr}{fs:LFz}(hx:H1 x=none)(s:Same H1 H)(r:XR H x C d fs)(fl:CU H x C' d T)(hT:H T2=none) :
  C=C'/\XR (A4 H x C' d T2) x C d fs/\Same H1 (A4 H x C' d T2):=by
 obtain⟨⟨dx,rfl,nd,ed⟩,T',e⟩:=r;have q:C=C':=by
  have:=fl.1;rw[e]at this;exact(Pf (Option.some.inj this)).1
 subst q;exact⟨rfl,⟨⟨dx,rfl,nd,by rw[AW nd (Ah ed hT)];exact ed⟩,T2,Dc⟩,λ a o ho=>by rw[AW (Ah ho hx) (Ah (s a o ho) hT)];exact s a o ho⟩
def Rf(H:Hp)(E:XK)(C:Addr)(P:LFz->Hp->Prop):Prop:=∀x d fs H',H x=none->Same H H'->XR H' x C (some d) fs->P fs H'->E (.ref x) (some d) H'
theorem Rf.raise{H H1 H2:Hp}{E:XK}{C y dx T:Addr}{P:LFz->Hp->Prop}{fs:LFz}(r:Rf H E C P)(s1:Same H H1)(hy:H1 y=none)(s:Same H1 H2)(e:H2 y=some (Cn C dx y))(ed:H2 dx=some (BG dx fs))(nd:dx≠y)
  (hT:H2 T=none) (p:P fs (A4 H2 y C (some dx) T)):E (.ref y) (some dx) (A4 H2 y C (some dx) T):=by
 obtain⟨a,b⟩:=Rh hy s e ed hT nd;have hy0:H y=none:=by
  cases q:H y with
  |none=>rfl
  |some o=>rw[s1 y o q]at hy;cases hy
 exact r y dx fs _ hy0 (s1.trans b) a p
def XE(H:Hp)(R:Addr->LFz->Hp->Prop):XK:=λ v d H'=>∃x C dx fs,v=.ref x/\d=some dx/\H x=none/\Same H H'/\XR H' x C (some dx) fs/\R C fs H'
theorem XE.rf{H:Hp}{R:Addr->LFz->Hp->Prop}{C:Addr}{P:LFz->Hp->Prop}(h:∀fs H',P fs H'->R C fs H'):Rf H (XE H R) C P:=λ x d fs H' hx s r p=>⟨x,C,d,fs,rfl,rfl,hx,s,r,h fs H' p⟩
theorem XE.on{H H0:Hp}{R:Addr->LFz->Hp->Prop}{E:XK}(s0:Same H0 H)(st:∀C fs H' x C' d T2,R C fs H'->(∃φ,H' x=some (.ext φ))->H' T2=none->R C fs (A4 H' x C' d T2))(hE:∀C,Rf H0 E C (R C)) :
  ∀x C d T T2 H',XE H R (.ref x) d H'->CU H' x C d T->H' T2=none->T2≠x->E (.ref x) d (A4 H' x C d T2):=by
 rintro x C d T T2 H' ⟨x',C',dx,fs,ev,rfl,hx,s,r,p⟩ fl hT2 nT2;obtain rfl:x=x':=Value.ref.inj ev;have hx0:H0 x=none:=by
  cases q:H0 x with
  |none=>rfl
  |some o=>rw[s0 x o q]at hx;cases hx
 obtain⟨rfl,r2,s2⟩:=Oe hx s r fl hT2;exact hE C' x dx fs _ hx0 (s0.trans s2) r2 (st C' fs H' x C' (some dx) T2 p ⟨_,fl.1⟩ hT2)
def Stb(P:LFz->Hp->Prop):Prop:=∀fs H' x C' d T2,P fs H'->(∃φ,H' x=some (.ext φ))->H' T2=none->P fs (A4 H' x C' d T2)
def RU(H:Hp)(E:XK):Addr->LFz->Hp->Prop:=λ C fs H'=>∃P,Rf H E C P/\P fs H'/\Stb P
theorem L6{H:Hp}{E:XK}:∀x C d T T2 H',XE H (RU H E) (.ref x) d H'->CU H' x C d T->H' T2=none->T2≠x->E (.ref x) d (A4 H' x C d T2) :=
 XE.on (Same.refl H) (λ C fs H' x C' d T2 ⟨P,r,p,st⟩ hx hT=>⟨P,r,st fs H' x C' d T2 p hx hT,st⟩) λ C x d fs H' hx s r ⟨P,rf,p,_⟩=>rf x d fs H' hx s r p
theorem S2{H H2:Hp}{E:XK}{C:Addr}{P:LFz->Hp->Prop}(s:Same H H2)(r:Rf H E C P)(st:Stb P):Rf H2 (XE H (RU H E)) C P:=λ x d fs H' hx s2 xr p=>by
 have hx0:H x=none:=by
  cases q:H x with
  |none=>rfl
  |some o=>rw[s x o q]at hx;cases hx
 exact⟨x,C,d,fs,rfl,rfl,hx0,s.trans s2,xr,P,r,p,st⟩
section
variable{X:Cx}{pins:PNz}{σ:St}{H:Hp}{s:Shared}
theorem FP{M:Model}{A:Around}{E:VPz}{i:Nat}{n:Str}{pos:Pos}{Q:Unit->Shared->Prop}(I:Inv X pins σ H s)(hN:X.N.Nodup)(hi:X.N[i]?=some n)(hk:X.env.scope.names.lookup n=some .local)
    (h:∀s',Inv X pins (σ.set i none) H s'->Q () s'):wpAny M A (do bindName X.env n .none;unbindBehindTheSuite X.env n pos) Q E s:=by
  obtain⟨m,hn,hl⟩:=id I.loc;have hcls:(X.env.scope.kind==.class||(X.env.scope.kind==.module&&X.env.locals != X.env.globals))=false:=by rw[I.ok.kind];rfl
  have hiσ:i<σ.length:=by rw[I.len];exact(av.mp hi).1
  refine wpAny_nameGoes_keeps hk hn hcls λ h' v hn' hs=>h _ ?_;have nl:∀b o,X.s₀.heap.get? b=some o->b≠X.env.locals:=λ b o e=>aJ (aQ (aB e) I.ok.above);refine⟨I.ok,I.os,I.bare,⟨λ b o e z hb hx=>(hs.2 b (nl b o e)).trans (I.base.keep b o e z hb hx),λ b o e z hb hx=>?_,I.base.free,λ b o e hx=>?_,I.base.tups,I.base.frzs,I.base.tbls⟩,⟨_,hn',λ j y v' e1 e2 e3=>?_⟩,λ y c e=>?_,I.free,I.freeC,λ p hp=>?_,λ b ob e=>?_,by simpa using I.len⟩
  · obtain⟨sl,e1⟩:=I.base.slot b o e z hb hx
    exact⟨sl,(hs.2 b (nl b o e)).trans e1⟩
  · obtain⟨o',e1⟩:=I.base.there b o e hx
    exact⟨o',(hs.2 b (nl b o e)).trans e1⟩
  · by_cases hj:j=i
    · subst hj
      rw[cA hiσ]at e2;cases e2
    · rw[cJ (Ne.symm hj)]at e2
      obtain⟨u',r',q⟩:=hl j y v' e1 e2 e3;refine⟨u',r',?_⟩;rcases q with ⟨k,e⟩|⟨k,c,e,z⟩
      · have ny:y≠n:=λ e=>hj (GD hN e1 (e ▸ hi))
        exact .inl ⟨k,by simp[ny,e]⟩
      · exact .inr ⟨k,c,e,z.sameBut hs (I.cne y c e)⟩
  · obtain⟨w',z⟩:=I.cell y c e
    exact⟨w',z.sameBut hs (I.cne y c e)⟩
  · obtain⟨e,z,ne,nf,d⟩:=I.pin p hp
    exact⟨(hs.2 p.1 ne).trans e,z,ne,nf,d⟩
  · refine(I.hok b ob e).stay (λ c w' hc q=>(hs.2 c ?_).trans q) (λ_ q=>q) λ_ _ q=>q
    rintro rfl;rcases hc with hc|hc
    · rw[<-hc,I.free]at e;cases e
    · rw[I.free]at hc;cases hc
abbrev Cx.suite(X:Cx)(x:Addr):Cx:={ X with A:=X.A.mark (some (.ref x)),calm:=false,xe:=λ_ _=>False }
theorem Inv.suite(I:Inv X pins σ H s)(x:Addr):Inv (X.suite x) pins σ H s :=
 ⟨⟨I.ok.mod,I.ok.kind,I.ok.glob,I.ok.blt,I.ok.above,I.ok.inj,I.ok.has,I.ok.cab,(λ z=>nomatch z),I.ok.frames,I.ok.stk,I.ok.exf,I.ok.bs,I.ok.bsz,I.ok.noex,I.ok.exfs,I.ok.funs,I.ok.frf⟩,I.os,I.bare,I.base,I.loc,I.cell,I.free,I.freeC,I.pin,I.hok,I.len⟩
theorem Inv.unsuite{ok:X.Ok}{x:Addr}(I:Inv (X.suite x) pins σ H s):Inv X pins σ H s :=
 ⟨ok,I.os,I.bare,I.base,I.loc,I.cell,I.free,I.freeC,I.pin,I.hok,I.len⟩
end
def PX(X:Cx)(e:Expr)(t:TE)(E:XK):Prop:=∀(pins:PNz)(s:Shared)(σ:St)(H:Hp)(Q:VK)(Ex:VPz),Inv X pins σ H s->t σ H Q ->
 (∀x T C d H' s',Inv X pins σ H' s'->CU H' x C d T->E (.ref x) d H'->Ex (.ref x) s')->wpAny (model X.prog X.w) X.A (eval e X.env) (EP X pins σ Q) Ex s
section
variable{X:Cx}{k j:Nat}{x:Str}{C:Addr}{ps:LSz}{sp:Sp}{p pos:Pos}{e:Expr}{es:List Expr}{t:TA}{E:XK}
theorem SA(D:KU X.prog X.w X.K X.mg X.base k x C ps sp)(hr:Room j X.A)(ha:PA X.nox (e::es) t)(hj:k+1<=j:=by decide)(hg:Gl X x:=by rfl)(hdb:(x==("__debug__":Str))=false:=by decide)
  (he:starEach (e::es) X.env=(false,eval e X.env)::starEach es X.env:=by rfl) (hpl:(backTo pos (starEach es X.env)).any (·.1)=false:=by rfl):PX X (.Call (.Name x p) (e::es) [] pos) (M1 C sp [] E t) E:=by
 obtain⟨f,fd,M,F,hm,hb⟩:=D.ex;intro pins s σ H Q Ex I h hx;refine wpAny_Call_Name_kw (CO I hg hm ?_ hdb);refine callWith_K (h₀:=X.base) I.ok.mod.kin M.kp (wpAny_mono (ha pos pins s σ H _ (I.wish _) h) (λ us s1 ⟨vs,H1,I1',r,q⟩=>⟨I1'.unwish.kIn,?_⟩) λ_ _ z=>False.elim z) he hpl;have I1:Inv X pins σ H1 s1:=I1'.unwish;have hq:=q (s1.heap.objs.size+1) s1.heap.objs.size (I1.hok.fresh (bH _)) (I1.hok.fresh (aj _)) (aJ (dk _));rw[aI]at hq;have I2:=Inv.made (C:=C) I1;have r2:Vals (V.ref (s1.heap.objs.size+1)::vs) (Value.ref (s1.heap.objs.size+1)::us):=.cons rfl r;have hl:(Value.ref (s1.heap.objs.size+1)::us++[]).length=ps.length:=by
  have e:=r2.length;rw[F.len _ _ _ _ hq]at e;rw[aI];exact e.symm
 have hb2:=hb _ (Value.ref (s1.heap.objs.size+1)::us) I2.kIn hl;rw[aI]at hb2;refine wpAny_call (Kz (f:=f) I1.kIn M.makes M.init (beq_iff_eq.mp M.fn) (codeAny_mono (F.run _ X.stack _ _ ⟨Value.ref (s1.heap.objs.size+1)::us,[]⟩ (Value.ref (s1.heap.objs.size+1)::us) _ _ E ((hr.mono hj).make C us [])
  (I2.env0.make C us []) hb2 r2 hq) λ r s' hq'=>?_))
 cases r with
 |error e =>
  obtain⟨x,T,C',d,H',rfl,os,bare,un,hok,fl,q'⟩:=hq';exact hx x T C' d H' s' (I2.call' (ch:=[]) os un hok bare (λ b z=>absurd z (by simp))) fl q'
 |ok fl =>
  cases fl with
  |ret u =>
   obtain⟨v,H',I3,rv,ev,q3⟩:=I2.after hq';subst ev;exact⟨rv,⟨V.ref (s1.heap.objs.size+1),H',I3,rfl,q3⟩⟩
  |next=>exact False.elim hq'
  |brk=>exact False.elim hq'
  |cont=>exact False.elim hq'
end
def QT(im:Nat)(D:CT):CT:={ nx:=λ σ H=>D.nx (σ.set im none) H,rt:=D.rt,bk:=λ σ H=>D.bk (σ.set im none) H,ct:=λ σ H=>D.ct (σ.set im none) H }
def Lp(wi:TI)(g:TG)(tc:TT)(te:TE)(fr:List (Option Nat)):TE:=λ σ H Q=>wi σ H λ J H1=>∀acc,H1 acc=none->∃W:Nat->Nat->St->Hp->Prop,(∃m,W 0 m (stC fr σ) (upd H1 acc (.lst [])))/\∀i m σ1 H2,W i m σ1 H2 ->
 (J.stop i H2/\Q (.ref acc) H2)\/(J.go i H2/\∀x H3,J.yld i H2 x H3->g x σ1 H3 λ σ4 H4=>tc σ4 H4 λ b Hb=>match b with
  |true=>te σ4 Hb λ v H5=>∃xs,H5 acc=some (.lst xs)/\xs.length<sizeLine/\∃m',m'<m/\W (i+1) m' σ4 (upd H5 acc (.lst (xs++[v])))
  |false=>∃m',m'<m/\W (i+1) m' σ4 Hb)
section
variable{prog:Program}{w:World}{A:Around}{R:Result->Shared->Prop}{s:Shared}
theorem Hv{elt target iter cnd:Expr}{scope:Scope}{pos:Pos}{it acc:Value}{env:Env}(I:Nat->Shared->Prop)
    (turn:∀n s,I n s->wpAny (model prog w) A (pyNext it) (λ r s₁=>match r with
      |none=>R (.ok .next) s₁
      |some v=>wpAny (model prog w) A (letOwnedTupleGo target it v) (λ_ s₁=>wpAny (model prog w) A (assign target env v) (λ_ s₂ =>
          wpAny (model prog w) A (forIn [cnd] true λ c r=>if r=true then do let ok <-isTrue c env (eval c env);pure (ForInStep.yield ok) else pure (ForInStep.yield r)) (λ ok s₃ =>
            if ok=true then wpAny (model prog w) A (eval elt env) (λ x s₄=>wpAny (model prog w) A (call (.builtin "list.append") [acc,x]) (λ_ s₅=>∃m,m<n/\I m s₅) (notedBy (model prog w) A env λ e s'=>R (.error e) s') s₄)
              (notedBy (model prog w) A env λ e s'=>R (.error e) s') s₃
            else ∃m,m<n/\I m s₃) (notedBy (model prog w) A env λ e s'=>R (.error e) s') s₂)
          (notedBy (model prog w) A env λ e s'=>R (.error e) s') s₁) (notedBy (model prog w) A env λ e s'=>R (.error e) s') s₁) (notedBy (model prog w) A env λ e s'=>R (.error e) s') s)
    (n:Nat) (h:I n s) :
    codeAny (model prog w) A (.compLoop (.ListComp elt [⟨target,iter,[cnd],0⟩] scope pos) 0 it acc env) R s:=by
  refine codeAny_loop rfl I (λ n s hI=>?_) n h;show wpAny _ _ ((compTurn (.ListComp elt [⟨target,iter,[cnd],0⟩] scope pos) 0 it acc env).onRaise (λ x=>do noteFrame x env;theTreesLotGoes x)) _ _ s;refine wpAny_noted ?_;rw[compTurn_list];refine wpAny_bind (wpAny_standAt (wpAny_bind (wpAny_mono (turn n s hI) (λ r s₁ h₁=>?_) λ_ _ h'=>h')));cases r with
  |none=>exact wpAny_pure h₁
  |some v =>
    refine wpAny_bind (wpAny_mono h₁ (λ_ s₁ h₁=>?_) λ_ _ h'=>h');refine wpAny_bind (wpAny_mono h₁ (λ_ s₂ h₂=>wpAny_bind (wpAny_mono h₂ (λ ok s₃ h₃=>?_) λ_ _ h'=>h')) λ_ _ h'=>h');cases ok with
    |false=>exact wpAny_pure ⟨rfl,h₃⟩
    |true=>exact wpAny_bind (wpAny_bind (wpAny_mono h₃ (λ x s₄ h₄=>wpAny_bind (wpAny_mono h₄ (λ_ s₅ h₅=>wpAny_pure (wpAny_pure ⟨rfl,h₅⟩)) λ_ _ h'=>h')) λ_ _ h'=>h'))
end
section
variable{X:Cx}{elt tg iter:Expr}{scope:Scope}{pos:Pos}{wi:TI}{g:TG}{te:TE}{N:LSz}{fr:List (Option Nat)}
variable{cnd:Expr}{tc:TT}
theorem Ha{pins:PNz}{σ:St}{H:Hp}{s:Shared}{Q:VK}{cl:List (Str×Addr)}{R:Value->Addr->Result->Shared->Prop}(hc:X.calm=true)(I:Inv X pins σ H s)(hi:PI X tg iter wi)
  (hg:∀cl C s H ex,PG (AD X scope cl N C s H ex) tg g) (hcn:∀cl C s H ex,PT (AD X scope cl N C s H ex) cnd tc) (he:∀cl C s H ex,PE (AD X scope cl N C s H ex) elt te) (ck:EK X.env.scope X.N scope N fr)
  (c1:∀x c,cl.lookup x=some c->X.env.cells.lookup x=some c) (c2:∀x,(x,NameKind.free)∈scope.names->∃c,cl.lookup x=some c)
  (h:Lp wi g tc te fr σ H Q)
  (hR:∀acc C s' H' m,s'.heap.Ns C m->Ei X pins H' C->Inv X pins σ H' s'->Q (.ref acc) H'->R (.ref acc) C (.ok .next) s') :
  wpAny (model X.prog X.w) X.A (eval iter X.env) (λ x s₁=>wpAny (model X.prog X.w) X.A (pyIter x) (λ it s₂=>wpAny (model X.prog X.w) X.A (newList []) (λ acc s₃ =>
   wpAny (model X.prog X.w) X.A (newFunctionEnv scope X.env.globals cl [] X.env.qual none .none (some X.env)) (λ cenv s₄ =>
    codeAny (model X.prog X.w) X.A (.compStart (.ListComp elt [⟨tg,iter,[cnd],0⟩] scope pos) 0 it acc { cenv with scope:=relabel scope X.env }) (R acc cenv.locals) s₄) X.xe s₃) X.xe s₂) X.xe s₁) X.xe s:=by
 refine thn (hi pins s σ H _ I h) λ v s1 h1=>thn h1 λ itv s2 h2=>?_;obtain⟨it,fp,tn,J,H2,e,I2,T,st2,f2,q2⟩:=h2;subst e;refine wpAny_newObj_type (wpAny_newFunctionEnv ck.nocell (by intro y hy;simp at hy) (λ h₁ hns₁ hsb₁=>?_) ck.kind);dsimp only at hns₁ hsb₁ |-;have I3:Inv X pins σ (upd H2 s2.heap.objs.size (.lst [])) { s2 with heap:=s2.heap.push { cls:=.type "list",dict:=none,data:=.seq ([]:LWz).toArray } }:=I2.lnew (t':=s2.toks) (its:=[]) .nil (aZ _);have acc0:H2 s2.heap.objs.size=none:=I2.fresh;obtain⟨W,⟨m0,w0⟩,turn⟩:=q2 s2.heap.objs.size acc0;generalize hH3:s2.heap.push { cls:=.type "list",dict:=none,data:=.seq ([]:LWz).toArray }=h3 at hns₁ hsb₁ I3 |-;have hz3:h3.objs.size=s2.heap.objs.size+1:=by rw[<-hH3,b7]
 have k23:∀b o,s2.heap.get? b=some o->h3.get? b=some o:=λ b o e=>by rw[<-hH3];exact af _ e
 have k34:∀b o,h3.get? b=some o->h₁.get? b=some o:=λ b o e=>hsb₁.extBut b o (aJ (aB e)) (af _ e);have fpo:∀b∈fp,∃o,s2.heap.get? b=some o/\∀v,o.data≠.cell v:=T.obj 0 _ st2;have hex:∀b∈fp,Ei X pins (upd H2 s2.heap.objs.size (.lst [])) b/\b<h3.objs.size:=λ b hb=>by
  obtain⟨o,eo,_⟩:=fpo b hb;have lt:=aB eo;obtain⟨f0,fr'⟩:=f2 b hb;exact⟨⟨by rw[Af (aJ lt)];exact f0,fr'⟩,by rw[hz3];exact bZ lt⟩
 have I4:Inv (AD X scope cl N h3.objs.size { s2 with heap:=h3 } (upd H2 s2.heap.objs.size (.lst [])) fp) [] (stC fr σ) (upd H2 s2.heap.objs.size (.lst [])) { s2 with heap:=h₁,toks:=s2.toks+([]:List (Str×Value)).length } :=
  GZ I3 ck c1 c2 hex (aj _) hns₁ k34 rfl rfl
 have stat:∀{H':Hp},(∀b∈fp,H' b=none)->∀b∈fp,Ei (AD X scope cl N h3.objs.size { s2 with heap:=h3 } (upd H2 s2.heap.objs.size (.lst [])) fp) [] H' b:=λ hn b hb =>
  ⟨hn b hb,(I4.ok.exf b hb).1,I4.ok.exfs b hb,.inl hb,(I4.ok.exf b hb).2,λ p hp=>by simp at hp⟩
 have stn:∀i h h',tn i h->(∀b o,h.get? b=some o->h'.get? b=some o)->tn i h':=λ i h h' st kk=>T.keep i h h' st λ b _ o e=>kk b o e;have loop:codeAny (model X.prog X.w) X.A (.compLoop (.ListComp elt [⟨tg,iter,[cnd],0⟩] scope pos) 0 (.ref it) (.ref s2.heap.objs.size) (compEnvC scope cl h3.objs.size X.env)) (R (.ref s2.heap.objs.size) h3.objs.size)
   { s2 with heap:=h₁,toks:=s2.toks+([]:List (Str×Value)).length }:=by
  refine Hv (λ n s'=>∃i σ' H',Inv (AD X scope cl N h3.objs.size { s2 with heap:=h3 } (upd H2 s2.heap.objs.size (.lst [])) fp) [] σ' H' s'/\tn i s'.heap/\(∀b∈fp,H' b=none)/\W i n σ' H') ?_ m0
   ⟨0,_,_,I4,stn _ _ _ st2 λ b o e=>k34 b o (k23 b o e),λ b hb=>(hex b hb).1.1,w0⟩
  rintro n s3 ⟨i,σ3,H3,J3,st3,fr3,w3⟩;rcases turn i n σ3 H3 w3 with ⟨stop,qn⟩|⟨go,step⟩
  .refine Bj (thn (T.done (AD X scope cl N h3.objs.size { s2 with heap:=h3 } (upd H2 s2.heap.objs.size (.lst [])) fp) rfl rfl rfl hc i [] s3 σ3 H3 (λ_ _=>False) J3 (stat fr3) st3 stop) λ r s4 hz_=>?_);obtain⟨hr,J4⟩:=hz_;subst hr;obtain⟨mc,hmc,_⟩:=J4.loc;have I5:Inv X pins σ H3 s4:=I3.call' (ch:=fp) J4.os J4.base J4.hok J4.bare λ b hb=>⟨(hex b hb).1.2.2.2.1,(hex b hb).1.2.1,(hex b hb).1.2.2.2.2.1,(hex b hb).1.2.2.2.2.2⟩;exact hR _ _ s4 H3 mc hmc (I3.fpOk (aj _) J4.free) I5 qn
  .refine Bj (thn (T.item (AD X scope cl N h3.objs.size { s2 with heap:=h3 } (upd H2 s2.heap.objs.size (.lst [])) fp) rfl rfl rfl hc i [] s3 σ3 H3 (λ_ _=>False) J3 (stat fr3) st3 go) λ r s4 hz_=>?_);obtain⟨u,hr,h4⟩:=hz_;subst hr;refine Bj (thn h4 λ_ s5 hz_=>?_);obtain⟨x,H5,J5,r5,y5,st5,fr5⟩:=hz_;have J5':=J5.pinned (stat fr5) (T.obj _ _ st5);refine Bj (thn (hg _ _ _ _ _ _ s5 σ3 H5 x u _ J5' r5 (step x H5 y5)) λ_ s6 hz_=>?_);obtain⟨σ6,H6,J6,q6⟩:=hz_;refine wpAny_tests_one (Bj (thn (hcn _ _ _ _ _ _ s6 σ6 H6 _ J6 q6) λ b sb hz_=>?_));obtain⟨Hb,Jb,qb⟩:=hz_;cases b with
   |false =>
    obtain⟨m',hm',w7⟩:=qb;refine ite_ff ⟨m',hm',i+1,σ6,_,Jb.unpinned,T.keep _ _ _ st5 λ b hb o e=>(Jb.pin (b,o) (az _ (az _ (AS hb e)))).1,λ b hb=>?_,w7⟩;obtain⟨o,e,d⟩:=T.obj _ _ st5 b hb;exact(Jb.pin (b,o) (az _ (az _ (AS hb e)))).2.1
   |true =>
    refine ite_tt ?_;refine Bj (thn (he _ _ _ _ _ _ sb σ6 Hb _ Jb qb) λ y s7 hz_=>?_);obtain⟨v7,H7,J7,r7,xs,hx,hz,m',hm',w7⟩:=hz_;refine Bj (thn (EZ _ s7 σ6 H7 (.ref s2.heap.objs.size) [v7] (.ref s2.heap.objs.size) [y] (λ v H8=>H8=upd H7 s2.heap.objs.size (.lst (xs++[v7]))) J7 rfl (.cons r7 .nil) ⟨_,xs,v7,rfl,rfl,hx,hz,rfl⟩) λ_ s8 hz_=>?_);obtain⟨_,H8,J8,_,e8⟩:=hz_;subst e8;refine⟨m',hm',i+1,σ6,_,J8.unpinned,T.keep _ _ _ st5 λ b hb o e=>(J8.pin (b,o) (az _ (az _ (AS hb e)))).1,λ b hb=>?_,w7⟩;obtain⟨o,e,d⟩:=T.obj _ _ st5 b hb;exact(J8.pin (b,o) (az _ (az _ (AS hb e)))).2.1
 exact codeAny_compStart_list loop (T.self _ 0 _ _ _ (stn _ _ _ st2 λ b o e=>k34 b o (k23 b o e)) loop)
theorem E8(hc:X.calm=true)(hi:PI X tg iter wi)(hg:∀cl C s H ex,PG (AD X scope cl N C s H ex) tg g)(hcn:∀cl C s H ex,PT (AD X scope cl N C s H ex) cnd tc)(he:∀cl C s H ex,PE (AD X scope cl N C s H ex) elt te)
  (hk:DC X.env.scope X.N scope N fr=true:=by rfl) (hs:∀x,foldedSetIterable iter X.env x=pure x:=by intro _;rfl):PE X (.ListComp elt [⟨tg,iter,[cnd],0⟩] scope pos) (Lp wi g tc te fr):=by
 intro pins s σ H Q I h;have ck:=CQ hk;obtain⟨cl,e1,c1,c2⟩:=FV I.ok ck;rw[eval_ListComp];refine wpAny_comprehension_free (use:=none) (Q:=EP X pins σ Q) rfl hs e1 ck.kind ck.loc (Ha (R:=λ acc C=>compPost (model X.prog X.w) X.A X.xe none (EP X pins σ Q) acc C) hc I hi hg hcn he ck c1 c2 h λ acc C s' H' m hn f I' q=>?_);obtain⟨f0,f1,f2,f3,f4,f5⟩:=f;exact⟨m,hn,λ h' hs'=>⟨.ref acc,H',I'.turned (t':=s'.toks) (λ b o hb e=>hs'.extBut b o hb e) f0 f1 f3 f4 f5,rfl,q⟩⟩
theorem Fp{y:Str}{py spos:Pos}{gy:TG}(hc:X.calm=true)(hy:PG X (.Name y py) gy)(hi:PI X tg iter wi)(hg:∀cl C s H ex,PG (AD X scope cl N C s H ex) tg g)(hcn:∀cl C s H ex,PT (AD X scope cl N C s H ex) cnd tc)(he:∀cl C s H ex,PE (AD X scope cl N C s H ex) elt te)
    (hk:DC X.env.scope X.N scope N fr=true:=by rfl) (hsw:swapsWith (.ListComp elt [⟨tg,iter,[cnd],0⟩] scope pos) (some (.Name y py)) spos.line X.env=pure true:=by rfl) (hs:∀x,foldedSetIterable iter X.env x=pure x:=by intro _;rfl) :
    PS X (.Assign [.Name y py] (.ListComp elt [⟨tg,iter,[cnd],0⟩] scope pos) spos) (PB (Lp wi g tc te fr) gy):=by
  intro pins s σ H D I h;have ck:=CQ hk;obtain⟨cl,e1,c1,c2⟩:=FV I.ok ck;rw[exec_Assign_Name_used _ _ _ _ hsw];refine wpAny_bind (wpAny_standAt (wpAny_bind ?_));show wpAny _ X.A (do let _ <-comprehension (.ListComp elt [⟨tg,iter,[cnd],0⟩] scope pos) scope X.env _ (newList []) false (eval iter X.env) (some (assign (.Name y py) X.env))) _ _ s;refine wpAny_bind (wpAny_mono (wpAny_comprehension_free (use:=some (assign (.Name y py) X.env)) (Q:=λ_ s'=>SP X pins D .next s') rfl hs e1 ck.kind ck.loc
    (Ha (R:=λ acc C=>compPost (model X.prog X.w) X.A X.xe (some (assign (.Name y py) X.env)) (λ_ s'=>SP X pins D .next s') acc C) hc I hi hg hcn he ck c1 c2 h λ acc C s' H' m hn f I' q=>?_)) (λ_ s' hq=>wpAny_pure (wpAny_pure hq)) λ_ _ e=>e)
  show wpAny _ X.A (assign (.Name y py) X.env (.ref acc)) _ _ _;obtain⟨oC,es,ep,hoC,hdC,hrC⟩:=id hn;have IP:=I'.pinned (fp:=[C]) (λ b hb=>by rw[aa.mp hb];exact f) (λ b hb=>by rw[aa.mp hb];exact⟨oC,hoC,λ v z=>by rw[hdC]at z;cases z⟩);refine thn (hy _ s' σ H' (.ref acc) (.ref acc) _ IP rfl q) λ_ s'' ⟨σ6,H6,I6,q6⟩=>?_;have pC:=I6.pin (C,oC) (az _ (az _ (AS (aa.mpr rfl) hoC)));obtain⟨f0,f1,f2,f3,f4,f5⟩:=f;exact⟨m,⟨oC,es,ep,pC.1,hdC,hrC⟩,λ h' hs'=>⟨σ6,H6,I6.unpinned.turned (t':=s''.toks) (λ b o hb e=>hs'.extBut b o hb e) pC.2.1 f1 f3 f4 f5,q6⟩⟩
end
section
variable{X:Cx}{a b c d:Expr}{ta tb tc td:TE}{pos:Pos}
theorem FN{K:Frag}(hK:X.K=K:=by rfl):IxR X (Rw K):=by subst hK;exact ix_tup
theorem OS{K:Frag}(hK:X.K=K:=by rfl):IxR X (Rx K):=by subst hK;exact ix_list
end
def fW(acc:Addr)(n:Nat)(Pv:Nat->LUz->St->Hp->Prop)(i m:Nat)(σ:St)(H:Hp):Prop:=i<=n/\m=n-i/\∃xs,xs.length<=i/\H acc=some (.lst xs)/\Pv i xs σ H
def fNx(acc:Addr)(n:Nat)(Pv:Nat->LUz->St->Hp->Prop)(i:Nat)(σ:St)(v:V)(H:Hp):Prop:=∃xs,H acc=some (.lst xs)/\xs.length<sizeLine/\∃m',m'<n-i/\fW acc n Pv (i+1) m' σ (upd H acc (.lst (xs++[v])))
def fSk(acc:Addr)(n:Nat)(Pv:Nat->LUz->St->Hp->Prop)(i:Nat)(σ:St)(H:Hp):Prop:=∃m',m'<n-i/\fW acc n Pv (i+1) m' σ H
theorem fNx.mk{acc:Addr}{n:Nat}{Pv:Nat->LUz->St->Hp->Prop}{i:Nat}{σ:St}{v:V}{H:Hp}{xs:LUz}(hn:n<=sizeLine)(hi:i<n)(hl:xs.length<=i)(ha:H acc=some (.lst xs))(hp:Pv (i+1) (xs++[v]) σ (upd H acc (.lst (xs++[v])))) :
  fNx acc n Pv i σ v H:=⟨xs,ha,by lia,n-(i+1),by lia,hi,rfl,xs++[v],by rw[ak,aM];lia,upd_same,hp⟩
theorem fSk.mk{acc:Addr}{n:Nat}{Pv:Nat->LUz->St->Hp->Prop}{i:Nat}{σ:St}{H:Hp}{xs:LUz}(hi:i<n)(hl:xs.length<=i)(ha:H acc=some (.lst xs))(hp:Pv (i+1) xs σ H):fSk acc n Pv i σ H:=⟨n-(i+1),by lia,hi,rfl,xs,by lia,ha,hp⟩
theorem CP{K:Frag}{a:Addr}{ys:LUz}{g:TG}{tc:TT}{te:TE}{σ:St}{H1:Hp}{acc:Addr}{Qr:Hp->Prop}(Pv:Nat->LUz->St->Hp->Prop)(h0:Pv 0 [] σ (upd H1 acc (.lst [])))
  (hq:∀i xs σ H,i<=ys.length->H acc=some (.lst xs)->Pv i xs σ H->SqL K H a ys)
  (hs:∀i x xs σ H,ys[i]?=some x->i<ys.length->xs.length<=i->H acc=some (.lst xs)->Pv i xs σ H->g x σ H λ σ2 H2=>tc σ2 H2 λ b Hb=>match b with
   |true=>te σ2 Hb λ v H3=>fNx acc ys.length Pv i σ2 v H3
   |false=>fSk acc ys.length Pv i σ2 Hb)
  (hd:∀xs σ H,xs.length<=ys.length->H acc=some (.lst xs)->Pv ys.length xs σ H->Qr H) :
  ∃W:Nat->Nat->St->Hp->Prop,(∃m,W 0 m σ (upd H1 acc (.lst [])))/\∀i m σ1 H2,W i m σ1 H2 ->
   ((Itl K a).stop i H2/\Qr H2)\/((Itl K a).go i H2/\∀x H3,(Itl K a).yld i H2 x H3->g x σ1 H3 λ σ4 H4=>tc σ4 H4 λ b Hb=>match b with
    |true=>te σ4 Hb λ v H5=>∃xs,H5 acc=some (.lst xs)/\xs.length<sizeLine/\∃m',m'<m/\W (i+1) m' σ4 (upd H5 acc (.lst (xs++[v])))
    |false=>∃m',m'<m/\W (i+1) m' σ4 Hb):=by
 refine⟨fW acc ys.length Pv,⟨ys.length,aZ _,rfl,[],aj _,upd_same,h0⟩,?_⟩;rintro i m σ1 H2 ⟨hi,rfl,xs,hl,ha,hp⟩;have hsq:=hq i xs σ1 H2 hi ha hp;rcases bh i ys.length with h|h
 .refine .inr ⟨⟨ys,ys[i],hsq,ag h⟩,?_⟩;rintro x H3 ⟨rfl,hx⟩;exact hs i x xs σ1 H3 (hx ys hsq) h hl ha hp
 .have e:i=ys.length:=cu hi h;subst e;exact .inl ⟨⟨ys,hsq,aj _⟩,hd xs σ1 H2 hl ha hp⟩
section
variable{X:Cx}
theorem Qf:B7 (CX1 X.prog X.w) X (λ_ _ _=>False):=by
 rintro pins σ H s e s' I ⟨x,T,C,d,H',rfl,os,bare,un,hok,fl,q⟩;exact False.elim q
end
theorem Paired.get{α β:Type}{F:α->β->Prop}:∀{l₁:List α}{l₂:List β},Paired F l₁ l₂->∀{i:Nat}{a:α},l₁[i]?=some a->∃b,l₂[i]?=some b/\F a b
 |_,_,.nil,i,a,h=>by simp at h
 |_,_,.cons f t,0,a,h=>by
  simp only[List.getElem?_cons_zero,Option.some.injEq]at h;subst h;exact⟨_,rfl,f⟩
 |_,_,.cons f t,i+1,a,h=>by
  simp only[List.getElem?_cons_succ]at h |-;exact Paired.get t h
section
variable{prog:Program}{w:World}{A:Around}{E:VPz}{s:Shared}{it d v:Addr}{i n ep:Nat}{od:Obj}{es:Array DictEntry}{k0 v0:Value}
theorem LV{Q:VPz}(hs:(d==sysModules)=false)(hT:s.TypeIs (.ref d) "dict")
  (fin:Q (.ref s.heap.objs.size) { s with heap:=s.heap.push { cls:=.type "dict_items",data:=.fields #[.ref d] } }):wpAny (model prog w) A (call (.builtin "dict.items") [.ref d]) Q E s:=by
 refine wpAny_call_entry dY hT PySem.F.entry_dict_items ?_ (PySem.F.args_dict_items_1 _);unfold Builtin.«dict.items» Builtin.Dict.noArgs;refine wpAny_bind (wpAny_bind (wpAny_notOrdered_dict hT ?_));show wpAny (model prog w) _ (pure d) _ _ s;refine wpAny_pure ?_;unfold Builtin.Dict.showsAll;have no:¬(d==sysModules)=true:=by rw[hs];exact au
 rw[if_neg no];exact wpAny_bind (wpAny_pure (wpAny_bind (wpAny_newObj_type (wpAny_pure ⟨_,rfl,fin⟩))))
theorem K6{Q:VPz}(hv:s.heap.IsItemsView v d)(hd:s.heap.get? d=some od)(dd:od.data=.dict es ep)(hn:es.size=n)
  (fin:Q (.ref s.heap.objs.size) { s with heap:=s.heap.push { cls:=.type "dict_itemiterator",data:=.fields #[.none,.bool false,.ref d,.int 0 0,.int n 0,.int ep 0,.none,.none] } }) :
  wpAny (model prog w) A (pyIter (.ref v)) Q E s:=by
 obtain⟨ov,g1,g2,g3⟩:=id hv;refine wpAny_pyIter_slot hv.typeIs dN (wpAny_call_entry dN hv.typeIs PySem.F.entry_dict_items_iter ?_ (PySem.F.args_dict_items_iter_1 _));unfold Builtin.«dict_items.__iter__» Builtin.Dict_items.dictOf Builtin.Dict_items.newIterator;refine wpAny_bind (wpAny_pure (wpAny_bind (wpAny_bind (wpAny_field g1 g3 (x:=.ref d) rfl (wpAny_pure ?_)))));refine wpAny_bind (wpAny_bind (wpAny_dictEntries hd dd (wpAny_bind (wpAny_dictEpoch hd dd ?_))));have own:Builtin.Dict_items.ownsTuple "dict_itemiterator"=true:=by decide
 simp only[own,if_true];refine wpAny_newObj_type (wpAny_pure ⟨_,rfl,"dict_itemiterator",_,⟨_,aH _ rfl,rfl⟩,bq.lookup,?_⟩) ?_
 .subst hn
  simpa [rawInt,Builtin.Dict_items.ownedTupleFields] using fin
 .simp only[sizeOk,Builtin.Dict_items.ownedTupleFields,am,ak,aD,bO,sizeLine_eq];lia
theorem N7{e:DictEntry}{Q:Option Value->Shared->Prop}(g:IsItemIter s.heap it d i n ep k0 v0)(hd:s.heap.get? d=some od)(dd:od.data=.dict es ep)(hn:es.size=n)(he:es[i]?=some e)
  (fin:∀h',IsItemIterOut h' it d (i+1) n ep e.key e.val s.heap.objs.size->h'.get? s.heap.objs.size=some { cls:=.type "tuple",data:=.seq #[e.key,e.val] } ->
   (∀b o,b≠it->s.heap.get? b=some o->h'.get? b=some o)->Q (some (.ref s.heap.objs.size)) { s with heap:=h' }):wpAny (model prog w) A (pyNext (.ref it)) Q E s:=by
 obtain⟨hp,gs,dr,tk,os⟩:=s;have ty:Shared.TypeIs ⟨hp,gs,dr,tk,os⟩ (.ref it) "dict_itemiterator":=⟨_,g,rfl⟩;have lt:=(bi.mp he).1;unfold pyNext;refine wpAny_bind (wpAny_attempt (wpAny_callSpecial?_slot (name:=Str.ofString "__next__") ty bq (wpAny_call_entry bq ty dE ?_ (dy _))));refine wpAny_bind (wpAny_pure (wpAny_bind (wpAny_bind ?_)))
 first|refine wpAny_bind (wpAny_typeNameOfWhole_itemiter ty (wpAny_pure ?_))|refine wpAny_bind (wpAny_typeNameOf_itemiter ty (wpAny_pure ?_))
 refine wpAny_bind (wpAny_fieldsOf g rfl ?_);have own:Builtin.Dict_items.ownsTuple "dict_itemiterator"=true:=by decide
 have nn:¬((Value.ref d==Value.none)=true):=au;simp only[own,if_true];show wpAny (model prog w) _ (if (Value.ref d==Value.none)=true then _ else _) _ _ _;rw[if_neg nn];refine wpAny_bind (wpAny_pure (wpAny_bind (wpAny_dictEntries hd dd ?_)));rw[if_neg (by rw[hn];simp)];refine wpAny_bind (wpAny_pure (wpAny_bind (wpAny_dictEpoch hd dd ?_)));rw[if_neg (by simp)];refine wpAny_pure ?_;simp only[show ¬((i:Int)<0) from by lia,if_false,bQ,he];refine wpAny_bind ?_
 first|refine wpAny_bind (wpAny_typeNameOfWhole_itemiter ty (wpAny_pure ?_))|refine wpAny_bind (wpAny_typeNameOf_itemiter ty (wpAny_pure ?_))
 refine wpAny_bind (wpAny_isOneOf_itemiter ty ?_);show wpAny (model prog w) _ (setField (.ref it) 3 (rawInt ((i:Int)+1)) >>= _) _ _ ⟨hp,gs,dr,tk,os⟩;refine wpAny_bind (wpAny_setField_rec g (by simp) λ h1 g1 b1=>?_)
 replace b1:Heap.SameBut it hp h1:=b1
 replace g1:IsItemIter h1 it d (i+1) n ep k0 v0:=by
  have z:((i+1:Nat):Int)=(i:Int)+1:=by lia
  unfold IsItemIter;rw[z];simpa [rawInt] using g1
 have ty1:Shared.TypeIs ⟨h1,gs,dr,tk,os⟩ (.ref it) "dict_itemiterator":=⟨_,g1,rfl⟩;refine wpAny_bind (wpAny_holding (wpAny_bind (wpAny_isOneOf_itemiter ty1 (wpAny_bind (wpAny_isOneOf_itemiter ty1 ?_)))));show wpAny (model prog w) _ (Builtin.Dict_items.pairFromOwner (.ref it) 6 e.key e.val) _ _ ⟨h1,gs,dr,tk,os⟩;unfold Builtin.Dict_items.pairFromOwner Builtin.Dict_items.ownedTupleIsFree;refine wpAny_bind (wpAny_newTuple ?_);have z1:h1.objs.size=hp.objs.size:=b1.1;have il:it<hp.objs.size:=aB g;obtain⟨h2,e2⟩:∃h2,h2=h1.push { cls:=.type "tuple",data:=.seq #[e.key,e.val] }:=⟨_,rfl⟩;have g2:IsItemIter h2 it d (i+1) n ep k0 v0:=by rw[e2];exact af _ g1
 have t2:h2.get? hp.objs.size=some { cls:=.type "tuple",data:=.seq #[e.key,e.val] }:=by rw[e2,<-z1];exact aH _ rfl
 have k2:∀b o,b≠it->hp.get? b=some o->h2.get? b=some o:=λ b o nb q=>by rw[e2];exact af _ (b1.extBut b o nb q)
 show wpAny (model prog w) _ _ _ _ ⟨h1.push { cls:=.type "tuple",data:=.seq #[e.key,e.val] },gs,dr,tk,os⟩;rw[z1,<-e2];clear e2 g1 b1 ty1 z1;refine wpAny_bind (wpAny_bind (wpAny_field g2 rfl (x:=.none) rfl (wpAny_pure ?_)));simp only[if_true];refine wpAny_bind (wpAny_field g2 rfl (x:=k0) rfl (wpAny_bind (wpAny_field g2 rfl (x:=v0) rfl ?_)));refine wpAny_bind (wpAny_setField_rec g2 (by simp) λ h3 g3 b3=>?_)
 replace b3:Heap.SameBut it h2 h3:=b3
 replace g3:IsItemIter h3 it d (i+1) n ep e.key v0:=g3
 refine wpAny_bind (wpAny_setField_rec g3 (by simp) λ h4 g4 b4=>?_)
 replace b4:Heap.SameBut it h3 h4:=b4
 replace g4:IsItemIter h4 it d (i+1) n ep e.key e.val:=g4
 refine wpAny_bind (wpAny_setField_rec g4 (by simp) λ h5 g5 b5=>?_)
 replace b5:Heap.SameBut it h4 h5:=b5
 replace g5:IsItemIterOut h5 it d (i+1) n ep e.key e.val hp.objs.size:=g5
 refine wpAny_bind (wpAny_setField_rec g5 (by simp) λ h6 g6 b6=>?_)
 replace b6:Heap.SameBut it h5 h6:=b6
 have far:∀b o,b≠it->h2.get? b=some o->h6.get? b=some o:=λ b o nb q=>b6.extBut b o nb (b5.extBut b o nb (b4.extBut b o nb (b3.extBut b o nb q)));exact wpAny_bind (wpAny_letGo (wpAny_pure (wpAny_pure ⟨_,rfl,wpAny_pure (fin h6 g6 (far _ _ (dq il) t2) λ b o nb q=>far b o nb (k2 b o nb q))⟩)))
theorem N8{Q:Option Value->Shared->Prop}(hh:A.handled=none)(g:IsItemIter s.heap it d i n ep k0 v0)(hd:s.heap.get? d=some od)(dd:od.data=.dict es ep)(hn:es.size=n)(he:n<=i)
  (fin:∀h',Heap.ExtBut it s.heap h'->Q none { s with heap:=h' }):wpAny (model prog w) A (pyNext (.ref it)) Q E s:=by
 have ty:s.TypeIs (.ref it) "dict_itemiterator":=⟨_,g,rfl⟩;unfold pyNext;refine wpAny_bind (wpAny_attempt (wpAny_callSpecial?_slot (name:=Str.ofString "__next__") ty bq (wpAny_call_entry bq ty dE ?_ (dy _))));refine wpAny_bind (wpAny_pure (wpAny_bind (wpAny_bind ?_)))
 first|refine wpAny_bind (wpAny_typeNameOfWhole_itemiter ty (wpAny_pure ?_))|refine wpAny_bind (wpAny_typeNameOf_itemiter ty (wpAny_pure ?_))
 refine wpAny_bind (wpAny_fieldsOf g rfl ?_);have own:Builtin.Dict_items.ownsTuple "dict_itemiterator"=true:=by decide
 have nn:¬((Value.ref d==Value.none)=true):=au;simp only[own,if_true];show wpAny (model prog w) _ (if (Value.ref d==Value.none)=true then _ else _) _ _ s;rw[if_neg nn];refine wpAny_bind (wpAny_pure (wpAny_bind (wpAny_dictEntries hd dd ?_)));rw[if_neg (by rw[hn];simp)];refine wpAny_bind (wpAny_pure (wpAny_bind (wpAny_dictEpoch hd dd ?_)));rw[if_neg (by simp)];refine wpAny_pure ?_;have off:es[i]?=none:=Array.getElem?_eq_none (by lia);simp only[show ¬((i:Int)<0) from by lia,if_false,bQ,off];refine wpAny_bind ?_
 first|refine wpAny_bind (wpAny_typeNameOfWhole_itemiter ty (wpAny_pure ?_))|refine wpAny_bind (wpAny_typeNameOf_itemiter ty (wpAny_pure ?_))
 show wpAny (model prog w) _ (setField (.ref it) 2 .none >>= _) _ _ s;refine wpAny_bind (wpAny_setField g rfl (by simp) ?_);show wpAny (model prog w) _ (newExc (.type "StopIteration") [] >>= _) _ _ _;refine wpAny_bind ?_;simp only[newExc,newTuple];refine wpAny_bind (wpAny_newObj_type (wpAny_bind (m:=firstArgMember _ _) (wpAny_of_eq (a:=Value.none) (by first|rfl|(simp only[firstArgMember];rfl)) (wpAny_newObj_type ?_ (by size_fits)))) (by size_fits));simp only[raiseNew];refine wpAny_bind (wpAny_handled ?_);have hh1:A.in1.handled=none:=hh;rw[hh1];refine wpAny_bind (wpAny_pure (wpAny_throw ?_));refine wpAny_bind (wpAny_isInstance (T:="StopIteration") (b:=true) ⟨_,aH _ rfl,rfl⟩ isSubtype_stop ?_);exact wpAny_pure (fin _ (((Heap.SameBut.update ..).extBut.push _).push _))
end
def Itn(a:Addr)(ob:Obj):It :=
 ⟨λ i H=>∃kvs p,H a=some (.frz ob (.dT kvs))/\kvs[i]?=some p,
  λ i H y H'=>∃t b p,(∀kvs,H a=some (.frz ob (.dT kvs))->kvs[i]?=some p)/\H b=some (.tup (p.1.map kV))/\y=.ref t/\H t=none/\H'=upd H t (.tup [.ref b,p.2]),
  λ i H=>∃kvs,H a=some (.frz ob (.dT kvs))/\kvs.length<=i⟩
theorem MS{P:Program}{w:World}{H:Hp}{h:Heap}{a:Addr}{ob:Obj}{kvs:LKz}{ents:Array DictEntry}{ep:Nat}(ok:HOk P w H h)(e:H a=some (.frz ob (.dT kvs)))(hd:ob.data=.dict ents ep) :
  h.get? a=some ob/\∃xs,KT H kvs xs/\ents.toList=xs.map (entryOfKey (tupleKind (AJ P w)))/\ents.size=kvs.length:=by
 obtain⟨ho,_,_,xs,rel,o,es,ep',h1,h2,h3,h4,h5⟩:=(show ObjOk P w H h a (.frz ob (.dT kvs)) from ok a _ e);rw[ho]at h1;cases h1;rw[hd]at h3;cases h3;refine⟨ho,xs,rel,h4,?_⟩;rw[size_of_entries h4];exact(Paired.length rel).symm
theorem JP{P:Program}{w:World}{K:Frag}{es:List Expr}{k:Nat}{pos:Pos}(a it:Addr){ob:Obj}{ents:Array DictEntry}{n ep:Nat}(hd:ob.data=.dict ents ep)(hn:ents.size=n) :
  Mr P w K (.Tuple es k pos) (Itn a ob) [it] it (λ i h=>∃ok ov,IsItemIter h it a i n ep ok ov) where
 mem:=by simp
 obj:=λ i h st b hb=>by
  obtain⟨ok,ov,he⟩:=st;rw[aa.mp hb];exact⟨_,he,λ v z=>by
   have z':Data.fields _=Data.cell v:=z;cases z'⟩
 keep:=λ i h h' st kk=>by
  obtain⟨ok,ov,he⟩:=st;exact⟨ok,ov,kk it (by simp) _ he⟩
 item:=by
  intro X hP hw hK hc i pins s σ H E I hf st hg;subst hP hw hK;obtain⟨ok,ov,he⟩:=st;obtain⟨kvs,p,hq,hx⟩:=hg;obtain⟨ho,xs,rel,hes,hl⟩:=MS I.hok hq hd;obtain⟨⟨k',b,u⟩,hu,hk',hb,ru⟩:=Paired.get rel hx;have fi:=hf it (by simp);have hei:ents[i]?=some ⟨(tupleKind (AJ X.prog X.w)).hash k',.ref b,u⟩:=by rw[entry_at hes i,hu];rfl
  refine N7 he ho hd hn hei λ h' ho' hT kk=>?_;refine⟨_,rfl,?_⟩;have hfr:H s.heap.objs.size=none:=I.hok.fresh (aj _);have ltI:it<s.heap.objs.size:=aB he;have I1:Inv X pins σ (upd H s.heap.objs.size (.tup [.ref b,p.2])) { s with heap:=h',toks:=s.toks }:=by
   refine Io I fi fi (λ b o nb _ z=>kk b o nb z) ⟨_,ho'⟩ ⟨_,ho'⟩ ⟨?_,[.ref b,u],.cons rfl (.cons ru .nil),⟨_,hT,rfl,_,rfl⟩⟩;show 2<=sizeLine;decide
  refine wpAny_letOwnedTupleGo_items (s:={ s with heap:=h' }) ho' λ h2 he2 sb=>?_;have nI:it≠s.heap.objs.size:=aJ ltI;have fi2:(upd H s.heap.objs.size (.tup [.ref b,p.2])) it=none:=by rw[Af nI];exact fi.1
  have I2:Inv X pins σ (upd H s.heap.objs.size (.tup [.ref b,p.2])) { ({ s with heap:=h',toks:=s.toks }:Shared) with heap:=h2,toks:=s.toks } :=
   I1.turned (t':=s.toks) (it:=it) (λ b o hb z=>(sb.2 b hb).trans z) fi2 fi.2.1 fi.2.2.2.1 fi.2.2.2.2.1 fi.2.2.2.2.2
  refine⟨.ref s.heap.objs.size,_,I2,rfl,⟨_,b,p,λ ys hy=>?_,hb,rfl,hfr,rfl⟩,⟨_,_,he2⟩,λ b hb=>?_⟩
  .rw[hq]at hy;cases hy;exact hx
  .rw[aa.mp hb];exact fi2
 done:=by
  intro X hP hw hK hc i pins s σ H E I hf st hg;subst hP hw hK;obtain⟨ok,ov,he⟩:=st;obtain⟨kvs,hq,hx⟩:=hg;obtain⟨ho,xs,rel,hes,hl⟩:=MS I.hok hq hd;obtain⟨f0,f1,f2,f3,f4,f5⟩:=hf it (by simp);exact N8 (I.ok.hd hc) he ho hd hn (by lia) λ h' eb=>⟨rfl,I.turned (t':=s.toks) (λ b o hb z=>eb b o hb z) f0 f1 f3 f4 f5⟩
 self:=λ_ _ _ _ _ st h=>by
  obtain⟨ok,ov,he⟩:=st;exact kcp_self he h
def Qu(td:TE):TI:=λ σ H R=>td σ H λ x H1=>∃a kvs,x=.ref a/\H1 a=some (.dT kvs)/\∀ob,R (Itn a ob) (upd H1 a (.frz ob (.dT kvs)))
section
variable{X:Cx}
theorem N1{o:Expr}{es:List Expr}{k:Nat}{tpos apos cpos:Pos}{td:TE}(hp:PE X o td)
  (hb:attributeBase o "items" X.env (eval o X.env)=eval o X.env:=by rfl) (hline:(apos.endLine==cpos.line)=true:=by rfl) :
  PI X (.Tuple es k tpos) (.Call (.Attribute o "items" apos) [] [] cpos) (Qu td):=by
 intro pins s σ H R I h;refine wpAny_Call_method0_late hb hline (thn (hp pins s σ H _ I h) λ v s1 hz_=>?_);obtain⟨x,H1,I1,r1,q1⟩:=hz_;obtain⟨a,kvs,e,ea,q⟩:=q1;subst e;cases r1;obtain⟨hty,hnd,hsys⟩:=RL I1 (.inr ⟨kvs,.inl ea⟩);refine⟨"dict","dict.items",PySem.F.plainAttrs_dict,dY,PySem.F.type_dict_items,hty,hnd,Calls.callWith_builtin rfl (PySem.evalArgs_none ?_)⟩;refine LV hsys hty ?_;obtain⟨_,_,xs,rel,ob,ents,ep,g1,g2,g3,g4,g5⟩:=(show ObjOk X.prog X.w H1 s1.heap a (.dT kvs) from I1.hok a _ ea);refine K6 (n:=ents.size) ⟨_,aH _ rfl,rfl,rfl⟩ (af _ g1) g3 rfl ?_;have I2:Inv X pins σ H1 { s1 with heap:=s1.heap.push { cls:=.type "dict_items",data:=.fields #[.ref a] },toks:=s1.toks }:=I1.kept λ b u z=>af _ z;have I3:=I2.kept (h':=(s1.heap.push { cls:=.type "dict_items",data:=.fields #[.ref a] }).push { cls:=.type "dict_itemiterator",data:=.fields #[.none,.bool false,.ref a,.int 0 0,.int ents.size 0,.int ep 0,.none,.none] }) (t':=s1.toks) λ b u z=>af _ z;have g1':((s1.heap.push { cls:=.type "dict_items",data:=.fields #[.ref a] }).push { cls:=.type "dict_itemiterator",data:=.fields #[.none,.bool false,.ref a,.int 0 0,.int ents.size 0,.int ep 0,.none,.none] }).get? a=some ob:=af _ (af _ g1);have new:ObjOk X.prog X.w (upd H1 a (.frz ob (.dT kvs))) ((s1.heap.push { cls:=.type "dict_items",data:=.fields #[.ref a] }).push { cls:=.type "dict_itemiterator",data:=.fields #[.none,.bool false,.ref a,.int 0 0,.int ents.size 0,.int ep 0,.none,.none] }) a (.frz ob (.dT kvs)):=by
  obtain⟨y1,y2,ys,yr,y3⟩:=(show ObjOk X.prog X.w H1 _ a (.dT kvs) from I3.hok a _ ea);refine⟨g1',y1,y2,ys,KT.keeps yr λ c zs ec=>?_,y3⟩;rw[Af (Kv ec ea (λ z=>nomatch z))];exact ec
 have I4:=I3.write (x:=a) (e:=a) (o:=.frz ob (.dT kvs)) (h':=(s1.heap.push { cls:=.type "dict_items",data:=.fields #[.ref a] }).push { cls:=.type "dict_itemiterator",data:=.fields #[.none,.bool false,.ref a,.int 0 0,.int ents.size 0,.int ep 0,.none,.none] }) (t':=s1.toks)
  (by rw[ea];exact True.intro) (.inl rfl) (λ b u _ z=>z) ⟨ob,g1'⟩ new
 have na:s1.heap.objs.size+1≠a:=dq (bZ (aB g1));refine⟨(s1.heap.push { cls:=.type "dict_items",data:=.fields #[.ref a] }).objs.size,[(s1.heap.push { cls:=.type "dict_items",data:=.fields #[.ref a] }).objs.size],_,_,_,rfl,I4,JP a _ g3 rfl,⟨_,_,aH _ rfl⟩,λ b hb'=>?_,q ob⟩;rw[aa.mp hb'];refine I2.fpOk (aj _) ?_;rw[Af (by rw[b7];exact na)];exact I2.hok.fresh (aj _)
end
section
variable{prog:Program}{w:World}{A:Around}{E:VPz}{s:Shared}{R:Result->Shared->Prop}{I:Addr}{fp wr:List Addr}{n:Nat}{P:Nat->Value->Prop}{St:Nat->Heap->Prop}
def Tl(prog:Program)(w:World)(A:Around)(G:Heap->Prop)(P:Nat->Value->Prop)(lt:Nat->Nat->Bool):Prop :=
 ∀i j vi vj (s:Shared) (Q:VPz) (E:VPz),G s.heap->P i vi->P j vj->Q (.bool (lt i j)) s->wpAny (model prog w) A (richCompare .Lt vi vj) Q E s
theorem NA(wk:Walks prog w A.in1 I fp wr n P St)(lt:Nat->Nat->Bool)(B:Addr)(hB:B∉fp){G:Heap->Prop}(hG:∀h h',G h->(∀b o,b∉wr->b≠B->h.get? b=some o->h'.get? b=some o)->G h')(cmp:Tl prog w A.in1 G P lt) :
  ∀(r j:Nat)(s:Shared)(cur:Value)(c:Nat),n-(j+1)=r->j+1<=n->G s.heap->St (j+1) s.heap->P (argBest lt j) cur->s.heap.get? B=some { cls:=.type "list",dict:=none,data:=.seq #[cur,cur] c,slots:=#[] } ->
  (∀v h' tk,P (argBest lt (n-1)) v->(∀b o,b∉wr->b≠B->s.heap.get? b=some o->h'.get? b=some o)->R (.ok (.ret v)) { s with heap:=h',toks:=tk }) ->
  codeAny (model prog w) A (.builtin "min.loop" ⟨[.ref I,.none,.ref B],[]⟩) R s:=by
 have nB:B∉wr:=λ z=>hB (wk.sub _ z);have name:(toString "min"++toString ".loop":String)="min.loop":=by decide
 intro r
 induction r with
 |zero =>
  intro j s cur c hr hj gs st pc gB fin;have hend:j+1=n:=by lia
  refine codeAny_builtin dj ?_;rw[Around.under_plainId bu _];show wpAny (model prog w) A.in1 (seqItems? (.ref B) >>= _) _ _ s;refine wpAny_bind (wpAny_seqItems gB rfl ?_);show wpAny (model prog w) A.in1 (tryCatch (pyNext (.ref I)) _ >>= _) _ _ s;refine wpAny_bind (wpAny_tryCatch (wk.done s _ _ (hend ▸ st) λ h1 tk kp=>?_));have gB1:=kp B _ nB gB;show wpAny (model prog w) A.in1 (updateSeq B (λ_=>#[]) >>= _) _ _ _;refine wpAny_bind ?_;refine wpAny_updateSeq gB1 rfl (wpAny_bind (wpAny_letGo (wpAny_pure ?_)));refine fin cur _ tk (by rw[<-hend];exact pc) λ b o bw bB z=>?_;exact(aV _ _ (Ne.symm bB)).trans (kp b o bw z)
 |succ r ih =>
  intro j s cur c hr hj gs st pc gB fin;have more:j+1<n:=by lia
  refine codeAny_builtin dj ?_;rw[Around.under_plainId bu _];show wpAny (model prog w) A.in1 (seqItems? (.ref B) >>= _) _ _ s;refine wpAny_bind (wpAny_seqItems gB rfl ?_);show wpAny (model prog w) A.in1 (tryCatch (pyNext (.ref I)) _ >>= _) _ _ s;refine wpAny_bind (wpAny_tryCatch (wk.item (j+1) s _ _ more st λ v h1 tk pv st1 kp=>?_));have gB1:=kp B _ nB gB;have gs1:G h1:=hG _ _ gs λ b o bw _ z=>kp b o bw z;show wpAny (model prog w) A.in1 (tryCatch (holding [v,v] (richCompare .Lt v cur >>= _)) _ >>= _) _ _ _;refine wpAny_bind (wpAny_tryCatch (wpAny_holding (wpAny_bind (cmp (j+1) (argBest lt j) v cur _ _ _ gs1 pv pc ?_))));refine wpAny_bind (wpAny_holding (wpAny_truthy_bool (wpAny_bind (wpAny_letGo (wpAny_pure ?_)))));cases q:lt (j+1) (argBest lt j) with
  |true =>
   simp only[if_true];refine wpAny_bind ?_;refine wpAny_updateSeq gB1 rfl (wpAny_bind (wpAny_letGo ?_));rw[name];refine wpAny_pure ⟨plainId_quiet bu _,ih (j+1) _ v _ (by lia) more (hG _ _ gs1 λ b o _ bB z=>?_) (wk.frame _ _ _ st1 λ b bf o z=>?_) (by simp only[argBest,q,if_true];exact pv) (bD _ gB1 rfl) λ v2 h2 tk2 p2 k2=>?_⟩
   .exact(aV _ _ (Ne.symm bB)).trans z
   .have ne:B≠b:=λ z2=>hB (by rw[z2];exact bf);exact(aV _ _ ne).trans z
   .exact fin v2 h2 tk2 p2 λ b o bw bB z=>k2 b o bw bB ((aV _ _ (Ne.symm bB)).trans (kp b o bw z))
  |false =>
   simp only[aU,if_false];refine wpAny_bind (wpAny_letGo ?_);rw[name];refine wpAny_pure ⟨plainId_quiet bu _,ih (j+1) _ cur c (by lia) more gs1 st1 (by simp only[argBest,q,aU,if_false];exact pc) gB1 λ v2 h2 tk2 p2 k2=>?_⟩;exact fin v2 h2 tk2 p2 λ b o bw bB z=>k2 b o bw bB (kp b o bw z)
theorem SG{Q:VPz}{l:Addr}{items:Array Value}{lt:Nat->Nat->Bool}(hh:A.handled=none)(hl:s.heap.IsList l items)(hne:0<items.size)
  (cmp:Tl prog w A.in1 (λ h=>∀b o,s.heap.get? b=some o->h.get? b=some o) (λ i v=>items[i]?=some v) lt)
  (fin:∀v h' tk,items[argBest lt (items.size-1)]?=some v->(∀b o,s.heap.get? b=some o->h'.get? b=some o)->Q v { s with heap:=h',toks:=tk }) :
  wpAny (model prog w) A (call (.builtin "min") [.ref l]) Q E s:=by
 have name:(toString "min"++toString ".loop":String)="min.loop":=by decide
 refine call_function_tree PySem.F.kind_min PySem.F.plain_min PySem.F.entry_min (PySem.F.args_min1 _) ?_;show wpAny (model prog w) A.in1 (Builtin.Builtins.bindParams "min" ["key","default"] 0 ⟨[],[]⟩ >>= _) _ _ s;refine wpAny_bind (wpAny_of_eq (show Builtin.Builtins.bindParams "min" ["key","default"] 0 ⟨[],[]⟩=pure [none,none] from rfl) ?_);refine wpAny_bind (wpAny_pure ?_);refine wpAny_bind (wpAny_pyIter_list hl ?_);refine wpAny_bind (wpAny_newList ?_ (aZ _));rw[name];obtain⟨ol,hol,rl⟩:=id hl;have hlt:l<s.heap.objs.size:=aB hol;have sz:(s.heap.push { cls:=.type "list_iterator",data:=.fields #[.ref l,.int 0 0] }).objs.size=s.heap.objs.size+1:=b7 ..;have wk:=Walks.list (prog:=prog) (w:=w) (A:=A.in1) hh s.heap.objs.size l (aJ hlt) items;have st0:(((s.heap.push { cls:=.type "list_iterator",data:=.fields #[.ref l,.int 0 0] }).push { cls:=.type "list",data:=.seq #[] }).IsListIter s.heap.objs.size l 0)/\((s.heap.push { cls:=.type "list_iterator",data:=.fields #[.ref l,.int 0 0] }).push { cls:=.type "list",data:=.seq #[] }).IsList l items:=⟨⟨_,af _ (aH _ rfl),rfl,rfl⟩,ol,af _ (af _ hol),rl⟩;have nB:(s.heap.push { cls:=.type "list_iterator",data:=.fields #[.ref l,.int 0 0] }).objs.size∉[s.heap.objs.size,l]:=λ z=>by
  rw[sz]at z;rcases aA.mp z with z|z
  .exact absurd z (Nat.succ_ne_self _)
  .have z:=aa.mp z;exact absurd hlt (by rw[<-z];exact Nat.not_lt.mpr (bH _))
 have nW:(s.heap.push { cls:=.type "list_iterator",data:=.fields #[.ref l,.int 0 0] }).objs.size∉[s.heap.objs.size]:=λ z=>nB (by rw[aa.mp z];simp);have old:∀b o,s.heap.get? b=some o->b∉[s.heap.objs.size]/\b≠(s.heap.push { cls:=.type "list_iterator",data:=.fields #[.ref l,.int 0 0] }).objs.size:=λ b o z=>by
  have lt:=aB z;refine⟨λ z2=>?_,λ z2=>?_⟩
  .have z2:=aa.mp z2;rw[z2]at lt;exact absurd lt (bS _)
  .rw[sz]at z2;rw[z2]at lt;exact absurd lt (Nat.not_lt.mpr (bH _))
 have hG:∀h h':Heap,(∀b o,s.heap.get? b=some o->h.get? b=some o)->(∀b o,b∉[s.heap.objs.size]->b≠(s.heap.push { cls:=.type "list_iterator",data:=.fields #[.ref l,.int 0 0] }).objs.size->h.get? b=some o->h'.get? b=some o)->(∀b o,s.heap.get? b=some o->h'.get? b=some o):=λ h h' g k b o z=>k b o (old b o z).1 (old b o z).2 (g b o z);have g0:∀b o,s.heap.get? b=some o->((s.heap.push { cls:=.type "list_iterator",data:=.fields #[.ref l,.int 0 0] }).push { cls:=.type "list",data:=.seq #[] }).get? b=some o:=λ b o z=>af _ (af _ z);have gB:=aH (s.heap.push { cls:=.type "list_iterator",data:=.fields #[.ref l,.int 0 0] }) (o:={ cls:=.type "list",data:=.seq #[] }) rfl;refine wpAny_pure ⟨plainId_quiet bu _,?_⟩;refine codeAny_builtin dj ?_;rw[Around.under_plainId bu _];show wpAny (model prog w) A.in1 (seqItems? (.ref _) >>= _) _ _ _;refine wpAny_bind (wpAny_seqItems gB rfl ?_);show wpAny (model prog w) A.in1 (tryCatch (pyNext (.ref _)) _ >>= _) _ _ _;refine wpAny_bind (wpAny_tryCatch (wk.item 0 _ _ _ hne st0 λ v h1 tk pv st1 kp=>?_));have gB1:=kp _ _ nW gB;show wpAny (model prog w) A.in1 (updateSeq _ (λ_=>#[v,v]) >>= _) _ _ _;refine wpAny_bind ?_;refine wpAny_updateSeq gB1 rfl ?_;rw[name];have g1:∀b o,s.heap.get? b=some o->h1.get? b=some o:=λ b o z=>kp b o (old b o z).1 (g0 b o z);refine wpAny_pure ⟨plainId_quiet bu _,NA wk lt _ nB hG cmp _ 0 _ v _ rfl hne (λ b o z=>(aV _ _ (Ne.symm (old b o z).2)).trans (g1 b o z)) (wk.frame _ _ _ st1 λ b bf o z=>?_) pv (bD _ gB1 rfl) λ v2 h2 tk2 p2 k2=>?_⟩
 .exact(aV _ _ (λ z2=>nB (by rw[z2];exact bf))).trans z
 .exact fin v2 h2 tk2 p2 λ b o z=>k2 b o (old b o z).1 (old b o z).2 ((aV _ _ (Ne.symm (old b o z).2)).trans (g1 b o z))
end
theorem Mj{K:Frag}{a:Addr}{ys:LUz}{g:TG}{tc:TT}{te:TE}{σ:St}{H1:Hp}{acc:Addr}{Qr:Hp->Prop}(Pv:Nat->LUz->St->Hp->Prop)(h0:Pv 0 [] σ (upd H1 acc (.lst [])))
  (hq:∀i xs σ H,i<=ys.length->H acc=some (.lst xs)->Pv i xs σ H->SqL K H a ys)
  (hs:∀i x t xs σ H,ys[i]?=some x->i<ys.length->xs.length<=i->H acc=some (.lst xs)->Pv i xs σ H->H t=none->g (.ref t) σ (upd H t (.tup [.int i,x])) λ σ2 H2=>tc σ2 H2 λ b Hb=>match b with
   |true=>te σ2 Hb λ v H3=>fNx acc ys.length Pv i σ2 v H3
   |false=>fSk acc ys.length Pv i σ2 Hb)
  (hd:∀xs σ H,xs.length<=ys.length->H acc=some (.lst xs)->Pv ys.length xs σ H->Qr H) :
  ∃W:Nat->Nat->St->Hp->Prop,(∃m,W 0 m σ (upd H1 acc (.lst [])))/\∀i m σ1 H2,W i m σ1 H2 ->
   ((Ite K a).stop i H2/\Qr H2)\/((Ite K a).go i H2/\∀x H3,(Ite K a).yld i H2 x H3->g x σ1 H3 λ σ4 H4=>tc σ4 H4 λ b Hb=>match b with
    |true=>te σ4 Hb λ v H5=>∃xs,H5 acc=some (.lst xs)/\xs.length<sizeLine/\∃m',m'<m/\W (i+1) m' σ4 (upd H5 acc (.lst (xs++[v])))
    |false=>∃m',m'<m/\W (i+1) m' σ4 Hb):=by
 refine⟨fW acc ys.length Pv,⟨ys.length,aZ _,rfl,[],aj _,upd_same,h0⟩,?_⟩;rintro i m σ1 H2 ⟨hi,rfl,xs,hl,ha,hp⟩;have hsq:=hq i xs σ1 H2 hi ha hp;rcases bh i ys.length with h|h
 .refine .inr ⟨⟨ys,ys[i],hsq,by simp[h]⟩,λ x H3 y=>?_⟩;obtain⟨t,z,hz,rfl,ht,rfl⟩:=y;exact hs i z t xs σ1 H2 (hz ys hsq) h hl ha hp ht
 .have e:i=ys.length:=cu hi h;subst e;exact .inl ⟨⟨ys,hsq,aj _⟩,hd xs σ1 H2 hl ha hp⟩
structure Ob(K:Frag)(C:Addr):Prop where
 cl:Cls K C
 ha:findIn K (.ref C) "__class__"=some (some (.builtin "object.__class__"))
 hn:specialIn K (.builtin "object.__class__") "__get__"=some (some (.builtin "getset_descriptor.__get__"))
 htk:takesIn K (.builtin "object.__class__")=some true
 hm:mroIn K C (.type "object")=some true
def Itv(K:Frag)(a:Addr)(n:Nat):It :=
 ⟨λ i H=>∃xs,SqL K H a xs/\xs.length=n/\i<n,λ i H x H'=>H'=H/\∀xs,SqL K H a xs->xs[n-1-i]?=some x,λ i H=>n<=i⟩
theorem Oj{P:Program}{w:World}{K:Frag}{tg:Expr}(a it:Addr)(n:Nat):Mr P w K tg (Itv K a n) [it] it (λ i h=>i<=n/\h.IsRevIter it a ((n:Int)-1-i)) where
 mem:=by simp
 obj:=λ i h st b hb=>by
  have e:b=it:=by simpa using hb
  subst e;obtain⟨_,o,e,c,d⟩:=st;exact⟨o,e,λ v z=>by rw[d]at z;cases z⟩
 keep:=λ i h h' st k=>⟨st.1,st.2.at λ o e=>k it (by simp) o e⟩
 item:=by
  intro X hP hw hK hc i pins s σ H E I hf st hg;subst hP hw hK;obtain⟨xs,hq,hn,hi⟩:=hg;obtain⟨hin,st⟩:=st;obtain⟨its,rv,p,hz⟩:=I.list hq;have hx:xs[n-1-i]?=some (xs[n-1-i]'(by lia)):=ag (by lia);obtain⟨u,hu,ru⟩:=rv.get hx;obtain⟨f0,f1,f2,f3,f4,f5⟩:=hf it (by simp);have st':s.heap.IsRevIter it a (((n-1-i:Nat):Int)):=by
   rw[show(((n-1-i:Nat):Int))=(n:Int)-1-i by lia];exact st
  refine wpAny_pyNext_rev_item st' p.isList (x:=u) (by simpa using hu) λ h' st' sb=>?_;have I1:Inv X pins σ H { s with heap:=h' }:=I.turned (t':=s.toks) (λ b o hb e=>(sb.2 b hb).trans e) f0 f1 f3 f4 f5;obtain⟨o,e,c,d⟩:=id st';refine⟨u,rfl,MR (s:={ s with heap:=h' }) e c d (by decide) ⟨_,H,I1,ru,⟨rfl,λ ys hy=>by rw[I.list_inj hy hq];exact hx⟩,⟨by lia,?_⟩,λ b hb=>(hf b hb).1⟩⟩;rw[show(n:Int)-1-((i+1:Nat):Int)=((n-1-i:Nat):Int)-1 by lia];exact st'
 done:=by
  intro X hP hw hK hc i pins s σ H E I hf st hg;subst hP hw hK;obtain⟨hin,st⟩:=st;obtain⟨f0,f1,f2,f3,f4,f5⟩:=hf it (by simp);have e:i=n:=cu hin hg;subst e;rw[show(i:Int)-1-(i:Int)=-1 by lia]at st;exact wpAny_pyNext_rev_end (I.ok.hd hc) st λ h' eb=>⟨rfl,I.turned (t':=s.toks) (λ b o hb e=>eb b o hb e) f0 f1 f3 f4 f5⟩
 self:=λ_ _ _ _ _ st h=>wpAny_pyIter_revIter st.2 h
def TU(K:Frag)(ta:TA):TI:=λ σ H R=>ta σ H λ vs H1=>∃a xs,vs=[.ref a]/\SqL K H1 a xs/\R (Itv K a xs.length) H1
theorem Hw:bootBuiltins "reversed"=some (.type "reversed"):=rfl
section
variable{X:Cx}{tg:Expr}
theorem PV{a:Expr}{ta:TA}{p pos:Pos}(hg:Gl X "reversed")(hm:X.mg "reversed"=none)(ha:PA X [a] ta)(hs:starEach [a] X.env=[(false,eval a X.env)]:=by rfl) :
  PI X tg (.Call (.Name "reversed" p) [a] [] pos) (TU X.K ta):=by
 intro pins s σ H R I h;refine Call_ (Fe I hg hm Hw (PyProof.Rows.callWith_type1 (thn (ha pos pins s σ H _ I h) λ us s1 hz_=>?_) hs rfl));obtain⟨vs,H1,I1,r1,q1⟩:=hz_;obtain⟨b,xs,e,hq,q⟩:=q1;subst e;cases r1 with
 |cons r rr =>
  cases rr;cases r;obtain⟨its,rv,pl,hz⟩:=I1.list hq;have hl:=rv.length;refine call_reversed_list pl.isList ?_;have I2:Inv X pins σ H1 { s1 with heap:=s1.heap.push (revObj b ((its.toArray.size:Int)-1)) }:=I1.kept (t':=s1.toks) λ c o e=>af _ e;refine wpAny_pyIter_revIter (s:={ s1 with heap:=s1.heap.push (revObj b ((its.toArray.size:Int)-1)) }) ⟨_,aH _ rfl,rfl,rfl⟩ ?_;refine⟨s1.heap.objs.size,[s1.heap.objs.size],_,_,H1,rfl,I2,Oj b _ xs.length,⟨aZ _,⟨_,aH _ rfl,rfl,?_⟩⟩,λ c hc=>?_,q⟩
  .show Data.fields _=Data.fields _;rw[show((its.toArray.size:Int)-1)=(xs.length:Int)-1-((0:Nat):Int) by rw[am,<-hl];lia]
  .have e:c=s1.heap.objs.size:=by simpa using hc
   subst e;exact I1.fpOk (aj _) (I1.hok.fresh (aj _))
end
theorem Q1{K:Frag}{a:Addr}{xs:LUz}{g:TG}{tb:TS}{D:CT}{σ:St}{H:Hp}(Pv:Nat->St->Hp->Prop)(h0:Pv 0 σ H)(hl:∀i σ H,i<=xs.length->Pv i σ H->SqL K H a xs)
  (hs:∀i x σ H,xs[xs.length-1-i]?=some x->i<xs.length->Pv i σ H->g x σ H λ σ2 H2=>tb { D with nx:=Pv (i+1),ct:=Pv (i+1),bk:=D.nx } σ2 H2) (hd:∀σ H,Pv xs.length σ H->D.nx σ H) :
  ∃W:Nat->Nat->St->Hp->Prop,(∃m,W 0 m σ H)/\∀i m σ H,W i m σ H ->
   ((Itv K a xs.length).stop i H/\D.nx σ H)\/((Itv K a xs.length).go i H/\∃N:St->Hp->Prop,(∀σ' H',N σ' H'->∃m',m'<m/\W (i+1) m' σ' H')/\∀x H',(Itv K a xs.length).yld i H x H'->g x σ H' λ σ2 H2=>tb { D with nx:=N,ct:=N,bk:=D.nx } σ2 H2):=by
 refine⟨λ i m σ H=>m=xs.length-i/\i<=xs.length/\Pv i σ H,⟨xs.length,by simp,aZ _,h0⟩,?_⟩;rintro i m σ H ⟨rfl,hi,p⟩;have q:=hl i σ H hi p;by_cases hlt:i<xs.length
 .refine .inr ⟨⟨xs,q,rfl,hlt⟩,Pv (i+1),λ σ' H' p'=>⟨xs.length-(i+1),by lia,rfl,hlt,p'⟩,λ x H' y=>?_⟩;obtain⟨e,y⟩:=y;subst e;exact hs i x σ _ (y xs q) hlt p
 .have e:i=xs.length:=by lia
  subst e;exact .inl ⟨aj _,hd σ H p⟩
structure FunD(K:Frag)(x qual:Str)(st:Stmt)(f:Addr)(fd:FuncData):Prop where
 ex:∃(oc:Value)(od:Option Addr)(T:Addr)(kV doc pm:Value)(an:Option Addr)(cdv ct:Value)(osl:AOz)(o:Obj)(n:Nat),
  fd=fnOf x qual (AV st) (Ap st) (Ad st) (.ref T) kV doc pm an cdv ct/\K.lookup f=some ⟨oc,od,.func fd,osl⟩/\codeIn K cdv qual=true/\K.lookup T=some o/\o.data=.seq #[.none] n
 kp:keepIn K (.ref f)=true
section
variable{P:Program}{w:World}{K:Frag}{mg:MGz}{base:Heap}
theorem FunD.ok{x qual:Str}{st:Stmt}{f:Addr}{fd:FuncData}{N ps:LSz}{k:Nat}{sp:Sp}(F:FunD K x qual st f fd)(S:Aj N ps (Ad st))(len:∀vs H Q E,sp vs H Q E->vs.length=ps.length)
  (hbody:∀(cdv:Value)(A:Around)(outer:List Env)(s:Shared)(H:Hp)(vs:LUz)(Q:VK)(E:XK),Room k (A.deeper (envOfC qual (Ad st) s.heap.objs.size f cdv))->sp vs H Q E ->
   ∃t,PSs (Bd CX0 P w K mg base N qual (Ad st) f cdv A outer s H E).nox (Ap st) t/\t { nx:=λ_ H'=>Q .non H',rt:=Q } (start N vs) H):A3 P w K mg base CX0 (k+1) f fd ps sp:=by
 obtain⟨oc,od,T,kV,doc,pm,an,cdv,ct,osl,o,n,rfl,lk,hcd,lT,dT⟩:=F.ex;refine KF lk hcd S len λ A outer s H vs Q E hr hsp=>?_;obtain⟨t,h,q⟩:=hbody cdv A outer s H vs Q E hr hsp;exact⟨t,h.nox,q⟩
theorem FunD.binds{x qual:Str}{st:Stmt}{f:Addr}{fd:FuncData}{ps:LSz}{ds:LWz}(F:FunD K x qual st f fd)
  (h:∀(T:Addr)(kV doc pm:Value)(an:Option Addr)(cdv ct:Value)(us:LWz),(us++ds).length=ps.length->∃k:Option (Array Value)->Sem (List (Str×Value)),
   bindArgs (fnOf x qual (AV st) (Ap st) (Ad st) (.ref T) kV doc pm an cdv ct) ⟨us,[]⟩=seqItems? (.ref T) >>= k/\k (some #[.none])=pure (ps.zip (us++ds))):Binds K fd ps ds:=by
 obtain⟨oc,od,T,kV,doc,pm,an,cdv,ct,osl,o,n,rfl,lk,hcd,lT,dT⟩:=F.ex;intro s us X hl;obtain⟨k,h1,h2⟩:=h T kV doc pm an cdv ct us hl;exact .of_defaults rfl (X _ _ lT) dT h1 h2
end
def PXS(X:Cx)(st:Stmt)(t:XK->TS):Prop:=∀(E:XK)(pins:PNz)(s:Shared)(σ:St)(H:Hp)(D:CT)(Ex:VPz),Inv X pins σ H s->t E D σ H ->
 (∀x T C d H' s',Inv X pins σ H' s'->CU H' x C d T->E (.ref x) d H'->Ex (.ref x) s')->wpAny (model X.prog X.w) X.A (exec st X.env) (SP X pins D) Ex s
def Tu(te:XK->TE):XK->TS:=λ E D σ H=>te E σ H (λ_ H1=>D.nx σ H1)
section
variable{X:Cx}{i im:Nat}{n m g:Str}{G:Addr}{value c:Expr}{b₀ st su:Stmt}{suite:List Stmt}{np apos gp hpos pos:Pos}{te:XK->TE}{ts:TS}{t u:XK->TS}{tc:TT}
theorem O1(he:∀E,PX X value (te E) E)(hsw:swapsWith value none apos.line X.env=pure false:=by rfl):PXS X (.Expr value apos) (Tu te):=by
 intro E pins s σ H D Ex I h hx;exact wpAny_Expr_any (thn (he E pins s σ H _ _ I h hx) λ v s1 ⟨y,H1,I1,r1,q1⟩=>⟨σ,H1,I1,q1⟩) I.quiet hsw
end
theorem DF{H H':Hp}(s:Same H H'){a:Addr}(h:H' a=none):H a=none:=by
 cases e:H a with
 |none=>rfl
 |some o=>rw[s _ _ e]at h;cases h
mutual
def DAt(H:Hp):D->V->Prop
 |.at u,v=>v=u/\Bp u=true
 |.tup ds,v=>∃a xs,v=.ref a/\H a=some (.tup xs)/\Bb H ds xs
 |.lst ds,v=>∃a xs,v=.ref a/\H a=some (.lst xs)/\Bb H ds xs
def Bb(H:Hp):Ds->LUz->Prop
 |.nil,xs=>xs=[]
 |.cons d r,xs=>∃x ys,xs=x::ys/\DAt H d x/\Bb H r ys
end
mutual
theorem CC{H H':Hp}(s:Same H H'):∀(d:D){v:V},DAt H d v->DAt H' d v
 |.at u,v,h=>by rw[DAt]at h |-;exact h
 |.tup ds,v,h=>by
  rw[DAt]at h |-;obtain⟨a,xs,e,q,r⟩:=h;exact⟨a,xs,e,s _ _ q,BU s ds r⟩
 |.lst ds,v,h=>by
  rw[DAt]at h |-;obtain⟨a,xs,e,q,r⟩:=h;exact⟨a,xs,e,s _ _ q,BU s ds r⟩
theorem BU{H H':Hp}(s:Same H H'):∀(ds:Ds){xs:LUz},Bb H ds xs->Bb H' ds xs
 |.nil,xs,h=>by rw[Bb]at h |-;exact h
 |.cons d r,xs,h=>by
  rw[Bb]at h |-;obtain⟨x,ys,e,p,q⟩:=h;exact⟨x,ys,e,CC s d p,BU s r q⟩
end
mutual
theorem Pp{K:Frag}{H:Hp}:∀(d:D){v:V},DAt H d v->DIs K H d v
 |.at u,v,h=>by rw[DAt]at h;rw[DIs];exact h
 |.tup ds,v,h=>by
  rw[DAt]at h;rw[DIs];obtain⟨a,xs,e,q,r⟩:=h;exact⟨a,xs,e,SqT.of q,J2 ds r⟩
 |.lst ds,v,h=>by
  rw[DAt]at h;rw[DIs];obtain⟨a,xs,e,q,r⟩:=h;exact⟨a,xs,e,SqL.of q,J2 ds r⟩
theorem J2{K:Frag}{H:Hp}:∀(ds:Ds){xs:LUz},Bb H ds xs->DIss K H ds xs
 |.nil,xs,h=>by rw[Bb]at h;rw[DIss];exact h
 |.cons d r,xs,h=>by
  rw[Bb]at h;rw[DIss];obtain⟨x,ys,e,p,q⟩:=h;exact⟨x,ys,e,Pp d p,J2 r q⟩
end
theorem Cg{H:Hp}:∀(ds:Ds){xs:LUz},Bb H ds xs->xs.length=ds.len
 |.nil,xs,h=>by rw[Bb]at h;rw[h];rfl
 |.cons d r,xs,h=>by
  rw[Bb]at h;obtain⟨x,ys,rfl,p,q⟩:=h;rw[aD,Cg r q];rfl
theorem KM{H:Hp}:∀(ds:Ds){xs:LUz},Bb H ds xs->∀{i:Nat}{v:V},xs[i]?=some v->DAt H (ds.get i) v
 |.nil,xs,h,i,v,e=>by rw[Bb]at h;rw[h]at e;cases e
 |.cons d r,xs,h,i,v,e=>by
  rw[Bb]at h;obtain⟨x,ys,rfl,p,q⟩:=h;cases i with
  |zero=>cases e;exact p
  |succ i=>exact KM r q e
theorem KL{H:Hp}:∀(ds:Ds){xs:LUz},Bb H ds xs->∀v∈xs,∃i,i<ds.len/\DAt H (ds.get i) v:=λ ds xs h v hv=>by
 obtain⟨i,hi,rfl⟩:=List.getElem_of_mem hv;exact⟨i,by rw[<-Cg ds h];exact hi,KM ds h (ag hi)⟩
def TJ:Const->Option V
 |.none=>some .non
 |.bool b=>some (.bl b)
 |.int i=>some (.int i)
 |.str s=>some (.str s)
 |_=>none
def DG(f:Expr->Option D):List Expr->Option Ds
 |[]=>some .nil
 |e::es=>(f e).bind λ d=>(DG f es).map (.cons d)
theorem D6{f:Expr->Option D}:∀{es:List Expr}{ds:Ds},DG f es=some ds->ds.len=es.length
 |[],ds,h=>by cases h;rfl
 |e::es,ds,h=>by
  rw[DG]at h;obtain⟨d,h1,h2⟩:=cm.mp h;obtain⟨r,h3,rfl⟩:=aN.mp h2;show r.len+1=_;rw[D6 h3];rfl
def D3(c:Addr)(q:Str):HO:=.ext λ h=>∃o vs t,h.get? c=some o/\o.data=.fields vs/\vs[1]?=some (.str q t)
def B3(f:Addr)(o:Obj):HO:=.ext λ h=>h.get? f=some o
theorem NV{P:Program}{w:World}{H:Hp}{h:Heap}{c:Addr}{q:Str}(x:ObjOk P w H h c (D3 c q)):h.CodeRec (.ref c) q:=by
 obtain⟨⟨o,vs,t,e,d,v⟩,_⟩:=x;exact⟨c,o,vs,t,rfl,e,d,v⟩
theorem Pr{P:Program}{w:World}{H:Hp}{h:Heap}{c:Addr}{q:Str}(x:h.CodeRec (.ref c) q):ObjOk P w H h c (D3 c q):=by
 obtain⟨c',o,vs,t,e,g,d,v⟩:=x;cases e;exact⟨⟨o,vs,t,g,d,v⟩,⟨o,g⟩,λ h1 h2 ⟨o,vs,t,e,d,v⟩ k=>⟨o,vs,t,k o e,d,v⟩⟩
theorem Jn{P:Program}{w:World}{H:Hp}{h:Heap}{f:Addr}{o:Obj}(x:h.get? f=some o):ObjOk P w H h f (B3 f o):=⟨x,⟨o,x⟩,λ h1 h2 e k=>k o e⟩
section
variable{X:Cx}{pins:PNz}{σ:St}{H:Hp}{s:Shared}{h1:Heap}
theorem Inv.grow{T c':Addr}{ps more:Array Value}{o:HO}{t':Nat}(I:Inv X pins σ H s)(hT:H T=some (.tbl ps))(k:∀b u,b≠T->s.heap.get? b=some u->h1.get? b=some u)(eT:h1.get? T=some (tabObj (ps++more)))
  (hc:s.heap.objs.size<=c') (new:ObjOk X.prog X.w (upd (upd H T (.tbl (ps++more))) c' o) h1 c' o):Inv X pins σ (upd (upd H T (.tbl (ps++more))) c' o) { s with heap:=h1,toks:=t' }:=by
 have hn:H c'=none:=I.hok.fresh hc;have nT:T≠c':=Ah hT hn;have ne:∀{b:Addr}{u:HO},H b=some u->(∀ps,u≠.tbl ps)->b≠T:=λ{b u} e nu z=>by rw[z,hT]at e;cases e;exact nu _ rfl
 have to:∀{b:Addr}{u:HO},H b=some u->(∀ps,u≠.tbl ps)->(upd (upd H T (.tbl (ps++more))) c' o) b=some u:=λ{b u} e nu=>by rw[Af (Ah e hn),Af (ne e nu)];exact e
 refine I.un ⟨λ b u q n _ _=>k b u (λ z=>by rw[z,hT]at n;cases n) q,λ b u q n _ _=>⟨u.slots,k b u (λ z=>by rw[z,hT]at n;cases n) q⟩,λ b u q n _=>?_,λ b u q _=>?_,
  λ b xs q=>to q (λ_ z=>nomatch z),λ b u xs q=>to q (λ_ z=>nomatch z),λ b ps' q=>?_⟩ λ b u e=>?_
 .rw[Af (aJ (aQ (aB q) hc)),Af (λ z=>by rw[z,hT]at n;cases n)];exact n
 .by_cases z:b=T
  .exact⟨_,by rw[z];exact eT⟩
  .exact⟨u,k b u z q⟩
 .by_cases z:b=T
  .subst z;rw[hT]at q;cases q;exact⟨more,by rw[Af nT,upd_same]⟩
  .exact⟨#[],by rw[Af (Ah q hn),Af z,q];simp⟩
 .by_cases z:b=c'
  .subst z;rw[upd_same]at e;cases e;exact new
  .rw[Af z]at e;by_cases zT:b=T
   .subst zT;rw[upd_same]at e;cases e;exact eT
   .rw[Af zT]at e;refine(I.hok b u e).stay (λ c v hcb r=>k c v ?_ r) (λ c r=>to r (λ_ z=>nomatch z)) λ c xs r=>to r (λ_ z=>nomatch z);rcases hcb with rfl|hcb
    .exact zT
    .exact ne hcb (λ_ z=>nomatch z)
end
structure Sf(K:Frag)(mg:MGz):Prop where
 ex:∃bm sl,mg "__builtins__"=some (.ref bm)/\bm≠builtinsNs/\bm≠mainGlobals/\K.lookup bm=some ⟨.type "module",some builtinsNs,.plain,sl⟩
abbrev BK(mg:MGz)(qual:Str)(params:Arguments)(body:Expr)(scope:Scope)(clos:List (Str×Addr))(c':Addr)(ctv:Value):Obj:=kla_obj "<lambda>" qual params body scope clos ((mg "__name__").getD .none) c' ctv
def Sq(mg:MGz)(T:Addr)(pos:Pos)(params:Arguments)(body:Expr)(scope:Scope)(clos:List (Str×Addr))(qual:Str):TE:=λ σ H Q=>∃ps,H T=some (.tbl ps)/\TriplesOk ps.toList /\
 ((codeAmong pos ps.toList=none/\∀c' f ctv,H c'=none->H f=none->c'≠f->c'≠T->f≠T->Q (.ref f) (upd (upd (upd H T (.tbl (ps++#[rawInt pos.line,rawInt pos.col,.ref c']))) c' (D3 c' qual)) f (B3 f (BK mg qual params body scope clos c' ctv)))) \/
  ∃c',codeAmong pos ps.toList=some (.ref c')/\H c'=some (D3 c' qual)/\∀f ctv,H f=none->Q (.ref f) (upd H f (B3 f (BK mg qual params body scope clos c' ctv))))
section
variable{X:Cx}
theorem R5{params:Arguments}{body:Expr}{scope:Scope}{pos:Pos}{c T:Addr}{clos:List (Str×Addr)}{qual:Str}(hcode:X.env.code=.ref c)(hC:∀h,X.K.In h->CodeHd h c T)(hB:Sf X.K X.mg)(hdef:defaultsOf params X.env=([],[]))
  (hcl:closureFor scope X.env=pure clos) (hq:X.env.qual++"<lambda>"=qual):PE X (.Lambda params body scope pos) (Sq X.mg T pos params body scope clos qual):=by
 intro pins s σ H Q I h;obtain⟨ps,hT,ht,alt⟩:=h;have hP:s.heap.get? T=some (tabObj ps):=I.hok T _ hT;have hg:s.heap.Ns mainGlobals X.mg:=I.mod.glob.keeps I.bk;obtain⟨bm,sl,b1,b2,b3,b4⟩:=hB.ex;have hbm:X.base.get? bm=some ⟨.type "module",some builtinsNs,.plain,sl⟩:=I.mod.kin bm _ b4;have hbT:bm≠T:=λ z=>by
  have:=(I.bs bm _ hbm).2;rw[z,hT]at this;cases this
 have hgT:mainGlobals≠T:=λ z=>by
  obtain⟨o,es,ep,e,_⟩:=I.mod.glob;have:=(I.bs _ _ e).2;rw[z,hT]at this;cases this
 have hb:s.heap.BuiltinsAt X.mg T:=⟨bm,_,b1,b2,b3,hbT,I.bk bm _ hbm,rfl,rfl,rfl⟩;refine kla_eval hdef ?_;rw[hq];rcases alt with ⟨hnf,q⟩|⟨c',hf,hc',q⟩
 .refine kla_makeFunction hcl I.ok.glob hg hcode (hC _ I.kIn) hP ht hnf hgT hb λ c' ctv h' tk hx hge hlt hrec htb=>?_;have I1:=I.grow (t':=tk) (h1:=h') (c':=c') (o:=D3 c' qual) (more:=#[rawInt pos.line,rawInt pos.col,.ref c']) hT (λ b u nb e=>hx b u nb e) htb hge (Pr hrec);have hn:H c'=none:=I.hok.fresh hge;have hnf':H h'.objs.size=none:=I.hok.fresh (aS hge (ba hlt));have I2:=I1.laid (a:=h'.objs.size) (o:=B3 h'.objs.size (BK X.mg qual params body scope clos c' ctv)) (t':=tk) (h':=h'.push (BK X.mg qual params body scope clos c' ctv)) (λ b u e=>af _ e) (aj _) (Jn (aH _ rfl));exact⟨.ref h'.objs.size,_,I2,rfl,q c' h'.objs.size ctv hn hnf' (aJ hlt) (Ne.symm (Ah hT hn)) (Ne.symm (Ah hT hnf'))⟩
 .refine kla_makeFunctionHit hcl I.ok.glob hg hcode (hC _ I.kIn) hP ht hf hb λ ctv h' tk hk hsz=>?_;have hnf':H h'.objs.size=none:=I.hok.fresh hsz;have I1:=I.kept (t':=tk) hk;have I2:=I1.laid (a:=h'.objs.size) (o:=B3 h'.objs.size (BK X.mg qual params body scope clos c' ctv)) (t':=tk) (h':=h'.push (BK X.mg qual params body scope clos c' ctv)) (λ b u e=>af _ e) (aj _) (Jn (aH _ rfl));exact⟨.ref h'.objs.size,_,I2,rfl,q h'.objs.size ctv hnf'⟩
end
theorem E5{α β:Type}{f:α->β}{l m:List β}(h:l.Perm m):∀ts:List α,m=ts.map f->∃ts':List α,ts'.Perm ts/\l=ts'.map f:=by
 induction h with
 |nil =>
  intro ts e;rw[List.map_eq_nil_iff.mp e.symm];exact⟨[],.nil,rfl⟩
 |cons x p ih =>
  intro ts e;obtain⟨t,r,rfl,e1,e2⟩:=dF.mp e.symm;obtain⟨r',p',e'⟩:=ih r e2.symm;exact⟨t::r',p'.cons t,by rw[e',aL,e1]⟩
 |swap x y l =>
  intro ts e;obtain⟨t,r,rfl,e1,e2⟩:=dF.mp e.symm;obtain⟨u,q,rfl,e3,e4⟩:=dF.mp e2;exact⟨u::t::q,cr _ _ _,by rw[aL,aL,e1,e3,e4]⟩
 |trans p q ih1 ih2 =>
  intro ts e;obtain⟨t2,p2,e2⟩:=ih2 ts e;obtain⟨t1,p1,e1⟩:=ih1 t2 e2;exact⟨t1,p1.trans p2,e1⟩
def Py(Ts:List Addr)(H:Hp):Prop:=(∀b,H b=none\/(∃o xs,H b=some (.frz o (.lst xs)))\/(b∈Ts/\H b=some (.tbl #[])))/\∀T∈Ts,H T=some (.tbl #[])
theorem JB{h:Heap}{c T:Addr}(x:CodeHd h c T):isCodeTable h T:=by
 obtain⟨o,vs,file,tf,flags,tg,inF,text,tt,e1,e2,e3,e4,_⟩:=x;exact⟨c,o,vs,e1,e2,e3,e4⟩
theorem law_callT{P:Program}{w:World}{K:Frag}{mg mb:MGz}{CX:CXT}{k:Nat}{fa a:Addr}{fd:FuncData}{x:Str}{sp:Sp}{s₁:Shared}{vs:LWz}{ns:List Int}{Ts:List Addr}
  (KX:K.In s₁.heap) (hns:s₁.heap.Ns mainGlobals mg) (hb:s₁.heap.Ns builtinsNs mb) (hbb:∀x:Str,x≠"__name__"->mb x=bootBuiltins x) (hlim:s₁.heap.NoLimit) (hg:s₁.gens=#[])
  (ha:s₁.heap.get? a=some { cls:=.type "list",data:=.seq vs.toArray }) (hi:IntsAre vs ns) (hl:ns.length<=sizeLine) (hr:Room k callerA)
  (hT:∀T∈Ts,s₁.heap.get? T=some (tabObj #[])/\K.lookup T=none/\∃c,CodeHd s₁.heap c T)
  (F:∀base:Heap,K.In base->base.Ns mainGlobals mg->A3 P w K mg base CX k fa fd [x] sp) (hbind:∀(s:Shared)(u:Value),BindsTo s fd ⟨[u],[]⟩ [(x,u)])
  (hsp:∀H:Hp,Py Ts H->SqL K H a (ns.map V.int)->sp [.ref a] H (λ v _=>v=.bl true) λ_ _ _=>False)
  (hCX:∀H e s',CX [] H s₁ (λ_ _ _=>False) e s'->False) :
  codeAny (model P w) callerA (.call (.ref fa) ⟨[.ref a],[]⟩) (λ r s'=>r=.ok (.ret (.bool true))/\OldK s₁.heap s'.heap/\s'.os=s₁.os/\AllBare s'.gens) s₁:=by
 have rv:=Hz hi;have lenV:=hi.length;have core:∀H:Hp,Py Ts H->SqL K H a (ns.map V.int)->HOk P w H s₁.heap->(∀b,H b≠none->b=a\/b∈Ts)->(H a≠none->K.lookup a=none) ->
   codeAny (model P w) callerA (.call (.ref fa) ⟨[.ref a],[]⟩) (λ r s'=>r=.ok (.ret (.bool true))/\OldK s₁.heap s'.heap/\s'.os=s₁.os/\AllBare s'.gens) s₁:=by
  intro H hO hS hok hA hK;have base_of:∀{b:Addr}{o:Obj},s₁.heap.get? b=some o->H b=none->(Jv s₁.heap H).get? b=some o:=λ e n=>OW e n;have noA:∀{b:Addr}{o:Obj}{es:Array DictEntry}{ep:Nat},s₁.heap.get? b=some o->o.data=.dict es ep->H b=none:=λ{b o es ep} e d=>by
   cases q:H b with
   |none=>rfl
   |some u =>
    rcases hA b (by rw[q];simp) with e'|e'
    .subst e';rw[ha]at e;cases e;have d':Data.seq vs.toArray _=Data.dict es ep:=d;cases d'
    .rw[(hT b e').1]at e;cases e;cases d
  have nsK:∀{b:Addr}{m:MGz},s₁.heap.Ns b m->(Jv s₁.heap H).Ns b m:=λ{b m} ⟨o,es,ep,e,d,r⟩=>⟨o,es,ep,base_of e (noA e d),d,r⟩;have hKb:K.In (Jv s₁.heap H):=λ b o e=>base_of (KX b o e) (by
   cases q:H b with
   |none=>rfl
   |some u =>
    rcases hA b (by rw[q];simp) with e'|e'
    .subst e';rw[hK (by rw[q];simp)]at e;cases e
    .rw[(hT b e').2.1]at e;cases e)
  have hM:Mod K mg (Jv s₁.heap H):=⟨hKb,nsK hns,⟨mb,nsK hb,hbb⟩,let ⟨mc,h1,h2⟩:=hlim;⟨mc,nsK h1,h2⟩⟩;have e0:Env0 P w K mg (Jv s₁.heap H) callerA [] s₁ H:=⟨rfl,hM,λ b o e=>Qj e,cb (NL _ _),trivial,λ b hb=>absurd (show b∈([]:List Addr) from hb) (by simp),hok,.of_eq hg⟩;refine codeAny_mono ((F _ hKb (nsK hns)).run callerA [] s₁ H ⟨[.ref a],[]⟩ [.ref a] [.ref a] _ _ hr e0 (hbind s₁ (.ref a)) (.cons rfl .nil) (hsp H hO hS)) λ r s' h=>?_;cases r with
  |error e=>exact(hCX H e s' h).elim
  |ok fl =>
   cases fl with
   |next=>exact False.elim h
   |brk=>exact False.elim h
   |cont=>exact False.elim h
   |ret u =>
    obtain⟨v,H',os,bare,un,hok',r',q⟩:=h;have q':v=.bl true:=q;subst q';obtain rfl:u=Value.bool true:=r';have old:∀b o,s₁.heap.get? b=some o->asItWas s₁.heap s'.heap b o/\∃o',s'.heap.get? b=some o':=λ b o e=>by
     cases q:H b with
     |none =>
      have:=un.keep b o e q (by intro z;exact absurd (show b∈([]:List Addr) from z) (by simp)) (by simp);exact⟨.inl this,_,this⟩
     |some u =>
      rcases hO.1 b with z|⟨ob,xs,z⟩|⟨hb',z⟩
      .rw[q]at z;cases z
      .have z2:=un.frzs b ob _ z;obtain⟨e1,_⟩:=hok b _ z;obtain⟨e2,_⟩:=hok' b _ z2;rw[e]at e1;cases e1;exact⟨.inl e2,_,e2⟩
      .obtain⟨more,z2⟩:=un.tbls b #[] z;have e2:s'.heap.get? b=some (tabObj (#[]++more)):=hok' b _ z2;obtain⟨e1,_,c,hc⟩:=hT b hb';rw[e]at e1;cases e1;exact⟨.inr (.inl ⟨JB hc,rfl,#[],more,rfl,e2⟩),_,e2⟩
    exact⟨rfl,⟨λ b o e=>(old b o e).1,λ b o e=>(old b o e).2⟩,os,bare⟩
 have aT:a∉Ts:=λ z=>by
  have e:=(hT a z).1;rw[ha]at e;cases e
 have tblT:∀T∈Ts,∀H:Hp,ObjOk P w H s₁.heap T (.tbl #[]):=λ T z H=>(hT T z).1;cases hk:K.lookup a with
 |some o =>
  have e:=KX a o hk;rw[ha]at e;cases e;refine core (λ b=>if b∈Ts then some (.tbl #[]) else none) ⟨λ b=>?_,λ T z=>if_pos z⟩ (.inr ⟨_,vs.toArray,_,hk,rfl,rfl,rfl,by rw[am,lenV];exact hl,by simpa using rv⟩) (λ b u z=>?_) (λ b z=>?_) λ z=>absurd (if_neg aT) z
  .by_cases hb:b∈Ts
   .exact .inr (.inr ⟨hb,if_pos hb⟩)
   .exact .inl (if_neg hb)
  .by_cases hb:b∈Ts
   .have z':=(if_pos hb).symm.trans z;cases z';exact tblT b hb _
   .have z':=(if_neg hb).symm.trans z;cases z'
  .by_cases hb:b∈Ts
   .exact .inr hb
   .exact absurd (if_neg hb) z
 |none =>
  refine core (λ b=>if b=a then some (.frz { cls:=.type "list",data:=.seq vs.toArray } (.lst (ns.map V.int))) else if b∈Ts then some (.tbl #[]) else none) ⟨λ b=>?_,λ T z=>?_⟩ (.inl (.inr ⟨{ cls:=.type "list",data:=.seq vs.toArray },if_pos rfl⟩)) (λ b u z=>?_) (λ b z=>?_) λ_=>hk
  .by_cases hb:b=a
   .exact .inr (.inl ⟨_,_,if_pos hb⟩)
   .by_cases hb2:b∈Ts
    .exact .inr (.inr ⟨hb2,(if_neg hb).trans (if_pos hb2)⟩)
    .exact .inl ((if_neg hb).trans (if_neg hb2))
  .have ne:¬T=a:=λ e=>aT (by rw[<-e];exact z);exact(if_neg ne).trans (if_pos z)
  .by_cases hb:b=a
   .have z':=(if_pos hb).symm.trans z;cases z';subst hb;exact⟨ha,by rw[ae];exact hl,vs,_,rv,ha⟩
   .by_cases hb2:b∈Ts
    .have z':=((if_neg hb).trans (if_pos hb2)).symm.trans z;cases z';exact tblT b hb2 _
    .have z':=((if_neg hb).trans (if_neg hb2)).symm.trans z;cases z'
  .by_cases hb:b=a
   .exact .inl hb
   .by_cases hb2:b∈Ts
    .exact .inr hb2
    .exact absurd ((if_neg hb).trans (if_neg hb2)) z
theorem walk_ofT{l:OpenLaw}{n k:Nat}{q:Program}{loose:LSz}{XP:(MGz)->Heap->Prop}{YP:World->Heap->Prop}{d:DefRec}{K:Params->Frag}{CX:World->CXT}{sp:World->Sp}{x:Str}{Ts:List Addr}
  (hn:l.most=some n) (hn2:n<=sizeLine) (hdf:d.params.defaults=[]) (hr:Room k callerA)
  (hY:∀(w:World)(h:Heap),YP w h->(K w.params).In h) (hT:∀(w:World)(h:Heap),YP w h->∀T∈Ts,h.get? T=some (tabObj #[])/\(K w.params).lookup T=none/\∃c,CodeHd h c T)
  (F:∀(w:World)(mg:MGz)(fa:Addr)(h:Heap),(K w.params).In h->h.Ns mainGlobals mg->mg d.name=some (.ref fa) ->
   ∃fd:FuncData,(∀(s:Shared)(u:Value),BindsTo s fd ⟨[u],[]⟩ [(x,u)]) /\
    ∀base:Heap,(K w.params).In base->base.Ns mainGlobals mg->A3 l.prog w (K w.params) mg base (CX w) k fa fd [x] (sp w))
  (hsp:∀(w:World)(H:Hp)(a:Addr)(ns:List Int),ns.length<=n->Py Ts H->SqL (K w.params) H a (ns.map V.int)->sp w [.ref a] H (λ v _=>v=.bl true) λ_ _ _=>False)
  (hCX:∀(w:World)(H:Hp)(s:Shared)(e:Value)(s':Shared),CX w [] H s (λ_ _ _=>False) e s'->False) :
  WalkO q loose XP YP l.row.toRowW d [] (λ f vs=>PySem.call f vs):=by
 refine Att.attach_call hn hdf λ w s₀ s₁ mg mb fa o pm cd doc a vs ns G Y ho hd hcd hmg hobj hints hlen hg=>?_;have KX:=hY w _ Y;obtain⟨fd,hb,hF⟩:=F w mg fa _ KX G.T.g hmg;exact law_callT KX G.T.g G.T.b G.T.builtins G.T.nolimit hg hobj hints (aS hlen hn2) hr (hT w _ Y) hF hb (λ H hO hS=>hsp w H a ns hlen hO hS) λ H e s'=>hCX w H s₁ e s'
structure FunC(K:Frag)(x qual:Str)(st:Stmt)(f:Addr)(fd:FuncData)(c:Addr):Prop where
 ex:∃(oc:Value)(od:Option Addr)(kV doc pm:Value)(an:Option Addr)(ct:Value)(osl:AOz),
  fd=fnOf x qual (AV st) (Ap st) (Ad st) .none kV doc pm an (.ref c) ct/\K.lookup f=some ⟨oc,od,.func fd,osl⟩/\codeIn K (.ref c) qual=true
 kp:keepIn K (.ref f)=true
section
variable{P:Program}{w:World}{K:Frag}{mg:MGz}{base:Heap}{x qual:Str}{st:Stmt}{f c:Addr}{fd:FuncData}{N ps:LSz}{k:Nat}{sp:Sp}
theorem FunC.fn(F:FunC K x qual st f fd c):Fun K x qual st f fd:=by
 obtain⟨oc,od,kV,doc,pm,an,ct,osl,e,lk,hcd⟩:=F.ex;exact⟨⟨oc,od,kV,doc,pm,an,.ref c,ct,osl,e,lk,hcd⟩,F.kp⟩
theorem Qy{oc:Value}{od an:Option Addr}{osl:AOz}{kV doc pm cdv ct:Value}(l:K.lookup f=some ⟨oc,od,.func (fnOf x qual (AV st) (Ap st) (Ad st) .none kV doc pm an cdv ct),osl⟩)
  (cc:codeIn K cdv qual=true) (kp:keepIn K (.ref f)=true) (e:cdv=.ref c):FunC K x qual st f (fnOf x qual (AV st) (Ap st) (Ad st) .none kV doc pm an cdv ct) c:=by
 subst e;exact⟨⟨oc,od,kV,doc,pm,an,ct,osl,rfl,l,cc⟩,kp⟩
end
def JC(K:Frag)(c T:Addr):Bool:=match K.lookup c with
 |some o=>match o.data with
  |.fields vs=>(o.cls==.type "code")&&(vs[11]?==some (.ref T))&&(match vs.getD 18 .none with|.str _ _=>true|_=>false)&&(match vs.getD 7 .none with|.int _ _=>true|_=>false)&&(match vs.getD 9 .none with|.bool _=>true|_=>false)&&(match vs.getD 10 .none with|.int _ _=>true|_=>false)&&(c != T)
  |_=>false
 |none=>false
theorem codeTB_of{K:Frag}{c T:Addr}(h:JC K c T=true):∀hp:Heap,K.In hp->CodeHd hp c T:=λ hp KX=>by
 unfold JC at h;cases e:K.lookup c with
 |none=>rw[e]at h;cases h
 |some o =>
  rw[e]at h;cases d:o.data with
  |fields vs =>
   simp only[d,aP]at h;obtain⟨⟨⟨⟨⟨⟨h1,h2⟩,h3⟩,h4⟩,h5⟩,h6⟩,h7⟩:=h;have h2:vs[11]?=some (.ref T):=eq_of_beq h2;have e18:∃a b,vs.getD 18 .none=.str a b:=by
    generalize vs.getD 18 .none=v at h3;cases v with
    |str a b=>exact⟨a,b,rfl⟩
    |_=>cases h3
   have e7:∃a b,vs.getD 7 .none=.int a b:=by
    generalize vs.getD 7 .none=v at h4;cases v with
    |int a b=>exact⟨a,b,rfl⟩
    |_=>cases h4
   have e9:∃a,vs.getD 9 .none=.bool a:=by
    generalize vs.getD 9 .none=v at h5;cases v with
    |bool a=>exact⟨a,rfl⟩
    |_=>cases h5
   have e10:∃a b,vs.getD 10 .none=.int a b:=by
    generalize vs.getD 10 .none=v at h6;cases v with
    |int a b=>exact⟨a,b,rfl⟩
    |_=>cases h6
   obtain⟨f1,f2,e18⟩:=e18;obtain⟨g1,g2,e7⟩:=e7;obtain⟨i1,e9⟩:=e9;obtain⟨t1,t2,e10⟩:=e10;refine⟨o,vs,f1,f2,g1,g2,i1,t1,t2,KX c o e,eq_of_beq h1,d,h2,?_,e18,e7,e9,e10,?_⟩
   .rw[cX,h2];rfl
   .intro z;rw[z]at h7;simp at h7
  |_=>simp only[d]at h;cases h
def SameN(H H':Hp):Prop:=∀a o,H a=some o->(∀ps,o≠.tbl ps)->H' a=some o
theorem SameN.tup{H H':Hp}(s:SameN H H'){a:Addr}{xs:LUz}(e:H a=some (.tup xs)):H' a=some (.tup xs):=s a _ e λ_ z=>nomatch z
theorem SameN.lst{H H':Hp}(s:SameN H H'){a:Addr}{xs:LUz}(e:H a=some (.lst xs)):H' a=some (.lst xs):=s a _ e λ_ z=>nomatch z
def TabOk(pos:Pos)(qual:Str)(T:Addr)(H:Hp):Prop:=∃ps,H T=some (.tbl ps)/\TriplesOk ps.toList/\(codeAmong pos ps.toList=none\/∃c',codeAmong pos ps.toList=some (.ref c')/\H c'=some (D3 c' qual))
theorem TabOk.same{pos:Pos}{qual:Str}{T:Addr}{H H':Hp}(h:TabOk pos qual T H)(s:Same H H'):TabOk pos qual T H':=by
 obtain⟨ps,e,t,c⟩:=h;refine⟨ps,s _ _ e,t,?_⟩;rcases c with c|⟨c',c1,c2⟩
 .exact .inl c
 .exact .inr ⟨c',c1,s _ _ c2⟩
theorem TabOk.new{pos:Pos}{qual:Str}{T:Addr}{H:Hp}(h:H T=some (.tbl #[])):TabOk pos qual T H:=⟨#[],h,trivial,.inl rfl⟩
theorem Em{a b c:Int}{t u:Tok}{v:Value}:∀(l:LWz),TriplesOk l->TriplesOk (l++[.int a t,.int b u,v])
 |[],_=>trivial
 |.int _ _::.int _ _::_::rest,h=>Em (c:=c) rest h
section
variable{X:Cx}
def P0(X:Cx)(A:Around)(σ:St)(H:Hp)(kvs:LUz)(kd:SortKind)(κ:Value->Int):Prop:=∀(ks:LWz)(pins:PNz)(s:Shared),Vals kvs ks->Inv X pins σ H s ->
 (∀(C:SortKind->Shared->Prop)(E:VPz),2<=ks.length->C kd s->wpAny (model X.prog X.w) A (keyKind' ks.toArray) C E s) /\
 ∀x∈ks,∀y∈ks,∀C:Bool->Shared->Prop,C (decide (κ x<κ y)) s->wpAny (model X.prog X.w) A (keyLt' kd x y) C (λ_ _=>False) s
end
def AT:List Int->Ds
 |[]=>.nil
 |i::r=>.cons (.at (.int i)) (AT r)
theorem D8{K:Frag}{H:Hp}:∀(ns:List Int),DIss K H (AT ns) (ns.map V.int)
 |[]=>by
  show DIss K H .nil [];rw[DIss]
 |i::r=>by
  show DIss K H (.cons (.at (.int i)) (AT r)) (.int i::r.map V.int);rw[DIss];exact⟨_,_,rfl,by rw[DIs];exact⟨rfl,rfl⟩,D8 r⟩
theorem Ed:∀(ns:List Int),Bw (AT ns)=0
 |[]=>by rw[AT,Bw]
 |i::r=>by rw[AT,Bw,dep,Ed r];rfl
theorem Fg:∀(ns ms:List Int),Cy (AT ns) (AT ms)=decide (ns=ms)
 |[],[]=>by rw[AT,Cy,decide_eq_true rfl]
 |[],j::q=>by rw[AT,AT,Cy,decide_eq_false (by intro z;cases z)]<;>(intros;contradiction)
 |i::r,[]=>by rw[AT,AT,Cy,decide_eq_false (by intro z;cases z)]<;>(intros;contradiction)
 |i::r,j::q=>by
  rw[AT,AT,Cy,Fg r q,deq];by_cases h:i=j
  .subst h;by_cases h2:r=q
   .subst h2;simp[eqV]
   .rw[decide_eq_false h2,decide_eq_false (λ z=>h2 (List.cons.inj z).2),cC]
  .rw[decide_eq_false (λ z=>h (List.cons.inj z).1)];have:eqV (.int i) (.int j)=false:=by simp[eqV,h]
   rw[this];rfl
end L2
namespace HT
open PySem.W
open PySem PySem.Spec PyProof.Rows
end HT
namespace L2
open PySem.W
open PySem PySem.Spec PyProof.Rows
theorem Rr{n:Nat}(h:n<=30000):n<sizeLine:=bL h (by decide)
section
variable{P:Program}{w:World}{K:Frag}{mg:MGz}{base:Heap}{x qual:Str}{st:Stmt}{f c:Addr}{fd:FuncData}{N ps:LSz}{k:Nat}{sp:Sp}
theorem FunC.ok(F:FunC K x qual st f fd c)(S:Aj N ps (Ad st))(len:∀vs H Q E,sp vs H Q E->vs.length=ps.length)
  (hbody:∀(A:Around)(outer:List Env)(s:Shared)(H:Hp)(vs:LUz)(Q:VK)(E:XK),Room k (A.deeper (envOfC qual (Ad st) s.heap.objs.size f (.ref c)))->sp vs H Q E ->
   ∃t,PSs (Bd CX0 P w K mg base N qual (Ad st) f (.ref c) A outer s H E).nox (Ap st) t/\t { nx:=λ_ H'=>Q .non H',rt:=Q } (start N vs) H):A3 P w K mg base CX0 (k+1) f fd ps sp:=by
 obtain⟨oc,od,kV,doc,pm,an,ct,osl,rfl,lk,hcd⟩:=F.ex;refine KF lk hcd S len λ A outer s H vs Q E hr hsp=>?_;obtain⟨t,h,q⟩:=hbody A outer s H vs Q E hr hsp;exact⟨t,h.nox,q⟩
end
def tkd(H:Hp)(L:PNz):Hp:=λ a=>match L.lookup a with|some o=>some (B3 a o)|none=>H a
def utk(H:Hp)(L:PNz):Hp:=λ a=>match L.lookup a with|some _=>none|none=>H a
section
variable{P:Program}{w:World}{H H':Hp}{h h':Heap}{a:Addr}{o:Obj}{L:PNz}{fs:List Addr}
theorem Ge(e:L.lookup a=some o):tkd H L a=some (B3 a o):=by unfold tkd;rw[e]
theorem AH(e:L.lookup a=none):tkd H L a=H a:=by unfold tkd;rw[e]
theorem EM(e:L.lookup a=some o):utk H L a=none:=by unfold utk;rw[e]
theorem Be(e:L.lookup a=none):utk H L a=H a:=by unfold utk;rw[e]
theorem C1(e:H a=none):utk H L a=none:=by
 cases q:L.lookup a with
 |none=>rw[Be q];exact e
 |some o=>exact EM q
theorem Do{u:HO}(hL:∀a o,L.lookup a=some o->H a=none)(e:H a=some u):L.lookup a=none:=by
 cases q:L.lookup a with
 |none=>rfl
 |some o=>rw[hL a o q]at e;cases e
theorem D5{u:HO}(hL:∀a o,L.lookup a=some o->H a=some (B3 a o))(e:H a=some u)(n:∀o,u≠B3 a o):L.lookup a=none:=by
 cases q:L.lookup a with
 |none=>rfl
 |some o=>rw[hL a o q]at e;cases e;exact absurd rfl (n o)
theorem HOk.tkd(hok:HOk P w H h)(hL:∀a o,L.lookup a=some o->H a=none)(hc:∀a o,L.lookup a=some o->h.get? a=some o):HOk P w (tkd H L) h:=λ a u e=>by
 cases q:L.lookup a with
 |some o =>
  rw[Ge q]at e;cases e;exact Jn (hc a o q)
 |none =>
  rw[AH q]at e;exact(hok a u e).stay (λ_ _ _ z=>z) (λ b z=>by rw[AH (Do hL z)];exact z) (λ b xs z=>by rw[AH (Do hL z)];exact z)
theorem HOk.utk(hok:HOk P w H h)(hL:∀a o,L.lookup a=some o->H a=some (B3 a o)):HOk P w (utk H L) h:=λ a u e=>by
 cases q:L.lookup a with
 |some o=>rw[EM q]at e;cases e
 |none =>
  rw[Be q]at e;exact(hok a u e).stay (λ_ _ _ z=>z) (λ b z=>by rw[Be (D5 hL z (λ_ z=>nomatch z))];exact z) (λ b xs z=>by rw[Be (D5 hL z (λ_ z=>nomatch z))];exact z)
theorem Un.utk(u:Un fs [] (L2.tkd H L) H' h h')(hok:HOk P w H' h')(hL:∀a o,L.lookup a=some o->H a=none)(hc:∀a o,L.lookup a=some o->h.get? a=some o)(hf:∀a o,L.lookup a=some o->a∉fs)(hk:∀a o,L.lookup a=some o->H' a=some (B3 a o)):Un fs [] H (L2.utk H' L) h h' where
 keep b o q n nf nx:=by
  cases e:L.lookup b with
  |some o' =>
   rw[hc b o' e]at q;cases q;exact(hok b _ (hk b o e)).1
  |none=>exact u.keep b o q (by rw[AH e];exact n) nf nx
 slot b o q n hb nx:=by
  cases e:L.lookup b with
  |some o'=>exact absurd hb (hf b o' e)
  |none=>exact u.slot b o q (by rw[AH e];exact n) hb nx
 free b o q n nx:=by
  cases e:L.lookup b with
  |some o'=>exact EM e
  |none=>rw[Be e];exact u.free b o q (by rw[AH e];exact n) nx
 there b o q nx:=u.there b o q nx
 tups b xs e:=by
  have n:=Do hL e;rw[Be n];exact u.tups b xs (by rw[AH n];exact e)
 frzs b o v e:=by
  have n:=Do hL e;rw[Be n];exact u.frzs b o v (by rw[AH n];exact e)
 tbls b ps e:=by
  have n:=Do hL e;rw[Be n];exact u.tbls b ps (by rw[AH n];exact e)
theorem Un.tkd(u:Un fs [] (L2.utk H L) H' h h')(hL:∀a o,L.lookup a=some o->H a=some (B3 a o)):Un fs [] H (L2.tkd H' L) h h':=by
 have out:∀{b},H b=none->L.lookup b=none:=λ{b} n=>by
  cases e:L.lookup b with
  |none=>rfl
  |some o=>rw[hL b o e]at n;cases n
 exact {
  keep:=λ b o q n nf nx=>u.keep b o q (C1 n) nf nx
  slot:=λ b o q n hb nx=>u.slot b o q (C1 n) hb nx
  free:=λ b o q n nx=>by rw[AH (out n)];exact u.free b o q (C1 n) nx
  there:=λ b o q nx=>u.there b o q nx
  tups:=λ b xs e=>by
   have n:=D5 hL e (λ_ z=>nomatch z);rw[AH n];exact u.tups b xs (by rw[Be n];exact e)
  frzs:=λ b o v e=>by
   have n:=D5 hL e (λ_ z=>nomatch z);rw[AH n];exact u.frzs b o v (by rw[Be n];exact e)
  tbls:=λ b ps e=>by
   have n:=D5 hL e (λ_ z=>nomatch z);rw[AH n];exact u.tbls b ps (by rw[Be n];exact e) }
end
def FvOk(P:Program)(w:World)(K:Frag)(mg:MGz)(base:Heap)(k:Nat)(H:Hp)(f:Addr)(sp:Sp):Prop :=
 (∃o fd,H f=some (B3 f o)/\o.data=.func fd)/\∀(A:Around)(outer:List Env)(s:Shared)(H':Hp)(us:LWz)(vs:LUz)(Q:VK)(E:XK),Same H H'->Room k A->Env0 P w K mg base A outer s H'->Vals vs us->sp vs H' Q E ->
  codeAny (model P w) A (.call (.ref f) ⟨us,[]⟩) (CR CX0 outer P w H' s Q E) s
theorem FvOk.same{P:Program}{w:World}{K:Frag}{mg:MGz}{base:Heap}{k:Nat}{H H':Hp}{f:Addr}{sp:Sp}(h:FvOk P w K mg base k H f sp)(s:Same H H'):FvOk P w K mg base k H' f sp :=
 ⟨let ⟨o,fd,e,d⟩:=h.1;⟨o,fd,s _ _ e,d⟩,λ A outer sh H2 us vs Q E s2=>h.2 A outer sh H2 us vs Q E (s.trans s2)⟩
theorem FvOk.imp{P:Program}{w:World}{K:Frag}{mg:MGz}{base:Heap}{k:Nat}{H:Hp}{f:Addr}{sp sp':Sp}(h:FvOk P w K mg base k H f sp)(i:∀vs H' Q E,Same H H'->sp' vs H' Q E->sp vs H' Q E):FvOk P w K mg base k H f sp' :=
 ⟨h.1,λ A outer sh H2 us vs Q E s2 hr e0 r q=>h.2 A outer sh H2 us vs Q E s2 hr e0 r (i vs H2 Q E s2 q)⟩
def tFv(P:Program)(w:World)(K:Frag)(mg:MGz)(base:Heap)(k:Nat)(tv:TE)(t:TA):TE:=λ σ H Q=>tv σ H λ v H1=>∃f sp,v=.ref f/\FvOk P w K mg base k H1 f sp/\t σ H1 λ vs H2=>Same H1 H2/\sp vs H2 Q E0
section
variable{X:Cx}{k j:Nat}{y:Str}{p pos:Pos}{e:Expr}{es:List Expr}{tv:TE}{t:TA}
theorem SC(hr:Room j X.A)(hv:PE X (.Name y p) tv)(ha:PA X (e::es) t)(hj:k<=j:=by decide)
  (he:starEach (e::es) X.env=(false,eval e X.env)::starEach es X.env:=by rfl) (hpl:(backTo pos (starEach es X.env)).any (·.1)=false:=by rfl):PE X (.Call (.Name y p) (e::es) [] pos) (tFv X.prog X.w X.K X.mg X.base k tv t):=by
 intro pins s σ H Q I h;refine wpAny_Call_Name_kw (thn (hv pins s σ H _ I h) λ u s1 hz_=>?_);obtain⟨v,H1,I1,r1,f,sp,e1,F,q1⟩:=hz_;subst e1;cases r1;have fnat:∀{H2:Hp}{s2:Shared},Same H1 H2->Inv X pins σ H2 s2->FnAt f s2.heap:=λ{H2 s2} sm I2=>by
  obtain⟨o,fd,e,d⟩:=F.1;have:=(show ObjOk X.prog X.w H2 s2.heap f (B3 f o) from I2.hok f _ (sm _ _ e)).1;obtain⟨oc,od,dt,sl⟩:=o;cases d;exact⟨_,_,_,_,this⟩
 refine callWith_F (fnat (Same.refl _) I1) (thn (ha pos pins s1 σ H1 _ I1 q1) λ us s2 ⟨vs,H2,I2,r,sm,q⟩=>⟨fnat sm I2,?_⟩) he hpl;refine wpAny_call (codeAny_mono (F.2 X.A X.stack s2 H2 us vs Q E0 sm (hr.mono hj) I2.env0 r q) λ r s' hq=>?_);cases r with
 |error e=>exact HV pins σ H2 s2 e s' I2 hq
 |ok fl =>
  cases fl with
  |ret u=>exact I2.after hq
  |next=>exact False.elim hq
  |brk=>exact False.elim hq
  |cont=>exact False.elim hq
end
theorem Ia{g:Addr->Obj}:∀{l:List Addr}{a:Addr},(l.map λ c=>(c,g c)).lookup a=if a∈l then some (g a) else none
 |[],a=>by simp
 |c::r,a=>by
  rw[aL,bc];by_cases e:a=c
  .subst e;simp
  .have:(a==c)=false:=by simpa using e
   rw[this];show List.lookup a (r.map λ c=>(c,g c))=_;rw[Ia];simp[e]
structure No(N:LSz)(clos:List (Str×Addr))(σ:St)(H:Hp)(L:PNz):Prop where
 new:∀a o,L.lookup a=some o->H a=none
 has:∀p∈clos,∃o v,L.lookup p.2=some o/\o.data=.cell v
 val:∀p∈clos,∀(i:Nat)(v:V),N[i]?=some p.1->σ[i]?=some (some v)->∃o u,L.lookup p.2=some o/\o.data=.cell (some u)/\RelV v u
def Rq(N:LSz)(clos:List (Str×Addr))(sp:Sp)(t:TA):TE:=λ σ H Q=>t σ H λ vs H1=>∀L,No N clos σ H1 L->sp vs (tkd H1 L) (λ v H2=>(∀a o,L.lookup a=some o->H2 a=some (B3 a o))/\Q v (utk H2 L)) E0
section
variable{X:Cx}{k j:Nat}{x:Str}{ps:LSz}{sp:Sp}{p pos:Pos}{e:Expr}{es:List Expr}{t:TA}{clos:List (Str×Addr)}
theorem R6(D:AC X.prog X.w X.K X.mg X.base k x ps sp)(hr:Room j X.A)(ha:PA X (e::es) t)(hcl:∀p∈clos,X.env.cells.lookup p.1=some p.2/\X.env.kindOf p.1=some .cell)(hfn:∀y,X.fn y=true)(hex:X.ex=[])(hj:k<=j:=by decide)(hg:Gl X x:=by rfl)(hdb:(x==("__debug__":Str))=false:=by decide)
  (he:starEach (e::es) X.env=(false,eval e X.env)::starEach es X.env:=by rfl) (hpl:(backTo pos (starEach es X.env)).any (·.1)=false:=by rfl):PE X (.Call (.Name x p) (e::es) [] pos) (Rq X.N clos sp t):=by
 obtain⟨f,fd,F,hm,hk,hb⟩:=D.ex;intro pins s σ H Q I h;refine wpAny_Call_Name_kw (CO I hg hm ?_ hdb);refine callWith_K (h₀:=X.base) I.ok.mod.kin hk (thn (ha pos pins s σ H _ I h) λ us s1 ⟨vs,H1,I1,r,q⟩=>⟨I1.kIn,?_⟩) he hpl
 let g:Addr->Obj:=λ c=>(s1.heap.get? c).getD ⟨.none,none,.plain,#[]⟩
 let L:PNz:=(clos.map (·.2)).map λ c=>(c,g c)
 have hLk:∀a,L.lookup a=if a∈clos.map (·.2) then some (g a) else none:=λ a=>Ia;have hcell:∀p∈clos,∃v,s1.heap.IsCell p.2 v:=λ p hp=>I1.cell p.1 p.2 (hcl p hp).1;have hin:∀a o,L.lookup a=some o->∃p∈clos,p.2=a/\s1.heap.get? a=some o:=λ a o e=>by
  rw[hLk]at e;split at e
  .rename_i hm;obtain⟨p,hp,rfl⟩:=ay.mp hm;refine⟨p,hp,rfl,?_⟩;obtain⟨v,o',ho',_⟩:=hcell p hp;cases e;show _=some ((s1.heap.get? p.2).getD _);rw[ho'];rfl
  .cases e
 have hof:∀p∈clos,∀o,s1.heap.get? p.2=some o->L.lookup p.2=some o:=λ p hp o e=>by
  rw[hLk,if_pos (ay.mpr ⟨p,hp,rfl⟩)];show some ((s1.heap.get? p.2).getD _)=_;rw[e];rfl
 have hnew:∀a o,L.lookup a=some o->H1 a=none:=λ a o e=>by
  obtain⟨p,hp,rfl,_⟩:=hin a o e;exact I1.freeC p.1 p.2 (hcl p hp).1
 have hget:∀a o,L.lookup a=some o->s1.heap.get? a=some o:=λ a o e=>let ⟨_,_,_,z⟩:=hin a o e;z;have habove:∀a o,L.lookup a=some o->X.s₀.heap.objs.size<=a:=λ a o e=>by
  obtain⟨p,hp,rfl,_⟩:=hin a o e;exact I1.ok.cab p.1 p.2 (hfn _) (hcl p hp).1
 have hnf:∀a o,L.lookup a=some o->a∉frs X.stack:=λ a o e hb=>by
  have ab:=habove a o e;obtain⟨p,hp,rfl,_⟩:=hin a o e;rcases aA.mp (I1.stkSub _ hb) with z|z
  .exact I1.cne p.1 p.2 (hcl p hp).1 z
  .obtain⟨_,o',ho',_⟩:=I1.ok.funs.mem z;exact absurd (aQ (aB ho') ab) (bS _)
 have CA:No X.N clos σ H1 L:=by
  refine⟨hnew,λ p hp=>?_,λ p hp i v hi hv=>?_⟩
  .obtain⟨v,o,ho,hd⟩:=hcell p hp;exact⟨o,v,hof p hp o ho,hd⟩
  .obtain⟨m,hns,hloc⟩:=I1.loc;obtain⟨u,ru,hlook⟩:=hloc i p.1 v hi hv (.inr (.inl (hcl p hp).2));rcases hlook with ⟨k1,_⟩|⟨_,c,hc,o,ho,hd⟩
   .rw[(hcl p hp).2]at k1;cases k1
   .rw[(hcl p hp).1]at hc;cases hc;exact⟨o,u,hof p hp o ho,hd,ru⟩
 have hsp:=q L CA;have e0:Env0 X.prog X.w X.K X.mg X.base X.A X.stack s1 (tkd H1 L):=by
  have z:=I1.env0;refine⟨z.frames,z.mod,λ b o e=>?_,z.bsz,z.funs,λ b hb=>?_,z.hok.tkd hnew hget,z.bare⟩
  .refine⟨(z.bs b o e).1,?_⟩;cases q:L.lookup b with
   |none=>rw[AH q];exact(z.bs b o e).2
   |some o'=>exact absurd (aQ (aB e) (aS I1.ok.bsz (habove b o' q))) (bS _)
  .cases q:L.lookup b with
   |none=>rw[AH q];exact z.frf b hb
   |some o'=>exact absurd hb (hnf b o' q)
 have hl:us.length=ps.length:=by rw[<-r.length];exact F.len _ _ _ _ hsp
 have hbd:=hb s1 us I1.kIn (by rw[aI];exact hl);rw[aI]at hbd;refine wpAny_call (codeAny_mono (F.run X.A X.stack s1 (tkd H1 L) ⟨us,[]⟩ us vs _ E0 (hr.mono hj) e0 hbd r hsp) λ rs s' hq=>?_);cases rs with
 |error e=>exact HV pins σ H1 s1 e s' I1 (by exact hq)
 |ok fl =>
  cases fl with
  |ret u =>
   obtain⟨v,H2,os,bare,un,hok,rv,hkp,q2⟩:=hq;exact I1.after ⟨v,utk H2 L,os,bare,un.utk hok hnew hget hnf hkp,hok.utk hkp,rv,q2⟩
  |next=>exact False.elim hq
  |brk=>exact False.elim hq
  |cont=>exact False.elim hq
end
def Q9(P:Program)(w:World)(K:Frag)(mg:MGz)(base:Heap)(N:LSz)(qual:Str)(scope:Scope)(f:Addr)(cd:Value)(clos:List (Str×Addr))(A:Around)(outer:List Env)(s:Shared)(H Hx:Hp)(E:XK):Cx where
 prog:=P
 w:=w
 K:=K
 mg:=mg
 base:=base
 A:=A.deeper (envX qual scope s.heap.objs.size f cd clos)
 N:=N
 s₀:=s
 H₀:=H
 env:=envX qual scope s.heap.objs.size f cd clos
 outer:=outer
 stack:=envX qual scope s.heap.objs.size f cd clos::outer
 ex:=[]
 calm:=true
 fn:=λ_=>false
 pn:=[]
 xe:=λ e s'=>wpAny (model P w) (A.deeper (envX qual scope s.heap.objs.size f cd clos)) (leaving (envX qual scope s.heap.objs.size f cd clos) e) (λ_ s''=>CX0 outer Hx s E e s'') (λ e' s''=>CX0 outer Hx s E e' s'') s'
structure KY(pn:Str)(fs:LSz)(sc:Scope):Prop where
 kind:sc.kind=.function
 co:sc.isCoroutine=false
 gen:sc.isGenerator=false
 par:sc.names.lookup pn=some .local
 nocell:∀y∈sc.names,y.2≠.cell
 free:∀y,sc.names.lookup y=some .free->y∈fs
 isfree:∀y∈fs,sc.names.lookup y=some .free
theorem RP{P:Program}{w:World}{K:Frag}{mg:MGz}{base:Heap}{k:Nat}{H:Hp}{f c':Addr}{params:Arguments}{body:Expr}{scope:Scope}{qual pn:Str}{ctv:Value}{fs:LSz}{clos:List (Str×Addr)}{cv:LUz}{L:PNz}{te:TE}
  (hf:H f=some (B3 f (BK mg qual params body scope clos c' ctv))) (hc:H c'=some (D3 c' qual)) (S:KY pn fs scope) (hlen:cv.length=fs.length) (hkeys:∀y,(∃c,clos.lookup y=some c)↔y∈fs) (hinj:∀x y c,clos.lookup x=some c->clos.lookup y=some c->x=y)
  (hL:∀a o,L.lookup a=some o->H a=some (B3 a o)) (hcell:∀p∈clos,∃o v,L.lookup p.2=some o/\o.data=.cell v) (hval:∀p∈clos,∀(i:Nat)(v:V),fs[i]?=some p.1->cv[i]?=some v->∃o u,L.lookup p.2=some o/\o.data=.cell (some u)/\RelV v u)
  (hb:∀(s:Shared)(u:Value),BindsTo s (kla_fn "<lambda>" qual params body scope clos ((mg "__name__").getD .none) (.ref c') ctv) ⟨[u],[]⟩ ([pn].zip [u]))
  (hbody:∀(A:Around)(outer:List Env)(s:Shared)(H Hx:Hp)(E:XK),Room k (A.deeper (envX qual scope s.heap.objs.size f (.ref c') clos))->PE (Q9 P w K mg base (pn::fs) qual scope f (.ref c') clos A outer s H Hx E) body te) :
  FvOk P w K mg base (k+1) H f (λ vs H' Q _=>∃v,vs=[v]/\te (some v::cv.map some) (utk H' L) (λ v' H2=>Q v' (tkd H2 L))):=by
 refine⟨⟨_,_,hf,rfl⟩,λ A outer s H' us vs Q E sm hr e0 r h=>?_⟩;obtain⟨v,rfl,h⟩:=h;obtain⟨u,rfl,ru⟩:=HG r;have hL':∀a o,L.lookup a=some o->H' a=some (B3 a o):=λ a o e=>sm _ _ (hL a o e);have hget:∀a o,L.lookup a=some o->s.heap.get? a=some o:=λ a o e=>(show ObjOk P w H' s.heap a (B3 a o) from e0.hok a _ (hL' a o e)).1;have lim:s.heap.NoLimit:=e0.mod.nolimit.keeps λ b o e=>(e0.bs b o e).1;have ho:s.heap.get? f=some (BK mg qual params body scope clos c' ctv):=(show ObjOk P w H' s.heap f (B3 f _) from e0.hok f _ (sm _ _ hf)).1;refine kla_callFunE hr.depth ho rfl S.co S.gen rfl (NV (e0.hok c' _ (sm _ _ hc))) (hb s u _ _ _ _ ?_);refine wpAny_newFunctionEnv S.nocell (λ y hy=>?_) (λ h1 hns hsb=>?_) S.kind
 .rw[aa.mp (show y∈[(pn,u)] from hy)];exact S.par
 have hk:∀b o,s.heap.get? b=some o->h1.get? b=some o:=λ b o e=>hsb.extBut b o (aJ (aB e)) (af _ e);refine⟨lim.keeps hk,?_⟩;show codeAny _ _ (.expr body (envX qual scope s.heap.objs.size f (.ref c') clos)) _ _;refine kla_codeExpr ?_;have noA:∀b:Addr,b∉(Q9 P w K mg base (pn::fs) qual scope f (.ref c') clos A outer s (utk H' L) H' E).ex:=λ b z=>absurd (show b∈([]:List Addr) from z) (by simp);have mem:∀y c,clos.lookup y=some c->(y,c)∈clos:=λ y c e=>PySem.mem_of_lookup e;have I:Inv (Q9 P w K mg base (pn::fs) qual scope f (.ref c') clos A outer s (utk H' L) H' E) [] (some v::cv.map some) (utk H' L) { s with heap:=h1,toks:=s.toks+([pn].zip [u]).length }:=by
  refine⟨⟨e0.mod,S.kind,rfl,rfl,aj _,hinj,λ y hy=>?_,λ y c z=>absurd z (by simp[Q9]),λ_=>hr.hd,Around.frames_deeper e0.frames,.inr ⟨rfl,rfl⟩,λ b z=>absurd z (noA b),λ b o e=>⟨(e0.bs b o e).1,C1 (e0.bs b o e).2⟩,e0.bsz,λ b _ _=>noA b,λ b z=>absurd z (noA b),e0.funs,λ b hb=>C1 (e0.frf b hb)⟩,
   rfl,e0.bare,Un.kept hk,⟨_,hns,λ i y vv h1' h2 h3=>?_⟩,λ y c e=>?_,C1 (e0.hok.fresh (aj _)),λ y c e=>?_,λ p hp=>absurd (show p∈([]:PNz) from hp) (by simp),(e0.hok.utk hL').kept hk,?_⟩
  .have hy:scope.names.lookup y=some .cell\/scope.names.lookup y=some .free:=hy;rcases hy with hy|hy
   .exact absurd rfl (S.nocell _ (PySem.mem_of_lookup hy))
   .exact(hkeys y).mpr (S.free y hy)
  .have h1':(pn::fs)[i]?=some y:=h1';cases i with
   |zero =>
    cases h1';cases h2;exact⟨u,ru,.inl ⟨S.par,by simp⟩⟩
   |succ i =>
    have h1':fs[i]?=some y:=h1';have h2:(cv.map some)[i]?=some (some vv):=h2;rw[aE]at h2;obtain⟨z,hz,e⟩:=aN.mp h2;cases e;obtain⟨c,hc'⟩:=(hkeys y).mpr (ai h1');obtain⟨o,u',ho',hd,rv⟩:=hval (y,c) (mem y c hc') i vv h1' hz;exact⟨u',rv,.inr ⟨.inr (S.isfree y (ai h1')),c,hc',o,hk _ _ (hget _ _ ho'),hd⟩⟩
  .obtain⟨o,vv,ho',hd⟩:=hcell (y,c) (mem y c e);exact⟨vv,o,hk _ _ (hget _ _ ho'),hd⟩
  .obtain⟨o,vv,ho',hd⟩:=hcell (y,c) (mem y c e);exact EM ho'
  .show(some v::cv.map some).length=(pn::fs).length;rw[aD,aD,ae,hlen]
 refine wpAny_mono (hbody A outer s (utk H' L) H' E (hr.deeper _) [] _ _ _ _ I h) (λ u2 s' ⟨v2,H2,J,rv,q⟩=>?_) λ e s' z=>z;have un:Un (frs outer) [] (utk H' L) H2 s.heap s'.heap:=J.base;have hnf:∀a o,L.lookup a=some o->a∉frs outer:=λ a o e hb=>by
  have:=e0.frf a hb;rw[hL' a o e]at this;cases this
 exact⟨v2,tkd H2 L,J.os,J.bare,un.tkd hL',J.hok.tkd (λ a o e=>un.free a o (hget a o e) (EM e) (by simp)) (λ a o e=>un.keep a o (hget a o e) (EM e) (hnf a o e) (by simp)),rv,q⟩
theorem TabOk.lamC{clos:List (Str×Addr)}{mg:MGz}{pos:Pos}{qual:Str}{T:Addr}{params:Arguments}{body:Expr}{scope:Scope}{σ:St}{H:Hp}{Q:VK}(h:TabOk pos qual T H)
  (q:∀c' f ctv H',SameX T H H'->TabOk pos qual T H'->H' f=some (B3 f (BK mg qual params body scope clos c' ctv))->H' c'=some (D3 c' qual)->(∀b,H b=none->H' b=none\/b=c'\/b=f)->Q (.ref f) H'):Sq mg T pos params body scope clos qual σ H Q:=by
 obtain⟨ps,e,t,c⟩:=h;refine⟨ps,e,t,?_⟩;rcases c with c|⟨c',c1,c2⟩
 .refine .inl ⟨c,λ c' f ctv hc hf n1 n2 n3=>?_⟩;have eT:(upd (upd (upd H T (.tbl (ps++#[rawInt pos.line,rawInt pos.col,.ref c']))) c' (D3 c' qual)) f (B3 f (BK mg qual params body scope clos c' ctv))) T=some (.tbl (ps++#[rawInt pos.line,rawInt pos.col,.ref c'])):=by
   rw[Af (Ne.symm n3),Af (Ne.symm n2),upd_same]
  have eC:(upd (upd (upd H T (.tbl (ps++#[rawInt pos.line,rawInt pos.col,.ref c']))) c' (D3 c' qual)) f (B3 f (BK mg qual params body scope clos c' ctv))) c'=some (D3 c' qual):=by
   rw[Af n1,upd_same]
  refine q c' f ctv _ (λ a o ea no=>?_) ⟨_,eT,?_,.inr ⟨c',?_,eC⟩⟩ upd_same eC λ b hb=>?_
  .rw[Af (Ah no hf),Af (Ah no hc),Af ea];exact no
  .rw[eZ];exact Em (c:=0) _ t
  .rw[eZ];exact codeAmong_snoc _ t c
  .by_cases h1:b=f
   .exact .inr (.inr h1)
   .by_cases h2:b=c'
    .exact .inr (.inl h2)
    .refine .inl ?_;rw[Af h1,Af h2,Af (λ z=>by rw[z,e]at hb;cases hb)];exact hb
 .refine .inr ⟨c',c1,c2,λ f ctv hf=>?_⟩;have s:Same H (upd H f (B3 f (BK mg qual params body scope clos c' ctv))):=Same.new hf;refine q c' f ctv _ s.x (TabOk.same ⟨ps,e,t,.inr ⟨c',c1,c2⟩⟩ s) upd_same (s _ _ c2) λ b hb=>?_;by_cases h1:b=f
  .exact .inr (.inr h1)
  .exact .inl (by rw[Af h1];exact hb)
theorem TabOk.tbl{pos:Pos}{qual:Str}{T:Addr}{H:Hp}(h:TabOk pos qual T H):∃ps,H T=some (.tbl ps):=let ⟨ps,e,_⟩:=h;⟨ps,e⟩
theorem SameX.toN{T:Addr}{H H':Hp}(s:SameX T H H')(hT:∃ps,H T=some (.tbl ps)):SameN H H':=λ a o e n=>s a o (λ z=>by obtain⟨ps,e'⟩:=hT;rw[z,e']at e;cases e;exact n _ rfl) e
theorem Ox{H H':Hp}{L:PNz}(hL:∀a o,L.lookup a=some o->H a=none)(s:Same (tkd H L) H'):Same H (utk H' L)/\∀a o,L.lookup a=some o->H' a=some (B3 a o) :=
 ⟨λ a o e=>by
  have n:=Do hL e;rw[Be n];exact s _ _ (by rw[AH n];exact e),λ a o e=>s _ _ (Ge e)⟩
theorem IM{H:Hp}{L:PNz}{a:Addr}{u:HO}(hL:∀a o,L.lookup a=some o->H a=some (B3 a o))(e:H a=some u)(n:∀o,u≠B3 a o):utk H L a=some u:=by rw[Be (D5 hL e n)];exact e
theorem LJ{M:Model}{A:Around}{E:VPz}{s:Shared}{K:Frag}{G C e:Addr}{d:Option Addr}{dt:Data}{sl':AOz}{Q:Bool->Shared->Prop}{b:Bool}(X:K.In s.heap){fI:Addr}(hG:Ce K G fI=true)
  (he:s.heap.get? e=some ⟨.ref C,d,dt,sl'⟩) (hs:mroIn K C (.ref G)=some b) (h:Q b s):wpAny M A (excMatches (.ref e) (.ref G)) Q E s:=by
 have LS:=looks_mroIn (M:=M) X hs;obtain⟨hp,g,dr,tk,os⟩:=s;have q:=hG;unfold Ce at q;split at q
 .rename_i dd cd sl ho;split at q
  .rename_i C' bm k0 k1 k2 k3 n k5 hm hs;simp only[aP,beq_iff_eq,dh]at q;obtain⟨⟨⟨⟨⟨rfl,rfl⟩,hdel⟩,ht⟩,hok⟩,hni⟩:=q;obtain⟨nm,bs,mro,ns,qn,hd,sn,sub,ab,col,del⟩:=cd;dsimp only at hm hdel hok hni;subst hm hdel;have hsl:sl=#[k0,k1,k2,k3,some (.builtin "ValueError.__new__"),k5]:=by
    obtain⟨l⟩:=sl;simp only at hs;rw[hs]
   subst hsl;have hC:hp.get? C'=some (excClassObj nm qn C' ns bs bm hd sn sub ab col dd k0 k1 k2 k3 k5 "ValueError.__new__"):=X _ _ ho;have hcB:(Value.ref C'::bm).contains (.type "BaseException")=true:=by
    rw[c5,(tail_of_in X ht).hasType (show vErr.contains (.type "BaseException")=true by decide +kernel)];exact dM _
   have f:=tc_notTuple;unfold excMatches;cases b<;>(repeat (first|with_reducible refine wpAny_loadPart_at he ?_|with_reducible refine wpAny_loadPart_at hC ?_|(with_reducible refine wpAny_isSubtype_exc hC ?_;rw[hcB])|(with_reducible refine LS.at ?_)|wp_step))<;>exact h
  .cases q
 .cases q
abbrev TH:=CT->St->Hp->Addr->Addr->Option Addr->Addr->Prop
def PHs(X:Cx)(hs:List ExceptHandler)(t:TH):Prop:=∀(pins:PNz)(s:Shared)(σ:St)(H':Hp)(D:CT)(x C:Addr)(d:Option Addr)(T2:Addr),T2≠x->Inv X pins σ (A4 H' x C d T2) s->t D σ H' x C d T2 ->
 wpAny (model X.prog X.w) X.A (handleBy (.ref x) X.env hs) (SP X pins D) X.xe s
inductive Re(K:Frag)(im:Nat)(G:Addr)(ts:TS)(tr:TH)(D:CT)(σ:St)(H':Hp)(x C:Addr)(d:Option Addr)(T2:Addr):Prop
 |mk (b:Bool) (m:mroIn K C (.ref G)=some b) (y:b=true->ts (QT im D) (σ.set im (some (.ref x))) (A4 H' x C d T2)) (n:b=false->tr D σ H' x C d T2):Re K im G ts tr D σ H' x C d T2
def TV:TH:=λ_ _ _ _ _ _ _=>False
def Sy(t:XK->TS)(th:TH):TS:=λ D σ H=>∃E₁:XK,t E₁ { nx:=D.nx,rt:=λ_ _=>False } σ H /\
 ∀x C d T T2 H',E₁ (.ref x) d H'->CU H' x C d T->H' T2=none->T2≠x->th D σ H' x C d T2
section
variable{X:Cx}{im:Nat}{m g:Str}{G:Addr}{b₀ st:Stmt}{suite:List Stmt}{gp hpos pos:Pos}{ts:TS}{t:XK->TS}{hs:List ExceptHandler}{th:TH}
theorem MA:PHs X [] TV:=λ_ _ _ _ _ _ _ _ _ _ _ z=>z.elim
theorem M8(he:PXS X st t)(hh:PHs X hs th)(hst:X.stack=X.env::X.outer)(hfr:X.env.frame=some X.env.locals)(hne:hs≠[]):PS X (.Try [st] hs [] [] pos) (Sy t th):=by
 intro pins s σ H D I ⟨E₁,h,hk⟩;rw[arm_exec_Try];cases hs with
 |nil=>exact absurd rfl hne
 |cons h0 hs =>
 refine wpAny_bind (wpAny_standAt (wpAny_tryStmt_except ?_));refine wpAny_execs_cons (thn (he E₁ pins s σ H _ _ I h λ x T C d H' s' I' fl q=>?_) λ f s1 q=>?_)
 .refine Fr I' hst hfr (.inr ⟨T,fl⟩) λ h' T2 hT2 nT2 I2=>?_;exact hh pins _ σ H' D x C d T2 nT2 I2 (hk x C d T T2 H' q fl hT2 nT2)
 .cases f with
  |next=>obtain⟨σ',H',I',q⟩:=q;exact wpAny_execs_nil (wpAny_execs_nil ⟨σ',H',I',q⟩)
  |ret v=>obtain⟨_,_,_,_,_,q⟩:=q;exact q.elim
  |brk=>obtain⟨_,_,_,q⟩:=q;exact q.elim
  |cont=>obtain⟨_,_,_,q⟩:=q;exact q.elim
end
def Dt(ρ:Str->Option V):Nat->Expr->Option D
 |0,_=>none
 |_+1,.Constant c _ _=>(TJ c).map .at
 |_+1,.Name x _=>(ρ x).map .at
 |_+1,.UnaryOp .USub (.Constant (.int i) _ _) _=>some (.at (.int (-i)))
 |_+1,.BinOp (.Constant (.int i) _ _) .Pow (.Constant (.int j) _ _) _=>if 0<=j/\j<=1000000/\i.natAbs<2^64 then some (.at (.int (i^j.toNat))) else none
 |n+1,.BinOp a .Add b _=>(Dt ρ n a).bind λ x=>(Dt ρ n b).bind λ y=>match x,y with
  |.at (.int i),.at (.int j)=>some (.at (.int (i+j)))
  |_,_=>none
 |n+1,.Tuple es _ _=>if es.length<=64 then (DG (Dt ρ n) es).map .tup else none
 |n+1,.List es _=>if es.length<=64 then (DG (Dt ρ n) es).map .lst else none
 |_+1,_=>none
def QF(N:LSz)(ρ:Str->Option V)(σ:St):Prop:=∀x v,ρ x=some v->Bp v=true/\∃i:Nat,N[i]?=some x/\σ[i]?=some (some v)
def QL(N:LSz)(ρ:Str->Option V)(d:D):TE:=λ σ H Q=>QF N ρ σ/\∀v H',Same H H'->DAt H' d v->Q v H'
def Rn(N:LSz)(ρ:Str->Option V)(ds:Ds):TA:=λ σ H Q=>QF N ρ σ/\∀xs H',Same H H'->Bb H' ds xs->Q xs H'
def Sc(X:Cx)(ρ:Str->Option V):Prop:=∀x v,ρ x=some v->Vis X.env.scope x/\(x==("__debug__":Str))=false/\(x==("__classdict__":Str))=false
section
variable{X:Cx}{ρ:Str->Option V}
theorem Fc{n:Nat}{e:Expr}{d:D}(h:Dt ρ n e=some d)(es:List Expr)(env:Env):starEach (e::es) env=(false,eval e env)::starEach es env:=by
 unfold Dt at h;split at h<;>first|rfl|cases h
theorem E9{f:Expr->Option D}(hf:∀e d,f e=some d->PE X e (QL X.N ρ d)/\∀(es:List Expr)(env:Env),starEach (e::es) env=(false,eval e env)::starEach es env):∀{es:List Expr}{ds:Ds},DG f es=some ds->PA X es (Rn X.N ρ ds)
 |[],ds,h=>by
  cases h;intro pos pins s σ H Q I q;exact Ab (X:=X) pos pins s σ H Q I (q.2 [] H (Same.refl H) (by rw[Bb]))
 |e::es,ds,h=>by
  rw[DG]at h;obtain⟨d,h1,h2⟩:=cm.mp h;obtain⟨r,h3,rfl⟩:=aN.mp h2;obtain⟨p,st⟩:=hf e d h1;intro pos pins s σ H Q I q;refine Aa p (E9 hf h3) (st es X.env) pos pins s σ H Q I ⟨q.1,?_⟩;intro v H1 s1 d1;refine⟨q.1,λ xs H2 s2 d2=>?_⟩;exact q.2 (v::xs) H2 (s1.trans s2) (by rw[Bb];exact⟨v,xs,rfl,CC s2 d d1,d2⟩)
theorem E7(hρ:Sc X ρ):∀(n:Nat)(e:Expr)(d:D),Dt ρ n e=some d->PE X e (QL X.N ρ d)
 |0,e,d,h=>by cases h
 |n+1,e,d,h=>by
  unfold Dt at h;split at h
  .rename_i z;cases z
  .rename_i c k p _;obtain⟨v,hv,rfl⟩:=aN.mp h;intro pins s σ H Q I q;have key:∀u:V,Bp u=true->v=u->tC u σ H Q:=λ u fu e=>by
    subst e;exact q.2 v H (Same.refl H) (by rw[DAt];exact⟨rfl,fu⟩)
   cases c with
   |none=>cases hv;exact AL pins s σ H Q I (key _ rfl rfl)
   |bool b=>cases hv;exact BD pins s σ H Q I (key _ rfl rfl)
   |int i=>cases hv;exact Ac pins s σ H Q I (key _ rfl rfl)
   |str x=>cases hv;exact A8 pins s σ H Q I (key _ rfl rfl)
   |_=>cases hv
  .rename_i x p _;obtain⟨v,hv,rfl⟩:=aN.mp h;intro pins s σ H Q I q;obtain⟨fl,i,hN,hs⟩:=q.1 x v hv;obtain⟨v1,v2,v3⟩:=hρ x v hv;exact O6 hN v1 v2 v3 pins s σ H Q I ⟨v,hs,q.2 v H (Same.refl H) (by rw[DAt];exact⟨rfl,fl⟩)⟩
  .rename_i i k p p' _;cases h;intro pins s σ H Q I q;refine QP Oh Ac pins s σ H Q I ?_;exact⟨i,rfl,q.2 _ H (Same.refl H) (by rw[DAt];exact⟨rfl,rfl⟩)⟩
  .rename_i i k1 p1 j k2 p2 p3 _;split at h
   .rename_i hc;cases h;intro pins s σ H Q I q;refine Aw R9 Ac Ac pins s σ H Q I ?_;exact⟨i,j,rfl,rfl,hc,q.2 _ H (Same.refl H) (by rw[DAt];exact⟨rfl,rfl⟩)⟩
   .cases h
  .rename_i m a b p z;cases z;obtain⟨x,hx,h⟩:=cm.mp h;obtain⟨y,hy,h⟩:=cm.mp h;split at h
   .cases h;intro pins s σ H Q I q;refine Aw AI (E7 hρ n a _ hx) (E7 hρ n b _ hy) pins s σ H Q I ⟨q.1,λ v H1 s1 d1=>⟨q.1,λ u H2 s2 d2=>?_⟩⟩;rw[DAt]at d1 d2;rw[d1.1,d2.1];exact⟨_,_,rfl,rfl,q.2 _ H2 (s1.trans s2) (by rw[DAt];exact⟨rfl,rfl⟩)⟩
   .cases h
  .rename_i m es x p z;cases z;split at h
   .rename_i hl;obtain⟨ds,hd,rfl⟩:=aN.mp h;intro pins s σ H Q I q;refine An (E9 (λ e d h=>⟨E7 hρ n e d h,Fc h⟩) hd) pins s σ H Q I ⟨q.1,?_⟩;intro xs H1 s1 d1;refine⟨aS (by rw[Cg ds d1,D6 hd];exact hl) (by rw[sizeLine_eq];decide),λ t nt=>q.2 _ _ (s1.trans (Same.new nt)) ?_⟩;rw[DAt];exact⟨t,xs,rfl,upd_same,BU (Same.new nt) ds d1⟩
   .cases h
  .rename_i m es p z;cases z;split at h
   .rename_i hl;obtain⟨ds,hd,rfl⟩:=aN.mp h;intro pins s σ H Q I q;refine Bc (E9 (λ e d h=>⟨E7 hρ n e d h,Fc h⟩) hd) pins s σ H Q I ⟨q.1,?_⟩;intro xs H1 s1 d1;refine⟨aS (by rw[Cg ds d1,D6 hd];exact hl) (by rw[sizeLine_eq];decide),λ t nt=>q.2 _ _ (s1.trans (Same.new nt)) ?_⟩;rw[DAt];exact⟨t,xs,rfl,upd_same,BU (Same.new nt) ds d1⟩
   .cases h
  .cases h
def Ro(N:LSz)(ρ:Str->Option V)(ds:Ds):TE:=λ σ H Q=>QF N ρ σ/\∀l xs H',Same H H'->H l=none->H' l=some (.lst xs)->Bb H' ds xs->Q (.ref l) H'
theorem Ke(hρ:Sc X ρ){n:Nat}{es:List Expr}{ds:Ds}{pos:Pos}(h:DG (Dt ρ n) es=some ds)(hl:es.length<=64):PE X (.List es pos) (Ro X.N ρ ds):=by
 intro pins s σ H Q I q;refine Bc (E9 (λ e d h=>⟨E7 hρ n e d h,Fc h⟩) h) pins s σ H Q I ⟨q.1,?_⟩;intro xs H1 s1 d1;refine⟨aS (by rw[Cg ds d1,D6 h];exact hl) (by rw[sizeLine_eq];decide),λ t nt=>q.2 t xs _ (s1.trans (Same.new nt)) (DF s1 nt) upd_same (BU (Same.new nt) ds d1)⟩
theorem MJ:Sc X λ_=>none:=λ_ _ z=>nomatch z
theorem HY{N:LSz}{σ:St}:QF N (λ_=>none) σ:=λ_ _ z=>nomatch z
end
abbrev Rwt:=Addr×List Int×Addr×List Int
abbrev rks(t:Rwt):List Int:=t.2.1++t.2.2.2
def Px(H:Hp)(n m:Nat)(t:Rwt):Prop:=H t.1=some (.tup (t.2.1.map V.int++[.ref t.2.2.1]))/\H t.2.2.1=some (.tup (t.2.2.2.map V.int))/\t.2.1.length=n+1/\t.2.2.2.length=m+1
def FZ:LUz->List Int
 |.int i::r=>i::FZ r
 |_=>[]
def Og:LUz->Addr
 |[.ref p]=>p
 |_::r=>Og r
 |[]=>0
theorem HJ{p:Addr}:∀(ns:List Int),FZ (ns.map V.int++[.ref p])=ns
 |[]=>rfl
 |i::r=>by show i::FZ (r.map V.int++[.ref p])=_;rw[HJ r]
theorem HK:∀(ns:List Int),FZ (ns.map V.int)=ns
 |[]=>rfl
 |i::r=>by show i::FZ (r.map V.int)=_;rw[HK r]
theorem HH{p:Addr}:∀(ns:List Int),Og (ns.map V.int++[.ref p])=p
 |[]=>rfl
 |i::r=>by
  have:=HH (p:=p) r;rw[aL,aX];cases hr:r.map V.int++[V.ref p] with
  |nil=>rw[hr]at this;simp at hr
  |cons x y=>rw[hr]at this;exact this
def Lw(H:Hp)(key:List Int->Int)(a:Addr):Int:=match H a with
 |some (.tup vs)=>key (FZ vs++match H (Og vs) with
  |some (.tup us)=>FZ us
  |_=>[])
 |_=>0
def OP(H:Hp)(key:List Int->Int):Value->Int
 |.ref a=>Lw H key a
 |_=>0
theorem Ff{H:Hp}{key:List Int->Int}{n m:Nat}{t:Rwt}(h:Px H n m t):OP H key (.ref t.1)=key (rks t):=by
 obtain⟨h1,h2,_,_⟩:=h;show Lw H key t.1=_;unfold Lw;rw[h1];dsimp only;rw[HJ,HH,h2];dsimp only;rw[HK]
theorem JL{p:Addr}:∀{ns:List Int}{zs:LWz},Vals (ns.map V.int++[.ref p]) zs->∃vs,zs=vs++[.ref p]/\IntsAre vs ns
 |[],zs,h=>by
  cases h with
  |cons h t =>
   cases t;cases(show _=Value.ref p from h);exact⟨[],rfl,.nil⟩
 |i::r,zs,h=>by
  rw[aL,aX]at h;cases h with
  |cons h t =>
   obtain⟨tk,rfl⟩:=(show ∃t,_=Value.int i t from h);obtain⟨vs,rfl,hv⟩:=JL t;exact⟨_,rfl,.cons i tk hv⟩
section
variable{prog:Program}{w:World}{A:Around}{s:Shared}
theorem GL{fin:Bool}{Q:Bool->Shared->Prop}{x y:Value}{as bs:List Int}(last:∀i,0<i->Q (HT.lexLt as bs) s->KatLex prog w A true fin Q [(x,y)] i s) :
  ∀{vs ws:LWz}{ns ms:List Int}(i:Nat),IntsAre vs ns->IntsAre ws ms->(0<i\/ns≠[])->ns.length=ms.length->Q (HT.lexLt (ns++as) (ms++bs)) s->KatLex prog w A true fin Q ((vs++[x]).zip (ws++[y])) i s
 |_,_,_,_,i,.nil,.nil,hi,_,hq=>last i (hi.resolve_right (λ z=>z rfl)) hq
 |_,_,_,_,i,.cons n t hn,.cons m u hm,_,hl,hq=>by
  rw[aX,aX,bJ];rw[aX,aX,HT.lexLt_cons]at hq;refine kat_cons (wpAny_eqBool_int (kat_go (λ e=>kat_yes ?_) λ e=>kat_no ?_))
  .have e':n=m:=by simpa using e
   rw[if_pos e']at hq;exact GL last (i+1) hn hm (.inl (Nat.succ_pos _)) (by simpa using hl) hq
  .have e':¬n=m:=by simpa using e
   rw[if_neg e']at hq;by_cases hi:i=0
   .subst hi;exact oneLt_int hq
   .have hb:(true&&i==0)=false:=by simp[hi]
    rw[hb];exact kat_one _ _ (lt_int hq)
end
theorem EC{h:Heap}{β:Type}:∀{ts:List (Addr×β)},(∀t∈ts,∃items n tk zs,IsTup h t.1 items/\items.toList=Value.int n tk::zs)->∃fs,KatTups h (ts.map λ t=>Value.ref t.1) fs/\fs.length=ts.length/\∀v∈fs,∃n tk,v=Value.int n tk
 |[],_=>⟨[],KatTups.nil,rfl,λ v hv=>nomatch hv⟩
 |t::r,hh=>by
  obtain⟨fs,h1,h2,h3⟩:=EC (ts:=r) λ u hu=>hh u (aO _ hu);obtain⟨items,x,tk,zs,⟨o,ho,hc,n,hd⟩,e⟩:=hh t aR;have hf:items[0]?=some (Value.int x tk):=by
   rw[<-eO,e];rfl
  exact⟨_,KatTups.cons ho hc hd hf h1,by simp[h2],λ v hv=>by
   rcases aA.mp hv with rfl|hv
   .exact⟨x,tk,rfl⟩
   .exact h3 v hv⟩
theorem IW{X:Cx}{pins:PNz}{σ:St}{H:Hp}{s:Shared}{n m:Nat}{t:Rwt}(I:Inv X pins σ H s)(h:Px H n m t):(∃vs,IsTup s.heap t.1 (vs++[Value.ref t.2.2.1]).toArray/\IntsAre vs t.2.1)/\∃items,IsTup s.heap t.2.2.1 items/\IntsAre items.toList t.2.2.2:=by
 obtain⟨h1,h2,_,_⟩:=h;obtain⟨_,zs,rz,tz⟩:=(show ObjOk X.prog X.w H s.heap t.1 (.tup (t.2.1.map V.int++[.ref t.2.2.1])) from I.hok _ _ h1);obtain⟨_,zs2,rz2,tz2⟩:=(show ObjOk X.prog X.w H s.heap t.2.2.1 (.tup (t.2.2.2.map V.int)) from I.hok _ _ h2);obtain⟨vs,rfl,hv⟩:=JL rz;exact⟨⟨vs,tz,hv⟩,_,tz2,by simpa using GO rz2⟩
theorem LP{X:Cx}{A:Around}{σ:St}{H:Hp}{ts:List Rwt}{n m:Nat}{key:List Int->Int}(hu:A.units+8<cLine)(ht:∀t∈ts,Px H n m t)
  (hkey:∀t∈ts,∀u∈ts,HT.lexLt (rks t) (rks u)=decide (key (rks t)<key (rks u))):P0 X A σ H (ts.map λ t=>V.ref t.1) (tuples' true) (OP H key):=λ ks pins s rk I=>by
 have hks:ks=ts.map λ t=>Value.ref t.1:=by
  have:=D4 (ts:=ts.map (·.1)) (its:=ks) (by rw[aY];exact rk);rw[this,aY];rfl
 subst hks;have tup:=λ t htm=>IW I (ht t htm);refine⟨λ C E h2 hc=>?_,λ x hx y hy C hc=>?_⟩
 .obtain⟨fs,f1,f2,f3⟩:=EC (h:=s.heap) (ts:=ts) λ t htm=>by
   obtain⟨⟨vs,tv,hv⟩,_⟩:=tup t htm;have l:=(ht t htm).2.2.1;generalize t.2.1=ns at hv l;cases hv with
   |nil=>simp at l
   |cons i tk hz=>exact⟨_,i,tk,_,tv,rfl⟩
  rw[ae]at h2;exact kat_kind (T:=Value.type "int") f1 (by lia) (λ v hv=>by obtain⟨n,tk,rfl⟩:=f3 v hv;exact .now) (by decide) hc
 .obtain⟨t,mt,rfl⟩:=ay.mp hx;obtain⟨u,mu,rfl⟩:=ay.mp hy;obtain⟨⟨v1,⟨o1,g1,c1,n1,d1⟩,z1⟩,i1,tp1,y1⟩:=tup t mt;obtain⟨⟨v2,⟨o2,g2,c2,n2,d2⟩,z2⟩,i2,tp2,y2⟩:=tup u mu;have ra:=ht t mt;have rb:=ht u mu;rw[Ff ra,Ff rb,<-hkey t mt u mu]at hc;obtain⟨a1,a2,a3,a4⟩:=ra;obtain⟨b1,b2,b3,b4⟩:=rb;have l1:=z1.length;have l2:=z2.length;refine kat_lt g1 d1 g2 d2 ?_;rw[cQ,cQ];have fin:decide ((v1++[Value.ref t.2.2.1]).toArray.size<(v2++[Value.ref u.2.2.1]).toArray.size)=false:=decide_eq_false (by simp;lia);rw[fin];refine GL (as:=t.2.2.2) (bs:=u.2.2.2) (λ i hi hq=>?_) 0 z1 z2 (.inr (λ z=>by rw[z]at a3;simp at a3)) (by lia) hc;have D1:DIs X.K H (.tup (AT t.2.2.2)) (.ref t.2.2.1):=by rw[DIs];exact⟨_,_,rfl,SqT.of a2,D8 _⟩
  have D2:DIs X.K H (.tup (AT u.2.2.2)) (.ref u.2.2.1):=by rw[DIs];exact⟨_,_,rfl,SqT.of b2,D8 _⟩
  have dp:dep (.tup (AT t.2.2.2))<=1:=by rw[dep,Ed];lia
  have eqp:SeqAt.EqAt A s (.ref t.2.2.1) (.ref u.2.2.1) (decide (t.2.2.2=u.2.2.2)):=by
   have:=Md I 1 A (.tup (AT t.2.2.2)) (.tup (AT u.2.2.2)) (.ref t.2.2.1) (.ref u.2.2.1) (.ref t.2.2.1) (.ref u.2.2.1) dp D1 D2 rfl rfl (by lia);rwa [deq,Fg]at this
  refine kat_cons (eqp _ _ _ _ (kat_go (λ e=>kat_yes (kat_nil ?_)) λ e=>kat_no ?_))
  .have e:=of_decide_eq_true e;rw[e]at hq;have z:∀ns:List Int,HT.lexLt ns ns=false:=λ ns=>by
    induction ns with
    |nil=>rfl
    |cons i r ih=>rw[HT.lexLt_cons,if_pos rfl,ih]
   rw[z]at hq;exact hq
  .have hb:(true&&i==0)=false:=by simp;lia
   rw[hb];exact kat_one _ _ (HT.lt_tupInts tp1 tp2 y1 y2 (by lia) hq)
theorem OU{vs:LWz}{ns ms:List Int}(a:IntsAre vs ns)(b:IntsAre vs ms):ns=ms:=by
 induction a generalizing ms with
 |nil=>cases b;rfl
 |cons n t _ ih=>cases b with|cons _ _ h=>rw[ih h]
theorem ED{vs:LWz}{ns:List Int}(a:IntsAre vs ns):∀(j:Nat)(h:j<vs.length),∃tk,vs[j]=Value.int (ns.getD j 0) tk:=by
 induction a with
 |nil=>intro j h;simp at h
 |cons n t _ ih =>
  intro j h;cases j with
  |zero=>exact⟨t,rfl⟩
  |succ j=>exact ih j (by simpa using h)
theorem Mp:∀{ns ms:List Int},((List.range (min ns.length ms.length)).all (λ j=>ns.getD j 0==ms.getD j 0)&&ns.length==ms.length)=decide (ns=ms):=by
 intro ns ms;rw[cP,aP,b9,decide_eq_true_iff]
 constructor
 .rintro⟨h,l⟩;have l:=eq_of_beq l;apply dR l;intro i h1 h2;have:=eq_of_beq (h i (ef.mpr (by lia)));rw[bK,bK,ag h1,ag h2]at this;exact this
 .rintro rfl;exact⟨λ x _=>beq_self_eq_true _,beq_self_eq_true _⟩
theorem J1{A:Around}{s:Shared}{a b:Addr}{i1 i2:Array Value}{ns ms:List Int}(h1:IsTup s.heap a i1)(h2:IsTup s.heap b i2)(n1:IntsAre i1.toList ns)(n2:IntsAre i2.toList ms)(hu:A.units+1<cLine):SeqAt.EqAt A s (.ref a) (.ref b) (decide (ns=ms)):=by
 by_cases hab:a=b
 .subst hab;obtain⟨o1,g1,c1,m1,d1⟩:=h1;obtain⟨o2,g2,c2,m2,d2⟩:=h2;rw[g1]at g2;cases g2;rw[d1]at d2;cases d2;rw[OU n1 n2,decide_eq_true rfl];exact SeqAt.EqAt.same _
 .refine SeqAt.EqAt.of_refs hab ?_;have l1:=n1.length;have l2:=n2.length;rw[bT]at l1 l2;have:=SeqAt.RcAt.tuples (A:=A) (e:=λ j=>ns.getD j 0==ms.getD j 0) (show s.heap.IsTuple a i1 from h1) (show s.heap.IsTuple b i2 from h2) (by lia) λ j g1 g2=>by
   obtain⟨t1,e1⟩:=ED n1 j (by simpa using g1);obtain⟨t2,e2⟩:=ED n2 j (by simpa using g2);rw[Array.getElem_toList]at e1 e2;rw[e1,e2];exact SeqAt.EqAt.int_int _ _ _ _
  rw[l1,l2,Mp]at this;exact this
section
open PySem.SeqAt
open PySem.AutoSeq1 (wpAny_loadPart')
open PySem.MeetsSeq PySem.MeetsSeq2 PySem.MeetsSeq3
theorem GH:∀ns:List Int,HT.lexLt ns ns=false
 |[]=>rfl
 |i::r=>by rw[HT.lexLt_cons,if_pos rfl,GH r]
inductive Dz(h:Heap):LWz->LWz->List Int->List Int->Prop
 |nil:Dz h [] [] [] []
 |last {p q:Addr} {i1 i2:Array Value} {ns ms:List Int}:IsTup h p i1->IsTup h q i2->IntsAre i1.toList ns->IntsAre i2.toList ms->Dz h [.ref p] [.ref q] ns ms
 |cons {i j:Int} {tk tj:Tok} {vs ws:LWz} {ns ms:List Int}:Dz h vs ws ns ms->Dz h (.int i tk::vs) (.int j tj::ws) (i::ns) (j::ms)
theorem HN{h:Heap}{p q:Addr}{i1 i2:Array Value}{as bs:List Int}(hp:IsTup h p i1)(hq:IsTup h q i2)(ha:IntsAre i1.toList as)(hb:IntsAre i2.toList bs):∀{vs ws:LWz}{ns ms:List Int},IntsAre vs ns->IntsAre ws ms->ns.length=ms.length->Dz h (vs++[.ref p]) (ws++[.ref q]) (ns++as) (ms++bs)
 |_,_,_,_,.nil,.nil,_=>.last hp hq ha hb
 |_,_,_,_,.cons n t r,.cons m u r',hl=>.cons (HN hp hq ha hb r r' (by simpa using hl))
theorem Hj(l b:Addr)(items items2:Array Value)(n n2:Nat)(dd dd2:Option Addr)(sl sl2:AOz)(ns ms:List Int)(hsz:items.size=items2.size) :
  Meets (Builtin.«tuple.__lt__» ⟨[.ref l,.ref b],[]⟩)
   (λ A R s=>s.heap.get? l=some { cls:=.type "tuple",dict:=dd,data:=.seq items n,slots:=sl }/\s.heap.get? b=some { cls:=.type "tuple",dict:=dd2,data:=.seq items2 n2,slots:=sl2 }/\A.units+3<cLine/\Dz s.heap items.toList items2.toList ns ms /\
    R (.ok (.ret (.bool (HT.lexLt ns ms)))) s) :=
 .of_wp λ prog w A R s h=>by
  obtain⟨hp,g,d,tk,os⟩:=s;obtain⟨hl,hb,hu,hr,h⟩:=h;have f2:=AutoSeq1.sub_tuple_tuple
  wp_walk using wpAny_loadPart' hl,wpAny_loadPart' hb,wpAny_forIn_list _ (λ rest b s'=>b.1=none/\s'=⟨hp,g,d,tk,os⟩/\∃(vs ws:LWz)(ns' ms':List Int),rest=vs.zip ws /\
   Dz hp vs ws ns' ms'/\R (.ok (.ret (.bool (HT.lexLt ns' ms')))) ⟨hp,g,d,tk,os⟩) _
  case turn =>
   rintro⟨y,x⟩ rest b s' ⟨hb',rfl,vs,ws,ns',ms',hz,hra,hR⟩;cases hra with
   |nil=>cases hz
   |last t1 t2 e1 e2 =>
    rw[bJ]at hz;injection hz with hyx hrest;injection hyx with hy hx;subst hy hx;have he:=J1 (A:=A.in1) (s:=⟨hp,g,d,tk,os⟩) t1 t2 e1 e2 (by show A.units+1+1<cLine;lia);refine wpAny_bind (he prog w _ _ ?_);by_cases q:ns'=ms'
    .rw[decide_eq_true q];rw[q,GH]at hR
     wp_walk
     exact⟨rfl,rfl,[],[],[],[],hrest,.nil,hR⟩
    .rw[decide_eq_false q];have hri:=λ Q' E' q'=>HT.lt_tupInts (prog:=prog) (w:=w) (A:=A.in1) (Q:=Q') (E:=E') (s:=⟨hp,g,d,tk,os⟩) t1 t2 e1 e2 (by show A.units+1<cLine;lia) q';have hri:∀(E':VPz)(Q':VPz),Q' (.bool (HT.lexLt ns' ms')) ⟨hp,g,d,tk,os⟩->wpAny (model prog w) A.in1 (richCompare .Lt _ _) Q' E' ⟨hp,g,d,tk,os⟩:=λ E' Q' q'=>hri Q' E' q'
     wp_walk using hri
     exact⟨_,rfl,by simpa using hR⟩
   |cons hra' =>
    rename_i i j tk1 tj1 vs' ws' ns'' ms'';rw[bJ]at hz;injection hz with hyx hrest;injection hyx with hy hx;subst hy hx;rw[HT.lexLt_cons]at hR;obtain⟨e,he,hiff⟩:=HT.eqAt_int A.in1 ⟨hp,g,d,tk,os⟩ i tk1 j tj1;refine wpAny_bind (he prog w _ _ ?_);cases e with
    |true =>
     rw[if_pos (hiff.mp rfl)]at hR
     wp_walk
     exact⟨rfl,rfl,_,_,_,_,hrest,hra',hR⟩
    |false =>
     rw[if_neg (λ q=>absurd (hiff.mpr q) au)]at hR;have hri:=HT.rcLt_int A.in1 ⟨hp,g,d,tk,os⟩ i tk1 j tj1 prog w
     wp_walk using hri
     exact⟨_,rfl,by simpa using hR⟩
  case fin =>
   rintro⟨b1,b2⟩ s' ⟨hb',rfl,vs,ws,ns',ms',hz,hra,hR⟩;simp only at hb';subst hb';have hv:HT.lexLt ns' ms'=decide (items.size<items2.size):=by
    cases hra with
    |nil=>exact(decide_eq_false (by lia)).symm
    |last t1 t2 e1 e2=>rw[bJ]at hz;cases hz
    |cons hra'=>rw[bJ]at hz;cases hz
   rw[hv]at hR
   wp_walk
   exact⟨_,rfl,by simpa [Builtin.Tuple.tupleCompareSizes] using hR⟩
  exact⟨rfl,rfl,_,_,_,_,rfl,hr,h⟩
end
theorem Qm{prog:Program}{w:World}{A:Around}{E:VPz}{s:Shared}{l b:Addr}{items items2:Array Value}{ns ms:List Int}{Q:VPz}(hl:IsTup s.heap l items)(hb:IsTup s.heap b items2)(hsz:items.size=items2.size)(hr:Dz s.heap items.toList items2.toList ns ms)
  (hu:A.units+3<cLine) (h:Q (.bool (HT.lexLt ns ms)) s):wpAny (model prog w) A (compareOp .Lt (.ref l) (.ref b)) Q E s:=by
 obtain⟨⟨cls,dd,data,sl⟩,ho,hc,n,hd⟩:=id hl;obtain⟨⟨cls2,dd2,data2,sl2⟩,ho2,hc2,n2,hd2⟩:=id hb;simp only at hc hd hc2 hd2;subst hc hd hc2 hd2;exact richCompare_meets_room (op:=.Lt) ⟨_,ho,rfl⟩ ⟨_,ho2,rfl⟩ eh eg (dZ _ _) (Hj l b items items2 n n2 dd dd2 sl sl2 ns ms hsz)
  ⟨ho,ho2,hu,hr,show Value.bool (HT.lexLt ns ms)≠eP/\Q (.bool (HT.lexLt ns ms)) s from ⟨(λ x=>nomatch x),h⟩⟩ (by lia)
theorem KS(f:Nat->Int):∀k,argBest (λ i j=>decide (f i<f j)) k<=k/\∀j,j<=k->f (argBest (λ i j=>decide (f i<f j)) k)<=f j
 |0=>⟨aj _,λ j hj=>by rw[Nat.le_zero.mp hj];exact bb _⟩
 |k+1=>by
  obtain⟨h1,h2⟩:=KS f k;unfold argBest;by_cases q:f (k+1)<f (argBest (λ i j=>decide (f i<f j)) k)
  .rw[if_pos (decide_eq_true q)];refine⟨aj _,λ j hj=>?_⟩;rcases bh j (k+1) with l|l
   .have:=h2 j (by lia);lia
   .rw[show j=k+1 from by lia];exact bb _
  .rw[if_neg (by rw[decide_eq_false q];exact au)];refine⟨by lia,λ j hj=>?_⟩;rcases bh j (k+1) with l|l
   .exact h2 j (by lia)
   .rw[show j=k+1 from by lia];lia
section
variable{X:Cx}
theorem MK{pins:PNz}{σ:St}{H:Hp}{s:Shared}{p:Addr}{β:Type}{ts:List (Addr×β)}{K:Addr×β->Int}{Q:VK}(I:Inv X pins σ H s)(hp:SqL X.K H p (ts.map λ t=>V.ref t.1))(hc:X.calm=true)(hn:ts≠[])
  (cmp:∀t∈ts,∀u∈ts,∀(s':Shared)(Q':VPz)(E':VPz),(∀b o,s.heap.get? b=some o->s'.heap.get? b=some o)->Q' (.bool (decide (K t<K u))) s'->wpAny (model X.prog X.w) X.A.in1 (compareOp .Lt (.ref t.1) (.ref u.1)) Q' E' s')
  (q:∀t∈ts,(∀u∈ts,K t<=K u)->Q (.ref t.1) H):wpAny (model X.prog X.w) X.A (call (.builtin "min") [.ref p]) (EP X pins σ Q) X.xe s:=by
 obtain⟨its,rv,pl,hz⟩:=I.list hp;have hits:its=ts.map λ t=>Value.ref t.1:=by
  have:=D4 (ts:=ts.map (·.1)) (its:=its) (by rw[aY];exact rv);rw[this,aY];rfl
 subst hits;have len:0<ts.length:=List.length_pos_iff.mpr hn;have at_:∀(i:Nat)(v:Value),(ts.map λ t=>Value.ref t.1).toArray[i]?=some v->∃t,ts[i]?=some t/\v=.ref t.1:=λ i v e=>by
  rw[List.getElem?_toArray,aE]at e;cases z:ts[i]? with
  |none=>rw[z]at e;cases e
  |some t=>rw[z]at e;exact⟨t,rfl,(Option.some.inj e).symm⟩
 have gd:∀(i:Nat)(t:Addr×β),ts[i]?=some t->((ts.map K).getD i 0)=K t:=λ i t e=>by
  rw[bK,aE,e];rfl
 refine SG (lt:=λ i j=>decide ((ts.map K).getD i 0<(ts.map K).getD j 0)) (I.ok.hd hc) pl.isList (by simpa using len) ?_ λ v h' tk hv hk=>?_
 .intro i j vi vj s' Q' E' g hi hj hq;obtain⟨ti,e1,rfl⟩:=at_ i vi hi;obtain⟨tj,e2,rfl⟩:=at_ j vj hj;dsimp only at hq;rw[gd i ti e1,gd j tj e2]at hq;exact cmp ti (ai e1) tj (ai e2) s' Q' E' g hq
 .obtain⟨b1,b2⟩:=KS (λ i=>(ts.map K).getD i 0) ((ts.map λ t=>Value.ref t.1).toArray.size-1);obtain⟨t,e1,rfl⟩:=at_ _ v hv;refine⟨.ref t.1,H,I.kept (t':=tk) hk,rfl,q t (ai e1) λ u hu'=>?_⟩;obtain⟨j,hj⟩:=bY.mp hu';have:=b2 j (by have:=(av.mp hj).1;simp;lia);rw[gd j u hj,gd _ t e1]at this;exact this
theorem NX{k:Nat}(hr:Room k X.A):CV X (.builtin "min") (λ xs H Q=>∃(p:Addr)(ts:List Rwt)(n m:Nat)(key:List Int->Int),xs=[.ref p]/\SqL X.K H p (ts.map λ t=>V.ref t.1)/\X.calm=true/\ts≠[] /\
  (∀t∈ts,Px H n m t)/\(∀t∈ts,∀u∈ts,HT.lexLt (rks t) (rks u)=decide (key (rks t)<key (rks u)))/\∀t∈ts,(∀u∈ts,key (rks t)<=key (rks u))->Q (.ref t.1) H):=by
 intro pins s σ H xs us Q I r h;obtain⟨p,ts,n,m,key,rfl,hp,hc,hn,ht,hkey,q⟩:=h;obtain⟨u,rfl,ru⟩:=HG r;cases ru;refine MK (K:=λ t=>key (rks t)) I hp hc hn (λ t mt u mu s' Q' E' g hq=>?_) q;obtain⟨⟨v1,⟨o1,g1,c1⟩,z1⟩,i1,⟨p1,k1,l1⟩,y1⟩:=IW I (ht t mt);obtain⟨⟨v2,⟨o2,g2,c2⟩,z2⟩,i2,⟨p2,k2,l2⟩,y2⟩:=IW I (ht u mu);have a3:=(ht t mt).2.2.1;have b3:=(ht u mu).2.2.1;have w1:=z1.length;have w2:=z2.length;rw[<-hkey t mt u mu]at hq;refine Qm (s:=s') ⟨o1,g _ _ g1,c1⟩ ⟨o2,g _ _ g2,c2⟩ (by simp;lia) ?_ (by have:=hr.units;show X.A.units+1+3<_;lia) hq;rw[cQ,cQ];exact HN ⟨p1,g _ _ k1,l1⟩ ⟨p2,g _ _ k2,l2⟩ y1 y2 z1 z2 (by lia)
theorem NY{k:Nat}(hr:Room k X.A):CV X (.builtin "min") (λ xs H Q=>∃(p:Addr)(ts:List (Addr×List Int))(key:List Int->Int),xs=[.ref p]/\SqL X.K H p (ts.map λ t=>V.ref t.1)/\X.calm=true/\ts≠[] /\
  (∀t∈ts,H t.1=some (.tup (t.2.map V.int)))/\(∀t∈ts,∀u∈ts,HT.lexLt t.2 u.2=decide (key t.2<key u.2))/\∀t∈ts,(∀u∈ts,key t.2<=key u.2)->Q (.ref t.1) H):=by
 intro pins s σ H xs us Q I r h;obtain⟨p,ts,key,rfl,hp,hc,hn,ht,hkey,q⟩:=h;obtain⟨u,rfl,ru⟩:=HG r;cases ru;refine MK (K:=λ t=>key t.2) I hp hc hn (λ t mt u mu s' Q' E' g hq=>?_) q;have tup:∀t∈ts,∃items,IsTup s.heap t.1 items/\IntsAre items.toList t.2:=λ t htm=>by
  obtain⟨_,zs,rz,tz⟩:=(show ObjOk X.prog X.w H s.heap t.1 (.tup (t.2.map V.int)) from I.hok _ _ (ht t htm));exact⟨_,tz,by simpa using GO rz⟩
 obtain⟨i1,⟨o1,g1,c1⟩,z1⟩:=tup t mt;obtain⟨i2,⟨o2,g2,c2⟩,z2⟩:=tup u mu;rw[<-hkey t mt u mu]at hq;exact HT.lt_tupInts (s:=s') ⟨o1,g _ _ g1,c1⟩ ⟨o2,g _ _ g2,c2⟩ z1 z2 (by have:=hr.units;show X.A.units+1<_;lia) hq
end
section
open PySem.SeqAt
open PySem.AutoSeq1 (wpAny_loadPart')
open PySem.MeetsSeq PySem.MeetsSeq2 PySem.MeetsSeq3
theorem IZ(l:Addr)(items:Array Value)(n:Nat)(x:Value)(e:Nat->Bool)(j:Nat)(hj:j<items.size)(hit:e j=true)(k:Nat)(hs1:items.size<=sizeLine) :
  ∀i:Nat,j-i=k->i<=j->(∀m,i<=m->m<j->e m=false)->Meets (Builtin.«list.remove.loop» ⟨[.ref l,x,rawInt i],[]⟩)
   (λ A R s=>s.heap.get? l=some { cls:=.type "list",dict:=none,data:=.seq items n,slots:=#[] }/\(∀m (hm:m<items.size),SeqAt.EqAt A.in1 s items[m] x (e m))/\R (.ok (.ret .none)) { s with heap:=s.heap.update l (Obj.mapSeq λ xs=>xs.eraseIdxIfInBounds j) }):=by
 induction k with
 |zero =>
  intro i hk hij hno prog w A R s h;obtain⟨hp,g,d,tk,os⟩:=s;obtain⟨hl,he,h⟩:=h;have hij':i=j:=by lia
  subst hij'
  wp_walk using wpAny_loadPart' hl
  have hi:items[((i:Nat):Int).toNat]?=some items[i]:=by simp[hj]
  rw[hi];refine wpAny_bind (he i hj prog w _ _ ?_);rw[hit];have hz':(items.eraseIdxIfInBounds i).size<=sizeLine+1:=aS (size_erased items _) (Nat.le_succ_of_le hs1)
  wp_walk using (wpAny_updateSeq hl rfl (hz:=hs1) (_hz':=hz')),wpAny_loadPart' hl
  simpa using h
 |succ k ih =>
  intro i hk hij hno prog w A R s h;obtain⟨hp,g,d,tk,os⟩:=s;obtain⟨hl,he,h⟩:=h;have hlt:i<items.size:=by lia
  wp_walk using wpAny_loadPart' hl
  have hi:items[((i:Nat):Int).toNat]?=some items[i]:=by simp[hlt]
  have hc:((i:Int)+1)=((i+1:Nat):Int):=by push_cast;rfl
  rw[hi];refine wpAny_bind (he i hlt prog w _ _ ?_);rw[hno i (aj _) (by lia)]
  wp_walk
  rw[hc];exact⟨plainId_quiet plain_remove_loop _,codeAny_builtin entry_remove_loop (by
   rw[Around.under_plainId plain_remove_loop _];exact ih (i+1) (by lia) (by lia) (λ m h1 h2=>hno m (by lia) h2) prog w A R _ ⟨hl,he,h⟩)⟩
theorem Js(l:Addr)(items:Array Value)(n:Nat)(x:Value)(e:Nat->Bool)(j:Nat)(hj:j<items.size)(hit:e j=true)(hno:∀m,m<j->e m=false)(hs1:items.size<=sizeLine) :
  Meets (Builtin.«list.remove» ⟨[.ref l,x],[]⟩)
   (λ A R s=>s.heap.get? l=some { cls:=.type "list",dict:=none,data:=.seq items n,slots:=#[] }/\(∀m (hm:m<items.size),SeqAt.EqAt A.in1 s items[m] x (e m))/\R (.ok (.ret .none)) { s with heap:=s.heap.update l (Obj.mapSeq λ xs=>xs.eraseIdxIfInBounds j) }):=by
 intro prog w A R s h;obtain⟨hp,g,d,tk,os⟩:=s;obtain⟨hl,he,h⟩:=h
 wp_walk using wpAny_loadPart' hl
 exact⟨plainId_quiet plain_remove_loop _,codeAny_builtin entry_remove_loop (by
  rw[Around.under_plainId plain_remove_loop _];exact IZ l items n x e j hj hit _ hs1 0 rfl (aZ _) (λ m _ h2=>hno m h2) prog w A R _ ⟨hl,he,h⟩)⟩
end
section
variable{X:Cx}
def PQ(K:Frag):V->LUz->Hp->VK->Prop:=λ x vs H Q=>∃(l:Addr)(xs:LUz)(y:V)(f:Nat->D)(e:D)(j:Nat),x=.ref l/\vs=[y]/\H l=some (.lst xs)/\(∀i v,xs[i]?=some v->DIs K H (f i) v/\dep (f i)<=4)/\DIs K H e y/\j<xs.length/\deq (f j) e=true/\(∀i,i<j->deq (f i) e=false)/\Q .non (upd H l (.lst (xs.eraseIdx j)))
theorem LH{k:Nat}(hr:Room k X.A):MtM X "list.remove" (PQ X.K):=by
 intro pins s σ H x vs v us Q I rx rv h;obtain⟨l,xs,y,f,e,j,rfl,rfl,hH,hf,he,hj,hit,hno,q⟩:=h;cases rx;obtain⟨u,rfl,ru⟩:=rv.one;obtain⟨z,its,n,r,hl,ho⟩:=I.lstM hH;have hu:=hr.units;have ln:=r.length;refine call_meets F.slot_list_remove ⟨_,ho,rfl⟩ F.entry_list_remove (F.args_list_remove_2 _ _) (Js l its.toArray n u (λ i=>deq (f i) e) j (by rw[am];lia) hit hno (by rw[am];lia)) ⟨ho,λ m hm=>?_,?_⟩
 .have hm':m<xs.length:=by rw[am]at hm;lia
  obtain⟨w,e1,r1⟩:=r.get (ag hm');have d1:its.toArray[m]=w:=by
   have:its[m]?=some its.toArray[m]:=by simp
   rw[e1]at this;exact(Option.some.inj this).symm
  obtain⟨a1,a2⟩:=hf m _ (ag hm');rw[d1];exact Md I 4 _ _ _ _ _ _ _ a2 a1 he r1 ru (by show X.A.units+1+4<cLine;lia)
 .refine⟨.non,_,I.lset (its':=its.eraseIdx j) hH ho ?_ ?_ ?_,rfl,q⟩
  .simp[Array.eraseIdxIfInBounds,show j<its.length by lia]
  .rw[bC,bC];exact(r.take j).append (r.drop (j+1))
  .exact aS (eL _ _) z
end
section
variable{prog:Program}{w:World}{A:Around}{E:VPz}{s:Shared}
theorem PF{l:Addr}{vs:LWz}{kd:SortKind}{κ:Value->Int}{Q:VPz}(hl:s.heap.IsList l vs.toArray)(h64:vs.length<64)
  (hK:∀(h':Heap),(∀b o,s.heap.get? b=some o->h'.get? b=some o)->∀(Q:SortKind->Shared->Prop)(E:VPz),2<=vs.length->Q kd { s with heap:=h' }->wpAny (model prog w) A.in1.in1 (keyKind' vs.toArray) Q E { s with heap:=h' })
  (hL:∀(h':Heap),(∀b o,s.heap.get? b=some o->h'.get? b=some o)->∀x∈vs,∀y∈vs,∀(C:Bool->Shared->Prop),C (decide (κ x<κ y)) { s with heap:=h' }->wpAny (model prog w) A.in1.in1 (keyLt' kd x y) C (λ_ _=>False) { s with heap:=h' })
  (h:∀zs:LWz,zs.Perm vs->(zs.map κ).Pairwise (·<=·)->Q (.ref (s.heap.objs.size+1)) { s with heap:=sortedAll s.heap vs zs.toArray }) :
  wpAny (model prog w) A (call (.builtin "sorted") [.ref l]) Q E s:=by
 have hz:vs.length<=sizeLine:=by rw[sizeLine_eq];lia
 have gm:∀i,i<vs.length->vs.getD i Value.none∈vs:=λ i hi=>by rw[bK,ag hi];exact dQ hi
 refine Calls.call_function_entry kind_sorted plain_sorted entry_sorted (args_sorted1 _) ?_;unfold Builtin.«sorted»;refine wpAny_bind (m:=checkCount "sorted" 1 1 _) (wpAny_pure ?_);refine wpAny_bind (collect_list hl ?_ hz);refine wpAny_bind (wpAny_newList ?_ hz);have hsz:((s.heap.push (seqObj "list" #[] 0)).update s.heap.objs.size (Obj.mapSeq (·++vs.toArray))).objs.size=s.heap.objs.size+1:=by
  rw[dS,size_push']
 have hoL:(((s.heap.push (seqObj "list" #[] 0)).update s.heap.objs.size (Obj.mapSeq (·++vs.toArray))).push (seqObj "list" vs.toArray 0)).get? (s.heap.objs.size+1)=some (seqObj "list" vs.toArray 0):=by
  rw[<-hsz];exact aH _ rfl
 have keep:∀b o,s.heap.get? b=some o->(((s.heap.push (seqObj "list" #[] 0)).update s.heap.objs.size (Obj.mapSeq (·++vs.toArray))).push (seqObj "list" vs.toArray 0)).get? b=some o:=λ b o q=>by
  have hlt:b<s.heap.objs.size:=aB q;rw[df _ _ _ (by rw[hsz];exact aJ (bZ hlt)),cV _ _ _ _ (aJ hlt),df _ _ _ (aJ hlt)];exact q
 show wpAny _ _ _ _ _ { s with heap:=((s.heap.push (seqObj "list" #[] 0)).update s.heap.objs.size (Obj.mapSeq (·++vs.toArray))).push (seqObj "list" vs.toArray 0) };rw[hsz];have mid:∀b o,s.heap.get? b=some o->(Br (((s.heap.push (seqObj "list" #[] 0)).update s.heap.objs.size (Obj.mapSeq (·++vs.toArray))).push (seqObj "list" vs.toArray 0)) (s.heap.objs.size+1) vs).get? b=some o:=λ b o q =>
  Jq (aJ (bZ (aB q))) (keep b o q)
 refine wpAny_bind (wpAny_holding (wpAny_call_entry slot_list_sort ⟨_,hoL,rfl⟩ entry_list_sort (FC (κ:=kd) (key:=λ i=>κ (vs.getD i Value.none)) (s:={ s with heap:=((s.heap.push (seqObj "list" #[] 0)).update s.heap.objs.size (Obj.mapSeq (·++vs.toArray))).push (seqObj "list" vs.toArray 0) }) hoL h64 (λ Q E h2 hq=>hK _ mid Q E h2 hq) (λ i j C hi hj hc=>hL _ mid _ (gm i hi) _ (gm j hj) C hc) λ q a1 a2=>⟨_,rfl,?_⟩) (args_list_sort _)));refine wpAny_pure ⟨_,rfl,h (q.toList.map λ i=>vs.getD i Value.none) ?_ ?_⟩
 .have:=(show q.toList.Perm (List.range vs.length) from a1).map λ i=>vs.getD i Value.none;rw[Kc]at this;exact this
 .rw[aY];exact a2
end
section
variable{X:Cx}
theorem Ka{pins:PNz}{σ:St}{H:Hp}{s:Shared}{p:Addr}{β:Type}{ts:List (Addr×β)}{K:Addr×β->Int}{kd:SortKind}{κ:Value->Int}{Q:VK}(I:Inv X pins σ H s)(hp:SqL X.K H p (ts.map λ t=>V.ref t.1))(G:P0 X X.A.in1.in1 σ H (ts.map λ t=>V.ref t.1) kd κ)(h64:ts.length<64)(hκ:∀t∈ts,κ (.ref t.1)=K t)
  (q:∀l (ts':List (Addr×β)),H l=none->ts'.Perm ts->(ts'.map K).Pairwise (·<=·)->Q (.ref l) (upd H l (.lst (ts'.map λ t=>V.ref t.1)))):wpAny (model X.prog X.w) X.A (call (.builtin "sorted") [.ref p]) (EP X pins σ Q) X.xe s:=by
 obtain⟨its,rv,pl,hz⟩:=I.list hp;have hits:its=ts.map λ t=>Value.ref t.1:=by
  have:=D4 (ts:=ts.map (·.1)) (its:=its) (by rw[aY];exact rv);rw[this,aY];rfl
 rw[ae]at hz;have hlen:its.length=ts.length:=by rw[hits,ae]
 refine PF (kd:=kd) (κ:=κ) pl.isList (by rw[hlen];exact h64) (λ h' k Q' E' h2 hq=>?_) (λ h' k x hx y hy C hc=>?_) λ zs pz sz=>?_
 .exact(G its pins { s with heap:=h' } rv (I.kept (t':=s.toks) k)).1 Q' E' h2 hq
 .exact(G its pins { s with heap:=h' } rv (I.kept (t':=s.toks) k)).2 x hx y hy C hc
 .obtain⟨ts',pt,ez⟩:=E5 (f:=λ t:Addr×β=>Value.ref t.1) (l:=zs) (m:=its) pz ts hits;subst ez;obtain⟨e,he⟩:=sortedAll_at s.heap its (List.toArray (ts'.map λ t=>Value.ref t.1));have hn:H (s.heap.objs.size+1)=none:=I.hok.fresh (bH _);refine⟨.ref (s.heap.objs.size+1),_,I.laid (o:=.lst (ts'.map λ t=>V.ref t.1)) (t':=s.toks) (λ b o z=>sortedAll_old z) (bH _) ⟨?_,_,e,?_,he⟩,rfl,q _ _ hn pt ?_⟩
  .rw[ae,pt.length_eq];exact hz
  .have:=Gs (ts'.map (·.1));rw[aY,aY]at this;exact this
  .rw[aY]at sz;rw[show ts'.map K=ts'.map (κ∘λ t=>Value.ref t.1) from cR λ t ht=>(hκ t (pt.mem_iff.mp ht)).symm];exact sz
theorem Cz{k:Nat}(hr:Room k X.A):CV X (.builtin "sorted") (λ xs H Q=>∃(p:Addr)(ts:List Rwt)(n m:Nat)(key:List Int->Int),xs=[.ref p]/\SqL X.K H p (ts.map λ t=>V.ref t.1)/\ts.length<64 /\
  (∀t∈ts,Px H n m t)/\(∀t∈ts,∀u∈ts,HT.lexLt (rks t) (rks u)=decide (key (rks t)<key (rks u))) /\
  ∀l (ts':List Rwt),H l=none->ts'.Perm ts->(ts'.map λ t=>key (rks t)).Pairwise (·<=·)->Q (.ref l) (upd H l (.lst (ts'.map λ t=>V.ref t.1)))):=by
 intro pins s σ H xs us Q I r h;obtain⟨p,ts,n,m,key,rfl,hp,h64,ht,hkey,q⟩:=h;obtain⟨u,rfl,ru⟩:=HG r;cases ru;exact Ka I hp (LP (by have:=hr.units;show X.A.units+1+1+8<_;lia) ht hkey) h64 (λ t hm=>Ff (ht t hm)) q
end
theorem HOk.thaw{P:Program}{w:World}{H:Hp}{h:Heap}{a:Addr}{ob:Obj}{u:HO}(ok:HOk P w H h)(e:H a=some (.frz ob u)):HOk P w (upd H a u) h:=λ b v q=>by
 have ho:∀b y,H b=some (.own y)->(upd H a u) b=some (.own y):=λ b y z=>by rw[Af (λ c=>by rw[c,e]at z;cases z)];exact z
 have ht:∀b xs,H b=some (.tup xs)->(upd H a u) b=some (.tup xs):=λ b xs z=>by rw[Af (λ c=>by rw[c,e]at z;cases z)];exact z
 by_cases hb:b=a
 .subst hb;rw[upd_same]at q;cases q;exact(show h.get? b=some ob/\ObjOk P w H h b u from ok b _ e).2.stay (λ_ _ _ r=>r) (λ c r=>ho c _ r) ht
 .rw[Af hb]at q;exact(ok b v q).stay (λ_ _ _ r=>r) (λ c r=>ho c _ r) ht
theorem Inv.thaw{X:Cx}{pins:PNz}{σ:St}{H:Hp}{s:Shared}{a:Addr}{ob:Obj}{u:HO}(I:Inv X pins σ H s)(e:H a=some (.frz ob u))(n:∀o v,X.H₀ a≠some (.frz o v)):Inv X pins σ (upd H a u) s:=by
 have ne:∀{b:Addr},H b=none->b≠a:=λ z c=>by rw[c,e]at z;cases z
 refine⟨I.ok,I.os,I.bare,⟨I.base.keep,I.base.slot,λ b o q r hx=>?_,I.base.there,λ b xs q=>?_,λ b o v q=>?_,λ b ps q=>?_⟩,I.loc,I.cell,?_,λ x c q=>?_,λ p hp=>?_,I.hok.thaw e,I.len⟩
 .have:=I.base.free b o q r hx;rw[Af (ne this)];exact this
 .have:=I.base.tups b xs q;rw[Af (λ c=>by rw[c,e]at this;cases this)];exact this
 .have:=I.base.frzs b o v q;rw[Af (λ c=>by rw[c]at q;exact n o v q)];exact this
 .obtain⟨more,this⟩:=I.base.tbls b ps q;exact⟨more,by rw[Af (λ c=>by rw[c,e]at this;cases this)];exact this⟩
 .rw[Af (ne I.free)];exact I.free
 .rw[Af (ne (I.freeC x c q))];exact I.freeC x c q
 .obtain⟨p1,p2,p3⟩:=I.pin p hp;exact⟨p1,by rw[Af (ne p2)];exact p2,p3⟩
def Sj(H₀:Hp)(te:TE):TE:=λ σ H Q=>te σ H λ v H'=>∃(a:Addr)(ob:Obj)(u:HO),H' a=some (.frz ob u)/\(∀o w,H₀ a≠some (.frz o w))/\Q v (upd H' a u)
theorem PZ{X:Cx}{e:Expr}{te:TE}(h:PE X e te):PE X e (Sj X.H₀ te):=by
 intro pins s σ H Q I q;refine thn (h pins s σ H _ I q) λ u s1 ⟨x,H1,I1,rx,a,ob,w,ea,n,q1⟩=>⟨x,_,I1.thaw ea n,rx,q1⟩
theorem J9{a:Addr}{ob:Obj}{kvs:LKz}{g:TG}{tc:TT}{te:TE}{σ:St}{H1:Hp}{acc:Addr}{Qr:Hp->Prop}(Pv:Nat->LUz->St->Hp->Prop)(h0:Pv 0 [] σ (upd H1 acc (.lst [])))
  (hq:∀i xs σ H,i<=kvs.length->H acc=some (.lst xs)->Pv i xs σ H->H a=some (.frz ob (.dT kvs)))
  (hs:∀i p t b xs σ H,kvs[i]?=some p->i<kvs.length->xs.length<=i->H acc=some (.lst xs)->Pv i xs σ H->H b=some (.tup (p.1.map kV))->H t=none->g (.ref t) σ (upd H t (.tup [.ref b,p.2])) λ σ2 H2=>tc σ2 H2 λ b Hb=>match b with
   |true=>te σ2 Hb λ v H3=>fNx acc kvs.length Pv i σ2 v H3
   |false=>fSk acc kvs.length Pv i σ2 Hb)
  (hd:∀xs σ H,xs.length<=kvs.length->H acc=some (.lst xs)->Pv kvs.length xs σ H->Qr H) :
  ∃W:Nat->Nat->St->Hp->Prop,(∃m,W 0 m σ (upd H1 acc (.lst [])))/\∀i m σ1 H2,W i m σ1 H2 ->
   ((Itn a ob).stop i H2/\Qr H2)\/((Itn a ob).go i H2/\∀x H3,(Itn a ob).yld i H2 x H3->g x σ1 H3 λ σ4 H4=>tc σ4 H4 λ b Hb=>match b with
    |true=>te σ4 Hb λ v H5=>∃xs,H5 acc=some (.lst xs)/\xs.length<sizeLine/\∃m',m'<m/\W (i+1) m' σ4 (upd H5 acc (.lst (xs++[v])))
    |false=>∃m',m'<m/\W (i+1) m' σ4 Hb):=by
 refine⟨fW acc kvs.length Pv,⟨kvs.length,aZ _,rfl,[],aj _,upd_same,h0⟩,?_⟩;rintro i m σ1 H2 ⟨hi,rfl,xs,hl,ha,hp⟩;have hsq:=hq i xs σ1 H2 hi ha hp;rcases bh i kvs.length with h|h
 .refine .inr ⟨⟨kvs,kvs[i],hsq,ag h⟩,?_⟩;rintro x H3 ⟨t,b,z,hz,hb,rfl,ht,rfl⟩;exact hs i z t b xs σ1 _ (hz kvs hsq) h hl ha hp hb ht
 .have e:i=kvs.length:=cu hi h;subst e;exact .inl ⟨⟨kvs,hsq,aj _⟩,hd xs σ1 H2 hl ha hp⟩
theorem Qc{X:Cx}{K:Frag}{e:Expr}{f:Str}{pos:Pos}{ta:TE}(he:PE X e ta)(hb:attributeBase e f X.env (eval e X.env)=eval e X.env)(hK:X.K=K:=by rfl):PE X (.Attribute e f pos) (Sr K ta f):=by subst hK;exact CL he hb
def Rp(tk tv:TE):TE:=λ σ H Q=>∀p,H p=none->tk σ (upd H p (.dT [])) λ x H1=>tv σ H1 λ y H2=>H2 p=some (.dT [])/\∃(b:Addr)(ks:List Key),x=.ref b/\H2 b=some (.tup (ks.map kV))/\Q (.ref p) (upd H2 p (.dT [(ks,y)]))
theorem OB{X:Cx}{pos:Pos}{k v:Expr}{tk tv:TE}(hu:X.A.units+1<cLine)(hk:PE X k tk)(hv:PE X v tv):PE X (.Dict [some k] [v] pos) (Rp tk tv):=by
 intro pins s σ H Q I q;have hn:=I.hok.fresh (aj s.heap.objs.size);have I1:=I.laid (a:=s.heap.objs.size) (o:=.dT []) (h':=s.heap.push { cls:=.type "dict",data:=.dict #[] }) (t':=s.toks) (λ_ _ q=>af _ q) (aj _) (Pl s.heap I.big);have hp:PPs X pos [some k] [v] [(tk,tv)]:=Dm hk hv M9;have hl:=pairTrees_length [some k] [v] X.env pos rfl rfl;have hl1:(pairTrees [some k] [v] X.env pos).length=1:=hl;rw[arm_eval_Dict,zip_pairTrees [some k] [v] X.env pos rfl rfl,dictDisplay_pairs _ (λ z=>by rw[z]at hl1;simp at hl1) (by lia)];refine wpAny_bind (wpAny_standAt (wpAny_bind ?_));unfold subDict;refine wpAny_bind (wpAny_alloc ?_);refine wpAny_bind (wpAny_holding ?_);rw[if_pos (by lia)];refine wpAny_bind (thn (hp pins _ σ _ (λ ps H2=>match ps with
  |[(x,y)]=>H2 s.heap.objs.size=some (.dT [])/\∃(b:Addr)(ks:List Key),x=.ref b/\H2 b=some (.tup (ks.map kV))/\Q (.ref s.heap.objs.size) (upd H2 s.heap.objs.size (.dT [(ks,y)]))
  |_=>False) I1 (q _ hn)) λ ws s2 ⟨ps,H2,I2,rel,z⟩=>?_)
 cases rel with
 |nil=>exact z.elim
 |@cons p u _ _ hxy r0 =>
  cases r0 with
  |cons _ _=>exact z.elim
  |nil =>
   obtain⟨x,y⟩:=p;obtain⟨e,b,ks,ex,eb,q2⟩:=z;obtain⟨u1,u2⟩:=u;subst ex;obtain⟨rx,ry⟩:=hxy;cases(show u1=Value.ref b from rx);obtain⟨z0,hd,xs,rel0,dd⟩:=QW I2.hok e;cases rel0;refine wpAny_holding ?_;rw[dW];refine wpAny_bind (wpAny_bind (wpAny_bind (wpAny_dictSet_heap (knd:=tupleKind (AJ X.prog X.w)) (show X.A.units<cLine by lia) (Ju I2.hok eb) dd (λ h' dd' hs=>wpAny_pure ?_) (aZ _))));dsimp only;rw[List.forIn_nil];refine wpAny_pure (wpAny_pure (wpAny_pure (wpAny_pure ⟨.ref s.heap.objs.size,_,?_,rfl,q2⟩)));obtain⟨o,es,ep,hq,h2,h3,h4,_,h5⟩:=dd';refine FU I2 (by rw[e];exact True.intro) hs ⟨o,hq⟩ ⟨(show 1<=sizeLine from by decide),hd,_,(KT.put (kvs:=[]) (xs:=[]) .nil ks eb ry).keeps λ c ys ec=>?_,o,es,ep,hq,h2,h3,h4,h5⟩;rw[Af (Kv ec e (λ z=>nomatch z))];exact ec
structure Iz(P:Program)(w:World)(K:Frag)(mg:MGz)(base:Heap)(k:Nat)(C:Addr)(m:Str)(ps:LSz)(sp:Sp):Prop where
 cl:Cls K C
 ex:∃(f:Addr)(fd:FuncData),Pz K C m f/\A3 P w K mg base (CX1 P w) k f fd ps sp/\Binds K fd ps []
section
variable{X:Cx}{k j:Nat}{x m:Str}{C:Addr}{ps:LSz}{sp:Sp}{p pos apos:Pos}{e o:Expr}{es:List Expr}{t:TA}{ta:TE}{E₁:XK}
theorem R4{pl:Sem Bool}(D:Iz X.prog X.w X.K X.mg X.base k C m ps sp)(hr:Room j X.A)(hx:B7 (CX1 X.prog X.w) X E₁)(he:PE X o ta)(ha:PA X (e::es) t)(hj:k<=j:=by decide)
    (hst:starEach (e::es) X.env=(false,eval e X.env)::starEach es X.env:=by rfl) (hpl:(backTo pos (starEach es X.env)).any (·.1)=false:=by rfl)
    (ht:eval (.Call (.Attribute o m apos) (e::es) [] pos) X.env=(do
      let ov <-eval o X.env
      standAt apos.atName
      let (f,first) <-holding [ov] (getMethod ov m pl)
      callWith pos f first (backTo pos (starEach (e::es) X.env)) (backToKw pos (keywordEach [] X.env))):=by rfl):PE X (.Call (.Attribute o m apos) (e::es) [] pos) (JR C m sp [] E₁ ta t):=by
  obtain⟨f,fd,M,F,hb⟩:=D.ex;exact Qb he D.cl M F (hr.mono hj) hb .nil hx ha hst hpl ht
end
structure FunF(K:Frag)(x qual:Str)(st:Stmt)(f:Addr)(fd:FuncData)(dv:Value):Prop where
 ex:∃(oc:Value)(od:Option Addr)(T:Addr)(kV doc pm:Value)(an:Option Addr)(cdv ct:Value)(osl:AOz)(o:Obj)(n:Nat),
  fd=fnOf x qual (AV st) (Ap st) (Ad st) (.ref T) kV doc pm an cdv ct/\K.lookup f=some ⟨oc,od,.func fd,osl⟩/\codeIn K cdv qual=true/\K.lookup T=some o/\o.data=.seq #[dv] n
 kp:keepIn K (.ref f)=true
theorem FunF.okx{P:Program}{w:World}{K:Frag}{mg:MGz}{base:Heap}{x qual:Str}{st:Stmt}{f:Addr}{fd:FuncData}{dv:Value}{N ps:LSz}{k:Nat}{sp:Sp}(F:FunF K x qual st f fd dv)(S:Aj N ps (Ad st))(len:∀vs H Q E,sp vs H Q E->vs.length=ps.length)
  (hbody:∀(cdv:Value)(A:Around)(outer:List Env)(s:Shared)(H:Hp)(vs:LUz)(Q:VK)(E:XK),Room k (A.deeper (envOfC qual (Ad st) s.heap.objs.size f cdv))->sp vs H Q E ->
   ∃t,PSs (Bd (CX1 P w) P w K mg base N qual (Ad st) f cdv A outer s H E) (Ap st) t/\t { nx:=λ_ H'=>Q .non H',rt:=Q } (start N vs) H):A3 P w K mg base (CX1 P w) (k+1) f fd ps sp:=by
 obtain⟨oc,od,T,kV,doc,pm,an,cdv,ct,osl,o,n,rfl,lk,hcd,lT,dT⟩:=F.ex;exact KF lk hcd S len λ A outer s H vs Q E hr hsp=>hbody cdv A outer s H vs Q E hr hsp
theorem FunF.binds{K:Frag}{x qual:Str}{st:Stmt}{f:Addr}{fd:FuncData}{dv:Value}{ps:LSz}{ds:LWz}(F:FunF K x qual st f fd dv)
  (h:∀(T:Addr)(kV doc pm:Value)(an:Option Addr)(cdv ct:Value)(us:LWz),(us++ds).length=ps.length->∃k:Option (Array Value)->Sem (List (Str×Value)),
   bindArgs (fnOf x qual (AV st) (Ap st) (Ad st) (.ref T) kV doc pm an cdv ct) ⟨us,[]⟩=seqItems? (.ref T) >>= k/\k (some #[dv])=pure (ps.zip (us++ds))):Binds K fd ps ds:=by
 obtain⟨oc,od,T,kV,doc,pm,an,cdv,ct,osl,o,n,rfl,lk,hcd,lT,dT⟩:=F.ex;intro s us X hl;obtain⟨k,h1,h2⟩:=h T kV doc pm an cdv ct us hl;exact .of_defaults rfl (X _ _ lT) dT h1 h2
section
variable{X:Cx}{k j:Nat}{x m:Str}{C:Addr}{ps:LSz}{sp:Sp}{p pos apos:Pos}{e o:Expr}{es:List Expr}{t:TA}{ta:TE}{E:XK}
theorem SB{pl:Sem Bool}(D:Iz X.prog X.w X.K X.mg X.base k C m ps sp)(hr:Room j X.A)(ho:PE X.nox o ta)(ha:PA X.nox (e::es) t)(hj:k<=j:=by decide)
    (hst:starEach (e::es) X.env=(false,eval e X.env)::starEach es X.env:=by rfl) (hpl:(backTo pos (starEach es X.env)).any (·.1)=false:=by rfl)
    (ht:eval (.Call (.Attribute o m apos) (e::es) [] pos) X.env=(do
      let ov <-eval o X.env
      standAt apos.atName
      let (f,first) <-holding [ov] (getMethod ov m pl)
      callWith pos f first (backTo pos (starEach (e::es) X.env)) (backToKw pos (keywordEach [] X.env))):=by rfl):PX X (.Call (.Attribute o m apos) (e::es) [] pos) (JR C m sp [] E ta t) E:=by
  obtain⟨f,fd,M,F,hb⟩:=D.ex;intro pins s σ H Q Ex I h hx;refine methodCall_KW (pl:=pl) (wpAny_mono (ho pins s σ H _ (I.wish _) h) (λ u s1 hz_=>?_) λ_ _ z=>False.elim z) ht;obtain⟨y,H1,I1',rx,a,dx,fs,ex,ea,l,q⟩:=hz_;have I1:Inv X pins σ H1 s1:=I1'.unwish;subst ex;obtain rfl:u=Value.ref a:=rx;refine Ee I1 ea D.cl M l ?_;refine callWith_K (first:=[.ref a]) (h₀:=X.base) I.ok.mod.kin M.kp (wpAny_mono (ha pos pins s1 σ H1 _ (I1.wish _) q) (λ us s2 ⟨vs,H2,I2',r,q2⟩=>⟨I2'.unwish.kIn,?_⟩) λ_ _ z=>False.elim z) hst hpl;have I2:Inv X pins σ H2 s2:=I2'.unwish;have q2:sp ((.ref a::vs)++[]) H2 Q E:=q2;rw[aI]at q2;have r2:Vals (.ref a::vs) (Value.ref a::us):=.cons rfl r;have hl:(Value.ref a::us).length=ps.length:=by rw[<-r2.length];exact F.len _ _ _ _ q2
  have hb2:=hb s2 (Value.ref a::us) I2.kIn (by rw[aI];exact hl);rw[aI]at hb2;refine wpAny_call (codeAny_mono (F.run X.A X.stack s2 H2 ⟨Value.ref a::us,[]⟩ (Value.ref a::us) (.ref a::vs) Q E (hr.mono hj) I2.env0 hb2 r2 q2) λ r s' hq=>?_);cases r with
  |error e =>
    obtain⟨x,T,C,d,H',rfl,os,bare,un,hok,fl,q'⟩:=hq;exact hx x T C d H' s' (I2.call' (ch:=[]) os un hok bare (λ b z=>absurd z (by simp))) fl q'
  |ok fl =>
    cases fl with
    |ret u=>exact I2.after hq
    |next=>exact False.elim hq
    |brk=>exact False.elim hq
    |cont=>exact False.elim hq
end
section
variable{X:Cx}{k j i:Nat}{x m n:Str}{C:Addr}{ps ks:LSz}{sp:Sp}{p pos apos np:Pos}{e o value:Expr}{es:List Expr}{kws:List Keyword}{t tk:TA}{ta:TE}{te:XK->TE}{E:XK}{g:LWz->LWz->LWz}{gV:LUz->LUz->LUz}
def Sk(i:Nat)(te:XK->TE):XK->TS:=λ E D σ H=>te E σ H (λ v H1=>D.nx (σ.set i (some v)) H1)
theorem PU(hN:X.N.Nodup)(hi:X.N[i]?=some n)(hx:Loc X.env.scope n)(he:∀E,PX X value (te E) E)(hsw:swapsWith value (some (.Name n np)) apos.line X.env=pure false:=by rfl)(hf:X.fn n=true\/X.env.scope.names.lookup n=some .local:=by first|exact .inl rfl|exact .inr rfl|assumption) :
  PXS X (.Assign [.Name n np] value apos) (Sk i te):=by
 intro E pins s σ H D Ex I h hx';refine wpAny_Assign_Name (thn (he E pins s σ H _ _ I h hx') λ v s1 ⟨y,H1,I1,r1,q1⟩=>?_) hsw;exact Ep I1 hN hi hx r1 (λ s2 I2=>⟨_,H1,I2,q1⟩) hf
end
theorem Q2{K:Frag}{hp:Heap}{G:Addr}(X:K.In hp)(hG:PySem.W.excIn K G vErr "ValueError.__new__"=true):∃nm qn ns bs bm hd sn sub ab col dd k0 k1 k2 k3 k5,hp.get? G=some (excClassObj nm qn G ns bs bm hd sn sub ab col dd k0 k1 k2 k3 k5 "ValueError.__new__")/\(Value.ref G::bm).contains (.type "BaseException")=true:=by
 have q:=hG;unfold PySem.W.excIn at q;split at q
 .rename_i dd cd sl ho;split at q
  .rename_i C' bm k0 k1 k2 k3 n k5 hm hs;simp only[aP,beq_iff_eq,dh]at q;obtain⟨⟨⟨⟨⟨rfl,rfl⟩,hdel⟩,ht⟩,hok⟩,hni⟩:=q;obtain⟨nm,bs,mro,ns,qn,hd,sn,sub,ab,col,del⟩:=cd;dsimp only at hm hdel hok hni;subst hm hdel;have hsl:sl=#[k0,k1,k2,k3,some (.builtin "ValueError.__new__"),k5]:=by
    obtain⟨l⟩:=sl;simp only at hs;rw[hs]
   subst hsl;have hcB:(Value.ref C'::bm).contains (.type "BaseException")=true:=by
    rw[c5,(tail_of_in X ht).hasType (show vErr.contains (.type "BaseException")=true by decide +kernel)];exact dM _
   exact⟨_,_,_,_,_,_,_,_,_,_,_,_,_,_,_,_,X _ _ ho,hcB⟩
  .cases q
 .cases q
theorem LL{M:Model}{A:Around}{E:VPz}{s:Shared}{K:Frag}{G C e:Addr}{d:Option Addr}{dt:Data}{sl':AOz}{Q:Bool->Shared->Prop}{b:Bool}(X:K.In s.heap)(hG:PySem.W.excIn K G vErr "ValueError.__new__"=true)
  (he:s.heap.get? e=some ⟨.ref C,d,dt,sl'⟩) (hs:mroIn K C (.ref G)=some b) (h:Q b s):wpAny M A (excMatches (.ref e) (.ref G)) Q E s:=by
 have LS:=looks_mroIn (M:=M) X hs;obtain⟨hp,g,dr,tk,os⟩:=s;obtain⟨nm,qn,ns,bs,bm,hd,sn,sub,ab,col,dd,k0,k1,k2,k3,k5,hC,hcB⟩:=Q2 X hG;have f:=tc_notTuple;unfold excMatches;cases b<;>(repeat (first|with_reducible refine wpAny_loadPart_at he ?_|with_reducible refine wpAny_loadPart_at hC ?_|(with_reducible refine wpAny_isSubtype_exc hC ?_;rw[hcB])|(with_reducible refine LS.at ?_)|wp_step))<;>exact h
def Lh(K:Frag)(G:Addr):Prop:=(∃fI,Ce K G fI=true)\/PySem.W.excIn K G vErr "ValueError.__new__"=true
section
variable{X:Cx}{k j im:Nat}{x m g:Str}{C G:Addr}{p pos cpos:Pos}{e:Expr}{E:XK}{te:TE}{b₀:Stmt}{suite:List Stmt}{gp hpos:Pos}{ts:TS}{hs:List ExceptHandler}{th:TH}
theorem C5(hN:X.N.Nodup)(him:X.N[im]?=some m)(hm:X.env.scope.names.lookup m=some .local)(hgl:Gl X g)(hg:X.mg g=some (.ref G))(hG:Lh X.K G)(hsu:∀x,PSs (X.suite x) (b₀::suite) ts)(hr:PHs X hs th)
    (hdb:(g==("__debug__":Str))=false:=by decide):PHs X (.ExceptHandler (some (.Name g gp)) (some m) (b₀::suite) hpos::hs) (Re X.K im G ts th):=by
  intro pins s' σ H' D x C d T2 nT2 I2 hh;obtain⟨b,hsub,hy,hn⟩:=hh;have fl2:CU (A4 H' x C d T2) x C d T2:=⟨Dc,Eo nT2,nT2⟩;obtain⟨⟨vs,sl,e1,e2⟩,_⟩:=(show ObjOk X.prog X.w (A4 H' x C d T2) s'.heap x (Fl C d x T2) from I2.hok x _ fl2.1);obtain⟨⟨o,tv,f1,f2,f3⟩,_⟩:=(show ObjOk X.prog X.w (A4 H' x C d T2) s'.heap T2 (TbO T2) from I2.hok T2 _ fl2.2.1);have mt:∀{A:Around}{Ex:VPz}{Q:Bool->Shared->Prop},Q b s'->wpAny (model X.prog X.w) A (excMatches (.ref x) (.ref G)) Q Ex s':=λ q=>hG.elim (λ⟨fI,z⟩=>LJ I2.kIn z e1 hsub q) λ z=>LL I2.kIn z e1 hsub q;refine wpAny_handleBy_cons (codeAny_handlers_test (CO (X:=X.suite x) (I2.suite x) hgl hg (mt ?_) hdb)) (by intro z;cases z);cases b with
  |false=>exact hr pins s' σ H' D x C d T2 nT2 I2 (hn rfl)
  |true =>
    have hts:=hy rfl;show codeAny _ _ _ _ _;refine codeAny_handlers_suite_as (GQ e1 e2 f1 f2 (bi.mp f3).1 λ h3 k3 t3=>?_);have same:upd (A4 H' x C d T2) T2 (TbO T2)=A4 H' x C d T2:=funext λ b=>by
      by_cases z:b=T2
      · rw[z,upd_same,Eo nT2]
      · rw[Af z]
    have I3:Inv X pins σ (A4 H' x C d T2) { s' with heap:=h3 }:=by
      have:=I2.write (x:=T2) (e:=T2) (h':=h3) (o:=TbO T2) (t':=s'.toks) (by rw[fl2.2.1];exact True.intro) (.inl rfl) (λ b u nb z=>(k3 b nb).trans z) (let ⟨o,_,e,_⟩:=t3;⟨o,e⟩) (Lm t3);rw[same]at this;exact this
    refine Ep (X:=X.suite x) (I3.suite x) hN him (.inl hm) (v:=.ref x) rfl (λ s4 I4=>?_) (.inr hm);refine wpAny_mono (hsu x pins s4 _ _ (QT im D) I4 hts) (λ fl s5 q5=>?_) λ_ _ z=>False.elim z;show wpAny (model X.prog X.w) X.A (do bindName X.env m .none;unbindBehindTheSuite X.env m hpos) (λ_ s₃=>SP X pins D fl s₃) X.xe s5;cases fl with
    |next=>obtain⟨σ',H5,I5,q⟩:=q5;exact FP (I5.unsuite (ok:=I2.ok)) hN him hm λ s6 I6=>⟨_,H5,I6,q⟩
    |brk=>obtain⟨σ',H5,I5,q⟩:=q5;exact FP (I5.unsuite (ok:=I2.ok)) hN him hm λ s6 I6=>⟨_,H5,I6,q⟩
    |cont=>obtain⟨σ',H5,I5,q⟩:=q5;exact FP (I5.unsuite (ok:=I2.ok)) hN him hm λ s6 I6=>⟨_,H5,I6,q⟩
    |ret u=>obtain⟨v,σ',H5,I5,r,q⟩:=q5;exact FP (I5.unsuite (ok:=I2.ok)) hN him hm λ s6 I6=>⟨v,_,H5,I6,r,q⟩
end
section
variable{prog:Program}{w:World}{A:Around}{Ex:VPz}
theorem NP{l it:Addr}{its:Array Value}(ne:l≠it):∀(m j:Nat)(s:Shared)(Q:LWz->Shared->Prop),s.heap.IsListIter it l j->s.heap.IsList l its->j+m<=its.size ->
  (∀h',h'.IsListIter it l (j+m)->Heap.SameBut it s.heap h'->Q ((its.toList.drop j).take m) { s with heap:=h' })->wpAny (model prog w) A (draw (.ref it) m) Q Ex s:=by
 intro m
 induction m with
 |zero =>
  intro j s Q st _ _ k;exact wpAny_pure (by simpa using k s.heap st (Heap.SameBut.refl ..))
 |succ m ih =>
  intro j s Q st hl le k;have lt:j<its.size:=by lia
  refine wpAny_bind (wpAny_pyNext_list_item st hl (x:=its[j]) (by simp[lt]) λ h1 st1 b1=>?_);refine wpAny_bind (wpAny_holding (ih (j+1) _ _ st1 (hl.extBut b1.extBut ne) (by lia) λ h2 st2 b2=>wpAny_pure ?_));have e:its.toList.drop j=its[j]::its.toList.drop (j+1):=by simp[db,lt]
  have r:=k h2 (by rw[show j+(m+1)=j+1+m by lia];exact st2) (b1.trans b2);rw[e,List.take_succ_cons]at r;exact r
theorem N2{s:Shared}{l:Addr}{its:Array Value}{Q:LWz->Shared->Prop}(hh:A.handled=none)(hl:s.heap.IsList l its)(k:∀h',Heap.ExtBut s.heap.objs.size s.heap h'->Q its.toList { s with heap:=h' }) :
  wpAny (model prog w) A (unpackItems (.ref l) its.size none) Q Ex s:=by
 have ne:l≠s.heap.objs.size:=by
  obtain⟨o,e,_⟩:=hl;exact aJ (aB e)
 unfold unpackItems notIterableAtAll;refine wpAny_bind (wpAny_bind (wpAny_specialOf hl.typeIs slot_list_iter.lookup (wpAny_pure ?_)));simp only[aU,if_false];refine wpAny_bind (wpAny_holding (wpAny_pyIter_list hl ?_));refine wpAny_bind (wpAny_holding (NP ne its.size 0 _ _ ⟨_,aH _ rfl,rfl,rfl⟩ (hl.push _) (by lia) λ h1 st1 b1=>?_));have e:List.take its.size (List.drop 0 its.toList)=its.toList:=by rw[List.drop_zero];exact List.take_of_length_le (by simp)
 rw[e,if_neg (by simp)];refine wpAny_bind (wpAny_holding (wpAny_pyNext_list_end hh st1 ((hl.push _).extBut b1.extBut ne) (by simp) λ h2 b2=>?_));simp only[Option.isSome_none,aU,if_false];exact wpAny_pure (k h2 λ b o hb e=>b2 b o hb (b1.extBut b o hb (af _ e)))
end
def TY(K:Frag)(n:Nat)(t:TGs):TG:=λ v σ H Q=>∃a xs,v=.ref a/\SqL K H a xs/\xs.length=n/\t xs σ H Q
theorem R1{X:Cx}{pos:Pos}{es:List Expr}{k:Nat}{t:TGs}{n:Nat}(hc:X.calm=true)(h:PGs X es t)
  (hn:(assignEach es X.env).length=n:=by rfl) (hst:(assignEach es X.env).findIdx? (·.1)=none:=by rfl):PG X (.Tuple es k pos) (TY X.K n t):=by
 intro pins s σ H v u Q I r hw;obtain⟨a,xs,rfl,hq,hl,hw⟩:=hw;cases r;obtain⟨its,rv,p,_⟩:=I.list hq;have el:(assignEach es X.env).length=its.toArray.size:=by rw[hn,<-hl,rv.length,am]
 rw[assign_Tuple];refine wpAny_bind (wpAny_standAt ?_);unfold unpack;rw[el,hst];refine wpAny_bind (wpAny_holding (N2 (I.ok.hd hc) p.isList λ h' hx=>?_));have I1:Inv X pins σ H { s with heap:=h' }:=I.kept (t':=s.toks) λ b o e=>hx b o (aJ (aB e)) e;exact h pins _ σ H xs _ Q I1 rv hw
theorem fsk{N ps:LSz}{sc:Scope}(a:sc.kind=.function:=by rfl)(b:sc.isCoroutine=false:=by rfl)(c:sc.isGenerator=false:=by rfl)(d:N.Nodup:=by decide +kernel)(e:N.take ps.length=ps:=by rfl)(f:∀x∈ps,sc.names.lookup x=some .local\/sc.names.lookup x=some .cell:=by decide +kernel)(g:∀y∈sc.names,y.2≠.free:=by decide +kernel):Aj N ps sc:=⟨a,b,c,d,e,f,g⟩
section
variable{P:Program}{w:World}{K:Frag}{mg:MGz}{base:Heap}{x qual:Str}{st:Stmt}{f c:Addr}{fd:FuncData}{N ps:LSz}{k:Nat}{sp:Sp}
theorem Fun.g(F:Fun K x qual st f fd)(S:Aj N ps (Ad st))(h:∀vs H Q E,sp vs H Q E->vs.length=ps.length/\∀(cdv:Value)(A:Around)(outer:List Env)(s:Shared),Room k (A.deeper (envOfC qual (Ad st) s.heap.objs.size f cdv)) ->
  ∃t,PSs (Bd CX0 P w K mg base N qual (Ad st) f cdv A outer s H E).nox (Ap st) t/\t { nx:=λ_ H'=>Q .non H',rt:=Q } (start N vs) H):A3 P w K mg base CX0 (k+1) f fd ps sp :=
 F.ok S (λ vs H Q E z=>(h vs H Q E z).1) λ cdv A outer s H vs Q E hr z=>(h vs H Q E z).2 cdv A outer s hr
theorem Fun.gx(F:Fun K x qual st f fd)(S:Aj N ps (Ad st))(h:∀vs H Q E,sp vs H Q E->vs.length=ps.length/\∀(cdv:Value)(A:Around)(outer:List Env)(s:Shared),Room k (A.deeper (envOfC qual (Ad st) s.heap.objs.size f cdv)) ->
  ∃t,PSs (Bd (CX1 P w) P w K mg base N qual (Ad st) f cdv A outer s H E) (Ap st) t/\t { nx:=λ_ H'=>Q .non H',rt:=Q } (start N vs) H):A3 P w K mg base (CX1 P w) (k+1) f fd ps sp :=
 F.okx S (λ vs H Q E z=>(h vs H Q E z).1) λ cdv A outer s H vs Q E hr z=>(h vs H Q E z).2 cdv A outer s hr
theorem FunD.g(F:FunD K x qual st f fd)(S:Aj N ps (Ad st))(h:∀vs H Q E,sp vs H Q E->vs.length=ps.length/\∀(cdv:Value)(A:Around)(outer:List Env)(s:Shared),Room k (A.deeper (envOfC qual (Ad st) s.heap.objs.size f cdv)) ->
  ∃t,PSs (Bd CX0 P w K mg base N qual (Ad st) f cdv A outer s H E).nox (Ap st) t/\t { nx:=λ_ H'=>Q .non H',rt:=Q } (start N vs) H):A3 P w K mg base CX0 (k+1) f fd ps sp :=
 F.ok S (λ vs H Q E z=>(h vs H Q E z).1) λ cdv A outer s H vs Q E hr z=>(h vs H Q E z).2 cdv A outer s hr
theorem FunC.g(F:FunC K x qual st f fd c)(S:Aj N ps (Ad st))(h:∀vs H Q E,sp vs H Q E->vs.length=ps.length/\∀(A:Around)(outer:List Env)(s:Shared),Room k (A.deeper (envOfC qual (Ad st) s.heap.objs.size f (.ref c))) ->
  ∃t,PSs (Bd CX0 P w K mg base N qual (Ad st) f (.ref c) A outer s H E).nox (Ap st) t/\t { nx:=λ_ H'=>Q .non H',rt:=Q } (start N vs) H):A3 P w K mg base CX0 (k+1) f fd ps sp :=
 F.ok S (λ vs H Q E z=>(h vs H Q E z).1) λ A outer s H vs Q E hr z=>(h vs H Q E z).2 A outer s hr
end
section
variable{X:Cx}
theorem nk(N:LSz)(h:N.Nodup:=by decide +kernel):N.Nodup:=h
theorem pgk{x:Str}{pos:Pos}(hN:X.N.Nodup)(hi:X.N[0]?=some x:=by rfl)(hx:Loc X.env.scope x:=by exact aF rfl)(hf:X.fn x=true\/X.env.scope.names.lookup x=some .local:=by first|exact .inl rfl|exact .inr rfl|assumption):PG X (.Name x pos) (OY 0):=Al hN hi hx hf
theorem BJ{o e:Expr}{es:List Expr}{to:TE}{t:TA}{apos cpos:Pos}(ho:PE X o to)(ha:PA X (e::es) t)
  (hbase:attributeBase o "append" X.env (eval o X.env)=eval o X.env:=by rfl)
  (hfew:((backTo cpos (starEach (e::es) X.env)).all (λ x=>!x.1)&&(backToKw cpos (keywordEach [] X.env)).all (λ x=>x.1.isSome)
  &&decide ((e::es).length+([]:List Keyword).length+(if ([]:List Keyword).isEmpty then 0 else 1)<30))=true:=by rfl)
  (hline:(apos.endLine==cpos.line)=true:=by rfl) (hs:starEach (e::es) X.env=(false,eval e X.env)::starEach es X.env:=by rfl) (hplain:(backTo cpos (starEach es X.env)).any (·.1)=false:=by rfl) :
  PE X (.Call (.Attribute o "append" apos) (e::es) [] cpos) (tBM X.K "list" M7 to t):=OC br PySem.F.slot_list_append PySem.F.type_list_append EZ ho ha hbase hfew hline hs hplain
end
end L2
namespace K73
open PySem.W
open PySem L2
def top(i:Nat):Stmt:=PySem.Challenge.pw_glazebench_k73_bench_refused.main.body.getD i (.Pass ⟨0,0,0,0⟩)
abbrev Cv:Stmt:=A0 (top 3) 0
abbrev BY:Stmt:=A0 (top 4) 0
abbrev BZ:Stmt:=A0 (top 5) 0
abbrev Ca:Stmt:=A0 (top 6) 0
abbrev DQ:Stmt:=top 9
abbrev ET:Stmt:=top 10
abbrev ES:Stmt:=top 11
abbrev EU:Stmt:=top 12
abbrev Ct:Stmt:=top 13
abbrev Bk:Stmt:=A0 (top 19) 0
abbrev BX:Stmt:=A0 (top 20) 0
abbrev CH:Stmt:=A0 (top 21) 0
abbrev DT:Stmt:=top 25
abbrev Df:Stmt:=top 26
abbrev CF:Stmt:=top 27
abbrev Cs:Stmt:=top 29
abbrev Cr:Stmt:=top 30
abbrev Cq:Stmt:=top 32
abbrev De:Stmt:=top 33
abbrev DR:Stmt:=top 36
abbrev BV:Stmt:=top 37
abbrev IV:Stmt:=top 40
abbrev DS:Stmt:=top 41
abbrev AO:Stmt:=top 42
abbrev CI:Stmt:=A0 (top 43) 0
abbrev Bg:Stmt:=A0 (top 43) 1
abbrev B0:Stmt:=A0 (top 43) 2
abbrev BH:Stmt:=A0 (top 43) 3
abbrev Cb:Stmt:=A0 (top 43) 4
abbrev Bz:Stmt:=A0 (top 43) 6
abbrev Bu:Stmt:=A0 (top 43) 7
abbrev Di:Stmt:=top 45
abbrev Dh:Stmt:=top 46
abbrev BA:Stmt:=top 47
abbrev Dj:Stmt:=top 48
abbrev Cu:Stmt:=top 49
abbrev AX:Stmt:=top 50
abbrev A7:Stmt:=top 51
abbrev Dg:Stmt:=top 52
abbrev B9:Stmt:=top 53
abbrev BW:Stmt:=top 54
abbrev CG:Stmt:=top 55
abbrev DU:Stmt:=top 56
abbrev EV:Stmt:=top 57
abbrev Bf:Stmt:=top 58
theorem nw{H:Hp}{c:Addr}(o:HO)(n:H c=none):∃G,upd H c o=G/\Same H G/\G c=some o:=⟨_,rfl,Same.new n,upd_same⟩
def Ai{α:Type}(ts:List (Addr×α)):LUz:=ts.map λ t=>V.ref t.1
theorem AY{α:Type}{ts:List (Addr×α)}{i:Nat}{x:V}(h:(Ai ts)[i]?=some x):∃u,ts[i]?=some u/\x=.ref u.1:=by
 rw[Ai,aE]at h;cases e:ts[i]? with
 |none=>rw[e]at h;cases h
 |some u=>rw[e]at h;exact⟨u,rfl,(Option.some.inj h).symm⟩
theorem Ax{α:Type}(ts:List (Addr×α)):(Ai ts).length=ts.length:=ae ..
theorem ED{xs:List Int}{i:Nat}{x:V}(h:(xs.map V.int)[i]?=some x):∃z,xs[i]?=some z/\x=.int z:=by
 rw[aE]at h;cases e:xs[i]? with
 |none=>rw[e]at h;cases h
 |some z=>rw[e]at h;exact⟨z,rfl,(Option.some.inj h).symm⟩
theorem By{H H':Hp}(s:Same H H'){a:Addr}(h:H' a=none):H a=none:=by
 cases q:H a with
 |none=>rfl
 |some o=>rw[s a o q]at h;cases h
def wd(u:Bool):Str:=if u=true then "upright" else "level"
theorem EL(u v:Bool):decide (V.str (wd u)=V.str (wd v))=(u==v):=by cases u<;>cases v<;>decide +kernel
theorem JK(u:Bool):decide (V.str (wd u)=V.str "whole")=false:=by cases u<;>decide +kernel
inductive Tr where
 |whole (m:Option Int)
 |cut (u:Bool) (k:Int) (x y:Tr)
def Dr:Option Int->V
 |none=>.non
 |some i=>.int i
def Fit:Tr->Int->Int->Prop
 |.whole _,_,_=>True
 |.cut u k x y,w,h=>if u=true then (1<=k/\k<w/\Fit x k h/\Fit y (w-k) h) else (1<=k/\k<h/\Fit x w k/\Fit y w (h-k))
def Ft:List Int->Ds
 |[]=>.nil
 |i::r=>.cons (.at (.int i)) (Ft r)
theorem K7{K:Frag}{H:Hp}:∀(ns:List Int),DIss K H (Ft ns) (ns.map V.int)
 |[]=>by
  show DIss K H .nil [];rw[DIss]
 |i::r=>by
  show DIss K H (.cons (.at (.int i)) (Ft r)) (.int i::r.map V.int);rw[DIss];exact⟨_,_,rfl,by rw[DIs];exact⟨rfl,rfl⟩,K7 r⟩
theorem Ii:∀(ns:List Int),Bw (Ft ns)=0
 |[]=>by rw[Ft,Bw]
 |i::r=>by rw[Ft,Bw,dep,Ii r];rfl
theorem Bn{x0 x1:V}:atI [x0,x1] 0=some x0:=rfl
theorem Bm{x0 x1:V}:atI [x0,x1] 1=some x1:=rfl
theorem Q8{j:Int}(z:Int)(h:0<j)(h2:j<18446744073709551616):Rg z j:=⟨h,Nat.lt_trans (GG (k:=64) (by decide) (by lia)) (by decide)⟩
theorem HZ{a b:Int}(h1:-18446744073709551616<a)(h2:a<18446744073709551616)(h3:-18446744073709551616<b)(h4:b<18446744073709551616):IntMulOk a b:=by
 have c:(2:Nat)^128=340282366920938463463374607431768211456:=by decide +kernel
 refine OM ?_ ?_<;>rw[c]<;>lia
theorem Mn{L:LUz}{i:Int}(h0:0<=i)(h1:i<L.length):∃v,atI L i=some v/\v∈L:=by
 have h:i.toNat<L.length:=by lia
 have e:=Bs (ag h);rw[ci h0]at e;exact⟨_,e,dQ h⟩
theorem QC{ns:List Int}{k:Int}(h0:0<=k)(h1:k<(ns.length:Int)):∃z,atI (ns.map V.int) k=some (.int z):=by
 have hk:k.toNat<ns.length:=by lia
 have hz:(ns.map V.int)[k.toNat]?=some (.int ns[k.toNat]):=by rw[aE,ag hk];rfl
 have e:=Bs hz;rw[ci h0]at e;exact⟨_,e⟩
theorem Da{H:Hp}{a:Addr}{xs:LUz}(h:H a=some (.tup xs)):tyS H (.ref a)=some "tuple":=by
 show tyO (H a)=some "tuple";rw[h];rfl
theorem at0{x0 x1 x2 x3:V}:atI [x0,x1,x2,x3] 0=some x0:=rfl
theorem at1{x0 x1 x2 x3:V}:atI [x0,x1,x2,x3] 1=some x1:=rfl
theorem at2{x0 x1 x2 x3:V}:atI [x0,x1,x2,x3] 2=some x2:=rfl
theorem at3{x0 x1 x2 x3:V}:atI [x0,x1,x2,x3] 3=some x3:=rfl
theorem Nh{x0 x1 x2:V}:atI [x0,x1,x2] 0=some x0:=rfl
theorem Ng{x0 x1 x2:V}:atI [x0,x1,x2] 1=some x1:=rfl
theorem SW{x0 x1 x2:V}:atI [x0,x1,x2] 2=some x2:=rfl
theorem RX{x:V}{r:LUz}:atI (x::r) 0=some x:=Bs (xs:=x::r) (j:=0) (v:=x) rfl
inductive Lf(K:Frag)(vs:LUz)(H:Hp)(Q:VK)(E:XK):Prop
 |mk (a:Addr) (ns:List Int) (k:Int) (h0:vs=[.ref a,.int k]) (h1:SqL K H a (ns.map V.int)) (h2:0<=k) (h3:∀z,Q (.int z) H):Lf K vs H Q E
def M4(K:Frag) :Sp:=λ vs H Q E=>Lf K vs H Q E
inductive Le(vs:LUz)(H:Hp)(Q:VK)(E:XK):Prop
 |mk (c n m:Int) (h0:vs=[.int c,.int n,.int m]) (h1:0<=n) (h2:n<=1000) (h3:0<m) (h4:∀r,0<=r->r<m->Q (.int r) H):Le vs H Q E
def IQ:Sp:=λ vs H Q E=>Le vs H Q E
inductive En where
 |w (m:Option Int)
 |c (u:Bool) (k:Int)
def enV:En->LUz
 |.w m=>[.str "whole",Dr m]
 |.c u k=>[.str (wd u),.int k]
abbrev Rk:=GB.Rc
abbrev LZ:=List (Addr×Int×Int)
abbrev LI:=List (Int×Int)
abbrev LR:=List (Int×Rk×Option Int)
abbrev LK:=List (Int×Rk)
abbrev Rk.vs(p:Rk):LUz:=[.int p.t,.int p.l,.int p.b,.int p.r]
def Rk.len(p:Rk)(u:Bool):Int:=if u then p.r-p.l else p.b-p.t
def Rk.fst(p:Rk)(u:Bool)(k:Int):Rk:=if u then ⟨p.t,p.l,p.b,p.l+k⟩ else ⟨p.t,p.l,p.t+k,p.r⟩
def Rk.oth(p:Rk)(u:Bool)(k:Int):Rk:=if u then ⟨p.t,p.l+k,p.b,p.r⟩ else ⟨p.t+k,p.l,p.b,p.r⟩
def Cm(p:Rk)(t:Tr):Prop:=Fit t (p.r-p.l) (p.b-p.t)
theorem CB{p:Rk}{u:Bool}{k:Int}{x y:Tr}:Cm p (.cut u k x y)↔(1<=k/\k<p.len u)/\Cm (p.fst u k) x/\Cm (p.oth u k) y:=by
 unfold Cm Rk.len Rk.fst Rk.oth;rw[Fit];cases u with
 |true =>
  show(1<=k/\k<p.r-p.l/\Fit x k (p.b-p.t)/\Fit y (p.r-p.l-k) (p.b-p.t))↔((1<=k/\k<p.r-p.l)/\Fit x (p.l+k-p.l) (p.b-p.t)/\Fit y (p.r-(p.l+k)) (p.b-p.t));rw[show p.l+k-p.l=k by lia,show p.r-(p.l+k)=p.r-p.l-k by lia];exact⟨λ⟨a,b,c,d⟩=>⟨⟨a,b⟩,c,d⟩,λ⟨⟨a,b⟩,c,d⟩=>⟨a,b,c,d⟩⟩
 |false =>
  show(1<=k/\k<p.b-p.t/\Fit x (p.r-p.l) k/\Fit y (p.r-p.l) (p.b-p.t-k))↔((1<=k/\k<p.b-p.t)/\Fit x (p.r-p.l) (p.t+k-p.t)/\Fit y (p.r-p.l) (p.b-(p.t+k)));rw[show p.t+k-p.t=k by lia,show p.b-(p.t+k)=p.b-p.t-k by lia];exact⟨λ⟨a,b,c,d⟩=>⟨⟨a,b⟩,c,d⟩,λ⟨⟨a,b⟩,c,d⟩=>⟨a,b,c,d⟩⟩
abbrev Bl:=Int×Int×Bool
def WOk(t:Bl):Prop:=1<=t.1/\t.1<=12/\1<=t.2.1/\t.2.1<=12
def Bx(t:Bl):LI:=if t.2.2=true then [(t.1,t.2.1),(t.2.1,t.1)] else [(t.1,t.2.1)]
def TupL(H:Hp)(l:Addr)(zs:LI):Prop:=∃ts:LZ,H l=some (.lst (Ai ts))/\(∀t∈ts,H t.1=some (.tup [.int t.2.1,.int t.2.2]))/\ts.map (·.2)=zs
theorem TupL.same{H H':Hp}{l:Addr}{zs:LI}(h:TupL H l zs)(s:Same H H'):TupL H' l zs :=
 let ⟨ts,a,b,c⟩:=h;⟨ts,s _ _ a,λ t ht=>s _ _ (b t ht),c⟩
def AA(t:Bl)(w h:Int):LI:=(Bx t).filter λ z=>decide (z.1<=w)&&decide (z.2<=h)
inductive KZ(vs:LUz)(H:Hp)(Q:VK)(E:XK):Prop
 |mk (a:Addr) (t:Bl) (h0:vs=[.ref a]) (h1:H a=some (.tup [.int t.1,.int t.2.1,.bl t.2.2])) (h2:∀l H',Same H H'->H l=none->TupL H' l (Bx t)->Q (.ref l) H'):KZ vs H Q E
def M2:Sp:=λ vs H Q E=>KZ vs H Q E
inductive I8(vs:LUz)(H:Hp)(Q:VK)(E:XK):Prop
 |mk (a:Addr) (t:Bl) (w h:Int) (h0:vs=[.ref a,.int w,.int h]) (h1:H a=some (.tup [.int t.1,.int t.2.1,.bl t.2.2])) (h2:∀l H',Same H H'->H l=none->TupL H' l (AA t w h)->Q (.ref l) H'):I8 vs H Q E
def Gf:Sp:=λ vs H Q E=>I8 vs H Q E
def SOk(z:Int×Int):Prop:=1<=z.1/\z.1<=12/\1<=z.2/\z.2<=12
def Ty(H:Hp)(v:V):Prop:=∃T,tyS H v=some T
theorem JO{H H':Hp}(s:Same H H'){v:V}{T:String}(h:tyS H v=some T):tyS H' v=some T:=by
 cases v with
 |ref a =>
  have h:tyO (H a)=some T:=h;show tyO (H' a)=some T;cases e:H a with
  |none=>rw[e]at h;cases h
  |some o=>rw[e]at h;rw[s a o e];exact h
 |_=>exact h
theorem Ty.same{H H':Hp}(s:Same H H'){v:V}(h:Ty H v):Ty H' v:=let ⟨T,e⟩:=h;⟨T,JO s e⟩
def IK:V->Bool
 |.int _=>true
 |_=>false
theorem FY{H:Hp}{v:V}{T:String}(h:tyS H v=some T):(isB T "int"=true->(!isB T "bool")=IK v)/\(isB T "int"=false->false=IK v):=by
 cases v with
 |non=>cases h;exact⟨λ z=>absurd z (by decide),λ_=>rfl⟩
 |bl b=>cases h;exact⟨λ_=>by show(!isB "bool" "bool")=false;decide,λ z=>absurd z (by decide)⟩
 |int i=>cases h;exact⟨λ_=>by show(!isB "int" "bool")=true;decide,λ z=>absurd z (by decide)⟩
 |str x=>cases h;exact⟨λ z=>absurd z (by decide),λ_=>rfl⟩
 |byt b=>cases h
 |flt b=>cases h
 |ty n=>cases h
 |ref a =>
  have key:T="list"\/T="tuple"\/T="dict":=by
   have h:tyO (H a)=some T:=h;unfold tyO at h;split at h<;>first|(cases h;simp)|cases h
  rcases key with rfl|rfl|rfl<;>exact⟨λ z=>absurd z (by decide),λ_=>rfl⟩
def AE:V->Bool
 |.int i=>decide (1<=i)&&decide (i<=12)
 |_=>false
theorem Mz{H:Hp}{v:V}(h:Bp v=true):Ty H v:=by cases v<;>first|exact⟨_,rfl⟩|cases h
inductive Ths{α:Type}(R:Hp->V->α->Prop)(H:Hp):LUz->List α->Prop
 |nil:Ths R H [] []
 |cons {v:V} {g:α} {xs:LUz} {gs:List α}:R H v g->Ths R H xs gs->Ths R H (v::xs) (g::gs)
theorem Ths.len{α:Type}{R:Hp->V->α->Prop}{H:Hp}{xs:LUz}{gs:List α}(h:Ths R H xs gs):xs.length=gs.length:=by
 induction h with
 |nil=>rfl
 |cons _ _ ih=>rw[aD,aD,ih]
theorem Ths.mono{α:Type}{R R':Hp->V->α->Prop}{H H':Hp}(m:∀v g,R H v g->R' H' v g){xs:LUz}{gs:List α}(h:Ths R H xs gs):Ths R' H' xs gs:=by
 induction h with
 |nil=>exact .nil
 |cons a _ ih=>exact .cons (m _ _ a) ih
theorem Ths.get{α:Type}{R:Hp->V->α->Prop}{H:Hp}{xs:LUz}{gs:List α}(h:Ths R H xs gs):∀{i:Nat}{v:V},xs[i]?=some v->∃g,gs[i]?=some g/\R H v g:=by
 induction h with
 |nil=>intro i v e;cases e
 |@cons v g xs gs a _ ih =>
  intro i u e;cases i with
  |zero=>cases e;exact⟨g,rfl,a⟩
  |succ i=>exact ih e
theorem Ths.snoc{α:Type}{R:Hp->V->α->Prop}{H:Hp}{xs:LUz}{gs:List α}(h:Ths R H xs gs){v:V}{g:α}(a:R H v g):Ths R H (xs++[v]) (gs++[g]):=by
 induction h with
 |nil=>exact .cons a .nil
 |cons b _ ih=>exact .cons b ih
theorem Ths.put{α:Type}{R:Hp->V->α->Prop}{H:Hp}{xs:LUz}{gs:List α}(h:Ths R H xs gs){v:V}{g:α}(a:R H v g):∀i:Nat,Ths R H (xs.set i v) (gs.set i g):=by
 induction h with
 |nil=>intro i;exact .nil
 |cons b h ih =>
  intro i;cases i with
  |zero=>exact .cons a h
  |succ i=>exact .cons b (ih i)
def Bad(B:LUz->Bool)(H:Hp)(v:V):Prop:=(∃a xs,v=.ref a/\H a=some (.tup xs)/\xs.length<=100/\(∀x∈xs,Ty H x)/\B xs=false)\/∃T,tyS H v=some T/\T≠"tuple"
theorem Bad.same{B:LUz->Bool}{H H':Hp}{v:V}(s:Same H H')(h:Bad B H v):Bad B H' v:=by
 rcases h with ⟨a,xs,e,h1,hz,h2,h3⟩|⟨T,h1,h2⟩
 .exact .inl ⟨a,xs,e,s _ _ h1,hz,λ x hx=>(h2 x hx).same s,h3⟩
 .exact .inr ⟨T,JO s h1,h2⟩
def DP:LUz->Bool
 |[a,b]=>AE a&&AE b
 |_=>false
theorem Ot{xs:LUz}(h:xs.length≠2):DP xs=false:=by
 unfold DP;split
 .exact absurd rfl h
 .rfl
theorem FH{x:Int}(h1:1<=x)(h2:x<=12):AE (.int x)=true:=by
 show(decide (1<=x)&&decide (x<=12))=true;rw[decide_eq_true h1,decide_eq_true h2];rfl
def STh(H:Hp)(v:V):Option (Int×Int)->Prop
 |some z=>∃b,v=.ref b/\H b=some (.tup [.int z.1,.int z.2])/\SOk z
 |none=>Bad DP H v
theorem STh.two{H:Hp}{v:V}:∀{g:Option (Int×Int)},STh H v g->(∃a xs,v=.ref a/\H a=some (.tup xs)/\xs.length<=100/\(∀x∈xs,Ty H x)/\DP xs=g.isSome)\/∃T,tyS H v=some T/\T≠"tuple"/\false=g.isSome
 |some t,⟨b,e,h,k⟩=>.inl ⟨b,_,e,h,by simp,λ x hx=>by
   simp only[aA,bd,or_false]at hx;rcases hx with rfl|rfl<;>exact⟨_,rfl⟩,by
   obtain⟨a,b,c,d⟩:=k;show(AE (.int t.1)&&AE (.int t.2))=true;rw[FH a b,FH c d];rfl⟩
 |none,.inl ⟨a,xs,e,h,hz,ht,hb⟩=>.inl ⟨a,xs,e,h,hz,ht,hb⟩
 |none,.inr ⟨T,h,n⟩=>.inr ⟨T,h,n,rfl⟩
theorem STh.same{H H':Hp}(s:Same H H'){v:V}:∀{g:Option (Int×Int)},STh H v g->STh H' v g
 |some t,⟨b,e,h,k⟩=>⟨b,e,s _ _ h,k⟩
 |none,h=>Bad.same s h
def BM{α:Type}(gs:List (Option α)):Option Nat:=gs.findIdx? (·.isNone)
theorem D9{α:Type}{gs:List (Option α)}{i:Nat}(h:gs[i]?=some none)(hl:∀j,j<i->∃t,gs[j]?=some (some t)):BM gs=some i:=by
 unfold BM;obtain⟨hi,e⟩:=av.mp h;refine dL.mpr ⟨hi,by rw[e];rfl,λ j hj=>?_⟩;obtain⟨t,ht⟩:=hl j hj;obtain⟨hj',e'⟩:=av.mp ht;rw[e'];exact au
theorem Ik{α:Type}{gs:List (Option α)}(hl:∀j,j<gs.length->∃t,gs[j]?=some (some t)):BM gs=none:=by
 unfold BM;refine c9.mpr λ x hx=>?_;obtain⟨j,hj,rfl⟩:=List.getElem_of_mem hx;obtain⟨t,ht⟩:=hl j hj;obtain⟨hj',e'⟩:=av.mp ht;rw[e'];rfl
theorem Nw{H:Hp}{xs:LUz}{ss:LI}(h:Ths STh H xs (ss.map some)):∃ts:LZ,xs=Ai ts/\(∀t∈ts,H t.1=some (.tup [.int t.2.1,.int t.2.2]))/\ts.map (·.2)=ss/\∀t∈ss,SOk t:=by
 generalize hg:ss.map some=gs at h
 induction h generalizing ss with
 |nil =>
  cases ss with
  |nil=>exact⟨[],rfl,(λ t ht=>nomatch ht),rfl,λ t ht=>nomatch ht⟩
  |cons w ws=>cases hg
 |@cons v g xs gs a h ih =>
  cases ss with
  |nil=>cases hg
  |cons w ws =>
   rw[aL]at hg;obtain⟨e1,e2⟩:=List.cons.inj hg;subst e1;obtain⟨ts,e,p,q,r⟩:=ih e2;obtain⟨b,rfl,hb,wo⟩:=a;refine⟨(b,w)::ts,by rw[e];rfl,λ t ht=>?_,by rw[aL,q],λ t ht=>?_⟩
   .rcases aA.mp ht with rfl|ht
    .exact hb
    .exact p t ht
   .rcases aA.mp ht with rfl|ht
    .exact wo
    .exact r t ht
theorem Qt{T:String}(h:T≠"tuple"):isB T "tuple"=false:=by
 unfold isB;rw[decide_eq_false h];simp
theorem TZ{n m:Nat}:(!decide (V.int (n:Int)=V.int (m:Int)))=true->n≠m:=λ h e=>by
 subst e;have:decide (V.int (n:Int)=V.int (n:Int))=true:=decI.mpr rfl;rw[this]at h;cases h
theorem SS{n m:Nat}:(!decide (V.int (n:Int)=V.int (m:Int)))=false->n=m:=λ h=>by
 have e:decide (V.int (n:Int)=V.int (m:Int))=true:=by
  cases z:decide (V.int (n:Int)=V.int (m:Int)) with
  |true=>rfl
  |false=>rw[z]at h;cases h
 have:=decI.mp e;lia
def JS:Sp:=λ vs H Q _=>∃v,vs=[v]/\Ty H v/\Q (.bl (IK v)) H
def Er:Sp:=λ vs H Q _=>∃v,vs=[v]/\Ty H v/\Q (.bl (AE v)) H
structure Txt(mg:MGz)(tk:Tok×Tok×Tok×Tok×Tok×Tok):Prop where
 z_abs:mg "abs"=none
 z_isinstance:mg "isinstance"=none
 z_int:mg "int"=none
 z_bool:mg "bool"=none
 z_tuple:mg "tuple"=none
 z_len:mg "len"=none
 z_range:mg "range"=none
 z_sorted:mg "sorted"=none
 z_sum:mg "sum"=none
 z_min:mg "min"=none
 z_enumerate:mg "enumerate"=none
 z_list:mg "list"=none
 z_all:mg "all"=none
 z_reversed:mg "reversed"=none
 g_LONGEST_SIDE:mg "LONGEST_SIDE"=some (.int 12 tk.1)
 g_WHOLE:mg "WHOLE"=some (.str "whole" tk.2.1)
 g_UPRIGHT:mg "UPRIGHT"=some (.str "upright" tk.2.2.1)
 g_LEVEL:mg "LEVEL"=some (.str "level" tk.2.2.2.1)
 g_MOST_SHEETS:mg "MOST_SHEETS"=some (.int 4 tk.2.2.2.2.1)
 g_MOST_CUT:mg "MOST_CUT"=some (.int 60 tk.2.2.2.2.2)
section
variable{P:Program}{w:World}{K:Frag}{mg:MGz}{base:Heap}{tk:Tok×Tok×Tok×Tok×Tok×Tok}{cB cG cT cW cU cL:Addr}
theorem NB{α:Type}{us:List α}(h:us.length=1):∃a,us=[a]:=List.length_eq_one_iff.mp h
theorem Qp{α:Type}{us:List α}(h:us.length=2):∃a b,us=[a,b]:=by
 cases us with
 |nil=>cases h
 |cons a r=>obtain⟨b,rfl⟩:=NB (Nat.succ.inj h);exact⟨a,b,rfl⟩
theorem TN{α:Type}{us:List α}(h:us.length=3):∃a b c,us=[a,b,c]:=by
 cases us with
 |nil=>cases h
 |cons a r=>obtain⟨b,c,rfl⟩:=Qp (Nat.succ.inj h);exact⟨a,b,c,rfl⟩
theorem TM{α:Type}{us:List α}(h:us.length=4):∃a b c d,us=[a,b,c,d]:=by
 cases us with
 |nil=>cases h
 |cons a r=>obtain⟨b,c,d,rfl⟩:=TN (Nat.succ.inj h);exact⟨a,b,c,d,rfl⟩
theorem Kn{f:Addr}{fd:FuncData}(F:Fun K "is_whole" "is_whole" DQ f fd)(T:Txt mg tk):A3 P w K mg base CX0 1 f fd ["thing"] JS:=by
 have S:Aj ["thing"] ["thing"] (Ad DQ):=fsk;refine F.g S ?_;rintro vs H Q E ⟨v,rfl,⟨T',hT⟩,q⟩;refine⟨rfl,λ cdv A outer s hr=>?_⟩;refine⟨_,(Ag (As (Gy (Ar B6 rfl T.z_isinstance rfl (Aa (pv 0) (Aa (CM (v:=.ty "int") rfl T.z_int rfl rfl) Ab))) (Jf (O7 (Ar B6 rfl T.z_isinstance rfl (Aa (pv 0) (Aa (CM (v:=.ty "bool") rfl T.z_bool rfl rfl) Ab)))))))),?_⟩;refine⟨v,rfl,v,T',"int",rfl,hT,.inl rfl,_,rfl,Bi (λ h=>?_) (λ h=>?_)⟩
 .refine⟨v,rfl,v,T',"bool",rfl,hT,.inr (.inl rfl),_,rfl,?_⟩;rw[(FY hT).1 h];exact q
 .show Q (.bl false) H;rw[(FY hT).2 h];exact q
theorem LC{f:Addr}{fd:FuncData}(F:Fun K "is_side" "is_side" ET f fd)(T:Txt mg tk)(D_is_whole:AC P w K mg base 1 "is_whole" ["thing"] JS):A3 P w K mg base CX0 2 f fd ["thing"] Er:=by
 have S:Aj ["thing"] ["thing"] (Ad ET):=fsk;refine F.g S ?_;rintro vs H Q E ⟨v,rfl,hv,q⟩;refine⟨rfl,λ cdv A outer s hr=>?_⟩;refine⟨_,(Ag (As (Gy (A2 D_is_whole hr (Aa (pv 0) Ab)) (Jf (Kf Fq Fq Ac (pv 0) (Az (v:=.int 12) rfl T.g_LONGEST_SIDE ⟨_,rfl⟩)))))),?_⟩;refine⟨v,rfl,v,rfl,hv,_,rfl,Bi (λ h=>?_) (λ h=>?_)⟩
 .obtain⟨i,rfl⟩:∃i,v=.int i:=by cases v<;>first|exact⟨_,rfl⟩|cases h
  refine⟨_,rfl,_,_,rfl,rfl,_,rfl,Bi (λ h1=>?_) (λ h1=>?_)⟩
  .refine⟨_,_,rfl,rfl,?_⟩;have e:AE (.int i)=decide (i<=12):=by
    show(decide (1<=i)&&decide (i<=12))=_;rw[h1];rfl
   show Q (.bl (decide (i<=12))) H;rw[<-e];exact q
  .have e:AE (.int i)=false:=by
    show(decide (1<=i)&&decide (i<=12))=_;rw[h1];rfl
   show Q (.bl false) H;rw[<-e];exact q
 .have e:AE v=false:=by cases v<;>first|rfl|cases h
  show Q (.bl false) H;rw[<-e];exact q
def RfV(C:Addr)(nm:Str)(H:Hp)(E:XK)(v:V):Prop:=Rf H E C λ fs _=>fs=[(nm,v)]
theorem RfV.raise{C:Addr}{nm:Str}{v:V}{H H1 H2:Hp}{E:XK}{y dx T:Addr}{fs:LFz}(h:RfV C nm H E v)(s1:Same H H1)(hy:H1 y=none)(s:Same H1 H2)(e:H2 y=some (Cn C dx y))(ed:H2 dx=some (BG dx fs))(nd:dx≠y)(hT:H2 T=none)(p:fs=[(nm,v)]):E (.ref y) (some dx) (A4 H2 y C (some dx) T):=Rf.raise h s1 hy s e ed nd hT p
theorem Oz{C:Addr}{nm:Str}{v:V}{H H2:Hp}{E:XK}(r:RfV C nm H E v)(s:Same H H2):RfV C nm H2 (XE H (RU H E)) v:=S2 s r λ_ _ _ _ _ _ p _ _=>p
def Dw(a b:V):Option V:=if AE a then (if AE b then none else some b) else some a
inductive IA(cS:Addr)(vs:LUz)(H:Hp)(Q:VK)(E:XK):Prop
 |mk (a b:V) (h0:vs=[a,b]) (h1:Ty H a) (h2:Ty H b) (h3:(∀v,Dw a b=some v->RfV cS "side" H E v)) (h4:(Dw a b=none->∀H',Same H H'->Q .non H')):IA cS vs H Q E
def JT(cS:Addr) :Sp:=λ vs H Q E=>IA cS vs H Q E
theorem G9{f cS:Addr}{fd:FuncData}(F:Fun K "check_sides" "check_sides" Ct f fd)(X_NoSide:Hd P w K mg base 1 "NoSide" cS ["self","side"] ["side"])(D_is_side:AC P w K mg base 2 "is_side" ["thing"] Er) :
  A3 P w K mg base (CX1 P w) 3 f fd ["width","height"] (JT cS):=by
 have S:Aj ["width","height","side"] ["width","height"] (Ad Ct):=fsk;refine F.gx S ?_;rintro vs H Q E ⟨a,b,rfl,ta,tb,r,q⟩;refine⟨rfl,λ cdv A outer s hr=>?_⟩;have r1:AE a=false->RfV cS "side" H E a:=λ c=>r _ (by unfold Dw;rw[c];rfl);have r2:AE a=true->AE b=false->RfV cS "side" H E b:=λ c d=>r _ (by unfold Dw;rw[c,d];rfl);refine⟨_,(Ag (Cc OE rfl (L4 (An (Aa (pv 0) (Aa (pv 1) Ab)))) (Al (i:=2) S.nd rfl (aF rfl)) (Ag (AB (DY (DX (A2 D_is_side hr (Aa (pv 2) Ab)))) (Ag (Dl Co X_NoSide hr (Aa (pv 2) Ab))) Ay)))),?_⟩;refine⟨_,rfl,_,rfl,Ao 2,λ t ht=>⟨t,rfl,⟨_,SqT.of upd_same⟩,Jy (K:=K) (a:=t) (xs:=[a,b]) (λ i σ H'=>(∃y,σ=[some a,some b,y])/\H'=upd H t (.tup [a,b])/\(0<i->AE a=true)/\(1<i->AE b=true)) ⟨⟨none,rfl⟩,rfl,(λ z=>absurd z (by decide)),λ z=>absurd z (by decide)⟩ (λ i σ H' _ hp=>by rw[hp.2.1];exact SqT.of upd_same) ?_ ?_⟩⟩
 .rintro i x σ H' hx ⟨⟨y,rfl⟩,rfl,h0,h1⟩;have s1:Same H (upd H t (.tup [a,b])):=Same.new ht
  match i,hx with
  |0,hx =>
   cases hx;refine⟨_,rfl,a,rfl,ta.same s1,_,rfl,Bi (λ hb=>?_) λ hb=>?_⟩
   .have hb:AE a=false:=by simpa using hb
    exact⟨_,rfl,rfl,λ y dx T H2 hy s2 e ed nd hT nT=>(r1 hb).raise s1 hy s2 e ed nd hT rfl⟩
   .exact⟨⟨_,rfl⟩,rfl,λ_=>by simpa using hb,λ z=>absurd z (by lia)⟩
  |1,hx =>
   cases hx;refine⟨_,rfl,b,rfl,tb.same s1,_,rfl,Bi (λ hb=>?_) λ hb=>?_⟩
   .have hb:AE b=false:=by simpa using hb
    exact⟨_,rfl,rfl,λ y dx T H2 hy s2 e ed nd hT nT=>(r2 (h0 (by lia)) hb).raise s1 hy s2 e ed nd hT rfl⟩
   .exact⟨⟨_,rfl⟩,rfl,λ_=>h0 (by lia),λ_=>by simpa using hb⟩
  |i+2,hx=>cases hx
 .rintro σ H' ⟨⟨y,rfl⟩,rfl,h0,h1⟩;exact q (by unfold Dw;rw[h0 (by show 0<2;decide),h1 (by show 1<2;decide)];rfl) _ (Same.new ht)
theorem M5{v1 v2:V}{tu:Bool}(h:Dw v1 v2=none):∃t:Bl,v1=.int t.1/\v2=.int t.2.1/\tu=t.2.2/\WOk t:=by
 unfold Dw at h;have s:∀{v:V},AE v=true->∃i,v=.int i/\1<=i/\i<=12:=λ{v} h=>by
  cases v with
  |int i =>
   have h:(decide (1<=i)&&decide (i<=12))=true:=h;rw[aP,decide_eq_true_iff,decide_eq_true_iff]at h;exact⟨i,rfl,h⟩
  |_=>cases h
 by_cases h1:AE v1=true
 .rw[if_pos h1]at h;by_cases h2:AE v2=true
  .obtain⟨i,rfl,a,b⟩:=s h1;obtain⟨j,rfl,c,d⟩:=s h2;exact⟨(i,j,tu),rfl,rfl,rfl,a,b,c,d⟩
  .rw[if_neg h2]at h;cases h
 .rw[if_neg h1]at h;cases h
theorem Kl{f:Addr}{fd:FuncData}(F:Fun K "_law_cell" "_law_cell" Di f fd)(T:Txt mg tk):A3 P w K mg base CX0 1 f fd ["_law_script","_law_k"] (M4 K):=by
 have S:Aj ["_law_script","_law_k"] ["_law_script","_law_k"] (Ad Di):=fsk;refine F.g S ?_;rintro vs H Q E ⟨a,ns,k,rfl,hS,k0,q⟩;refine⟨rfl,λ cdv A outer s hr=>?_⟩;refine⟨_,(Ae (AB (Aq Kg (pv 1) (Ar A1 rfl T.z_len rfl (Aa (pv 0) Ab)) (Av _)) (Ag (As (Ak ix_list (pv 0) (pv 1) (λ_ _=>rfl)))) Ay)
  (Ag (As Ac))),?_⟩
 refine⟨_,rfl,_,rfl,a,_,rfl,.inl hS,_,_,rfl,rfl,_,rfl,Bi (λ c=>?_) (λ c=>q 0)⟩;have c:=of_decide_eq_true c;rw[ae]at c;obtain⟨z,hz⟩:=QC k0 c;exact⟨_,rfl,_,rfl,a,_,_,_,rfl,rfl,hS,hz,q _⟩
theorem Kk{f:Addr}{fd:FuncData}(F:Fun K "_law_draw" "_law_draw" Dh f fd):A3 P w K mg base CX0 1 f fd ["_law_cell_here","_law_nth","_law_many"] IQ:=by
 have S:Aj ["_law_cell_here","_law_nth","_law_many","_law_number"] ["_law_cell_here","_law_nth","_law_many"] (Ad Dh):=fsk;refine F.g S ?_;rintro vs H Q E ⟨c,n,m,rfl,n0,n1,m0,q⟩;refine⟨rfl,λ cdv A outer s hr=>?_⟩;refine⟨_,(Ae (Au (i:=3) S.nd rfl (aF rfl) (Aw Cd (Aw CN (Aw AI (Aw AI (Aw Cd (pv 0) Ac) Ac) (Aw CN (pv 1) (pv 1))) Ac) Ac))
  (Ag (As (Aw Cd (Aw AI (Aw EB (pv 3) Ac) (Aw CN (Aw Cd (pv 3) Ac) (pv 1))) (pv 2))))),?_⟩
 have a:=bP c (b:=899809363) (by decide);have b:=bN c (b:=899809363) (by decide);have nn:0<=n*n/\n*n<=1000000:=⟨Int.mul_nonneg n0 n0,dO (Int.mul_le_mul n1 n1 n0 (by decide)) (by decide)⟩;refine⟨_,rfl,_,_,rfl,rfl,(show(0:Int)<899809363 from by decide),_,_,rfl,rfl,_,rfl,_,rfl,_,_,rfl,rfl,HZ (by lia) (by lia) (by lia) (by lia),_,_,rfl,rfl,_,_,rfl,rfl,HZ (by lia) (by lia) (by decide) (by decide),_,_,rfl,rfl,(show(0:Int)<899809363 from by decide),?_⟩;have g0:=bP ((c % 899809363+3+n*n)*60919 % 899809363) (b:=1013) (by decide);have g1:=bN ((c % 899809363+3+n*n)*60919 % 899809363) (b:=1013) (by decide);exact⟨_,rfl,_,_,rfl,rfl,Q8 _ (by decide) (by decide),_,rfl,_,_,rfl,rfl,(show(0:Int)<1013 from by decide),_,rfl,_,_,rfl,rfl,HZ (by lia) (by lia) (by lia) (by lia),_,_,rfl,rfl,_,rfl,_,_,rfl,rfl,m0,q _ (bP _ (by lia)) (bN _ m0)⟩
inductive Nl(vs:LUz)(H:Hp)(Q:VK)(E:XK):Prop
 |mk (a:Addr) (p:Rk) (u:Bool) (k:Int) (h0:vs=[.ref a,.str (wd u),.int k]) (h1:H a=some (.tup p.vs)) (h2:∀x,H x=none->Q (.ref x) (upd H x (.tup (p.fst u k).vs))):Nl vs H Q E
def Lr:Sp:=λ vs H Q E=>Nl vs H Q E
inductive Ni(vs:LUz)(H:Hp)(Q:VK)(E:XK):Prop
 |mk (a:Addr) (p:Rk) (u:Bool) (k:Int) (h0:vs=[.ref a,.str (wd u),.int k]) (h1:H a=some (.tup p.vs)) (h2:∀x,H x=none->Q (.ref x) (upd H x (.tup (p.oth u k).vs))):Ni vs H Q E
def Lq:Sp:=λ vs H Q E=>Ni vs H Q E
theorem G8{f:Addr}{fd:FuncData}(F:Fun K "first_piece" "first_piece" Cs f fd)(T:Txt mg tk):A3 P w K mg base CX0 1 f fd ["piece","word","at"] Lr:=by
 have S:Aj ["piece","word","at"] ["piece","word","at"] (Ad Cs):=fsk;refine F.g S ?_;rintro vs H Q E ⟨a,p,u,k,rfl,ha,q⟩;refine⟨rfl,λ cdv A outer s hr=>?_⟩;refine⟨_,(Ae (AB (Aq Dp (pv 1) (Az (v:=.str "upright") rfl T.g_UPRIGHT ⟨_,rfl⟩) (Av _)) (Ag (As (An (Aa (Ak ix_tup (pv 0) Ac (λ_ _=>rfl)) (Aa (Ak ix_tup (pv 0) Ac (λ_ _=>rfl)) (Aa (Ak ix_tup (pv 0) Ac (λ_ _=>rfl)) (Aa (Aw AI (Ak ix_tup (pv 0) Ac (λ_ _=>rfl)) (pv 2)) Ab))))))) Ay)
  (Ag (As (An (Aa (Ak ix_tup (pv 0) Ac (λ_ _=>rfl)) (Aa (Ak ix_tup (pv 0) Ac (λ_ _=>rfl)) (Aa (Aw AI (Ak ix_tup (pv 0) Ac (λ_ _=>rfl)) (pv 2)) (Aa (Ak ix_tup (pv 0) Ac (λ_ _=>rfl)) Ab)))))))),?_⟩
 cases u with
 |true=>exact⟨_,rfl,rfl,_,rfl,C9 (EL true true) ⟨_,rfl,a,_,_,_,rfl,rfl,SqT.of ha,at0,_,rfl,a,_,_,_,rfl,rfl,SqT.of ha,at1,_,rfl,a,_,_,_,rfl,rfl,SqT.of ha,at2,_,rfl,a,_,_,_,rfl,rfl,SqT.of ha,at1,_,rfl,_,_,rfl,rfl,Ao 4,q⟩⟩
 |false=>exact⟨_,rfl,rfl,_,rfl,B4 (EL false true) ⟨_,rfl,a,_,_,_,rfl,rfl,SqT.of ha,at0,_,rfl,a,_,_,_,rfl,rfl,SqT.of ha,at1,_,rfl,a,_,_,_,rfl,rfl,SqT.of ha,at0,_,rfl,_,_,rfl,rfl,_,rfl,a,_,_,_,rfl,rfl,SqT.of ha,at3,Ao 4,q⟩⟩
theorem G6{f:Addr}{fd:FuncData}(F:Fun K "other_piece" "other_piece" Cr f fd)(T:Txt mg tk):A3 P w K mg base CX0 1 f fd ["piece","word","at"] Lq:=by
 have S:Aj ["piece","word","at"] ["piece","word","at"] (Ad Cr):=fsk;refine F.g S ?_;rintro vs H Q E ⟨a,p,u,k,rfl,ha,q⟩;refine⟨rfl,λ cdv A outer s hr=>?_⟩;refine⟨_,(Ae (AB (Aq Dp (pv 1) (Az (v:=.str "upright") rfl T.g_UPRIGHT ⟨_,rfl⟩) (Av _)) (Ag (As (An (Aa (Ak ix_tup (pv 0) Ac (λ_ _=>rfl)) (Aa (Aw AI (Ak ix_tup (pv 0) Ac (λ_ _=>rfl)) (pv 2)) (Aa (Ak ix_tup (pv 0) Ac (λ_ _=>rfl)) (Aa (Ak ix_tup (pv 0) Ac (λ_ _=>rfl)) Ab))))))) Ay)
  (Ag (As (An (Aa (Aw AI (Ak ix_tup (pv 0) Ac (λ_ _=>rfl)) (pv 2)) (Aa (Ak ix_tup (pv 0) Ac (λ_ _=>rfl)) (Aa (Ak ix_tup (pv 0) Ac (λ_ _=>rfl)) (Aa (Ak ix_tup (pv 0) Ac (λ_ _=>rfl)) Ab)))))))),?_⟩
 cases u with
 |true=>exact⟨_,rfl,rfl,_,rfl,C9 (EL true true) ⟨_,rfl,a,_,_,_,rfl,rfl,SqT.of ha,at0,_,rfl,a,_,_,_,rfl,rfl,SqT.of ha,at1,_,rfl,_,_,rfl,rfl,_,rfl,a,_,_,_,rfl,rfl,SqT.of ha,at2,_,rfl,a,_,_,_,rfl,rfl,SqT.of ha,at3,Ao 4,q⟩⟩
 |false=>exact⟨_,rfl,rfl,_,rfl,B4 (EL false true) ⟨_,rfl,a,_,_,_,rfl,rfl,SqT.of ha,at0,_,rfl,_,_,rfl,rfl,_,rfl,a,_,_,_,rfl,rfl,SqT.of ha,at1,_,rfl,a,_,_,_,rfl,rfl,SqT.of ha,at2,_,rfl,a,_,_,_,rfl,rfl,SqT.of ha,at3,Ao 4,q⟩⟩
theorem G0{f:Addr}{fd:FuncData}(F:Fun K "ways_to_lie" "ways_to_lie" Cq f fd):A3 P w K mg base CX0 1 f fd ["want"] M2:=by
 have S:Aj ["want"] ["want"] (Ad Cq):=fsk;refine F.g S ?_;rintro vs H Q E ⟨a,t,rfl,ha,q⟩;refine⟨rfl,λ cdv A outer s hr=>?_⟩;refine⟨_,(Ae (AB (Dk (Ak ix_tup (pv 0) Ac (λ_ _=>rfl)) (λ_=>rfl)) (Ag (As (Bc (Aa (An (Aa (Ak ix_tup (pv 0) Ac (λ_ _=>rfl)) (Aa (Ak ix_tup (pv 0) Ac (λ_ _=>rfl)) Ab))) (Aa (An (Aa (Ak ix_tup (pv 0) Ac (λ_ _=>rfl)) (Aa (Ak ix_tup (pv 0) Ac (λ_ _=>rfl)) Ab))) Ab))))) Ay)
  (Ag (As (Bc (Aa (An (Aa (Ak ix_tup (pv 0) Ac (λ_ _=>rfl)) (Aa (Ak ix_tup (pv 0) Ac (λ_ _=>rfl)) Ab))) Ab))))),?_⟩
 refine⟨_,rfl,a,_,_,_,rfl,rfl,SqT.of ha,SW,_,rfl,Bi (λ h=>?_) (λ h=>?_)⟩
 .refine⟨_,rfl,a,_,_,_,rfl,rfl,SqT.of ha,Nh,_,rfl,a,_,_,_,rfl,rfl,SqT.of ha,Ng,Ao 2,λ p hp=>?_⟩;have s1:Same H (upd H p (.tup [.int t.1,.int t.2.1])):=Same.new hp;refine⟨_,rfl,a,_,_,_,rfl,rfl,SqT.of (s1 _ _ ha),Ng,_,rfl,a,_,_,_,rfl,rfl,SqT.of (s1 _ _ ha),Nh,Ao 2,λ p' hp'=>⟨Ao 2,λ l hl=>?_⟩⟩;have s2:Same (upd H p (.tup [.int t.1,.int t.2.1])) (upd (upd H p (.tup [.int t.1,.int t.2.1])) p' (.tup [.int t.2.1,.int t.1])):=Same.new hp';have s3:Same (upd (upd H p (.tup [.int t.1,.int t.2.1])) p' (.tup [.int t.2.1,.int t.1])) (upd (upd (upd H p (.tup [.int t.1,.int t.2.1])) p' (.tup [.int t.2.1,.int t.1])) l (.lst [.ref p,.ref p'])):=Same.new hl;refine q l _ (s1.trans (s2.trans s3)) (By (s1.trans s2) hl) ⟨[(p,t.1,t.2.1),(p',t.2.1,t.1)],upd_same,λ u hu=>?_,?_⟩
  .simp only[aA,bd,or_false]at hu;rcases hu with rfl|rfl
   .exact s3 _ _ (s2 _ _ upd_same)
   .exact s3 _ _ upd_same
  .unfold Bx;rw[if_pos h];rfl
 .refine⟨_,rfl,a,_,_,_,rfl,rfl,SqT.of ha,Nh,_,rfl,a,_,_,_,rfl,rfl,SqT.of ha,Ng,Ao 2,λ p hp=>⟨Ao 1,λ l hl=>?_⟩⟩;have s1:Same H (upd H p (.tup [.int t.1,.int t.2.1])):=Same.new hp;have s3:Same (upd H p (.tup [.int t.1,.int t.2.1])) (upd (upd H p (.tup [.int t.1,.int t.2.1])) l (.lst [.ref p])):=Same.new hl;refine q l _ (s1.trans s3) (By s1 hl) ⟨[(p,t.1,t.2.1)],upd_same,λ u hu=>?_,?_⟩
  .rw[aa.mp hu];exact s3 _ _ upd_same
  .unfold Bx;rw[if_neg (by rw[h];exact au)];rfl
theorem Li(t:Bl):(Bx t).length<=2:=by unfold Bx;split<;>simp
theorem Jj{f:Addr}{fd:FuncData}(F:Fun K "ways_held" "ways_held" De f fd)(D_ways_to_lie:AC P w K mg base 1 "ways_to_lie" ["want"] M2):A3 P w K mg base CX0 2 f fd ["want","width","height"] Gf:=by
 have S:Aj ["want","width","height"] ["want","width","height"] (Ad De):=fsk;refine F.g S ?_;rintro vs H Q E ⟨a,t,ww,hh,rfl,ha,q⟩;refine⟨rfl,λ cdv A outer s hr=>?_⟩;refine⟨_,(Ag (As (E8 rfl (BP (A2 D_ways_to_lie hr (Aa (pv 0) Ab))) (λ_ _ _ _ _=>pgk (nk ["size","width","height"])) (λ_ _ _ _ _=>(PW.pt (EW (Aq Fq (Ak (FN (K:=K)) (pv 0) Ac (λ_ _=>rfl)) (pv 1) (Av _)) (Ew (Aq Fq (Ak (FN (K:=K)) (pv 0) Ac (λ_ _=>rfl)) (pv 2) (Av _)))))) (λ_ _ _ _ _=>(pv 0)) (N:=["size","width","height"]) (fr:=[none,some 1,some 2])))),?_⟩;refine⟨_,rfl,a,t,rfl,ha,λ l H1 s1 nl hl=>?_⟩;obtain⟨us,e1,e2,e3⟩:=hl;have ul:us.length=(Bx t).length:=by rw[<-e3,ae]
 have sz:(Ai us).length<=sizeLine:=ba (At (by rw[Ax];have:=Li t;lia));refine⟨l,rfl,⟨_,SqL.of e1⟩,λ acc na=>CP (K:=K) (a:=l) (ys:=Ai us) (λ i zs σ H'=>(∃x,σ=[x,some (.int ww),some (.int hh)])/\Same H1 H'/\∃vs:LZ,zs=Ai vs/\(∀v∈vs,v∈us)/\vs.map (·.2)=((Bx t).take i).filter λ z=>decide (z.1<=ww)&&decide (z.2<=hh))
  ⟨⟨none,rfl⟩,Same.new na,[],rfl,(λ v hv=>nomatch hv),rfl⟩ (λ i zs σ H' _ _ hp=>SqL.of (hp.2.1 _ _ e1)) ?_ ?_⟩
 .rintro i x zs σ H2 hx hi hl' ha' ⟨⟨x0,rfl⟩,s2,vs,rfl,hvs,hm⟩;obtain⟨v,hv,rfl⟩:=AY hx;have hv2:=s2 _ _ (e2 v (ai hv));have tk1:(Bx t).take (i+1)=(Bx t).take i++[v.2]:=by rw[<-e3,bU,aE,hv];rfl
  refine⟨_,rfl,v.1,_,_,_,rfl,rfl,SqT.of hv2,Bn,_,rfl,_,_,rfl,rfl,_,rfl,Bi (λ c1=>?_) (λ c1=>?_)⟩
  .refine⟨_,rfl,v.1,_,_,_,rfl,rfl,SqT.of hv2,Bm,_,rfl,_,_,rfl,rfl,?_⟩;cases c2:decide (v.2.2<=hh) with
   |true =>
    refine⟨true,rfl,_,rfl,fNx.mk sz hi hl' ha' ⟨⟨_,rfl⟩,λ d o e=>by rw[Af (Ah e na)];exact s2 d o e,vs++[v],by rw[Ai,Ai,ah];rfl,λ u hu=>?_,?_⟩⟩
    .rcases aw.mp hu with hu|hu
     .exact hvs u hu
     .rw[aa.mp hu];exact ai hv
    .rw[tk1,cx,be,if_pos (by rw[c1,c2];rfl),ah,hm];rfl
   |false =>
    refine⟨false,rfl,fSk.mk hi hl' ha' ⟨⟨_,rfl⟩,s2,vs,rfl,hvs,?_⟩⟩;rw[tk1,cx,be,if_neg (by rw[c2,cC];exact au),hm];simp
  .refine fSk.mk hi hl' ha' ⟨⟨_,rfl⟩,s2,vs,rfl,hvs,?_⟩;rw[tk1,cx,be,if_neg (by rw[c1,Bool.false_and];exact au),hm];simp
 .rintro zs σ H2 hl' ha' ⟨_,s2,vs,rfl,hvs,hm⟩;rw[Ax,ul,bE]at hm;exact q acc H2 (s1.trans s2) (By s1 na) ⟨vs,ha',λ v hv=>s2 _ _ (e2 v (hvs v hv)),hm⟩
def Ck(hs:List (Option (Int×Int))):Option (Bool×Int):=if hs.length<1\/4<hs.length then some (true,hs.length) else (BM hs).map λ k:Nat=>(false,(k:Int))
def JU:Sp:=λ vs H Q _=>∃v g,vs=[v]/\STh H v g/\Q (.bl g.isSome) H
inductive F3(cM cD:Addr)(vs:LUz)(H:Hp)(Q:VK)(E:XK):Prop
 |mk (a:Addr) (xs:LUz) (hs:List (Option (Int×Int))) (h0:vs=[.ref a]) (h1:H a=some (.lst xs)) (h2:Ths STh H xs hs) (h3:hs.length<=100) (h4:(∀n,Ck hs=some (true,n)->RfV cM "many" H E (.int n))) (h5:(∀k,Ck hs=some (false,k)->RfV cD "place" H E (.int k))) (h6:(Ck hs=none->∀H',Same H H'->Q .non H')):F3 cM cD vs H Q E
def Gm(cM cD:Addr) :Sp:=λ vs H Q E=>F3 cM cD vs H Q E
theorem Ko{f:Addr}{fd:FuncData}(F:Fun K "is_sheet" "is_sheet" DR f fd)(T:Txt mg tk)(D_is_side:AC P w K mg base 2 "is_side" ["thing"] Er):A3 P w K mg base CX0 3 f fd ["thing"] JU:=by
 have S:Aj ["thing"] ["thing"] (Ad DR):=fsk;refine F.g S ?_;rintro vs H Q E ⟨v,g,rfl,hv,q⟩;refine⟨rfl,λ cdv A outer s hr=>?_⟩;refine⟨_,(Ae (AB (PW.pt (Gu (DY (DX (Ar B6 rfl T.z_isinstance rfl (Aa (pv 0) (Aa (CM (v:=.ty "tuple") rfl T.z_tuple rfl rfl) Ab))))) (DW (Aq ME (Ar A1 rfl T.z_len rfl (Aa (pv 0) Ab)) Ac (Av _))))) (Ag (As BD)) Ay)
  (Ag (As (Gy (A2 D_is_side hr (Aa (Ak ix_tup (pv 0) Ac (λ_ _=>rfl)) Ab)) (Jf (A2 D_is_side hr (Aa (Ak ix_tup (pv 0) Ac (λ_ _=>rfl)) Ab))))))),?_⟩
 rcases hv.two with ⟨a,xs,rfl,ha,hz,ht,hb⟩|⟨T',hT,hne,hb⟩
 .rw[<-hb]at q;refine⟨_,rfl,.ref a,"tuple","tuple",rfl,Da ha,.inr (.inr (.inl rfl)),_,rfl,B4 (by rw[RM];rfl) ?_⟩;refine⟨_,rfl,a,_,rfl,.inr (SqT.of ha),rfl,_,rfl,Bi (λ h=>?_) (λ h=>?_)⟩
  .show Q (.bl false) H;rw[Ot (TZ (m:=2) h)]at q;exact q
  .obtain⟨x,y,rfl⟩:=Qp (SS (m:=2) h);simp only[aA,bd,or_false,forall_eq_or_imp,forall_eq]at ht;obtain⟨tx,ty⟩:=ht;have q:Q (.bl (AE x&&AE y)) H:=q;refine⟨_,rfl,a,_,_,_,rfl,rfl,SqT.of ha,Bn,x,rfl,tx,_,rfl,Bi (λ h1=>?_) (λ h1=>?_)⟩
   .refine⟨_,rfl,a,_,_,_,rfl,rfl,SqT.of ha,Bm,y,rfl,ty,?_⟩;rw[h1]at q;exact q
   .show Q (.bl false) H;rw[h1]at q;exact q
 .rw[<-hb]at q;exact⟨_,rfl,_,T',"tuple",rfl,hT,.inr (.inr (.inl rfl)),_,rfl,C9 (by rw[Qt hne];rfl) (NI q)⟩
theorem F5{f cM cD:Addr}{fd:FuncData}(F:Fun K "check_sheets" "check_sheets" BV f fd)(T:Txt mg tk)(X_TooMany:Hd P w K mg base 1 "TooMany" cM ["self","many"] ["many"])(X_NoSheet:Hd P w K mg base 1 "NoSheet" cD ["self","place"] ["place"])(D_is_sheet:AC P w K mg base 3 "is_sheet" ["thing"] JU) :
  A3 P w K mg base (CX1 P w) 4 f fd ["sheets"] (Gm cM cD):=by
 have S:Aj ["sheets","place","sheet"] ["sheets"] (Ad BV):=fsk;refine F.gx S ?_;rintro vs H Q E ⟨a,xs,gs,rfl,ha,th,few,r,r2,q⟩;refine⟨rfl,λ cdv A outer s hr=>?_⟩;have hl:=th.len;refine⟨_,(Ae (AB (DY (O3 Fq Fq Ac (Ar A1 rfl T.z_len rfl (Aa (pv 0) Ab)) (Az (v:=.int 4) rfl T.g_MOST_SHEETS ⟨_,rfl⟩))) (Ag (Dl Co X_TooMany hr (Aa (Ar A1 rfl T.z_len rfl (Aa (pv 0) Ab)) Ab))) Ay)
  (Ag (Cc OE rfl (Je rfl T.z_enumerate (Aa (pv 0) Ab)) (Cw rfl (Am (Al (i:=1) S.nd rfl (aF rfl)) (Am (Al (i:=2) S.nd rfl (aF rfl)) AM))) (Ag (AB (DY (DX (A2 D_is_sheet hr (Aa (pv 2) Ab)))) (Ag (Dl Co X_NoSheet hr (Aa (pv 1) Ab))) Ay))))),?_⟩
 have bad:(gs.length<1\/4<gs.length)->∀y dx T H2,H y=none->Same H H2->H2 y=some (Cn cM dx y)->H2 dx=some (BG dx ((["many"]:LSz).zip [V.int xs.length]))->dx≠y->H2 T=none->T≠y->E (.ref y) (some dx) (A4 H2 y cM (some dx) T):=λ c2 y dx T H2 hy s2 e ed nd hT nT=>by
  have rr:RfV cM "many" H E (.int gs.length):=r _ (by unfold Ck;rw[if_pos c2]);exact rr.raise (Same.refl H) hy s2 e ed nd hT (by rw[hl];rfl)
 refine⟨_,rfl,a,_,rfl,.inl (SqL.of ha),_,_,rfl,rfl,_,rfl,Bi (λ c=>?_) (λ c=>?_)⟩
 .have c:(1:Int)<=(xs.length:Int):=of_decide_eq_true c;refine⟨_,_,rfl,rfl,_,rfl,Bi (λ c1=>?_) (λ c1=>?_)⟩
  .have c1:¬(xs.length:Int)<=4:=by
    intro z;have c1:(!decide ((xs.length:Int)<=4))=true:=c1;rw[decide_eq_true z]at c1;cases c1
   exact⟨_,rfl,a,_,rfl,.inl (SqL.of ha),rfl,bad (.inr (by lia))⟩
  .have c1:(xs.length:Int)<=4:=by
    have c1:(!decide ((xs.length:Int)<=4))=false:=c1;by_cases z:(xs.length:Int)<=4
    .exact z
    .rw[decide_eq_false z]at c1;cases c1
   have ed:Ck gs=(BM gs).map λ k:Nat=>(false,(k:Int)):=by unfold Ck;rw[if_neg (by lia)]
   refine⟨_,rfl,a,rfl,⟨_,SqL.of ha⟩,KD (K:=K) (a:=a) (xs:=xs) (λ i σ H'=>(∃x y,σ=[some (.ref a),x,y])/\Same H H'/\∀j,j<i->∃t,gs[j]?=some (some t)) ⟨⟨none,none,rfl⟩,Same.refl H,λ j hj=>absurd hj (dz _)⟩ (λ i σ H' _ hp=>SqL.of (hp.2.1 _ _ ha)) ?_ ?_⟩
   .rintro i x σ H1 t hx ⟨⟨x0,y0,rfl⟩,s1,all⟩ nt;obtain⟨g,hg,wt⟩:=th.get hx;have s2:Same H1 (upd H1 t (.tup [.int i,x])):=Same.new nt;refine⟨t,_,rfl,SqT.of upd_same,rfl,_,_,rfl,_,_,rfl,rfl,_,rfl,x,g,rfl,wt.same (s1.trans s2),_,rfl,?_⟩;cases g with
    |some t =>
     refine Qs ⟨⟨_,_,rfl⟩,s1.trans s2,λ j hj=>?_⟩;rcases bh j i with z|z
     .exact all j z
     .obtain rfl:j=i:=by lia
      exact⟨t,hg⟩
    |none =>
     have rr:RfV cD "place" H E (.int i):=r2 _ (by rw[ed,D9 hg all];rfl);exact NI ⟨_,rfl,rfl,λ y dx T H2 hy s3 e ed nd hT nT=>rr.raise (s1.trans s2) hy s3 e ed nd hT rfl⟩
   .rintro σ H1 ⟨_,s1,all⟩;exact q (by rw[ed,Ik (λ j hj=>all j (by lia))];rfl) H1 s1
 .have c:¬(1:Int)<=(xs.length:Int):=of_decide_eq_false c;exact⟨_,rfl,NI ⟨_,rfl,a,_,rfl,.inl (SqL.of ha),rfl,bad (.inl (by lia))⟩⟩
theorem Nx{H:Hp}{l:Addr}{xs:LUz}{hs:List (Option (Int×Int))}(h:Ck hs=none)(hl:H l=some (.lst xs))(th:Ths STh H xs hs):∃ss,hs=ss.map some/\TupL H l ss/\1<=ss.length/\ss.length<=4/\∀z∈ss,SOk z:=by
 unfold Ck at h;by_cases c:hs.length<1\/4<hs.length
 .rw[if_pos c]at h;cases h
 .rw[if_neg c,Option.map_eq_none_iff]at h;unfold BM at h;have al:=c9.mp h;obtain⟨ss,rfl⟩:∃ss,hs=ss.map some:=⟨hs.filterMap id,by
   clear h c th
   induction hs with
   |nil=>rfl
   |cons g r ih =>
    have a0:=al g aR;have ih:=ih λ x hx=>al x (aO _ hx);cases g with
    |none=>cases a0
    |some z =>
     show some z::r=some z::List.map some (r.filterMap id);rw[<-ih]⟩
  obtain⟨ts,rfl,p,q,r⟩:=Nw th;rw[ae]at c;exact⟨ss,rfl,⟨ts,hl,p,q⟩,by lia,by lia,r⟩
inductive I9(vs:LUz)(H:Hp)(Q:VK)(E:XK):Prop
 |mk (a:Addr) (p:Rk) (h0:vs=[.ref a]) (h1:H a=some (.tup p.vs)) (h2:∀c,H c=none->Q (.ref c) (upd H c (.tup [.int (p.len true),.int (p.len false)]))):I9 vs H Q E
def Gg:Sp:=λ vs H Q E=>I9 vs H Q E
theorem L9{f:Addr}{fd:FuncData}(F:Fun K "size_of" "size_of" ES f fd):A3 P w K mg base CX0 1 f fd ["rectangle"] Gg:=by
 have S:Aj ["rectangle"] ["rectangle"] (Ad ES):=fsk;refine F.g S ?_;rintro vs H Q E ⟨a,p,rfl,ha,q⟩;refine⟨rfl,λ cdv A outer s hr=>?_⟩;refine⟨_,(Ag (As (An (Aa (Aw B1 (Ak ix_tup (pv 0) Ac (λ_ _=>rfl)) (Ak ix_tup (pv 0) Ac (λ_ _=>rfl))) (Aa (Aw B1 (Ak ix_tup (pv 0) Ac (λ_ _=>rfl)) (Ak ix_tup (pv 0) Ac (λ_ _=>rfl))) Ab))))),?_⟩;exact⟨_,rfl,a,_,_,_,rfl,rfl,SqT.of ha,at3,_,rfl,a,_,_,_,rfl,rfl,SqT.of ha,at1,_,_,rfl,rfl,_,rfl,a,_,_,_,rfl,rfl,SqT.of ha,at2,_,rfl,a,_,_,_,rfl,rfl,SqT.of ha,at0,_,_,rfl,rfl,Ao 2,λ c hc=>q c hc⟩
def A6(p:Rk):Prop:=0<=p.t/\p.t<p.b/\p.b<=12/\0<=p.l/\p.l<p.r/\p.r<=12
def arR(p:Rk):Int:=p.len false*p.len true
inductive IG(vs:LUz)(H:Hp)(Q:VK)(E:XK):Prop
 |mk (a:Addr) (p:Rk) (h0:vs=[.ref a]) (h1:H a=some (.tup p.vs)) (h2:A6 p) (h3:Q (.int (arR p)) H):IG vs H Q E
def JZ:Sp:=λ vs H Q E=>IG vs H Q E
theorem LD{f:Addr}{fd:FuncData}(F:Fun K "area_of" "area_of" EU f fd):A3 P w K mg base CX0 1 f fd ["rectangle"] JZ:=by
 have S:Aj ["rectangle"] ["rectangle"] (Ad EU):=fsk;refine F.g S ?_;rintro vs H Q E ⟨a,p,rfl,ha,⟨p1,p2,p3,p4,p5,p6⟩,q⟩;refine⟨rfl,λ cdv A outer s hr=>?_⟩;refine⟨_,(Ag (As (Aw CN (Aw B1 (Ak ix_tup (pv 0) Ac (λ_ _=>rfl)) (Ak ix_tup (pv 0) Ac (λ_ _=>rfl))) (Aw B1 (Ak ix_tup (pv 0) Ac (λ_ _=>rfl)) (Ak ix_tup (pv 0) Ac (λ_ _=>rfl)))))),?_⟩;exact⟨_,rfl,a,_,_,_,rfl,rfl,SqT.of ha,at2,_,rfl,a,_,_,_,rfl,rfl,SqT.of ha,at0,_,_,rfl,rfl,_,rfl,a,_,_,_,rfl,rfl,SqT.of ha,at3,_,rfl,a,_,_,_,rfl,rfl,SqT.of ha,at1,_,_,rfl,rfl,_,_,rfl,rfl,HZ (by lia) (by lia) (by lia) (by lia),q⟩
theorem TupL.len{H:Hp}{l:Addr}{zs:LI}(h:TupL H l zs):∃xs,H l=some (.lst xs)/\xs.length=zs.length:=by
 obtain⟨ts,a,_,rfl⟩:=h;exact⟨_,a,by rw[Ax,ae]⟩
inductive IF(vs:LUz)(H:Hp)(Q:VK)(E:XK):Prop
 |mk (a c:Addr) (p:Rk) (t:Bl) (h0:vs=[.ref a,.ref c]) (h1:H a=some (.tup p.vs)) (h2:H c=some (.tup [.int t.1,.int t.2.1,.bl t.2.2])) (h3:∀H',Same H H'->Q (.bl (decide (AA t (p.len true) (p.len false)≠[]))) H'):IF vs H Q E
def JY:Sp:=λ vs H Q E=>IF vs H Q E
theorem OK{f:Addr}{fd:FuncData}(F:Fun K "holds" "holds" IV f fd)(T:Txt mg tk)(D_size_of:AC P w K mg base 1 "size_of" ["rectangle"] Gg)(D_ways_held:AC P w K mg base 2 "ways_held" ["want","width","height"] Gf):A3 P w K mg base CX0 3 f fd ["piece","want"] JY:=by
 have S:Aj ["piece","want","size"] ["piece","want"] (Ad IV):=fsk;refine F.g S ?_;rintro vs H Q E ⟨a,c,p,t,rfl,ha,hc,q⟩;refine⟨rfl,λ cdv A outer s hr=>?_⟩;refine⟨_,(Ae (Au (i:=2) S.nd rfl (aF rfl) (A2 D_size_of hr (Aa (pv 0) Ab)))
  (Ag (As (Jh HW (Ar A1 rfl T.z_len rfl (Aa (A2 D_ways_held hr (Aa (pv 1) (Aa (Ak ix_tup (pv 2) Ac (λ_ _=>rfl)) (Aa (Ak ix_tup (pv 2) Ac (λ_ _=>rfl)) Ab)))) Ab)) Ac (Av _))))),?_⟩
 refine⟨_,rfl,a,p,rfl,ha,λ z hz=>?_⟩;obtain⟨H1,g,s1,e1⟩:=nw (.tup [.int (p.len true),.int (p.len false)]) hz;rw[g];refine⟨_,rfl,_,rfl,z,_,_,_,rfl,rfl,SqT.of e1,Bn,_,rfl,z,_,_,_,rfl,rfl,SqT.of e1,Bm,c,t,_,_,rfl,s1 _ _ hc,λ l H2 s2 nl tl=>?_⟩;obtain⟨xs,hx,lx⟩:=tl.len;refine⟨l,xs,rfl,.inl (SqL.of hx),_,_,rfl,rfl,?_⟩;have e:decide (((xs.length:Nat):Int)>0)=decide (AA t (p.len true) (p.len false)≠[]):=by
  rw[lx];cases AA t (p.len true) (p.len false) with
  |nil=>rfl
  |cons x r=>rw[decide_eq_true (by rw[aD];lia),decide_eq_true (by intro z;cases z)]
 have e2:=q H2 (s1.trans s2);rw[<-e]at e2;exact e2
def rkK(p:Rk):List Key:=[.inl p.t,.inl p.l,.inl p.b,.inl p.r]
theorem IX{p q:Rk}(h:rkK p=rkK q):p=q:=by
 obtain⟨a,b,c,d⟩:=p;obtain⟨a',b',c',d'⟩:=q;simp only[rkK,List.cons.injEq,Sum.inl.injEq]at h;obtain⟨rfl,rfl,rfl,rfl,_⟩:=h;rfl
abbrev KV:=List (Rk×En)
def AK(kv:KV)(p:Rk)(e:En):KV:=if kv.any (λ x=>decide (rkK x.1=rkK p)) then kv.map (λ x=>if rkK x.1=rkK p then (p,e) else x) else kv++[(p,e)]
def KvAt(H:Hp):LKz->KV->Prop
 |[],[]=>True
 |x::r,y::q=>(x.1=rkK y.1/\∃a,x.2=.ref a/\H a=some (.tup (enV y.2)))/\KvAt H r q
 |_,_=>False
theorem KvAt.len{H:Hp}:∀{kvs:LKz}{kv:KV},KvAt H kvs kv->kvs.length=kv.length
 |[],[],_=>rfl
 |x::r,y::q,h=>by rw[aD,aD,KvAt.len h.2]
 |[],_::_,h=>h.elim
 |_::_,[],h=>h.elim
theorem KvAt.tups{H H':Hp}(s:∀a xs,H a=some (.tup xs)->H' a=some (.tup xs)):∀{kvs:LKz}{kv:KV},KvAt H kvs kv->KvAt H' kvs kv
 |[],[],_=>trivial
 |x::r,y::q,h=>⟨⟨h.1.1,let ⟨a,b,c⟩:=h.1.2;⟨a,b,s _ _ c⟩⟩,KvAt.tups s h.2⟩
 |[],_::_,h=>h.elim
 |_::_,[],h=>h.elim
theorem KvAt.get{H:Hp}:∀{kvs:LKz}{kv:KV}{i:Nat}{x:List Key×V},KvAt H kvs kv->kvs[i]?=some x->∃y a,kv[i]?=some y/\x=(rkK y.1,.ref a)/\H a=some (.tup (enV y.2))
 |x::r,y::q,0,z,h,e=>by
  cases e;obtain⟨⟨h1,a,h2,h3⟩,_⟩:=h;exact⟨y,a,rfl,by rw[<-h1,<-h2],h3⟩
 |x::r,y::q,i+1,z,h,e=>KvAt.get (i:=i) h.2 e
 |[],[],i,z,_,e=>by simp at e
 |[],_::_,_,_,h,_=>h.elim
 |_::_,[],_,_,h,_=>h.elim
theorem KvAt.any{H:Hp}{k:List Key}:∀{kvs:LKz}{kv:KV},KvAt H kvs kv->(kvs.any λ x=>decide (x.1=k))=kv.any λ x=>decide (rkK x.1=k)
 |[],[],_=>rfl
 |x::r,y::q,h=>by rw[cj,cj,KvAt.any h.2,h.1.1]
 |[],_::_,h=>h.elim
 |_::_,[],h=>h.elim
theorem KvAt.mapPut{H:Hp}{p:Rk}{e:En}{c:Addr}(hc:H c=some (.tup (enV e))):∀{kvs:LKz}{kv:KV},KvAt H kvs kv->KvAt H (kvs.map λ x=>if x.1=rkK p then (x.1,.ref c) else x) (kv.map λ x=>if rkK x.1=rkK p then (p,e) else x)
 |[],[],_=>trivial
 |x::r,y::q,h=>by
  refine⟨?_,KvAt.mapPut hc h.2⟩;dsimp only;by_cases z:rkK y.1=rkK p
  .rw[if_pos (h.1.1.trans z),if_pos z];exact⟨h.1.1.trans z,c,rfl,hc⟩
  .rw[if_neg (λ w=>z (h.1.1.symm.trans w)),if_neg z];exact h.1
 |[],_::_,h=>h.elim
 |_::_,[],h=>h.elim
theorem KvAt.snoc{H:Hp}{p:Rk}{e:En}{c:Addr}(hc:H c=some (.tup (enV e))):∀{kvs:LKz}{kv:KV},KvAt H kvs kv->KvAt H (kvs++[(rkK p,.ref c)]) (kv++[(p,e)])
 |[],[],_=>⟨⟨rfl,c,rfl,hc⟩,trivial⟩
 |x::r,y::q,h=>⟨h.1,KvAt.snoc hc h.2⟩
 |[],_::_,h=>h.elim
 |_::_,[],h=>h.elim
theorem Kb(kv:KV)(p:Rk)(e:En):(AK kv p e).length<=kv.length+1:=by
 unfold AK;split
 .rw[ae];lia
 .rw[ak,aM];exact aj _
theorem KvAt.put{H:Hp}{p:Rk}{e:En}{c:Addr}{kvs:LKz}{kv:KV}(h:KvAt H kvs kv)(hc:H c=some (.tup (enV e))):KvAt H (Bv kvs (rkK p) (.ref c)) (AK kv p e):=by
 unfold Bv AK;rw[h.any];split
 .exact h.mapPut hc
 .exact h.snoc hc
def Ba(u:Bool)(k:Int)(s:KV×Rk):KV×Rk:=if k<s.2.len u then (AK (AK s.1 s.2 (.c u k)) (s.2.oth u k) (.w none),s.2.fst u k) else s
def CY(kv:KV)(p:Rk)(z:Int×Int):KV×Rk:=Ba false z.2 (Ba true z.1 (kv,p))
def AG(kv:KV)(p:Rk)(z:Int×Int)(n:Int):KV:=AK (CY kv p z).1 (CY kv p z).2 (.w (some n))
theorem NT{k:Int}{s:KV×Rk}:(Ba true k s).2.len false=s.2.len false:=by
 unfold Ba;split<;>rfl
def stp(kv:KV)(p:Rk)(z:Int×Int):Nat->KV×Rk
 |0=>(kv,p)
 |1=>Ba true z.1 (kv,p)
 |_=>CY kv p z
inductive F1(vs:LUz)(H:Hp)(Q:VK)(E:XK):Prop
 |mk (d a c:Addr) (n:Int) (p:Rk) (t:Bl) (z:Int×Int) (r:LI) (kvs:LKz) (kv:KV) (h0:vs=[.ref d,.ref a,.ref c,.int n]) (h1:H d=some (.dT kvs)) (h2:KvAt H kvs kv) (h3:kv.length<=500) (h4:H a=some (.tup p.vs)) (h5:H c=some (.tup [.int t.1,.int t.2.1,.bl t.2.2])) (h6:AA t (p.len true) (p.len false)=z::r) (h7:∀b kvs' H',SameX d H H'->H' d=some (.dT kvs')->KvAt H' kvs' (AG kv p z n)->H' b=some (.tup (CY kv p z).2.vs)->Q (.ref b) H'):F1 vs H Q E
def Gk:Sp:=λ vs H Q E=>F1 vs H Q E
abbrev Uh:LSz:=["entries","piece","want","number","size","lies","word","at","length"]
theorem Kq{f:Addr}{fd:FuncData}(F:Fun K "cut_pane" "cut_pane" DS f fd)(T:Txt mg tk)(D_size_of:AC P w K mg base 1 "size_of" ["rectangle"] Gg)(D_ways_held:AC P w K mg base 2 "ways_held" ["want","width","height"] Gf)(D_first_piece:AC P w K mg base 1 "first_piece" ["piece","word","at"] Lr)(D_other_piece:AC P w K mg base 1 "other_piece" ["piece","word","at"] Lq):A3 P w K mg base CX0 3 f fd ["entries","piece","want","number"] Gk:=by
 have S:Aj Uh ["entries","piece","want","number"] (Ad DS):=fsk;refine F.g S ?_;rintro vs H Q E ⟨d,a,c,n,p,t,z,r,kvs,kv,rfl,hd,hkv,few,ha,hc,hh,q⟩;refine⟨rfl,λ cdv A outer s hr=>?_⟩;have hu:=Fu hr;refine⟨_,(Ae (Au (i:=4) S.nd rfl (aF rfl) (A2 D_size_of hr (Aa (pv 1) Ab)))
  (Ae (Au (i:=5) S.nd rfl (aF rfl) (Ak ix_list (A2 D_ways_held hr (Aa (pv 2) (Aa (Ak ix_tup (pv 4) Ac (λ_ _=>rfl)) (Aa (Ak ix_tup (pv 4) Ac (λ_ _=>rfl)) Ab)))) Ac (λ_ _=>rfl)))
  (Ae (Cc PassesOwn.never rfl (L4 (An (Aa (An (Aa (Az (v:=.str "upright") rfl T.g_UPRIGHT ⟨_,rfl⟩) (Aa (Ak ix_tup (pv 5) Ac (λ_ _=>rfl)) (Aa (Ak ix_tup (pv 4) Ac (λ_ _=>rfl)) Ab)))) (Aa (An (Aa (Az (v:=.str "level") rfl T.g_LEVEL ⟨_,rfl⟩) (Aa (Ak ix_tup (pv 5) Ac (λ_ _=>rfl)) (Aa (Ak ix_tup (pv 4) Ac (λ_ _=>rfl)) Ab)))) Ab)))) (Cw rfl (Am (Al (i:=6) S.nd rfl (aF rfl)) (Am (Al (i:=7) S.nd rfl (aF rfl)) (Am (Al (i:=8) S.nd rfl (aF rfl)) AM)))) (Ag (AB (Aq Kg (pv 7) (pv 8) (Av _)) (Ae (Ja hu (pv 0) (pv 1) (An (Aa (pv 6) (Aa (pv 7) Ab))) rfl)
  (Ae (Ja hu (pv 0) (A2 D_other_piece hr (Aa (pv 1) (Aa (pv 6) (Aa (pv 7) Ab)))) (An (Aa (Az (v:=.str "whole") rfl T.g_WHOLE ⟨_,rfl⟩) (Aa AL Ab))) rfl)
  (Ag (Au (i:=1) S.nd rfl (aF rfl) (A2 D_first_piece hr (Aa (pv 1) (Aa (pv 6) (Aa (pv 7) Ab)))))))) Ay)))
  (Ae (Ja hu (pv 0) (pv 1) (An (Aa (Az (v:=.str "whole") rfl T.g_WHOLE ⟨_,rfl⟩) (Aa (pv 3) Ab))) rfl)
  (Ag (As (pv 1))))))),?_⟩
 refine⟨_,rfl,a,p,rfl,ha,λ y hy=>?_⟩;obtain⟨H1,g,s1,e1⟩:=nw (.tup [.int (p.len true),.int (p.len false)]) hy;rw[g];refine⟨_,rfl,_,rfl,y,_,_,_,rfl,rfl,SqT.of e1,Bn,_,rfl,y,_,_,_,rfl,rfl,SqT.of e1,Bm,c,t,_,_,rfl,s1 _ _ hc,λ l H2 s2 nl tl=>?_⟩;rw[hh]at tl;obtain⟨ts,l2,l3,l4⟩:=tl;obtain⟨x0,ts',rfl,rfl⟩:∃x0 ts',ts=x0::ts'/\x0.2=z:=by
  match ts,l4 with
  |x::r',l4=>exact⟨x,r',rfl,(List.cons.inj l4).1⟩
 have hz:=l3 x0 aR;refine⟨l,_,_,_,rfl,rfl,SqL.of l2,RX,?_⟩;have s12:=s1.trans s2;have y2:=s2 _ _ e1;refine⟨_,rfl,x0.1,_,_,_,rfl,rfl,SqT.of hz,Bn,_,rfl,y,_,_,_,rfl,rfl,SqT.of y2,Bn,Ao 3,λ b1 n1=>?_⟩;obtain⟨H3,g,s3,e3⟩:=nw (.tup [.str "upright",.int x0.2.1,.int (p.len true)]) n1;rw[g];have e3:H3 b1=some (.tup [.str (wd true),.int x0.2.1,.int (p.len true)]):=e3;refine⟨_,rfl,x0.1,_,_,_,rfl,rfl,SqT.of (s3 _ _ hz),Bm,_,rfl,y,_,_,_,rfl,rfl,SqT.of (s3 _ _ y2),Bm,Ao 3,λ b2 n2=>?_⟩;obtain⟨H4,g,s4,e4⟩:=nw (.tup [.str "level",.int x0.2.2,.int (p.len false)]) n2;rw[g];have e4:H4 b2=some (.tup [.str (wd false),.int x0.2.2,.int (p.len false)]):=e4;refine⟨Ao 2,λ bt nt=>?_⟩;obtain⟨H5,g,s5,e5⟩:=nw (.tup [.ref b1,.ref b2]) nt;rw[g];have s05:=s12.trans (s3.trans (s4.trans s5));have d5:=s05 _ _ hd;have b15:=(s4.trans s5) _ _ e3;have b25:=s5 _ _ e4;have ned:∀{x:Addr}{xs:LUz},H5 x=some (.tup xs)->x≠d:=λ e z=>by rw[z,d5]at e;cases e
 refine⟨bt,rfl,⟨_,SqT.of e5⟩,Jy (K:=K) (a:=bt) (xs:=[.ref b1,.ref b2]) (λ i σ H'=>∃(a':Addr)(w6 w7 w8:Option V)(kvs':LKz),σ=[some (.ref d),some (.ref a'),some (.ref c),some (.int n),some (.ref y),some (.ref x0.1),w6,w7,w8]/\SameX d H5 H'/\H' d=some (.dT kvs')/\KvAt H' kvs' (stp kv p x0.2 i).1/\(stp kv p x0.2 i).1.length<=500+2*i/\H' a'=some (.tup (stp kv p x0.2 i).2.vs))
  ⟨a,none,none,none,kvs,rfl,SameX.refl,d5,hkv.tups λ b xs e=>s05 _ _ e,few,s05 _ _ ha⟩ (λ i σ H' _ hp=>by obtain⟨_,_,_,_,_,_,sx,_⟩:=hp;exact SqT.of (sx _ _ (ned e5) e5)) ?_ ?_⟩
 .rintro i x σ H' hx ⟨a',w6,w7,w8,kvs',rfl,sx,d6,kv6,few6,a6⟩;obtain⟨b,u,k,rfl,hb,hst⟩:∃(b:Addr)(u:Bool)(k:Int),x=.ref b/\H5 b=some (.tup [.str (wd u),.int k,.int ((stp kv p x0.2 i).2.len u)])/\stp kv p x0.2 (i+1)=Ba u k (stp kv p x0.2 i):=by
   match i,hx with
   |0,hx=>cases hx;exact⟨b1,true,x0.2.1,rfl,b15,rfl⟩
   |1,hx=>cases hx;exact⟨b2,false,x0.2.2,rfl,by show H5 b2=some (.tup [.str (wd false),.int x0.2.2,.int ((Ba true x0.2.1 (kv,p)).2.len false)]);rw[NT];exact b25,rfl⟩
  rw[hst];generalize stp kv p x0.2 i=S0 at kv6 few6 a6 hb |-;obtain⟨kv0,p0⟩:=S0;have kv6:KvAt H' kvs' kv0:=kv6;have a6:H' a'=some (.tup p0.vs):=a6;have hb6:=sx _ _ (ned hb) hb;refine⟨b,_,rfl,SqT.of hb6,rfl,_,_,rfl,_,_,rfl,_,_,rfl,rfl,?_⟩;refine⟨_,rfl,_,rfl,_,_,rfl,rfl,_,rfl,Bi (λ cc=>?_) (λ cc=>?_)⟩
  .have k1:=of_decide_eq_true cc;have fk0:kv0.length<=500+2*i:=few6;have i2:i<2:=by
    match i,hx with
    |0,_=>lia
    |1,_=>lia
   have kl:=kv6.len;refine⟨_,rfl,_,rfl,Ao 2,λ v1 nv1=>?_⟩;have t1:SameX d H5 (upd H' v1 (.tup [.str (wd u),.int k])):=sx.trans (SameX.new nv1);have f1:(upd H' v1 (.tup [.str (wd u),.int k])) v1=some (.tup (enV (.c u k))):=upd_same;obtain⟨H6,g,g1,_⟩:=nw (.tup [.str (wd u),.int k]) nv1;rw[g] at t1 f1 |-;have d7:=g1 _ _ d6;have a7:=g1 _ _ a6;refine⟨_,rfl,_,rfl,d,_,rfl,DPut.t (k:=rkK p0) d7 a7 (bL (cb kl) (At (by lia))),?_⟩;have kv7:=(kv6.tups λ b xs e=>g1 _ _ e).put (p:=p0) f1;have t2:SameX d H6 (upd H6 d (.dT (Bv kvs' (rkK p0) (.ref v1)))):=SameX.upd;have d8:(upd H6 d (.dT (Bv kvs' (rkK p0) (.ref v1)))) d=some (.dT (Bv kvs' (rkK p0) (.ref v1))):=upd_same;have nt2:∀{x:Addr}{xs:LUz},H6 x=some (.tup xs)->x≠d:=λ e z=>by rw[z,d7]at e;cases e
   generalize upd H6 d (.dT (Bv kvs' (rkK p0) (.ref v1)))=H7 at t2 d8 |-;have a8:=t2 _ _ (nt2 a7) a7;have kv8:=kv7.tups λ b xs e=>t2 _ _ (nt2 e) e;refine⟨Ao 2,λ v2 nv2=>?_⟩;obtain⟨H8,g,g3,f3⟩:=nw (.tup [.str "whole",.non]) nv2;rw[g];have f3:H8 v2=some (.tup (enV (.w none))):=f3;refine⟨_,rfl,_,rfl,_,rfl,_,rfl,a',p0,u,k,rfl,g3 _ _ a8,λ x1 nx1=>?_⟩;obtain⟨H9,g,g4,f4⟩:=nw (.tup (p0.oth u k).vs) nx1;rw[g];have g34:=g3.trans g4;have d9:=g34 _ _ d8;have kv9:=kv8.tups λ b xs e=>g34 _ _ e;have l9:=kv9.len;have pl:=Kb kv0 p0 (.c u k);refine⟨d,_,rfl,DPut.t (k:=rkK (p0.oth u k)) d9 f4 (bL (cb l9) (At (by lia))),?_⟩;have kv10:=kv9.put (p:=p0.oth u k) (g4 _ _ f3);have t5:SameX d H9 (upd H9 d (.dT (Bv (Bv kvs' (rkK p0) (.ref v1)) (rkK (p0.oth u k)) (.ref v2)))):=SameX.upd;have d10:(upd H9 d (.dT (Bv (Bv kvs' (rkK p0) (.ref v1)) (rkK (p0.oth u k)) (.ref v2)))) d=some (.dT (Bv (Bv kvs' (rkK p0) (.ref v1)) (rkK (p0.oth u k)) (.ref v2))):=upd_same;have nt5:∀{x:Addr}{xs:LUz},H9 x=some (.tup xs)->x≠d:=λ e z=>by rw[z,d9]at e;cases e
   generalize upd H9 d (.dT (Bv (Bv kvs' (rkK p0) (.ref v1)) (rkK (p0.oth u k)) (.ref v2)))=H10 at t5 d10 |-;have a9:=g34 _ _ a8;refine⟨_,rfl,_,rfl,_,rfl,a',p0,u,k,rfl,t5 _ _ (nt5 a9) a9,λ x2 nx2=>?_⟩;obtain⟨H11,g,g6,f6⟩:=nw (.tup (p0.fst u k).vs) nx2;rw[g];have cS:Ba u k (kv0,p0)=(AK (AK kv0 p0 (.c u k)) (p0.oth u k) (.w none),p0.fst u k):=by unfold Ba;rw[if_pos k1]
   rw[cS];have pl2:=Kb (AK kv0 p0 (.c u k)) (p0.oth u k) (.w none);refine⟨x2,_,_,_,_,rfl,t1.trans (t2.trans (g34.x.trans (t5.trans g6.x))),g6 _ _ d10,(kv10.tups λ b xs e=>t5 _ _ (nt5 e) e).tups λ b xs e=>g6 _ _ e,?_,f6⟩;show(AK (AK kv0 p0 (.c u k)) (p0.oth u k) (.w none)).length<=_;lia
  .refine⟨a',_,_,_,kvs',rfl,sx,d6,?_,?_,?_⟩
   all_goals rw[show Ba u k (kv0,p0)=(kv0,p0) from by unfold Ba;rw[if_neg (of_decide_eq_false cc)]]
   .exact kv6
   .show kv0.length<=_;have:kv0.length<=500+2*i:=few6;lia
   .exact a6
 .rintro σ H' ⟨a',w6,w7,w8,kvs',rfl,sx,d6,kv6,few6,a6⟩;have kl:=kv6.len;have few6:(stp kv p x0.2 2).1.length<=504:=few6;have kv6:KvAt H' kvs' (CY kv p x0.2).1:=kv6;have few7:(CY kv p x0.2).1.length<=504:=few6;have a6:H' a'=some (.tup (CY kv p x0.2).2.vs):=a6;refine⟨_,rfl,Ao 2,λ v1 nv1=>?_⟩;obtain⟨H6,g,g1,f1⟩:=nw (.tup [.str "whole",.int n]) nv1;rw[g];have f1:H6 v1=some (.tup (enV (.w (some n)))):=f1;have d7:=g1 _ _ d6;have a7:=g1 _ _ a6;have kl':=kv6.len;refine⟨_,rfl,_,rfl,d,_,rfl,DPut.t (k:=rkK (CY kv p x0.2).2) d7 a7 (bL (cb kl') (At (by lia))),?_⟩;have kv7:=(kv6.tups λ b xs e=>g1 _ _ e).put (p:=(CY kv p x0.2).2) f1;have t2:SameX d H6 (upd H6 d (.dT (Bv kvs' (rkK (CY kv p x0.2).2) (.ref v1)))):=SameX.upd;have nt2:∀{x:Addr}{xs:LUz},H6 x=some (.tup xs)->x≠d:=λ e z=>by rw[z,d7]at e;cases e
  exact⟨_,rfl,q a' _ _ (s05.x.trans (sx.trans (g1.x.trans t2))) upd_same (kv7.tups λ b xs e=>t2 _ _ (nt2 e) e) (t2 _ _ (nt2 a7) a7)⟩
structure JI(K:Frag)(C:Addr):Prop where
 cl:Cls K C
 n_stock:NoAttr K C "stock"
 n_taken:NoAttr K C "taken"
def bnF(ls lt:Addr):LFz:=Bh "taken" (.ref lt) (Bh "stock" (.ref ls) [])
theorem Nd(ls lt:Addr):(bnF ls lt).lookup ("stock":Str)=some (.ref ls):=by
 unfold bnF;rw[AQ,if_neg (by decide +kernel),AQ,if_pos rfl]
theorem Iq(ls lt:Addr):(bnF ls lt).lookup ("taken":Str)=some (.ref lt):=by
 unfold bnF;rw[AQ,if_pos rfl]
abbrev Tk1:=Addr×Int×Addr×LKz×KV
def TkAt(H:Hp)(t:Tk1):Prop:=H t.1=some (.tup [.int t.2.1,.ref t.2.2.1])/\H t.2.2.1=some (.dT t.2.2.2.1)/\KvAt H t.2.2.2.1 t.2.2.2.2
structure BnAt(C a dx ls lt:Addr)(H:Hp)(ss:LZ)(tn:List Tk1):Prop where
 ob:H a=some (.ins C dx (bnF ls lt))
 lst:H ls=some (.lst (Ai ss))
 stk:∀t∈ss,H t.1=some (.tup (Rk.vs ⟨0,0,t.2.2,t.2.1⟩))
 tak:H lt=some (.lst (Ai tn))
 tks:∀t∈tn,TkAt H t
 dis:(tn.map λ t=>t.2.2.1).Nodup
theorem TkAt.same{H H':Hp}{t:Tk1}(h:TkAt H t)(s:Same H H'):TkAt H' t:=⟨s _ _ h.1,s _ _ h.2.1,h.2.2.tups λ a xs e=>s _ _ e⟩
theorem BnAt.same{C a dx ls lt:Addr}{H H':Hp}{ss:LZ}{tn:List Tk1}(h:BnAt C a dx ls lt H ss tn)(s:Same H H'):BnAt C a dx ls lt H' ss tn :=
 ⟨s _ _ h.ob,s _ _ h.lst,λ t ht=>s _ _ (h.stk t ht),s _ _ h.tak,λ t ht=>(h.tks t ht).same s,h.dis⟩
def wh1(i:Int)(kv:KV):LR:=kv.filterMap λ x=>match x.2 with
 |.w m=>some (i,x.1,m)
 |.c _ _=>none
def whs:Int->List KV->LR
 |_,[]=>[]
 |i,kv::r=>wh1 i kv++whs (i+1) r
theorem Ej:∀(i:Int)(r:List KV)(kv:KV),whs i (r++[kv])=whs i r++wh1 (i+r.length) kv
 |i,[],kv=>by show wh1 i kv++[]=[]++wh1 (i+0) kv;rw[aI,eS];rfl
 |i,x::r,kv=>by
  show wh1 i x++whs (i+1) (r++[kv])=(wh1 i x++whs (i+1) r)++wh1 (i+((r.length+1:Nat):Int)) kv;rw[Ej (i+1) r kv,aK,show i+1+(r.length:Int)=i+((r.length+1:Nat):Int) by lia]
abbrev Wr:=Addr×Addr×Int×Rk×Option Int
def WrAt(H:Hp)(t:Wr):Prop:=H t.1=some (.tup [.int t.2.2.1,.ref t.2.1,Dr t.2.2.2.2])/\H t.2.1=some (.tup t.2.2.2.1.vs)
theorem WrAt.tups{H H':Hp}(s:∀a xs,H a=some (.tup xs)->H' a=some (.tup xs)){t:Wr}(h:WrAt H t):WrAt H' t:=⟨s _ _ h.1,s _ _ h.2⟩
inductive Fx(C:Addr)(vs:LUz)(H:Hp)(Q:VK)(E:XK):Prop
 |mk (a dx ls lt:Addr) (ss:LZ) (tn:List Tk1) (h0:vs=[.ref a]) (h1:BnAt C a dx ls lt H ss tn) (h2:tn.length<=100) (h3:(∀t∈tn,t.2.2.2.2.length<=250)) (h4:∀l ts H',Same H H'->H l=none->H' l=some (.lst (Ai ts))->(∀t∈ts,WrAt H' t)->ts.map (λ t:Wr=>t.2.2)=whs 0 (tn.map λ t=>t.2.2.2.2)->Q (.ref l) H'):Fx C vs H Q E
def DK(C:Addr) :Sp:=λ vs H Q E=>Fx C vs H Q E
theorem CW{f:Addr}{fd:FuncData}{C:Addr}(F:Fun K "whole_pieces" "Bench.whole_pieces" Bg f fd)(T:Txt mg tk)(BC:JI K C):A3 P w K mg base CX0 1 f fd ["self"] (DK C):=by
 have S:Aj ["self","found","number","sheet"] ["self"] (Ad Bg):=fsk;refine F.g S ?_;rintro vs H Q E ⟨a,dx,ls,lt,ss,tn,rfl,bn,few,fk,q⟩;refine⟨rfl,λ cdv A outer s hr=>?_⟩;refine⟨_,(Ae (Au (i:=1) S.nd rfl (aF rfl) (Bc Ab))
  (Ae (Cc PassesOwn.never rfl (Je rfl T.z_enumerate (Aa (CL (pv 0) rfl) Ab)) (Cw rfl (Am (Al (i:=2) S.nd rfl (eV rfl)) (Am (Al (i:=3) S.nd rfl (aF rfl)) AM))) (Ag (AU (OC br PySem.F.slot_list_extend PySem.F.type_list_extend N9 (pv 1) (Aa (PZ (E8 rfl (N1 (Ak ix_tup (pv 3) Ac (λ_ _=>rfl))) (λ_ _ _ _ _=>(Cp (K:=K) (n:=2) rfl (Am (Al (i:=0) (nk ["piece","entry","number"]) rfl (aF rfl)) (Am (Al (i:=1) (nk ["piece","entry","number"]) rfl (aF rfl)) AM)))) (λ_ _ _ _ _=>(Aq Dp (Ak (FN (K:=K)) (pv 1) Ac (λ_ _=>rfl)) (Az (v:=.str "whole") rfl T.g_WHOLE ⟨_,rfl⟩) (Av _))) (λ_ _ _ _ _=>(An (Aa (pv 2) (Aa (pv 0) (Aa (Ak (FN (K:=K)) (pv 1) Ac (λ_ _=>rfl)) Ab))))) (N:=["piece","entry","number"]) (fr:=[none,none,some 2]))) Ab)))))
  (Ag (As (pv 1))))),?_⟩
 refine⟨Ao 0,λ l nl=>?_⟩;obtain⟨H0,g,s0,e0⟩:=nw (.lst []) nl;rw[g];have bn0:=bn.same s0;refine⟨_,rfl,a,C,dx,_,_,rfl,bn0.ob,BC.cl,BC.n_taken,Iq _ _,?_⟩;refine⟨lt,rfl,⟨_,SqL.of bn0.tak⟩,KD (K:=K) (a:=lt) (xs:=Ai tn) (λ i σ H'=>∃(w2 w3:Option V)(ts:List Wr),σ=[some (.ref a),some (.ref l),w2,w3]/\Same H H'/\H' l=some (.lst (Ai ts))/\(∀t∈ts,WrAt H' t)/\ts.map (λ t:Wr=>t.2.2)=whs 0 ((tn.take i).map λ t=>t.2.2.2.2)/\ts.length<=250*i)
  ⟨none,none,[],rfl,s0,e0,(λ t ht=>nomatch ht),rfl,aj _⟩ (λ i σ H' _ hp=>by obtain⟨_,_,_,_,s',_⟩:=hp;exact SqL.of (s' _ _ bn.tak)) ?_ ?_⟩
 .rintro i x σ H1 t0 hx ⟨w2,w3,ts,rfl,s1,l1,wr1,eq1,NB⟩ nt0;obtain⟨u,hu',rfl⟩:=AY hx;have um:=ai hu';obtain⟨H2,g,s2,e2⟩:=nw (.tup [.int i,.ref u.1]) nt0;rw[g];have s02:=s1.trans s2;have tk2:=(bn.tks u um).same s02;obtain⟨g1,g2,g3⟩:=tk2;have fku:=fk u um;have kl:=g3.len;refine⟨t0,_,rfl,SqT.of e2,rfl,_,_,rfl,_,_,rfl,rfl,?_⟩;refine⟨_,rfl,.inl ⟨rfl,_,SqL.of (s2 _ _ l1)⟩,?_⟩;refine⟨_,rfl,u.1,_,_,_,rfl,rfl,SqT.of g1,Bm,u.2.2.1,_,rfl,g2,λ ob acc hacc=>?_⟩;have nd:∀{b:Addr},(upd H2 u.2.2.1 (.frz ob (.dT u.2.2.2.1))) b=none->b≠u.2.2.1:=λ z c=>by rw[c,upd_same]at z;cases z
  have fd:(upd H2 u.2.2.1 (.frz ob (.dT u.2.2.2.1))) u.2.2.1=some (.frz ob (.dT u.2.2.2.1)):=upd_same;have fo:∀{b:Addr}{o:HO},b≠u.2.2.1->H2 b=some o->(upd H2 u.2.2.1 (.frz ob (.dT u.2.2.2.1))) b=some o:=λ n e=>by rw[Af n];exact e
  have nacc:=nd hacc;have tupd:∀{b:Addr}{xs:LUz},H2 b=some (.tup xs)->b≠u.2.2.1:=λ e z=>by rw[z,g2]at e;cases e
  have ld:l≠u.2.2.1:=λ z=>by have:=s2 _ _ l1;rw[z,g2]at this;cases this
  have lacc:l≠acc:=λ z=>by have:=fo ld (s2 _ _ l1);rw[z,hacc]at this;cases this
  generalize hHf:upd H2 u.2.2.1 (.frz ob (.dT u.2.2.2.1))=Hf at hacc nd fd fo |-;have g3f:KvAt Hf u.2.2.2.1 u.2.2.2.2:=g3.tups λ b xs e=>fo (tupd e) e;refine J9 (a:=u.2.2.1) (ob:=ob) (kvs:=u.2.2.2.1) (λ j zs σ H'=>(∃y z,σ=[y,z,some (.int i)])/\Same Hf H'/\∃us:List Wr,zs=Ai us/\(∀t∈us,WrAt H' t)/\us.map (λ t:Wr=>t.2.2)=wh1 i (u.2.2.2.2.take j)) ⟨⟨none,none,rfl⟩,Same.new hacc,[],rfl,(λ t ht=>nomatch ht),rfl⟩ (λ j zs σ H' _ _ hp=>hp.2.1 _ _ fd) ?_ ?_
  .rintro j p t1 b zs σ H' hp hj hl' hacc' ⟨⟨y,z,rfl⟩,hs,us,rfl,wu,eu⟩ hb ht1;obtain⟨ye,c,e1,rfl,e3⟩:=g3f.get hp;have e3':=hs _ _ e3;have s3:Same H' (upd H' t1 (.tup [.ref b,.ref c])):=Same.new ht1;have f3:(upd H' t1 (.tup [.ref b,.ref c])) t1=some (.tup [.ref b,.ref c]):=upd_same;have tk1:u.2.2.2.2.take (j+1)=u.2.2.2.2.take j++[ye]:=by rw[bU,e1];rfl
   dsimp only;generalize upd H' t1 (.tup [.ref b,.ref c])=H3 at s3 f3 |-;obtain⟨pe,ee⟩:=ye;have hb3:H3 b=some (.tup pe.vs):=s3 _ _ hb;have e33:=s3 _ _ e3';refine⟨t1,_,rfl,SqT.of f3,rfl,_,_,rfl,_,_,rfl,rfl,?_⟩;cases ee with
   |w m =>
    refine⟨_,rfl,c,_,_,_,rfl,rfl,SqT.of e33,Bn,rfl,true,congrArg V.bl (decide_eq_true rfl),?_⟩;refine⟨_,rfl,_,rfl,_,rfl,c,_,_,_,rfl,rfl,SqT.of e33,Bm,Ao 3,λ r1 nr1=>?_⟩;obtain⟨H4,g,s4,f4⟩:=nw (.tup [.int i,.ref b,Dr m]) nr1;rw[g];have s34:=s3.trans s4;have a4:=s34 _ _ hacc';refine fNx.mk (ba (At (by lia))) hj hl' a4 ⟨⟨_,_,rfl⟩,λ d o e=>by rw[Af (Ah e hacc)];exact s34 _ _ (hs d o e),us++[(r1,b,(i:Int),pe,m)],by rw[Ai,Ai,ah];rfl,λ t ht=>?_,?_⟩
    .have kp:∀x xs,H4 x=some (.tup xs)->(upd H4 acc (.lst (Ai us++[.ref r1]))) x=some (.tup xs):=λ x xs e=>by rw[Af (λ z=>by rw[z,a4]at e;cases e)];exact e
     rcases aw.mp ht with ht|ht
     .exact((wu t ht).tups λ x xs e=>s34 _ _ e).tups kp
     .rw[aa.mp ht];exact⟨kp _ _ f4,kp _ _ (s4 _ _ hb3)⟩
    .rw[ah,eu,tk1];unfold wh1;rw[bg];rfl
   |c uu k =>
    refine⟨_,rfl,c,_,_,_,rfl,rfl,SqT.of e33,Bn,rfl,false,congrArg V.bl (JK uu),?_⟩;refine fSk.mk hj hl' (s3 _ _ hacc') ⟨⟨_,_,rfl⟩,hs.trans s3,us,rfl,λ t ht=>(wu t ht).tups λ x xs e=>s3 _ _ e,?_⟩;rw[eu,tk1];unfold wh1;rw[bg];exact(aI _).symm
  .rintro zs σ H' hl' hacc' ⟨_,hs,us,rfl,wu,eu⟩;rw[kl,bE]at eu;have lu:=congrArg List.length eu;rw[ae]at lu;have lw:(wh1 i u.2.2.2.2).length<=u.2.2.2.2.length:=eJ _ _;refine⟨u.2.2.1,ob,_,hs _ _ fd,(λ o w z=>by have z:H u.2.2.1=some (.frz o w):=z;rw[(bn.tks u um).2.1]at z;cases z),?_⟩;have s3:Same H2 (upd H' u.2.2.1 (.dT u.2.2.2.1)):=λ b o e=>by
    by_cases hb:b=u.2.2.1
    .rw[hb]at e |-;rw[g2]at e;cases e;exact upd_same
    .rw[Af hb];exact hs _ _ (fo hb e)
   have kp:∀x xs,H' x=some (.tup xs)->(upd H' u.2.2.1 (.dT u.2.2.2.1)) x=some (.tup xs):=λ x xs e=>by rw[Af (λ z=>by rw[z,hs _ _ fd]at e;cases e)];exact e
   have a3:(upd H' u.2.2.1 (.dT u.2.2.2.1)) acc=some (.lst (Ai us)):=by rw[Af nacc];exact hacc'
   have wu3:=λ t ht=>(wu t ht).tups kp;generalize upd H' u.2.2.1 (.dT u.2.2.2.1)=H3 at s3 a3 wu3 |-;have l3:=s3 _ _ (s2 _ _ l1);refine⟨l,acc,_,_,rfl,rfl,l3,a3,?_,?_⟩
   .have i100:i<tn.length:=(av.mp hu').1;exact ba (Rr (by rw[Ax,Ax];lia))
   have kp4:∀x xs,H3 x=some (.tup xs)->(upd H3 l (.lst (Ai ts++Ai us))) x=some (.tup xs):=λ x xs e=>by rw[Af (λ z=>by rw[z,l3]at e;cases e)];exact e
   have s23:=s2.trans s3;refine⟨_,_,ts++us,rfl,λ b o e=>by rw[Af (Ah e nl)];exact s23 _ _ (s1 _ _ e),by rw[upd_same,Ai,Ai,Ai,ah],λ t ht=>?_,?_,?_⟩
   .rcases aw.mp ht with ht|ht
    .exact((wr1 t ht).tups λ x xs e=>s23 _ _ e).tups kp4
    .exact(wu3 t ht).tups kp4
   .rw[ah,eq1,eu,bU,hu',ah];show _=whs 0 (_++[u.2.2.2.2]);rw[Ej,ae,bF,cH];have:min i tn.length=i:=Nat.min_eq_left (ba (av.mp hu').1);rw[this]
   .rw[ak];lia
 .rintro σ H1 ⟨w2,w3,ts,rfl,s1,l1,wr1,eq1,NB⟩;rw[Ax,bE]at eq1;exact⟨_,rfl,q l ts H1 s1 nl l1 wr1 eq1⟩
theorem CS(ls lt:Addr){m:Str}(h1:¬m="taken")(h2:¬m="stock"):(bnF ls lt).lookup m=none:=by
 unfold bnF;rw[AQ,if_neg h1,AQ,if_neg h2];rfl
def A5(L:LR):LK:=L.filterMap λ x=>match x.2.2 with
 |some _=>none
 |none=>some (x.1,x.2.1)
def P5(tn:List Tk1):Prop:=tn.length<=100/\(∀t∈tn,t.2.2.2.2.length<=250)/\(whs 0 (tn.map λ t=>t.2.2.2.2)).length<=900/\(A5 (whs 0 (tn.map λ t=>t.2.2.2.2))).length<=63
def AF(L:LR):List Rk:=L.filterMap λ x=>match x.2.2 with
 |some _=>some x.2.1
 |none=>none
abbrev Pr1:=Addr×Rk
inductive EJ(C:Addr)(vs:LUz)(H:Hp)(Q:VK)(E:XK):Prop
 |mk (a dx ls lt:Addr) (ss:LZ) (tn:List Tk1) (h0:vs=[.ref a]) (h1:BnAt C a dx ls lt H ss tn) (h2:P5 tn) (h3:∀l ts H',Same H H'->H l=none->H' l=some (.lst (Ai ts))->(∀t∈ts,H' t.1=some (.tup t.2.vs))->ts.map (λ t:Pr1=>t.2)=AF (whs 0 (tn.map λ t=>t.2.2.2.2))->Q (.ref l) H'):EJ C vs H Q E
def Fn(C:Addr) :Sp:=λ vs H Q E=>EJ C vs H Q E
theorem Ec{f:Addr}{fd:FuncData}{C:Addr}(F:Fun K "panes_cut" "Bench.panes_cut" B0 f fd)(BC:JI K C)(M_Bench_whole_pieces:KW P w K mg base 1 C "whole_pieces" ["self"] (DK C)):A3 P w K mg base CX0 2 f fd ["self"] (Fn C):=by
 have S:Aj ["self"] ["self"] (Ad B0):=fsk;refine F.g S ?_;rintro vs H Q E ⟨a,dx,ls,lt,ss,tn,rfl,bn,⟨few,fk,fw,_⟩,q⟩;refine⟨rfl,λ cdv A outer s hr=>?_⟩;refine⟨_,(Ag (As (E8 rfl (BP (DZ M_Bench_whole_pieces hr (pv 0))) (λ_ _ _ _ _=>(Cp (K:=K) (n:=3) rfl (Am (Al (i:=0) (nk ["number","piece","mark"]) rfl (aF rfl)) (Am (Al (i:=1) (nk ["number","piece","mark"]) rfl (aF rfl)) (Am (Al (i:=2) (nk ["number","piece","mark"]) rfl (aF rfl)) AM))))) (λ_ _ _ _ _=>(Aq EA (pv 2) AL (Av _))) (λ_ _ _ _ _=>(pv 1)) (N:=["number","piece","mark"]) (fr:=[none,none,none])))),?_⟩;refine⟨_,rfl,a,dx,_,rfl,bn.ob,CS _ _ (by decide +kernel) (by decide +kernel),a,dx,ls,lt,ss,tn,rfl,bn,few,fk,λ l ts H1 s1 nl hl wr eq=>?_⟩;have tl:=congrArg List.length eq;rw[ae]at tl;refine⟨l,rfl,⟨_,SqL.of hl⟩,λ acc hacc=>CP (K:=K) (a:=l) (ys:=Ai ts) (λ i zs σ H'=>(∃x y z,σ=[x,y,z])/\Same H1 H'/\∃us:List Pr1,zs=Ai us/\(∀t∈us,H' t.1=some (.tup t.2.vs))/\us.map (λ t:Pr1=>t.2)=AF ((ts.map λ t:Wr=>t.2.2).take i)) ⟨⟨none,none,none,rfl⟩,Same.new hacc,[],rfl,(λ t ht=>nomatch ht),rfl⟩ (λ i zs σ H' _ _ hp=>SqL.of (hp.2.1 _ _ hl)) ?_ ?_⟩
 .rintro i x zs σ H' hx hi hl' hacc' ⟨⟨x0,y0,z0,rfl⟩,hs,us,rfl,wu,eu⟩;obtain⟨t,ht,rfl⟩:=AY hx;obtain⟨w1,w2⟩:=(wr t (ai ht)).tups λ x xs e=>hs _ _ e;obtain⟨ta,tb,tn',tp,tm⟩:=t;have tk1:(ts.map λ t:Wr=>t.2.2).take (i+1)=(ts.map λ t:Wr=>t.2.2).take i++[(tn',tp,tm)]:=by rw[bU,aE,ht];rfl
  refine⟨ta,_,rfl,SqT.of w1,rfl,_,_,rfl,_,_,rfl,_,_,rfl,rfl,?_⟩;cases tm with
  |some m =>
   refine⟨_,rfl,rfl,true,congrArg V.bl (by rw[decide_eq_false (by intro z;cases z)];rfl),?_⟩;refine⟨_,rfl,fNx.mk (ba (At (by rw[Ax];lia))) hi hl' hacc' ⟨⟨_,_,_,rfl⟩,λ d o e=>by rw[Af (Ah e hacc)];exact hs d o e,us++[(tb,tp)],by rw[Ai,Ai,ah];rfl,λ u hu=>?_,?_⟩⟩
   .have kp:∀x xs,H' x=some (.tup xs)->(upd H' acc (.lst (Ai us++[.ref tb]))) x=some (.tup xs):=λ x xs e=>by rw[Af (λ z=>by rw[z,hacc']at e;cases e)];exact e
    rcases aw.mp hu with hu|hu
    .exact kp _ _ (wu u hu)
    .rw[aa.mp hu];exact kp _ _ w2
   .rw[ah,eu,tk1];unfold AF;rw[bg];rfl
  |none =>
   refine⟨_,rfl,rfl,false,congrArg V.bl (by show(!decide (V.non=V.non))=false;rw[decide_eq_true rfl];rfl),?_⟩;refine fSk.mk hi hl' hacc' ⟨⟨_,_,_,rfl⟩,hs,us,rfl,wu,?_⟩;rw[eu,tk1];unfold AF;rw[bg];exact(aI _).symm
 .rintro zs σ H' hl' hacc' ⟨_,hs,us,rfl,wu,eu⟩;rw[Ax,<-ae (f:=λ t:Wr=>t.2.2),bE,eq]at eu;exact q acc us H' (s1.trans hs) (By s1 hacc) hacc' wu eu
abbrev Of1:=Addr×Addr×Int×Rk
def toR(t:Of1):Rwt:=(t.1,[t.2.2.1],t.2.1,[t.2.2.2.t,t.2.2.2.l,t.2.2.2.b,t.2.2.2.r])
def FE:List Int->Int
 |[n,t,l,b,r]=>(((n*13+t)*13+l)*13+b)*13+r
 |_=>0
def FD(y:Int×Rk):Int:=FE [y.1,y.2.t,y.2.l,y.2.b,y.2.r]
theorem Qo{n t l b r n' t' l' b' r':Int}(h:0<=t/\t<=12/\0<=l/\l<=12/\0<=b/\b<=12/\0<=r/\r<=12)(h':0<=t'/\t'<=12/\0<=l'/\l'<=12/\0<=b'/\b'<=12/\0<=r'/\r'<=12):HT.lexLt [n,t,l,b,r] [n',t',l',b',r']=decide (FE [n,t,l,b,r]<FE [n',t',l',b',r']):=by
 simp only[HT.lexLt_cons,HT.lexLt_nil_nil,FE];by_cases e1:n=n'
 .rw[if_pos e1];by_cases e2:t=t'
  .rw[if_pos e2];by_cases e3:l=l'
   .rw[if_pos e3];by_cases e4:b=b'
    .rw[if_pos e4];by_cases e5:r=r'
     .rw[if_pos e5];exact(decide_eq_false (by lia)).symm
     .rw[if_neg e5];exact decide_eq_decide.mpr (by lia)
    .rw[if_neg e4];exact decide_eq_decide.mpr (by lia)
   .rw[if_neg e3];exact decide_eq_decide.mpr (by lia)
  .rw[if_neg e2];exact decide_eq_decide.mpr (by lia)
 .rw[if_neg e1];exact decide_eq_decide.mpr (by lia)
theorem Dn{p:Rk}(h:A6 p):0<=p.t/\p.t<=12/\0<=p.l/\p.l<=12/\0<=p.b/\p.b<=12/\0<=p.r/\p.r<=12:=by
 obtain⟨a,b,c,d,e,f⟩:=h;lia
def OfAt(H:Hp)(t:Of1):Prop:=H t.1=some (.tup [.int t.2.2.1,.ref t.2.1])/\H t.2.1=some (.tup t.2.2.2.vs)
theorem OfAt.tups{H H':Hp}(s:∀a xs,H a=some (.tup xs)->H' a=some (.tup xs)){t:Of1}(h:OfAt H t):OfAt H' t:=⟨s _ _ h.1,s _ _ h.2⟩
inductive Fy(C:Addr)(vs:LUz)(H:Hp)(Q:VK)(E:XK):Prop
 |mk (a dx ls lt:Addr) (ss:LZ) (tn:List Tk1) (h0:vs=[.ref a]) (h1:BnAt C a dx ls lt H ss tn) (h2:P5 tn) (h3:(∀y∈A5 (whs 0 (tn.map λ t=>t.2.2.2.2)),A6 y.2)) (h4:∀l ts H',Same H H'->H l=none->H' l=some (.lst (Ai ts))->(∀t∈ts,OfAt H' t)->(ts.map (λ t:Of1=>t.2.2)).Perm (A5 (whs 0 (tn.map λ t=>t.2.2.2.2)))->(ts.map λ t:Of1=>FD t.2.2).Pairwise (·<=·)->Q (.ref l) H'):Fy C vs H Q E
def DL(C:Addr) :Sp:=λ vs H Q E=>Fy C vs H Q E
theorem EY{f:Addr}{fd:FuncData}{C:Addr}(F:Fun K "offcuts" "Bench.offcuts" BH f fd)(T:Txt mg tk)(BC:JI K C)(M_Bench_whole_pieces:KW P w K mg base 1 C "whole_pieces" ["self"] (DK C)):A3 P w K mg base CX0 2 f fd ["self"] (DL C):=by
 have S:Aj ["self"] ["self"] (Ad BH):=fsk;refine F.g S ?_;rintro vs H Q E ⟨a,dx,ls,lt,ss,tn,rfl,bn,⟨few,fk,fw,f6⟩,pok,q⟩;refine⟨rfl,λ cdv A outer s hr=>?_⟩;refine⟨_,(Ag (As (Ar (Cz hr) rfl T.z_sorted rfl (Aa (E8 rfl (BP (DZ M_Bench_whole_pieces hr (pv 0))) (λ_ _ _ _ _=>(Cp (K:=K) (n:=3) rfl (Am (Al (i:=0) (nk ["number","piece","mark"]) rfl (aF rfl)) (Am (Al (i:=1) (nk ["number","piece","mark"]) rfl (aF rfl)) (Am (Al (i:=2) (nk ["number","piece","mark"]) rfl (aF rfl)) AM))))) (λ_ _ _ _ _=>(Aq Ea (pv 2) AL (Av _))) (λ_ _ _ _ _=>(An (Aa (pv 0) (Aa (pv 1) Ab)))) (N:=["number","piece","mark"]) (fr:=[none,none,none])) Ab)))),?_⟩;refine⟨_,rfl,a,dx,_,rfl,bn.ob,CS _ _ (by decide +kernel) (by decide +kernel),a,dx,ls,lt,ss,tn,rfl,bn,few,fk,λ l ts H1 s1 nl hl wr eq=>?_⟩;have tl:=congrArg List.length eq;rw[ae]at tl;refine⟨l,rfl,⟨_,SqL.of hl⟩,λ acc hacc=>CP (K:=K) (a:=l) (ys:=Ai ts) (λ i zs σ H'=>(∃x y z,σ=[x,y,z])/\Same H1 H'/\∃us:List Of1,zs=Ai us/\(∀t∈us,OfAt H' t)/\us.map (λ t:Of1=>t.2.2)=A5 ((ts.map λ t:Wr=>t.2.2).take i)) ⟨⟨none,none,none,rfl⟩,Same.new hacc,[],rfl,(λ t ht=>nomatch ht),rfl⟩ (λ i zs σ H' _ _ hp=>SqL.of (hp.2.1 _ _ hl)) ?_ ?_⟩
 .rintro i x zs σ H' hx hi hl' hacc' ⟨⟨x0,y0,z0,rfl⟩,hs,us,rfl,wu,eu⟩;obtain⟨t,ht,rfl⟩:=AY hx;obtain⟨w1,w2⟩:=(wr t (ai ht)).tups λ x xs e=>hs _ _ e;obtain⟨ta,tb,tn',tp,tm⟩:=t;have tk1:(ts.map λ t:Wr=>t.2.2).take (i+1)=(ts.map λ t:Wr=>t.2.2).take i++[(tn',tp,tm)]:=by rw[bU,aE,ht];rfl
  refine⟨ta,_,rfl,SqT.of w1,rfl,_,_,rfl,_,_,rfl,_,_,rfl,rfl,?_⟩;cases tm with
  |none =>
   refine⟨_,rfl,rfl,true,congrArg V.bl (decide_eq_true rfl),?_⟩;refine⟨_,rfl,_,rfl,Ao 2,λ r1 nr1=>?_⟩;obtain⟨H4,g,s4,f4⟩:=nw (.tup [.int tn',.ref tb]) nr1;rw[g];have a4:=s4 _ _ hacc';refine fNx.mk (ba (At (by rw[Ax];lia))) hi hl' a4 ⟨⟨_,_,_,rfl⟩,λ d o e=>by rw[Af (Ah e hacc)];exact s4 _ _ (hs d o e),us++[(r1,tb,tn',tp)],by rw[Ai,Ai,ah];rfl,λ u hu=>?_,?_⟩
   .have kp:∀x xs,H4 x=some (.tup xs)->(upd H4 acc (.lst (Ai us++[.ref r1]))) x=some (.tup xs):=λ x xs e=>by rw[Af (λ z=>by rw[z,a4]at e;cases e)];exact e
    rcases aw.mp hu with hu|hu
    .exact((wu u hu).tups λ x xs e=>s4 _ _ e).tups kp
    .rw[aa.mp hu];exact⟨kp _ _ f4,kp _ _ (s4 _ _ w2)⟩
   .rw[ah,eu,tk1];unfold A5;rw[bg];rfl
  |some m =>
   refine⟨_,rfl,rfl,false,congrArg V.bl (decide_eq_false (by intro z;cases z)),?_⟩;refine fSk.mk hi hl' hacc' ⟨⟨_,_,_,rfl⟩,hs,us,rfl,wu,?_⟩;rw[eu,tk1];unfold A5;rw[bg];exact(aI _).symm
 .rintro zs σ H' hl' hacc' ⟨_,hs,us,rfl,wu,eu⟩;rw[Ax,<-ae (f:=λ t:Wr=>t.2.2),bE,eq]at eu;have rr:Ai us=(us.map toR).map λ t=>V.ref t.1:=by rw[aY];rfl
  have pk:∀u∈us,A6 u.2.2.2:=λ u hu=>pok u.2.2 (by rw[<-eu];exact ay.mpr ⟨u,hu,rfl⟩);refine⟨acc,us.map toR,0,3,FE,rfl,by rw[<-rr];exact SqL.of hacc',by rw[ae,<-ae (f:=λ t:Of1=>t.2.2),eu];lia,λ t ht=>?_,λ t ht u hu=>?_,λ l2 ts2 nl2 pm2 srt=>?_⟩
  .obtain⟨x,hx,rfl⟩:=ay.mp ht;exact⟨(wu x hx).1,(wu x hx).2,rfl,rfl⟩
  .obtain⟨x,hx,rfl⟩:=ay.mp ht;obtain⟨y,hy,rfl⟩:=ay.mp hu;exact Qo (Dn (pk x hx)) (Dn (pk y hy))
  .obtain⟨us2,pu,rfl⟩:=E5 (f:=toR) (l:=ts2) (m:=us.map toR) pm2 us rfl;have r2:((us2.map toR).map λ t=>V.ref t.1)=Ai us2:=by rw[aY];rfl
   rw[r2];have s5:Same H' (upd H' l2 (.lst (Ai us2))):=Same.new nl2;refine q l2 us2 _ (s1.trans (hs.trans s5)) (By (s1.trans hs) nl2) upd_same (λ t ht=>(wu t (pu.mem_iff.mp ht)).tups λ x xs e=>s5 _ _ e) (by rw[<-eu];exact pu.map _) ?_;rw[aY]at srt;exact srt
theorem Kd{L M:List Int}(h:L.Perm M):L.sum=M.sum:=by
 induction h with
 |nil=>rfl
 |cons x _ ih=>rw[bR,bR,ih]
 |swap x y l=>rw[bR,bR,bR,bR];lia
 |trans _ _ a b=>exact a.trans b
def CZ(L:List Rk):Int:=(L.map arR).sum
def hld(t:Bl)(p:Rk):Prop:=AA t (p.len true) (p.len false)≠[]
abbrev shR(z:Int×Int):Rk:=⟨0,0,z.2,z.1⟩
def LQ:List Int->Int
 |[ar,n,t,l,b,r]=>((((ar*1000+n)*13+t)*13+l)*13+b)*13+r
 |_=>0
def DE(y:Int×Rk):Int:=LQ [arR y.2,y.1,y.2.t,y.2.l,y.2.b,y.2.r]
theorem TK{ar ar' n t l b r n' t' l' b' r':Int}(hn:0<=n/\n<=999)(hn':0<=n'/\n'<=999)(h:0<=t/\t<=12/\0<=l/\l<=12/\0<=b/\b<=12/\0<=r/\r<=12)(h':0<=t'/\t'<=12/\0<=l'/\l'<=12/\0<=b'/\b'<=12/\0<=r'/\r'<=12):HT.lexLt [ar,n,t,l,b,r] [ar',n',t',l',b',r']=decide (LQ [ar,n,t,l,b,r]<LQ [ar',n',t',l',b',r']):=by
 rw[HT.lexLt_cons];have e5:=Qo (n:=n) (n':=n') h h';by_cases e:ar=ar'
 .rw[if_pos e,e5];apply decide_eq_decide.mpr;simp only[FE,LQ];lia
 .rw[if_neg e];apply decide_eq_decide.mpr;simp only[LQ];lia
def BL:List Int->Int
 |[ar,k]=>ar*10+k
 |_=>0
theorem TL{ar ar' k k':Int}(h:0<=k/\k<=9)(h':0<=k'/\k'<=9):HT.lexLt [ar,k] [ar',k']=decide (BL [ar,k]<BL [ar',k']):=by
 rw[HT.lexLt_cons,HT.lexLt_cons,HT.lexLt_nil_nil];by_cases e:ar=ar'
 .rw[if_pos e];by_cases e2:k=k'
  .rw[if_pos e2];exact(decide_eq_false (by simp only[BL];lia)).symm
  .rw[if_neg e2];apply decide_eq_decide.mpr;simp only[BL];lia
 .rw[if_neg e];apply decide_eq_decide.mpr;simp only[BL];lia
abbrev Gd:=Addr×Addr×Int×Rk
def GdAt(H:Hp)(t:Gd):Prop:=H t.1=some (.tup [.int (arR t.2.2.2),.int t.2.2.1,.ref t.2.1])/\H t.2.1=some (.tup t.2.2.2.vs)
theorem GdAt.tups{H H':Hp}(s:∀a xs,H a=some (.tup xs)->H' a=some (.tup xs)){t:Gd}(h:GdAt H t):GdAt H' t:=⟨s _ _ h.1,s _ _ h.2⟩
def glF(t:Bl):LFz:=[(("width":Str),V.int t.1),(("height":Str),V.int t.2.1)]
def toG(t:Gd):Rwt:=(t.1,[arR t.2.2.2,t.2.2.1],t.2.1,[t.2.2.2.t,t.2.2.2.l,t.2.2.2.b,t.2.2.2.r])
noncomputable instance hldD (t:Bl) (p:Rk):Decidable (hld t p):=inferInstanceAs (Decidable (AA t (p.len true) (p.len false)≠[]))
inductive EI(C cG:Addr)(vs:LUz)(H:Hp)(Q:VK)(E:XK):Prop
 |mk (a dx ls lt c:Addr) (ss:LZ) (tn:List Tk1) (t:Bl) (h0:vs=[.ref a,.ref c]) (h1:BnAt C a dx ls lt H ss tn) (h2:P5 tn) (h3:ss.length<=4) (h4:(∀t∈ss,SOk t.2)) (h5:H c=some (.tup [.int t.1,.int t.2.1,.bl t.2.2])) (h6:(∀y∈A5 (whs 0 (tn.map λ t=>t.2.2.2.2)),A6 y.2/\0<=y.1/\y.1<=999)) (h7:(∀y∈A5 (whs 0 (tn.map λ t=>t.2.2.2.2)),hld t y.2->(∀y'∈A5 (whs 0 (tn.map λ t=>t.2.2.2.2)),hld t y'.2->DE y<=DE y')->∀r b H',Same H H'->H' r=some (.tup [.int y.1,.ref b])->H' b=some (.tup y.2.vs)->Q (.ref r) H')) (h8:((∀y∈A5 (whs 0 (tn.map λ t=>t.2.2.2.2)),¬hld t y.2)->∀(k:Nat)(u:Addr×Int×Int),ss[k]?=some u->hld t (shR u.2)->(∀(k':Nat)(u':Addr×Int×Int),ss[k']?=some u'->hld t (shR u'.2)->BL [arR (shR u.2),k]<=BL [arR (shR u'.2),k']) ->
  ∀r tA dA eA H',H dA=none->SameX lt H H'->BnAt C a dx ls lt H' ss (tn++[(tA,(k:Int),dA,[(rkK (shR u.2),.ref eA)],[(shR u.2,.w none)])])->H' r=some (.tup [.int tn.length,.ref u.1])->Q (.ref r) H')) (h9:((∀y∈A5 (whs 0 (tn.map λ t=>t.2.2.2.2)),¬hld t y.2)->(∀u∈ss,¬hld t (shR u.2))->Rf H E cG λ fs _=>fs=glF t)):EI C cG vs H Q E
def Fm(C cG:Addr) :Sp:=λ vs H Q E=>EI C cG vs H Q E
abbrev Uf:LSz:=["self","want","good","new","number"]
theorem Eb{f:Addr}{fd:FuncData}{C cG:Addr}(F:Fun K "piece_for" "Bench.piece_for" Bz f fd)(T:Txt mg tk)(BC:JI K C)(X_NoGlass:Hd P w K mg base 1 "NoGlass" cG ["self","width","height"] ["width","height"])(D_area_of:AC P w K mg base 1 "area_of" ["rectangle"] JZ)(D_holds:AC P w K mg base 3 "holds" ["piece","want"] JY)(M_Bench_offcuts:KW P w K mg base 2 C "offcuts" ["self"] (DL C)):A3 P w K mg base (CX1 P w) 4 f fd ["self","want"] (Fm C cG):=by
 have S:Aj Uf ["self","want"] (Ad Bz):=fsk;refine F.gx S ?_;rintro vs H Q E ⟨a,dx,ls,lt,c,ss,tn,t,rfl,bn,bok,s4,so,hc,ok1,qA,qB,qC⟩;refine⟨rfl,λ cdv A outer s hr=>?_⟩;have hu:=Fu hr;refine⟨_,(Ae (Fp rfl (Al (i:=2) S.nd rfl (aF rfl)) (BP (DZ M_Bench_offcuts hr (pv 0))) (λ_ _ _ _ _=>(Cp (K:=K) (n:=2) rfl (Am (Al (i:=0) (nk ["number","piece","want"]) rfl (aF rfl)) (Am (Al (i:=1) (nk ["number","piece","want"]) rfl (aF rfl)) AM)))) (λ_ _ _ _ _=>(DX (A2 D_holds hr (Aa (pv 1) (Aa (pv 2) Ab))))) (λ_ _ _ _ _=>(An (Aa (A2 D_area_of hr (Aa (pv 1) Ab)) (Aa (pv 0) (Aa (pv 1) Ab))))) (N:=["number","piece","want"]) (fr:=[none,none,some 1]))
  (Ae (AB (Dk (pv 2) (λ_=>rfl)) (Ag (As (E6 Rs (Ar (NX hr) rfl T.z_min rfl (Aa (pv 2) Ab)) (E4 Ac) Jc))) Ay)
  (Ae (Fp rfl (Al (i:=3) S.nd rfl (aF rfl)) (Je rfl T.z_enumerate (Aa (CL (pv 0) rfl) Ab)) (λ_ _ _ _ _=>(Cp (K:=K) (n:=2) rfl (Am (Al (i:=0) (nk ["number","piece","want"]) rfl (aF rfl)) (Am (Al (i:=1) (nk ["number","piece","want"]) rfl (aF rfl)) AM)))) (λ_ _ _ _ _=>(DX (A2 D_holds hr (Aa (pv 1) (Aa (pv 2) Ab))))) (λ_ _ _ _ _=>(An (Aa (A2 D_area_of hr (Aa (pv 1) Ab)) (Aa (pv 0) Ab)))) (N:=["number","piece","want"]) (fr:=[none,none,some 1]))
  (Ae (AB (DY (Dk (pv 3) (λ_=>rfl))) (Ag (Dl Co X_NoGlass hr (Aa (Ak ix_tup (pv 1) Ac (λ_ _=>rfl)) (Aa (Ak ix_tup (pv 1) Ac (λ_ _=>rfl)) Ab)))) Ay)
  (Ae (Au (i:=4) S.nd rfl (aF rfl) (Ak ix_tup (Ar (NY hr) rfl T.z_min rfl (Aa (pv 3) Ab)) Ac (λ_ _=>rfl)))
  (Ae (AU (BJ (CL (pv 0) rfl) (Aa (An (Aa (pv 4) (Aa (OB hu (Ak ix_list (CL (pv 0) rfl) (pv 4) (λ_ _=>rfl)) (An (Aa (Az (v:=.str "whole") rfl T.g_WHOLE ⟨_,rfl⟩) (Aa AL Ab)))) Ab))) Ab)))
  (Ag (As (An (Aa (Aw B1 (Ar A1 rfl T.z_len rfl (Aa (CL (pv 0) rfl) Ab)) Ac) (Aa (Ak ix_list (CL (pv 0) rfl) (pv 4) (λ_ _=>rfl)) Ab))))))))))),?_⟩
 generalize hof:A5 (whs 0 (tn.map λ t=>t.2.2.2.2))=off at ok1 qA qB qC;refine⟨_,rfl,a,dx,_,rfl,bn.ob,CS _ _ (by decide +kernel) (by decide +kernel),a,dx,ls,lt,ss,tn,rfl,bn,bok,(λ y hy=>by rw[hof]at hy;exact(ok1 y hy).1),λ l ts H1 s1 nl hl wf pm srt=>?_⟩;rw[hof]at pm;have bw:=bok.2.2.1;have ol:off.length<=(whs 0 (tn.map λ t=>t.2.2.2.2)).length:=by rw[<-hof];exact eJ _ _
 have tl:=pm.length_eq;rw[ae]at tl;refine⟨l,rfl,⟨_,SqL.of hl⟩,λ acc hacc=>CP (K:=K) (a:=l) (ys:=Ai ts) (λ i zs σ H'=>(∃x y,σ=[x,y,some (.ref c)])/\Same H1 H'/\∃us:List Gd,zs=Ai us/\(∀t∈us,GdAt H' t)/\us.map (λ t:Gd=>t.2.2)=((ts.map λ t:Of1=>t.2.2).take i).filter λ y=>decide (hld t y.2)) ⟨⟨none,none,rfl⟩,Same.new hacc,[],rfl,(λ t ht=>nomatch ht),rfl⟩ (λ i zs σ H' _ _ hp=>SqL.of (hp.2.1 _ _ hl)) ?_ ?_⟩
 .rintro i x zs σ H' hx hi hl' hacc' ⟨⟨x0,y0,rfl⟩,hs,us,rfl,wu,eu⟩;obtain⟨o,ho,rfl⟩:=AY hx;have om:=ai ho;obtain⟨o1,o2⟩:=(wf o om).tups λ x xs e=>hs _ _ e;have tk1:(ts.map λ t:Of1=>t.2.2).take (i+1)=(ts.map λ t:Of1=>t.2.2).take i++[o.2.2]:=by rw[bU,aE,ho];rfl
  have pk:=(ok1 o.2.2 (pm.mem_iff.mp (ay.mpr ⟨o,om,rfl⟩))).1;refine⟨o.1,_,rfl,SqT.of o1,rfl,_,_,rfl,_,_,rfl,rfl,?_⟩;refine⟨_,rfl,_,rfl,o.2.1,c,o.2.2.2,t,rfl,o2,(s1.trans hs) _ _ hc,λ H2 s2=>⟨_,rfl,?_⟩⟩;have hdec:decide (AA t (o.2.2.2.len true) (o.2.2.2.len false)≠[])=decide (hld t o.2.2.2):=rfl;rw[hdec];have hacc2:=s2 _ _ hacc';cases hd:decide (hld t o.2.2.2) with
  |true =>
   refine⟨_,rfl,o.2.1,o.2.2.2,rfl,s2 _ _ o2,pk,_,rfl,_,rfl,Ao 3,λ r1 nr1=>?_⟩;obtain⟨H4,g,s4,f4⟩:=nw (.tup [.int (arR o.2.2.2),.int o.2.2.1,.ref o.2.1]) nr1;rw[g];have s24:=s2.trans s4;have a4:=s4 _ _ hacc2;refine fNx.mk (ba (At (by rw[Ax];lia))) hi hl' a4 ⟨⟨_,_,rfl⟩,λ d o e=>by rw[Af (Ah e hacc)];exact s24 _ _ (hs d o e),us++[(r1,o.2.1,o.2.2)],by rw[Ai,Ai,ah];rfl,λ u hu=>?_,?_⟩
   .have kp:∀x xs,H4 x=some (.tup xs)->(upd H4 acc (.lst (Ai us++[.ref r1]))) x=some (.tup xs):=λ x xs e=>by rw[Af (λ z=>by rw[z,a4]at e;cases e)];exact e
    rcases aw.mp hu with hu|hu
    .exact((wu u hu).tups λ x xs e=>s24 _ _ e).tups kp
    .rw[aa.mp hu];exact⟨kp _ _ f4,kp _ _ (s24 _ _ o2)⟩
   .rw[ah,eu,tk1,cx,be,if_pos hd];rfl
  |false =>
   refine fSk.mk hi hl' hacc2 ⟨⟨_,_,rfl⟩,hs.trans s2,us,rfl,λ u hu=>(wu u hu).tups λ x xs e=>s2 _ _ e,?_⟩;rw[eu,tk1,cx,be,if_neg (by rw[hd];exact au)];exact(aI _).symm
 .rintro zs σ H2 hl' hacc' ⟨_,hs,us,rfl,wu,eu⟩;rw[Ax,<-ae (f:=λ t:Of1=>t.2.2),bE]at eu;have s2:=s1.trans hs;have um:∀y,y∈us.map (λ t:Gd=>t.2.2)↔y∈off/\hld t y.2:=λ y=>by
   rw[eu,cO,pm.mem_iff,decide_eq_true_iff]
  refine⟨_,rfl,_,.inl ⟨_,SqL.of hacc',rfl⟩,?_⟩;cases us with
  |cons u0 ur =>
   refine C9 rfl ?_;have gm:∀t∈u0::ur,A6 t.2.2.2/\0<=t.2.2.1/\t.2.2.1<=999:=λ g hg=>ok1 g.2.2 ((um g.2.2).mp (ay.mpr ⟨g,hg,rfl⟩)).1;have rr:Ai (u0::ur)=((u0::ur).map toG).map λ t=>V.ref t.1:=by rw[aY];rfl
   refine⟨_,rfl,acc,(u0::ur).map toG,1,3,LQ,rfl,by rw[<-rr];exact SqL.of hacc',rfl,(by intro z;cases z),λ g hg=>?_,λ g hg g' hg'=>?_,λ g hg least=>?_⟩
   .obtain⟨x,hx,rfl⟩:=ay.mp hg;exact⟨(wu x hx).1,(wu x hx).2,rfl,rfl⟩
   .obtain⟨x,hx,rfl⟩:=ay.mp hg;obtain⟨y,hy,rfl⟩:=ay.mp hg';exact TK (gm x hx).2 (gm y hy).2 (Dn (gm x hx).1) (Dn (gm y hy).1)
   .obtain⟨x,hx,rfl⟩:=ay.mp hg;have xm:=(um x.2.2).mp (ay.mpr ⟨x,hx,rfl⟩);refine⟨1,rfl,x.1,_,rfl,SqT.of (wu x hx).1,(λ z=>by have z1:HT.sIx 3 0 (some 1)=0:=z.1;exact absurd z1 (by decide)),λ r nr=>?_⟩;have s5:Same H2 (upd H2 r (.tup [.int x.2.2.1,.ref x.2.1])):=Same.new nr;refine qA x.2.2 xm.1 xm.2 (λ y' hy' hh'=>?_) r x.2.1 _ (s2.trans s5) upd_same (s5 _ _ (wu x hx).2);obtain⟨g,hg',e⟩:=ay.mp ((um y').mpr ⟨hy',hh'⟩);have:=least (toG g) (ay.mpr ⟨g,hg',rfl⟩);rw[<-e];exact this
  |nil =>
   refine B4 rfl ?_;have no:∀y∈off,¬hld t y.2:=λ y hy z=>by
    have:=(um y).mpr ⟨hy,z⟩;simp at this
   have bn2:=bn.same s2;refine⟨_,rfl,a,C,dx,_,_,rfl,bn2.ob,BC.cl,BC.n_stock,Nd _ _,ls,rfl,⟨_,SqL.of bn2.lst⟩,λ acc2 hacc2=>Mj (K:=K) (a:=ls) (ys:=Ai ss) (λ i zs σ H'=>(∃x y,σ=[x,y,some (.ref c)])/\Same H2 H'/\∃us:List (Addr×List Int),zs=Ai us/\(∀t∈us,H' t.1=some (.tup (t.2.map V.int)))/\∀ns,ns∈us.map (λ t:Addr×List Int=>t.2)↔∃(k:Nat)(u:Addr×Int×Int),k<i/\ss[k]?=some u/\hld t (shR u.2)/\ns=[arR (shR u.2),(k:Int)]) ⟨⟨none,none,rfl⟩,Same.new hacc2,[],rfl,(λ t ht=>nomatch ht),λ ns=>⟨(λ z=>by simp at z),(λ⟨k,u,z,_⟩=>absurd z (dz _))⟩⟩ (λ i zs σ H' _ _ hp=>SqL.of (hp.2.1 _ _ bn2.lst)) ?_ ?_⟩
   .rintro i x t1 zs σ H' hx hi hl2 hacc2' ⟨⟨x0,y0,rfl⟩,hs2,us2,rfl,wu2,iu2⟩ nt1;obtain⟨u,hu',rfl⟩:=AY hx;have um2:=ai hu';obtain⟨H3,g,s3,f3⟩:=nw (.tup [.int i,.ref u.1]) nt1;rw[g];have st3:=(hs2.trans s3) _ _ (bn2.stk u um2);obtain⟨w1,w2,h1,h2⟩:=so u um2;have pk:A6 (shR u.2):=⟨bb _,show(0:Int)<u.2.2 by lia,h2,bb _,show(0:Int)<u.2.1 by lia,w2⟩;refine⟨t1,_,rfl,SqT.of f3,rfl,_,_,rfl,_,_,rfl,rfl,?_⟩;refine⟨_,rfl,_,rfl,u.1,c,shR u.2,t,rfl,st3,(s2.trans (hs2.trans s3)) _ _ hc,λ H4 s4=>⟨_,rfl,?_⟩⟩;have hdec:decide (AA t ((shR u.2).len true) ((shR u.2).len false)≠[])=decide (hld t (shR u.2)):=rfl;rw[hdec];have s34:=s3.trans s4;have hacc4:=s34 _ _ hacc2';cases hd:decide (hld t (shR u.2)) with
    |true =>
     refine⟨_,rfl,u.1,shR u.2,rfl,s4 _ _ st3,pk,_,rfl,Ao 2,λ r1 nr1=>?_⟩;obtain⟨H5,g,s5,f5⟩:=nw (.tup [.int (arR (shR u.2)),.int i]) nr1;rw[g];have f5:H5 r1=some (.tup ([arR (shR u.2),(i:Int)].map V.int)):=f5;have s35:=s34.trans s5;have a5:=s5 _ _ hacc4;refine fNx.mk (ba (At (by rw[Ax];lia))) hi hl2 a5 ⟨⟨_,_,rfl⟩,λ d o e=>by rw[Af (Ah e hacc2)];exact s35 _ _ (hs2 d o e),us2++[(r1,[arR (shR u.2),(i:Int)])],by rw[Ai,Ai,ah];rfl,λ v hv=>?_,λ ns=>?_⟩
     .have kp:∀x xs,H5 x=some (.tup xs)->(upd H5 acc2 (.lst (Ai us2++[.ref r1]))) x=some (.tup xs):=λ x xs e=>by rw[Af (λ z=>by rw[z,a5]at e;cases e)];exact e
      rcases aw.mp hv with hv|hv
      .exact kp _ _ (s35 _ _ (wu2 v hv))
      .rw[aa.mp hv];exact kp _ _ f5
     .rw[ah,aw,iu2 ns]
      constructor
      .rintro(⟨k,u',k1,k2,k3,k4⟩|hm)
       .exact⟨k,u',by lia,k2,k3,k4⟩
       .exact⟨i,u,by lia,hu',of_decide_eq_true hd,aa.mp hm⟩
      .rintro⟨k,u',k1,k2,k3,k4⟩;rcases bh k i with hk|hk
       .exact .inl ⟨k,u',hk,k2,k3,k4⟩
       .have:k=i:=by lia
        subst this;rw[hu']at k2;cases k2;exact .inr (aa.mpr k4)
    |false =>
     refine fSk.mk hi hl2 hacc4 ⟨⟨_,_,rfl⟩,hs2.trans s34,us2,rfl,λ v hv=>s34 _ _ (wu2 v hv),λ ns=>?_⟩;rw[iu2 ns]
     constructor
     .rintro⟨k,u',k1,k2,k3,k4⟩;exact⟨k,u',by lia,k2,k3,k4⟩
     .rintro⟨k,u',k1,k2,k3,k4⟩;rcases bh k i with hk|hk
      .exact⟨k,u',hk,k2,k3,k4⟩
      .have:k=i:=by lia
       subst this;rw[hu']at k2;cases k2;rw[decide_eq_true k3]at hd;cases hd
   .rintro zs σ H3 hl2 hacc2' ⟨_,hs3,us2,rfl,wu2,iu2⟩;have s03:=s2.trans hs3;have bn3:=bn.same s03;have hc3:=s03 _ _ hc;rw[Ax]at iu2;refine⟨_,rfl,_,.inl ⟨_,SqL.of hacc2',rfl⟩,?_⟩;cases us2 with
    |nil =>
     refine C9 rfl ?_;have none':∀u∈ss,¬hld t (shR u.2):=λ u hu' z=>by
      obtain⟨k,hk⟩:=bY.mp hu';have:=(iu2 _).mpr ⟨k,u,(av.mp hk).1,hk,z,rfl⟩;simp at this
     exact⟨_,rfl,c,_,_,_,rfl,rfl,SqT.of hc3,Nh,_,rfl,c,_,_,_,rfl,rfl,SqT.of hc3,Ng,rfl,λ y dx' T' H4 hy s4' e ed nd hT nT=>(qC no none').raise s03 hy s4' e ed nd hT rfl⟩
    |cons u0 ur =>
     refine B4 rfl ?_;have rr:Ai (u0::ur)=(u0::ur).map λ t=>V.ref t.1:=rfl;have mm:∀g∈u0::ur,∃(k:Nat)(u:Addr×Int×Int),k<ss.length/\ss[k]?=some u/\hld t (shR u.2)/\g.2=[arR (shR u.2),(k:Int)]:=λ g hg=>(iu2 g.2).mp (ay.mpr ⟨g,hg,rfl⟩);refine⟨_,rfl,acc2,u0::ur,BL,rfl,SqL.of hacc2',rfl,(by intro z;cases z),wu2,λ g hg g' hg'=>?_,λ g hg least=>?_⟩
     .obtain⟨k,u,k1,k2,k3,k4⟩:=mm g hg;obtain⟨k',u',k1',k2',k3',k4'⟩:=mm g' hg';rw[k4,k4'];exact TL ⟨by lia,by lia⟩ ⟨by lia,by lia⟩
     .obtain⟨k,u,k1,k2,k3,k4⟩:=mm g hg;have hg3:=wu2 g hg;rw[k4]at hg3;have um3:=ai k2;refine⟨g.1,_,_,_,rfl,rfl,SqT.of hg3,Bm,?_⟩;have least':∀(k':Nat)(u':Addr×Int×Int),ss[k']?=some u'->hld t (shR u'.2)->BL [arR (shR u.2),(k:Int)]<=BL [arR (shR u'.2),(k':Int)]:=λ k' u' e1 e2=>by
       obtain⟨g',hg',e⟩:=ay.mp ((iu2 _).mpr ⟨k',u',(av.mp e1).1,e1,e2,rfl⟩);have:=least g' hg';rw[k4,e]at this;exact this
      have atk:atI (Ai ss) (k:Int)=some (.ref u.1):=Bs (xs:=Ai ss) (j:=k) (v:=.ref u.1) (by unfold Ai;rw[aE,k2];rfl);refine⟨_,rfl,a,C,dx,_,_,rfl,bn3.ob,BC.cl,BC.n_taken,Iq _ _,.inl ⟨rfl,_,SqL.of bn3.tak⟩,_,rfl,λ dA ndA=>?_⟩;obtain⟨H4,g,d1,d1e⟩:=nw (.dT []) ndA;rw[g];have bn4:=bn3.same d1;refine⟨_,rfl,a,C,dx,_,_,rfl,bn4.ob,BC.cl,BC.n_stock,Nd _ _,_,rfl,ls,_,_,_,rfl,rfl,SqL.of bn4.lst,atk,Ao 2,λ eA neA=>?_⟩;obtain⟨H5,g,d2,d2e⟩:=nw (.tup [.str "whole",.non]) neA;rw[g];have d2e:H5 eA=some (.tup (enV (.w none))):=d2e;have bn5:=bn4.same d2;refine⟨d2 _ _ d1e,u.1,rkK (shR u.2),rfl,bn5.stk u um3,?_⟩;have dA5:=d2 _ _ d1e;have d35:Same H3 (upd H5 dA (.dT [(rkK (shR u.2),.ref eA)])):=λ b o e=>by rw[Af (Ah e ndA)];exact(d1.trans d2) _ _ e
      have d3e:(upd H5 dA (.dT [(rkK (shR u.2),.ref eA)])) dA=some (.dT [(rkK (shR u.2),.ref eA)]):=upd_same;have e3e:(upd H5 dA (.dT [(rkK (shR u.2),.ref eA)])) eA=some (.tup (enV (.w none))):=by rw[Af (λ z=>by rw[z,dA5]at d2e;cases d2e)];exact d2e
      generalize upd H5 dA (.dT [(rkK (shR u.2),.ref eA)])=H6 at d35 d3e e3e |-;refine⟨Ao 2,λ tA ntA=>?_⟩;obtain⟨H7,g,d4,d4e⟩:=nw (.tup [.int (k:Int),.ref dA]) ntA;rw[g];have d37:=d35.trans d4;have bn7:=bn3.same d37;have few:=bok.1;refine⟨lt,_,_,rfl,rfl,bn7.tak,bL (cb (Ax _)) (At (by lia)),?_⟩;have x8:SameX lt H7 (upd H7 lt (.lst (Ai tn++[.ref tA]))):=SameX.upd;have x8e:(upd H7 lt (.lst (Ai tn++[.ref tA]))) lt=some (.lst (Ai tn++[.ref tA])):=upd_same;generalize upd H7 lt (.lst (Ai tn++[.ref tA]))=H8 at x8 x8e |-;have nlt:∀{x:Addr}{o:HO},H7 x=some o->(∀xs,o≠.lst xs)->x≠lt:=λ e n z=>by rw[z,bn7.tak]at e;cases e;exact n _ rfl
      have k8:∀{x:Addr}{o:HO},H7 x=some o->(∀xs,o≠.lst xs)->H8 x=some o:=λ e n=>x8 _ _ (nlt e n) e;have lls:ls≠lt:=λ z=>by
       have e1:=bn7.lst;rw[z,bn7.tak]at e1;have e1:Ai tn=Ai ss:=by injection e1 with e1;injection e1
       have e2:(Ai tn)[k]?=some (.ref u.1):=by rw[e1];unfold Ai;rw[aE,k2];rfl
       obtain⟨t',ht',e3⟩:=AY e2;have g1:=(bn7.tks t' (ai ht')).1;have g2:=bn7.stk u um3;have e4:t'.1=u.1:=by injection e3 with e3;exact e3.symm
       rw[e4,g2]at g1;have:=congrArg List.length (HO.tup.inj (Option.some.inj g1));simp at this
      have tn8:Ai tn++[V.ref tA]=Ai (tn++[(tA,(k:Int),dA,[(rkK (shR u.2),V.ref eA)],[(shR u.2,En.w none)])]):=by rw[Ai,Ai,ah];rfl
      have bn8:BnAt C a dx ls lt H8 ss (tn++[(tA,(k:Int),dA,[(rkK (shR u.2),.ref eA)],[(shR u.2,.w none)])]):=by
       refine⟨k8 bn7.ob (by intro xs z;cases z),x8 _ _ lls bn7.lst,λ t' ht'=>k8 (bn7.stk t' ht') (by intro xs z;cases z),by rw[<-tn8];exact x8e,λ t' ht'=>?_,?_⟩
       .rcases aw.mp ht' with ht'|ht'
        .obtain⟨g1,g2,g3⟩:=bn7.tks t' ht';exact⟨k8 g1 (by intro xs z;cases z),k8 g2 (by intro xs z;cases z),g3.tups λ b xs e=>k8 e (by intro xs z;cases z)⟩
        .rw[aa.mp ht'];exact⟨k8 d4e (by intro xs z;cases z),k8 (d4 _ _ d3e) (by intro xs z;cases z),⟨rfl,eA,rfl,k8 (d4 _ _ e3e) (by intro xs z;cases z)⟩,trivial⟩
       .rw[ah,dc];refine⟨bn.dis,by simp,λ x hx y hy=>?_⟩;obtain⟨t',ht',rfl⟩:=ay.mp hx;rw[aa.mp hy];exact λ z=>by have:=(bn3.tks t' ht').2.1;rw[z,ndA]at this;cases this
      have x08:SameX lt H H8:=s03.x.trans (d37.x.trans x8);refine⟨_,rfl,a,C,dx,_,_,rfl,bn8.ob,BC.cl,BC.n_taken,Iq _ _,lt,_,rfl,.inl (SqL.of bn8.tak),_,_,rfl,rfl,?_⟩;refine⟨_,rfl,a,C,dx,_,_,rfl,bn8.ob,BC.cl,BC.n_stock,Nd _ _,_,rfl,ls,_,_,_,rfl,rfl,SqL.of bn8.lst,atk,Ao 2,λ r nr=>?_⟩;have ln:(((Ai (tn++[((tA,(k:Int),dA,[(rkK (shR u.2),V.ref eA)],[(shR u.2,En.w none)]):Tk1)])).length:Nat):Int)-1=(tn.length:Int):=by rw[Ax,ak,aM];lia
      have s9:=Same.new (o:=.tup [(λ i j=>V.int (i-j)) (((Ai (tn++[((tA,(k:Int),dA,[(rkK (shR u.2),V.ref eA)],[(shR u.2,En.w none)]):Tk1)])).length:Nat):Int) 1,.ref u.1]) nr;exact qB no k u k2 k3 least' r tA dA eA _ (By s03 ndA) (x08.trans s9.x) (bn8.same s9) (upd_same.trans (by show some (HO.tup [V.int ((((Ai (tn++[((tA,(k:Int),dA,[(rkK (shR u.2),V.ref eA)],[(shR u.2,En.w none)]):Tk1)])).length:Nat):Int)-1),V.ref u.1])=_;rw[ln]))
def Ci(tn:List Tk1)(i:Nat)(kvs:LKz)(kv:KV):List Tk1:=match tn[i]? with
 |some t=>tn.set i (t.1,t.2.1,t.2.2.1,kvs,kv)
 |none=>tn
theorem BnAt.setd{C a dx ls lt:Addr}{H H':Hp}{ss:LZ}{tn:List Tk1}{i:Nat}{t:Tk1}{kvs:LKz}{kv:KV}(bn:BnAt C a dx ls lt H ss tn)(ht:tn[i]?=some t)(s:SameX t.2.2.1 H H')(hd:H' t.2.2.1=some (.dT kvs))(hk:KvAt H' kvs kv):BnAt C a dx ls lt H' ss (Ci tn i kvs kv):=by
 obtain⟨hi,he⟩:=av.mp ht;have tm:=ai ht;have hD:=(bn.tks t tm).2.1;have kp:∀{x:Addr}{o:HO},H x=some o->(∀ks,o≠.dT ks)->H' x=some o:=λ e n=>s _ _ (λ z=>by rw[z,hD]at e;cases e;exact n _ rfl) e;have e1:Ci tn i kvs kv=tn.set i (t.1,t.2.1,t.2.2.1,kvs,kv):=by unfold Ci;rw[ht]
 rw[e1];have m1:∀{β:Type}(f:Tk1->β),f (t.1,t.2.1,t.2.2.1,kvs,kv)=f t->(tn.set i (t.1,t.2.1,t.2.2.1,kvs,kv)).map f=tn.map f:=λ f hf=>by
  rw[eN,hf];apply dR (by simp);intro j h1 h2;rw[List.getElem_set];split
  .rename_i h;subst h;rw[bI,he]
  .rfl
 refine⟨kp bn.ob (by intro ks z;cases z),kp bn.lst (by intro ks z;cases z),λ u hu=>kp (bn.stk u hu) (by intro ks z;cases z),?_,λ u hu=>?_,?_⟩
 .have:Ai (tn.set i (t.1,t.2.1,t.2.2.1,kvs,kv))=Ai tn:=m1 (λ x=>V.ref x.1) rfl;rw[this];exact kp bn.tak (by intro ks z;cases z)
 .obtain⟨j,hj⟩:=bY.mp hu;rw[List.getElem?_set]at hj;split at hj
  .cases hj;exact⟨kp (bn.tks t tm).1 (by intro ks z;cases z),hd,hk⟩
  .obtain⟨g1,g2,g3⟩:=bn.tks u (ai hj);have nd:u.2.2.1≠t.2.2.1:=λ z=>by
    have p:=c7.mp (show(tn.map λ t=>t.2.2.1).Pairwise (·≠·) from bn.dis);obtain⟨hj',ej⟩:=av.mp hj;rcases Nat.lt_or_gt_of_ne (show i≠j by assumption) with l|l
    .have:=p i j (by simpa using hi) (by simpa using hj') l;rw[bI,bI,he,ej]at this;exact this z.symm
    .have:=p j i (by simpa using hj') (by simpa using hi) l;rw[bI,bI,he,ej]at this;exact this z
   exact⟨kp g1 (by intro ks z;cases z),s _ _ nd g2,g3.tups λ b xs e=>kp e (by intro ks z;cases z)⟩
 .rw[m1 (λ t=>t.2.2.1) rfl];exact bn.dis
abbrev Ug:LSz:=["self","width","height","turns","number","want","place","entries"]
inductive IH(C cM cD:Addr)(vs:LUz)(H:Hp)(Q:VK)(E:XK):Prop
 |mk (a dx l:Addr) (xs:LUz) (hs:List (Option (Int×Int))) (h0:vs=[.ref a,.ref l]) (h1:H a=some (.ins C dx [])) (h2:H l=some (.lst xs)) (h3:Ths STh H xs hs) (h4:hs.length<=100) (h5:(∀n,Ck hs=some (true,n)->RfV cM "many" H E (.int n))) (h6:(∀k,Ck hs=some (false,k)->RfV cD "place" H E (.int k))) (h7:(Ck hs=none->∀ss,hs=ss.map some->∀ls lt us H',H ls=none->H lt=none->ls≠lt->SameX a H H'->BnAt C a dx ls lt H' us []->us.map (λ t:Addr×Int×Int=>t.2)=ss->Q .non H')):IH C cM cD vs H Q E
def Gn(C cM cD:Addr) :Sp:=λ vs H Q E=>IH C cM cD vs H Q E
theorem Ht{f:Addr}{fd:FuncData}{C cM cD:Addr}(F:Fun K "__init__" "Bench.__init__" CI f fd)(BC:JI K C)(D_check_sheets:JH P w K mg base 4 "check_sheets" ["sheets"] (Gm cM cD)):A3 P w K mg base (CX1 P w) 5 f fd ["self","sheets"] (Gn C cM cD):=by
 have S:Aj ["self","sheets"] ["self","sheets"] (Ad CI):=fsk;refine F.gx S ?_;rintro vs H Q E ⟨a,dx,l,xs,hs,rfl,hob,hxs,th,few,r1,r2,q⟩;refine⟨rfl,λ cdv A outer s hr=>?_⟩;refine⟨_,(Ae (AU (OA D_check_sheets hr (L5 Co (L6 (H:=H) (E:=E))) (Aa (pv 1) Ab)))
  (Ae (CK (pv 0) (Jg rfl (BP (pv 1)) (λ_ _ _ _ _=>(Cp (K:=K) (n:=2) rfl (Am (Al (i:=0) (nk ["width","height"]) rfl (aF rfl)) (Am (Al (i:=1) (nk ["width","height"]) rfl (aF rfl)) AM)))) (λ_ _ _ _ _=>(An (Aa Ac (Aa Ac (Aa (pv 1) (Aa (pv 0) Ab)))))) (N:=["width","height"]) (fr:=[none,none])) rfl)
  (Ag (CK (pv 0) (Bc Ab) rfl)))),?_⟩
 refine⟨_,rfl,l,xs,hs,rfl,hxs,th,few,(λ n e=>Oz (r1 n e) (Same.refl H)),(λ n e=>Oz (r2 n e) (Same.refl H)),λ no H1 s1=>?_⟩;obtain⟨ss,rfl,tl,l1,l2,so⟩:=Nx no hxs th;have q:=q no ss rfl;obtain⟨ts,t1,t2,t3⟩:=tl.same s1;have tl':=congrArg List.length t3;rw[ae]at tl';refine⟨_,rfl,l,rfl,⟨_,SqL.of t1⟩,λ acc hacc=>DB (K:=K) (a:=l) (ys:=Ai ts) (λ i zs σ H'=>(∃x y,σ=[x,y])/\Same H1 H'/\∃us:LZ,zs=Ai us/\(∀t∈us,H' t.1=some (.tup (Rk.vs ⟨0,0,t.2.2,t.2.1⟩)))/\us.map (λ t:Addr×Int×Int=>t.2)=ss.take i) ⟨⟨none,none,rfl⟩,Same.new hacc,[],rfl,(λ t ht=>nomatch ht),rfl⟩ (λ i zs σ H' _ _ hp=>SqL.of (hp.2.1 _ _ t1)) ?_ ?_⟩
 .rintro i x zs σ H' hx hi hl' hacc' ⟨⟨x0,y0,rfl⟩,hs,us,rfl,wu,eu⟩;obtain⟨t,ht,rfl⟩:=AY hx;have w1:=hs _ _ (t2 t (ai ht));have tk1:ss.take (i+1)=ss.take i++[t.2]:=by rw[<-t3,bU,aE,ht];rfl
  refine⟨t.1,_,rfl,SqT.of w1,rfl,_,_,rfl,_,_,rfl,rfl,_,rfl,_,rfl,Ao 4,λ r1 nr1=>?_⟩;obtain⟨H4,g,s4,f4⟩:=nw (.tup [.int 0,.int 0,.int t.2.2,.int t.2.1]) nr1;rw[g];have f4:H4 r1=some (.tup (Rk.vs ⟨0,0,t.2.2,t.2.1⟩)):=f4;have a4:=s4 _ _ hacc';refine cNx.mk (ba (At (by rw[Ax];lia))) hi hl' a4 ⟨⟨_,_,rfl⟩,λ d o e=>by rw[Af (Ah e hacc)];exact s4 _ _ (hs d o e),us++[(r1,t.2)],by rw[Ai,Ai,ah];rfl,λ u hu=>?_,?_⟩
  .have kp:∀x xs,H4 x=some (.tup xs)->(upd H4 acc (.lst (Ai us++[.ref r1]))) x=some (.tup xs):=λ x xs e=>by rw[Af (λ z=>by rw[z,a4]at e;cases e)];exact e
   rcases aw.mp hu with hu|hu
   .exact kp _ _ (s4 _ _ (wu u hu))
   .rw[aa.mp hu];exact kp _ _ f4
  .rw[ah,eu,tk1];rfl
 .rintro zs σ H2 hl' hacc' ⟨_,hs,us,rfl,wu,eu⟩;rw[Ax,tl',bE]at eu;have s2:=s1.trans hs;have ob2:=s2 _ _ hob;refine⟨_,rfl,a,C,dx,_,rfl,ob2,BC.cl,BC.n_stock,(by show 0<1000;decide),?_⟩;have x3:SameX a H2 (upd H2 a (.ins C dx (Bh "stock" (.ref acc) []))):=SameX.upd;have e3:(upd H2 a (.ins C dx (Bh "stock" (.ref acc) []))) a=some (.ins C dx (Bh "stock" (.ref acc) [])):=upd_same;generalize upd H2 a (.ins C dx (Bh "stock" (.ref acc) []))=H3 at x3 e3 |-;have na:∀{x:Addr}{o:HO},H2 x=some o->(∀C dx fs,o≠.ins C dx fs)->x≠a:=λ e n z=>by rw[z,ob2]at e;cases e;exact n _ _ _ rfl
  refine⟨Ao 0,λ lt nlt=>?_⟩;obtain⟨H4,g,s4,e4⟩:=nw (.lst []) nlt;rw[g];have ob4:=s4 _ _ e3;refine⟨_,rfl,a,C,dx,_,rfl,ob4,BC.cl,BC.n_taken,(by show 1<1000;decide),?_⟩;have x5:SameX a H4 (upd H4 a (.ins C dx (Bh "taken" (.ref lt) (Bh "stock" (.ref acc) [])))):=SameX.upd;have lta:lt≠a:=λ z=>by rw[z,ob4]at e4;cases e4
  have x25:SameX a H2 (upd H4 a (.ins C dx (Bh "taken" (.ref lt) (Bh "stock" (.ref acc) [])))):=x3.trans (s4.x.trans x5);have nlt0:H lt=none:=by
   cases z:H lt with
   |none=>rfl
   |some o =>
    have e3':=s2 _ _ z;by_cases c:lt=a
    .exact absurd c lta
    .rw[x3 _ _ c e3']at nlt;cases nlt
  have nal:acc≠lt:=λ z=>by rw[<-z,x3 _ _ (na hacc' (by intro _ _ _ z;cases z)) hacc']at nlt;cases nlt
  refine q acc lt us _ (By s1 hacc) nlt0 nal (s2.x.trans x25) ⟨upd_same,?_,λ t ht=>?_,?_,(λ t ht=>nomatch ht),d0⟩ eu
  .exact x25 _ _ (na hacc' (by intro _ _ _ z;cases z)) hacc'
  .exact x25 _ _ (na (wu t ht) (by intro _ _ _ z;cases z)) (wu t ht)
  .exact x5 _ _ lta e4
inductive Nm(C cG cM cS:Addr)(vs:LUz)(H:Hp)(Q:VK)(E:XK):Prop
 |mk (a dx ls lt:Addr) (ss:LZ) (tn:List Tk1) (v1 v2:V) (tu:Bool) (h0:vs=[.ref a,v1,v2,.bl tu]) (h1:BnAt C a dx ls lt H ss tn) (h2:P5 tn) (h3:ss.length<=4) (h4:(∀t∈ss,SOk t.2)) (h5:Ty H v1) (h6:Ty H v2) (h7:(AF (whs 0 (tn.map λ t=>t.2.2.2.2))).length<=60) (h8:(∀y∈A5 (whs 0 (tn.map λ t=>t.2.2.2.2)),A6 y.2/\0<=y.1/\y.1<tn.length)) (h9:(∀v,Dw v1 v2=some v->RfV cS "side" H E v)) (h10:∀t:Bl,v1=.int t.1->v2=.int t.2.1->tu=t.2.2->WOk t->((AF (whs 0 (tn.map λ t=>t.2.2.2.2))).length=60->RfV cM "many" H E (.int 61))/\((AF (whs 0 (tn.map λ t=>t.2.2.2.2))).length<60 ->
 (∀y∈A5 (whs 0 (tn.map λ t=>t.2.2.2.2)),hld t y.2->(∀y'∈A5 (whs 0 (tn.map λ t=>t.2.2.2.2)),hld t y'.2->DE y<=DE y')->∀(u:Tk1) z rest kvs r b H',tn[y.1.toNat]?=some u->AA t (y.2.len true) (y.2.len false)=z::rest->SameX u.2.2.1 H H' ->
  BnAt C a dx ls lt H' ss (Ci tn y.1.toNat kvs (AG u.2.2.2.2 y.2 z ((AF (whs 0 (tn.map λ t=>t.2.2.2.2))).length:Int)))->H' r=some (.tup [.int y.1,.ref b])->H' b=some (.tup (CY u.2.2.2.2 y.2 z).2.vs)->Q (.ref r) H') /\
 ((∀y∈A5 (whs 0 (tn.map λ t=>t.2.2.2.2)),¬hld t y.2)->∀(k:Nat)(u:Addr×Int×Int),ss[k]?=some u->hld t (shR u.2)->(∀(k':Nat)(u':Addr×Int×Int),ss[k']?=some u'->hld t (shR u'.2)->BL [arR (shR u.2),k]<=BL [arR (shR u'.2),k']) ->
  ∀z rest tA dA kvs r b H',H dA=none->AA t ((shR u.2).len true) ((shR u.2).len false)=z::rest->SameX lt H H'->BnAt C a dx ls lt H' ss (tn++[(tA,(k:Int),dA,kvs,AG [(shR u.2,.w none)] (shR u.2) z ((AF (whs 0 (tn.map λ t=>t.2.2.2.2))).length:Int))])->H' r=some (.tup [.int tn.length,.ref b])->H' b=some (.tup (CY [(shR u.2,.w none)] (shR u.2) z).2.vs)->Q (.ref r) H') /\
 ((∀y∈A5 (whs 0 (tn.map λ t=>t.2.2.2.2)),¬hld t y.2)->(∀u∈ss,¬hld t (shR u.2))->Rf H E cG λ fs _=>fs=glF t))):Nm C cG cM cS vs H Q E
def IR(C cG cM cS:Addr) :Sp:=λ vs H Q E=>Nm C cG cM cS vs H Q E
theorem Jm{f:Addr}{fd:FuncData}{C cG cM cS:Addr}{dv:Value}(F:FunF K "cut" "Bench.cut" Bu f fd dv)(T:Txt mg tk)(BC:JI K C)(X_TooMany:Hd P w K mg base 1 "TooMany" cM ["self","many"] ["many"])(D_check_sides:JH P w K mg base 3 "check_sides" ["width","height"] (JT cS))(D_cut_pane:AC P w K mg base 3 "cut_pane" ["entries","piece","want","number"] Gk)(M_Bench_panes_cut:KW P w K mg base 2 C "panes_cut" ["self"] (Fn C))(M_Bench_piece_for:Iz P w K mg base 4 C "piece_for" ["self","want"] (Fm C cG)):A3 P w K mg base (CX1 P w) 5 f fd ["self","width","height","turns"] (IR C cG cM cS):=by
 have S:Aj Ug ["self","width","height","turns"] (Ad Bu):=fsk;refine F.okx S (λ vs H Q E h =>?_) (λ cdv A outer s H vs Q E hr h=>?_)
 .obtain⟨a,dx,ls,lt,ss,tn,v1,v2,tu,rfl,_⟩:=h;rfl
 .obtain⟨a,dx,ls,lt,ss,tn,v1,v2,tu,rfl,bn,bok,s4,so,ty1,ty2,np,ok1,qS,qT⟩:=h;have hu:=Fu hr;refine⟨_,(Ae (AU (OA D_check_sides hr (L5 Co (L6 (H:=H) (E:=E))) (Aa (pv 1) (Aa (pv 2) Ab))))
   (Ae (Au (i:=4) S.nd rfl (aF rfl) (Ar A1 rfl T.z_len rfl (Aa (DZ M_Bench_panes_cut hr (pv 0)) Ab)))
   (Ae (AB (Aq Dp (pv 4) (Az (v:=.int 60) rfl T.g_MOST_CUT ⟨_,rfl⟩) (Av _)) (Ag (Dl Co X_TooMany hr (Aa (Aw AI (Az (v:=.int 60) rfl T.g_MOST_CUT ⟨_,rfl⟩) Ac) Ab))) Ay)
   (Ae (Au (i:=5) S.nd rfl (aF rfl) (An (Aa (pv 1) (Aa (pv 2) (Aa (pv 3) Ab)))))
   (Ae (Au (i:=6) S.nd rfl (aF rfl) (R4 M_Bench_piece_for hr (L5 Co (L6 (H:=H) (E:=E))) (pv 0) (Aa (pv 5) Ab)))
   (Ae (Au (i:=7) S.nd rfl (aF rfl) (Ak ix_tup (Ak ix_list (CL (pv 0) rfl) (Ak ix_tup (pv 6) Ac (λ_ _=>rfl)) (λ_ _=>rfl)) Ac (λ_ _=>rfl)))
   (Ag (As (An (Aa (Ak ix_tup (pv 6) Ac (λ_ _=>rfl)) (Aa (A2 D_cut_pane hr (Aa (pv 7) (Aa (Ak ix_tup (pv 6) Ac (λ_ _=>rfl)) (Aa (pv 5) (Aa (pv 4) Ab))))) Ab))))))))))),?_⟩
  refine⟨_,rfl,_,rfl,v1,v2,rfl,ty1,ty2,(λ v e=>Oz (qS v e) (Same.refl H)),λ no H1 s1=>?_⟩;obtain⟨t,rfl,rfl,rfl,wok⟩:=M5 (tu:=tu) no;obtain⟨qM,q⟩:=qT t rfl rfl rfl wok;clear qT qS no;generalize hof:A5 (whs 0 (tn.map λ t=>t.2.2.2.2))=off at ok1 q;generalize hnp:(AF (whs 0 (tn.map λ t=>t.2.2.2.2))).length=np' at np q qM;have bn1:=bn.same s1;refine⟨_,rfl,a,dx,_,rfl,bn1.ob,CS _ _ (by decide +kernel) (by decide +kernel),a,dx,ls,lt,ss,tn,rfl,bn1,bok,λ l ts H2 s2 nl hl wt eq=>?_⟩;have tl:=congrArg List.length eq;rw[ae,hnp]at tl;refine⟨l,_,rfl,.inl (SqL.of hl),?_⟩;rw[Ax,tl];have s12:=s1.trans s2;by_cases np2:np'<60
  case neg =>
   obtain rfl:np'=60:=by lia
   refine⟨_,rfl,rfl,_,rfl,C9 (decide_eq_true rfl) ?_⟩;exact⟨_,_,rfl,rfl,rfl,λ y dx T H2 hy s2 e ed nd hT nT=>(qM rfl).raise s12 hy s2 e ed nd hT rfl⟩
  obtain⟨qA,qB,qC⟩:=q np2;refine⟨_,rfl,rfl,_,rfl,B4 (decide_eq_false (λ z=>by have:=V.int.inj z;lia)) ?_⟩;refine⟨_,rfl,_,rfl,_,rfl,Ao 3,λ c nc=>?_⟩;obtain⟨H3,g,s3,e3⟩:=nw (.tup [.int t.1,.int t.2.1,.bl t.2.2]) nc;rw[g];have s03:=s12.trans s3;have bn3:=bn.same s03;have few:=bok.1;refine⟨_,rfl,a,dx,_,rfl,bn3.ob,CS _ _ (by decide +kernel) (by decide +kernel),_,rfl,a,dx,ls,lt,c,ss,tn,t,rfl,bn3,bok,s4,so,e3,?_,?_,?_,?_⟩
  .rw[hof];exact λ y hy=>⟨(ok1 y hy).1,(ok1 y hy).2.1,by have:=(ok1 y hy).2.2;lia⟩
  .rw[hof];intro y hy hh least r b H4 s4' hr4 hb4;obtain⟨pk,y0,y1⟩:=ok1 y hy;have bn4:=bn3.same s4';obtain⟨u,hu4⟩:∃u,tn[y.1.toNat]?=some u:=⟨_,ag (by lia)⟩;have um:=ai hu4;obtain⟨g1,g2,g3⟩:=bn4.tks u um;have atk:atI (Ai tn) y.1=some (.ref u.1):=by
    have:=Bs (xs:=Ai tn) (j:=y.1.toNat) (v:=.ref u.1) (by unfold Ai;rw[aE,hu4];rfl);rwa [ci y0]at this
   obtain⟨z,rest,hz⟩:∃z rest,AA t (y.2.len true) (y.2.len false)=z::rest:=by
    cases q:AA t (y.2.len true) (y.2.len false) with
    |nil=>exact absurd q hh
    |cons z rest=>exact⟨z,rest,rfl⟩
   refine⟨_,rfl,a,C,dx,_,_,rfl,bn4.ob,BC.cl,BC.n_taken,Iq _ _,_,rfl,r,_,_,_,rfl,rfl,SqT.of hr4,Bn,lt,_,_,_,rfl,rfl,SqL.of bn4.tak,atk,u.1,_,_,_,rfl,rfl,SqT.of g1,Bm,?_⟩;refine⟨_,rfl,r,_,_,_,rfl,rfl,SqT.of hr4,Bn,_,rfl,_,rfl,r,_,_,_,rfl,rfl,SqT.of hr4,Bm,_,rfl,_,rfl,u.2.2.1,b,c,_,y.2,t,z,rest,u.2.2.2.1,u.2.2.2.2,rfl,g2,g3,?_,hb4,s4' _ _ e3,hz,λ b' kvs' H5 x5 d5 kv5 b5=>?_⟩
   .have:=bok.2.1 u um;lia
   refine⟨Ao 2,λ r2 nr2=>?_⟩;have s6:Same H5 (upd H5 r2 (.tup [.int y.1,.ref b'])):=Same.new nr2;have s04:=s03.trans s4';exact qA y hy hh least u z rest kvs' r2 b' _ hu4 hz (s04.x.trans (x5.trans s6.x)) ((bn4.setd hu4 x5 d5 kv5).same s6) upd_same (s6 _ _ b5)
  .rw[hof];intro no k u k2 k3 least r tA dA eA H4 ndA x4 bn4 hr4;have um:=ai k2;have hb4:=bn4.stk u um;have tm:((tA,(k:Int),dA,[(rkK (shR u.2),V.ref eA)],[(shR u.2,En.w none)]):Tk1)∈tn++[(tA,(k:Int),dA,[(rkK (shR u.2),V.ref eA)],[(shR u.2,En.w none)])]:=az _ (aa.mpr rfl);obtain⟨g1,g2,g3⟩:=bn4.tks _ tm;have ix:(tn++[((tA,(k:Int),dA,[(rkK (shR u.2),V.ref eA)],[(shR u.2,En.w none)]):Tk1)])[tn.length]?=some (tA,(k:Int),dA,[(rkK (shR u.2),V.ref eA)],[(shR u.2,En.w none)]):=by
    rw[bj (aj _),bV];rfl
   have atk:atI (Ai (tn++[((tA,(k:Int),dA,[(rkK (shR u.2),V.ref eA)],[(shR u.2,En.w none)]):Tk1)])) (tn.length:Int)=some (.ref tA):=Bs (xs:=Ai (tn++[((tA,(k:Int),dA,[(rkK (shR u.2),V.ref eA)],[(shR u.2,En.w none)]):Tk1)])) (j:=tn.length) (v:=.ref tA) (by unfold Ai;rw[aE,ix];rfl);obtain⟨z,rest,hz⟩:∃z rest,AA t ((shR u.2).len true) ((shR u.2).len false)=z::rest:=by
    cases q:AA t ((shR u.2).len true) ((shR u.2).len false) with
    |nil=>exact absurd q k3
    |cons z rest=>exact⟨z,rest,rfl⟩
   have nc:c≠lt:=λ zz=>by have:=bn3.tak;rw[<-zz,e3]at this;cases this
   refine⟨_,rfl,a,C,dx,_,_,rfl,bn4.ob,BC.cl,BC.n_taken,Iq _ _,_,rfl,r,_,_,_,rfl,rfl,SqT.of hr4,Bn,lt,_,_,_,rfl,rfl,SqL.of bn4.tak,atk,tA,_,_,_,rfl,rfl,SqT.of g1,Bm,?_⟩;refine⟨_,rfl,r,_,_,_,rfl,rfl,SqT.of hr4,Bn,_,rfl,_,rfl,r,_,_,_,rfl,rfl,SqT.of hr4,Bm,_,rfl,_,rfl,dA,u.1,c,_,shR u.2,t,z,rest,_,_,rfl,g2,g3,(show 1<=500 by lia),hb4,x4 _ _ nc e3,hz,λ b' kvs' H5 x5 d5 kv5 b5=>?_⟩;refine⟨Ao 2,λ r2 nr2=>?_⟩;have s6:Same H5 (upd H5 r2 (.tup [.int tn.length,.ref b'])):=Same.new nr2;have nd0:H dA=none:=By s03 ndA;have xx:SameX lt H H5:=λ x o n e=>x5 _ _ (Ah e nd0) (x4 _ _ n (s03 _ _ e));have bn5:=(bn4.setd ix x5 d5 kv5).same s6;have st:Ci (tn++[((tA,(k:Int),dA,[(rkK (shR u.2),V.ref eA)],[(shR u.2,En.w none)]):Tk1)]) tn.length kvs' (AG [(shR u.2,En.w none)] (shR u.2) z (np':Int))=tn++[(tA,(k:Int),dA,kvs',AG [(shR u.2,En.w none)] (shR u.2) z (np':Int))]:=by
    unfold Ci;rw[ix];show(tn++[_]).set tn.length _=_;rw[dB _ _ (aj _),bV];rfl
   rw[st]at bn5;exact qB no k u k2 k3 least z rest tA dA kvs' r2 b' _ nd0 hz (xx.trans s6.x) bn5 upd_same (s6 _ _ b5)
  .rw[hof];intro no none';exact S2 s03 (qC no none') (λ_ _ _ _ _ _ p _ _=>p)
theorem P6{H:Hp}{x d:Addr}{o1 o2:HO}{E1:HO}(hx:H x=some E1)(hd:H d=none):(upd (upd H d o1) x o2) x=some o2/\(upd (upd H d o1) x o2) d=some o1/\∀a o,a≠x->H a=some o->(upd (upd H d o1) x o2) a=some o :=
 ⟨upd_same,by rw[Af (Ne.symm (Ah hx hd)),upd_same],λ a o ne e=>by rw[Af ne,Af (Ah e hd)];exact e⟩
theorem Sg{H H1:Hp}{x d:Addr}{o1 o2:HO}(hd:H d=none)(ne:d≠x)(h1:H1 x=some o1)(hs:∀a o,a≠x->H a=some o->H1 a=some o):(upd H1 d o2) x=some o1/\(upd H1 d o2) d=some o2/\∀a o,a≠x->H a=some o->(upd H1 d o2) a=some o :=
 ⟨by rw[Af (Ne.symm ne)];exact h1,upd_same,λ a o na e=>by rw[Af (Ah e hd)];exact hs a o na e⟩
theorem F7{f C:Addr}{fd:FuncData}(F:Fun K "__init__" "TooMany.__init__" BY f fd)(R:XCls K C)(n1:NoAttr K C "many"):A3 P w K mg base CX0 1 f fd ["self","many"] (Nv C ["many"]):=by
 have S:Aj ["self","many"] ["self","many"] (Ad BY):=fsk;refine F.ok S (λ vs H Q E h=>?_) (λ cdv A outer s H vs Q E hr h=>?_)
 .obtain⟨x,ws,rfl,hl,_⟩:=h;rw[aD,hl];rfl
 .obtain⟨x,ws,rfl,hl,hx,q⟩:=h;obtain⟨v0,rfl⟩:=NB hl;refine⟨_,(Ag (Ez (pv 0) (pv 1) rfl)),?_⟩;refine⟨_,rfl,_,rfl,x,C,rfl,R,n1,.inl ⟨hx,λ d hd=>?_⟩⟩;obtain⟨e1,e2,e3⟩:=P6 (o1:=BG d [("many",v0)]) (o2:=Cn C d x) hx hd;exact q d _ hd e1 e2 e3
theorem F9{f C:Addr}{fd:FuncData}(F:Fun K "__init__" "NoGlass.__init__" Ca f fd)(R:XCls K C)(n1:NoAttr K C "width")(n2:NoAttr K C "height"):A3 P w K mg base CX0 1 f fd ["self","width","height"] (Nv C ["width","height"]):=by
 have S:Aj ["self","width","height"] ["self","width","height"] (Ad Ca):=fsk;refine F.ok S (λ vs H Q E h=>?_) (λ cdv A outer s H vs Q E hr h=>?_)
 .obtain⟨x,ws,rfl,hl,_⟩:=h;rw[aD,hl];rfl
 .obtain⟨x,ws,rfl,hl,hx,q⟩:=h;obtain⟨v0,v1,rfl⟩:=Qp hl;refine⟨_,(Ae (Ez (pv 0) (pv 1) rfl)
   (Ag (Ez (pv 0) (pv 2) rfl))),?_⟩
  refine⟨_,rfl,_,rfl,x,C,rfl,R,n1,.inl ⟨hx,λ d hd=>?_⟩⟩;obtain⟨e1,e2,e3⟩:=P6 (o1:=BG d [("width",v0)]) (o2:=Cn C d x) hx hd;generalize upd (upd H d (BG d [("width",v0)])) x (Cn C d x)=H1 at e1 e2 e3 |-;have nd:d≠x:=Ne.symm (Ah hx hd);have p1:Bh "height" v1 [(("width":Str),v0)]=[(("width":Str),v0),(("height":Str),v1)]:=by
   rw[Bh,if_neg (by decide +kernel)];rfl
  refine⟨_,rfl,_,rfl,x,C,rfl,R,n2,.inr ⟨d,_,e1,e2,by show 1<1000;decide,?_⟩⟩;rw[p1];obtain⟨f1,f2,f3⟩:=Sg (o2:=BG d [(("width":Str),v0),(("height":Str),v1)]) hd nd e1 e3;exact q d _ hd f1 f2 f3
def Hu(cU cL:Addr)(u:Bool):Addr:=if u then cU else cL
abbrev wF(m:V):LFz:=Bh "mark" m []
abbrev cF(k:Int)(vx vy:V):LFz:=Bh "other" vy (Bh "first" vx (Bh "at" (.int k) []))
def Obj(cW cU cL:Addr)(H:Hp):Tr->V->Prop
 |.whole m,v=>∃a dx,v=.ref a/\H a=some (.ins cW dx (wF (Dr m)))
 |.cut u k x y,v=>∃a dx vx vy,v=.ref a/\H a=some (.ins (Hu cU cL u) dx (cF k vx vy))/\Obj cW cU cL H x vx/\Obj cW cU cL H y vy
theorem Obj.same{H H':Hp}(s:Same H H'):∀{t:Tr}{v:V},Obj cW cU cL H t v->Obj cW cU cL H' t v
 |.whole m,v,h=>by
  rw[Obj]at h |-;obtain⟨a,dx,e,h⟩:=h;exact⟨a,dx,e,s _ _ h⟩
 |.cut u k x y,v,h=>by
  rw[Obj]at h |-;obtain⟨a,dx,vx,vy,e,h,h1,h2⟩:=h;exact⟨a,dx,vx,vy,e,s _ _ h,Obj.same s h1,Obj.same s h2⟩
structure RT(mg:MGz)(K:Frag)(cT cW cU cL:Addr):Prop where
 g_Tree:mg "Tree"=some (.ref cT)
 g_Whole:mg "Whole"=some (.ref cW)
 g_Upright:mg "Upright"=some (.ref cU)
 g_Level:mg "Level"=some (.ref cL)
 iW:Ob K cW
 iC:∀u,Ob K (Hu cU cL u)
 n_mark:NoAttr K cW "mark"
 n_at:∀u,NoAttr K (Hu cU cL u) "at"
 n_first:∀u,NoAttr K (Hu cU cL u) "first"
 n_other:∀u,NoAttr K (Hu cU cL u) "other"
 kWW:kitOne K (.ref cW) (.ref cW)=some true
 kWC:∀u,kitOne K (.ref cW) (.ref (Hu cU cL u))=some false
 kCW:∀u,kitOne K (.ref (Hu cU cL u)) (.ref cW)=some false
 kCC:∀u v,kitOne K (.ref (Hu cU cL u)) (.ref (Hu cU cL v))=some (u==v)
 kWT:kitOne K (.ref cW) (.ref cT)=some true
 kCT:∀u,kitOne K (.ref (Hu cU cL u)) (.ref cT)=some true
inductive P1(C:Addr)(vs:LUz)(H:Hp)(Q:VK)(E:XK):Prop
 |mk (a dx:Addr) (m:V) (h0:vs=[.ref a,m]) (h1:H a=some (.ins C dx [])) (h2:Q .non (upd H a (.ins C dx (wF m)))):P1 C vs H Q E
def Os(C:Addr) :Sp:=λ vs H Q E=>P1 C vs H Q E
inductive P2(C:Addr)(vs:LUz)(H:Hp)(Q:VK)(E:XK):Prop
 |mk (a dx:Addr) (k:Int) (vx vy:V) (h0:vs=[.ref a,.int k,vx,vy]) (h1:H a=some (.ins C dx [])) (h2:∀H',SameX a H H'->H' a=some (.ins C dx (cF k vx vy))->Q .non H'):P2 C vs H Q E
def M3(C:Addr) :Sp:=λ vs H Q E=>P2 C vs H Q E
theorem Hq{f:Addr}{fd:FuncData}(F:FunD K "__init__" "Whole.__init__" Bk f fd)(R:RT mg K cT cW cU cL):A3 P w K mg base CX0 1 f fd ["self","mark"] (Os cW):=by
 have S:Aj ["self","mark"] ["self","mark"] (Ad Bk):=fsk;refine F.g S ?_;rintro vs H Q E ⟨a,dx,m,rfl,ha,q⟩;refine⟨rfl,λ cdv A outer s hr=>?_⟩;refine⟨_,(Ag (CK (pv 0) (pv 1) rfl)),?_⟩;exact⟨_,rfl,_,rfl,a,cW,dx,_,rfl,ha,R.iW.cl,R.n_mark,(by show 0<1000;decide),q⟩
theorem F6{f:Addr}{fd:FuncData}(F:Fun K "__init__" "Upright.__init__" BX f fd)(R:RT mg K cT cW cU cL):A3 P w K mg base CX0 1 f fd ["self","at","first","other"] (M3 cU):=by
 have S:Aj ["self","at","first","other"] ["self","at","first","other"] (Ad BX):=fsk;refine F.g S ?_;rintro vs H Q E ⟨a,dx,k,vx,vy,rfl,ha,q⟩;refine⟨rfl,λ cdv A outer s hr=>?_⟩;refine⟨_,(Ae (CK (pv 0) (pv 1) rfl)
  (Ae (CK (pv 0) (pv 2) rfl)
  (Ag (CK (pv 0) (pv 3) rfl)))),?_⟩
 refine⟨_,rfl,_,rfl,a,cU,dx,_,rfl,ha,(R.iC true).cl,R.n_at true,(by show 0<1000;decide),?_⟩;refine⟨_,rfl,_,rfl,a,cU,dx,_,rfl,upd_same,(R.iC true).cl,R.n_first true,(by show 1<1000;decide),?_⟩;refine⟨_,rfl,_,rfl,a,cU,dx,_,rfl,upd_same,(R.iC true).cl,R.n_other true,(by show 2<1000;decide),?_⟩;exact q _ ((SameX.upd.trans SameX.upd).trans SameX.upd) upd_same
theorem Hr{f:Addr}{fd:FuncData}(F:Fun K "__init__" "Level.__init__" CH f fd)(R:RT mg K cT cW cU cL):A3 P w K mg base CX0 1 f fd ["self","at","first","other"] (M3 cL):=by
 have S:Aj ["self","at","first","other"] ["self","at","first","other"] (Ad CH):=fsk;refine F.g S ?_;rintro vs H Q E ⟨a,dx,k,vx,vy,rfl,ha,q⟩;refine⟨rfl,λ cdv A outer s hr=>?_⟩;refine⟨_,(Ae (CK (pv 0) (pv 1) rfl)
  (Ae (CK (pv 0) (pv 2) rfl)
  (Ag (CK (pv 0) (pv 3) rfl)))),?_⟩
 refine⟨_,rfl,_,rfl,a,cL,dx,_,rfl,ha,(R.iC false).cl,R.n_at false,(by show 0<1000;decide),?_⟩;refine⟨_,rfl,_,rfl,a,cL,dx,_,rfl,upd_same,(R.iC false).cl,R.n_first false,(by show 1<1000;decide),?_⟩;refine⟨_,rfl,_,rfl,a,cL,dx,_,rfl,upd_same,(R.iC false).cl,R.n_other false,(by show 2<1000;decide),?_⟩;exact q _ ((SameX.upd.trans SameX.upd).trans SameX.upd) upd_same
theorem Fb{H:Hp}{x dx:Addr}{o1 o2:HO}(hx:H x=none)(hd:H dx=none):Same H (upd (upd H dx o1) x o2):=λ b o e=>by
 rw[Af (Ah e hx),Af (Ah e hd)];exact e
theorem fW(m:V):(wF m).lookup ("mark":Str)=some m:=by rw[AQ,if_pos rfl]
def ents:Tr->List En
 |.whole m=>[.w m]
 |.cut u k x y=>.c u k::(ents x++ents y)
def Tr.nd:Tr->Nat
 |.whole _=>1
 |.cut _ _ x y=>x.nd+y.nd+1
theorem Dv:∀t:Tr,(ents t).length=t.nd
 |.whole _=>rfl
 |.cut _ _ x y=>by rw[ents,aD,ak,Dv x,Dv y];rfl
theorem OL:∀t:Tr,0<t.nd
 |.whole _=>Nat.one_pos
 |.cut _ _ x y=>Nat.succ_pos _
def Kp(H H':Hp):Prop:=∀b o,H b=some o->(∀xs,o≠.lst xs)->H' b=some o
theorem GK{H H':Hp}(s:Same H H'):Kp H H':=λ b o e _=>s b o e
theorem Kp.trans{H H1 H2:Hp}(a:Kp H H1)(b:Kp H1 H2):Kp H H2:=λ c o e n=>b c o (a c o e n) n
theorem Kp.put{H:Hp}{l:Addr}{xs ys:LUz}(h:H l=some (.lst xs)):Kp H (upd H l (.lst ys)):=λ b o e n=>by
 rw[Af (Kv e h (n xs))];exact e
theorem Obj.kp{H H':Hp}(s:Kp H H'):∀{t:Tr}{v:V},Obj cW cU cL H t v->Obj cW cU cL H' t v
 |.whole m,v,h=>by
  rw[Obj]at h |-;obtain⟨a,dx,e,h⟩:=h;exact⟨a,dx,e,s _ _ h (by intro xs z;cases z)⟩
 |.cut u k x y,v,h=>by
  rw[Obj]at h |-;obtain⟨a,dx,vx,vy,e,h,h1,h2⟩:=h;exact⟨a,dx,vx,vy,e,s _ _ h (by intro xs z;cases z),Obj.kp s h1,Obj.kp s h2⟩
def EnsAt(H:Hp):LUz->List En->Prop
 |[],[]=>True
 |v::r,e::q=>(∃a,v=.ref a/\H a=some (.tup (enV e)))/\EnsAt H r q
 |_,_=>False
theorem EnsAt.kp{H H':Hp}(s:Kp H H'):∀{vs:LUz}{es:List En},EnsAt H vs es->EnsAt H' vs es
 |[],[],_=>trivial
 |v::r,e::q,h=>⟨let ⟨a,b,c⟩:=h.1;⟨a,b,s _ _ c (by intro xs z;cases z)⟩,EnsAt.kp s h.2⟩
 |[],_::_,h=>h
 |_::_,[],h=>h
theorem EnsAt.snoc{H:Hp}{a:Addr}{e:En}(ha:H a=some (.tup (enV e))):∀{vs:LUz}{es:List En},EnsAt H vs es->EnsAt H (vs++[.ref a]) (es++[e])
 |[],[],_=>⟨⟨a,rfl,ha⟩,trivial⟩
 |v::r,e'::q,h=>⟨h.1,EnsAt.snoc ha h.2⟩
 |[],_::_,h=>h.elim
 |_::_,[],h=>h.elim
theorem EnsAt.len{H:Hp}:∀{vs:LUz}{es:List En},EnsAt H vs es->vs.length=es.length
 |[],[],_=>rfl
 |v::r,e'::q,h=>by rw[aD,aD,EnsAt.len h.2]
 |[],_::_,h=>h.elim
 |_::_,[],h=>h.elim
theorem EnsAt.get{H:Hp}:∀{vs:LUz}{es:List En}{i:Nat}{v:V},EnsAt H vs es->vs[i]?=some v->∃e a,es[i]?=some e/\v=.ref a/\H a=some (.tup (enV e))
 |v::r,e::q,0,_,h,hv=>by
  cases hv;obtain⟨a,b,c⟩:=h.1;exact⟨e,a,rfl,b,c⟩
 |v::r,e::q,i+1,_,h,hv=>EnsAt.get (i:=i) h.2 hv
 |[],[],_,_,_,hv=>by cases hv
 |[],_::_,_,_,h,_=>h.elim
 |_::_,[],_,_,h,_=>h.elim
def Ef(ws:List (V×Tr)):List En:=ws.reverse.flatMap λ p=>ents p.2
theorem B5(ws:List (V×Tr))(p:V×Tr):Ef (ws++[p])=ents p.2++Ef ws:=by
 unfold Ef;rw[List.reverse_append,List.reverse_singleton,List.singleton_append,List.flatMap_cons]
def cnt(ws:List (V×Tr)):Nat:=(ws.map λ p=>p.2.nd).sum
theorem Dx(ws:List (V×Tr))(p:V×Tr):cnt (ws++[p])=cnt ws+p.2.nd:=by
 unfold cnt;rw[ah,cN,dJ,List.sum_singleton]
theorem JD:∀ws:List (V×Tr),ws.length<=cnt ws
 |[]=>aj 0
 |p::r=>by
  have:=JD r;have:=OL p.2;show r.length+1<=p.2.nd+cnt r;lia
theorem Fh(p:V×Tr)(r:List (V×Tr)):Ef (p::r)=Ef r++ents p.2:=by
 unfold Ef;rw[List.reverse_cons,List.flatMap_append,List.flatMap_cons,List.flatMap_nil,aI]
theorem GU:∀ws:List (V×Tr),(Ef ws).length=cnt ws
 |[]=>rfl
 |p::r=>by
  rw[Fh,ak,Dv,GU r];show _=p.2.nd+cnt r;lia
theorem DO{α:Type}(ws:List α):ws=[]\/∃ws0 p,ws=ws0++[p]:=by
 by_cases h:ws=[]
 .exact .inl h
 .exact .inr ⟨ws.dropLast,ws.getLast h,(List.dropLast_concat_getLast h).symm⟩
theorem K2{ws0:List (V×Tr)}{p:V×Tr}:((ws0++[p]).map (·.1))[((ws0++[p]).map (·.1)).length-1]?=some p.1:=by
 rw[ae,ak,aM,Nat.add_sub_cancel,aE,bj (aj _),bV];rfl
theorem KI{ws0:List (V×Tr)}{p:V×Tr}:((ws0++[p]).map (·.1)).dropLast=ws0.map (·.1):=by rw[ah,dJ,eX]
def wt:En->Int
 |.w _=>1
 |.c _ _=>-1
def wts(es:List En):Int:=(es.map wt).sum
theorem IJ(a b:List En):wts (a++b)=wts a+wts b:=by
 unfold wts;rw[ah,cN]
theorem JJ(e:En)(b:List En):wts (e::b)=wt e+wts b:=by
 unfold wts;rw[aL,bR]
theorem C0:∀t:Tr,wts (ents t)=1
 |.whole _=>rfl
 |.cut u k x y=>by
  rw[ents,JJ,IJ,C0 x,C0 y];rfl
theorem FX:∀ws:List (V×Tr),wts (Ef ws)=ws.length
 |[]=>rfl
 |p::r=>by rw[Fh,IJ,C0,FX r,aD];lia
theorem II:∀(t:Tr)(a b:List En),ents t=a++b->b≠[]->1<=wts b
 |.whole m,a,b,h,hb=>by
  have h:[En.w m]=a++b:=h;cases a with
  |nil=>rw[bX]at h;rw[<-h];exact bb 1
  |cons e r =>
   have:=congrArg List.length h;simp only[ak,aD,bO]at this;exact absurd (eM.mp (by lia)) hb
 |.cut u k x y,a,b,h,hb=>by
  cases a with
  |nil =>
   rw[bX]at h;rw[<-h,C0];decide
  |cons e r =>
   rw[ents,aX]at h;have h2:=List.cons.inj h |>.2;rcases List.append_eq_append_iff.mp h2 with ⟨c,hc,hd⟩|⟨c,hc,hd⟩
   .exact II y c b hd hb
   .rw[hd,IJ,C0];by_cases e:c=[]
    .rw[e];decide
    .have:=II x r c hc e;lia
theorem GX:∀(t t':Tr)(r r':List En),ents t++r=ents t'++r'->t=t'/\r=r'
 |.whole m,.whole m',r,r',h=>by
  have h:En.w m::r=En.w m'::r':=h;injection h with h1 h2;injection h1 with h1;exact⟨by rw[h1],h2⟩
 |.whole m,.cut u k x y,r,r',h=>by
  have h:En.w m::r=En.c u k::(ents x++ents y++r'):=h;injection h with h1 _;cases h1
 |.cut u k x y,.whole m,r,r',h=>by
  have h:En.c u k::(ents x++ents y++r)=En.w m::r':=h;injection h with h1 _;cases h1
 |.cut u k x y,.cut u' k' x' y',r,r',h=>by
  have h:En.c u k::(ents x++ents y++r)=En.c u' k'::(ents x'++ents y'++r'):=h;injection h with h1 h2;injection h1 with h3 h4;rw[aK,aK]at h2;obtain⟨e1,h5⟩:=GX x x' _ _ h2;obtain⟨e2,h6⟩:=GX y y' _ _ h5;exact⟨by rw[h3,h4,e1,e2],h6⟩
inductive F2(cW cU cL:Addr)(vs:LUz)(H:Hp)(Q:VK)(E:XK):Prop
 |mk (u:Bool) (k:Int) (v1 v2:V) (y1 y2:Tr) (h0:vs=[.str (wd u),.int k,v1,v2]) (h1:Obj cW cU cL H y1 v1) (h2:Obj cW cU cL H y2 v2) (h3:∀v' H',Same H H'->Obj cW cU cL H' (.cut u k y1 y2) v'->Q v' H'):F2 cW cU cL vs H Q E
def DM(cW cU cL:Addr) :Sp:=λ vs H Q E=>F2 cW cU cL vs H Q E
theorem Kr{f:Addr}{fd:FuncData}(F:Fun K "cut_from" "cut_from" DT f fd)(T:Txt mg tk)(K_Upright:Oa P w K mg base 1 "Upright" cU ["self","at","first","other"] (M3 cU))(K_Level:Oa P w K mg base 1 "Level" cL ["self","at","first","other"] (M3 cL)) :
  A3 P w K mg base CX0 3 f fd ["word","at","first","other"] (DM cW cU cL):=by
 have S:Aj ["word","at","first","other"] ["word","at","first","other"] (Ad DT):=fsk;refine F.g S ?_;rintro vs H Q E ⟨u,k,v1,v2,y1,y2,rfl,o1,o2,q⟩;refine⟨rfl,λ cdv A outer s hr=>?_⟩;refine⟨_,(Ae (AB (Aq Dp (pv 0) (Az (v:=.str "upright") rfl T.g_UPRIGHT ⟨_,rfl⟩) (Av _)) (Ag (As (O8 K_Upright hr (Aa (pv 1) (Aa (pv 2) (Aa (pv 3) Ab)))))) Ay)
  (Ag (As (O8 K_Level hr (Aa (pv 1) (Aa (pv 2) (Aa (pv 3) Ab))))))),?_⟩
 cases u with
 |true =>
  refine⟨_,rfl,rfl,_,rfl,C9 (EL true true) ⟨_,rfl,_,rfl,_,rfl,λ x dx nx ndx nex=>⟨x,dx,k,v1,v2,rfl,upd_same,λ H3 s3 e3=>⟨rfl,?_⟩⟩⟩⟩;have s4:Same H H3:=λ b o e=>s3 b o (Ah e nx) (Fb nx ndx b o e);exact q _ _ s4 (by rw[Obj];exact⟨x,dx,v1,v2,rfl,e3,o1.same s4,o2.same s4⟩)
 |false =>
  refine⟨_,rfl,rfl,_,rfl,B4 (EL false true) ⟨_,rfl,_,rfl,_,rfl,λ x dx nx ndx nex=>⟨x,dx,k,v1,v2,rfl,upd_same,λ H3 s3 e3=>⟨rfl,?_⟩⟩⟩⟩;have s4:Same H H3:=λ b o e=>s3 b o (Ah e nx) (Fb nx ndx b o e);exact q _ _ s4 (by rw[Obj];exact⟨x,dx,v1,v2,rfl,e3,o1.same s4,o2.same s4⟩)
inductive Ld(K:Frag)(cW cU cL:Addr)(vs:LUz)(H:Hp)(Q:VK)(E:XK):Prop
 |mk (l:Addr) (xs:LUz) (t:Tr) (h0:vs=[.ref l]) (h1:SqL K H l xs) (h2:EnsAt H xs (ents t)) (h3:t.nd<=400) (h4:∀v' H',Same H H'->Obj cW cU cL H' t v'->Q v' H'):Ld K cW cU cL vs H Q E
def IN(K:Frag)(cW cU cL:Addr) :Sp:=λ vs H Q E=>Ld K cW cU cL vs H Q E
theorem NO{es:List En}{i:Nat}{e:En}(hi:i<es.length)(h:es[es.length-1-i]?=some e):es.drop (es.length-(i+1))=e::es.drop (es.length-i):=by
 have hk:es.length-1-i<es.length:=by lia
 rw[show es.length-(i+1)=es.length-1-i by lia,db hk];rw[ag hk]at h;rw[Option.some.inj h,show es.length-1-i+1=es.length-i by lia]
theorem Jk{f:Addr}{fd:FuncData}(F:Fun K "tree_from" "tree_from" Df f fd)(T:Txt mg tk)(R:RT mg K cT cW cU cL)(K_Whole:Oa P w K mg base 1 "Whole" cW ["self","mark"] (Os cW))(D_cut_from:AC P w K mg base 3 "cut_from" ["word","at","first","other"] (DM cW cU cL)) :
  A3 P w K mg base CX0 4 f fd ["entries"] (IN K cW cU cL):=by
 have S:Aj ["entries","done","word","number","first","other"] ["entries"] (Ad Df):=fsk;refine F.g S ?_;rintro vs H Q E ⟨l,xs,t,rfl,hl,hen,hn,q⟩;refine⟨rfl,λ cdv A outer s hr=>?_⟩;refine⟨_,(Ae (Au (i:=1) S.nd rfl (aF rfl) (Bc Ab))
  (Ae (Cc PassesOwn.never rfl (PV rfl T.z_reversed (Aa (pv 0) Ab)) (Cw rfl (Am (Al (i:=2) S.nd rfl (aF rfl)) (Am (Al (i:=3) S.nd rfl (aF rfl)) AM))) (Ag (AB (Aq Dp (pv 2) (Az (v:=.str "whole") rfl T.g_WHOLE ⟨_,rfl⟩) (Av _)) (Ag (AU (BJ (pv 1) (Aa (O8 K_Whole hr (Aa (pv 3) Ab)) Ab)))) (Ae (Au (i:=4) S.nd rfl (aF rfl) (Ji br cz cy Jp (pv 1)))
  (Ae (Au (i:=5) S.nd rfl (aF rfl) (Ji br cz cy Jp (pv 1)))
  (Ag (AU (BJ (pv 1) (Aa (A2 D_cut_from hr (Aa (pv 2) (Aa (pv 3) (Aa (pv 4) (Aa (pv 5) Ab))))) Ab)))))))))
  (Ag (As (Ji br cz cy Jp (pv 1)))))),?_⟩
 refine⟨Ao 0,λ ld hld=>⟨_,rfl,l,xs,rfl,(Same.new hld).seq hl,?_⟩⟩;have hxl:=hen.len;have hel:=Dv t;refine Q1 (K:=K) (a:=l) (xs:=xs) (λ i σ H'=>∃(ws:List (V×Tr))(x2 x3 x4 x5:Option V),σ=[some (.ref l),some (.ref ld),x2,x3,x4,x5]/\Same H H'/\H' ld=some (.lst (ws.map (·.1)))/\(∀p∈ws,Obj cW cU cL H' p.2 p.1)/\(ents t).drop ((ents t).length-i)=Ef ws)
  ⟨[],_,_,_,_,rfl,Same.new hld,upd_same,(λ p hp=>(nomatch hp)),by rw[Nat.sub_zero,List.drop_length];rfl⟩ (λ i σ H' _ hp=>let ⟨_,_,_,_,_,_,s,_⟩:=hp;s.seq hl) ?_ ?_
 .rintro i v σ H' hv hi ⟨ws,x2,x3,x4,x5,rfl,s1,hd,hob,heq⟩;obtain⟨e,a,he,rfl,ha⟩:=hen.get hv;have ha':=s1 _ _ ha;rw[hxl]at he hi;have hdr:=NO hi he;have wl:ws.length<=400:=by
   have h1:=JD ws;have h2:=GU ws;rw[<-heq,b8]at h2;lia
  cases e with
  |w m =>
   refine⟨a,_,rfl,SqT.of ha',rfl,_,_,rfl,_,_,rfl,rfl,?_⟩;refine⟨_,rfl,rfl,_,rfl,C9 (decide_eq_true rfl) ?_⟩;refine⟨_,rfl,.inl ⟨rfl,_,SqL.of hd⟩,_,rfl,λ x dx nx ndx nex=>⟨x,dx,_,rfl,upd_same,rfl,?_⟩⟩;have s2:Same H' (upd (upd (upd H' dx (.own x)) x (.ins cW dx [])) x (.ins cW dx (wF (Dr m)))):=λ b o e=>by
    rw[Af (Ah e nx)];exact Fb nx ndx b o e
   have e2:(upd (upd (upd H' dx (.own x)) x (.ins cW dx [])) x (.ins cW dx (wF (Dr m)))) x=some (.ins cW dx (wF (Dr m))):=upd_same;generalize upd (upd (upd H' dx (.own x)) x (.ins cW dx [])) x (.ins cW dx (wF (Dr m)))=H2 at s2 e2 |-;have d2:=s2 _ _ hd;refine⟨ld,_,.ref x,rfl,rfl,d2,At (by rw[ae];lia),?_⟩;have k3:Kp H2 (upd H2 ld (.lst (ws.map (·.1)++[.ref x]))):=Kp.put d2;refine⟨ws++[(.ref x,.whole m)],_,_,_,_,rfl,λ b o e=>?_,?_,λ p hp=>?_,?_⟩
   .rw[Af (Ah e hld)];exact s2 b o (s1 b o e)
   .rw[upd_same,ah];rfl
   .rcases aw.mp hp with hp|hp
    .exact((hob p hp).same s2).kp k3
    .rw[aa.mp hp,Obj];exact⟨x,dx,rfl,k3 _ _ e2 (by intro xs z;cases z)⟩
   .rw[hdr,heq,B5];rfl
  |c u k =>
   have big:2<=ws.length:=by
    have h1:=II t ((ents t).take ((ents t).length-(i+1))) ((ents t).drop ((ents t).length-(i+1))) (eR _ _).symm (by rw[hdr];intro z;cases z);rw[hdr,heq,JJ,FX]at h1;have:wt (.c u k)=-1:=rfl;lia
   obtain rfl|⟨ws1,p1,rfl⟩:=DO ws
   .exact absurd big (by decide)
   obtain rfl|⟨ws2,p2,rfl⟩:=DO ws1
   .exact absurd big (by simp)
   refine⟨a,_,rfl,SqT.of ha',rfl,_,_,rfl,_,_,rfl,rfl,?_⟩;refine⟨_,rfl,rfl,_,rfl,B4 (JK u) ?_⟩;refine⟨_,rfl,.inl ⟨rfl,_,SqL.of hd⟩,ld,_,p1.1,rfl,rfl,hd,K2,?_⟩;rw[KI];have k2:Kp H' (upd H' ld (.lst ((ws2++[p2]).map (·.1)))):=Kp.put hd;have s2:Same H (upd H' ld (.lst ((ws2++[p2]).map (·.1)))):=λ b o e=>by rw[Af (Ah e hld)];exact s1 b o e
   have d2:(upd H' ld (.lst ((ws2++[p2]).map (·.1)))) ld=some (.lst ((ws2++[p2]).map (·.1))):=upd_same;generalize upd H' ld (.lst ((ws2++[p2]).map (·.1)))=H2 at k2 s2 d2 |-;refine⟨_,rfl,.inl ⟨rfl,_,SqL.of d2⟩,ld,_,p2.1,rfl,rfl,d2,K2,?_⟩;rw[KI];have k3:Kp H2 (upd H2 ld (.lst (ws2.map (·.1)))):=Kp.put d2;have s3:Same H (upd H2 ld (.lst (ws2.map (·.1)))):=λ b o e=>by rw[Af (Ah e hld)];exact s2 b o e
   have d3:(upd H2 ld (.lst (ws2.map (·.1)))) ld=some (.lst (ws2.map (·.1))):=upd_same;generalize upd H2 ld (.lst (ws2.map (·.1)))=H3 at k3 s3 d3 |-;have kk:=k2.trans k3;refine⟨_,rfl,.inl ⟨rfl,_,SqL.of d3⟩,_,rfl,_,rfl,_,rfl,_,rfl,u,k,p1.1,p2.1,p1.2,p2.2,rfl,(hob p1 (by simp)).kp kk,(hob p2 (by simp)).kp kk,λ v' H4 s4 o4=>?_⟩;have d4:=s4 _ _ d3;rw[ak,ak]at wl;refine⟨ld,_,v',rfl,rfl,d4,At (by rw[ae];lia),?_⟩;have k5:Kp H4 (upd H4 ld (.lst (ws2.map (·.1)++[v']))):=Kp.put d4;refine⟨ws2++[(v',.cut u k p1.2 p2.2)],_,_,_,_,rfl,λ b o e=>?_,?_,λ p hp=>?_,?_⟩
   .rw[Af (Ah e hld)];exact s4 b o (s3 b o e)
   .rw[upd_same,ah];rfl
   .rcases aw.mp hp with hp|hp
    .exact((((hob p (by simp[hp])).kp kk).same s4)).kp k5
    .rw[aa.mp hp];exact o4.kp k5
   .rw[hdr,heq,B5,B5,B5];show .c u k::(ents p1.2++(ents p2.2++Ef ws2))=.c u k::(ents p1.2++ents p2.2)++Ef ws2;rw[aX,aK]
 .rintro σ H' ⟨ws,x2,x3,x4,x5,rfl,s1,hd,hob,heq⟩;rw[hxl,bV,List.drop_zero]at heq;have one:ws.length=1:=by
   have h1:=C0 t;rw[heq,FX]at h1;lia
  obtain⟨p,rfl⟩:∃p,ws=[p]:=by
   match ws,one with
   |[p],_=>exact⟨p,rfl⟩
  have hp:=hob p (by simp);have et:p.2=t:=by
   have h1:ents t++[]=ents p.2++[]:=by
    rw[aI,heq];rfl
   exact(GX _ _ _ _ h1).1.symm
  refine⟨_,rfl,.inl ⟨rfl,_,SqL.of hd⟩,ld,_,p.1,rfl,rfl,hd,rfl,?_⟩;rw[et]at hp;exact q _ _ (λ b o e=>by rw[Af (Ah e hld)];exact s1 b o e) (hp.kp (Kp.put hd))
def PsAt(H:Hp)(ws:List (Addr×Rk×Tr)):Prop:=∀p∈ws,H p.1=some (.tup p.2.1.vs)
abbrev trs(ws:List (Addr×Rk×Tr)):List (V×Tr):=ws.map λ p=>(V.ref p.1,p.2.2)
abbrev Bo(ws:List (Addr×Rk×Tr)):LUz:=ws.map λ p=>V.ref p.1
theorem PsAt.kp{H H':Hp}{ws:List (Addr×Rk×Tr)}(h:PsAt H ws)(k:Kp H H'):PsAt H' ws:=λ p hp=>k _ _ (h p hp) (by intro xs z;cases z)
theorem NF{ws0:List (Addr×Rk×Tr)}{p:Addr×Rk×Tr}:(Bo (ws0++[p]))[(Bo (ws0++[p])).length-1]?=some (.ref p.1):=by
 rw[ae,ak,aM,Nat.add_sub_cancel,aE,bj (aj _),bV];rfl
theorem NN{ws0:List (Addr×Rk×Tr)}{p:Addr×Rk×Tr}:(Bo (ws0++[p])).dropLast=Bo ws0:=by
 show(List.map (λ p=>V.ref p.1) (ws0++[p])).dropLast=_;rw[ah,dJ,eX]
theorem B8(ws:List (Addr×Rk×Tr))(p:Addr×Rk×Tr):trs (ws++[p])=trs ws++[(V.ref p.1,p.2.2)]:=by
 show List.map (λ p=>(V.ref p.1,p.2.2)) (ws++[p])=_;rw[ah];rfl
theorem HR(ws:List (Addr×Rk×Tr))(p:Addr×Rk×Tr):Bo (ws++[p])=Bo ws++[V.ref p.1]:=by
 show List.map (λ p=>V.ref p.1) (ws++[p])=_;rw[ah];rfl
theorem TabOk.upd{pos:Pos}{qual:Str}{T l:Addr}{H:Hp}{xs ys:LUz}(h:TabOk pos qual T H)(hl:H l=some (.lst xs)):TabOk pos qual T (upd H l (.lst ys)):=by
 obtain⟨ps,e,t,c⟩:=h;refine⟨ps,by rw[Af (λ z=>by rw[z,hl]at e;cases e)];exact e,t,?_⟩;rcases c with c|⟨c',c1,c2⟩
 .exact .inl c
 .exact .inr ⟨c',c1,by rw[Af (λ z=>by rw[z,hl]at c2;cases c2)];exact c2⟩
theorem Obj.n{H H':Hp}(s:SameN H H'):∀{t:Tr}{v:V},Obj cW cU cL H t v->Obj cW cU cL H' t v
 |.whole m,v,h=>by
  rw[Obj]at h |-;obtain⟨a,dx,e,h⟩:=h;exact⟨a,dx,e,s _ _ h λ_ z=>nomatch z⟩
 |.cut u k x y,v,h=>by
  rw[Obj]at h |-;obtain⟨a,dx,vx,vy,e,h,h1,h2⟩:=h;exact⟨a,dx,vx,vy,e,s _ _ h (λ_ z=>nomatch z),Obj.n s h1,Obj.n s h2⟩
theorem none_of{H H':Hp}{l:Addr}(s:Same H H')(h:H' l=none):H l=none:=by
 cases e:H l with
 |none=>rfl
 |some o=>rw[s _ _ e]at h;cases h
theorem M0{H:Hp}{x acc:Addr}{xs ys zs:LUz}(e:H x=some (.tup xs))(ha:H acc=some (.lst ys)):(upd H acc (.lst zs)) x=some (.tup xs):=by
 rw[Af (λ z=>by rw[z,ha]at e;cases e)];exact e
def Lg(en:Rk->En)(D:Rk->Prop):Tr->Rk->Prop
 |.whole m,p=>D p/\en p=.w m
 |.cut u k x y,p=>D p/\en p=.c u k/\Lg en D x (p.fst u k)/\Lg en D y (p.oth u k)
def spE(en:Rk->En)(D:Rk->Prop):Sp:=λ vs H Q _=>∃(a:Addr)(p:Rk),vs=[.ref a]/\H a=some (.tup p.vs)/\D p/\∀e H',Same H H'->H' e=some (.tup (enV (en p)))->Q (.ref e) H'
inductive P3(P:Program)(w:World)(K:Frag)(mg:MGz)(base:Heap)(vs:LUz)(H:Hp)(Q:VK)(E:XK):Prop
 |mk (a f:Addr) (p:Rk) (t:Tr) (en:Rk->En) (D:Rk->Prop) (h0:vs=[.ref a,.ref f]) (h1:H a=some (.tup p.vs)) (h2:FvOk P w K mg base 3 H f (spE en D)) (h3:Lg en D t p) (h4:t.nd<=400) (h5:∀l xs H',Same H H'->H l=none->H' l=some (.lst xs)->EnsAt H' xs (ents t)->Q (.ref l) H'):P3 P w K mg base vs H Q E
def QN(P:Program)(w:World)(K:Frag)(mg:MGz)(base:Heap) :Sp:=λ vs H Q E=>P3 P w K mg base vs H Q E
abbrev Tm(en:Rk->En)(D:Rk->Prop)(H:Hp)(a f:Addr)(t:Tr)(le lw:Addr)(m:Nat)(σ:St)(H':Hp):Prop:=∃(xs:LUz)(es:List En)(ws:List (Addr×Rk×Tr))(x4 x5:Option V),σ=[some (.ref a),some (.ref f),some (.ref le),some (.ref lw),x4,x5]/\Same H H'/\H' le=some (.lst xs)/\EnsAt H' xs es/\H' lw=some (.lst (Bo ws))/\PsAt H' ws/\(∀p∈ws,Lg en D p.2.2 p.2.1)/\es++Ef (trs ws)=ents t/\m=cnt (trs ws)
theorem K8(e:En):inV ((enV e).headD .non) [V.str "upright",V.str "level"]=match e with
  |.w _=>false
  |.c _ _=>true:=by
 cases e with
 |w m =>
  show(eqV (V.str "upright") (V.str "whole")||(eqV (V.str "level") (V.str "whole")||false))=false;decide +kernel
 |c u k =>
  cases u
  .show(eqV (V.str "upright") (V.str "level")||(eqV (V.str "level") (V.str "level")||false))=true;decide +kernel
  .show(eqV (V.str "upright") (V.str "upright")||(eqV (V.str "level") (V.str "upright")||false))=true;decide +kernel
theorem Ho{f:Addr}{fd:FuncData}(F:Fun K "entries_by" "entries_by" CF f fd)(T:Txt mg tk)(D_first_piece:AC P w K mg base 1 "first_piece" ["piece","word","at"] Lr)(D_other_piece:AC P w K mg base 1 "other_piece" ["piece","word","at"] Lq):A3 P w K mg base CX0 4 f fd ["sheet","entry_at"] (QN P w K mg base):=by
 have S:Aj ["sheet","entry_at","entries","waiting","piece","entry"] ["sheet","entry_at"] (Ad CF):=fsk;refine F.g S ?_;rintro vs H Q E ⟨a,fv,p,t,en,D,rfl,ha,hfv,gr,hn,q⟩;refine⟨rfl,λ cdv A outer s hr=>?_⟩;refine⟨_,(Ae (Au (i:=2) S.nd rfl (aF rfl) (Bc Ab))
  (Ae (Au (i:=3) S.nd rfl (aF rfl) (Bc (Aa (pv 0) Ab)))
  (Ae (O4 PassesOwn.never (Dk (pv 3) (λ_=>rfl)) (Ae (Au (i:=4) S.nd rfl (aF rfl) (Ji br cz cy Jp (pv 3)))
  (Ae (Au (i:=5) S.nd rfl (aF rfl) (SC (k:=3) hr (pv 1) (Aa (pv 4) Ab)))
  (Ae (AU (BJ (pv 2) (Aa (pv 5) Ab)))
  (Ag (AB (Aq N3 (Ak ix_tup (pv 5) Ac (λ_ _=>rfl)) (An (Aa (Az (v:=.str "upright") rfl T.g_UPRIGHT ⟨_,rfl⟩) (Aa (Az (v:=.str "level") rfl T.g_LEVEL ⟨_,rfl⟩) Ab))) rfl) (Ae (AU (BJ (pv 3) (Aa (A2 D_other_piece hr (Aa (pv 4) (Aa (Ak ix_tup (pv 5) Ac (λ_ _=>rfl)) (Aa (Ak ix_tup (pv 5) Ac (λ_ _=>rfl)) Ab)))) Ab)))
  (Ag (AU (BJ (pv 3) (Aa (A2 D_first_piece hr (Aa (pv 4) (Aa (Ak ix_tup (pv 5) Ac (λ_ _=>rfl)) (Aa (Ak ix_tup (pv 5) Ac (λ_ _=>rfl)) Ab)))) Ab))))) Ay))))))
  (Ag (As (pv 2)))))),?_⟩
 refine⟨Ao 0,λ le hle=>⟨_,rfl,Ao 1,λ lw hlw=>?_⟩⟩;have nel:le≠lw:=Ah upd_same hlw;have s0:Same H (upd (upd H le (.lst [])) lw (.lst [.ref a])):=(Same.new hle).trans (Same.new hlw);have hlw0:H lw=none:=none_of (Same.new hle) hlw;refine⟨Tm en D H a fv t le lw,
  ⟨_,[],[],[(a,p,t)],none,none,rfl,s0,by rw[Af nel];exact upd_same,trivial,upd_same,λ r hr=>?_,λ r hr=>?_,?_,rfl⟩,?_⟩
 .rw[aa.mp hr];exact s0 _ _ ha
 .rw[aa.mp hr];exact gr
 .show[]++Ef [(V.ref a,t)]=ents t;rw[Fh];rfl
 rintro m σ H' ⟨xs,es,ws,x4,x5,rfl,s1,hl,hen,hw,hps,hgr,heq,rfl⟩;have tot:es.length+cnt (trs ws)=t.nd:=by rw[<-Dv,<-heq,ak,GU]
 rcases DO ws with rfl|⟨ws0,r,rfl⟩
 .refine⟨_,rfl,_,.inl ⟨_,SqL.of hw,rfl⟩,B4 rfl ⟨_,rfl,q le xs H' s1 hle hl ?_⟩⟩;rw[<-heq];show EnsAt H' xs (es++[]);rw[aI];exact hen
 .refine⟨_,rfl,_,.inl ⟨_,SqL.of hw,rfl⟩,C9 (by simp) ⟨λ σ' H''=>∃m',m'<cnt (trs (ws0++[r]))/\Tm en D H a fv t le lw m' σ' H'',λ σ' H'' z=>z,?_⟩⟩;obtain⟨pa,pk,pt⟩:=r;have hp0:=hps (pa,pk,pt) (by simp);have hg0:=hgr (pa,pk,pt) (by simp);refine⟨_,rfl,.inl ⟨rfl,_,SqL.of hw⟩,lw,_,_,rfl,rfl,hw,NF,?_⟩;rw[NN];have k2:Kp H' (upd H' lw (.lst (Bo ws0))):=Kp.put hw;have s2:Same H (upd H' lw (.lst (Bo ws0))):=λ b o e=>by rw[Af (Ah e hlw0)];exact s1 b o e
  have l2:(upd H' lw (.lst (Bo ws0))) le=some (.lst xs):=by rw[Af nel];exact hl
  have w2:(upd H' lw (.lst (Bo ws0))) lw=some (.lst (Bo ws0)):=upd_same;generalize upd H' lw (.lst (Bo ws0))=H2 at k2 s2 l2 w2 |-;have hp2:=k2 _ _ hp0 (by intro xs z;cases z);have ps2:PsAt H2 ws0:=λ r hr=>k2 _ _ (hps r (bG _ hr)) (by intro xs z;cases z);have gr2:∀r∈ws0,Lg en D r.2.2 r.2.1:=λ r hr=>hgr r (bG _ hr);have hen2:=hen.kp k2;rw[B8,B5]at heq;rw[B8,Dx]at tot;have hxl:=hen.len;have np:=OL pt;have hDp:D pk:=by cases pt<;>exact hg0.1
  refine⟨_,rfl,fv,spE en D,rfl,hfv.same s2,_,rfl,Same.refl H2,pa,pk,rfl,hp2,hDp,λ ea H3 s3 e3=>?_⟩;have l3:=s3 _ _ l2;refine⟨_,rfl,.inl ⟨rfl,_,SqL.of l3⟩,_,rfl,le,xs,.ref ea,rfl,rfl,l3,At (by lia),?_⟩;have k4:Kp H3 (upd H3 le (.lst (xs++[.ref ea]))):=Kp.put l3;have s4:Same H (upd H3 le (.lst (xs++[.ref ea]))):=λ b o e=>by rw[Af (Ah e hle)];exact s3 b o (s2 b o e)
  have l4:(upd H3 le (.lst (xs++[.ref ea]))) le=some (.lst (xs++[.ref ea])):=upd_same;have w4:(upd H3 le (.lst (xs++[.ref ea]))) lw=some (.lst (Bo ws0)):=by rw[Af (Ne.symm nel)];exact s3 _ _ w2
  have en4:EnsAt (upd H3 le (.lst (xs++[.ref ea]))) (xs++[.ref ea]) (es++[en pk]):=((hen2.kp (GK s3)).kp k4).snoc (k4 _ _ e3 (by intro xs z;cases z));have kk:=(GK s3).trans k4;have e4:=k4 _ _ e3 (by intro xs z;cases z);generalize upd H3 le (.lst (xs++[.ref ea]))=H4 at k4 s4 l4 w4 en4 kk e4 |-;have hp4:=kk _ _ hp2 (by intro xs z;cases z);have ps4:PsAt H4 ws0:=ps2.kp kk;cases pt with
  |whole m =>
   have een:en pk=.w m:=hg0.2;rw[een]at e4 en4;refine⟨_,rfl,ea,_,_,_,rfl,rfl,SqT.of e4,Bn,Ao 2,λ tt ntt=>?_⟩;obtain⟨H5,g,s5,e5⟩:=nw (.tup [.str "upright",.str "level"]) ntt;rw[g];refine⟨tt,_,rfl,.inr (SqT.of e5),rfl,rfl,_,rfl,B4 (by rw[if_neg au];exact K8 (.w m)) ?_⟩;refine⟨cnt (trs ws0),by rw[B8,Dx];exact dk _,_,_,ws0,_,_,rfl,s4.trans s5,s5 _ _ l4,en4.kp (GK s5),s5 _ _ w4,ps4.kp (GK s5),gr2,?_,rfl⟩;rw[<-heq,aK];rfl
  |cut u k y1 y2 =>
   obtain⟨_,een,g1,g2⟩:=hg0;have een:en pk=.c u k:=een;rw[een]at e4 en4;refine⟨_,rfl,ea,_,_,_,rfl,rfl,SqT.of e4,Bn,Ao 2,λ tt ntt=>?_⟩;obtain⟨H5,g,s5,e5⟩:=nw (.tup [.str "upright",.str "level"]) ntt;rw[g];refine⟨tt,_,rfl,.inr (SqT.of e5),rfl,rfl,_,rfl,C9 (by rw[if_neg au];exact K8 (.c u k)) ?_⟩;have e55:=s5 _ _ e4;have w5:=s5 _ _ w4;have hp5:=s5 _ _ hp4;refine⟨_,rfl,.inl ⟨rfl,_,SqL.of w5⟩,_,rfl,_,rfl,ea,_,_,_,rfl,rfl,SqT.of e55,Bn,_,rfl,ea,_,_,_,rfl,rfl,SqT.of e55,Bm,pa,pk,u,k,rfl,hp5,λ t6 n6=>?_⟩;obtain⟨H6,g,s6,e6⟩:=nw (.tup (pk.oth u k).vs) n6;rw[g];have w6:=s6 _ _ w5;have cl:=JD (trs ws0);rw[ae]at cl;have ndp:(Tr.cut u k y1 y2).nd=y1.nd+y2.nd+1:=rfl;refine⟨lw,_,_,rfl,rfl,w6,At (by rw[ae];lia),?_⟩;have k7:Kp H6 (upd H6 lw (.lst (Bo ws0++[.ref t6]))):=Kp.put w6;have s7:Same H (upd H6 lw (.lst (Bo ws0++[.ref t6]))):=λ b o e=>by rw[Af (Ah e hlw0)];exact s6 _ _ (s5 _ _ (s4 b o e))
   have l7:(upd H6 lw (.lst (Bo ws0++[.ref t6]))) le=some (.lst (xs++[.ref ea])):=by rw[Af nel];exact s6 _ _ (s5 _ _ l4)
   have w7:(upd H6 lw (.lst (Bo ws0++[.ref t6]))) lw=some (.lst (Bo ws0++[.ref t6])):=upd_same;have kk7:=((GK s5).trans (GK s6)).trans k7;have e7:=k7 _ _ e6 (by intro xs z;cases z);generalize upd H6 lw (.lst (Bo ws0++[.ref t6]))=H7 at k7 s7 l7 w7 kk7 e7 |-;have ea7:=kk7 _ _ e4 (by intro xs z;cases z);have hp7:=kk7 _ _ hp4 (by intro xs z;cases z);refine⟨_,rfl,.inl ⟨rfl,_,SqL.of w7⟩,_,rfl,_,rfl,ea,_,_,_,rfl,rfl,SqT.of ea7,Bn,_,rfl,ea,_,_,_,rfl,rfl,SqT.of ea7,Bm,pa,pk,u,k,rfl,hp7,λ t8 n8=>?_⟩;obtain⟨H8,g,s8,e8⟩:=nw (.tup (pk.fst u k).vs) n8;rw[g];have w8:=s8 _ _ w7;refine⟨lw,_,_,rfl,rfl,w8,At (by rw[ak,ae,aM];lia),?_⟩;have k9:Kp H8 (upd H8 lw (.lst (Bo ws0++[.ref t6]++[.ref t8]))):=Kp.put w8;have kk9:=(GK s8).trans k9;have kall:=kk7.trans kk9;refine⟨cnt (trs (ws0++[(t6,pk.oth u k,y2)]++[(t8,pk.fst u k,y1)])),?_,xs++[.ref ea],es++[.c u k],ws0++[(t6,pk.oth u k,y2)]++[(t8,pk.fst u k,y1)],_,_,rfl,λ b o e=>?_,?_,en4.kp kall,?_,λ r hr=>?_,λ r hr=>?_,?_,rfl⟩
   .rw[B8,B8,Dx,Dx,B8,Dx];show cnt (trs ws0)+y2.nd+y1.nd<cnt (trs ws0)+(y1.nd+y2.nd+1);lia
   .rw[Af (Ah e hlw0)];exact s8 b o (s7 b o e)
   .rw[Af nel];exact s8 _ _ l7
   .rw[upd_same,HR,HR]
   .rcases aw.mp hr with hr|hr
    .rcases aw.mp hr with hr|hr
     .exact kall _ _ (ps4 r hr) (by intro xs z;cases z)
     .rw[aa.mp hr];exact kk9 _ _ e7 (by intro xs z;cases z)
    .rw[aa.mp hr];exact k9 _ _ e8 (by intro xs z;cases z)
   .rcases aw.mp hr with hr|hr
    .rcases aw.mp hr with hr|hr
     .exact gr2 r hr
     .rw[aa.mp hr];exact g2
    .rw[aa.mp hr];exact g1
   .rw[B8,B8,B5,B5,<-heq];show es++[.c u k]++(ents y1++(ents y2++Ef (trs ws0)))=es++(.c u k::(ents y1++ents y2)++Ef (trs ws0));simp[aK]
def MM:Expr:=match (Ap AO).getD 0 (.Pass ⟨0,0,0,0⟩) with
 |.Return (some (.Call _ [.Call _ [_,k] _ _] _ _)) _=>k
 |_=>.Constant .none 0 ⟨0,0,0,0⟩
def QR:Arguments:=match MM with|.Lambda p _ _ _=>p|_=>AV AO
def QS:Expr:=match MM with|.Lambda _ b _ _=>b|e=>e
def lamS2:Scope:=match MM with|.Lambda _ _ s _=>s|_=>Ad AO
def BN:Pos:=match MM with|.Lambda _ _ _ q=>q|_=>⟨0,0,0,0⟩
def BE:Str:="tree_in.<locals>.<lambda>"
theorem Sb:KY "piece" ["entries"] lamS2:=⟨rfl,rfl,rfl,rfl,by decide +kernel,λ y hy=>(by decide +kernel:∀p∈lamS2.names,p.2=.free->p.1∈(["entries"]:LSz)) _ (PySem.mem_of_lookup hy) rfl,by decide +kernel⟩
abbrev Na(L:Nat):List (Str×Addr):=[("entries",L+1)]
theorem EnsAt.tups{H H':Hp}(s:∀a xs,H a=some (.tup xs)->H' a=some (.tup xs)):∀{vs:LUz}{es:List En},EnsAt H vs es->EnsAt H' vs es
 |[],[],_=>trivial
 |v::r,e::q,h=>⟨let ⟨a,b,c⟩:=h.1;⟨a,b,s _ _ c⟩,EnsAt.tups s h.2⟩
 |[],_::_,h=>h
 |_::_,[],h=>h
inductive Hi(tb2 cW cU cL:Addr)(vs:LUz)(H:Hp)(Q:VK)(E:XK):Prop
 |mk (d a:Addr) (kvs:LKz) (p:Rk) (t:Tr) (en:Rk->En) (D:Rk->Prop) (h0:vs=[.ref d,.ref a]) (h1:H d=some (.dT kvs)) (h2:H a=some (.tup p.vs)) (h3:(∀q,D q->∃c,DJ kvs (rkK q)=some (.ref c)/\H c=some (.tup (enV (en q))))) (h4:Lg en D t p) (h5:t.nd<=400) (h6:TabOk BN BE tb2 H) (h7:∀v H',SameX tb2 H H'->TabOk BN BE tb2 H'->Obj cW cU cL H' t v->Q v H'):Hi tb2 cW cU cL vs H Q E
def EN(tb2 cW cU cL:Addr) :Sp:=λ vs H Q E=>Hi tb2 cW cU cL vs H Q E
theorem L8{f:Addr}{fd:FuncData}{c tb2:Addr}(F:FunC K "tree_in" "tree_in" AO f fd c)(hC:JC K c tb2=true)(hB:Sf K mg)(D_entries_by:AC P w K mg base 4 "entries_by" ["sheet","entry_at"] (QN P w K mg base))(D_tree_from:AC P w K mg base 4 "tree_from" ["entries"] (IN K cW cU cL)) :
  A3 P w K mg base CX0 5 f fd ["entries","sheet"] (EN tb2 cW cU cL):=by
 have S:Aj ["entries","sheet"] ["entries","sheet"] (Ad AO):=fsk;refine F.g S ?_;rintro vs H Q E ⟨d,a,kvs,p,t,en,D,rfl,hd,ha,he,gr,tn,tb,q⟩;refine⟨rfl,λ A outer s hr=>?_⟩;have hlam:=R5 (X:=(Bd CX0 P w K mg base ["entries","sheet"] "tree_in" (Ad AO) f (.ref c) A outer s H E).nox) (params:=QR) (body:=QS) (scope:=lamS2) (pos:=BN) (qual:=BE) (clos:=Na s.heap.objs.size) rfl (codeTB_of hC) hB rfl rfl rfl;have hcl:∀p∈Na s.heap.objs.size,(Bd CX0 P w K mg base ["entries","sheet"] "tree_in" (Ad AO) f (.ref c) A outer s H E).nox.env.cells.lookup p.1=some p.2/\(Bd CX0 P w K mg base ["entries","sheet"] "tree_in" (Ad AO) f (.ref c) A outer s H E).nox.env.kindOf p.1=some .cell:=λ p hp=>by
  rw[aa.mp hp];exact⟨rfl,rfl⟩
 refine⟨_,(Ag (As (A2 D_tree_from hr (Aa (R6 (clos:=Na s.heap.objs.size) D_entries_by hr (Aa (pv 1) (Aa hlam Ab)) hcl (λ_=>rfl) rfl) Ab)))),?_⟩;have tbl:=tb.tbl;refine⟨_,rfl,TabOk.lamC tb λ c' fl ctv H1 s1 tab1 hf hc hnew=>?_⟩;have ne1:∀{x:Addr}{u:HO},H x=some u->(∀ps,u≠.tbl ps)->x≠tb2:=λ{x u} e n z=>by obtain⟨ps,e'⟩:=tbl;rw[z,e']at e;cases e;exact n _ rfl
 intro Lc CA;have tup1:∀{x:Addr}{xs:LUz},H x=some (.tup xs)->H1 x=some (.tup xs):=λ e=>s1 _ _ (ne1 e (by intro ps z;cases z)) e;have hd1:H1 d=some (.dT kvs):=s1 _ _ (ne1 hd (by intro ps z;cases z)) hd;have up:∀{x:Addr}{u:HO},H1 x=some u->(tkd H1 Lc) x=some u:=λ e=>by rw[AH (Do CA.new e)];exact e
 have fv:=RP (P:=P) (w:=w) (K:=K) (mg:=mg) (base:=base) (k:=2) (H:=tkd H1 Lc) (f:=fl) (c':=c') (params:=QR) (body:=QS) (scope:=lamS2) (qual:=BE) (pn:="piece") (ctv:=ctv) (fs:=["entries"]) (clos:=Na s.heap.objs.size) (cv:=[.ref d]) (L:=Lc)
  (te:=QM (Nt 1) (Nt 0))
  (up hf) (up hc) Sb rfl (λ y=>?_) (λ x y cc h1 h2=>?_) (λ a o e=>Ge e) CA.has (λ p hp i v hi hv=>?_) (λ_ _=>.of_eq rfl)
  (λ A' outer' s' H' Hx E' hr'=>AN (Fu hr') (pv 1) (pv 0) (λ_ _=>rfl))
 .refine⟨a,fl,p,t,_,_,rfl,up (tup1 ha),fv.imp λ vs H' Q' E' sm' hsp=>?_,gr,tn,λ l xs H2 s2 nl hl hens=>?_⟩
  .obtain⟨a',p',rfl,ha',ins2,q'⟩:=hsp;have hL':∀a o,Lc.lookup a=some o->H' a=some (B3 a o):=λ a o e=>sm' _ _ (Ge e);have kp:∀{x:Addr}{u:HO},H1 x=some u->(∀o,u≠B3 x o)->(utk H' Lc) x=some u:=λ e n=>IM hL' (sm' _ _ (up e)) n;obtain⟨c1,e1,e2⟩:=he p' ins2;have dg:=DGet.t (k:=rkK p') (kp hd1 (by intro o z;cases z)) (show(utk H' Lc) a'=some (.tup ((rkK p').map kV)) from IM hL' ha' (by intro o z;cases z));rw[e1]at dg;refine⟨_,rfl,_,rfl,_,rfl,d,_,rfl,dg,q' _ _ (λ x o e=>?_) ?_⟩
   .cases q:Lc.lookup x with
    |some o'=>rw[hL' x o' q]at e;cases e;exact Ge q
    |none=>rw[AH q,Be q];exact e
   .rw[AH (Do CA.new (tup1 e2))];exact kp (tup1 e2) (by intro o z;cases z)
  .obtain⟨sU,hk⟩:=Ox CA.new s2;refine⟨hk,l,xs,t,rfl,SqL.of (IM hk hl (by intro o z;cases z)),hens.tups (λ a xs e=>IM hk e (by intro o z;cases z)),by lia,λ v' H3 s3 ob=>?_⟩;exact q v' H3 (s1.trans (sU.x.trans s3.x)) ((tab1.same sU).same s3) ob
 .constructor
  .rintro⟨cc,h⟩;have:=PySem.mem_of_lookup h;cases aa.mp this;simp
  .intro hy;rw[aa.mp hy];exact⟨_,rfl⟩
 .have m1:=aa.mp (PySem.mem_of_lookup h1);have m2:=aa.mp (PySem.mem_of_lookup h2);exact(congrArg eU m1).trans (congrArg eU m2).symm
 .have hp':=aa.mp hp;subst hp'
  match i,hi with
  |0,_ =>
   cases hv;exact CA.val _ hp 0 _ rfl rfl
theorem TkAt.n{H H':Hp}{t:Tk1}(h:TkAt H t)(s:SameN H H'):TkAt H' t:=⟨s.tup h.1,s _ _ h.2.1 (λ_ z=>nomatch z),h.2.2.tups λ a xs e=>s.tup e⟩
theorem BnAt.n{C a dx ls lt:Addr}{H H':Hp}{ss:LZ}{tn:List Tk1}(h:BnAt C a dx ls lt H ss tn)(s:SameN H H'):BnAt C a dx ls lt H' ss tn :=
 ⟨s _ _ h.ob (λ_ z=>nomatch z),s.lst h.lst,λ t ht=>s.tup (h.stk t ht),s.lst h.tak,λ t ht=>(h.tks t ht).n s,h.dis⟩
def P4(H:Hp)(ss:LZ)(t:Tk1)(r:Tr):Prop:=0<=t.2.1/\∃u,ss[t.2.1.toNat]?=some u/\∃(en:Rk->En)(D:Rk->Prop),(∀q,D q->∃c,DJ t.2.2.2.1 (rkK q)=some (.ref c)/\H c=some (.tup (enV (en q))))/\Lg en D r (shR u.2)/\r.nd<=400
inductive F4(tb2 C cW cU cL:Addr)(vs:LUz)(H:Hp)(Q:VK)(E:XK):Prop
 |mk (a dx ls lt:Addr) (ss:LZ) (tn:List Tk1) (tr:Nat->Tr) (h0:vs=[.ref a]) (h1:BnAt C a dx ls lt H ss tn) (h2:tn.length<=100) (h3:TabOk BN BE tb2 H) (h4:(∀i t,tn[i]?=some t->P4 H ss t (tr i))) (h5:∀l (ts:List (Addr×V)) H',SameX tb2 H H'->TabOk BN BE tb2 H'->H l=none->H' l=some (.lst (Ai ts))->ts.length=tn.length->(∀i x t,ts[i]?=some x->tn[i]?=some t->H' x.1=some (.tup [.int t.2.1,x.2])/\Obj cW cU cL H' (tr i) x.2)->Q (.ref l) H'):F4 tb2 C cW cU cL vs H Q E
def DN(tb2 C cW cU cL:Addr) :Sp:=λ vs H Q E=>F4 tb2 C cW cU cL vs H Q E
theorem FA{f tb2:Addr}{fd:FuncData}{C:Addr}(F:Fun K "sheets" "Bench.sheets" Cb f fd)(BC:JI K C)(D_tree_in:AC P w K mg base 5 "tree_in" ["entries","sheet"] (EN tb2 cW cU cL)):A3 P w K mg base CX0 6 f fd ["self"] (DN tb2 C cW cU cL):=by
 have S:Aj ["self"] ["self"] (Ad Cb):=fsk;refine F.g S ?_;rintro vs H Q E ⟨a,dx,ls,lt,ss,tn,tr,rfl,bn,few,tb,each,q⟩;refine⟨rfl,λ cdv A outer s hr=>?_⟩;have tbl:=tb.tbl;refine⟨_,(Ag (As (Jg rfl (BP (CL (pv 0) rfl)) (λ_ _ _ _ _=>(Cp (K:=K) (n:=2) rfl (Am (Al (i:=0) (nk ["number","entries","self"]) rfl (aF rfl)) (Am (Al (i:=1) (nk ["number","entries","self"]) rfl (aF rfl)) AM)))) (λ_ _ _ _ _=>(An (Aa (pv 0) (Aa (A2 D_tree_in hr (Aa (pv 1) (Aa (Ak (OS (K:=K)) (Qc (K:=K) (pv 2) rfl) (pv 0) (λ_ _=>rfl)) Ab))) Ab)))) (N:=["number","entries","self"]) (fr:=[none,none,some 0])))),?_⟩;have snew:∀{l:Addr},H l=none->l≠tb2:=λ e z=>by obtain⟨ps,e'⟩:=tbl;rw[z,e']at e;cases e
 refine⟨_,rfl,a,C,dx,_,_,rfl,bn.ob,BC.cl,BC.n_taken,Iq _ _,lt,rfl,⟨_,SqL.of bn.tak⟩,λ acc hacc=>DB (K:=K) (a:=lt) (ys:=Ai tn) (λ i zs σ H'=>(∃x y,σ=[x,y,some (.ref a)])/\SameX tb2 H H'/\TabOk BN BE tb2 H'/\∃ts:List (Addr×V),zs=Ai ts/\ts.length=i/\∀j x t,ts[j]?=some x->tn[j]?=some t->H' x.1=some (.tup [.int t.2.1,x.2])/\Obj cW cU cL H' (tr j) x.2)
  ⟨⟨none,none,rfl⟩,(Same.new hacc).x,tb.same (Same.new hacc),[],rfl,rfl,λ j x t e=>by cases e⟩ (λ i zs σ H' _ _ hp=>SqL.of ((hp.2.1.toN tbl).lst bn.tak)) ?_ ?_⟩
 .rintro i x zs σ H1 hx hi hl' hacc' ⟨⟨x0,y0,rfl⟩,sx,tb1,ts,rfl,lts,hts⟩;obtain⟨t,ht,rfl⟩:=AY hx;have sN:=sx.toN tbl;have bn1:=bn.n sN;obtain⟨g1,g2,g3⟩:=bn1.tks t (ai ht);obtain⟨p0,u,hu',en,D,he,gr,nd⟩:=each i t ht;have um:=ai hu';have at1:atI (Ai ss) t.2.1=some (.ref u.1):=by
   have:=Bs (xs:=Ai ss) (j:=t.2.1.toNat) (v:=.ref u.1) (by unfold Ai;rw[aE,hu'];rfl);rwa [ci p0]at this
  refine⟨t.1,_,rfl,SqT.of g1,rfl,_,_,rfl,_,_,rfl,rfl,?_⟩;refine⟨_,rfl,_,rfl,_,rfl,a,C,dx,_,_,rfl,bn1.ob,BC.cl,BC.n_stock,Nd _ _,_,rfl,ls,_,_,_,rfl,rfl,SqL.of bn1.lst,at1,t.2.2.1,u.1,t.2.2.2.1,shR u.2,tr i,en,D,rfl,g2,bn1.stk u um,(λ q hq=>let ⟨c,e1,e2⟩:=he q hq;⟨c,e1,sN.tup e2⟩),gr,nd,tb1,λ v H2 s2 tb3 ob=>⟨Ao 2,λ p np=>?_⟩⟩;obtain⟨H3,g,s3,e3⟩:=nw (.tup [.int t.2.1,v]) np;rw[g];have ac3:=s3 _ _ (s2 _ _ (snew hacc) hacc');have s13:SameX tb2 H1 H3:=s2.trans s3.x;have sN3:SameN H1 H3:=s13.toN tb1.tbl;have kp:Kp H3 (upd H3 acc (.lst (Ai ts++[.ref p]))):=Kp.put ac3;refine cNx.mk (ba (At (by rw[Ax];lia))) hi hl' ac3 ⟨⟨_,_,rfl⟩,λ d o nd e=>by rw[Af (Ah e hacc)];exact s13 _ _ nd (sx d o nd e),TabOk.upd (tb3.same s3) ac3,ts++[(p,v)],by unfold Ai;rw[ah];rfl,by rw[ak,aM,lts],λ j y t' hj hj'=>?_⟩;rcases bh j ts.length with jl|jl
  .rw[c8 jl]at hj;obtain⟨a1,a2⟩:=hts j y t' hj hj';exact⟨M0 (sN3.tup a1) ac3,(Obj.n sN3 a2).kp kp⟩
  .have ej:j=ts.length:=by
    rcases bh ts.length j with h|h
    .rw[dC (by rw[ak,aM];lia)]at hj;cases hj
    .lia
   subst ej;rw[bj (aj _),bV]at hj;cases hj;rw[lts,ht]at hj';cases hj';rw[lts];exact⟨M0 e3 ac3,(ob.same s3).kp kp⟩
 .rintro zs σ H1 hl' hacc' ⟨_,sx,tb1,ts,rfl,lts,hts⟩;rw[Ax]at lts;exact q acc ts H1 sx tb1 hacc hacc' lts hts
theorem RO{t:Bl}{W T:Int}(h1:t.1<=W)(h2:t.2.1<=T):∃r,AA t W T=(t.1,t.2.1)::r:=by
 unfold AA Bx;split
 .rw[be,if_pos (by rw[decide_eq_true h1,decide_eq_true h2];rfl)];exact⟨_,rfl⟩
 .rw[be,if_pos (by rw[decide_eq_true h1,decide_eq_true h2];rfl)];exact⟨_,rfl⟩
theorem RN{t:Bl}{W T:Int}(h:¬(t.1<=W/\t.2.1<=T))(h0:t.2.2=true)(h1:t.2.1<=W)(h2:t.1<=T):AA t W T=[(t.2.1,t.1)]:=by
 unfold AA Bx;rw[if_pos h0,be,if_neg (by intro z;rw[aP]at z;exact h ⟨of_decide_eq_true z.1,of_decide_eq_true z.2⟩),be,if_pos (by rw[decide_eq_true h1,decide_eq_true h2];rfl)];rfl
theorem LY{t:Bl}{W T:Int}(h:¬(t.1<=W/\t.2.1<=T))(h0:¬(t.2.2=true/\t.2.1<=W/\t.1<=T)):AA t W T=[]:=by
 have n1:¬(decide (t.1<=W)&&decide (t.2.1<=T))=true:=by intro z;rw[aP]at z;exact h ⟨of_decide_eq_true z.1,of_decide_eq_true z.2⟩
 unfold AA Bx;split
 .rename_i c;rw[be,if_neg n1,be,if_neg (by intro z;rw[aP]at z;exact h0 ⟨c,of_decide_eq_true z.1,of_decide_eq_true z.2⟩)];rfl
 .rw[be,if_neg n1];rfl
inductive ID(vs:LUz)(H:Hp)(Q:VK)(E:XK):Prop
 |mk (s:Addr) (W T:Int) (t:Bl) (h0:vs=[.ref s,.int t.1,.int t.2.1,.bl t.2.2]) (h1:H s=some (.tup [.int W,.int T])) (h2:(AA t W T=[]->Q .non H)) (h3:∀z r,AA t W T=z::r->∀c,H c=none->Q (.ref c) (upd H c (.tup [.int z.1,.int z.2]))):ID vs H Q E
def Gi:Sp:=λ vs H Q E=>ID vs H Q E
theorem Kj{f:Addr}{fd:FuncData}(F:Fun K "_law_held" "_law_held" BA f fd):A3 P w K mg base CX0 1 f fd ["_law_size","_law_width","_law_height","_law_turns"] Gi:=by
 have S:Aj ["_law_size","_law_width","_law_height","_law_turns"] ["_law_size","_law_width","_law_height","_law_turns"] (Ad BA):=fsk;refine F.g S ?_;rintro vs H Q E ⟨sz,W,T,t,rfl,hs,q0,q1⟩;refine⟨rfl,λ cdv A outer s hr=>?_⟩;obtain⟨tB,hB,kB⟩:∃rd,PSs (Bd CX0 P w K mg base ["_law_size","_law_width","_law_height","_law_turns"] "_law_held" (Ad BA) f cdv A outer s H E).nox ((Ap BA).drop 1) rd/\(¬(t.1<=W/\t.2.1<=T)->rd { nx:=λ_ H'=>Q .non H',rt:=Q } [some (.ref sz),some (.int t.1),some (.int t.2.1),some (.bl t.2.2)] H):=by
  refine⟨_,(Ae (AB (PW.pt (EW (Dk (pv 3) (λ_=>rfl)) (EW (Aq MF (Ak ix_tup (pv 0) Ac (λ_ _=>rfl)) (pv 2) (Av _)) (Ew (Aq MF (Ak ix_tup (pv 0) Ac (λ_ _=>rfl)) (pv 1) (Av _)))))) (Ag (As (An (Aa (pv 2) (Aa (pv 1) Ab))))) Ay)
  (Ag (As AL))),λ no=>?_⟩
  refine⟨_,rfl,_,rfl,?_⟩;cases ht:t.2.2 with
  |false=>exact B4 rfl (q0 (LY no (λ z=>by rw[ht]at z;cases z.1)))
  |true =>
   refine C9 rfl ?_;refine⟨_,rfl,sz,_,_,_,rfl,rfl,SqT.of hs,Bn,_,rfl,_,_,rfl,rfl,_,rfl,Bi (λ c1=>?_) (λ c1=>q0 (LY no (λ z=>of_decide_eq_false c1 z.2.1)))⟩;refine⟨_,rfl,sz,_,_,_,rfl,rfl,SqT.of hs,Bm,_,rfl,_,_,rfl,rfl,_,rfl,Bi (λ c2=>?_) (λ c2=>q0 (LY no (λ z=>of_decide_eq_false c2 z.2.2)))⟩;exact⟨_,rfl,_,rfl,Ao 2,λ c hc=>q1 _ _ (RN no ht (of_decide_eq_true c1) (of_decide_eq_true c2)) c hc⟩
 refine⟨_,(Ae (AB (PW.pt (EW (Aq MF (Ak ix_tup (pv 0) Ac (λ_ _=>rfl)) (pv 1) (Av _)) (Ew (Aq MF (Ak ix_tup (pv 0) Ac (λ_ _=>rfl)) (pv 2) (Av _))))) (Ag (As (An (Aa (pv 1) (Aa (pv 2) Ab))))) Ay)
  hB),?_⟩
 refine⟨_,rfl,sz,_,_,_,rfl,rfl,SqT.of hs,Bn,_,rfl,_,_,rfl,rfl,_,rfl,Bi (λ c1=>?_) (λ c1=>kB (λ z=>of_decide_eq_false c1 z.1))⟩;refine⟨_,rfl,sz,_,_,_,rfl,rfl,SqT.of hs,Bm,_,rfl,_,_,rfl,rfl,_,rfl,Bi (λ c2=>?_) (λ c2=>kB (λ z=>of_decide_eq_false c2 z.2))⟩;obtain⟨r,e⟩:=RO (of_decide_eq_true c1) (of_decide_eq_true c2);exact⟨_,rfl,_,rfl,Ao 2,λ c hc=>q1 _ _ e c hc⟩
inductive IE(vs:LUz)(H:Hp)(Q:VK)(E:XK):Prop
 |mk (a:Addr) (p:Rk) (h0:vs=[.ref a]) (h1:H a=some (.tup p.vs)) (h2:A6 p) (h3:Q (.int (arR p)) H):IE vs H Q E
def JX:Sp:=λ vs H Q E=>IE vs H Q E
theorem Km{f:Addr}{fd:FuncData}(F:Fun K "_law_area" "_law_area" Dj f fd):A3 P w K mg base CX0 1 f fd ["_law_block"] JX:=by
 have S:Aj ["_law_block"] ["_law_block"] (Ad Dj):=fsk;refine F.g S ?_;rintro vs H Q E ⟨a,p,rfl,ha,⟨p1,p2,p3,p4,p5,p6⟩,q⟩;refine⟨rfl,λ cdv A outer s hr=>?_⟩;refine⟨_,(Ag (As (Aw CN (Aw B1 (Ak ix_tup (pv 0) Ac (λ_ _=>rfl)) (Ak ix_tup (pv 0) Ac (λ_ _=>rfl))) (Aw B1 (Ak ix_tup (pv 0) Ac (λ_ _=>rfl)) (Ak ix_tup (pv 0) Ac (λ_ _=>rfl)))))),?_⟩;exact⟨_,rfl,a,_,_,_,rfl,rfl,SqT.of ha,at2,_,rfl,a,_,_,_,rfl,rfl,SqT.of ha,at0,_,_,rfl,rfl,_,rfl,a,_,_,_,rfl,rfl,SqT.of ha,at3,_,rfl,a,_,_,_,rfl,rfl,SqT.of ha,at1,_,_,rfl,rfl,_,_,rfl,rfl,HZ (by lia) (by lia) (by lia) (by lia),q⟩
def stK(a b c d:Addr):List (Key×V):=[(Sum.inr "sheets",.ref a),(Sum.inr "taken",.ref b),(Sum.inr "offcuts",.ref c),(Sum.inr "panes",.ref d)]
structure LsAt(H:Hp)(d a b c e:Addr)(zs:LI)(tk:List Int)(os ps:List Of1):Prop where
 dic:H d=some (.dK (stK a b c e))
 sh:TupL H a zs
 tak:H b=some (.lst (tk.map V.int))
 off:H c=some (.lst (Ai os))
 ofs:∀t∈os,OfAt H t
 pan:H e=some (.lst (Ai ps))
 pns:∀t∈ps,OfAt H t
 nbc:b≠c
 nbe:b≠e
 nce:c≠e
 nab:a≠b
 nac:a≠c
 nae:a≠e
theorem LsAt.same{H H':Hp}{d a b c e:Addr}{zs:LI}{tk:List Int}{os ps:List Of1}(h:LsAt H d a b c e zs tk os ps)(s:Same H H'):LsAt H' d a b c e zs tk os ps :=
 ⟨s _ _ h.dic,h.sh.same s,s _ _ h.tak,s _ _ h.off,λ t ht=>(h.ofs t ht).tups λ x xs e=>s _ _ e,s _ _ h.pan,λ t ht=>(h.pns t ht).tups λ x xs e=>s _ _ e,h.nbc,h.nbe,h.nce,h.nab,h.nac,h.nae⟩
inductive F0(vs:LUz)(H:Hp)(Q:VK)(E:XK):Prop
 |mk (d a b c e:Addr) (zs:LI) (tk:List Int) (os ps:List Of1) (t:Bl) (h0:vs=[.ref d,.int t.1,.int t.2.1,.bl t.2.2]) (h1:LsAt H d a b c e zs tk os ps) (h2:zs.length<=4) (h3:(∀z∈zs,SOk z)) (h4:tk.length<=200) (h5:os.length<=63) (h6:(∀y∈os,A6 y.2.2.2/\0<=y.2.2.1/\y.2.2.1<=999)) (h7:(∀y∈os.map (λ t:Of1=>t.2.2),hld t y.2->(∀y'∈os.map (λ t:Of1=>t.2.2),hld t y'.2->DE y<=DE y')->∀r q H',Same H H'->OfAt H' (r,q,y)->Q (.ref r) H')) (h8:((∀y∈os.map (λ t:Of1=>t.2.2),¬hld t y.2)->∀(k:Nat)(z:Int×Int),zs[k]?=some z->hld t (shR z)->(∀(k':Nat)(z':Int×Int),zs[k']?=some z'->hld t (shR z')->BL [arR (shR z),k]<=BL [arR (shR z'),k']) ->
  ∀r q H',LsAt H' d a b c e zs (tk++[(k:Int)]) (os++[(r,q,(tk.length:Int),shR z)]) ps->(∀x o,x≠b->x≠c->H x=some o->H' x=some o)->Q (.ref r) H')) (h9:((∀y∈os.map (λ t:Of1=>t.2.2),¬hld t y.2)->(∀z∈zs,¬hld t (shR z))->∀H',Same H H'->Q .non H')):F0 vs H Q E
def Gj:Sp:=λ vs H Q E=>F0 vs H Q E
theorem D7(y:Int×Rk):DE y=arR y.2*28561000+FD y:=by
 unfold DE FD;simp only[FE,LQ];lia
theorem FM{y:Int×Rk}(h:A6 y.2/\0<=y.1/\y.1<=999):0<=FD y/\FD y<28561000:=by
 have b:=Dn h.1;unfold FD;simp only[FE];lia
def Tj(t:Bl)(L:LK)(H:Hp):Option V->Prop
 |some .non=>∀y∈L,¬hld t y.2
 |some (.ref r)=>∃(q:Addr)(y:Int×Rk),OfAt H (r,q,y)/\y∈L/\hld t y.2/\∀y'∈L,hld t y'.2->DE y<=DE y'
 |_=>False
theorem hld_sh{t:Bl}{z:Int×Int}:hld t (shR z)↔AA t z.1 z.2≠[]:=by
 show AA t (z.1-0) (z.2-0)≠[]↔_;rw[cZ,cZ]
theorem Pw(z:Int×Int):arR (shR z)=z.1*z.2:=by
 show(z.2-0)*(z.1-0)=_;rw[cZ,cZ,Int.mul_comm]
def Ti(t:Bl)(zs:LI)(i:Nat):Option V->Option V->Prop
 |some .non,some (.int _)=>∀(k:Nat)(z:Int×Int),k<i->zs[k]?=some z->¬hld t (shR z)
 |some (.int k0),some (.int m)=>∃(k:Nat)(z:Int×Int),k0=k/\k<i/\zs[k]?=some z/\hld t (shR z)/\m=z.1*z.2/\∀(k':Nat)(z':Int×Int),k'<i->zs[k']?=some z'->hld t (shR z')->BL [arR (shR z),(k:Int)]<=BL [arR (shR z'),(k':Int)]
 |_,_=>False
abbrev Ui:LSz:=["_law_state","_law_width","_law_height","_law_turns","_law_found","_law_number","_law_block","_law_size","_law_least","_law_k","_law_piece"]
theorem Hn{f:Addr}{fd:FuncData}(F:Fun K "_law_choice" "_law_choice" Cu f fd)(T:Txt mg tk)(D__law_held:AC P w K mg base 1 "_law_held" ["_law_size","_law_width","_law_height","_law_turns"] Gi)(D__law_area:AC P w K mg base 1 "_law_area" ["_law_block"] JX):A3 P w K mg base CX0 2 f fd ["_law_state","_law_width","_law_height","_law_turns"] Gj:=by
 have S:Aj Ui ["_law_state","_law_width","_law_height","_law_turns"] (Ad Cu):=fsk;refine F.g S ?_;rintro vs H Q E ⟨d,a,b,c,e,zs,tk,os,ps,t,rfl,ls,z4,so,tk2,o9,ok1,qA,qB,qC⟩;refine⟨rfl,λ cdv A outer s hr=>?_⟩;have hu:=Fu hr;refine⟨_,(Ae (Au (i:=4) S.nd rfl (aF rfl) AL)
  (Ae (Cc PassesOwn.never rfl (BP (Ar (Cz hr) rfl T.z_sorted rfl (Aa (AN hu (pv 0) A8 (λ_ _=>rfl)) Ab))) (Cw rfl (Am (Al (i:=5) S.nd rfl (aF rfl)) (Am (Al (i:=6) S.nd rfl (aF rfl)) AM))) (Ae (Au (i:=7) S.nd rfl (aF rfl) (An (Aa (Aw B1 (Ak ix_tup (pv 6) Ac (λ_ _=>rfl)) (Ak ix_tup (pv 6) Ac (λ_ _=>rfl))) (Aa (Aw B1 (Ak ix_tup (pv 6) Ac (λ_ _=>rfl)) (Ak ix_tup (pv 6) Ac (λ_ _=>rfl))) Ab))))
  (Ag (AB (Aq EA (A2 D__law_held hr (Aa (pv 7) (Aa (pv 1) (Aa (pv 2) (Aa (pv 3) Ab))))) AL (Av _)) (Ag (AB (PW.pt (Gu (Aq Ea (pv 4) AL (Av _)) (DW (Aq Kg (A2 D__law_area hr (Aa (pv 6) Ab)) (A2 D__law_area hr (Aa (Ak ix_tup (pv 4) Ac (λ_ _=>rfl)) Ab)) (Av _))))) (Ag (Au (i:=4) S.nd rfl (aF rfl) (An (Aa (pv 5) (Aa (pv 6) Ab))))) Ay)) Ay))))
  (Ae (AB (Aq EA (pv 4) AL (Av _)) (Ag (As (pv 4))) Ay)
  (Ae (Au (i:=8) S.nd rfl (aF rfl) Ac)
  (Ae (Cc PassesOwn.never rfl (C4 rfl T.z_range (Aa (Ar A1 rfl T.z_len rfl (Aa (AN hu (pv 0) A8 (λ_ _=>rfl)) Ab)) Ab)) (Al (i:=9) S.nd rfl (aF rfl)) (Ae (Au (i:=7) S.nd rfl (aF rfl) (Ak ix_list (AN hu (pv 0) A8 (λ_ _=>rfl)) (pv 9) (λ_ _=>rfl)))
  (Ag (AB (Aq EA (A2 D__law_held hr (Aa (pv 7) (Aa (pv 1) (Aa (pv 2) (Aa (pv 3) Ab))))) AL (Av _)) (Ag (AB (PW.pt (Gu (Aq Ea (pv 4) AL (Av _)) (DW (Aq Kg (Aw CN (Ak ix_tup (pv 7) Ac (λ_ _=>rfl)) (Ak ix_tup (pv 7) Ac (λ_ _=>rfl))) (pv 8) (Av _))))) (Ae (Au (i:=4) S.nd rfl (aF rfl) (pv 9))
  (Ag (Au (i:=8) S.nd rfl (aF rfl) (Aw CN (Ak ix_tup (pv 7) Ac (λ_ _=>rfl)) (Ak ix_tup (pv 7) Ac (λ_ _=>rfl)))))) Ay)) Ay))))
  (Ae (AB (Aq Ea (pv 4) AL (Av _)) (Ag (As AL)) Ay)
  (Ae (AU (BJ (AN hu (pv 0) A8 (λ_ _=>rfl)) (Aa (pv 4) Ab)))
  (Ae (Au (i:=10) S.nd rfl (aF rfl) (An (Aa (Aw B1 (Ar A1 rfl T.z_len rfl (Aa (AN hu (pv 0) A8 (λ_ _=>rfl)) Ab)) Ac) (Aa (An (Aa Ac (Aa Ac (Aa (Ak ix_tup (Ak ix_list (AN hu (pv 0) A8 (λ_ _=>rfl)) (pv 4) (λ_ _=>rfl)) Ac (λ_ _=>rfl)) (Aa (Ak ix_tup (Ak ix_list (AN hu (pv 0) A8 (λ_ _=>rfl)) (pv 4) (λ_ _=>rfl)) Ac (λ_ _=>rfl)) Ab))))) Ab))))
  (Ae (AU (BJ (AN hu (pv 0) A8 (λ_ _=>rfl)) (Aa (pv 10) Ab)))
  (Ag (As (pv 10)))))))))))),?_⟩
 have rr:Ai os=(os.map toR).map λ t=>V.ref t.1:=by rw[aY];rfl
 have dg:DGet H d (.str "offcuts") (some (.ref c)):=DGet.k (k:=Sum.inr "offcuts") ls.dic;refine⟨_,rfl,d,_,rfl,dg,c,os.map toR,0,3,FE,rfl,by rw[<-rr];exact SqL.of ls.off,by rw[ae];lia,λ g hg=>?_,λ g hg g' hg'=>?_,λ l ts2 nl pm srt=>?_⟩
 .obtain⟨x,hx,rfl⟩:=ay.mp hg;exact⟨(ls.ofs x hx).1,(ls.ofs x hx).2,rfl,rfl⟩
 .obtain⟨x,hx,rfl⟩:=ay.mp hg;obtain⟨y,hy,rfl⟩:=ay.mp hg';exact Qo (Dn (ok1 x hx).1) (Dn (ok1 y hy).1)
 obtain⟨us,pu,rfl⟩:=E5 (f:=toR) (l:=ts2) (m:=os.map toR) pm os rfl;have r2:((us.map toR).map λ t=>V.ref t.1)=Ai us:=by rw[aY];rfl
 rw[r2];rw[aY]at srt;obtain⟨H1,g,s1,e1⟩:=nw (.lst (Ai us)) nl;rw[g];refine⟨l,rfl,⟨_,SqL.of e1⟩,Pb (K:=K) (a:=l) (xs:=Ai us) (λ i σ H'=>∃x4 x5 x6 x7,σ=[some (.ref d),some (.int t.1),some (.int t.2.1),some (.bl t.2.2),x4,x5,x6,x7,none,none,none]/\Same H1 H'/\Tj t ((us.map λ t:Of1=>t.2.2).take i) H' x4) ⟨_,_,_,_,rfl,Same.refl _,(λ y hy=>nomatch hy)⟩ (λ i σ H' _ hp=>by obtain⟨_,_,_,_,_,s',_⟩:=hp;exact SqL.of (s' _ _ e1)) ?_ ?_⟩
 .rintro i x σ H2 hx ⟨x4,x5,x6,x7,rfl,s2,fd⟩;obtain⟨o,ho,rfl⟩:=AY hx;have om:=ai ho;have oo:=pu.mem_iff.mp om;obtain⟨pk,n0,n9⟩:=ok1 o oo;obtain⟨o1,o2⟩:=(ls.ofs o oo).tups λ x xs e=>(s1.trans s2) _ _ e;have tk1:(us.map λ t:Of1=>t.2.2).take (i+1)=(us.map λ t:Of1=>t.2.2).take i++[o.2.2]:=by rw[bU,aE,ho];rfl
  rw[tk1];have okL:∀y∈(us.map λ t:Of1=>t.2.2).take i,A6 y.2/\0<=y.1/\y.1<=999:=λ y hy=>by
   obtain⟨g,hg,rfl⟩:=ay.mp (eW hy);exact ok1 g (pu.mem_iff.mp hg)
  have before:∀y∈(us.map λ t:Of1=>t.2.2).take i,FD y<=FD o.2.2:=λ y hy=>by
   obtain⟨j,hj⟩:=bY.mp hy;rw[List.getElem?_take]at hj;split at hj
   .rename_i hji;rw[aE]at hj;obtain⟨g,hg,rfl⟩:=aN.mp hj;obtain⟨g1,g2⟩:=av.mp hg;obtain⟨h1,h2⟩:=av.mp ho;have:=c7.mp srt j i (by simpa using g1) (by simpa using h1) hji;rw[bI,bI,g2,h2]at this;exact this
   .cases hj
  generalize (us.map λ t:Of1=>t.2.2).take i=L at fd okL before |-;refine⟨o.1,_,rfl,SqT.of o1,rfl,_,_,rfl,_,_,rfl,rfl,?_⟩;refine⟨_,rfl,o.2.1,_,_,_,rfl,rfl,SqT.of o2,at3,_,rfl,o.2.1,_,_,_,rfl,rfl,SqT.of o2,at1,_,_,rfl,rfl,_,rfl,o.2.1,_,_,_,rfl,rfl,SqT.of o2,at2,_,rfl,o.2.1,_,_,_,rfl,rfl,SqT.of o2,at0,_,_,rfl,rfl,Ao 2,λ z nz=>?_⟩;obtain⟨H3,g,s3,e3⟩:=nw (.tup [(λ i j=>V.int (i-j)) o.2.2.2.r o.2.2.2.l,(λ i j=>V.int (i-j)) o.2.2.2.b o.2.2.2.t]) nz;rw[g];have e3:H3 z=some (.tup [.int (o.2.2.2.len true),.int (o.2.2.2.len false)]):=e3;refine⟨_,rfl,_,rfl,_,rfl,_,rfl,z,_,_,t,rfl,e3,(λ h0=>?_),(λ z' r' h1 cc ncc=>?_)⟩
  .have nh:¬hld t o.2.2.2:=λ zz=>zz h0;refine⟨rfl,_,rfl,B4 (by show(!decide (V.non=V.non))=false;rw[decide_eq_true rfl];rfl) ⟨_,_,_,_,rfl,s2.trans s3,?_⟩⟩
   match x4,fd with
   |some .non,fd =>
    intro y hy;rcases aw.mp hy with hy|hy
    .exact fd y hy
    .rw[aa.mp hy];exact nh
   |some (.ref r),⟨q,y,a1,a2,a3,a4⟩ =>
    refine⟨q,y,a1.tups λ x xs e=>s3 _ _ e,bG _ a2,a3,λ y' hy' h'=>?_⟩;rcases aw.mp hy' with hy'|hy'
    .exact a4 y' hy' h'
    .rw[aa.mp hy']at h';exact absurd h' nh
  .have yh:hld t o.2.2.2:=λ zz=>by rw[zz]at h1;cases h1
   obtain⟨H4,g,s4,_⟩:=nw (.tup [.int z'.1,.int z'.2]) ncc;rw[g];have s24:=s3.trans s4;have o14:=s24 _ _ o1;have o24:=s24 _ _ o2;refine⟨rfl,_,rfl,C9 (by show(!decide (V.ref cc=V.non))=true;rw[decide_eq_false (by intro z;cases z)];rfl) ?_⟩;have setP:∀(x5' x6' x7':Option V) r (nr:H4 r=none),(∀y'∈L,hld t y'.2->DE o.2.2<=DE y')->∃a1 a2 a3 a4,[some (V.ref d),some (.int t.1),some (.int t.2.1),some (.bl t.2.2),some (.ref r),x5',x6',x7',none,none,none]=[some (V.ref d),some (.int t.1),some (.int t.2.1),some (.bl t.2.2),a1,a2,a3,a4,none,none,none]/\Same H1 (upd H4 r (.tup [.int o.2.2.1,.ref o.2.1]))/\Tj t (L++[o.2.2]) (upd H4 r (.tup [.int o.2.2.1,.ref o.2.1])) a1:=λ x5' x6' x7' r nr least=>by
    have s5:Same H4 (upd H4 r (.tup [.int o.2.2.1,.ref o.2.1])):=Same.new nr;refine⟨_,_,_,_,rfl,s2.trans (s24.trans s5),o.2.1,o.2.2,⟨upd_same,s5 _ _ o24⟩,az _ (aa.mpr rfl),yh,λ y' hy' h'=>?_⟩;rcases aw.mp hy' with hy'|hy'
    .exact least y' hy' h'
    .rw[aa.mp hy'];exact bb _
   match x4,fd with
   |some .non,fd =>
    refine⟨_,rfl,rfl,_,rfl,C9 (decide_eq_true rfl) ?_⟩;exact⟨_,rfl,_,rfl,Ao 2,λ r nr=>setP _ _ _ r nr (λ y' hy' h'=>absurd h' (fd y' hy'))⟩
   |some (.ref r),⟨q,y,a1,a2,a3,a4⟩ =>
    obtain⟨b1,b2⟩:=a1.tups λ x xs e=>s24 _ _ e;have py:=okL y a2;refine⟨_,rfl,rfl,_,rfl,B4 (decide_eq_false (by intro z;cases z)) ?_⟩;refine⟨_,rfl,o.2.1,o.2.2.2,rfl,o24,pk,_,rfl,r,_,_,_,rfl,rfl,SqT.of b1,Bm,q,y.2,rfl,b2,py.1,_,_,rfl,rfl,_,rfl,Bi (λ c1=>?_) (λ c1=>?_)⟩
    .have c1:=of_decide_eq_true c1;refine⟨_,rfl,_,rfl,Ao 2,λ r2 nr2=>setP _ _ _ r2 nr2 (λ y' hy' h'=>?_)⟩;have k1:=a4 y' hy' h';have k2:=FM (y:=o.2.2) ⟨pk,n0,n9⟩;have k3:=FM py;rw[D7]at k1 |-;rw[D7]at k1 |-;have:arR o.2.2.2+1<=arR y.2:=c1;lia
    .have c1:=of_decide_eq_false c1;refine⟨_,_,_,_,rfl,s2.trans s24,q,y,a1.tups λ x xs e=>s24 _ _ e,bG _ a2,a3,λ y' hy' h'=>?_⟩;rcases aw.mp hy' with hy'|hy'
     .exact a4 y' hy' h'
     .rw[aa.mp hy',D7,D7];have:=before y a2;have:arR y.2<=arR o.2.2.2:=by lia
      lia
 .rintro σ H2 ⟨x4,x5,x6,x7,rfl,s2,fd⟩;rw[Ax,<-ae (f:=λ t:Of1=>t.2.2),bE]at fd;have mem:∀y,y∈us.map (λ t:Of1=>t.2.2)↔y∈os.map (λ t:Of1=>t.2.2):=λ y=>(pu.map _).mem_iff;have s02:=s1.trans s2
  match x4,fd with
  |some (.ref r),⟨q,y,a1,a2,a3,a4⟩ =>
   refine⟨_,rfl,rfl,_,rfl,C9 (by show(!decide (V.ref r=V.non))=true;rw[decide_eq_false (by intro z;cases z)];rfl) ?_⟩;exact⟨_,rfl,qA y ((mem y).mp a2) a3 (λ y' hy' h'=>a4 y' ((mem y').mpr hy') h') r q H2 s02 a1⟩
  |some .non,fd =>
   refine⟨_,rfl,rfl,_,rfl,B4 (by show(!decide (V.non=V.non))=false;rw[decide_eq_true rfl];rfl) ?_⟩;have no:∀y∈os.map (λ t:Of1=>t.2.2),¬hld t y.2:=λ y hy=>fd y ((mem y).mpr hy);have ls2:=ls.same s02;obtain⟨zt,z1,z2,z3⟩:=ls2.sh;have zl:zt.length=zs.length:=by rw[<-z3,ae]
   have dgS:DGet H2 d (.str "sheets") (some (.ref a)):=DGet.k (k:=Sum.inr "sheets") ls2.dic;refine⟨_,rfl,d,_,rfl,dgS,a,_,rfl,.inl (SqL.of z1),_,rfl,by rw[Ax];lia,by rw[Ax];lia,?_⟩;rw[Ax,zl,bQ];refine DA (lo:=0) (n:=zs.length) (λ i σ H'=>∃x4 x7 x8 x9,σ=[some (.ref d),some (.int t.1),some (.int t.2.1),some (.bl t.2.2),x4,x5,x6,x7,x8,x9,none]/\Same H2 H'/\Ti t zs i x4 x8) ⟨_,_,_,_,rfl,Same.refl _,λ k z hk=>absurd hk (dz _)⟩ ?_ ?_
   .rintro i σ H3 hi ⟨x4,x7,x8,x9,rfl,s3,fd2⟩;rw[cH];obtain⟨u,hu'⟩:∃u,zt[i]?=some u:=⟨_,ag (by lia)⟩;have um:=ai hu';have zi:zs[i]?=some u.2:=by rw[<-z3,aE,hu'];rfl
    obtain⟨w1,w2,h1,h2⟩:=so u.2 (ai zi);have atk:atI (Ai zt) (i:Int)=some (.ref u.1):=Bs (xs:=Ai zt) (j:=i) (v:=.ref u.1) (by unfold Ai;rw[aE,hu'];rfl);have dg3:DGet H3 d (.str "sheets") (some (.ref a)):=DGet.k (k:=Sum.inr "sheets") (s3 _ _ ls2.dic);have u3:=s3 _ _ (z2 u um);refine⟨_,rfl,d,_,rfl,dg3,_,rfl,a,_,_,_,rfl,rfl,SqL.of (s3 _ _ z1),atk,?_⟩;refine⟨_,rfl,_,rfl,_,rfl,_,rfl,u.1,_,_,t,rfl,u3,(λ h0=>?_),(λ z' r' e1' cc ncc=>?_)⟩
    .have nh:¬hld t (shR u.2):=λ zz=>hld_sh.mp zz h0;refine⟨rfl,_,rfl,B4 (by show(!decide (V.non=V.non))=false;rw[decide_eq_true rfl];rfl) ⟨_,_,_,_,rfl,s3,?_⟩⟩
     match x4,x8,fd2 with
     |some .non,some (.int _),fd2 =>
      intro k z hk hz;rcases bh k i with l|l
      .exact fd2 k z l hz
      .rw[show k=i by lia,zi]at hz;cases hz;exact nh
     |some (.int k0),some (.int m),⟨k,z,b1,b2,b3,b4,b5,b6⟩ =>
      refine⟨k,z,b1,by lia,b3,b4,b5,λ k' z' hk hz h'=>?_⟩;rcases bh k' i with l|l
      .exact b6 k' z' l hz h'
      .rw[show k'=i by lia,zi]at hz;cases hz;exact absurd h' nh
    .have yh:hld t (shR u.2):=hld_sh.mpr (λ zz=>by rw[zz]at e1';cases e1');obtain⟨H4,g,s4,_⟩:=nw (.tup [.int z'.1,.int z'.2]) ncc;rw[g];have u4:=s4 _ _ u3;refine⟨rfl,_,rfl,C9 (by show(!decide (V.ref cc=V.non))=true;rw[decide_eq_false (by intro z;cases z)];rfl) ?_⟩;have setP:(∀(k':Nat)(z':Int×Int),k'<i->zs[k']?=some z'->hld t (shR z')->BL [arR (shR u.2),(i:Int)]<=BL [arR (shR z'),(k':Int)])->Ti t zs (i+1) (some (.int (i:Int))) (some (.int (u.2.1*u.2.2))):=λ least=>by
      refine⟨i,u.2,rfl,by lia,zi,yh,rfl,λ k' z' hk hz h'=>?_⟩;rcases bh k' i with l|l
      .exact least k' z' l hz h'
      .rw[show k'=i by lia,zi]at hz;cases hz;rw[show k'=i by lia];exact bb _
     have mul:=HZ (a:=u.2.1) (b:=u.2.2) (by lia) (by lia) (by lia) (by lia)
     match x4,x8,fd2 with
     |some .non,some (.int _),fd2 =>
      refine⟨_,rfl,rfl,_,rfl,C9 (decide_eq_true rfl) ?_⟩;exact⟨_,rfl,_,rfl,u.1,_,_,_,rfl,rfl,SqT.of u4,Bn,_,rfl,u.1,_,_,_,rfl,rfl,SqT.of u4,Bm,_,_,rfl,rfl,mul,_,_,_,_,rfl,s3.trans s4,setP (λ k' z' hk hz h'=>absurd h' (fd2 k' z' hk hz))⟩
     |some (.int k0),some (.int m),⟨k,z,b1,b2,b3,b4,b5,b6⟩ =>
      refine⟨_,rfl,rfl,_,rfl,B4 (decide_eq_false (by intro z;cases z)) ?_⟩;refine⟨_,rfl,u.1,_,_,_,rfl,rfl,SqT.of u4,Bn,_,rfl,u.1,_,_,_,rfl,rfl,SqT.of u4,Bm,_,_,rfl,rfl,mul,_,rfl,_,_,rfl,rfl,_,rfl,Bi (λ c1=>?_) (λ c1=>?_)⟩
      .have c1:=of_decide_eq_true c1;refine⟨_,rfl,_,rfl,u.1,_,_,_,rfl,rfl,SqT.of u4,Bn,_,rfl,u.1,_,_,_,rfl,rfl,SqT.of u4,Bm,_,_,rfl,rfl,mul,_,_,_,_,rfl,s3.trans s4,setP (λ k' z'' hk hz h'=>?_)⟩;have:=b6 k' z'' hk hz h';rw[Pw]at this |-;simp only[BL]at this |-;lia
      .have c1:=of_decide_eq_false c1;refine⟨_,_,_,_,rfl,s3.trans s4,k,z,b1,by lia,b3,b4,b5,λ k' z'' hk hz h'=>?_⟩;rcases bh k' i with l|l
       .exact b6 k' z'' l hz h'
       .rw[show k'=i by lia,zi]at hz;cases hz;rw[Pw,Pw];simp only[BL];lia
   .rintro σ H3 ⟨x4,x7,x8,x9,rfl,s3,fd2⟩
    match x4,x8,fd2 with
    |some .non,some (.int _),fd2 =>
     refine⟨_,rfl,rfl,_,rfl,C9 (decide_eq_true rfl) (qC no (λ z hz=>?_) H3 (s02.trans s3))⟩;obtain⟨k,hk⟩:=bY.mp hz;exact fd2 k z (av.mp hk).1 hk
    |some (.int k0),some (.int m),⟨k,z,b1,b2,b3,b4,b5,b6⟩ =>
     subst b1;refine⟨_,rfl,rfl,_,rfl,B4 (decide_eq_false (by intro z;cases z)) ?_⟩;have ls3:=ls2.same s3;obtain⟨u,hu',uz⟩:∃u,zt[k]?=some u/\u.2=z:=by
      rw[<-z3,aE]at b3;exact aN.mp b3
     subst uz;have um:=ai hu';have atk:atI (Ai zt) (k:Int)=some (.ref u.1):=Bs (xs:=Ai zt) (j:=k) (v:=.ref u.1) (by unfold Ai;rw[aE,hu'];rfl);have dgT:DGet H3 d (.str "taken") (some (.ref b)):=DGet.k (k:=Sum.inr "taken") ls3.dic;refine⟨_,rfl,d,_,rfl,dgT,.inl ⟨rfl,_,SqL.of ls3.tak⟩,_,rfl,b,_,_,rfl,rfl,ls3.tak,At (by rw[ae];lia),?_⟩;have tkE:tk.map V.int++[V.int (k:Int)]=(tk++[(k:Int)]).map V.int:=by rw[ah];rfl
     rw[tkE];have x4:SameX b H3 (upd H3 b (.lst ((tk++[(k:Int)]).map V.int))):=SameX.upd;have x4e:(upd H3 b (.lst ((tk++[(k:Int)]).map V.int))) b=some (.lst ((tk++[(k:Int)]).map V.int)):=upd_same;generalize upd H3 b (.lst ((tk++[(k:Int)]).map V.int))=H4 at x4 x4e |-;have nb:∀{x:Addr}{o:HO},H3 x=some o->(∀xs,o≠.lst xs)->H4 x=some o:=λ e n=>x4 _ _ (λ zz=>by rw[zz,ls3.tak]at e;cases e;exact n _ rfl) e;have d4:=nb ls3.dic (by intro xs zz;cases zz);have a4:=x4 _ _ ls3.nab (s3 _ _ z1);have u4:=nb (s3 _ _ (z2 u um)) (by intro xs zz;cases zz);have dgT4:DGet H4 d (.str "taken") (some (.ref b)):=DGet.k (k:=Sum.inr "taken") d4;have dgS4:DGet H4 d (.str "sheets") (some (.ref a)):=DGet.k (k:=Sum.inr "sheets") d4;refine⟨_,rfl,d,_,rfl,dgT4,b,_,rfl,.inl (SqL.of x4e),_,_,rfl,rfl,_,rfl,d,_,rfl,dgS4,_,rfl,a,_,_,_,rfl,rfl,SqL.of a4,atk,u.1,_,_,_,rfl,rfl,SqT.of u4,Bm,_,rfl,d,_,rfl,dgS4,_,rfl,a,_,_,_,rfl,rfl,SqL.of a4,atk,u.1,_,_,_,rfl,rfl,SqT.of u4,Bn,Ao 4,λ q nq=>⟨Ao 2,λ r nr=>?_⟩⟩;obtain⟨H5,g,s5,e5⟩:=nw (.tup [.int 0,.int 0,.int u.2.2,.int u.2.1]) nq;rw[g] at nr |-;have e5:H5 q=some (.tup (shR u.2).vs):=e5;have ln:((((tk++[(k:Int)]).map V.int).length:Nat):Int)-1=(tk.length:Int):=by rw[ae,ak,aM];lia
     have e6':(upd H5 r (.tup [(λ i j=>V.int (i-j)) ((((tk++[(k:Int)]).map V.int).length:Nat):Int) 1,.ref q])) r=some (.tup [.int (tk.length:Int),.ref q]):=by
      rw[upd_same];show some (HO.tup [V.int (((((tk++[(k:Int)]).map V.int).length:Nat):Int)-1),V.ref q])=_;rw[ln]
     obtain⟨H6,g,s6,_⟩:=nw (.tup [(λ i j=>V.int (i-j)) ((((tk++[(k:Int)]).map V.int).length:Nat):Int) 1,.ref q]) nr;rw[g] at e6' |-;have s46:=s5.trans s6;have d6:=s46 _ _ d4;have c6:=s46 _ _ (x4 _ _ (Ne.symm ls3.nbc) ls3.off);have dgO:DGet H6 d (.str "offcuts") (some (.ref c)):=DGet.k (k:=Sum.inr "offcuts") d6;refine⟨_,rfl,d,_,rfl,dgO,.inl ⟨rfl,_,SqL.of c6⟩,_,rfl,c,_,_,rfl,rfl,c6,At (by rw[Ax];lia),?_⟩;have osE:Ai os++[V.ref r]=Ai (os++[((r,q,(tk.length:Int),shR u.2):Of1)]):=by rw[Ai,Ai,ah];rfl
     rw[osE];have x7:SameX c H6 (upd H6 c (.lst (Ai (os++[((r,q,(tk.length:Int),shR u.2):Of1)])))):=SameX.upd;have x7e:(upd H6 c (.lst (Ai (os++[((r,q,(tk.length:Int),shR u.2):Of1)])))) c=some (.lst (Ai (os++[((r,q,(tk.length:Int),shR u.2):Of1)]))):=upd_same;generalize upd H6 c (.lst (Ai (os++[((r,q,(tk.length:Int),shR u.2):Of1)])))=H7 at x7 x7e |-;have kp:∀{x:Addr}{o:HO},H3 x=some o->x≠b->x≠c->H7 x=some o:=λ e n1 n2=>x7 _ _ n2 (s46 _ _ (x4 _ _ n1 e));have nl3:∀{x y:Addr}{o:HO}{xs:LUz},H3 x=some o->H3 y=some (.lst xs)->(∀xs,o≠.lst xs)->x≠y:=λ e e' n zz=>by rw[zz,e']at e;cases e;exact n _ rfl
     have tp:∀x xs,H3 x=some (.tup xs)->H7 x=some (.tup xs):=λ x xs e=>kp e (nl3 e ls3.tak (by intro xs zz;cases zz)) (nl3 e ls3.off (by intro xs zz;cases zz));have c6n:∀{x:Addr}{xs:LUz},H6 x=some (.tup xs)->x≠c:=λ e zz=>by rw[zz,c6]at e;cases e
     refine⟨_,rfl,qB no k u.2 b3 b4 (λ k' z' hk h'=>b6 k' z' (av.mp hk).1 hk h') r q H7 ⟨kp ls3.dic (nl3 ls3.dic ls3.tak (by intro xs zz;cases zz)) (nl3 ls3.dic ls3.off (by intro xs zz;cases zz)),⟨zt,kp (s3 _ _ z1) ls3.nab ls3.nac,λ g hg=>tp _ _ (s3 _ _ (z2 g hg)),z3⟩,x7 _ _ ls3.nbc (s46 _ _ x4e),x7e,λ g hg=>?_,kp ls3.pan (Ne.symm ls3.nbe) (Ne.symm ls3.nce),λ g hg=>(ls3.pns g hg).tups tp,ls3.nbc,ls3.nbe,ls3.nce,ls3.nab,ls3.nac,ls3.nae⟩ (λ x o n1 n2 e=>kp ((s02.trans s3) _ _ e) n1 n2)⟩;rcases aw.mp hg with hg|hg
     .exact(ls3.ofs g hg).tups tp
     .rw[aa.mp hg];exact⟨x7 _ _ (c6n e6') e6',x7 _ _ (c6n (s6 _ _ e5)) (s6 _ _ e5)⟩
def DV(y:Int×Rk):D:=.tup (.cons (.at (.int y.1)) (.cons (.tup (AT [y.2.t,y.2.l,y.2.b,y.2.r])) .nil))
theorem CJ{K:Frag}{H:Hp}{t:Of1}(h:OfAt H t):DIs K H (DV t.2.2) (.ref t.1):=by
 unfold DV;rw[DIs];refine⟨_,_,rfl,SqT.of h.1,?_⟩;rw[DIss];refine⟨_,_,rfl,by rw[DIs];exact⟨rfl,rfl⟩,?_⟩;rw[DIss];refine⟨_,_,rfl,?_,by rw[DIss]⟩;rw[DIs];exact⟨_,_,rfl,SqT.of h.2,D8 [t.2.2.2.t,t.2.2.2.l,t.2.2.2.b,t.2.2.2.r]⟩
theorem Eu(y:Int×Rk):dep (DV y)<=4:=by
 unfold DV;rw[dep,Bw,Bw,Bw,dep,dep,Ed];decide
theorem M6(y y':Int×Rk):deq (DV y) (DV y')=true↔y=y':=by
 unfold DV;rw[deq,Cy,Cy,Cy,deq,deq,Fg,dI,aP,decide_eq_true_iff];obtain⟨n,t,l,b,r⟩:=y;obtain⟨n',t',l',b',r'⟩:=y';have e:eqV (.int n) (.int n')=true↔n=n':=by simp[eqV]
 rw[e];simp
theorem Im{y:Int×Rk}:∀{os:List Of1},y∈os.map (λ t:Of1=>t.2.2)->∃(j:Nat)(o:Of1),os[j]?=some o/\o.2.2=y/\∀i o',i<j->os[i]?=some o'->o'.2.2≠y
 |o::r,h=>by
  by_cases e:o.2.2=y
  .exact⟨0,o,rfl,e,λ i o' hi=>absurd hi (dz _)⟩
  .rw[aL]at h;rcases aA.mp h with h|h
   .exact absurd h.symm e
   .obtain⟨j,o',a,b,c⟩:=Im h;refine⟨j+1,o',a,b,λ i o'' hi ho=>?_⟩;cases i with
    |zero=>cases ho;exact e
    |succ i=>exact c i o'' (by lia) ho
def Cj(y:Int×Rk)(z:Int×Int):LK:=(if z.1<y.2.len true then [(y.1,y.2.oth true z.1)] else [])++(if z.2<y.2.len false then [(y.1,(y.2.fst true z.1).oth false z.2)] else [])
def pnN(y:Int×Rk)(z:Int×Int):Rk:=(y.2.fst true z.1).fst false z.2
theorem LsAt.setc{H H':Hp}{d a b c e:Addr}{zs:LI}{tk:List Int}{os os' ps:List Of1}(h:LsAt H d a b c e zs tk os ps)(s:SameX c H H')(hc:H' c=some (.lst (Ai os')))(ho:∀t∈os',OfAt H' t):LsAt H' d a b c e zs tk os' ps:=by
 have tp:∀x xs,H x=some (.tup xs)->H' x=some (.tup xs):=λ x xs e=>s _ _ (λ z=>by rw[z,h.off]at e;cases e) e;obtain⟨zt,z1,z2,z3⟩:=h.sh;exact⟨s _ _ (λ z=>by have:=h.dic;rw[z,h.off]at this;cases this) h.dic,⟨zt,s _ _ h.nac z1,λ g hg=>tp _ _ (z2 g hg),z3⟩,s _ _ h.nbc h.tak,hc,ho,s _ _ (Ne.symm h.nce) h.pan,λ g hg=>(h.pns g hg).tups tp,h.nbc,h.nbe,h.nce,h.nab,h.nac,h.nae⟩
theorem LsAt.sete{H H':Hp}{d a b c e:Addr}{zs:LI}{tk:List Int}{os ps ps':List Of1}(h:LsAt H d a b c e zs tk os ps)(s:SameX e H H')(hc:H' e=some (.lst (Ai ps')))(ho:∀t∈ps',OfAt H' t):LsAt H' d a b c e zs tk os ps':=by
 have tp:∀x xs,H x=some (.tup xs)->H' x=some (.tup xs):=λ x xs e'=>s _ _ (λ z=>by rw[z,h.pan]at e';cases e') e';obtain⟨zt,z1,z2,z3⟩:=h.sh;exact⟨s _ _ (λ z=>by have:=h.dic;rw[z,h.pan]at this;cases this) h.dic,⟨zt,s _ _ h.nae z1,λ g hg=>tp _ _ (z2 g hg),z3⟩,s _ _ h.nbe h.tak,s _ _ h.nce h.off,λ g hg=>(h.ofs g hg).tups tp,hc,ho,h.nbc,h.nbe,h.nce,h.nab,h.nac,h.nae⟩
abbrev QG:LSz:=["_law_state","_law_width","_law_height","_law_turns","_law_piece","_law_number","_law_block","_law_top","_law_left","_law_bottom","_law_right","_law_wide","_law_high"]
inductive Lb(vs:LUz)(H:Hp)(Q:VK)(E:XK):Prop
 |mk (d a b c e:Addr) (zs:LI) (tk:List Int) (os ps:List Of1) (t:Bl) (h0:vs=[.ref d,.int t.1,.int t.2.1,.bl t.2.2]) (h1:LsAt H d a b c e zs tk os ps) (h2:zs.length<=4) (h3:(∀z∈zs,SOk z)) (h4:tk.length<=200) (h5:os.length<=63) (h6:ps.length<=800) (h7:(∀y∈os,A6 y.2.2.2/\0<=y.2.2.1/\y.2.2.1<=999)) (h8:(∀y∈os.map (λ t:Of1=>t.2.2),hld t y.2->(∀y'∈os.map (λ t:Of1=>t.2.2),hld t y'.2->DE y<=DE y')->∀z rest os2 r q H',AA t (y.2.len true) (y.2.len false)=z::rest->(y::os2.map (λ t:Of1=>t.2.2)).Perm (os.map (λ t:Of1=>t.2.2)++Cj y z)->LsAt H' d a b c e zs tk os2 (ps++[(r,q,y.1,pnN y z)])->(∀x o,x≠b->x≠c->x≠e->H x=some o->H' x=some o)->Q (.ref r) H')) (h9:((∀y∈os.map (λ t:Of1=>t.2.2),¬hld t y.2)->∀(k:Nat)(z0:Int×Int),zs[k]?=some z0->hld t (shR z0)->(∀(k':Nat)(z':Int×Int),zs[k']?=some z'->hld t (shR z')->BL [arR (shR z0),k]<=BL [arR (shR z'),k']) ->
  ∀z rest os2 r q H',AA t ((shR z0).len true) ((shR z0).len false)=z::rest->(os2.map (λ t:Of1=>t.2.2)).Perm (os.map (λ t:Of1=>t.2.2)++Cj ((tk.length:Int),shR z0) z)->LsAt H' d a b c e zs (tk++[(k:Int)]) os2 (ps++[(r,q,(tk.length:Int),pnN ((tk.length:Int),shR z0) z)])->(∀x o,x≠b->x≠c->x≠e->H x=some o->H' x=some o)->Q (.ref r) H')) (h10:((∀y∈os.map (λ t:Of1=>t.2.2),¬hld t y.2)->(∀z∈zs,¬hld t (shR z))->∀H',Same H H'->Q .non H')):Lb vs H Q E
def Et:Sp:=λ vs H Q E=>Lb vs H Q E
theorem LB{f:Addr}{fd:FuncData}(F:Fun K "_law_cut" "_law_cut" AX f fd)(D__law_choice:AC P w K mg base 2 "_law_choice" ["_law_state","_law_width","_law_height","_law_turns"] Gj)(D__law_held:AC P w K mg base 1 "_law_held" ["_law_size","_law_width","_law_height","_law_turns"] Gi):A3 P w K mg base CX0 3 f fd ["_law_state","_law_width","_law_height","_law_turns"] Et:=by
 have S:Aj QG ["_law_state","_law_width","_law_height","_law_turns"] (Ad AX):=fsk;refine F.g S ?_;rintro vs H Q E ⟨d,a,b,c,e,zs,tk,os,ps,t,rfl,ls,z4,so,tk2,o8,p8,ok1,qA,qB,qC⟩;refine⟨rfl,λ cdv A outer s hr=>?_⟩;have hu:=Fu hr;obtain⟨tD,hD,kD⟩:∃rd,PSs (Bd CX0 P w K mg base QG "_law_cut" (Ad AX) f cdv A outer s H E).nox ((Ap AX).drop 8) rd/\∀(tk':List Int)(os1:List Of1)(x4 x6:Option V)(y:Int×Rk)(z:Int×Int)(H1:Hp),LsAt H1 d a b c e zs tk' os1 ps ->
   (∀r2 q2 H2,LsAt H2 d a b c e zs tk' os1 (ps++[(r2,q2,y.1,pnN y z)])->(∀x o,x≠e->H1 x=some o->H2 x=some o)->Q (.ref r2) H2) ->
   rd { nx:=λ_ H'=>Q .non H',rt:=Q } [some (.ref d),some (.int t.1),some (.int t.2.1),some (.bl t.2.2),x4,some (.int y.1),x6,some (.int y.2.t),some (.int y.2.l),some (.int y.2.b),some (.int y.2.r),some (.int z.1),some (.int z.2)] H1:=by
  refine⟨_,(Ae (AU (BJ (AN hu (pv 0) A8 (λ_ _=>rfl)) (Aa (An (Aa (pv 5) (Aa (An (Aa (pv 7) (Aa (pv 8) (Aa (Aw AI (pv 7) (pv 12)) (Aa (Aw AI (pv 8) (pv 11)) Ab))))) Ab))) Ab)))
  (Ag (As (Ak ix_list (AN hu (pv 0) A8 (λ_ _=>rfl)) (QP Oh Ac) (λ_ _=>rfl))))),?_⟩
  intro tk' os1 x4 x6 y z H1 ls1 q2;have dg1:DGet H1 d (.str "panes") (some (.ref e)):=DGet.k (k:=Sum.inr "panes") ls1.dic;refine⟨_,rfl,d,_,rfl,dg1,.inl ⟨rfl,_,SqL.of ls1.pan⟩,_,rfl,_,rfl,_,rfl,_,rfl,_,rfl,_,_,rfl,rfl,_,rfl,_,rfl,_,_,rfl,rfl,Ao 4,λ q nq=>⟨Ao 2,λ r nr=>?_⟩⟩;obtain⟨H2,g,s2,e2⟩:=nw (.tup [.int y.2.t,.int y.2.l,(λ i j=>V.int (i+j)) y.2.t z.2,(λ i j=>V.int (i+j)) y.2.l z.1]) nq;rw[g] at nr |-;have e2:H2 q=some (.tup (pnN y z).vs):=e2;obtain⟨H3,g,s3,e3⟩:=nw (.tup [.int y.1,.ref q]) nr;rw[g];have ls3:=ls1.same (s2.trans s3);refine⟨e,_,_,rfl,rfl,ls3.pan,At (by rw[Ax];lia),?_⟩;have psE:Ai ps++[V.ref r]=Ai (ps++[((r,q,y.1,pnN y z):Of1)]):=by rw[Ai,Ai,ah];rfl
  rw[psE];have x4':SameX e H3 (upd H3 e (.lst (Ai (ps++[((r,q,y.1,pnN y z):Of1)])))):=SameX.upd;have x4e:(upd H3 e (.lst (Ai (ps++[((r,q,y.1,pnN y z):Of1)])))) e=some (.lst (Ai (ps++[((r,q,y.1,pnN y z):Of1)]))):=upd_same;generalize upd H3 e (.lst (Ai (ps++[((r,q,y.1,pnN y z):Of1)])))=H4 at x4' x4e |-;have tp:∀x xs,H3 x=some (.tup xs)->H4 x=some (.tup xs):=λ x xs e'=>x4' _ _ (λ zz=>by rw[zz,ls3.pan]at e';cases e') e';have ls4:LsAt H4 d a b c e zs tk' os1 (ps++[(r,q,y.1,pnN y z)]):=ls3.sete x4' x4e (λ g hg=>by
   rcases aw.mp hg with hg|hg
   .exact(ls3.pns g hg).tups tp
   .rw[aa.mp hg];exact⟨tp _ _ e3,tp _ _ (s3 _ _ e2)⟩)
  have dg4:DGet H4 d (.str "panes") (some (.ref e)):=DGet.k (k:=Sum.inr "panes") ls4.dic;have atL:atI (Ai (ps++[((r,q,y.1,pnN y z):Of1)])) (-1)=some (.ref r):=by
   rw[<-psE];exact Pu _ _
  refine⟨_,rfl,d,_,rfl,dg4,_,rfl,e,_,_,_,rfl,rfl,SqL.of ls4.pan,atL,q2 r q H4 ls4 (λ x o n e'=>x4' _ _ n ((s2.trans s3) _ _ e'))⟩
 obtain⟨tC,hC,kC⟩:∃rd,PSs (Bd CX0 P w K mg base QG "_law_cut" (Ad AX) f cdv A outer s H E).nox ((Ap AX).drop 7) rd/\∀(tk':List Int)(os1:List Of1)(x4 x6:Option V)(y:Int×Rk)(z:Int×Int)(H1:Hp),LsAt H1 d a b c e zs tk' os1 ps->os1.length<=900 ->
   (∀os2 r2 q2 H2,os2.map (λ t:Of1=>t.2.2)=os1.map (λ t:Of1=>t.2.2)++(if z.2<y.2.len false then [(y.1,(y.2.fst true z.1).oth false z.2)] else [])->LsAt H2 d a b c e zs tk' os2 (ps++[(r2,q2,y.1,pnN y z)])->(∀x o,x≠c->x≠e->H1 x=some o->H2 x=some o)->Q (.ref r2) H2) ->
   rd { nx:=λ_ H'=>Q .non H',rt:=Q } [some (.ref d),some (.int t.1),some (.int t.2.1),some (.bl t.2.2),x4,some (.int y.1),x6,some (.int y.2.t),some (.int y.2.l),some (.int y.2.b),some (.int y.2.r),some (.int z.1),some (.int z.2)] H1:=by
  refine⟨_,(Ae (AB (Aq HW (Aw B1 (pv 9) (pv 7)) (pv 12) (Av _)) (Ag (AU (BJ (AN hu (pv 0) A8 (λ_ _=>rfl)) (Aa (An (Aa (pv 5) (Aa (An (Aa (Aw AI (pv 7) (pv 12)) (Aa (pv 8) (Aa (pv 9) (Aa (Aw AI (pv 8) (pv 11)) Ab))))) Ab))) Ab)))) Ay)
  hD),?_⟩
  intro tk' os1 x4 x6 y z H1 ls1 l9 q2;refine⟨_,rfl,_,rfl,_,_,rfl,rfl,_,rfl,_,_,rfl,rfl,_,rfl,Bi (λ c1=>?_) (λ c1=>?_)⟩
  .have c1:z.2<y.2.len false:=of_decide_eq_true c1;have dg1:DGet H1 d (.str "offcuts") (some (.ref c)):=DGet.k (k:=Sum.inr "offcuts") ls1.dic;refine⟨_,rfl,d,_,rfl,dg1,.inl ⟨rfl,_,SqL.of ls1.off⟩,_,rfl,_,rfl,_,rfl,_,_,rfl,rfl,_,rfl,_,rfl,_,rfl,_,rfl,_,_,rfl,rfl,Ao 4,λ q nq=>⟨Ao 2,λ r nr=>?_⟩⟩;obtain⟨G2,g,s2,e2⟩:=nw (.tup [(λ i j=>V.int (i+j)) y.2.t z.2,.int y.2.l,.int y.2.b,(λ i j=>V.int (i+j)) y.2.l z.1]) nq;rw[g] at nr |-;have e2:G2 q=some (.tup ((y.2.fst true z.1).oth false z.2).vs):=e2;obtain⟨G3,g,s3,e3⟩:=nw (.tup [.int y.1,.ref q]) nr;rw[g];have ls3:=ls1.same (s2.trans s3);refine⟨c,_,_,rfl,rfl,ls3.off,At (by rw[Ax];lia),?_⟩;have osE:Ai os1++[V.ref r]=Ai (os1++[((r,q,y.1,(y.2.fst true z.1).oth false z.2):Of1)]):=by rw[Ai,Ai,ah];rfl
   rw[osE];have x4':SameX c G3 (upd G3 c (.lst (Ai (os1++[((r,q,y.1,(y.2.fst true z.1).oth false z.2):Of1)])))):=SameX.upd;have x4e':(upd G3 c (.lst (Ai (os1++[((r,q,y.1,(y.2.fst true z.1).oth false z.2):Of1)])))) c=some (.lst (Ai (os1++[((r,q,y.1,(y.2.fst true z.1).oth false z.2):Of1)]))):=upd_same;generalize upd G3 c (.lst (Ai (os1++[((r,q,y.1,(y.2.fst true z.1).oth false z.2):Of1)])))=G4 at x4' x4e' |-;have tp:∀x xs,G3 x=some (.tup xs)->G4 x=some (.tup xs):=λ x xs e'=>x4' _ _ (λ zz=>by rw[zz,ls3.off]at e';cases e') e';have ls4':LsAt G4 d a b c e zs tk' (os1++[(r,q,y.1,(y.2.fst true z.1).oth false z.2)]) ps:=ls3.setc x4' x4e' (λ g hg=>by
    rcases aw.mp hg with hg|hg
    .exact(ls3.ofs g hg).tups tp
    .rw[aa.mp hg];exact⟨tp _ _ e3,tp _ _ (s3 _ _ e2)⟩)
   exact kD tk' _ x4 x6 y z G4 ls4' (λ r2 q2' H2 ls2 kp=>q2 _ r2 q2' H2 (by rw[ah,if_pos c1];rfl) ls2 (λ x o n1 n2 e'=>kp x o n2 (x4' _ _ n1 ((s2.trans s3) _ _ e'))))
  .have c1:¬z.2<y.2.len false:=of_decide_eq_false c1;exact kD tk' os1 x4 x6 y z H1 ls1 (λ r2 q2' H2 ls2 kp=>q2 os1 r2 q2' H2 (by rw[if_neg c1,aI]) ls2 (λ x o _ n2 e'=>kp x o n2 e'))
 obtain⟨tB,hB,kB⟩:∃rd,PSs (Bd CX0 P w K mg base QG "_law_cut" (Ad AX) f cdv A outer s H E).nox ((Ap AX).drop 2) rd/\∀(tk':List Int)(os0:List Of1)(r q:Addr)(y:Int×Rk)(z:Int×Int)(rest:LI)(H1:Hp),LsAt H1 d a b c e zs tk' os0 ps->os0.length<=801->OfAt H1 (r,q,y)->y∈os0.map (λ t:Of1=>t.2.2)->AA t (y.2.len true) (y.2.len false)=z::rest ->
   (∀os2 r2 q2 H2,(y::os2.map (λ t:Of1=>t.2.2)).Perm (os0.map (λ t:Of1=>t.2.2)++Cj y z)->LsAt H2 d a b c e zs tk' os2 (ps++[(r2,q2,y.1,pnN y z)])->(∀x o,x≠c->x≠e->H1 x=some o->H2 x=some o)->Q (.ref r2) H2) ->
   rd { nx:=λ_ H'=>Q .non H',rt:=Q } [some (.ref d),some (.int t.1),some (.int t.2.1),some (.bl t.2.2),some (.ref r),none,none,none,none,none,none,none,none] H1:=by
  refine⟨_,(Ae (EX (pv 4) (Cw rfl (Am (Al (i:=5) S.nd rfl (aF rfl)) (Am (Al (i:=6) S.nd rfl (aF rfl)) AM))))
  (Ae (EX (pv 6) (Cw rfl (Am (Al (i:=7) S.nd rfl (aF rfl)) (Am (Al (i:=8) S.nd rfl (aF rfl)) (Am (Al (i:=9) S.nd rfl (aF rfl)) (Am (Al (i:=10) S.nd rfl (aF rfl)) AM))))))
  (Ae (EX (A2 D__law_held hr (Aa (An (Aa (Aw B1 (pv 10) (pv 8)) (Aa (Aw B1 (pv 9) (pv 7)) Ab))) (Aa (pv 1) (Aa (pv 2) (Aa (pv 3) Ab))))) (Cw rfl (Am (Al (i:=11) S.nd rfl (aF rfl)) (Am (Al (i:=12) S.nd rfl (aF rfl)) AM))))
  (Ae (AU (OC br PySem.F.slot_list_remove PySem.F.type_list_remove (LH hr) (AN hu (pv 0) A8 (λ_ _=>rfl)) (Aa (pv 4) Ab)))
  (Ae (AB (Aq HW (Aw B1 (pv 10) (pv 8)) (pv 11) (Av _)) (Ag (AU (BJ (AN hu (pv 0) A8 (λ_ _=>rfl)) (Aa (An (Aa (pv 5) (Aa (An (Aa (pv 7) (Aa (Aw AI (pv 8) (pv 11)) (Aa (pv 9) (Aa (pv 10) Ab))))) Ab))) Ab)))) Ay)
  hC))))),?_⟩
  intro tk' os0 r q y z rest H1 ls1 l8 oy ym hz q2;obtain⟨o1,o2⟩:=oy;refine⟨_,rfl,r,_,rfl,SqT.of o1,rfl,_,_,rfl,_,_,rfl,rfl,?_⟩;refine⟨_,rfl,q,_,rfl,SqT.of o2,rfl,_,_,rfl,_,_,rfl,_,_,rfl,_,_,rfl,rfl,?_⟩;refine⟨_,rfl,_,rfl,_,_,rfl,rfl,_,rfl,_,rfl,_,_,rfl,rfl,Ao 2,λ sz nsz=>?_⟩;obtain⟨H2,g,s2,e2⟩:=nw (.tup [(λ i j=>V.int (i-j)) y.2.r y.2.l,(λ i j=>V.int (i-j)) y.2.b y.2.t]) nsz;rw[g];have e2:H2 sz=some (.tup [.int (y.2.len true),.int (y.2.len false)]):=e2;refine⟨_,rfl,_,rfl,_,rfl,sz,_,_,t,rfl,e2,(λ h0=>by rw[hz]at h0;cases h0),(λ z' r' h1 cc ncc=>?_)⟩;rw[hz]at h1;cases h1;obtain⟨H3,g,s3,e3⟩:=nw (.tup [.int z.1,.int z.2]) ncc;rw[g];refine⟨cc,_,rfl,SqT.of e3,rfl,_,_,rfl,_,_,rfl,rfl,?_⟩;have s13:=s2.trans s3;have ls3:=ls1.same s13;obtain⟨j,oj,j1,j2,j3⟩:=Im ym;have jl:=(av.mp j1).1;have dg3:DGet H3 d (.str "offcuts") (some (.ref c)):=DGet.k (k:=Sum.inr "offcuts") ls3.dic;refine⟨_,rfl,d,_,rfl,dg3,.inl ⟨rfl,_,SqL.of ls3.off⟩,_,rfl,c,_,_,(λ i=>match os0[i]? with|some o=>DV o.2.2|none=>.at .non),DV y,j,rfl,rfl,ls3.off,(λ i v hv=>?_),CJ ⟨s13 _ _ o1,s13 _ _ o2⟩,by rw[Ax];exact jl,by dsimp only;rw[j1];exact(M6 _ _).mpr j2,(λ i hi=>?_),?_⟩
  .obtain⟨g,hg,rfl⟩:=AY hv;dsimp only;rw[hg];exact⟨CJ (ls3.ofs g (ai hg)),Eu _⟩
  .have hil:i<os0.length:=by lia
   dsimp only;rw[ag hil];cases qq:deq (DV os0[i].2.2) (DV y) with
   |false=>rfl
   |true=>exact absurd ((M6 _ _).mp qq) (j3 i _ hi (ag hil))
  .have er:(Ai os0).eraseIdx j=Ai (os0.eraseIdx j):=by unfold Ai;rw[bC,bC,ah,List.map_take,List.map_drop]
   rw[er];have x4:SameX c H3 (upd H3 c (.lst (Ai (os0.eraseIdx j)))):=SameX.upd;have x4e:(upd H3 c (.lst (Ai (os0.eraseIdx j)))) c=some (.lst (Ai (os0.eraseIdx j))):=upd_same;generalize upd H3 c (.lst (Ai (os0.eraseIdx j)))=H4 at x4 x4e |-;have pmE:(y::(os0.eraseIdx j).map (λ t:Of1=>t.2.2)).Perm (os0.map (λ t:Of1=>t.2.2)):=by
    have hp:(oj::os0.eraseIdx j).Perm os0:=by
     rw[bC];have e1:os0=os0.take j++(oj::os0.drop (j+1)):=by
      have:=av.mp j1
      conv=>lhs;rw[<-eR j os0]
      rw[db this.1,this.2]
     conv=>rhs;rw[e1]
     exact cI.symm
    have:=hp.map (λ t:Of1=>t.2.2);rw[aL,j2]at this;exact this
   have el:(os0.eraseIdx j).length<=os0.length:=eL _ _;have ls4:LsAt H4 d a b c e zs tk' (os0.eraseIdx j) ps:=ls3.setc x4 x4e (λ g hg=>(ls3.ofs g (List.mem_of_mem_eraseIdx hg)).tups λ x xs e'=>x4 _ _ (λ zz=>by rw[zz,ls3.off]at e';cases e') e');refine⟨_,rfl,_,rfl,_,_,rfl,rfl,_,rfl,_,_,rfl,rfl,_,rfl,Bi (λ c1=>?_) (λ c1=>?_)⟩
   .have c1:z.1<y.2.len true:=of_decide_eq_true c1;have dg4:DGet H4 d (.str "offcuts") (some (.ref c)):=DGet.k (k:=Sum.inr "offcuts") ls4.dic;refine⟨_,rfl,d,_,rfl,dg4,.inl ⟨rfl,_,SqL.of ls4.off⟩,_,rfl,_,rfl,_,rfl,_,rfl,_,_,rfl,rfl,_,rfl,_,rfl,Ao 4,λ q nq=>⟨Ao 2,λ r nr=>?_⟩⟩;obtain⟨G2,g,s2,e2⟩:=nw (.tup [.int y.2.t,(λ i j=>V.int (i+j)) y.2.l z.1,.int y.2.b,.int y.2.r]) nq;rw[g] at nr |-;have e2:G2 q=some (.tup (y.2.oth true z.1).vs):=e2;obtain⟨G3,g,s3,e3⟩:=nw (.tup [.int y.1,.ref q]) nr;rw[g];have ls3:=ls4.same (s2.trans s3);refine⟨c,_,_,rfl,rfl,ls3.off,At (by rw[Ax];lia),?_⟩;have osE:Ai (os0.eraseIdx j)++[V.ref r]=Ai ((os0.eraseIdx j)++[((r,q,y.1,y.2.oth true z.1):Of1)]):=by rw[Ai,Ai,ah];rfl
    rw[osE];have x4':SameX c G3 (upd G3 c (.lst (Ai ((os0.eraseIdx j)++[((r,q,y.1,y.2.oth true z.1):Of1)])))):=SameX.upd;have x4e':(upd G3 c (.lst (Ai ((os0.eraseIdx j)++[((r,q,y.1,y.2.oth true z.1):Of1)])))) c=some (.lst (Ai ((os0.eraseIdx j)++[((r,q,y.1,y.2.oth true z.1):Of1)]))):=upd_same;generalize upd G3 c (.lst (Ai ((os0.eraseIdx j)++[((r,q,y.1,y.2.oth true z.1):Of1)])))=G4 at x4' x4e' |-;have tp:∀x xs,G3 x=some (.tup xs)->G4 x=some (.tup xs):=λ x xs e'=>x4' _ _ (λ zz=>by rw[zz,ls3.off]at e';cases e') e';have ls4':LsAt G4 d a b c e zs tk' ((os0.eraseIdx j)++[(r,q,y.1,y.2.oth true z.1)]) ps:=ls3.setc x4' x4e' (λ g hg=>by
     rcases aw.mp hg with hg|hg
     .exact(ls3.ofs g hg).tups tp
     .rw[aa.mp hg];exact⟨tp _ _ e3,tp _ _ (s3 _ _ e2)⟩)
    exact kC tk' _ _ _ y z G4 ls4' (by rw[ak,aM];lia) (λ os2 r2 q2' H2 eq ls2 kp=>q2 os2 r2 q2' H2 (by rw[eq,ah,Cj,if_pos c1,aK];exact(aW _ pmE:((y::(os0.eraseIdx j).map (λ t:Of1=>t.2.2))++_).Perm _)) ls2 (λ x o n1 n2 e'=>kp x o n1 n2 (x4' _ _ n1 ((s2.trans s3) _ _ (x4 _ _ n1 (s13 _ _ e'))))))
   .have c1:¬z.1<y.2.len true:=of_decide_eq_false c1;exact kC tk' _ _ _ y z H4 ls4 (by lia) (λ os2 r2 q2' H2 eq ls2 kp=>q2 os2 r2 q2' H2 (by rw[eq,Cj,if_neg c1,bX];exact(aW _ pmE:((y::(os0.eraseIdx j).map (λ t:Of1=>t.2.2))++_).Perm _)) ls2 (λ x o n1 n2 e'=>kp x o n1 n2 (x4 _ _ n1 (s13 _ _ e'))))
 refine⟨_,(Ae (Au (i:=4) S.nd rfl (aF rfl) (A2 D__law_choice hr (Aa (pv 0) (Aa (pv 1) (Aa (pv 2) (Aa (pv 3) Ab))))))
  (Ae (AB (Aq Ea (pv 4) AL (Av _)) (Ag (As AL)) Ay)
  hB)),?_⟩
 refine⟨_,rfl,_,rfl,_,rfl,_,rfl,d,a,b,c,e,zs,tk,os,ps,t,rfl,ls,z4,so,tk2,by lia,ok1,?_,?_,?_⟩
 .intro y ym yh least r q H1 s1 oy;obtain⟨z,rest,hz⟩:∃z rest,AA t (y.2.len true) (y.2.len false)=z::rest:=by
   cases qq:AA t (y.2.len true) (y.2.len false) with
   |nil=>exact absurd qq yh
   |cons z rest=>exact⟨z,rest,rfl⟩
  refine⟨_,rfl,rfl,_,rfl,B4 (decide_eq_false (by intro z;cases z)) ?_⟩;exact kB tk os r q y z rest H1 (ls.same s1) (by lia) oy ym hz (λ os2 r2 q2 H2 pm ls2 kp=>qA y ym yh least z rest os2 r2 q2 H2 hz pm ls2 (λ x o _ n2 n3 e=>kp x o n2 n3 (s1 _ _ e)))
 .intro no k z0 k2 k3 least r q H1 ls1 kp1;obtain⟨z,rest,hz⟩:∃z rest,AA t ((shR z0).len true) ((shR z0).len false)=z::rest:=by
   cases qq:AA t ((shR z0).len true) ((shR z0).len false) with
   |nil=>exact absurd qq k3
   |cons z rest=>exact⟨z,rest,rfl⟩
  refine⟨_,rfl,rfl,_,rfl,B4 (decide_eq_false (by intro z;cases z)) ?_⟩;have om:((r,q,(tk.length:Int),shR z0):Of1)∈os++[(r,q,(tk.length:Int),shR z0)]:=az _ (aa.mpr rfl);refine kB (tk++[(k:Int)]) _ r q ((tk.length:Int),shR z0) z rest H1 ls1 (by rw[ak,aM];lia) (ls1.ofs _ om) (ay.mpr ⟨_,om,rfl⟩) hz (λ os2 r2 q2 H2 pm ls2 kp=>qB no k z0 k2 k3 least z rest os2 r2 q2 H2 hz ?_ ls2 (λ x o n1 n2 n3 e=>kp x o n2 n3 (kp1 x o n1 n2 e)));rw[ah,aK]at pm;have pm2:=pm.trans (cY _ _ _);exact cf pm2
 .intro no none' H1 s1;exact⟨_,rfl,rfl,_,rfl,C9 (decide_eq_true rfl) (qC no none' H1 s1)⟩
def SubR(q p:Rk):Prop:=p.t<=q.t/\q.b<=p.b/\p.l<=q.l/\q.r<=p.r
def BR(q p:Rk):Prop:=q.b<=p.t\/p.b<=q.t\/q.r<=p.l\/p.r<=q.l
theorem Rk.ext4{p q:Rk}(h:p.t=q.t/\p.l=q.l/\p.b=q.b/\p.r=q.r):p=q:=by
 obtain⟨a,b,c,d⟩:=p;obtain⟨a',b',c',d'⟩:=q;obtain⟨h1,h2,h3,h4⟩:=h;dsimp only at h1 h2 h3 h4;rw[h1,h2,h3,h4]
theorem SubR.eq{p q:Rk}(h:SubR p q)(h':SubR q p):p=q:=Rk.ext4 (by unfold SubR at h h';lia)
structure Tk(p f o:Rk):Prop where
 pf:A6 f
 po:A6 o
 sf:SubR f p
 so:SubR o p
 ao:BR o f
 nf:f≠p
 no:o≠p
theorem RR{p:Rk}{u:Bool}{k:Int}(pk:A6 p)(h0:0<k)(h1:k<p.len u):Tk p (p.fst u k) (p.oth u k):=by
 unfold A6 at pk;cases u with
 |true =>
  have h1:k<p.r-p.l:=h1;exact⟨by show A6 ⟨p.t,p.l,p.b,p.l+k⟩;unfold A6;dsimp only;lia,by show A6 ⟨p.t,p.l+k,p.b,p.r⟩;unfold A6;dsimp only;lia,by show SubR ⟨p.t,p.l,p.b,p.l+k⟩ p;unfold SubR;dsimp only;lia,by show SubR ⟨p.t,p.l+k,p.b,p.r⟩ p;unfold SubR;dsimp only;lia,
   by show BR ⟨p.t,p.l+k,p.b,p.r⟩ ⟨p.t,p.l,p.b,p.l+k⟩;unfold BR;dsimp only;lia,λ z=>by have z:p.l+k=p.r:=congrArg GB.Rc.r z;lia,λ z=>by have z:p.l+k=p.l:=congrArg GB.Rc.l z;lia⟩
 |false =>
  have h1:k<p.b-p.t:=h1;exact⟨by show A6 ⟨p.t,p.l,p.t+k,p.r⟩;unfold A6;dsimp only;lia,by show A6 ⟨p.t+k,p.l,p.b,p.r⟩;unfold A6;dsimp only;lia,by show SubR ⟨p.t,p.l,p.t+k,p.r⟩ p;unfold SubR;dsimp only;lia,by show SubR ⟨p.t+k,p.l,p.b,p.r⟩ p;unfold SubR;dsimp only;lia,
   by show BR ⟨p.t+k,p.l,p.b,p.r⟩ ⟨p.t,p.l,p.t+k,p.r⟩;unfold BR;dsimp only;lia,λ z=>by have z:p.t+k=p.b:=congrArg GB.Rc.b z;lia,λ z=>by have z:p.t+k=p.t:=congrArg GB.Rc.t z;lia⟩
def Bes(x p:Rk):Prop:=x=p\/BR x p\/(SubR p x/\x≠p)
theorem Bes.sub{x p q:Rk}(h:Bes x p)(s:SubR q p)(n:q≠p)(pp:A6 p)(pq:A6 q):Bes x q/\x≠q:=by
 unfold Bes at *;unfold A6 at pp pq;have n':¬(SubR p q):=λ z=>n (SubR.eq s z);rcases h with rfl|h|⟨h,h'⟩
 .exact⟨.inr (.inr ⟨s,Ne.symm n⟩),Ne.symm n⟩
 .refine⟨.inr (.inl ?_),λ z=>?_⟩
  .unfold BR SubR at *;lia
  .subst z;unfold BR SubR at *;lia
 .refine⟨.inr (.inr ⟨?_,λ z=>?_⟩),λ z=>?_⟩
  .unfold SubR at *;lia
  .subst z;exact n' h
  .subst z;exact n' h
structure ShI(kv:KV):Prop where
 nd:(kv.map λ x=>x.1).Nodup
 pk:∀x∈kv,A6 x.1
 lf:∀q m,(q,En.w m)∈kv->∀x∈kv,Bes x.1 q
structure StI(kv:KV)(p:Rk):Prop where
 sh:ShI kv
 pp:A6 p
 lp:∀x∈kv,Bes x.1 p
 ap:∀q m,(q,En.w m)∈kv->q=p\/BR q p
theorem ShI.st{kv:KV}{p:Rk}{m:Option Int}(h:ShI kv)(hp:(p,En.w m)∈kv):StI kv p:=by
 refine⟨h,h.pk _ hp,h.lf p m hp,λ q m' hq=>?_⟩;rcases h.lf p m hp _ hq with e|e|⟨e,n⟩
 .exact .inl e
 .exact .inr e
 .rcases h.lf q m' hq _ hp with e'|e'|⟨e',n'⟩
  .exact .inl e'.symm
  .refine .inr ?_;have e':BR p q:=e';unfold BR at *;lia
  .exact absurd (SubR.eq e' e) n
theorem C3{kv:KV}{p:Rk}{e:En}(h:p∈kv.map λ x=>x.1):AK kv p e=kv.map λ x=>if x.1=p then (p,e) else x:=by
 obtain⟨x,hx,rfl⟩:=ay.mp h;unfold AK;rw[if_pos (List.any_eq_true.mpr ⟨x,hx,decide_eq_true rfl⟩)];apply cR;intro y _;by_cases c:y.1=x.1
 .rw[if_pos c,if_pos (by rw[c])]
 .rw[if_neg c,if_neg (λ z=>c (IX z))]
theorem AZ{kv:KV}{p:Rk}{e:En}(h:p∉kv.map λ x=>x.1):AK kv p e=kv++[(p,e)]:=by
 unfold AK;rw[if_neg];intro z;obtain⟨x,hx,hd⟩:=List.any_eq_true.mp z;exact h (ay.mpr ⟨x,hx,IX (of_decide_eq_true hd)⟩)
theorem mem_putE{kv:KV}{p:Rk}{e:En}{x:Rk×En}:x∈AK kv p e↔x=(p,e)\/(x∈kv/\x.1≠p):=by
 by_cases h:p∈kv.map λ x=>x.1
 .rw[C3 h,ay]
  constructor
  .rintro⟨y,hy,rfl⟩;by_cases c:y.1=p
   .rw[if_pos c];exact .inl rfl
   .rw[if_neg c];exact .inr ⟨hy,c⟩
  .rintro(rfl|⟨hx,n⟩)
   .obtain⟨y,hy,e⟩:=ay.mp h;exact⟨y,hy,if_pos e⟩
   .exact⟨x,hx,if_neg n⟩
 .rw[AZ h,aw,aa]
  constructor
  .rintro(hx|rfl)
   .exact .inr ⟨hx,λ z=>h (ay.mpr ⟨x,hx,z⟩)⟩
   .exact .inl rfl
  .rintro(rfl|⟨hx,_⟩)
   .exact .inr rfl
   .exact .inl hx
theorem Ey{kv:KV}{p:Rk}{e:En}(h:(kv.map λ x=>x.1).Nodup):((AK kv p e).map λ x=>x.1).Nodup:=by
 by_cases c:p∈kv.map λ x=>x.1
 .rw[C3 c,aY];have:((λ x:Rk×En=>x.1)∘λ x:Rk×En=>if x.1=p then (p,e) else x)=λ x=>x.1:=by
   funext x
   show(if x.1=p then (p,e) else x).1=x.1;by_cases c:x.1=p
   .rw[if_pos c,c]
   .rw[if_neg c]
  rw[this];exact h
 .rw[AZ c,ah,dc];refine⟨h,by simp,λ x hx y hy=>?_⟩;rw[aa.mp hy];exact λ z=>c (by have z:x=p:=z;rw[<-z];exact hx)
theorem HQ{kv:KV}{p:Rk}{e:En}(h:p∈kv.map λ x=>x.1):(AK kv p e).length=kv.length:=by rw[C3 h,ae]
theorem CD(i:Int)(a b:KV):wh1 i (a++b)=wh1 i a++wh1 i b:=by unfold wh1;rw[bg]
theorem Mv{i:Int}{p:Rk}{e e0:En}:∀{kv:KV},(kv.map λ x=>x.1).Nodup->(p,e0)∈kv->(wh1 i [(p,e0)]++wh1 i (kv.map λ x=>if x.1=p then (p,e) else x)).Perm (wh1 i kv++wh1 i [(p,e)])
 |y::r,nd,h=>by
  rw[aL,bx]at nd;rw[aL];rcases aA.mp h with rfl|h
  .have e1:(r.map λ x=>if x.1=p then (p,e) else x)=r:=by
    conv=>rhs;rw[<-List.map_id r]
    apply cR;intro x hx;rw[if_neg (λ z=>nd.1 (ay.mpr ⟨x,hx,z⟩))];rfl
   rw[e1,if_pos rfl];rw[show(p,e)::r=[(p,e)]++r from rfl,show(p,e0)::r=[(p,e0)]++r from rfl,CD,CD,aK];exact bp _ bM
  .have n:¬y.1=p:=λ z=>nd.1 (ay.mpr ⟨_,h,z.symm⟩);rw[if_neg n];have ih:=Mv (i:=i) (e:=e) nd.2 h;rw[show y::(r.map λ x=>if x.1=p then (p,e) else x)=[y]++(r.map λ x=>if x.1=p then (p,e) else x) from rfl,show y::r=[y]++r from rfl,CD,CD,aK];refine(cY _ _ _).trans (bp _ ih)
theorem Mu{i:Int}{p:Rk}{e e0:En}{kv:KV}(nd:(kv.map λ x=>x.1).Nodup)(h:(p,e0)∈kv):(wh1 i [(p,e0)]++wh1 i (AK kv p e)).Perm (wh1 i kv++wh1 i [(p,e)]):=by
 rw[C3 (ay.mpr ⟨_,h,rfl⟩)];exact Mv nd h
def LvI(i:Int)(kv:KV)(p:Rk)(W:LR)(c:Nat):Prop:=((p,En.w none)∈kv/\((i,p,none)::W).Perm (wh1 i kv)/\kv.length<=c)\/(p∉kv.map (λ x=>x.1)/\W.Perm (wh1 i kv)/\kv.length+1<=c)
theorem KN{i:Int}{kv:KV}{p:Rk}{W:LR}{c:Nat}{u:Bool}{k:Int}(st:StI kv p)(lv:LvI i kv p W c)(h0:0<k) :
  StI (Ba u k (kv,p)).1 (Ba u k (kv,p)).2/\LvI i (Ba u k (kv,p)).1 (Ba u k (kv,p)).2 (W++(if k<p.len u then [(i,p.oth u k,none)] else [])) (c+2):=by
 by_cases h1:k<p.len u
 .have cS:Ba u k (kv,p)=(AK (AK kv p (.c u k)) (p.oth u k) (.w none),p.fst u k):=by unfold Ba;rw[if_pos h1]
  rw[cS,if_pos h1];dsimp only;obtain⟨pf,po,sf,so,ao,nf,no⟩:=RR (u:=u) st.pp h0 h1;generalize p.fst u k=f at pf sf ao nf |-;generalize p.oth u k=o at po so ao no |-;have m1:∀x,x∈AK (AK kv p (.c u k)) o (.w none)↔x=(o,.w none)\/x=(p,.c u k)\/(x∈kv/\x.1≠p):=λ x=>by
   rw[mem_putE,mem_putE]
   constructor
   .rintro(h|⟨h,_⟩)
    .exact .inl h
    .exact .inr h
   .rintro(h|h|h)
    .exact .inl h
    .refine .inr ⟨.inl h,?_⟩;rw[h];exact Ne.symm no
    .exact .inr ⟨.inr h,((st.lp x h.1).sub so no st.pp po).2⟩
  have oP:∀q m,(q,En.w m)∈kv->q≠p->BR q p:=λ q m hq n=>(st.ap q m hq).resolve_left n;have subA:∀{q r:Rk},BR q p->SubR r p->BR q r/\BR r q:=λ{q r} h s=>by unfold BR SubR at *;lia
  have bes:∀{r:Rk},SubR r p->r≠p->A6 r->(r=o\/BR o r)->∀x∈AK (AK kv p (.c u k)) o (.w none),Bes x.1 r:=λ{r} s n pr hr x hx=>by
   rcases(m1 x).mp hx with rfl|rfl|⟨hx,_⟩
   .rcases hr with rfl|hr
    .exact .inl rfl
    .exact .inr (.inl hr)
   .exact .inr (.inr ⟨s,Ne.symm n⟩)
   .exact((st.lp x hx).sub s n st.pp pr).1
  refine⟨⟨⟨Ey (Ey st.sh.nd),λ x hx=>?_,λ q m hq x hx=>?_⟩,pf,bes sf nf pf (.inr ao),λ q m hq=>?_⟩,?_⟩
  .rcases(m1 x).mp hx with rfl|rfl|⟨hx,_⟩
   .exact po
   .exact st.pp
   .exact st.sh.pk x hx
  .rcases(m1 _).mp hq with e|e|⟨hq,n⟩
   .cases e;exact bes so no po (.inl rfl) x hx
   .cases e
   .have aq:=oP q m hq n;rcases(m1 x).mp hx with rfl|rfl|⟨hx,_⟩
    .exact .inr (.inl (subA aq so).2)
    .refine .inr (.inl ?_);show BR p q;unfold BR at *;lia
    .exact st.sh.lf q m hq x hx
  .rcases(m1 _).mp hq with e|e|⟨hq,n⟩
   .cases e;exact .inr ao
   .cases e
   .exact .inr (subA (oP q m hq n) sf).1
  .have nof:o∉(AK kv p (.c u k)).map λ x=>x.1:=λ z=>by
    obtain⟨x,hx,e⟩:=ay.mp z;rcases mem_putE.mp hx with rfl|⟨hx,_⟩
    .exact no e.symm
    .exact((st.lp x hx).sub so no st.pp po).2 e
   refine .inr ⟨λ z=>?_,?_,?_⟩
   .obtain⟨x,hx,e⟩:=ay.mp z;rcases(m1 x).mp hx with rfl|rfl|⟨hx,_⟩
    .have e:o=f:=e;rw[e]at ao;unfold BR at ao;unfold A6 at pf;lia
    .exact nf e.symm
    .exact((st.lp x hx).sub sf nf st.pp pf).2 e
   .rw[AZ nof,CD];refine aW _ ?_;rcases lv with ⟨hp,pm,_⟩|⟨hp,pm,_⟩
    .have w:=Mu (i:=i) (e:=.c u k) st.sh.nd hp;have w:((i,p,none)::wh1 i (AK kv p (.c u k))).Perm (wh1 i kv++[]):=w;rw[aI]at w;exact cf (pm.trans w.symm)
    .rw[AZ hp,CD];exact pm.trans (by rw[show wh1 i [(p,En.c u k)]=[] from rfl,aI])
   .rw[AZ nof,ak,aM];rcases lv with ⟨hp,_,l⟩|⟨hp,_,l⟩
    .rw[HQ (ay.mpr ⟨_,hp,rfl⟩)];lia
    .rw[AZ hp,ak,aM];lia
 .have cS:Ba u k (kv,p)=(kv,p):=by unfold Ba;rw[if_neg h1]
  rw[cS,if_neg h1,aI];refine⟨st,?_⟩;rcases lv with ⟨a,b,d⟩|⟨a,b,d⟩
  .exact .inl ⟨a,b,aS d (Nat.le_add_right _ _)⟩
  .exact .inr ⟨a,b,aS d (Nat.le_add_right _ _)⟩
theorem QA{i:Int}{kv:KV}{p:Rk}{W:LR}{c:Nat}{n:Int}(st:StI kv p)(lv:LvI i kv p W c):ShI (AK kv p (.w (some n)))/\(wh1 i (AK kv p (.w (some n)))).Perm (W++[(i,p,some n)])/\(AK kv p (.w (some n))).length<=c:=by
 refine⟨⟨Ey st.sh.nd,λ x hx=>?_,λ q m hq x hx=>?_⟩,?_,?_⟩
 .rcases mem_putE.mp hx with rfl|⟨hx,_⟩
  .exact st.pp
  .exact st.sh.pk x hx
 .rcases mem_putE.mp hq with e|⟨hq,nq⟩
  .cases e;rcases mem_putE.mp hx with rfl|⟨hx,_⟩
   .exact .inl rfl
   .exact st.lp x hx
  .rcases mem_putE.mp hx with rfl|⟨hx,_⟩
   .have:=(st.ap q m hq).resolve_left nq;refine .inr (.inl ?_);show BR p q;unfold BR at *;lia
   .exact st.sh.lf q m hq x hx
 .rcases lv with ⟨hp,pm,_⟩|⟨hp,pm,_⟩
  .have w:=Mu (i:=i) (e:=.w (some n)) st.sh.nd hp;have w:((i,p,none)::wh1 i (AK kv p (.w (some n)))).Perm (wh1 i kv++[(i,p,some n)]):=w;exact cf (w.trans (aW _ pm.symm))
  .rw[AZ hp,CD];exact aW _ pm.symm
 .rcases lv with ⟨hp,_,l⟩|⟨hp,_,l⟩
  .rw[HQ (ay.mpr ⟨_,hp,rfl⟩)];exact l
  .rw[AZ hp,ak,aM];exact l
def noM(y:Int×Rk):Int×Rk×Option Int:=(y.1,y.2,none)
theorem Qz{p:Rk}{u:Bool}{k:Int}(h:¬k<p.len u)(h':k<=p.len u):p.fst u k=p:=by
 cases u with
 |true=>have h:¬k<p.r-p.l:=h;have h':k<=p.r-p.l:=h';exact Rk.ext4 ⟨rfl,rfl,rfl,by show p.l+k=p.r;lia⟩
 |false=>have h:¬k<p.b-p.t:=h;have h':k<=p.b-p.t:=h';exact Rk.ext4 ⟨rfl,rfl,by show p.t+k=p.b;lia,rfl⟩
theorem Mg{kv:KV}{p:Rk}{u:Bool}{k:Int}(h':k<=p.len u):(Ba u k (kv,p)).2=p.fst u k:=by
 unfold Ba;by_cases h:k<p.len u
 .rw[if_pos h]
 .rw[if_neg h];exact(Qz h h').symm
theorem Mh{kv:KV}{p:Rk}{z:Int×Int}(h1:z.1<=p.len true)(h2:z.2<=p.len false):(CY kv p z).2=(p.fst true z.1).fst false z.2:=by
 unfold CY;have e:=Mg (kv:=kv) h1;generalize Ba true z.1 (kv,p)=s1 at e |-;obtain⟨kv',p'⟩:=s1;have e:p'=p.fst true z.1:=e;subst e;exact Mg (h':=h2)
theorem RQ{i:Int}{kv:KV}{p:Rk}{z:Int×Int}{n:Int}(sh:ShI kv)(hp:(p,En.w none)∈kv)(z1:0<z.1)(z2:0<z.2)(h1:z.1<=p.len true)(h2:z.2<=p.len false) :
  ShI (AG kv p z n)/\((i,p,none)::wh1 i (AG kv p z n)).Perm (wh1 i kv++((Cj (i,p) z).map noM++[(i,pnN (i,p) z,some n)]))/\(AG kv p z n).length<=kv.length+4:=by
 have mw:(i,p,none)∈wh1 i kv:=cw.mpr ⟨_,hp,rfl⟩;obtain⟨a,b,hab⟩:=List.append_of_mem mw;have lv0:LvI i kv p (a++b) kv.length:=.inl ⟨hp,by rw[hab];exact cI.symm,aj _⟩;obtain⟨st1,lv1⟩:=KN (u:=true) (k:=z.1) (sh.st hp) lv0 z1;have e1:=Mg (kv:=kv) h1;have eB:CY kv p z=Ba false z.2 (Ba true z.1 (kv,p)):=rfl;have e2:=Mh (kv:=kv) h1 h2;unfold AG;rw[eB]at e2 |-;generalize Ba true z.1 (kv,p)=s1 at st1 lv1 e1 e2 |-;obtain⟨kv1,p1⟩:=s1;have e1:p1=p.fst true z.1:=e1;obtain⟨st2,lv2⟩:=KN (u:=false) (k:=z.2) st1 lv1 z2;obtain⟨f1,f2,f3⟩:=QA (n:=n) st2 lv2;refine⟨f1,?_,f3⟩;have e2':(Ba false z.2 (kv1,p1)).2=pnN (i,p) z:=e2;rw[e2']at f2 |-;have hl:((p.fst true z.1).len false)=p.len false:=rfl;have e3:(if z.1<p.len true then [(i,p.oth true z.1,(none:Option Int))] else [])++(if z.2<p1.len false then [(i,p1.oth false z.2,(none:Option Int))] else [])=(Cj (i,p) z).map noM:=by
  rw[e1,hl];unfold Cj;rw[ah];congr 1
  .by_cases c:z.1<p.len true
   .rw[if_pos c,if_pos c];rfl
   .rw[if_neg c,if_neg c];rfl
  .by_cases c:z.2<p.len false
   .rw[if_pos c,if_pos c];rfl
   .rw[if_neg c,if_neg c];rfl
 dsimp only at f2;rw[aK a b]at f2;have f2:=f2.cons (i,p,none);refine f2.trans ?_;rw[<-e3,hab];have e5:∀(X Y Z:LR)(x:Int×Rk×Option Int),(x::((a++(b++X))++Y++Z)).Perm ((a++x::b)++((X++Y)++Z)):=λ X Y Z x=>by
  have:(a++x::b)++((X++Y)++Z)=a++x::(b++X++Y++Z):=by simp[aK]
  rw[this];refine List.Perm.trans ?_ cI.symm;simp[aK]
 exact e5 _ _ _ _
theorem Ql{i j:Int}{p:Rk}{m:Option Int}{kv:KV}:(j,p,m)∈wh1 i kv↔j=i/\(p,En.w m)∈kv:=by
 unfold wh1;rw[cw]
 constructor
 .rintro⟨⟨q,e⟩,hx,he⟩;cases e with
  |w m'=>cases he;exact⟨rfl,hx⟩
  |c u k=>cases he
 .rintro⟨rfl,h⟩;exact⟨_,h,rfl⟩
theorem mem_whs{y:Int}{p:Rk}{m:Option Int}:∀{i:Int}{kvs:List KV},(y,p,m)∈whs i kvs↔∃(j:Nat)(kv:KV),kvs[j]?=some kv/\y=i+j/\(p,En.w m)∈kv
 |i,[]=>⟨λ h=>(nomatch h),λ⟨j,kv,h,_⟩=>by simp at h⟩
 |i,kv::r=>by
  show(y,p,m)∈wh1 i kv++whs (i+1) r↔_;rw[aw,Ql,mem_whs (i:=i+1) (kvs:=r)]
  constructor
  .rintro(⟨rfl,h⟩|⟨j,kv',h,e,h'⟩)
   .exact⟨0,kv,rfl,by lia,h⟩
   .exact⟨j+1,kv',h,by lia,h'⟩
  .rintro⟨j,kv',h,e,h'⟩;cases j with
   |zero=>cases h;exact .inl ⟨by lia,h'⟩
   |succ j=>exact .inr ⟨j,kv',h,by lia,h'⟩
theorem Mt{X Y:LR}{kv kv':KV}:∀{i:Int}{j:Nat}{kvs:List KV},kvs[j]?=some kv->(X++wh1 (i+j) kv').Perm (wh1 (i+j) kv++Y)->(X++whs i (kvs.set j kv')).Perm (whs i kvs++Y)
 |i,0,k0::r,h,pm=>by
  cases h;rw[show i+((0:Nat):Int)=i by lia]at pm;show(X++(wh1 i kv'++whs (i+1) r)).Perm ((wh1 i kv++whs (i+1) r)++Y);rw[<-aK,aK (wh1 i kv)];refine(aW _ pm).trans ?_;rw[aK];exact bp _ bM
 |i,j+1,k0::r,h,pm=>by
  have h:r[j]?=some kv:=h;rw[show i+((j+1:Nat):Int)=i+1+j by lia]at pm;have ih:=Mt (i:=i+1) h pm;show(X++(wh1 i k0++whs (i+1) (r.set j kv'))).Perm ((wh1 i k0++whs (i+1) r)++Y);rw[aK];exact(cY _ _ _).trans (bp _ ih)
def zOf(zs:LI)(k:Int):Int×Int:=(zs[k.toNat]?).getD (0,0)
structure Rel(zs:LI)(tk:List Int)(kvs:List KV)(O P:LK):Prop where
 len:tk.length=kvs.length
 ix:∀k∈tk,0<=k/\k<zs.length
 inv:∀kv∈kvs,ShI kv
 off:O.Perm (A5 (whs 0 kvs))
 pan:(P.map λ y=>y.2).Perm (AF (whs 0 kvs))
 ar:CZ (AF (whs 0 kvs))+CZ ((A5 (whs 0 kvs)).map (·.2))=((tk.map (zOf zs)).map λ z=>z.2*z.1).sum
theorem Rel.start(zs:LI):Rel zs [] [] [] []:=⟨rfl,(λ k h=>nomatch h),(λ k h=>nomatch h),.refl _,.refl _,rfl⟩
theorem C7(a b:LR):A5 (a++b)=A5 a++A5 b:=by unfold A5;rw[bg]
theorem BS(a b:LR):AF (a++b)=AF a++AF b:=by unfold AF;rw[bg]
theorem HX:∀(L:LK),A5 (L.map noM)=L
 |[]=>rfl
 |y::r=>by
  show(y.1,y.2)::A5 (r.map noM)=_;rw[HX r]
theorem HS:∀(L:LK),AF (L.map noM)=[]
 |[]=>rfl
 |y::r=>HS r
theorem EH(a b:List Rk):CZ (a++b)=CZ a+CZ b:=by unfold CZ;rw[ah,cN]
theorem Ix{a b:List Rk}(h:a.Perm b):CZ a=CZ b:=Kd (h.map arR)
theorem mem_off{y:Int×Rk}{L:LR}:y∈A5 L↔(y.1,y.2,none)∈L:=by
 unfold A5;rw[cw]
 constructor
 .rintro⟨⟨i,p,m⟩,h,e⟩;cases m with
  |none=>cases e;exact h
  |some m=>cases e
 .intro h;exact⟨_,h,rfl⟩
theorem RY(i:Int)(p:Rk)(z:Int×Int)(h1:z.1<=p.len true)(h2:z.2<=p.len false):arR p=CZ ((Cj (i,p) z).map (·.2))+arR (pnN (i,p) z):=by
 have h1:z.1<=p.r-p.l:=h1;have h2:z.2<=p.b-p.t:=h2;have eo:arR (p.oth true z.1)=(p.b-p.t)*((p.r-p.l)-z.1):=by
  show(p.b-p.t)*(p.r-(p.l+z.1))=_;rw[show p.r-(p.l+z.1)=(p.r-p.l)-z.1 by lia]
 have eb:arR ((p.fst true z.1).oth false z.2)=((p.b-p.t)-z.2)*z.1:=by
  show(p.b-(p.t+z.2))*(p.l+z.1-p.l)=_;rw[show p.b-(p.t+z.2)=(p.b-p.t)-z.2 by lia,show p.l+z.1-p.l=z.1 by lia]
 have en:arR (pnN (i,p) z)=z.2*z.1:=by
  show(p.t+z.2-p.t)*(p.l+z.1-p.l)=_;rw[show p.t+z.2-p.t=z.2 by lia,show p.l+z.1-p.l=z.1 by lia]
 have ep:arR p=(p.b-p.t)*(p.r-p.l):=rfl;have lt:p.len true=p.r-p.l:=rfl;have lf:p.len false=p.b-p.t:=rfl;unfold Cj;dsimp only;rw[lt,lf,ah,EH,en,ep];generalize p.b-p.t=T at *;generalize p.r-p.l=W at *;have e1:CZ ((if z.1<W then [(i,p.oth true z.1)] else []).map (·.2))=T*W-T*z.1:=by
  by_cases c:z.1<W
  .rw[if_pos c];show arR (p.oth true z.1)+0=_;rw[eo,Int.mul_sub,eS]
  .rw[if_neg c,show z.1=W by lia];show(0:Int)=_;lia
 have e2:CZ ((if z.2<T then [(i,(p.fst true z.1).oth false z.2)] else []).map (·.2))=T*z.1-z.2*z.1:=by
  by_cases c:z.2<T
  .rw[if_pos c];show arR ((p.fst true z.1).oth false z.2)+0=_;rw[eb,Int.sub_mul,eS]
  .rw[if_neg c,show z.2=T by lia];show(0:Int)=_;lia
 rw[e1,e2];lia
theorem Jw{t:Bl}{W T:Int}{z:Int×Int}{r:LI}(wk:WOk t)(h:AA t W T=z::r):0<z.1/\0<z.2/\z.1<=W/\z.2<=T:=by
 have hm:z∈AA t W T:=by rw[h];exact aR
 unfold AA at hm;rw[cO,aP,decide_eq_true_iff,decide_eq_true_iff]at hm;obtain⟨hw,h1,h2⟩:=hm;unfold WOk at wk;unfold Bx at hw;split at hw
 .rcases aA.mp hw with rfl|hw
  .exact⟨by show 0<t.1;lia,by show 0<t.2.1;lia,h1,h2⟩
  .rw[aa.mp hw]at h1 h2 |-;exact⟨by show 0<t.2.1;lia,by show 0<t.1;lia,h1,h2⟩
 .rw[aa.mp hw]at h1 h2 |-;exact⟨by show 0<t.1;lia,by show 0<t.2.1;lia,h1,h2⟩
theorem Rel.cut{zs:LI}{tk:List Int}{kvs:List KV}{O P O2:LK}{y:Int×Rk}{t:Bl}{z:Int×Int}{r:LI}{kv:KV}{n:Int}(h:Rel zs tk kvs O P)(hy:y∈A5 (whs 0 kvs))(wk:WOk t)(hz:AA t (y.2.len true) (y.2.len false)=z::r)
  (hk:kvs[y.1.toNat]?=some kv) (hO:(y::O2).Perm (O++Cj y z)):Rel zs tk (kvs.set y.1.toNat (AG kv y.2 z n)) O2 (P++[(y.1,pnN y z)])/\(AG kv y.2 z n).length<=kv.length+4/\(whs 0 (kvs.set y.1.toNat (AG kv y.2 z n))).length<=(whs 0 kvs).length+2/\(AF (whs 0 (kvs.set y.1.toNat (AG kv y.2 z n)))).length=(AF (whs 0 kvs)).length+1:=by
 obtain⟨z1,z2,h1,h2⟩:=Jw wk hz;obtain⟨j,kv',hj,ej,hm⟩:=mem_whs.mp (mem_off.mp hy);have jy:y.1.toNat=j:=by lia
 rw[jy]at hk |-;rw[hk]at hj;cases hj;have yj:y.1=0+(j:Int):=ej;obtain⟨c1,c2,c3⟩:=RQ (i:=0+(j:Int)) (n:=n) (h.inv kv (ai hk)) hm z1 z2 h1 h2;obtain⟨y1,p⟩:=y;dsimp only at *;subst yj;have pm:=Mt (X:=[(0+(j:Int),p,none)]) (i:=0) hk c2;have pmO:((0+(j:Int),p)::A5 (whs 0 (kvs.set j (AG kv p z n)))).Perm (A5 (whs 0 kvs)++Cj (0+(j:Int),p) z):=by
  have:=pm.filterMap (λ x:Int×Rk×Option Int=>match x.2.2 with|some _=>none|none=>some (x.1,x.2.1));have:(A5 ([(0+(j:Int),p,none)]++whs 0 (kvs.set j (AG kv p z n)))).Perm (A5 (whs 0 kvs++((Cj (0+(j:Int),p) z).map noM++[(0+(j:Int),pnN (0+(j:Int),p) z,some n)]))):=this;rw[C7,C7,C7,HX]at this;rw[show A5 [(0+(j:Int),pnN (0+(j:Int),p) z,some n)]=[] from rfl,aI]at this;exact this
 have pmP:(AF (whs 0 (kvs.set j (AG kv p z n)))).Perm (AF (whs 0 kvs)++[pnN (0+(j:Int),p) z]):=by
  have:=pm.filterMap (λ x:Int×Rk×Option Int=>match x.2.2 with|some _=>some x.2.1|none=>none);have:(AF ([(0+(j:Int),p,none)]++whs 0 (kvs.set j (AG kv p z n)))).Perm (AF (whs 0 kvs++((Cj (0+(j:Int),p) z).map noM++[(0+(j:Int),pnN (0+(j:Int),p) z,some n)]))):=this;rw[BS,BS,BS,HS]at this;exact this
 refine⟨⟨?_,h.ix,λ kv' hk'=>?_,?_,?_,?_⟩,c3,?_,?_⟩
 .rw[dw];exact h.len
 .rcases ce hk' with hk'|rfl
  .exact h.inv kv' hk'
  .exact c1
 .exact cf (hO.trans ((aW _ h.off).trans pmO.symm))
 .rw[ah];exact(aW _ h.pan).trans pmP.symm
 .have e1:=Ix pmP;have e2:=Ix (pmO.map (·.2));rw[EH]at e1;rw[ah,EH,aL]at e2;have e3:=RY (0+(j:Int)) p z h1 h2;have e4:=h.ar;have e5:∀(q:Rk)(L:List Rk),CZ (q::L)=arR q+CZ L:=λ q L=>by unfold CZ;rw[aL,bR]
  rw[e5]at e2;have e6:CZ [pnN (0+(j:Int),p) z]=arR (pnN (0+(j:Int),p) z):=by rw[e5];show _+0=_;lia
  rw[e6]at e1;have e2:arR p+CZ ((A5 (whs 0 (kvs.set j (AG kv p z n)))).map (·.2))=CZ ((A5 (whs 0 kvs)).map (·.2))+CZ ((Cj (0+(j:Int),p) z).map (·.2)):=e2;lia
 .have:=pm.length_eq;rw[ak,ak,ak,ae,aM,aM]at this;have l2:(Cj (0+(j:Int),p) z).length<=2:=by
   unfold Cj;rw[ak];split<;>split<;>simp
  lia
 .have:=pmP.length_eq;rw[ak,aM]at this;exact this
theorem PH{p:Rk}(h:A6 p):ShI [(p,En.w none)]:=⟨by simp,(λ x hx=>by rw[aa.mp hx];exact h),λ q m hq x hx=>by
 have e:=aa.mp hq;rw[aa.mp hx];exact .inl (congrArg eU e).symm⟩
theorem Rel.take{zs:LI}{tk:List Int}{kvs:List KV}{O P:LK}{k:Nat}{z:Int×Int}(h:Rel zs tk kvs O P)(hk:zs[k]?=some z)(so:SOk z):Rel zs (tk++[(k:Int)]) (kvs++[[(shR z,.w none)]]) (O++[((tk.length:Int),shR z)]) P:=by
 have e0:whs 0 (kvs++[[(shR z,.w none)]])=whs 0 kvs++[((tk.length:Int),shR z,none)]:=by
  rw[Ej,h.len];show _++[((0:Int)+(kvs.length:Int),shR z,none)]=_;rw[cH]
 have pk:A6 (shR z):=by
  unfold SOk at so;exact⟨bb _,show(0:Int)<z.2 by lia,show z.2<=12 by lia,bb _,show(0:Int)<z.1 by lia,show z.1<=12 by lia⟩
 refine⟨by rw[ak,ak,h.len];rfl,λ j hj=>?_,λ kv hkv=>?_,?_,?_,?_⟩
 .rcases aw.mp hj with hj|hj
  .exact h.ix j hj
  .rw[aa.mp hj];have:=(av.mp hk).1;lia
 .rcases aw.mp hkv with hkv|hkv
  .exact h.inv kv hkv
  .rw[aa.mp hkv];exact PH pk
 .rw[e0,C7];exact aW _ h.off
 .rw[e0,BS];exact h.pan.trans (by rw[show AF [((tk.length:Int),shR z,(none:Option Int))]=[] from rfl,aI])
 .rw[e0,BS,C7,show AF [((tk.length:Int),shR z,(none:Option Int))]=[] from rfl,show A5 [((tk.length:Int),shR z,(none:Option Int))]=[((tk.length:Int),shR z)] from rfl,aI,ah,EH,ah,ah,cN,<-h.ar];have ez:zOf zs (k:Int)=z:=by unfold zOf;rw[bQ,hk];rfl
  show _+(_+(arR (shR z)+0))=_+(((zOf zs (k:Int)).2*(zOf zs (k:Int)).1)+0);rw[ez];have:arR (shR z)=z.2*z.1:=by show(z.2-0)*(z.1-0)=_;rw[cZ,cZ]
  rw[this];lia
theorem d13{a b x y:Int}(h:a*13+x=b*13+y)(x0:0<=x)(x1:x<=12)(y0:0<=y)(y1:y<=12):a=b/\x=y:=by lia
theorem OQ{n t l b r n' t' l' b' r':Int}(h:0<=t/\t<=12/\0<=l/\l<=12/\0<=b/\b<=12/\0<=r/\r<=12)(h':0<=t'/\t'<=12/\0<=l'/\l'<=12/\0<=b'/\b'<=12/\0<=r'/\r'<=12)(e:FE [n,t,l,b,r]=FE [n',t',l',b',r']):n=n'/\t=t'/\l=l'/\b=b'/\r=r':=by
 obtain⟨t0,t1,l0,l1,b0,b1,r0,r1⟩:=h;obtain⟨t2,t3,l2,l3,b2,b3,r2,r3⟩:=h';have e:(((n*13+t)*13+l)*13+b)*13+r=(((n'*13+t')*13+l')*13+b')*13+r':=e;obtain⟨e1,er⟩:=d13 e r0 r1 r2 r3;obtain⟨e2,eb⟩:=d13 e1 b0 b1 b2 b3;obtain⟨e3,el⟩:=d13 e2 l0 l1 l2 l3;obtain⟨e4,et⟩:=d13 e3 t0 t1 t2 t3;exact⟨e4,et,el,eb,er⟩
theorem K4{y y':Int×Rk}(h:A6 y.2)(h':A6 y'.2)(e:FD y=FD y'):y=y':=by
 obtain⟨a,b,c,d,f⟩:=OQ (Dn h) (Dn h') e;exact bW a (Rk.ext4 ⟨b,c,d,f⟩)
theorem OO{y y':Int×Rk}(h:A6 y.2/\0<=y.1/\y.1<=999)(h':A6 y'.2/\0<=y'.1/\y'.1<=999)(e:DE y=DE y'):y=y':=by
 have b:=FM h;have b':=FM h';rw[D7,D7]at e;exact K4 h.1 h'.1 (by lia)
theorem PP{L M:LK}(ok:∀y∈L,A6 y.2)(pm:L.Perm M)(r1:(L.map FD).Pairwise (·<=·))(r2:(M.map FD).Pairwise (·<=·)):L=M:=by
 rw[List.pairwise_map]at r1 r2;exact List.Perm.eq_of_pairwise (λ a b ha hb h1 h2=>K4 (ok a ha) (ok b (pm.mem_iff.mpr hb)) (dD h1 h2)) r1 r2 pm
structure Pd where
 a:Addr
 dx:Addr
 ls:Addr
 lt:Addr
 ss:LZ
 tn:List Tk1
 d:Addr
 s:Addr
 b:Addr
 c:Addr
 e:Addr
 zs:LI
 tk:List Int
 os:List Of1
 ps:List Of1
abbrev Pd.kvs(x:Pd):List KV:=x.tn.map λ t=>t.2.2.2.2
def Pd.own(x:Pd):List Addr:=x.ls::x.lt::x.s::x.b::x.c::x.e::x.tn.map λ t=>t.2.2.1
structure PrAt(C:Addr)(H:Hp)(x:Pd)(n:Nat):Prop where
 bn:BnAt C x.a x.dx x.ls x.lt H x.ss x.tn
 ls:LsAt H x.d x.s x.b x.c x.e x.zs x.tk x.os x.ps
 sz:x.ss.map (λ t=>t.2)=x.zs
 z4:x.zs.length<=4
 so:∀z∈x.zs,SOk z
 tk:x.tk=x.tn.map λ t=>t.2.1
 rel:Rel x.zs x.tk x.kvs (x.os.map λ t:Of1=>t.2.2) (x.ps.map λ t:Of1=>t.2.2)
 n1:x.tn.length<=n
 n2:∀t∈x.tn,t.2.2.2.2.length<=1+4*n
 n3:(whs 0 x.kvs).length<=3*n
 n4:(AF (whs 0 x.kvs)).length<=n
 nd:x.own.Nodup
theorem PrAt.offs{C:Addr}{H:Hp}{x:Pd}{n:Nat}(h:PrAt C H x n):∀y∈A5 (whs 0 x.kvs),A6 y.2/\0<=y.1/\y.1<x.tn.length:=λ y hy=>by
 obtain⟨j,kv,hj,ej,hm⟩:=mem_whs.mp (mem_off.mp hy);have:=(av.mp hj).1;rw[ae]at this;exact⟨(h.rel.inv kv (ai hj)).pk _ hm,by lia,by lia⟩
theorem PrAt.bok{C:Addr}{H:Hp}{x:Pd}{n:Nat}(h:PrAt C H x n)(hn:n<=60)(o6:x.os.length<=63):P5 x.tn:=⟨by have:=h.n1;lia,λ t ht=>by have:=h.n2 t ht;lia,by have:=h.n3;show(whs 0 x.kvs).length<=900;lia,by have:=h.rel.off.length_eq;rw[ae]at this;show(A5 (whs 0 x.kvs)).length<=63;lia⟩
theorem PrAt.same{C:Addr}{H H':Hp}{x:Pd}{n:Nat}(h:PrAt C H x n)(s:Same H H'):PrAt C H' x n:=⟨h.bn.same s,h.ls.same s,h.sz,h.z4,h.so,h.tk,h.rel,h.n1,h.n2,h.n3,h.n4,h.nd⟩
def Fo:LK->Ds
 |[]=>.nil
 |y::r=>.cons (DV y) (Fo r)
theorem Gq{K:Frag}{H:Hp}:∀(ts:List Of1),(∀t∈ts,OfAt H t)->DIss K H (Fo (ts.map λ t:Of1=>t.2.2)) (Ai ts)
 |[],_=>by show DIss K H .nil [];rw[DIss]
 |t::r,h=>by
  show DIss K H (.cons (DV t.2.2) (Fo (r.map λ t:Of1=>t.2.2))) (.ref t.1::Ai r);rw[DIss];exact⟨_,_,rfl,CJ (h t aR),Gq r λ u hu=>h u (aO _ hu)⟩
theorem HM:∀(L:LK),Bw (Fo L)<=4
 |[]=>by rw[Fo,Bw];lia
 |y::r=>by
  have:=HM r;have:=Eu y;rw[Fo,Bw];lia
theorem Oc{zs:LI}{k:Int}(h:0<=k/\k<zs.length):zs[k.toNat]?=some (zOf zs k):=by
 unfold zOf;rw[ag (by lia)];rfl
def Chg(H:Hp)(M:List Addr):Prop:=∀x∈M,(∃xs,H x=some (.lst xs))\/∃ks,H x=some (.dT ks)
def Out(M:List Addr)(H H':Hp):Prop:=∀x o,x∉M->H x=some o->H' x=some o
theorem Out.tup{M:List Addr}{H H':Hp}(o:Out M H H')(c:Chg H M){x:Addr}{xs:LUz}(h:H x=some (.tup xs)):H' x=some (.tup xs):=o _ _ (λ z=>by
 rcases c x z with ⟨ys,e⟩|⟨ks,e⟩
 .rw[e]at h;cases h
 .rw[e]at h;cases h) h
theorem BnAt.keep{C a dx ls lt:Addr}{H H':Hp}{ss:LZ}{tn:List Tk1}{M:List Addr}(h:BnAt C a dx ls lt H ss tn)(o:Out M H H')(c:Chg H M)(n1:ls∉M)(n2:lt∉M)(n3:∀t∈tn,t.2.2.1∉M):BnAt C a dx ls lt H' ss tn :=
 ⟨o _ _ (λ z=>by
  have e:=h.ob;rcases c a z with ⟨ys,e'⟩|⟨ks,e'⟩
  .rw[e']at e;cases e
  .rw[e']at e;cases e) h.ob,o _ _ n1 h.lst,λ t ht=>o.tup c (h.stk t ht),o _ _ n2 h.tak,λ t ht=>⟨o.tup c (h.tks t ht).1,o _ _ (n3 t ht) (h.tks t ht).2.1,(h.tks t ht).2.2.tups λ x xs e=>o.tup c e⟩,h.dis⟩
theorem LsAt.keep{H H':Hp}{d a b c e:Addr}{zs:LI}{tk:List Int}{os ps:List Of1}{M:List Addr}(h:LsAt H d a b c e zs tk os ps)(o:Out M H H')(ch:Chg H M)(na:a∉M)(nb:b∉M)(nc:c∉M)(ne:e∉M):LsAt H' d a b c e zs tk os ps:=by
 obtain⟨zt,z1,z2,z3⟩:=h.sh;exact⟨o _ _ (λ z=>by
  have e:=h.dic;rcases ch d z with ⟨ys,e'⟩|⟨ks,e'⟩
  .rw[e']at e;cases e
  .rw[e']at e;cases e) h.dic,⟨zt,o _ _ na z1,λ t ht=>o.tup ch (z2 t ht),z3⟩,o _ _ nb h.tak,o _ _ nc h.off,λ t ht=>(h.ofs t ht).tups λ x xs e=>o.tup ch e,o _ _ ne h.pan,λ t ht=>(h.pns t ht).tups λ x xs e=>o.tup ch e,h.nbc,h.nbe,h.nce,h.nab,h.nac,h.nae⟩
theorem PrAt.own_at{C:Addr}{H:Hp}{x:Pd}{n:Nat}(h:PrAt C H x n):Chg H x.own:=λ y hy=>by
 obtain⟨zt,z1,_⟩:=h.ls.sh;unfold Pd.own at hy;simp only[aA]at hy;rcases hy with rfl|rfl|rfl|rfl|rfl|rfl|hy
 .exact .inl ⟨_,h.bn.lst⟩
 .exact .inl ⟨_,h.bn.tak⟩
 .exact .inl ⟨_,z1⟩
 .exact .inl ⟨_,h.ls.tak⟩
 .exact .inl ⟨_,h.ls.off⟩
 .exact .inl ⟨_,h.ls.pan⟩
 .obtain⟨t,ht,rfl⟩:=ay.mp hy;exact .inr ⟨_,(h.bn.tks t ht).2.1⟩
theorem Chg.some{H:Hp}{M:List Addr}(h:Chg H M){x:Addr}(hx:x∈M):H x≠none:=λ z=>by
 rcases h x hx with ⟨_,e⟩|⟨_,e⟩
 .rw[z]at e;cases e
 .rw[z]at e;cases e
theorem FJ{tn:List Tk1}{i:Nat}{u:Tk1}{ks:LKz}{kv:KV}(h:tn[i]?=some u):Ci tn i ks kv=tn.set i (u.1,u.2.1,u.2.2.1,ks,kv):=by unfold Ci;rw[h]
theorem Gp{α β:Type}{l:List α}{i:Nat}{a b:α}(f:α->β)(h:l[i]?=some a)(e:f b=f a):(l.set i b).map f=l.map f:=by
 obtain⟨h1,h2⟩:=av.mp h;rw[eN,e];apply dR (by simp);intro j h3 h4;rw[List.getElem_set];split
 .rename_i hh;subst hh;rw[bI,h2]
 .rfl
theorem PrAt.old{C:Addr}{H H':Hp}{x:Pd}{n:Nat}(h:PrAt C H x n){y:Int×Rk}{t:Bl}{z:Int×Int}{rest:LI}{u:Tk1}{ks:LKz}{os2 ps2:List Of1}{m:Int}(hy:y∈A5 (whs 0 x.kvs))(wk:WOk t)(hz:AA t (y.2.len true) (y.2.len false)=z::rest)(hu:x.tn[y.1.toNat]?=some u)
  (hO:(y::os2.map (λ t:Of1=>t.2.2)).Perm (x.os.map (λ t:Of1=>t.2.2)++Cj y z)) (hP:ps2.map (λ t:Of1=>t.2.2)=x.ps.map (λ t:Of1=>t.2.2)++[(y.1,pnN y z)]) (bn:BnAt C x.a x.dx x.ls x.lt H' x.ss (Ci x.tn y.1.toNat ks (AG u.2.2.2.2 y.2 z m))) (ls:LsAt H' x.d x.s x.b x.c x.e x.zs x.tk os2 ps2) :
  PrAt C H' { x with tn:=Ci x.tn y.1.toNat ks (AG u.2.2.2.2 y.2 z m),os:=os2,ps:=ps2 } (n+1):=by
 have hk:x.kvs[y.1.toNat]?=some u.2.2.2.2:=by unfold Pd.kvs;rw[aE,hu];rfl
 obtain⟨r1,r2,r3,r4⟩:=h.rel.cut (n:=m) hy wk hz hk hO;have e0:=FJ (ks:=ks) (kv:=AG u.2.2.2.2 y.2 z m) hu;have e1:(Ci x.tn y.1.toNat ks (AG u.2.2.2.2 y.2 z m)).map (λ t=>t.2.2.2.2)=x.kvs.set y.1.toNat (AG u.2.2.2.2 y.2 z m):=by rw[e0,eN]
 have e2:(Ci x.tn y.1.toNat ks (AG u.2.2.2.2 y.2 z m)).map (λ t=>t.2.1)=x.tn.map (λ t=>t.2.1):=by rw[e0];exact Gp _ hu rfl
 have e3:(Ci x.tn y.1.toNat ks (AG u.2.2.2.2 y.2 z m)).map (λ t=>t.2.2.1)=x.tn.map (λ t=>t.2.2.1):=by rw[e0];exact Gp _ hu rfl
 refine⟨bn,ls,h.sz,h.z4,h.so,h.tk.trans e2.symm,?_,?_,λ t' ht'=>?_,?_,?_,?_⟩
 .show Rel x.zs x.tk ((Ci x.tn y.1.toNat ks (AG u.2.2.2.2 y.2 z m)).map (λ t=>t.2.2.2.2)) _ _;rw[e1,hP];exact r1
 .show(Ci x.tn y.1.toNat ks (AG u.2.2.2.2 y.2 z m)).length<=_;rw[e0,dw];have:=h.n1;lia
 .have ht':t'∈Ci x.tn y.1.toNat ks (AG u.2.2.2.2 y.2 z m):=ht';rw[e0]at ht';rcases ce ht' with ht'|rfl
  .have:=h.n2 t' ht';lia
  .have:=h.n2 u (ai hu);show(AG u.2.2.2.2 y.2 z m).length<=_;lia
 .show(whs 0 ((Ci x.tn y.1.toNat ks (AG u.2.2.2.2 y.2 z m)).map (λ t=>t.2.2.2.2))).length<=_;rw[e1];have:=h.n3;lia
 .show(AF (whs 0 ((Ci x.tn y.1.toNat ks (AG u.2.2.2.2 y.2 z m)).map (λ t=>t.2.2.2.2)))).length<=_;rw[e1];have:=h.n4;lia
 .have:=h.nd;unfold Pd.own at this |-;dsimp only;rw[e3];exact this
theorem PrAt.new{C:Addr}{H H':Hp}{x:Pd}{n:Nat}(h:PrAt C H x n){t:Bl}{k:Nat}{z0 z:Int×Int}{rest:LI}{ks:LKz}{os2 ps2:List Of1}{m:Int}{tA dA:Addr}(hk:x.zs[k]?=some z0)(wk:WOk t)(hz:AA t ((shR z0).len true) ((shR z0).len false)=z::rest)(nd:H dA=none)
  (hO:(os2.map (λ t:Of1=>t.2.2)).Perm (x.os.map (λ t:Of1=>t.2.2)++Cj ((x.tk.length:Int),shR z0) z)) (hP:ps2.map (λ t:Of1=>t.2.2)=x.ps.map (λ t:Of1=>t.2.2)++[((x.tk.length:Int),pnN ((x.tk.length:Int),shR z0) z)])
  (bn:BnAt C x.a x.dx x.ls x.lt H' x.ss (x.tn++[(tA,(k:Int),dA,ks,AG [(shR z0,.w none)] (shR z0) z m)])) (ls:LsAt H' x.d x.s x.b x.c x.e x.zs (x.tk++[(k:Int)]) os2 ps2) :
  PrAt C H' { x with tn:=x.tn++[(tA,(k:Int),dA,ks,AG [(shR z0,.w none)] (shR z0) z m)],tk:=x.tk++[(k:Int)],os:=os2,ps:=ps2 } (n+1):=by
 have so:=h.so z0 (ai hk);have rt:=h.rel.take hk so;have lk:x.kvs.length=x.tk.length:=h.rel.len.symm;have e0:whs 0 (x.kvs++[[(shR z0,En.w none)]])=whs 0 x.kvs++[((x.tk.length:Int),shR z0,none)]:=by
  rw[Ej,lk];show _++[((0:Int)+(x.tk.length:Int),shR z0,none)]=_;rw[cH]
 have hy:((x.tk.length:Int),shR z0)∈A5 (whs 0 (x.kvs++[[(shR z0,En.w none)]])):=mem_off.mpr (by rw[e0];exact az _ (aa.mpr rfl));have hi:(x.kvs++[[(shR z0,En.w none)]])[((x.tk.length:Int)).toNat]?=some [(shR z0,En.w none)]:=by
  rw[bQ,<-lk,bj (aj _),bV];rfl
 have hO':(((x.tk.length:Int),shR z0)::os2.map (λ t:Of1=>t.2.2)).Perm ((x.os.map (λ t:Of1=>t.2.2)++[((x.tk.length:Int),shR z0)])++Cj ((x.tk.length:Int),shR z0) z):=by
  rw[aK];exact(hO.cons _).trans cI.symm
 obtain⟨r1,r2,r3,r4⟩:=rt.cut (n:=m) hy wk hz hi hO';have es:(x.kvs++[[(shR z0,En.w none)]]).set ((x.tk.length:Int)).toNat (AG [(shR z0,En.w none)] (shR z0) z m)=x.kvs++[AG [(shR z0,En.w none)] (shR z0) z m]:=by
  rw[bQ,<-lk,dB _ _ (aj _),bV];rfl
 dsimp only at r1 r3 r4;rw[es]at r1 r3 r4;have e1:(x.tn++[((tA,(k:Int),dA,ks,AG [(shR z0,En.w none)] (shR z0) z m):Tk1)]).map (λ t=>t.2.2.2.2)=x.kvs++[AG [(shR z0,En.w none)] (shR z0) z m]:=by rw[ah];rfl
 refine⟨bn,ls,h.sz,h.z4,h.so,?_,?_,?_,λ t' ht'=>?_,?_,?_,?_⟩
 .show x.tk++[(k:Int)]=(x.tn++[((tA,(k:Int),dA,ks,AG [(shR z0,En.w none)] (shR z0) z m):Tk1)]).map (λ t=>t.2.1);rw[ah,<-h.tk];rfl
 .show Rel x.zs (x.tk++[(k:Int)]) ((x.tn++[((tA,(k:Int),dA,ks,AG [(shR z0,En.w none)] (shR z0) z m):Tk1)]).map (λ t=>t.2.2.2.2)) _ _;rw[e1,hP];exact r1
 .show(x.tn++[_]).length<=_;rw[ak,aM];have:=h.n1;lia
 .rcases aw.mp ht' with ht'|ht'
  .have:=h.n2 t' ht';lia
  .rw[aa.mp ht'];have r2:(AG [(shR z0,En.w none)] (shR z0) z m).length<=1+4:=r2;show(AG [(shR z0,En.w none)] (shR z0) z m).length<=_;lia
 .show(whs 0 ((x.tn++[((tA,(k:Int),dA,ks,AG [(shR z0,En.w none)] (shR z0) z m):Tk1)]).map (λ t=>t.2.2.2.2))).length<=_;rw[e1];rw[e0,ak,aM]at r3;have:=h.n3;lia
 .show(AF (whs 0 ((x.tn++[((tA,(k:Int),dA,ks,AG [(shR z0,En.w none)] (shR z0) z m):Tk1)]).map (λ t=>t.2.2.2.2)))).length<=_;rw[e1];rw[e0,BS,show AF [((x.tk.length:Int),shR z0,(none:Option Int))]=[] from rfl,aI]at r4;have:=h.n4;lia
 .have hn:=h.nd;have hx:dA∉x.own:=λ z=>h.own_at.some z nd;unfold Pd.own at hn hx |-;dsimp only;rw[ah];have e:x.ls::x.lt::x.s::x.b::x.c::x.e::(x.tn.map (λ t=>t.2.2.1)++[dA])=(x.ls::x.lt::x.s::x.b::x.c::x.e::x.tn.map (λ t=>t.2.2.1))++[dA]:=rfl;show(x.ls::x.lt::x.s::x.b::x.c::x.e::(x.tn.map (λ t=>t.2.2.1)++[dA])).Nodup;rw[e,dc];exact⟨hn,by simp,λ a ha b hb=>by rw[aa.mp hb];exact λ z=>hx (by rw[<-z];exact ha)⟩
def nth(b:List Stmt)(i:Nat):Stmt:=b.getD i (.Pass ⟨0,0,0,0⟩)
def Jz:Stmt->List Stmt
 |.For _ _ b _ _=>b
 |_=>[]
theorem PrAt.sep{C:Addr}{H:Hp}{x:Pd}{n:Nat}(h:PrAt C H x n):(x.ls∉[x.b,x.c,x.e]/\x.lt∉[x.b,x.c,x.e]/\∀t∈x.tn,t.2.2.1∉[x.b,x.c,x.e])/\(x.s∉[x.lt]/\x.b∉[x.lt]/\x.c∉[x.lt]/\x.e∉[x.lt])/\∀t∈x.tn,x.s∉[t.2.2.1]/\x.b∉[t.2.2.1]/\x.c∉[t.2.2.1]/\x.e∉[t.2.2.1]:=by
 have:=h.nd;unfold Pd.own at this;simp only[bx,aA,not_or]at this;obtain⟨⟨a1,a2,a3,a4,a5,a6⟩,⟨b1,b2,b3,b4,b5⟩,⟨c1,c2,c3,c4⟩,⟨d1,d2,d3⟩,⟨e1,e2⟩,f1,_⟩:=this;have m:∀{y:Addr}{t:Tk1},t∈x.tn->y∉x.tn.map (λ t=>t.2.2.1)->¬y=t.2.2.1:=λ ht hy z=>hy (ay.mpr ⟨_,ht,z.symm⟩);simp only[aA,bd,or_false,not_or];refine⟨⟨⟨a3,a4,a5⟩,⟨b2,b3,b4⟩,λ t ht=>⟨λ z=>m ht d3 z.symm,λ z=>m ht e2 z.symm,λ z=>m ht f1 z.symm⟩⟩,⟨λ z=>b1 z.symm,λ z=>b2 z.symm,λ z=>b3 z.symm,λ z=>b4 z.symm⟩,λ t ht=>⟨m ht c4,m ht d3,m ht e2,m ht f1⟩⟩
theorem OD{x:Pd}{y:Addr}(h:y∈[x.b,x.c,x.e]):y∈x.own:=by
 unfold Pd.own;simp only[aA,bd,or_false]at h |-;rcases h with h|h|h
 .exact .inr (.inr (.inr (.inl h)))
 .exact .inr (.inr (.inr (.inr (.inl h))))
 .exact .inr (.inr (.inr (.inr (.inr (.inl h)))))
theorem R7(x:Pd):x.lt∈x.own:=by unfold Pd.own;simp
theorem Qg{x:Pd}{t:Tk1}(h:t∈x.tn):t.2.2.1∈x.own:=by
 unfold Pd.own;simp only[aA];exact .inr (.inr (.inr (.inr (.inr (.inr (ay.mpr ⟨t,h,rfl⟩))))))
theorem Out.trans{M A B:List Addr}{H H1 H2:Hp}(a:Out A H H1)(b:Out B H1 H2)(ha:∀x∈A,x∈M)(hb:∀x∈B,x∈M):Out M H H2:=λ x o n e=>b x o (λ z=>n (hb x z)) (a x o (λ z=>n (ha x z)) e)
theorem Out.same{M:List Addr}{H H1 H2:Hp}(a:Out M H H1)(b:Same H1 H2):Out M H H2:=λ x o n e=>b _ _ (a x o n e)
theorem OR{ar ar':Int}{k k':Nat}(h:k<=9)(h':k'<=9)(e:BL [ar,(k:Int)]=BL [ar',(k':Int)]):k=k':=by
 simp only[BL]at e;lia
theorem Db{H:Hp}{a:Addr}{xs:LUz}(h:H a=some (.lst xs)):tyS H (.ref a)=some "list":=by
 show tyO (H a)=some "list";rw[h];rfl
def Me:KV->Rk->En
 |[],_=>.w none
 |x::r,q=>if rkK x.1=rkK q then x.2 else Me r q
theorem KvAt.val{H:Hp}{q:Rk}:∀{kvs:LKz}{kv:KV},KvAt H kvs kv->(∃e,(q,e)∈kv)->∃c,DJ kvs (rkK q)=some (.ref c)/\H c=some (.tup (enV (Me kv q)))
 |[],[],_,⟨_,h⟩=>nomatch h
 |x::r,y::s,⟨⟨h1,a,h2,h3⟩,h⟩,⟨e,he⟩=>by
  by_cases z:rkK y.1=rkK q
  .refine⟨a,?_,?_⟩
   .rw[Ek (h1.trans z),h2]
   .unfold Me;rw[if_pos z];exact h3
  .obtain⟨c,c1,c2⟩:=KvAt.val h ⟨e,by
    rcases aA.mp he with w|w
    .exact absurd (by rw[<-w]) z
    .exact w⟩
   refine⟨c,?_,?_⟩
   .rw[El (λ w=>z (h1.symm.trans w)),c1]
   .unfold Me;rw[if_neg z];exact c2
 |[],_::_,h,_=>h.elim
 |_::_,[],h,_=>h.elim
theorem SubR.rfl{p:Rk}:SubR p p:=⟨bb _,bb _,bb _,bb _⟩
theorem SubR.trans{p q r:Rk}(a:SubR p q)(b:SubR q r):SubR p r:=by unfold SubR at *;lia
theorem Eh{q f o:Rk}(pq:A6 q)(a:BR o f)(s1:SubR q f)(s2:SubR q o):False:=by unfold BR SubR A6 at *;lia
def nds:Tr->Rk->KV
 |.whole m,p=>[(p,.w m)]
 |.cut u k x y,p=>(p,.c u k)::(nds x (p.fst u k)++nds y (p.oth u k))
theorem MZ{p:Rk}{u:Bool}{k:Int}{x y:Tr}(pk:A6 p)(f:Cm p (.cut u k x y)):Tk p (p.fst u k) (p.oth u k)/\Cm (p.fst u k) x/\Cm (p.oth u k) y:=by
 rw[CB]at f;obtain⟨⟨a,b⟩,fx,fy⟩:=f;exact⟨RR pk (by lia) b,fx,fy⟩
theorem Dq:∀{t:Tr}{p:Rk},A6 p->Cm p t->∀x∈nds t p,SubR x.1 p/\A6 x.1
 |.whole m,p,h,_,x,hx=>by
  rw[nds]at hx;rw[aa.mp hx];exact⟨SubR.rfl,h⟩
 |.cut u k a b,p,h,f,x,hx=>by
  obtain⟨⟨pf,po,sf,so,ao,nf,no⟩,fa,fb⟩:=MZ h f;rw[nds]at hx;rcases aA.mp hx with rfl|hx
  .exact⟨SubR.rfl,h⟩
  .rcases aw.mp hx with hx|hx
   .obtain⟨s,q⟩:=Dq pf fa x hx;exact⟨s.trans sf,q⟩
   .obtain⟨s,q⟩:=Dq po fb x hx;exact⟨s.trans so,q⟩
theorem BQ{t:Tr}{p q:Rk}(h:A6 p)(f:Cm p t)(m:q∈(nds t p).map λ x=>x.1):SubR q p/\A6 q:=by
 obtain⟨x,hx,rfl⟩:=ay.mp m;exact Dq h f x hx
theorem LG:∀{t:Tr}{p:Rk},A6 p->Cm p t->((nds t p).map λ x=>x.1).Nodup
 |.whole m,p,h,_=>by rw[nds];show([p]:List Rk).Nodup;simp
 |.cut u k a b,p,h,f=>by
  obtain⟨⟨pf,po,sf,so,ao,nf,no⟩,fa,fb⟩:=MZ h f;rw[nds,aL,ah,bx,dc,aw];refine⟨λ z=>z.elim (λ z=>nf (SubR.eq sf (BQ pf fa z).1)) (λ z=>no (SubR.eq so (BQ po fb z).1)),LG pf fa,LG po fb,λ x hx y hy e=>?_⟩;subst e;exact Eh (BQ pf fa hx).2 ao (BQ pf fa hx).1 (BQ po fb hy).1
theorem OV:∀{t:Tr}{p q r:Rk}{m:Option Int},A6 p->Cm p t->(q,En.w m)∈nds t p->SubR r q->r≠q->A6 r->r∉(nds t p).map λ x=>x.1
 |.whole m',p,q,r,m,h,_,hq,s,n,_=>by
  rw[nds]at hq |-;cases aa.mp hq;intro z;exact n (aa.mp z)
 |.cut u k a b,p,q,r,m,h,f,hq,s,n,pr=>by
  obtain⟨⟨pf,po,sf,so,ao,nf,no⟩,fa,fb⟩:=MZ h f;rw[nds]at hq |-;rw[aL,ah,aA,aw];rcases aA.mp hq with e|hq
  .cases e
  .rcases aw.mp hq with hq|hq
   .have sr:=s.trans (Dq pf fa _ hq).1;rintro(z|z|z)
    .subst z;exact nf (SubR.eq sf sr)
    .exact OV pf fa hq s n pr z
    .exact Eh pr ao sr (BQ po fb z).1
   .have sr:=s.trans (Dq po fb _ hq).1;rintro(z|z|z)
    .subst z;exact no (SubR.eq so sr)
    .exact Eh pr ao (BQ pf fa z).1 sr
    .exact OV po fb hq s n pr z
def rep(q:Rk)(s:Tr):Tr->Rk->Tr
 |.whole m,p=>if p=q then s else .whole m
 |.cut u k x y,p=>.cut u k (rep q s x (p.fst u k)) (rep q s y (p.oth u k))
theorem IY{q:Rk}{s:Tr}:∀{t:Tr}{p:Rk},q∉(nds t p).map (λ x=>x.1)->rep q s t p=t
 |.whole m,p,h=>by
  rw[nds]at h;rw[rep,if_neg (λ z=>h (aa.mpr z.symm))]
 |.cut u k x y,p,h=>by
  rw[nds,aL,ah,aA,aw,not_or,not_or]at h;rw[rep,IY h.2.1,IY h.2.2]
theorem Lx{q:Rk}{s:Tr}{m:Option Int}(fs:Cm q s):∀{t:Tr}{p:Rk},A6 p->Cm p t->(q,En.w m)∈nds t p->Cm p (rep q s t p)/\((q,En.w m)::nds (rep q s t p) p).Perm (nds t p++nds s q)
 |.whole m',p,h,_,hq=>by
  rw[nds]at hq |-;cases aa.mp hq;rw[rep,if_pos rfl];exact⟨fs,List.Perm.refl _⟩
 |.cut u k a b,p,h,f,hq=>by
  obtain⟨⟨pf,po,sf,so,ao,nf,no⟩,fa,fb⟩:=MZ h f;have f':=f;rw[CB]at f';rw[nds]at hq;rcases aA.mp hq with e|hq
  .cases e
  .rcases aw.mp hq with hq|hq
   .obtain⟨sq,pq⟩:=Dq pf fa _ hq;have e:=IY (s:=s) (t:=b) (p:=p.oth u k) (q:=q) (λ z=>Eh pq ao sq (BQ po fb z).1);obtain⟨r1,r2⟩:=Lx fs pf fa hq;rw[rep,e,CB];refine⟨⟨f'.1,r1,fb⟩,?_⟩;rw[nds,nds];refine(cr _ _ _).trans (List.Perm.cons _ ?_);have r3:=aW (nds b (p.oth u k)) r2;refine r3.trans ?_;show _root_.List.Perm _ ((nds a (p.fst u k)++nds b (p.oth u k))++nds s q);rw[aK,aK];exact bp _ bM
   .obtain⟨sq,pq⟩:=Dq po fb _ hq;have e:=IY (s:=s) (t:=a) (p:=p.fst u k) (q:=q) (λ z=>Eh pq ao (BQ pf fa z).1 sq);obtain⟨r1,r2⟩:=Lx fs po fb hq;rw[rep,e,CB];refine⟨⟨f'.1,fa,r1⟩,?_⟩;rw[nds,nds];refine(cr _ _ _).trans (List.Perm.cons _ ?_);show _root_.List.Perm _ ((nds a (p.fst u k)++nds b (p.oth u k))++nds s q);rw[aK];exact cI.symm.trans (bp _ r2)
theorem Jr{p:Rk}{e e0:En}:∀{kv:KV},(kv.map λ x=>x.1).Nodup->(p,e0)∈kv->((p,e0)::kv.map λ x=>if x.1=p then (p,e) else x).Perm ((p,e)::kv)
 |y::r,nd,h=>by
  rw[aL,bx]at nd;rw[aL];rcases aA.mp h with rfl|h
  .have e1:(r.map λ x=>if x.1=p then (p,e) else x)=r:=by
    conv=>rhs;rw[<-List.map_id r]
    apply cR;intro x hx;rw[if_neg (λ z=>nd.1 (ay.mpr ⟨x,hx,z⟩))];rfl
   rw[e1,if_pos rfl];exact cr _ _ _
  .rw[if_neg (λ z=>nd.1 (ay.mpr ⟨_,h,z.symm⟩))];exact(cr _ _ _).trans (((Jr nd.2 h).cons y).trans (cr _ _ _))
structure LvQ(kv0:KV)(q:Rk)(kv:KV)(p:Rk)(L R:KV):Prop where
 pp:A6 p
 nd:(kv.map λ x=>x.1).Nodup
 fr:∀r,SubR r p->r≠p->A6 r->r∉kv.map λ x=>x.1
 at_:(kv=kv0/\p=q/\L=[]/\R=[])\/(((q,En.w none)::kv).Perm (kv0++(L++R))/\p∉kv.map λ x=>x.1)
theorem Gx{A B L R:KV}{x:Rk×En}(h:A.Perm (B++(L++R))):(A++[x]).Perm (B++(L++x::R)):=by
 refine(aW _ h).trans ?_;rw[aK,aK];refine bp _ (bp _ ?_);exact bM
theorem LvQ.step{kv0 kv:KV}{q p:Rk}{L R:KV}{u:Bool}{k:Int}(h:LvQ kv0 q kv p L R)(hq:(q,En.w none)∈kv0)(h0:0<k)(h1:k<p.len u) :
  LvQ kv0 q (AK (AK kv p (.c u k)) (p.oth u k) (.w none)) (p.fst u k) (L++[(p,.c u k)]) ((p.oth u k,.w none)::R):=by
 obtain⟨pf,po,sf,so,ao,nf,no⟩:=RR (u:=u) h.pp h0 h1;generalize p.fst u k=f at pf sf ao nf |-;generalize p.oth u k=o at po so ao no |-;have kk:∀{r:Rk},r∈(AK kv p (.c u k)).map (λ x=>x.1)->r=p\/r∈kv.map λ x=>x.1:=λ{r} hr=>by
  obtain⟨x,hx,rfl⟩:=ay.mp hr;rcases mem_putE.mp hx with rfl|⟨hx,_⟩
  .exact .inl rfl
  .exact .inr (ay.mpr ⟨x,hx,rfl⟩)
 have on:o∉(AK kv p (.c u k)).map λ x=>x.1:=λ z=>(kk z).elim no (h.fr o so no po);have nfo:f≠o:=λ z=>by rw[<-z]at ao;exact Eh pf ao SubR.rfl SubR.rfl
 rw[AZ on];have fn:∀{r:Rk},SubR r f->A6 r->r∉(AK kv p (.c u k)++[(o,En.w none)]).map λ x=>x.1:=λ{r} sr pr z=>by
  rw[ah,aw]at z;have srp:=sr.trans sf;have rp:r≠p:=λ e=>nf (SubR.eq sf (by rw[<-e];exact sr));rcases z with z|z
  .exact(kk z).elim rp (h.fr r srp rp pr)
  .have z:r=o:=aa.mp z;subst z;exact Eh pr ao sr SubR.rfl
 have e1:((q,En.w none)::AK kv p (.c u k)).Perm (kv0++(L++(p,.c u k)::R)):=by
  rcases h.at_ with ⟨rfl,rfl,rfl,rfl⟩|⟨pm,hn⟩
  .rw[C3 (ay.mpr ⟨_,hq,rfl⟩)];exact(Jr h.nd hq).trans (bM (l₁:=[_]))
  .rw[AZ hn];exact Gx (A:=(q,En.w none)::kv) pm
 refine⟨pf,?_,λ r sr rn pr=>fn sr pr,.inr ⟨?_,fn SubR.rfl pf⟩⟩
 .have:=Ey (p:=o) (e:=En.w none) (Ey (p:=p) (e:=En.c u k) h.nd);rwa [AZ on]at this
 .have e2:=Gx (x:=(o,En.w none)) (A:=(q,En.w none)::AK kv p (.c u k)) (B:=kv0) (L:=L++[(p,.c u k)]) (R:=R) (by rw[aK];exact e1);exact e2
theorem LvQ.fin{kv0 kv:KV}{q p:Rk}{L R:KV}{n:Int}(h:LvQ kv0 q kv p L R)(hq:(q,En.w none)∈kv0):((q,En.w none)::AK kv p (.w (some n))).Perm (kv0++(L++(p,.w (some n))::R)):=by
 rcases h.at_ with ⟨rfl,rfl,rfl,rfl⟩|⟨pm,hn⟩
 .rw[C3 (ay.mpr ⟨_,hq,rfl⟩)];exact(Jr h.nd hq).trans (bM (l₁:=[_]))
 .rw[AZ hn];exact Gx (A:=(q,En.w none)::kv) pm
def Pk(q:Rk)(z:Int×Int)(n:Int):Tr:=if z.2<q.len false then .cut false z.2 (.whole (some n)) (.whole none) else .whole (some n)
def Mf(q:Rk)(z:Int×Int)(n:Int):Tr:=if z.1<q.len true then .cut true z.1 (Pk q z n) (.whole none) else Pk q z n
theorem KG{q p:Rk}{z:Int×Int}{n:Int}(h:p.len false=q.len false)(z2:0<z.2):Cm p (Pk q z n):=by
 unfold Pk;split
 .rw[CB];exact⟨⟨by lia,by rw[h];assumption⟩,by unfold Cm;rw[Fit];trivial,by unfold Cm;rw[Fit];trivial⟩
 .unfold Cm;rw[Fit];trivial
theorem Pj{q:Rk}{z:Int×Int}{n:Int}(z1:0<z.1)(z2:0<z.2):Cm q (Mf q z n):=by
 unfold Mf;split
 .rw[CB];exact⟨⟨by lia,by assumption⟩,KG rfl z2,by unfold Cm;rw[Fit];trivial⟩
 .exact KG rfl z2
theorem NU{kv:KV}{q:Rk}{z:Int×Int}{n:Int}(pq:A6 q)(nd:(kv.map λ x=>x.1).Nodup)(fr:∀r,SubR r q->r≠q->A6 r->r∉kv.map λ x=>x.1)(hq:(q,En.w none)∈kv)(z1:0<z.1)(z2:0<z.2):((q,En.w none)::AG kv q z n).Perm (kv++nds (Mf q z n) q):=by
 have l0:LvQ kv q kv q [] []:=⟨pq,nd,fr,.inl ⟨rfl,rfl,rfl,rfl⟩⟩;unfold AG CY Mf Pk;by_cases c1:z.1<q.len true
 .have e1:Ba true z.1 (kv,q)=(AK (AK kv q (.c true z.1)) (q.oth true z.1) (.w none),q.fst true z.1):=by unfold Ba;rw[if_pos c1]
  rw[e1,if_pos c1];have l1:=l0.step hq z1 c1;generalize AK (AK kv q (.c true z.1)) (q.oth true z.1) (.w none)=kv1 at l1 |-;by_cases c2:z.2<q.len false
  .have e2:Ba false z.2 (kv1,q.fst true z.1)=(AK (AK kv1 (q.fst true z.1) (.c false z.2)) ((q.fst true z.1).oth false z.2) (.w none),(q.fst true z.1).fst false z.2):=by unfold Ba;rw[if_pos (show z.2<(q.fst true z.1).len false from c2)]
   rw[e2,if_pos c2];exact(l1.step (u:=false) hq z2 c2).fin hq
  .have e2:Ba false z.2 (kv1,q.fst true z.1)=(kv1,q.fst true z.1):=by unfold Ba;rw[if_neg (show ¬z.2<(q.fst true z.1).len false from c2)]
   rw[e2,if_neg c2];exact l1.fin hq
 .have e1:Ba true z.1 (kv,q)=(kv,q):=by unfold Ba;rw[if_neg c1]
  rw[e1,if_neg c1];by_cases c2:z.2<q.len false
  .have e2:Ba false z.2 (kv,q)=(AK (AK kv q (.c false z.2)) (q.oth false z.2) (.w none),q.fst false z.2):=by unfold Ba;rw[if_pos c2]
   rw[e2,if_pos c2];exact(l0.step hq z2 c2).fin hq
  .have e2:Ba false z.2 (kv,q)=(kv,q):=by unfold Ba;rw[if_neg c2]
   rw[e2,if_neg c2];exact l0.fin hq
structure ShT(kv:KV)(p:Rk)(r:Tr):Prop where
 pm:kv.Perm (nds r p)
 ft:Cm p r
theorem ShT.nd{kv:KV}{p:Rk}{r:Tr}(h:ShT kv p r)(pk:A6 p):(kv.map λ x=>x.1).Nodup:=(h.pm.map _).nodup_iff.mpr (LG pk h.ft)
theorem ShT.cut{kv:KV}{p q:Rk}{r:Tr}{z:Int×Int}{n:Int}(h:ShT kv p r)(pk:A6 p)(hq:(q,En.w none)∈kv)(z1:0<z.1)(z2:0<z.2):ShT (AG kv q z n) p (rep q (Mf q z n) r p)/\((q,En.w none)::AG kv q z n).Perm (kv++nds (Mf q z n) q):=by
 have hq':=h.pm.mem_iff.mp hq;obtain⟨sq,pq⟩:=Dq pk h.ft _ hq';obtain⟨r1,r2⟩:=Lx (Pj (q:=q) (n:=n) z1 z2) pk h.ft hq';have e:=NU (n:=n) pq (h.nd pk) (λ r s n' pr z=>OV pk h.ft hq' s n' pr ((h.pm.map _).mem_iff.mp z)) hq z1 z2;exact⟨⟨cf (e.trans ((aW _ h.pm).trans r2.symm)),r1⟩,e⟩
theorem GY{q:Rk}{e:En}:∀{kv:KV},(kv.map λ x=>x.1).Nodup->(q,e)∈kv->Me kv q=e
 |y::r,nd,h=>by
  rw[aL,bx]at nd;rw[Me];rcases aA.mp h with rfl|h
  .rw[if_pos rfl]
  .rw[if_neg (λ z=>nd.1 (ay.mpr ⟨_,h,(IX z).symm⟩))];exact GY nd.2 h
theorem Jx{kv:KV}(nd:(kv.map λ x=>x.1).Nodup):∀{t:Tr}{p:Rk},(∀x∈nds t p,x∈kv)->Lg (Me kv) (λ q=>∃e,(q,e)∈kv) t p
 |.whole m,p,h=>by
  have:=h (p,.w m) (by rw[nds];exact aa.mpr rfl);exact⟨⟨_,this⟩,GY nd this⟩
 |.cut u k x y,p,h=>by
  have:=h (p,.c u k) (by rw[nds];exact aR);exact⟨⟨_,this⟩,GY nd this,Jx nd λ z hz=>h z (by rw[nds];exact aO _ (bG _ hz)),Jx nd λ z hz=>h z (by rw[nds];exact aO _ (az _ hz))⟩
theorem Ou{z:Int×Int}(h:SOk z):A6 (shR z):=by
 obtain⟨a,b,c,d⟩:=h;exact⟨bb _,show(0:Int)<z.2 by lia,show z.2<=12 by lia,bb _,show(0:Int)<z.1 by lia,show z.1<=12 by lia⟩
def Kt(H H':Hp):Prop:=(∀a xs,H a=some (.tup xs)->H' a=some (.tup xs))/\∀v T,tyS H v=some T->tyS H' v=some T
theorem Kt.put{H:Hp}{l:Addr}{xs ys:LUz}(h:H l=some (.lst xs)):Kt H (upd H l (.lst ys)):=by
 refine⟨λ a zs e=>by rw[Af (Kv e h (by intro z;cases z))];exact e,λ v T e=>?_⟩;cases v with
 |ref a =>
  by_cases c:a=l
  .subst c;rw[Db upd_same];rw[Db h]at e;exact e
  .show tyO ((upd H l (.lst ys)) a)=_;rw[Af c];exact e
 |_=>exact e
theorem Bad.kt{B:LUz->Bool}{H H':Hp}{v:V}(s:Kt H H')(h:Bad B H v):Bad B H' v:=by
 rcases h with ⟨a,xs,e,h1,hz,h2,h3⟩|⟨T,h1,h2⟩
 .exact .inl ⟨a,xs,e,s.1 _ _ h1,hz,λ x hx=>let ⟨T,e⟩:=h2 x hx;⟨T,s.2 _ _ e⟩,h3⟩
 .exact .inr ⟨T,s.2 _ _ h1,h2⟩
theorem Np{v:V}(h:IK v=true):∃i,v=.int i:=by cases v<;>first|exact⟨_,rfl⟩|cases h
theorem Ch{H:Hp}{v:V}(h:Bp v=true):DAt H (.at v) v:=by rw[DAt];exact⟨rfl,h⟩
theorem Gb{H:Hp}:∀{d:D}{v:V},DAt H d v->Ty H v
 |.at u,v,h=>by rw[DAt]at h;rw[h.1];exact Mz h.2
 |.tup ds,v,h=>by rw[DAt]at h;obtain⟨a,xs,rfl,e,_⟩:=h;exact⟨_,Da e⟩
 |.lst ds,v,h=>by rw[DAt]at h;obtain⟨a,xs,rfl,e,_⟩:=h;exact⟨_,Db e⟩
theorem Sh{H H':Hp}:∀{d:D}{v u:V},DAt H d v->DAt H' d u->tyS H v=tyS H' u
 |.at w,v,u,h,h'=>by
  rw[DAt]at h h';rw[h.1,h'.1];cases w<;>first|rfl|cases h.2
 |.tup ds,v,u,h,h'=>by
  rw[DAt]at h h';obtain⟨a,xs,rfl,e,_⟩:=h;obtain⟨a',xs',rfl,e',_⟩:=h';rw[Da e,Da e']
 |.lst ds,v,u,h,h'=>by
  rw[DAt]at h h';obtain⟨a,xs,rfl,e,_⟩:=h;obtain⟨a',xs',rfl,e',_⟩:=h';rw[Db e,Db e']
theorem STh.kt{H H':Hp}(s:Kt H H'){v:V}:∀{g:Option (Int×Int)},STh H v g->STh H' v g
 |some t,⟨b,e,h,k⟩=>⟨b,e,s.1 _ _ h,k⟩
 |none,h=>Bad.kt s h
def GV:Ds->Option (LUz)
 |.nil=>some []
 |.cons (.at v) r=>(GV r).map (v::·)
 |_=>none
theorem QV{H:Hp}:∀(ds:Ds){xs ys:LUz},GV ds=some ys->Bb H ds xs->xs=ys/\∀x∈xs,Ty H x
 |.nil,xs,ys,h,e=>by
  cases h;rw[Bb]at e;subst e;exact⟨rfl,λ x hx=>nomatch hx⟩
 |.cons (.at v) r,xs,ys,h,e=>by
  rw[GV]at h;obtain⟨zs,hz,rfl⟩:=aN.mp h;rw[Bb]at e;obtain⟨x,us,rfl,p,q⟩:=e;rw[DAt]at p;obtain⟨rfl,fl⟩:=p;obtain⟨rfl,t⟩:=QV r hz q;refine⟨rfl,λ y hy=>?_⟩;rcases aA.mp hy with rfl|hy
  .exact Mz fl
  .exact t y hy
 |.cons (.tup _) _,xs,ys,h,e=>by cases h
 |.cons (.lst _) _,xs,ys,h,e=>by cases h
def SV(B:LUz->Bool):D->Bool
 |.at _=>true
 |.lst _=>true
 |.tup ds=>match GV ds with
  |some xs=>!B xs&&decide (xs.length<=100)
  |none=>false
theorem RW{B:LUz->Bool}{H:Hp}:∀{d:D}{v:V},DAt H d v->SV B d=true->Bad B H v
 |.at u,v,h,_=>by
  rw[DAt]at h;obtain⟨rfl,fl⟩:=h;cases v with
  |non=>exact .inr ⟨"NoneType",rfl,by decide⟩
  |bl b=>exact .inr ⟨"bool",rfl,by decide⟩
  |int b=>exact .inr ⟨"int",rfl,by decide⟩
  |str b=>exact .inr ⟨"str",rfl,by decide⟩
  |_=>cases fl
 |.lst ds,v,h,_=>by
  rw[DAt]at h;obtain⟨a,xs,rfl,e,_⟩:=h;exact .inr ⟨"list",Db e,by decide⟩
 |.tup ds,v,h,b=>by
  rw[DAt]at h;obtain⟨a,xs,rfl,e,da⟩:=h;have b:(match GV ds with
   |some xs=>!B xs&&decide (xs.length<=100)
   |none=>false)=true:=b
  split at b
  .rename_i ys hy;obtain⟨rfl,t⟩:=QV ds hy da;rw[aP,decide_eq_true_eq]at b;exact .inl ⟨a,xs,rfl,e,b.2,t,by simpa using b.1⟩
  .cases b
theorem Ub{B:LUz->Bool}{H:Hp}{ds:Ds}{xs:LUz}(h:Bb H ds xs)(b:∀i,i<ds.len->SV B (ds.get i)=true):∀v∈xs,Bad B H v:=λ v hv=>by
 obtain⟨i,hi,da⟩:=KL ds h v hv;exact RW da (b i hi)
def dsS:Ds:=.cons (.at (.int 0)) (.cons (.at (.int 13)) (.cons (.at (.int (-1))) (.cons (.at (.bl true)) (.cons (.at .non) (.cons (.at (.str "5")) (.cons (.at (.int 100000000000000000000)) (.cons (.lst (.cons (.at (.int 3)) .nil)) .nil)))))))
def dsK:Ds:=.cons (.lst (.cons (.at (.int 2)) (.cons (.at (.int 3)) .nil))) (.cons (.tup (.cons (.at (.int 2)) .nil)) (.cons (.tup (.cons (.at (.int 2)) (.cons (.at (.int 3)) (.cons (.at (.int 4)) .nil)))) (.cons (.tup (.cons (.at (.int 0)) (.cons (.at (.int 3)) .nil))) (.cons (.tup (.cons (.at (.int 3)) (.cons (.at (.int 13)) .nil))) (.cons (.tup (.cons (.at (.int (-1))) (.cons (.at (.int 4)) .nil))) (.cons (.tup (.cons (.at (.bl true)) (.cons (.at (.int 2)) .nil))) (.cons (.tup (.cons (.at (.int 2)) (.cons (.at .non) .nil))) (.cons (.at .non) (.cons (.at (.str "23")) (.cons (.tup (.cons (.at (.int 2)) (.cons (.at (.bl true)) .nil))) (.cons (.tup (.nil)) .nil)))))))))))
theorem Tx:∃(p1 p2 p3 p4 p5 p6 p7 p8 p9 p10 p11 p12 p13 p14:Pos)(k1 k2 k3 k4:Nat)(es_dsS:List Expr),(Ap B9)=.If (.Compare (.BinOp (.Name "_law_cell_here" p1) .Mod (.Constant (.int 6) k1 p2) p3) [.Eq] [(.Constant (.int 0) k2 p4)] p5) [.Return (some (.Subscript (.List es_dsS p6) (.BinOp (.BinOp (.Name "_law_cell_here" p7) .FloorDiv (.Constant (.int 6) k3 p8) p9) .Mod (.Constant (.int 8) k4 p10) p11) p12)) p13] [] p14::(Ap B9).drop 1/\DG (Dt (λ_=>none) 4) es_dsS=some dsS/\es_dsS.length<=64:=⟨_,_,_,_,_,_,_,_,_,_,_,_,_,_,_,_,_,_,_,rfl,by kernel_rfl,by decide +kernel⟩
theorem Tz:∃(p1 p2 p3:Pos)(es_dsK:List Expr),(Ap A7).drop 1=.Assign [(.Name "_law_odd" p1)] (.List es_dsK p2) p3::(Ap A7).drop 2/\DG (Dt (λ_=>none) 4) es_dsK=some dsK/\es_dsK.length<=64:=⟨_,_,_,_,rfl,by kernel_rfl,by decide +kernel⟩
def stN(s:Stmt)(i:Nat):Stmt:=(Ap s).getD i (.Pass ⟨0,0,0,0⟩)
def OF:Option Nat->V
 |none=>.non
 |some k=>.int k
theorem Pa{α:Type}{gs:List (Option α)}(h:BM gs=none):∀j,j<gs.length->∃t,gs[j]?=some (some t):=λ j hj=>by
 unfold BM at h;rw[ag hj];cases e:gs[j] with
 |some t=>exact⟨t,rfl⟩
 |none=>exact absurd (c9.mp h none (by rw[<-e];exact dQ hj)) (λ z=>nomatch z)
theorem Q0{α:Type}{gs:List (Option α)}{k:Nat}(h:BM gs=some k):gs[k]?=some none/\∀j,j<k->∃t,gs[j]?=some (some t):=by
 unfold BM at h;obtain⟨hk,p,q⟩:=dL.mp h;refine⟨?_,λ j hj=>?_⟩
 .rw[ag hk];cases c:gs[k] with
  |none=>rfl
  |some t=>rw[c]at p;cases p
 .have hj':j<gs.length:=by lia
  rw[ag hj'];have:=q j hj;cases c:gs[j] with
  |some t=>exact⟨t,rfl⟩
  |none=>rw[c]at this;exact absurd rfl this
def Pc(i:Nat):Option Nat->Nat
 |none=>i
 |some k=>if i<k then i else k
theorem OZ{α:Type}{gs:List (Option α)}{i:Nat}(hi:i<gs.length):BM (gs.set i none)=some (Pc i (BM gs)):=by
 have at_i:(gs.set i none)[i]?=some none:=by rw[cA hi]
 have off:∀{j:Nat},j≠i->(gs.set i none)[j]?=gs[j]?:=λ{j} n=>cJ (Ne.symm n);cases e:BM gs with
 |none =>
  show _=some i;exact D9 at_i λ j hj=>by rw[off (by lia)];exact Pa e j (by lia)
 |some k =>
  obtain⟨p,q⟩:=Q0 e;show _=some (if i<k then i else k);by_cases c:i<k
  .rw[if_pos c];exact D9 at_i λ j hj=>by rw[off (by lia)];exact q j (by lia)
  .rw[if_neg c];refine D9 ?_ λ j hj=>by rw[off (by lia)];exact q j hj
   by_cases z:k=i
   .rw[z];exact at_i
   .rw[off z];exact p
theorem KA{α:Type}(ws:List α):BM (ws.map some)=none:=Ik λ j hj=>by
 rw[ae]at hj;exact⟨ws[j],by rw[aE,ag hj];rfl⟩
theorem RK{n:Nat}{i:Int}(h0:0<=i)(h1:i<n):ixN n i=some i.toNat:=by
 unfold ixN;rw[if_pos h0,if_pos h1]
def okD:D->Bool
 |.at _=>true
 |.lst (.cons (.at _) .nil)=>true
 |_=>false
inductive IB(vs:LUz)(H:Hp)(Q:VK)(E:XK):Prop
 |mk (c:Int) (h0:vs=[.int c]) (h1:∀d v H',Same H H'->DAt H' d v->okD d=true->Q v H'):IB vs H Q E
def JV:Sp:=λ vs H Q E=>IB vs H Q E
theorem Q6:∀i,i<8->okD (dsS.get i)=true:=by decide +kernel
theorem Kh{f:Addr}{fd:FuncData}(F:Fun K "_law_side" "_law_side" B9 f fd):A3 P w K mg base CX0 1 f fd ["_law_cell_here"] JV:=by
 have S:Aj ["_law_cell_here"] ["_law_cell_here"] (Ad B9):=fsk;refine F.g S ?_;rintro vs H Q E ⟨c,rfl,q⟩;refine⟨rfl,λ cdv A outer s hr=>?_⟩;obtain⟨p1,p2,p3,p4,p5,p6,p7,p8,p9,p10,p11,p12,p13,p14,k1,k2,k3,k4,es_dsS,heq_stS0,he_dsS,hl_dsS⟩:=Tx;rw[heq_stS0];refine⟨_,(Ae (AB (Aq Dp (Aw Cd (pv 0) Ac) Ac (Av _)) (Ag (As (Ak ix_list (Ke (n:=4) (ds:=(dsS)) MJ he_dsS hl_dsS) (Aw Cd (Aw EB (pv 0) Ac) Ac) (λ_ _=>rfl)))) Ay)
  (Ag (As (Aw AI Ac (Aw Cd (Aw EB (pv 0) Ac) Ac))))),?_⟩
 refine⟨_,rfl,_,_,rfl,rfl,(show(0:Int)<6 from by decide),rfl,_,rfl,Bi (λ_=>?_) (λ_=>?_)⟩
 .refine⟨HY,λ l xs H1 s1 nl hl da=>?_⟩;have m0:=bP (c / 6) (b:=8) (by decide);have m1:=bN (c / 6) (b:=8) (by decide);have e1:xs.length=8:=Cg _ da;obtain⟨v,hv,mv⟩:=Mn (L:=xs) m0 (by rw[e1];exact m1);obtain⟨i,hi,dv⟩:=KL _ da v mv;exact⟨_,rfl,_,_,rfl,rfl,Q8 _ (by decide) (by decide),_,_,rfl,rfl,(show(0:Int)<8 from by decide),l,_,_,v,rfl,rfl,SqL.of hl,hv,q _ v H1 s1 dv (Q6 i hi)⟩
 .have m0:=bP (c / 6) (b:=12) (by decide);have m1:=bN (c / 6) (b:=12) (by decide);exact⟨_,rfl,_,_,rfl,rfl,Q8 _ (by decide) (by decide),_,_,rfl,rfl,(show(0:Int)<12 from by decide),_,_,rfl,rfl,q (.at (.int (1+c / 6 % 12))) _ H (Same.refl H) (by rw[DAt];exact⟨rfl,rfl⟩) rfl⟩
theorem G7{f:Addr}{fd:FuncData}(F:Fun K "_law_is_side" "_law_is_side" BW f fd)(T:Txt mg tk):A3 P w K mg base CX0 1 f fd ["_law_thing"] Er:=by
 have S:Aj ["_law_thing"] ["_law_thing"] (Ad BW):=fsk;refine F.g S ?_;rintro vs H Q E ⟨v,rfl,⟨T',hT⟩,q⟩;refine⟨rfl,λ cdv A outer s hr=>?_⟩;refine⟨_,(Ag (As (Gy (Ar B6 rfl T.z_isinstance rfl (Aa (pv 0) (Aa (CM (v:=.ty "int") rfl T.z_int rfl rfl) Ab))) (Gy (O7 (Ar B6 rfl T.z_isinstance rfl (Aa (pv 0) (Aa (CM (v:=.ty "bool") rfl T.z_bool rfl rfl) Ab)))) (Jf (Kf Fq Fq Ac (pv 0) Ac)))))),?_⟩;obtain⟨w1,w2⟩:=FY hT;refine⟨v,rfl,v,T',"int",rfl,hT,.inl rfl,_,rfl,Bi (λ h=>?_) (λ h=>?_)⟩
 .refine⟨v,rfl,v,T',"bool",rfl,hT,.inr (.inl rfl),_,rfl,?_⟩;rw[w1 h];refine⟨_,rfl,Bi (λ h2=>?_) (λ h2=>?_)⟩
  .obtain⟨i,rfl⟩:=Np h2;have q:Q (.bl (decide (1<=i)&&decide (i<=12))) H:=q;refine⟨_,rfl,_,_,rfl,rfl,_,rfl,Bi (λ h3=>?_) (λ h3=>?_)⟩
   .replace h3:decide (1<=i)=true:=h3
    rw[h3]at q;exact⟨_,_,rfl,rfl,q⟩
   .replace h3:decide (1<=i)=false:=h3
    rw[h3]at q;exact q
  .have e:AE v=false:=by cases v<;>first|rfl|cases h2
   rw[e]at q;exact q
 .have e:AE v=false:=by
   have:=w2 h;cases v<;>first|rfl|cases this
  rw[e]at q;exact q
inductive Fz(vs:LUz)(H:Hp)(Q:VK)(E:XK):Prop
 |mk (c many:Int) (h0:vs=[.int c,.int many]) (h1:0<=many) (h2:many<=10) (h3:∀t l xs gs H',Same H H'->H l=none->H' t=some (.tup [.ref l,OF (BM gs)])->H' l=some (.lst xs)->Ths STh H' xs gs->(gs.length:Int)=many->Q (.ref t) H'):Fz vs H Q E
def Gh:Sp:=λ vs H Q E=>Fz vs H Q E
theorem SU{H:Hp}{xs:LUz}(h:Bb H dsK xs):∀v∈xs,Bad DP H v:=Ub h (by decide +kernel)
abbrev Iy:LSz:=["_law_cell_here","_law_many","_law_sheets_here","_law_odd","_law_due_here","_law_k","_law_at"]
theorem Qn:Ap A7=stN A7 0::(Ap A7).drop 1:=by kernel_rfl
theorem Hm{f:Addr}{fd:FuncData}(F:Fun K "_law_sheets" "_law_sheets" A7 f fd)(T:Txt mg tk)(D__law_draw:AC P w K mg base 1 "_law_draw" ["_law_cell_here","_law_nth","_law_many"] IQ):A3 P w K mg base CX0 2 f fd ["_law_cell_here","_law_many"] Gh:=by
 have S:Aj Iy ["_law_cell_here","_law_many"] (Ad A7):=fsk;refine F.g S ?_;rintro vs H Q E ⟨c,many,rfl,m0,m1,q⟩;refine⟨rfl,λ cdv A outer s hr=>?_⟩;obtain⟨mm,rfl⟩:∃mm:Nat,many=mm:=⟨many.toNat,by lia⟩;obtain⟨tC,hC,kC⟩:∃rd,PSs (Bd CX0 P w K mg base Iy "_law_sheets" (Ad A7) f cdv A outer s H E).nox ((Ap A7).drop 1) rd/\∀(l:Addr)(xs:LUz)(gs:List (Option (Int×Int)))(H1:Hp),Same H H1->H l=none->H1 l=some (.lst xs)->Ths STh H1 xs gs->gs.length=mm->BM gs=none->rd { nx:=λ_ H'=>Q .non H',rt:=Q } [some (.int c),some (.int mm),some (.ref l),none,none,none,none] H1:=by
  obtain⟨p1,p2,p3,es_dsK,heq_stK2,he_dsK,hl_dsK⟩:=Tz;rw[heq_stK2];refine⟨_,(Ae (Au (i:=3) S.nd rfl (aF rfl) (Ke (n:=4) (ds:=(dsK)) MJ he_dsK hl_dsK))
  (Ae (Au (i:=4) S.nd rfl (aF rfl) AL)
  (Ae (AB (PW.pt (EW (Aq HW (pv 1) Ac (Av _)) (Ew (Aq Dp (A2 D__law_draw hr (Aa (pv 0) (Aa Ac (Aa Ac Ab)))) Ac (Av _))))) (Ag (Cc PassesOwn.never rfl (C4 rfl T.z_range (Aa Ac Ab)) (Al (i:=5) S.nd rfl (aF rfl)) (Ae (Au (i:=6) S.nd rfl (aF rfl) (A2 D__law_draw hr (Aa (pv 0) (Aa (Aw AI Ac (pv 5)) (Aa (pv 1) Ab)))))
  (Ae (EX (Ak LU (pv 3) (A2 D__law_draw hr (Aa (pv 0) (Aa (Aw AI Ac (pv 5)) (Aa Ac Ab)))) (λ_ _=>rfl)) (Rz (pv 2) (pv 6) Ov))
  (Ag (AB (PW.pt (Gu (Aq Ea (pv 4) AL (Av _)) (DW (Aq Kg (pv 6) (pv 4) (Av _))))) (Ag (Au (i:=4) S.nd rfl (aF rfl) (pv 6))) Ay)))))) Ay)
  (Ag (As (An (Aa (pv 2) (Aa (pv 4) Ab)))))))),λ l xs gs H1 s1 nl hl th gl f0=>?_⟩
  refine⟨HY,λ p x1 H4 s14 np h4 d1=>?_⟩;have e1:x1.length=12:=Cg _ d1;have bad:∀v∈x1,Bad DP H4 v:=SU d1;have s04:=s1.trans s14;have hl4:=s14 _ _ hl;have th4:=th.mono λ v g k=>k.same s14;have pl:p≠l:=λ z=>by
   rw[z]at np;rw[hl]at np;cases np
  have fin:∀(y y2:Option V)(xs:LUz)(gs:List (Option (Int×Int)))(H':Hp),SameX l H4 H'->H' l=some (.lst xs)->Ths STh H' xs gs->gs.length=mm->Sl (Si (On (Nt 2) (On (Nt 4) Lo))) { nx:=λ_ H'=>Q .non H',rt:=Q } [some (.int c),some (.int mm),some (.ref l),some (.ref p),some (OF (BM gs)),y,y2] H':=λ y y2 xs gs H' s' h' t' g'=>by
   refine⟨_,rfl,_,rfl,Ao 2,λ t nt=>?_⟩;have sn:=s'.same s04 nl;exact q t l xs gs _ (sn.trans (Same.new nt)) nl upd_same ((Same.new nt) _ _ h') (t'.mono λ v g k=>k.same (Same.new nt)) (by rw[g'])
  refine⟨_,rfl,_,_,rfl,rfl,_,rfl,Bi (λ c0=>?_) (λ c0=>?_)⟩
  .have c0:(0:Int)<(mm:Int):=of_decide_eq_true c0;refine⟨_,rfl,c,21,2,rfl,by decide,by decide,by decide,λ r0 _ _=>⟨rfl,_,rfl,Bi (λ_=>?_) (λ_=>?_)⟩⟩
   .refine⟨2,rfl,by decide,by decide,DA (lo:=0) (n:=(2:Int).toNat) (λ i σ H'=>∃(y y2:Option V)(xs:LUz)(gs:List (Option (Int×Int))),σ=[some (.int c),some (.int mm),some (.ref l),some (.ref p),some (OF (BM gs)),y,y2]/\SameX l H4 H'/\H' l=some (.lst xs)/\Ths STh H' xs gs/\gs.length=mm) ⟨_,_,xs,gs,by rw[f0];rfl,SameX.refl,hl4,th4,gl⟩ ?_ ?_⟩
    .rintro i σ H5 hi ⟨y,y2,xs,gs,rfl,s5,hl5,th5,gl5⟩;have hi:i<2:=hi;rw[cH];refine⟨_,rfl,_,rfl,_,_,rfl,rfl,_,rfl,c,22+(i:Int),mm,rfl,by lia,by lia,c0,λ r1 a0 a1=>?_⟩;refine⟨_,rfl,_,rfl,_,rfl,_,_,rfl,rfl,c,24+(i:Int),12,rfl,by lia,by lia,by decide,λ r2 b0 b1=>?_⟩;obtain⟨v,hv,mv⟩:=Mn (L:=x1) b0 (by rw[e1];exact b1);have h5:=s5 _ _ pl h4;refine .inl ⟨p,_,_,v,rfl,rfl,SqL.of h5,hv,_,rfl,_,rfl,l,xs,r1,r1.toNat,rfl,rfl,hl5,RK a0 (by rw[th5.len];lia),?_⟩;have kt:Kt H5 (upd H5 l (.lst (xs.set r1.toNat v))):=Kt.put hl5;have bv:Bad DP H5 v:=by
      refine(bad v mv).kt ⟨λ a ys e=>s5 _ _ (λ z=>by rw[z,hl4]at e;cases e) e,λ u T e=>?_⟩;cases u with
      |ref a =>
       by_cases z:a=l
       .rw[z]at e |-;rw[Db hl4]at e;rw[Db hl5];exact e
       .have e:tyO (H4 a)=some T:=e;show tyO (H5 a)=some T;cases w:H4 a with
        |none=>rw[w]at e;cases e
        |some o=>rw[w]at e;rw[s5 a o z w];exact e
      |_=>exact e
     have th6:=(th5.mono (λ v g k=>k.kt kt)).put (g:=none) (bv.kt kt) r1.toNat;have fs:=OZ (gs:=gs) (i:=r1.toNat) (by lia);have ex:∀y3:Option V,∃(y y2:Option V)(xs_1:LUz)(gs_1:List (Option (Int×Int))),[some (.int c),some (.int mm),some (.ref l),some (.ref p),some (.int (Pc r1.toNat (BM gs))),some (.int i),y3]=[some (.int c),some (.int mm),some (.ref l),some (.ref p),some (OF (BM gs_1)),y,y2]/\SameX l H4 (upd H5 l (.lst (xs.set r1.toNat v)))/\(upd H5 l (.lst (xs.set r1.toNat v))) l=some (.lst xs_1)/\Ths STh (upd H5 l (.lst (xs.set r1.toNat v))) xs_1 gs_1/\gs_1.length=mm:=λ y3=>⟨_,_,_,_,by rw[fs];rfl,s5.trans SameX.upd,upd_same,th6,by rw[dw];exact gl5⟩;have er:((r1.toNat:Nat):Int)=r1:=ci a0;cases e:BM gs with
     |none =>
      rw[e]at ex;have ex:=ex (some (.int r1));refine⟨_,rfl,rfl,_,rfl,C9 rfl (NI ⟨_,rfl,?_⟩)⟩;rw[show Pc r1.toNat (none:Option Nat)=r1.toNat from rfl,er]at ex;exact ex
     |some k =>
      rw[e]at ex;have ex:=ex (some (.int r1));refine⟨_,rfl,rfl,_,rfl,B4 rfl ⟨_,rfl,_,rfl,_,_,rfl,rfl,_,rfl,Bi (λ c2=>?_) (λ c2=>?_)⟩⟩
      .have c2:r1<(k:Int):=of_decide_eq_true c2;refine⟨_,rfl,?_⟩;rw[show Pc r1.toNat (some k)=r1.toNat from if_pos (by lia),er]at ex;exact ex
      .have c2:¬r1<(k:Int):=of_decide_eq_false c2;rw[show Pc r1.toNat (some k)=k from if_neg (by lia)]at ex;exact ex
    .rintro σ H5 ⟨y,y2,xs,gs,rfl,s5,hl5,th5,gl5⟩;exact fin y y2 xs gs H5 s5 hl5 th5 gl5
   .have:=fin none none xs gs H4 SameX.refl hl4 th4 gl;rw[f0]at this;exact this
  .have:=fin none none xs gs H4 SameX.refl hl4 th4 gl;rw[f0]at this;exact Qs this
 rw[Qn];generalize (Ap A7).drop 1=tl at hC |-;refine⟨_,(Ae (Gv rfl (Al (i:=2) S.nd rfl (aF rfl)) (C4 rfl T.z_range (Aa (pv 1) Ab)) (λ_ _ _ _ _=>pgk (nk ["_law_k","_law_cell_here"])) (λ_ _ _ _ _=>(An (Aa (Aw AI Ac (A2 D__law_draw hr (Aa (pv 1) (Aa (pv 0) (Aa Ac Ab))))) (Aa (Aw AI Ac (A2 D__law_draw hr (Aa (pv 1) (Aa (Aw AI (pv 0) Ac) (Aa Ac Ab))))) Ab)))) (N:=["_law_k","_law_cell_here"]) (fr:=[none,some 0]))
  hC),?_⟩
 refine⟨_,rfl,mm,rfl,by lia,by lia,λ acc hacc=>Mi (lo:=0) (n:=(mm:Int).toNat) (λ i zs σ H'=>(∃y,σ=[y,some (.int c)])/\Same H H'/\∃ks:LI,Ths STh H' zs (ks.map some)) ⟨⟨none,rfl⟩,Same.new hacc,[],.nil⟩ ?_ ?_⟩
 .rintro i zs σ H2 hi hl ha ⟨⟨y,rfl⟩,s2,ks,th⟩;rw[cH];refine⟨_,rfl,_,rfl,c,(i:Int),12,rfl,by lia,by lia,by decide,λ r0 a0 a1=>⟨_,_,rfl,rfl,_,rfl,_,rfl,_,_,rfl,rfl,c,(i:Int)+7,12,rfl,by lia,by lia,by decide,λ r1 b0 b1=>⟨_,_,rfl,rfl,Ao 2,λ t nt=>?_⟩⟩⟩;obtain⟨H3,g,s3,h3⟩:=nw (.tup [.int (1+r0),.int (1+r1)]) nt;rw[g];have ha3:=s3 _ _ ha;have kt:Kt H3 (upd H3 acc (.lst (zs++[.ref t]))):=Kt.put ha3;refine cNx.mk (ba (At (by lia))) hi hl ha3 ⟨⟨_,rfl⟩,λ b o e=>?_,ks++[(1+r0,1+r1)],?_⟩
  .rw[Af (Ah e hacc)];exact s3 b o (s2 b o e)
  .rw[ah];exact Ths.snoc ((th.mono λ v g k=>k.same s3).mono λ v g k=>k.kt kt) ⟨t,rfl,kt.1 _ _ h3,by lia,by lia,by lia,by lia⟩
 .rintro zs σ H2 hl ha ⟨_,s2,ks,th⟩;have xl:=th.len;rw[ae]at xl;exact kC acc zs _ H2 s2 hacc ha th (by rw[ae];lia) (KA ks)
inductive Cl where
 |S|M|D|G
 deriving DecidableEq
def clA(cS cM cD cG:Addr):Cl->Addr
 |.S=>cS
 |.M=>cM
 |.D=>cD
 |.G=>cG
structure RG(mg:MGz)(K:Frag)(cS cM cD cG cE:Addr):Prop where
 g_NoSide:mg "NoSide"=some (.ref cS)
 g_TooMany:mg "TooMany"=some (.ref cM)
 g_NoSheet:mg "NoSheet"=some (.ref cD)
 g_NoGlass:mg "NoGlass"=some (.ref cG)
 g_GlassError:mg "GlassError"=some (.ref cE)
 x_NoSide:Lh K cS
 x_TooMany:Lh K cM
 x_NoSheet:Lh K cD
 x_NoGlass:Lh K cG
 m:∀c c',mroIn K (clA cS cM cD cG c) (.ref (clA cS cM cD cG c'))=some (decide (c=c'))
 cl:∀c,XCls K (clA cS cM cD cG c)
 kx:∀c c',kitOne K (.ref (clA cS cM cD cG c)) (.ref (clA cS cM cD cG c'))=some (decide (c=c'))
 kE:∀c,kitOne K (.ref (clA cS cM cD cG c)) (.ref cE)=some true
 nS:NoAttr K cS "side"
 nM:NoAttr K cM "many"
 nD:NoAttr K cD "place"
 nW:NoAttr K cG "width"
 nH:NoAttr K cG "height"
theorem JE{X:Cx}:CV X (.builtin "isinstance") (λ xs H Q=>∃a C t c1 c2 c3,xs=[.ref a,.ref t]/\IsExc H a C/\XCls X.K C/\H t=some (.tup [.ref c1,.ref c2,.ref c3])/\kitOne X.K (.ref C) (.ref c1)=some false/\kitOne X.K (.ref C) (.ref c2)=some false/\kitOne X.K (.ref C) (.ref c3)=some false/\Q (.bl false) H):=by
 intro pins s σ H xs us Q I r h;obtain⟨a,C,t,c1,c2,c3,rfl,he,hc,ht,k1,k2,k3,q⟩:=h;obtain⟨v1,v2,rfl,r1,r2⟩:=Of r;cases r1;cases r2;obtain⟨its,rt,hp,_⟩:=I.tuple (SqT.of (K:=X.K) ht);cases rt with
 |cons q1 rt=>cases rt with
  |cons q2 rt=>cases rt with
   |cons q3 rt =>
    cases rt;cases q1;cases q2;cases q3;obtain⟨⟨cls,dd,data,sl⟩,ho,ec,n,ed⟩:=hp;simp only at ec ed;subst ec ed;exact kia_tup (K3 hc) I.kIn (GM I he) ho (by simp[kitAny,k1,k2,k3]) (λ z=>nomatch z) λ tk=>⟨.bl false,H,I.tok tk,rfl,q⟩
theorem Bq{X:Cx}{K:Frag}(hK:X.K=K:=by rfl):CV X (.builtin "isinstance") (λ xs H Q=>∃a C t c1 c2 c3,xs=[.ref a,.ref t]/\IsExc H a C/\XCls K C/\H t=some (.tup [.ref c1,.ref c2,.ref c3])/\kitOne K (.ref C) (.ref c1)=some false/\kitOne K (.ref C) (.ref c2)=some false/\kitOne K (.ref C) (.ref c3)=some false/\Q (.bl false) H):=by subst hK;exact JE
theorem C6{X:Cx}{K:Frag}{e:Expr}{f:Str}{pos:Pos}{ta:TE}(he:PE X e ta)(hb:attributeBase e f X.env (eval e X.env)=eval e X.env)(hK:X.K=K:=by rfl):PE X (.Attribute e f pos) (QJ K ta f):=by subst hK;exact PY he hb
theorem BF{X:Cx}{K:Frag}(hK:X.K=K:=by rfl):CV X (.builtin "isinstance") (λ xs H Q=>∃a C c u b,xs=[.ref a,c]/\IsExc H a C/\XCls K C/\RelV c u/\(∀u',RelV c u'->u'=u)/\kitOne K (.ref C) u=some b/\Q (.bl b) H):=by subst hK;exact Mm
theorem GA{f cS:Addr}{fd:FuncData}(F:Fun K "__init__" "NoSide.__init__" Cv f fd)(xc:XCls K cS)(xn:NoAttr K cS "side"):A3 P w K mg base CX0 1 f fd ["self","side"] (Nv cS ["side"]):=by
 have S:Aj ["self","side"] ["self","side"] (Ad Cv):=fsk;refine F.ok S (λ vs H Q E h=>?_) (λ cdv A outer s H vs Q E hr h=>?_)
 .obtain⟨x,ws,rfl,hl,_⟩:=h;rw[aD,hl];rfl
 .obtain⟨x,ws,rfl,hl,hx,q⟩:=h;obtain⟨v0,rfl⟩:=NB hl;refine⟨_,(Ag (Ez (pv 0) (pv 1) rfl)),?_⟩;refine⟨_,rfl,_,rfl,x,cS,rfl,xc,xn,.inl ⟨hx,λ d hd=>?_⟩⟩;obtain⟨e1,e2,e3⟩:=P6 (o1:=BG d [("side",v0)]) (o2:=Cn cS d x) hx hd;exact q d _ hd e1 e2 e3
theorem F8{f cD:Addr}{fd:FuncData}(F:Fun K "__init__" "NoSheet.__init__" BZ f fd)(xc:XCls K cD)(xn:NoAttr K cD "place"):A3 P w K mg base CX0 1 f fd ["self","place"] (Nv cD ["place"]):=by
 have S:Aj ["self","place"] ["self","place"] (Ad BZ):=fsk;refine F.ok S (λ vs H Q E h=>?_) (λ cdv A outer s H vs Q E hr h=>?_)
 .obtain⟨x,ws,rfl,hl,_⟩:=h;rw[aD,hl];rfl
 .obtain⟨x,ws,rfl,hl,hx,q⟩:=h;obtain⟨v0,rfl⟩:=NB hl;refine⟨_,(Ag (Ez (pv 0) (pv 1) rfl)),?_⟩;refine⟨_,rfl,_,rfl,x,cD,rfl,xc,xn,.inl ⟨hx,λ d hd=>?_⟩⟩;obtain⟨e1,e2,e3⟩:=P6 (o1:=BG d [("place",v0)]) (o2:=Cn cD d x) hx hd;exact q d _ hd e1 e2 e3
theorem QI{H H1:Hp}(s:Same H H1){R:Addr->LFz->Hp->Prop}{C:Addr}{P:LFz->Hp->Prop}(h:∀fs H',P fs H'->R C fs H'):Rf H1 (XE H R) C P:=λ x d fs H' hx s2 r p=>by
 have n0:H x=none:=by
  cases e:H x with
  |none=>rfl
  |some o=>rw[s _ _ e]at hx;exact hx
 exact⟨x,C,d,fs,rfl,rfl,n0,s.trans s2,r,h fs H' p⟩
theorem FL{f:Str}{v:V}:([(f,v)]:LFz).lookup f=some v:=by simp[List.lookup]
inductive IC(vs:LUz)(H:Hp)(Q:VK)(E:XK):Prop
 |mk (l:Addr) (xs:LUz) (hs:List (Option (Int×Int))) (h0:vs=[.ref l]) (h1:H l=some (.lst xs)) (h2:Ths STh H xs hs) (h3:hs.length<=100) (h4:(Ck hs=none->∀H',Same H H'->Q .non H')) (h5:∀b n,Ck hs=some (b,n)->∀t H',Same H H'->H' t=some (.tup [.str (if b then "many" else "sheet"),.int n,.bl false,.bl true])->Q (.ref t) H'):IC vs H Q E
def JW:Sp:=λ vs H Q E=>IC vs H Q E
abbrev Sd:LSz:=["_law_sheets_here","_law_told","e"]
theorem Ki{f:Addr}{fd:FuncData}{C cS cM cD cG cE:Addr}(F:Fun K "_law_made" "_law_made" Dg f fd)(T:Txt mg tk)(R:RG mg K cS cM cD cG cE)(K_Bench:KU P w K mg base 5 "Bench" C ["self","sheets"] (Gn C cM cD)):A3 P w K mg base CX0 7 f fd ["_law_sheets_here"] JW:=by
 have S:Aj Sd ["_law_sheets_here"] (Ad Dg):=fsk;refine F.g S ?_;rintro vs H Q E ⟨l,xs,hs,rfl,hl,th,few,q0,q1⟩;refine⟨rfl,λ cdv A outer s hr=>?_⟩;refine⟨_,(Ae (Au (i:=1) S.nd rfl (aF rfl) AL)
  (Ae (M8 (O1 (λ_=>SA K_Bench hr (Aa (pv 0) Ab)))
  (C5 (im:=2) S.nd rfl rfl rfl R.g_TooMany R.x_TooMany (λ_=>(Ag (Au (i:=1) S.nd rfl (aF rfl) (An (Aa A8 (Aa (C6 (K:=K) (pv 2) rfl) (Aa (Ar (Bq (K:=K)) rfl T.z_isinstance rfl (Aa (pv 2) (Aa (An (Aa (Az (v:=.ref (cD)) rfl R.g_NoSheet rfl) (Aa (Az (v:=.ref (cS)) rfl R.g_NoSide rfl) (Aa (Az (v:=.ref (cG)) rfl R.g_NoGlass rfl) Ab)))) Ab))) (Aa (Ar (BF (K:=K)) rfl T.z_isinstance rfl (Aa (pv 2) (Aa (Az (v:=.ref (cE)) rfl R.g_GlassError rfl) Ab))) Ab))))))))
  (C5 (im:=2) S.nd rfl rfl rfl R.g_NoSheet R.x_NoSheet (λ_=>(Ag (Au (i:=1) S.nd rfl (aF rfl) (An (Aa A8 (Aa (C6 (K:=K) (pv 2) rfl) (Aa (Ar (Bq (K:=K)) rfl T.z_isinstance rfl (Aa (pv 2) (Aa (An (Aa (Az (v:=.ref (cM)) rfl R.g_TooMany rfl) (Aa (Az (v:=.ref (cS)) rfl R.g_NoSide rfl) (Aa (Az (v:=.ref (cG)) rfl R.g_NoGlass rfl) Ab)))) Ab))) (Aa (Ar (BF (K:=K)) rfl T.z_isinstance rfl (Aa (pv 2) (Aa (Az (v:=.ref (cE)) rfl R.g_GlassError rfl) Ab))) Ab))))))))
  MA)) rfl rfl (by intro z;cases z))
  (Ag (As (pv 1))))),?_⟩
 refine⟨XE H (λ C' fs _=>∃b n,Ck hs=some (b,n)/\C'=(if b then cM else cD)/\fs=[((if b then "many" else "place":Str),V.int n)]),⟨_,rfl,λ a dx na nd ne=>?_⟩,?_⟩
 .have s1:Same H (upd (upd H dx (.own a)) a (.ins C dx [])):=(Same.new nd).trans (Same.new (by rw[Af (Ne.symm ne)];exact na));refine⟨a,dx,l,xs,hs,rfl,upd_same,s1 _ _ hl,th.mono (λ v g k=>k.same s1),few,(λ n e=>QI s1 λ fs _ p=>⟨true,n,e,rfl,p⟩),(λ n e=>QI s1 λ fs _ p=>⟨false,n,e,rfl,p⟩),λ no ss es ls lt us H' n1 n2 n3 sx bn eu=>⟨rfl,_,rfl,q0 no H' (sx.same s1 na)⟩⟩
 .rintro x' C' d T0 T2 H' ⟨x2,C2,dx',fs,ev,rfl,hx,s34,xr,b,n,ed,eC,rfl⟩ fl hT2 nT2;obtain rfl:x'=x2:=Value.ref.inj ev;obtain⟨rfl,xr',s5⟩:=Oe hx s34 xr fl hT2;obtain⟨⟨dx2,ee,ndx,hd⟩,T3,hxT⟩:=xr';cases ee;have he:IsExc (A4 H' x' C2 (some dx') T2) x' C2:=.inl ⟨dx',_,.inr ⟨T3,hxT⟩,hd⟩;have tell:∀(H6:Hp),Same (A4 H' x' C2 (some dx') T2) H6->∀l,H6 l=none->Q (.ref l) (upd H6 l (.tup [.str (if b then "many" else "sheet"),.int n,.bl false,.bl true])):=λ H6 s6 l nl=>q1 b n ed l _ (s5.trans (s6.trans (Same.new nl))) upd_same;cases b with
  |true =>
   rw[show C2=cM from eC]at hd hxT he tell |-;refine⟨_,R.m .M .M,λ_=>?_,λ z=>absurd z (by decide)⟩;refine⟨_,rfl,x',_,dx',_,_,rfl,.inr ⟨T3,hxT⟩,hd,R.cl .M,R.nM,FL,_,rfl,Ao 3,λ tt ntt=>?_⟩;have s6:=Same.new (o:=.tup [.ref cD,.ref cS,.ref cG]) ntt;exact⟨x',_,tt,cD,cS,cG,rfl,he.same s6,R.cl .M,upd_same,R.kx .M .D,R.kx .M .S,R.kx .M .G,_,rfl,x',_,_,_,true,rfl,he.same s6,R.cl .M,rfl,(λ_ z=>z),R.kE .M,Ao 4,λ l nl=>⟨_,rfl,tell _ s6 l nl⟩⟩
  |false =>
   rw[show C2=cD from eC]at hd hxT he tell |-;refine⟨_,R.m .D .M,λ z=>absurd z (by decide),λ_=>⟨_,R.m .D .D,λ_=>?_,λ z=>absurd z (by decide)⟩⟩;refine⟨_,rfl,x',_,dx',_,_,rfl,.inr ⟨T3,hxT⟩,hd,R.cl .D,R.nD,FL,_,rfl,Ao 3,λ tt ntt=>?_⟩;have s6:=Same.new (o:=.tup [.ref cM,.ref cS,.ref cG]) ntt;exact⟨x',_,tt,cM,cS,cG,rfl,he.same s6,R.cl .D,upd_same,R.kx .D .M,R.kx .D .S,R.kx .D .G,_,rfl,x',_,_,_,true,rfl,he.same s6,R.cl .D,rfl,(λ_ z=>z),R.kE .D,Ao 4,λ l nl=>⟨_,rfl,tell _ s6 l nl⟩⟩
theorem SM(t:Bl):(glF t).lookup ("width":Str)=some (V.int t.1):=by simp[glF,List.lookup]
theorem SN(t:Bl):(glF t).lookup ("height":Str)=some (V.int t.2.1):=by
 have e:(("height":Str)==("width":Str))=false:=by decide +kernel
 simp[glF,List.lookup,e]
def QY(cS cM cG:Addr)(H:Hp)(Q:VK):Addr->LFz->Hp->Prop:=λ C fs _=>(∃v,C=cS/\fs=[(("side":Str),v)]/\∀t H',Same H H'->H' t=some (.tup [.str "side",v,.bl false,.bl true])->Q (.ref t) H')\/(∃v,C=cM/\fs=[(("many":Str),v)]/\∀t H',Same H H'->H' t=some (.tup [.str "many",v,.bl false,.bl true])->Q (.ref t) H')\/∃u:Bl,C=cG/\fs=glF u/\∀b t H',Same H H'->H' b=some (.tup [.int u.1,.int u.2.1])->H' t=some (.tup [.str "glass",.ref b,.bl false,.bl true])->Q (.ref t) H'
def EQ(C cG cM cS:Addr):Sp:=λ vs H Q _=>IR C cG cM cS vs H Q (XE H (QY cS cM cG H Q))
abbrev QH:LSz:=["_law_bench","_law_width","_law_height","_law_turns","_law_told","e","_law_size"]
theorem Jl{f:Addr}{fd:FuncData}{C cS cM cD cG cE:Addr}(F:Fun K "_law_asked" "_law_asked" CG f fd)(T:Txt mg tk)(R:RG mg K cS cM cD cG cE)(BC:JI K C)(M_Bench_cut:Iz P w K mg base 5 C "cut" ["self","width","height","turns"] (IR C cG cM cS)):A3 P w K mg base CX0 6 f fd ["_law_bench","_law_width","_law_height","_law_turns"] (EQ C cG cM cS):=by
 have S:Aj QH ["_law_bench","_law_width","_law_height","_law_turns"] (Ad CG):=fsk;refine F.g S ?_;rintro vs H Q E ⟨a,dx,ls,lt,ss,tn,v1,v2,tu,rfl,bn,bok,s4,so,ty1,ty2,np,ok1,qS,qT⟩;refine⟨rfl,λ cdv A outer s hr=>?_⟩;refine⟨_,(Ae (Au (i:=4) S.nd rfl (aF rfl) AL)
  (Ae (M8 (PU (i:=4) S.nd rfl (aF rfl) (λ_=>SB M_Bench_cut hr (pv 0) (Aa (pv 1) (Aa (pv 2) (Aa (pv 3) Ab)))))
  (C5 (im:=5) S.nd rfl rfl rfl R.g_NoSide R.x_NoSide (λ_=>(Ag (Au (i:=4) S.nd rfl (aF rfl) (An (Aa A8 (Aa (C6 (K:=K) (pv 5) rfl) (Aa (Ar (Bq (K:=K)) rfl T.z_isinstance rfl (Aa (pv 5) (Aa (An (Aa (Az (v:=.ref (cM)) rfl R.g_TooMany rfl) (Aa (Az (v:=.ref (cD)) rfl R.g_NoSheet rfl) (Aa (Az (v:=.ref (cG)) rfl R.g_NoGlass rfl) Ab)))) Ab))) (Aa (Ar (BF (K:=K)) rfl T.z_isinstance rfl (Aa (pv 5) (Aa (Az (v:=.ref (cE)) rfl R.g_GlassError rfl) Ab))) Ab))))))))
  (C5 (im:=5) S.nd rfl rfl rfl R.g_TooMany R.x_TooMany (λ_=>(Ag (Au (i:=4) S.nd rfl (aF rfl) (An (Aa A8 (Aa (C6 (K:=K) (pv 5) rfl) (Aa (Ar (Bq (K:=K)) rfl T.z_isinstance rfl (Aa (pv 5) (Aa (An (Aa (Az (v:=.ref (cS)) rfl R.g_NoSide rfl) (Aa (Az (v:=.ref (cD)) rfl R.g_NoSheet rfl) (Aa (Az (v:=.ref (cG)) rfl R.g_NoGlass rfl) Ab)))) Ab))) (Aa (Ar (BF (K:=K)) rfl T.z_isinstance rfl (Aa (pv 5) (Aa (Az (v:=.ref (cE)) rfl R.g_GlassError rfl) Ab))) Ab))))))))
  (C5 (im:=5) S.nd rfl rfl rfl R.g_NoGlass R.x_NoGlass (λ_=>(Ae (Au (i:=6) S.nd rfl (aF rfl) (An (Aa (C6 (K:=K) (pv 5) rfl) (Aa (C6 (K:=K) (pv 5) rfl) Ab))))
  (Ag (Au (i:=4) S.nd rfl (aF rfl) (An (Aa A8 (Aa (pv 6) (Aa (Ar (Bq (K:=K)) rfl T.z_isinstance rfl (Aa (pv 5) (Aa (An (Aa (Az (v:=.ref (cS)) rfl R.g_NoSide rfl) (Aa (Az (v:=.ref (cM)) rfl R.g_TooMany rfl) (Aa (Az (v:=.ref (cD)) rfl R.g_NoSheet rfl) Ab)))) Ab))) (Aa (Ar (BF (K:=K)) rfl T.z_isinstance rfl (Aa (pv 5) (Aa (Az (v:=.ref (cE)) rfl R.g_GlassError rfl) Ab))) Ab)))))))))
  MA))) rfl rfl (by intro z;cases z))
  (Ag (As (pv 4))))),?_⟩
 refine⟨XE H (QY cS cM cG H Q),?_,?_⟩
 .refine⟨_,rfl,a,dx,_,rfl,bn.ob,CS _ _ (by decide +kernel) (by decide +kernel),_,rfl,_,rfl,_,rfl,?_⟩;refine⟨a,dx,ls,lt,ss,tn,v1,v2,tu,rfl,bn,bok,s4,so,ty1,ty2,np,ok1,qS,λ t e1 e2 e3 wok=>?_⟩;obtain⟨qM,q⟩:=qT t e1 e2 e3 wok;refine⟨qM,λ n60=>?_⟩;obtain⟨qA,qB,qC⟩:=q n60;exact⟨λ y hy h1 h2 u z rest kvs r b H' i1 i2 i3 i4 i5 i6=>⟨_,rfl,qA y hy h1 h2 u z rest kvs r b H' i1 i2 i3 i4 i5 i6⟩,λ no k u k2 k3 least z rest tA dA kvs r b H' h0 h1 h2 h3 h4 h5=>⟨_,rfl,qB no k u k2 k3 least z rest tA dA kvs r b H' h0 h1 h2 h3 h4 h5⟩,qC⟩
 .rintro x' C' d T0 T2 H' ⟨x2,C2,dx',fs,ev,rfl,hx,s34,xr,tel⟩ fl hT2 nT2;obtain rfl:x'=x2:=Value.ref.inj ev;obtain⟨rfl,xr',s5⟩:=Oe hx s34 xr fl hT2;obtain⟨⟨dx2,ee,ndx,hd⟩,T3,hxT⟩:=xr';cases ee;have he:IsExc (A4 H' x' C2 (some dx') T2) x' C2:=.inl ⟨dx',_,.inr ⟨T3,hxT⟩,hd⟩;rcases tel with ⟨v,eC,rfl,tell⟩|⟨v,eC,rfl,tell⟩|⟨u,eC,rfl,tell⟩
  .rw[eC]at hd hxT he s5 |-;refine⟨_,R.m .S .S,λ_=>?_,λ z=>absurd z (by decide)⟩;refine⟨_,rfl,x',_,dx',_,_,rfl,.inr ⟨T3,hxT⟩,hd,R.cl .S,R.nS,FL,_,rfl,Ao 3,λ tt ntt=>?_⟩;have s6:=Same.new (o:=.tup [.ref cM,.ref cD,.ref cG]) ntt;exact⟨x',_,tt,cM,cD,cG,rfl,he.same s6,R.cl .S,upd_same,R.kx .S .M,R.kx .S .D,R.kx .S .G,_,rfl,x',_,_,_,true,rfl,he.same s6,R.cl .S,rfl,(λ_ z=>z),R.kE .S,Ao 4,λ l nl=>⟨_,rfl,tell l _ (s5.trans (s6.trans (Same.new nl))) upd_same⟩⟩
  .rw[eC]at hd hxT he s5 |-;refine⟨_,R.m .M .S,λ z=>absurd z (by decide),λ_=>⟨_,R.m .M .M,λ_=>?_,λ z=>absurd z (by decide)⟩⟩;refine⟨_,rfl,x',_,dx',_,_,rfl,.inr ⟨T3,hxT⟩,hd,R.cl .M,R.nM,FL,_,rfl,Ao 3,λ tt ntt=>?_⟩;have s6:=Same.new (o:=.tup [.ref cS,.ref cD,.ref cG]) ntt;exact⟨x',_,tt,cS,cD,cG,rfl,he.same s6,R.cl .M,upd_same,R.kx .M .S,R.kx .M .D,R.kx .M .G,_,rfl,x',_,_,_,true,rfl,he.same s6,R.cl .M,rfl,(λ_ z=>z),R.kE .M,Ao 4,λ l nl=>⟨_,rfl,tell l _ (s5.trans (s6.trans (Same.new nl))) upd_same⟩⟩
  .rw[eC]at hd hxT he s5 |-;refine⟨_,R.m .G .S,λ z=>absurd z (by decide),λ_=>⟨_,R.m .G .M,λ z=>absurd z (by decide),λ_=>⟨_,R.m .G .G,λ_=>?_,λ z=>absurd z (by decide)⟩⟩⟩;refine⟨_,rfl,x',_,dx',_,_,rfl,.inr ⟨T3,hxT⟩,hd,R.cl .G,R.nW,SM u,_,rfl,x',_,dx',_,_,rfl,.inr ⟨T3,hxT⟩,hd,R.cl .G,R.nH,SN u,Ao 2,λ b nb=>?_⟩;have s6:=Same.new (o:=.tup [.int u.1,.int u.2.1]) nb;refine⟨_,rfl,_,rfl,Ao 3,λ tt ntt=>?_⟩;have s7:=Same.new (o:=.tup [.ref cS,.ref cM,.ref cD]) ntt;have s67:=s6.trans s7;exact⟨x',_,tt,cS,cM,cD,rfl,he.same s67,R.cl .G,upd_same,R.kx .G .S,R.kx .G .M,R.kx .G .D,_,rfl,x',_,_,_,true,rfl,he.same s67,R.cl .G,rfl,(λ_ z=>z),R.kE .G,Ao 4,λ l nl=>⟨_,rfl,tell b l _ (s5.trans (s67.trans (Same.new nl))) ((Same.new nl) _ _ (s7 _ _ upd_same)) upd_same⟩⟩
def QD(t:Bl)(Q:VK):VK:=λ v H'=>(v=.non->∀b u H2,Same H' H2->H2 b=some (.tup [.int t.1,.int t.2.1])->H2 u=some (.tup [.str "glass",.ref b,.bl false,.bl true])->Q (.ref u) H2)/\(v≠.non->Q v H')
theorem Ie{vs:LUz}{H:Hp}{Q Q':VK}{E E':XK}(h:Et vs H Q E)(m:∀v H',Q v H'->Q' v H'):Et vs H Q' E':=by
 obtain⟨d,a,b,c,e,zs,tk,os,ps,t,e0,ls,z4,so,tk2,o8,p8,ok1,qA,qB,qC⟩:=h;exact⟨d,a,b,c,e,zs,tk,os,ps,t,e0,ls,z4,so,tk2,o8,p8,ok1,λ y hy h1 h2 z rest os2 r q H' i1 i2 i3 i4=>m _ _ (qA y hy h1 h2 z rest os2 r q H' i1 i2 i3 i4),λ no k z0 k2 k3 least z rest os2 r q H' i1 i2 i3 i4=>m _ _ (qB no k z0 k2 k3 least z rest os2 r q H' i1 i2 i3 i4),λ n1 n2 H' s=>m _ _ (qC n1 n2 H' s)⟩
inductive La(vs:LUz)(H:Hp)(Q:VK)(E:XK):Prop
 |mk (d a b c e:Addr) (zs:LI) (tk:List Int) (os ps:List Of1) (v1 v2:V) (tu:Bool) (h0:vs=[.ref d,v1,v2,.bl tu]) (h1:LsAt H d a b c e zs tk os ps) (h2:Ty H v1) (h3:Ty H v2) (h4:(∀v,Dw v1 v2=some v->∀t H',Same H H'->H' t=some (.tup [.str "side",v,.bl false,.bl true])->Q (.ref t) H')) (h5:∀t:Bl,v1=.int t.1->v2=.int t.2.1->tu=t.2.2->WOk t->(59<ps.length->∀u H',Same H H'->H' u=some (.tup [.str "many",.int 61,.bl false,.bl true])->Q (.ref u) H')/\(ps.length<=59->∀H1,Same H H1->Et [.ref d,.int t.1,.int t.2.1,.bl t.2.2] H1 (QD t Q) E)):La vs H Q E
def Es:Sp:=λ vs H Q E=>La vs H Q E
abbrev Tc:LSz:=["_law_state","_law_width","_law_height","_law_turns","_law_side_here","_law_due_here"]
theorem HL{v1 v2:V}(h1:AE v1=true)(h2:AE v2=true):Dw v1 v2=none:=by unfold Dw;rw[if_pos h1,if_pos h2]
theorem LA{f:Addr}{fd:FuncData}(F:Fun K "_law_due" "_law_due" DU f fd)(T:Txt mg tk)(D__law_is_side:AC P w K mg base 1 "_law_is_side" ["_law_thing"] Er)(D__law_cut:AC P w K mg base 3 "_law_cut" ["_law_state","_law_width","_law_height","_law_turns"] Et):A3 P w K mg base CX0 4 f fd ["_law_state","_law_width","_law_height","_law_turns"] Es:=by
 have S:Aj Tc ["_law_state","_law_width","_law_height","_law_turns"] (Ad DU):=fsk;refine F.g S ?_;rintro vs H Q E ⟨d,a,b,c,e,zs,tk,os,ps,v1,v2,tu,rfl,ls,ty1,ty2,qS,qT⟩;refine⟨rfl,λ cdv A outer s hr=>?_⟩;have hu:=Fu hr;refine⟨_,(Ae (Cc PassesOwn.never rfl (L4 (An (Aa (pv 1) (Aa (pv 2) Ab)))) (Al (i:=4) S.nd rfl (aF rfl)) (Ag (AB (DY (DX (A2 D__law_is_side hr (Aa (pv 4) Ab)))) (Ag (As (An (Aa A8 (Aa (pv 4) (Aa BD (Aa BD Ab))))))) Ay)))
  (Ae (AB (Aq HW (Ar A1 rfl T.z_len rfl (Aa (AN hu (pv 0) A8 (λ_ _=>rfl)) Ab)) Ac (Av _)) (Ag (As (An (Aa A8 (Aa Ac (Aa BD (Aa BD Ab))))))) Ay)
  (Ae (Au (i:=5) S.nd rfl (aF rfl) (A2 D__law_cut hr (Aa (pv 0) (Aa (pv 1) (Aa (pv 2) (Aa (pv 3) Ab))))))
  (Ae (AB (Aq Ea (pv 5) AL (Av _)) (Ag (As (An (Aa A8 (Aa (An (Aa (pv 1) (Aa (pv 2) Ab))) (Aa BD (Aa BD Ab))))))) Ay)
  (Ag (As (pv 5))))))),?_⟩
 refine⟨_,rfl,_,rfl,Ao 2,λ t nt=>?_⟩;obtain⟨H1,g,s1,h1⟩:=nw (.tup [v1,v2]) nt;rw[g];refine⟨t,rfl,⟨_,SqT.of h1⟩,Jy (K:=K) (a:=t) (xs:=[v1,v2]) (λ i σ H'=>(∃y,σ=[some (.ref d),some v1,some v2,some (.bl tu),y,none])/\H'=H1/\(0<i->AE v1=true)/\(1<i->AE v2=true)) ⟨⟨none,rfl⟩,rfl,(λ z=>absurd z (by decide)),λ z=>absurd z (by decide)⟩ (λ i σ H' _ hp=>by rw[hp.2.1];exact SqT.of h1) ?_ ?_⟩
 .rintro i x σ H' hx ⟨⟨y,rfl⟩,rfl,g0,g1⟩;obtain⟨ax,due,good⟩:Ty H x/\(AE x=false->Dw v1 v2=some x)/\(AE x=true->(0<i+1->AE v1=true)/\(1<i+1->AE v2=true)):=by
   unfold Dw
   match i,hx with
   |0,hx =>
    cases hx;exact⟨ty1,λ z=>by rw[z];rfl,λ z=>⟨λ_=>z,λ k=>absurd k (by lia)⟩⟩
   |1,hx =>
    cases hx;have z0:=g0 (by lia);exact⟨ty2,λ z=>by rw[z0,z];rfl,λ z=>⟨λ_=>z0,λ_=>z⟩⟩
   |i+2,hx=>cases hx
  refine⟨_,rfl,x,rfl,ax.same s1,_,rfl,Bi (λ hb=>?_) (λ hb=>?_)⟩
  .have hb:AE x=false:=by simpa using hb
   exact⟨_,rfl,Ao 4,λ u nu=>qS x (due hb) u _ (s1.trans (Same.new nu)) upd_same⟩
  .have hb:AE x=true:=by simpa using hb
   exact⟨⟨_,rfl⟩,rfl,good hb⟩
 .rintro σ H' ⟨⟨y,rfl⟩,rfl,g0,g1⟩;obtain⟨w,rfl,rfl,rfl,wok⟩:=M5 (tu:=tu) (HL (g0 (show 0<2 from by decide)) (g1 (show 1<2 from by decide)));obtain⟨qM,q⟩:=qT w rfl rfl rfl wok;have dg:DGet H' d (.str "panes") (some (.ref e)):=DGet.k (k:=Sum.inr "panes") (s1 _ _ ls.dic);refine⟨_,rfl,d,_,rfl,dg,e,_,rfl,.inl (SqL.of (s1 _ _ ls.pan)),?_⟩;refine⟨_,_,rfl,rfl,_,rfl,Bi (λ c1=>?_) (λ c1=>?_)⟩
  .have c1:=of_decide_eq_true c1;unfold Ai at c1;rw[ae]at c1;exact⟨Ao 4,λ u nu=>qM (by lia) u _ (s1.trans (Same.new nu)) upd_same⟩
  .have c1:=of_decide_eq_false c1;unfold Ai at c1;rw[ae]at c1;refine⟨_,rfl,_,rfl,_,rfl,_,rfl,?_⟩;dsimp only[Lo,aX,bX,aI];refine Ie (vs:=[.ref d,.int w.1,.int w.2.1,.bl w.2.2]) (q (by lia) H' s1) λ v H2 g=>?_;refine⟨_,rfl,rfl,_,rfl,Bi (λ c=>?_) (λ c=>?_)⟩
   .exact⟨_,rfl,_,rfl,Ao 2,λ b nb=>⟨Ao 4,λ u nu=>g.1 (of_decide_eq_true c) b u _ ((Same.new nb).trans (Same.new nu)) ((Same.new nu) _ _ upd_same) upd_same⟩⟩
   .exact⟨_,rfl,g.2 (of_decide_eq_false c)⟩
inductive Nj(K:Frag)(vs:LUz)(H:Hp)(Q:VK)(E:XK):Prop
 |mk (a1 a2:Addr) (x0 x1 y0 y1:V) (xs ys:LUz) (d:D) (U:String) (h0:vs=[.ref a1,.ref a2]) (h1:H a1=some (.tup (x0::x1::xs))) (h2:H a2=some (.tup (y0::y1::ys))) (h3:ys.length<=9) (h4:DIs K H d (.ref a1)) (h5:DIs K H d (.ref a2)) (h6:dep d<=20) (h7:tyS H x1=some U) (h8:tyS H y1=some U) (h9:∀H',Same H H'->Q (.bl true) H'):Nj K vs H Q E
def EO(K:Frag) :Sp:=λ vs H Q E=>Nj K vs H Q E
theorem N4{f:Addr}{fd:FuncData}(F:Fun K "_law_is" "_law_is" EV f fd)(T:Txt mg tk):A3 P w K mg base CX0 1 f fd ["_law_told","_law_due_here"] (EO K):=by
 have S:Aj ["_law_told","_law_due_here"] ["_law_told","_law_due_here"] (Ad EV):=fsk;refine F.g S ?_;rintro vs H Q E ⟨a1,a2,x0,x1,y0,y1,xs,ys,d,U,rfl,h1,h2,l9,D1,D2,dp,t1,t2,q⟩;refine⟨rfl,λ cdv A outer s hr=>?_⟩;refine⟨_,(Ae (AB (PW.pt (Gu (Aq (L7 hr) (pv 0) (pv 1) (Av _)) (DW (PW.pt (EW (Aq Dp (Ar A1 rfl T.z_len rfl (Aa (pv 1) Ab)) Ac (Av _)) (Ew (Aq ME (Ar B6 rfl T.z_isinstance rfl (Aa (Ak LU (pv 0) Ac (λ_ _=>rfl)) (Aa (CM (v:=.ty "bool") rfl T.z_bool rfl rfl) Ab))) (Ar B6 rfl T.z_isinstance rfl (Aa (Ak LU (pv 1) Ac (λ_ _=>rfl)) (Aa (CM (v:=.ty "bool") rfl T.z_bool rfl rfl) Ab))) (Av _)))))))) (Ag (As BD)) Ay)
  (Ag (As BD))),?_⟩
 refine⟨_,rfl,_,rfl,d,d,D1,D2,⟨_,rfl⟩,⟨_,rfl⟩,aS dp (by decide),_,rfl,?_⟩;rw[if_pos rfl,Cf _ D1];refine B4 rfl ⟨_,rfl,a2,_,rfl,.inr (SqT.of h2),rfl,_,rfl,Bi (λ c=>?_) (λ c=>?_)⟩
 .exact⟨_,rfl,(.inr (.inl ⟨a1,_,_,x1,rfl,rfl,SqT.of h1,Bs (j:=1) rfl,x1,U,"bool",rfl,t1,.inr (.inl rfl),_,rfl,(.inr (.inl ⟨a2,_,_,y1,rfl,rfl,SqT.of h2,Bs (j:=1) rfl,y1,U,"bool",rfl,t2,.inr (.inl rfl),rfl,_,rfl,B4 (by rw[decide_eq_true rfl];rfl) (q H (Same.refl H))⟩))⟩))⟩
 .exact Qs (q H (Same.refl H))
def TrOk(x:Pd):Prop:=∀t∈x.tn,∃r,ShT t.2.2.2.2 (shR (zOf x.zs t.2.1)) r
theorem Od{C:Addr}{H:Hp}{x:Pd}{n:Nat}(pr:PrAt C H x n){t:Tk1}(ht:t∈x.tn):A6 (shR (zOf x.zs t.2.1)):=by
 have h1:=pr.rel.ix t.2.1 (by rw[pr.tk];exact ay.mpr ⟨t,ht,rfl⟩);exact Ou (pr.so _ (ai (Oc h1)))
theorem TrOk.old{C:Addr}{H:Hp}{x:Pd}{n:Nat}(h:TrOk x)(pr:PrAt C H x n){y:Int×Rk}{z:Int×Int}{u:Tk1}{ks:LKz}{os2 ps2:List Of1}{m:Int}(hy:y∈A5 (whs 0 x.kvs))(z1:0<z.1)(z2:0<z.2)(hu:x.tn[y.1.toNat]?=some u):TrOk { x with tn:=Ci x.tn y.1.toNat ks (AG u.2.2.2.2 y.2 z m),os:=os2,ps:=ps2 }:=by
 intro t ht;have ht:t∈Ci x.tn y.1.toNat ks (AG u.2.2.2.2 y.2 z m):=ht;rw[FJ hu]at ht;rcases ce ht with ht|rfl
 .exact h t ht
 .have um:=ai hu;obtain⟨r,sh⟩:=h u um;obtain⟨j,kv,hj,ej,hm⟩:=mem_whs.mp (mem_off.mp hy);have ej:y.1.toNat=j:=by lia
  have hk:x.kvs[y.1.toNat]?=some u.2.2.2.2:=by unfold Pd.kvs;rw[aE,hu];rfl
  rw[ej,hj]at hk;cases hk;exact⟨_,(sh.cut (Od pr um) hm z1 z2).1⟩
theorem TrOk.new{x:Pd}(h:TrOk x){k:Nat}{z0 z:Int×Int}{ks:LKz}{os2 ps2:List Of1}{tk2:List Int}{m:Int}{tA dA:Addr}(hk:x.zs[k]?=some z0)(so:SOk z0)(z1:0<z.1)(z2:0<z.2):TrOk { x with tn:=x.tn++[(tA,(k:Int),dA,ks,AG [(shR z0,.w none)] (shR z0) z m)],tk:=tk2,os:=os2,ps:=ps2 }:=by
 intro t ht;rcases aw.mp ht with ht|ht
 .exact h t ht
 .rw[aa.mp ht];have st:ShT [(shR z0,En.w none)] (shR z0) (.whole none):=⟨List.Perm.refl _,by unfold Cm;rw[Fit];trivial⟩;have ez:zOf x.zs (k:Int)=z0:=by
   have hl:=(av.mp hk).1;have:=Oc (zs:=x.zs) (k:=(k:Int)) ⟨by lia,by lia⟩;rw[bQ,hk]at this;exact(Option.some.inj this).symm
  refine⟨rep (shR z0) (Mf (shR z0) z m) (.whole none) (shR z0),?_⟩;show ShT _ (shR (zOf x.zs (k:Int))) _;rw[ez];exact(st.cut (Ou so) (aa.mpr rfl) z1 z2).1
def KC(s:Str)(d:D):D:=.tup (.cons (.at (.str s)) (.cons d (.cons (.at (.bl false)) (.cons (.at (.bl true)) .nil))))
theorem FQ{K:Frag}{H:Hp}{l:Addr}{s:Str}{d:D}{v:V}(h:H l=some (.tup [.str s,v,.bl false,.bl true]))(da:DAt H d v):DIs K H (KC s d) (.ref l):=by
 refine Pp _ ?_;unfold KC;rw[DAt];refine⟨l,_,rfl,h,?_⟩;rw[Bb];refine⟨_,_,rfl,Ch rfl,?_⟩;rw[Bb];refine⟨_,_,rfl,da,?_⟩;rw[Bb];refine⟨_,_,rfl,Ch rfl,?_⟩;rw[Bb];refine⟨_,_,rfl,Ch rfl,?_⟩;rw[Bb]
theorem KB{s:Str}{d:D}(h:dep d<=10):dep (KC s d)<=20:=by
 unfold KC;rw[dep,Bw,dep,Bw,Bw,dep,Bw,dep,Bw];lia
theorem Ph{t:Bl}(h:WOk t):Dw (.int t.1) (.int t.2.1)=none:=by
 obtain⟨a,b,c,d⟩:=h;exact HL (FH a b) (FH c d)
theorem SR{H:Hp}{v1 v2 v:V}{d1 d2:D}(a1:DAt H d1 v1)(a2:DAt H d2 v2)(p1:dep d1<=10)(p2:dep d2<=10)(h:Dw v1 v2=some v):∃d,DAt H d v/\dep d<=10:=by
 unfold Dw at h;split at h
 .split at h
  .cases h
  .cases h;exact⟨d2,a2,p2⟩
 .cases h;exact⟨d1,a1,p1⟩
theorem IL{t t':Bl}(g1:V.int t.1=V.int t'.1)(g2:V.int t.2.1=V.int t'.2.1)(g3:t.2.2=t'.2.2):t=t':=bW (V.int.inj g1) (bW (V.int.inj g2) g3)
theorem QQ{H:Hp}{b:Addr}{i j:Int}(h:H b=some (.tup [.int i,.int j])):DAt H (.tup (.cons (.at (.int i)) (.cons (.at (.int j)) .nil))) (.ref b):=by
 rw[DAt];refine⟨b,_,rfl,h,?_⟩;rw[Bb];refine⟨_,_,rfl,Ch rfl,?_⟩;rw[Bb];refine⟨_,_,rfl,Ch rfl,?_⟩;rw[Bb]
theorem RS{H:Hp}{d a b c e:Addr}{zs:LI}{tk:List Int}{os ps:List Of1}(h:LsAt H d a b c e zs tk os ps):Chg H [b,c,e]:=λ y hy=>by
 simp only[aA,bd,or_false]at hy;rcases hy with rfl|rfl|rfl
 .exact .inl ⟨_,h.tak⟩
 .exact .inl ⟨_,h.off⟩
 .exact .inl ⟨_,h.pan⟩
def wR(l:LK):Int:=(l.map λ y=>y.2.len true).sum
abbrev Pd.wd(X:Pd):Int:=wR (X.os.map λ t:Of1=>t.2.2)
def Stp(v1 v2:V)(n:Nat)(X:Pd)(n':Nat)(X':Pd):Prop:=X'.zs=X.zs/\n<=n'/\n'<=n+1/\X'.wd<=X.wd+12/\(n=60->X'.wd=X.wd)/\(v1=.int 1->v2=.int 1->1<=X.zs.length->n<60->n'=n+1/\(X'.wd<=X.wd\/X'.wd<=12))
theorem Lj(a b:LK):wR (a++b)=wR a+wR b:=by unfold wR;rw[ah,cN]
theorem Mw{a b:LK}(h:a.Perm b):wR a=wR b:=Kd (h.map _)
theorem Mx{y:Int×Rk}{z:Int×Int}(h1:0<z.1)(h2:z.1<=y.2.len true):wR (Cj y z)<=y.2.len true:=by
 have e1:(y.2.oth true z.1).len true=y.2.len true-z.1:=by show y.2.r-(y.2.l+z.1)=y.2.r-y.2.l-z.1;lia
 have e2:((y.2.fst true z.1).oth false z.2).len true=z.1:=by show y.2.l+z.1-y.2.l=z.1;lia
 unfold Cj;rw[Lj];split<;>split<;>simp only[wR,aL,dm,bR,List.sum_nil,e1,e2]<;>lia
theorem Ri{l:LK}(h:∀y∈l,A6 y.2):(l.length:Int)<=wR l:=by
 induction l with
 |nil=>exact bb 0
 |cons y r ih =>
  have h1:=ih λ u hu=>h u (aO _ hu);obtain⟨_,_,_,_,a,_⟩:=h y aR;have e:wR (y::r)=y.2.len true+wR r:=rfl;have e2:y.2.len true=y.2.r-y.2.l:=rfl;rw[aD];lia
theorem OJ{tu:Bool}{p:Rk}(h:A6 p):hld (1,1,tu) p:=by
 obtain⟨_,a,_,_,b,_⟩:=h;unfold hld;intro z;have m:((1,1):Int×Int)∈AA (1,1,tu) (p.len true) (p.len false):=by
  unfold AA;refine cO.mpr ⟨by cases tu<;>decide,?_⟩;have e1:p.len true=p.r-p.l:=rfl;have e2:p.len false=p.b-p.t:=rfl;rw[aP,decide_eq_true_iff,decide_eq_true_iff,e1,e2];exact⟨by show(1:Int)<=_;lia,by show(1:Int)<=_;lia⟩
 rw[z]at m;cases m
theorem Gz:∀(l:LR),(A5 l).length+(AF l).length=l.length
 |[]=>rfl
 | (i,p,none)::r=>by
  show((i,p)::A5 r).length+(AF r).length=_;have:=Gz r;rw[aD,aD];lia
 | (i,p,some m)::r=>by
  show(A5 r).length+(p::AF r).length=_;have:=Gz r;rw[aD,aD];lia
theorem OI{C cG cM cS:Addr}{H:Hp}{X:Pd}{n:Nat}(pr:PrAt C H X n)(en:X.ps.length=n)(tr:TrOk X)(n60:n<=60)(o6:X.os.length<=63){v1 v2:V}{d1 d2:D}{tu:Bool}(a1:DAt H d1 v1)(a2:DAt H d2 v2)(p1:dep d1<=10)(p2:dep d2<=10){Q Qa:VK}{Qd:V->VK}{E1 E2 E3:XK}(hA:∀va H1,Es [.ref X.d,v1,v2,.bl tu] H1 (Qd va) E2->Qa va H1)(hD:∀va vd H2,EO K [va,vd] H2 Q E3->Qd va vd H2)
  (qq:∀X' n' H',PrAt C H' X' n'->X'.ps.length=n'->TrOk X'->n'<=60->Stp v1 v2 n X n' X'->X'.a=X.a->X'.d=X.d->(∀b∈X'.own,b∈X.own\/H b=none)->Out X.own H H'->Q (.bl true) H') :
  EQ C cG cM cS [.ref X.a,v1,v2,.bl tu] H Qa E1:=by
 obtain⟨⟨j1,j2,j3⟩,⟨i1,i2,i3,i4⟩,i5⟩:=pr.sep;have bok:=pr.bok n60 o6;have offs:=pr.offs;have n1:=pr.n1;have tl:X.tk.length<=60:=by rw[pr.tk,ae];lia
 have okO:∀y∈X.os,A6 y.2.2.2/\0<=y.2.2.1/\y.2.2.1<=999:=λ y hy=>by
  obtain⟨p1,p2,p3⟩:=offs y.2.2 (pr.rel.off.mem_iff.mp (ay.mpr ⟨y,hy,rfl⟩));exact⟨p1,p2,by lia⟩
 have ok9:∀y∈A5 (whs 0 X.kvs),A6 y.2/\0<=y.1/\y.1<=999:=λ y hy=>by
  obtain⟨p1,p2,p3⟩:=offs y hy;exact⟨p1,p2,by lia⟩
 have ss4:X.ss.length<=4:=by have:=pr.z4;rw[<-pr.sz,ae]at this;exact this
 have soS:∀u∈X.ss,SOk u.2:=λ u hu'=>pr.so _ (by rw[<-pr.sz];exact ay.mpr ⟨u,hu',rfl⟩);have np:(AF (whs 0 (X.tn.map λ t=>t.2.2.2.2))).length=n:=by
  have:=pr.rel.pan.length_eq;rw[ae,ae,en]at this;exact this.symm
 have zss:∀(k:Nat),X.zs[k]?=(X.ss[k]?).map (λ t=>t.2):=λ k=>by rw[<-pr.sz,aE]
 have same':(v1=.int 1->v2=.int 1->1<=X.zs.length->¬n<60)->∀H',Same H H'->Q (.bl true) H':=λ k H' s=>qq X n H' (pr.same s) en tr n60 ⟨rfl,aj n,bH n,by lia,λ_=>rfl,λ z1 z2 z3 z4=>absurd z4 (k z1 z2 z3)⟩ rfl rfl (λ b hb=>.inl hb) (λ x o _ e=>s _ _ e);have fin4:∀{H2:Hp}{t1 t2:Addr}{s:Str}{v w:V}{d:D},Same H H2->H2 t1=some (.tup [.str s,v,.bl false,.bl true])->H2 t2=some (.tup [.str s,w,.bl false,.bl true])->DAt H2 d v->DAt H2 d w->dep d<=10->(v1=.int 1->v2=.int 1->1<=X.zs.length->¬n<60)->Qd (.ref t1) (.ref t2) H2:=λ s2 h1 h2 e1 e2 dp k=>by
  obtain⟨U,hU⟩:=Gb e1;exact hD _ _ _ ⟨_,_,_,_,_,_,_,_,KC _ _,U,rfl,h1,h2,by show 2<=9;decide,FQ h1 e1,FQ h2 e2,KB dp,hU,by rw[<-Sh e1 e2];exact hU,λ H3 s3=>same' k H3 (s2.trans s3)⟩
 refine⟨X.a,X.dx,X.ls,X.lt,X.ss,X.tn,v1,v2,tu,rfl,pr.bn,bok,ss4,soS,Gb a1,Gb a2,by rw[np];exact n60,offs,λ v ev=>XE.rf λ fs _ p=>.inl ⟨v,rfl,p,λ t1 H1 s1 h1=>?_⟩,λ t e1 e2 e3 wk=>?_⟩
 .refine hA _ _ ⟨X.d,X.s,X.b,X.c,X.e,X.zs,X.tk,X.os,X.ps,v1,v2,tu,rfl,pr.ls.same s1,(Gb a1).same s1,(Gb a2).same s1,λ w ew t2 H2 s2 h2=>?_,λ t e1 e2 e3 wk=>?_⟩
  .rw[ev]at ew;cases ew;obtain⟨d,da,dp⟩:=SR a1 a2 p1 p2 ev;exact fin4 (s1.trans s2) (s2 _ _ h1) h2 (CC (s1.trans s2) _ da) (CC (s1.trans s2) _ da) dp λ z1 z2=>by rw[z1,z2]at ev;cases ev
  .rw[e1,e2,Ph wk]at ev;cases ev
 subst e1 e2 e3;have hone:V.int t.1=.int 1->V.int t.2.1=.int 1->∀{p:Rk},A6 p->hld t p:=λ z1 z2 p pk=>by
  obtain⟨a,b,c⟩:=t;cases z1;cases z2;exact OJ pk
 have dn:∀{w:V}{α:Prop},Dw (.int t.1) (.int t.2.1)=some w->α:=λ ew=>by rw[Ph wk]at ew;cases ew
 refine⟨λ e60=>XE.rf λ fs _ p=>.inr (.inl ⟨_,rfl,p,λ t1 H1 s1 h1=>?_⟩),λ l60=>⟨?_,?_,λ no none'=>XE.rf λ fs _ p=>.inr (.inr ⟨t,rfl,p,λ b t1 H1 s1 hb h1=>?_⟩)⟩⟩
 .exact hA _ _ ⟨X.d,X.s,X.b,X.c,X.e,X.zs,X.tk,X.os,X.ps,_,_,_,rfl,pr.ls.same s1,⟨_,rfl⟩,⟨_,rfl⟩,(λ w ew=>dn ew),λ t' g1 g2 g3 wk'=>⟨λ l59 t2 H2 s2 h2=>fin4 (d:=.at (.int 61)) (s1.trans s2) (s2 _ _ h1) h2 (Ch rfl) (Ch rfl) (by rw[dep];decide) λ_ _ _=>by rw[np]at e60;lia,λ l59=>absurd e60 (by rw[np];lia)⟩⟩
 .intro y yO yh least u z rest ks r b H1 hu hz x1 bn1 hr hb;have um:=ai hu;have o1:Out [u.2.2.1] H H1:=λ x o n e=>x1 _ _ (λ z=>n (by rw[z];simp)) e;have c1:Chg H [u.2.2.1]:=λ y hy=>by rw[aa.mp hy];exact .inr ⟨_,(pr.bn.tks u um).2.1⟩
  obtain⟨k1,k2,k3,k4⟩:=i5 u um;have ls1:=pr.ls.keep o1 c1 k1 k2 k3 k4;have yo:=pr.rel.off.mem_iff.mpr yO;refine hA _ _ ⟨X.d,X.s,X.b,X.c,X.e,X.zs,X.tk,X.os,X.ps,_,_,_,rfl,ls1,⟨_,rfl⟩,⟨_,rfl⟩,(λ w ew=>dn ew),λ t' g1 g2 g3 wk'=>?_⟩;obtain rfl:=IL g1 g2 g3;refine⟨λ l59=>absurd l60 (by rw[np];lia),λ_ H1' s1=>⟨X.d,X.s,X.b,X.c,X.e,X.zs,X.tk,X.os,X.ps,t,rfl,ls1.same s1,pr.z4,pr.so,by lia,o6,by lia,okO,?_,(λ no=>absurd yh (no y yo)),λ no=>absurd yh (no y yo)⟩⟩;intro y' ym' yh' least' z' rest' os2 r2 q2 H2 hz' pm ls2 kp;have yO':=pr.rel.off.mem_iff.mp ym';have ey:y'=y:=OO (ok9 y' yO') (ok9 y yO) (dD (least' y yo yh) (least y' yO' yh'));subst ey;rw[hz]at hz';cases hz';have o2:Out [X.b,X.c,X.e] H1' H2:=λ x o n e=>kp x o (λ z=>n (by rw[z];simp)) (λ z=>n (by rw[z];simp)) (λ z=>n (by rw[z];simp)) e;have c2:=RS (ls1.same s1);have bn2:=(bn1.same s1).keep o2 c2 j1 j2 (λ x hx=>by
   rw[FJ hu]at hx;rcases ce hx with hx|rfl
   .exact j3 x hx
   .exact j3 u um)
  have hP:(X.ps++[((r2,q2,y'.1,pnN y' z):Of1)]).map (λ t:Of1=>t.2.2)=X.ps.map (λ t:Of1=>t.2.2)++[(y'.1,pnN y' z)]:=by rw[ah];rfl
  have pr2:=pr.old yO wk hz hu pm hP bn2 ls2;obtain⟨z1,z2,h1,h2⟩:=Jw wk hz;have wo:wR (os2.map λ t:Of1=>t.2.2)<=X.wd:=by
   have e1:=Mw pm;have e2:=Mx (y:=y') (z:=z) z1 h1;rw[Lj]at e1;have e3:wR (y'::os2.map λ t:Of1=>t.2.2)=y'.2.len true+wR (os2.map λ t:Of1=>t.2.2):=rfl;lia
  have eB:(CY u.2.2.2.2 y'.2 z).2=pnN y' z:=Mh h1 h2;rw[eB]at hb;have hr2:=o2.tup c2 (s1 _ _ hr);have hb2:=o2.tup c2 (s1 _ _ hb);have of2:=ls2.pns _ (az _ (aa.mpr rfl));have oo:Out X.own H H2:=(o1.same s1).trans o2 (λ x hx=>by rw[aa.mp hx];exact Qg um) (λ x hx=>OD hx);have ow:({ X with tn:=Ci X.tn y'.1.toNat ks (AG u.2.2.2.2 y'.2 z ((AF (whs 0 (X.tn.map λ t=>t.2.2.2.2))).length:Int)),os:=os2,ps:=X.ps++[(r2,q2,y'.1,pnN y' z)] }:Pd).own=X.own:=by
   have e3:(Ci X.tn y'.1.toNat ks (AG u.2.2.2.2 y'.2 z ((AF (whs 0 (X.tn.map λ t=>t.2.2.2.2))).length:Int))).map (λ t=>t.2.2.1)=X.tn.map (λ t=>t.2.2.1):=by rw[FJ hu];exact Gp _ hu rfl
   unfold Pd.own;dsimp only;rw[e3]
  exact⟨λ z=>(nomatch z),λ_=>hD _ _ _ ⟨r,r2,_,_,_,_,[],[],DV (y'.1,pnN y' z),"tuple",rfl,hr2,of2.1,by decide,CJ (t:=(r,b,y'.1,pnN y' z)) ⟨hr2,hb2⟩,CJ of2,aS (Eu _) (by decide),Da hb2,Da of2.2,λ H3 s3=>qq _ (n+1) H3 (pr2.same s3) (by show(X.ps++[_]).length=_;rw[ak,en];rfl) (tr.old pr yO z1 z2 hu) (by rw[np]at l60;lia) ⟨rfl,bH n,aj _,by lia,λ z=>absurd l60 (by rw[np];lia),λ_ _ _ _=>⟨rfl,.inl wo⟩⟩ rfl rfl (λ b hb=>by rw[ow]at hb;exact .inl hb) (oo.same s3)⟩⟩
 .intro no k u k2 k3 least z rest tA dA ks r b H1 ndA hz x1 bn1 hr hb;have o1:Out [X.lt] H H1:=λ x o n e=>x1 _ _ (λ z=>n (by rw[z];simp)) e;have c1:Chg H [X.lt]:=λ y hy=>by rw[aa.mp hy];exact .inl ⟨_,pr.bn.tak⟩
  have ls1:=pr.ls.keep o1 c1 i1 i2 i3 i4;have kz:X.zs[k]?=some u.2:=by rw[zss,k2];rfl
  refine hA _ _ ⟨X.d,X.s,X.b,X.c,X.e,X.zs,X.tk,X.os,X.ps,_,_,_,rfl,ls1,⟨_,rfl⟩,⟨_,rfl⟩,(λ w ew=>dn ew),λ t' g1 g2 g3 wk'=>?_⟩;obtain rfl:=IL g1 g2 g3;refine⟨λ l59=>absurd l60 (by rw[np];lia),λ_ H1' s1=>⟨X.d,X.s,X.b,X.c,X.e,X.zs,X.tk,X.os,X.ps,t,rfl,ls1.same s1,pr.z4,pr.so,by lia,o6,by lia,okO,(λ y ym yh=>absurd yh (no y (pr.rel.off.mem_iff.mp ym))),?_,λ_ nn=>absurd k3 (nn u.2 (ai kz))⟩⟩;intro _ k' z0 k2' k3' least' z' rest' os2 r2 q2 H2 hz' pm ls2 kp;obtain⟨u0,u1,rfl⟩:∃u0,X.ss[k']?=some u0/\u0.2=z0:=by
   rw[zss]at k2';exact aN.mp k2'
  have kl:=(av.mp u1).1;have kl':=(av.mp k2).1;have ek:k'=k:=OR (by lia) (by lia) (dD (least' k u.2 kz k3) (least k' u0 u1 k3'));subst ek;rw[u1]at k2;cases k2;rw[hz]at hz';cases hz';have o2:Out [X.b,X.c,X.e] H1' H2:=λ x o n e=>kp x o (λ z=>n (by rw[z];simp)) (λ z=>n (by rw[z];simp)) (λ z=>n (by rw[z];simp)) e;have c2:=RS (ls1.same s1);have bn2:=(bn1.same s1).keep o2 c2 j1 j2 (λ x hx=>by
   rcases aw.mp hx with hx|hx
   .exact j3 x hx
   .rw[aa.mp hx];intro hm;rcases RS pr.ls dA hm with ⟨xs,e⟩|⟨xs,e⟩<;>rw[ndA]at e<;>cases e)
  have elen:(X.tn.length:Int)=(X.tk.length:Int):=by rw[pr.tk,ae]
  rw[elen]at hr;have hP:(X.ps++[((r2,q2,(X.tk.length:Int),pnN ((X.tk.length:Int),shR u.2) z):Of1)]).map (λ t:Of1=>t.2.2)=X.ps.map (λ t:Of1=>t.2.2)++[((X.tk.length:Int),pnN ((X.tk.length:Int),shR u.2) z)]:=by rw[ah];rfl
  have pr2:=pr.new kz wk hz ndA pm hP bn2 ls2;obtain⟨z1,z2,h1,h2⟩:=Jw wk hz;have wn:wR (os2.map λ t:Of1=>t.2.2)<=X.wd+12:=by
   have e1:=Mw pm;have e2:=Mx (y:=((X.tk.length:Int),shR u.2)) (z:=z) z1 h1;rw[Lj]at e1;have e3:(shR u.2).len true=u.2.1-0:=rfl;have e4:=(soS _ (ai u1)).2.1;dsimp only at e2;lia
  have eB:(CY [(shR u.2,En.w none)] (shR u.2) z).2=pnN ((X.tk.length:Int),shR u.2) z:=Mh h1 h2;rw[eB]at hb;have hr2:=o2.tup c2 (s1 _ _ hr);have hb2:=o2.tup c2 (s1 _ _ hb);have of2:=ls2.pns _ (az _ (aa.mpr rfl));have oo:Out X.own H H2:=(o1.same s1).trans o2 (λ x hx=>by rw[aa.mp hx];exact R7 X) (λ x hx=>OD hx);refine⟨λ z=>(nomatch z),λ_=>hD _ _ _ ⟨r,r2,_,_,_,_,[],[],DV ((X.tk.length:Int),pnN ((X.tk.length:Int),shR u.2) z),"tuple",rfl,hr2,of2.1,by decide,CJ (t:=(r,b,(X.tk.length:Int),pnN ((X.tk.length:Int),shR u.2) z)) ⟨hr2,hb2⟩,CJ of2,aS (Eu _) (by decide),Da hb2,Da of2.2,λ H3 s3=>qq _ (n+1) H3 (pr2.same s3) (by show(X.ps++[_]).length=_;rw[ak,en];rfl) (tr.new kz (soS _ (ai u1)) z1 z2) (by rw[np]at l60;lia) ⟨rfl,bH n,aj _,wn,λ z=>absurd l60 (by rw[np];lia),λ f1 f2 _ _=>⟨rfl,.inr ?_⟩⟩ rfl rfl (λ b hb=>?_) (oo.same s3)⟩⟩
  .have w0:X.wd=0:=by
    show wR (X.os.map λ t:Of1=>t.2.2)=0;have:X.os.map (λ t:Of1=>t.2.2)=[]:=List.eq_nil_iff_forall_not_mem.mpr λ y hy=>no y (pr.rel.off.mem_iff.mp hy) (hone f1 f2 (offs y (pr.rel.off.mem_iff.mp hy)).1);rw[this];rfl
   show wR (os2.map λ t:Of1=>t.2.2)<=12;lia
  unfold Pd.own at hb |-;dsimp only at hb;rw[ah,<-aX,<-aX,<-aX,<-aX,<-aX,<-aX,aw]at hb;rcases hb with hb|hb
  .exact .inl hb
  .rw[aa.mp hb];exact .inr ndA
 .refine hA _ _ ⟨X.d,X.s,X.b,X.c,X.e,X.zs,X.tk,X.os,X.ps,_,_,_,rfl,pr.ls.same s1,⟨_,rfl⟩,⟨_,rfl⟩,(λ w ew=>dn ew),λ t' g1 g2 g3 wk'=>?_⟩;obtain rfl:=IL g1 g2 g3;refine⟨λ l59=>absurd l60 (by rw[np];lia),λ_ H2 s2=>⟨X.d,X.s,X.b,X.c,X.e,X.zs,X.tk,X.os,X.ps,t,rfl,pr.ls.same (s1.trans s2),pr.z4,pr.so,by lia,o6,by lia,okO,(λ y ym yh=>absurd yh (no y (pr.rel.off.mem_iff.mp ym))),(λ_ k z0 k2 k3=>?_),λ_ _ H3 s3=>⟨λ_ b2 t2 H4 s4 hb2 h2=>?_,λ z=>absurd rfl z⟩⟩⟩
  .rw[zss]at k2;obtain⟨u,u1,u2⟩:=aN.mp k2;exact absurd k3 (by rw[<-u2];exact none' u (ai u1))
  .have s14:=s2.trans (s3.trans s4);exact fin4 (s1.trans s14) (s14 _ _ h1) h2 (QQ (s14 _ _ hb)) (QQ hb2) (by rw[dep,Bw,dep,Bw,dep,Bw];decide) λ z1 z2 z3 _=>by
    have ez:X.zs[0]?=some X.zs[0]:=ag z3;rw[zss]at ez;obtain⟨u,u1,u2⟩:=aN.mp ez;have um:=ai u1;exact none' u um (hone z1 z2 (Ou (soS u um)))
theorem Jo:∀(r:Tr)(p:Rk),(nds r p).length=r.nd
 |.whole m,p=>by rw[nds];rfl
 |.cut u k x y,p=>by
  rw[nds,aD,ak,Jo x,Jo y];rw[Tr.nd]
theorem K9{C:Addr}{H:Hp}{X:Pd}{n:Nat}(pr:PrAt C H X n)(tr:TrOk X)(n60:n<=60):∃f:Nat->Tr,∀i t,X.tn[i]?=some t->P4 H X.ss t (f i):=by
 have h:∀i:Nat,∃r:Tr,∀t,X.tn[i]?=some t->P4 H X.ss t r:=λ i=>by
  cases e:X.tn[i]? with
  |none=>exact⟨.whole none,λ t z=>nomatch z⟩
  |some t =>
   have tm:=ai e;obtain⟨r,sh⟩:=tr t tm;refine⟨r,λ t' z=>?_⟩;cases z;have ix:=pr.rel.ix t.2.1 (by rw[pr.tk];exact ay.mpr ⟨t,tm,rfl⟩);have e2:=Oc ix;rw[<-pr.sz,aE]at e2;obtain⟨u,u1,u2⟩:=aN.mp e2;rw[pr.sz]at u2;have pk:=Od pr tm;rw[<-u2]at sh pk;refine⟨ix.1,u,u1,_,_,λ q hq=>KvAt.val (pr.bn.tks t tm).2.2 hq,Jx (sh.nd pk) λ y hy=>sh.pm.mem_iff.mpr hy,?_⟩;have l1:=sh.pm.length_eq;rw[Jo]at l1;have:=pr.n2 t tm;lia
 exact⟨λ i=>Classical.choose (h i),λ i=>Classical.choose_spec (h i)⟩
theorem PrAt.tab{C T:Addr}{pos:Pos}{qual:Str}{H H':Hp}{x:Pd}{n:Nat}(h:PrAt C H x n)(s:SameX T H H')(hT:TabOk pos qual T H):PrAt C H' x n:=by
 obtain⟨ps,eT,_⟩:=hT;have k:∀{y:Addr}{o:HO},H y=some o->(∀ps,o≠.tbl ps)->H' y=some o:=λ e no=>s _ _ (λ z=>by rw[z,eT]at e;exact no _ (Option.some.inj e).symm) e;have kt:∀x xs,H x=some (.tup xs)->H' x=some (.tup xs):=λ x xs e=>k e (by intro ps z;cases z);obtain⟨zt,z1,z2,z3⟩:=h.ls.sh;exact⟨⟨k h.bn.ob (by intro ps z;cases z),k h.bn.lst (by intro ps z;cases z),λ t ht=>kt _ _ (h.bn.stk t ht),k h.bn.tak (by intro ps z;cases z),λ t ht=>⟨kt _ _ (h.bn.tks t ht).1,k (h.bn.tks t ht).2.1 (by intro ps z;cases z),(h.bn.tks t ht).2.2.tups kt⟩,h.bn.dis⟩,
  ⟨k h.ls.dic (by intro ps z;cases z),⟨zt,k z1 (by intro ps z;cases z),λ t ht=>kt _ _ (z2 t ht),z3⟩,k h.ls.tak (by intro ps z;cases z),k h.ls.off (by intro ps z;cases z),λ t ht=>(h.ls.ofs t ht).tups kt,k h.ls.pan (by intro ps z;cases z),λ t ht=>(h.ls.pns t ht).tups kt,h.ls.nbc,h.ls.nbe,h.ls.nce,h.ls.nab,h.ls.nac,h.ls.nae⟩,h.sz,h.z4,h.so,h.tk,h.rel,h.n1,h.n2,h.n3,h.n4,h.nd⟩
theorem P8{pos:Pos}{qual:Str}{T:Addr}{H H':Hp}{M:List Addr}(h:TabOk pos qual T H)(o:Out M H H')(nt:T∉M)(c:Chg H M):TabOk pos qual T H':=by
 obtain⟨ps,e,tr,r⟩:=h;refine⟨ps,o _ _ nt e,tr,r.imp id λ⟨c',e1,e2⟩=>⟨c',e1,o _ _ (λ z=>?_) e2⟩⟩;rcases c c' z with ⟨xs,e3⟩|⟨xs,e3⟩<;>(rw[e2]at e3;cases e3)
theorem ON{vs:LUz}{H:Hp}{Q Q':VK}{E E':XK}(h:EO K vs H Q E)(m:∀H',Q (.bl true) H'->Q' (.bl true) H'):EO K vs H Q' E':=by
 obtain⟨a1,a2,x0,x1,y0,y1,xs,ys,d,U,e,h1,h2,l9,D1,D2,dp,t1,t2,q⟩:=h;exact⟨a1,a2,x0,x1,y0,y1,xs,ys,d,U,e,h1,h2,l9,D1,D2,dp,t1,t2,λ H' s=>m _ (q H' s)⟩
theorem NE{vs:LUz}{H:Hp}{Q Q':VK}{E E':XK}(h:Es vs H Q E)(m:∀v H',Q v H'->Q' v H'):Es vs H Q' E':=by
 obtain⟨d,a,b,c,e,zs,tk,os,ps,v1,v2,tu,e0,ls,ty1,ty2,qS,qT⟩:=h;exact⟨d,a,b,c,e,zs,tk,os,ps,v1,v2,tu,e0,ls,ty1,ty2,λ v ev t H' s h=>m _ _ (qS v ev t H' s h),λ t e1 e2 e3 wk=>⟨λ l u H' s h=>m _ _ ((qT t e1 e2 e3 wk).1 l u H' s h),λ l H1 s=>Ie ((qT t e1 e2 e3 wk).2 l H1 s) λ v H2 g=>⟨λ z b u H3 s3 hb hu=>m _ _ (g.1 z b u H3 s3 hb hu),λ z=>m _ _ (g.2 z)⟩⟩⟩
theorem MQ{K:Frag}{H:Hp}{a:Addr}{ns:List Int}(h:H a=some (.lst (ns.map V.int))):DIs K H (.lst (Ft ns)) (.ref a):=by rw[DIs];exact⟨a,_,rfl,SqL.of h,K7 ns⟩
def JM(md:Bool)(k0 i n:Nat)(w:Int):Prop:=if md then (i<=k0->w<=12*(i:Int))/\w<=48/\(k0<=i->i<=k0+n\/n=60) else n<=i
theorem JM.step{md:Bool}{k0 i n n':Nat}{X X':Pd}{v1 v2:V}(h:JM md k0 i n X.wd)(s:Stp v1 v2 n X n' X')(z1:1<=X.zs.length)(k4:k0<=4)(n6:n<=60)(n6':n'<=60)(one:md=true->k0<=i->i<k0+62->v1=.int 1/\v2=.int 1):JM md k0 (i+1) n' X'.wd:=by
 obtain⟨_,a,b,c,d,e⟩:=s;cases md with
 |false=>have h:n<=i:=h;show n'<=i+1;lia
 |true =>
  obtain⟨h1,h2,h3⟩:(i<=k0->X.wd<=12*(i:Int))/\X.wd<=48/\(k0<=i->i<=k0+n\/n=60):=h;show(i+1<=k0->X'.wd<=12*((i+1:Nat):Int))/\X'.wd<=48/\(k0<=i+1->i+1<=k0+n'\/n'=60);by_cases c1:i<k0
  .have:=h1 (by lia);exact⟨λ_=>by lia,by lia,λ_=>by lia⟩
  .by_cases c2:n=60
   .have:=d c2;exact⟨λ_=>by lia,by lia,λ_=>.inr (by lia)⟩
   .have g:=h3 (by lia);obtain⟨o1,o2⟩:=one rfl (by lia) (by lia);obtain⟨e1,e2⟩:=e o1 o2 z1 (by lia);exact⟨λ_=>by lia,by lia,λ_=>.inl (by lia)⟩
theorem JM.few{md:Bool}{k0 i n:Nat}{X:Pd}{C:Addr}{H:Hp}(pr:PrAt C H X n)(en:X.ps.length=n)(h:JM md k0 i n X.wd)(l:md=false->i<=24):X.os.length<=63:=by
 have e:=pr.rel.off.length_eq;rw[ae]at e;cases md with
 |false =>
  have h:n<=i:=h;have h1:=pr.rel.pan.length_eq;rw[ae,ae,en]at h1;have h2:=Gz (whs 0 X.kvs);have h3:=pr.n3;have h4:=l rfl;lia
 |true =>
  obtain⟨_,h2,_⟩:(i<=k0->X.wd<=12*(i:Int))/\X.wd<=48/\(k0<=i->i<=k0+n\/n=60):=h;have h1:=Ri (l:=X.os.map λ t:Of1=>t.2.2) λ y hy=>(pr.offs y (pr.rel.off.mem_iff.mp hy)).1;rw[ae]at h1;have h2:wR (X.os.map λ t:Of1=>t.2.2)<=48:=h2;lia
def TD(K:Frag):R2:=λ x y H Q=>rNe x y H Q\/Ry K true x y H Q
theorem RA{X:Cx}{k:Nat}(hr:Room k X.A):OpR X (compareOp .NotEq) (TD X.K):=by
 intro pins s σ H x y v u Q I rx ry h;rcases h with h|h
 .exact ME pins s σ H x y v u Q I rx ry h
 .exact L7 hr pins s σ H x y v u Q I rx ry h
theorem Qh{X:Cx}{k:Nat}(hr:Room k X.A):OpR X (compareOp .Eq) (λ x y H Q=>∃a b xs,x=.ref a/\y=.ref b/\SqL X.K H a xs/\SqL X.K H b []/\Q (.bl xs.isEmpty) H):=by
 intro pins s σ H x y v u Q I rx ry h;obtain⟨a,b,xs,rfl,rfl,h1,h2,q⟩:=h;cases xs with
 |nil =>
  refine OG hr pins s σ H _ _ v u Q I rx ry ⟨.lst .nil,.lst .nil,?_,?_,⟨_,rfl⟩,⟨_,rfl⟩,by rw[dep,Bw];decide,?_⟩
  .rw[DIs];exact⟨a,_,rfl,h1,by rw[DIss]⟩
  .rw[DIs];exact⟨b,_,rfl,h2,by rw[DIss]⟩
  .rw[if_neg (by decide),deq,Cy];exact q
 |cons x xs =>
  cases rx;cases ry;have hu:=hr.units;obtain⟨i1,r1,t1,_⟩:=I.list h1;obtain⟨i2,r2,t2,_⟩:=I.list h2;have l1:=r1.length;have l2:=r2.length;refine PySem.SeqAt.RcAt.lists_lengths t1.isList t2.isList (by rw[am,am,<-l1,<-l2];rfl) (by lia) _ _ _ _ ⟨.bl _,H,I,rfl,q⟩
def Pr2(B H:Hp)(x:V):Prop:=∃p v1 v2 d1 d2,x=.ref p/\B p=none/\H p=some (.lst [v1,v2])/\DAt H d1 v1/\DAt H d2 v2/\okD d1=true/\okD d2=true
def NoI(H:Hp)(M:List Addr):Prop:=∀x∈M,∀u,H x=some (.lst [u])->Bp u=false
theorem MG{H H':Hp}{M:List Addr}{d:D}{v:V}(h:DAt H d v)(k:okD d=true)(o:Out M H H')(m:NoI H M):DAt H' d v:=by
 match d,h,k with
 |.at u,h,_=>rw[DAt]at h |-;exact h
 |.lst (.cons (.at u) .nil),h,_ =>
  rw[DAt]at h |-;obtain⟨b,xs,e,hb,hx⟩:=h;rw[Bb]at hx;obtain⟨x,ys,rfl,hx,hy⟩:=hx;rw[Bb]at hy;subst hy;rw[DAt]at hx;obtain⟨rfl,hf⟩:=hx;refine⟨b,_,e,o _ _ (λ z=>?_) hb,?_⟩
  .have:=m b z _ hb;rw[hf]at this;cases this
  .rw[Bb];refine⟨_,_,rfl,by rw[DAt];exact⟨rfl,hf⟩,?_⟩;rw[Bb]
theorem MH:∀{d:D},okD d=true->dep d<=10
 |.at u,_=>by rw[dep];decide
 |.lst (.cons (.at u) .nil),_=>by rw[dep,Bw,dep,Bw];decide
theorem Pr2.out{B H H':Hp}{M:List Addr}{x:V}(h:Pr2 B H x)(o:Out M H H')(b:∀y∈M,B y≠none)(m:NoI H M):Pr2 B H' x:=by
 obtain⟨p,v1,v2,d1,d2,e,hb,hp,a1,a2,k1,k2⟩:=h;exact⟨p,v1,v2,d1,d2,e,hb,o _ _ (λ z=>b p z hb) hp,MG a1 k1 o m,MG a2 k2 o m,k1,k2⟩
theorem Pr2.same{B H H':Hp}{x:V}(h:Pr2 B H x)(s:Same H H'):Pr2 B H' x:=h.out (M:=[]) (λ y o _ e=>s _ _ e) (λ y z=>nomatch z) (λ y z=>nomatch z)
theorem PL{K:Frag}{H H':Hp}{a:Addr}{xs:LUz}{M:List Addr}{T:Addr}{ps:Array Value}(h:SqL K H a xs)(f:∀x∈M,H x=none)(hT:H T=some (.tbl ps))(o:Out (T::M) H H'):SqL K H' a xs:=by
 have n:∀{q:HO},H a=some q->(∀ps,q≠.tbl ps)->a∉T::M:=λ e no z=>by
  rcases aA.mp z with z|z
  .rw[z,hT]at e;exact no _ (Option.some.inj e).symm
  .rw[f a z]at e;cases e
 rcases h with (h|⟨q,h⟩)|h
 .exact .inl (.inl (o _ _ (n h (by intro ps z;cases z)) h))
 .exact .inl (.inr ⟨q,o _ _ (n h (by intro ps z;cases z)) h⟩)
 .exact .inr h
theorem NS(ns:List Int):∃cs:List Int,Bt (ns.map V.int) (some 5) (some 29)=cs.map V.int/\cs.length<=24:=by
 unfold Bt;refine⟨(ns.drop (HT.sIx (ns.map V.int).length 0 (some 5))).take (HT.sIx (ns.map V.int).length (ns.map V.int).length (some 29)-HT.sIx (ns.map V.int).length 0 (some 5)),by rw[<-List.map_drop,<-List.map_take],?_⟩;rw[bF,b8,ae];unfold HT.sIx;simp only[];rw[if_neg (by lia),if_neg (by lia)];show min (min (29:Int).toNat ns.length-min (5:Int).toNat ns.length) _<=24;lia
theorem KO{xs:LUz}{lo hi:Option Int}{x:V}(h:x∈Bt xs lo hi):x∈xs:=by
 unfold Bt at h;exact List.mem_of_mem_drop (eW h)
theorem Ua{xs:LUz}:(Bt xs none (some 4)).length<=4:=by
 unfold Bt;rw[bF,b8];unfold HT.sIx;simp only[];rw[if_neg (by lia)];show min (min (4:Int).toNat xs.length-0) _<=4;lia
theorem KQ{xs:LUz}{lo hi:Option Int}:(Bt xs lo hi).length<=xs.length:=by
 unfold Bt;rw[bF,b8];lia
theorem Q7{H2:Hp}{sx:Addr}{zx:LI}(hx:TupL H2 sx zx){p b c e:Addr}(np:H2 p=none)(nb:(upd H2 p (.dK [])) b=none)(nc:(upd (upd H2 p (.dK [])) b (.lst [])) c=none)(ne:(upd (upd (upd H2 p (.dK [])) b (.lst [])) c (.lst [])) e=none) :
  (upd (upd (upd (upd H2 p (.dK [])) b (.lst [])) c (.lst [])) e (.lst [])) p=some (.dK [])/\Same H2 (upd (upd (upd (upd (upd H2 p (.dK [])) b (.lst [])) c (.lst [])) e (.lst [])) p (.dK (stK sx b c e)))/\LsAt (upd (upd (upd (upd (upd H2 p (.dK [])) b (.lst [])) c (.lst [])) e (.lst [])) p (.dK (stK sx b c e))) p sx b c e zx [] [] []/\H2 b=none/\H2 c=none/\H2 e=none:=by
 have nn:∀{b:Addr}{o:HO}{G G':Hp},G' b=none->Same G G'->G b=some o->False:=λ h1 h2 h3=>by rw[h2 _ _ h3]at h1;cases h1
 obtain⟨G1,g,g1,f1⟩:=nw (.dK []) np;rw[g] at nb nc ne |-;obtain⟨G2,g,g2,f2⟩:=nw (.lst []) nb;rw[g] at nc ne |-;obtain⟨G3,g,g3,f3⟩:=nw (.lst []) nc;rw[g] at ne |-;obtain⟨G4,g,g4,f4⟩:=nw (.lst []) ne;rw[g];have g24:=g2.trans (g3.trans g4);have g14:=g1.trans g24;have p4:=g24 _ _ f1;have x5:SameX p G4 (upd G4 p (.dK (stK sx b c e))):=SameX.upd;have f5:(upd G4 p (.dK (stK sx b c e))) p=some (.dK (stK sx b c e)):=upd_same;generalize upd G4 p (.dK (stK sx b c e))=G5 at x5 f5 |-;have k5:∀{y:Addr}{o:HO},G4 y=some o->(∀ks,o≠.dK ks)->G5 y=some o:=λ h1 h2=>x5 _ _ (λ z=>by rw[z,p4]at h1;cases h1;exact h2 _ rfl) h1;obtain⟨zt,z1,z2,z3⟩:=hx;refine⟨p4,λ y o h=>x5 _ _ (Ah h np) (g14 _ _ h),⟨f5,⟨zt,k5 (g14 _ _ z1) (by intro ks z;cases z),λ t ht=>k5 (g14 _ _ (z2 t ht)) (by intro ks z;cases z),z3⟩,?_,?_,(λ t ht=>nomatch ht),?_,(λ t ht=>nomatch ht),?_,?_,?_,?_,?_,?_⟩,By g1 nb,By (g1.trans g2) nc,By (g1.trans (g2.trans g3)) ne⟩
 .exact k5 (g3.trans g4 _ _ f2) (by intro ks z;cases z)
 .exact k5 (g4 _ _ f3) (by intro ks z;cases z)
 .exact k5 f4 (by intro ks z;cases z)
 .exact λ z=>nn nc (Same.refl _) (by rw[<-z];exact f2)
 .exact λ z=>nn ne g3 (by rw[<-z];exact f2)
 .exact λ z=>nn ne (Same.refl _) (by rw[<-z];exact f3)
 .exact λ z=>nn nb g1 (by rw[<-z];exact z1)
 .exact λ z=>nn nc (g1.trans g2) (by rw[<-z];exact z1)
 .exact λ z=>nn ne (g1.trans (g2.trans g3)) (by rw[<-z];exact z1)
theorem Om{H:Hp}:∀{ts:LZ}{zs:LI},(∀t∈ts,H t.1=some (.tup [.int t.2.1,.int t.2.2]))->ts.map (λ t=>t.2)=zs->(∀z∈zs,SOk z)->Ths STh H (Ai ts) (zs.map some)
 |[],_,_,rfl,_=>.nil
 |t::ts,_,h,rfl,so=>.cons ⟨t.1,rfl,h t aR,so _ aR⟩ (Om (λ u hu=>h u (aO _ hu)) rfl λ z hz=>so z (aO _ hz))
inductive Nk(tb2:Addr)(K:Frag)(vs:LUz)(H:Hp)(Q:VK)(E:XK):Prop
 |mk (a:Addr) (ns:List Int) (h0:vs=[.ref a]) (h1:SqL K H a (ns.map V.int)) (h2:ns.length<=63) (h3:H tb2=some (.tbl #[])) (h4:∀H',Q (.bl true) H'):Nk tb2 K vs H Q E
def sp_law(tb2:Addr)(K:Frag) :Sp:=λ vs H Q E=>Nk tb2 K vs H Q E
abbrev DI:LSz:=["_law_script","_law_sheets_here","_law_odd","_law_due_here","_law_most","_law_k","_law_cell_here","_law_state","_law_bench","_law_some","_law_width","_law_height","_law_turns"]
theorem RB{f tb2:Addr}{fd:FuncData}{C cS cM cD cG:Addr}(F:Fun K "law" "law" Bf f fd)(T:Txt mg tk)(K_Bench:KU P w K mg base 5 "Bench" C ["self","sheets"] (Gn C cM cD))(D__law_cell:AC P w K mg base 1 "_law_cell" ["_law_script","_law_k"] (M4 K))(D__law_draw:AC P w K mg base 1 "_law_draw" ["_law_cell_here","_law_nth","_law_many"] IQ)(D__law_sheets:AC P w K mg base 2 "_law_sheets" ["_law_cell_here","_law_many"] Gh)(D__law_made:AC P w K mg base 7 "_law_made" ["_law_sheets_here"] JW)(D__law_side:AC P w K mg base 1 "_law_side" ["_law_cell_here"] JV)(D__law_asked:AC P w K mg base 6 "_law_asked" ["_law_bench","_law_width","_law_height","_law_turns"] (EQ C cG cM cS))(D__law_due:AC P w K mg base 4 "_law_due" ["_law_state","_law_width","_law_height","_law_turns"] Es)(D__law_is:AC P w K mg base 1 "_law_is" ["_law_told","_law_due_here"] (EO K))(M_Bench_sheets:KW P w K mg base 6 C "sheets" ["self"] (DN tb2 C cW cU cL))(M_Bench_offcuts:KW P w K mg base 2 C "offcuts" ["self"] (DL C)):A3 P w K mg base CX0 8 f fd ["_law_script"] (sp_law tb2 K):=by
 have S:Aj DI ["_law_script"] (Ad Bf):=fsk;refine F.g S ?_;rintro vs H Q E ⟨a,ns,rfl,hS0,hlen,htb,q⟩;refine⟨rfl,λ cdv A outer s hr=>?_⟩;have hu:=Fu hr;obtain⟨tZ,hZ,kZ⟩:∃rd,PSs (Bd CX0 P w K mg base DI "law" (Ad Bf) f cdv A outer s H E).nox ((Ap Bf).drop 12) rd/\∀(X:Pd)(n:Nat)(w1 w2 w3 w4 w5 w6 w9 w10 w11 w12:Option V)(H1:Hp),PrAt C H1 X n->TrOk X->n<=60->TabOk BN BE tb2 H1->rd { nx:=λ_ H'=>Q .non H',rt:=Q } [some (.ref a),w1,w2,w3,w4,w5,w6,some (.ref X.d),some (.ref X.a),w9,w10,w11,w12] H1:=by
  refine⟨_,(Ag (As (Jh (OG hr) (Jg rfl (BP (DZ M_Bench_sheets hr (pv 8))) (λ_ _ _ _ _=>(Cp (K:=K) (n:=2) rfl (Am (Al (i:=0) (nk ["_law_number","_law_tree"]) rfl (aF rfl)) (Am (Al (i:=1) (nk ["_law_number","_law_tree"]) rfl (aF rfl)) AM)))) (λ_ _ _ _ _=>(pv 0)) (N:=["_law_number","_law_tree"]) (fr:=[none,none])) (AN hu (pv 7) A8 (λ_ _=>rfl)) (Av _)))),?_⟩;intro X n w1 w2 w3 w4 w5 w6 w9 w10 w11 w12 H1 pr tr n60 tab;obtain⟨g,gr⟩:=K9 pr tr n60;have nt:∀{x:Addr}{o:HO},H1 x=some o->(∀ps,o≠.tbl ps)->x≠tb2:=λ e no z=>by
   obtain⟨ps,e2,_⟩:=tab;rw[z,e2]at e;exact no ps (Option.some.inj e).symm
  have n1:=pr.n1;have etk:X.tk.length=X.tn.length:=by rw[pr.tk,ae]
  refine⟨_,rfl,X.a,X.dx,_,rfl,pr.bn.ob,CS _ _ (by decide +kernel) (by decide +kernel),X.a,X.dx,X.ls,X.lt,X.ss,X.tn,g,rfl,pr.bn,by lia,tab,gr,λ l ts H3 sx tab3 nl hl tsl each=>?_⟩;have d3:=sx _ _ (nt pr.ls.dic (by intro ps z;cases z)) pr.ls.dic;have b3:=sx _ _ (nt pr.ls.tak (by intro ps z;cases z)) pr.ls.tak;have el:(Ai ts).length=X.tk.length:=by unfold Ai;rw[ae,tsl,etk]
  refine⟨l,rfl,⟨_,SqL.of hl⟩,λ acc hacc=>DB (K:=K) (a:=l) (ys:=Ai ts) (λ i zs σ H'=>(∃x y,σ=[x,y])/\Same H3 H'/\zs=(X.tk.take i).map V.int) ⟨⟨none,none,rfl⟩,Same.new hacc,rfl⟩ (λ i zs σ H' _ _ hp=>SqL.of (hp.2.1 _ _ hl)) ?_ ?_⟩
  .rintro i x zs σ H4 hx hi hz ha ⟨⟨x1,x2,rfl⟩,s4,rfl⟩;obtain⟨t,ht,rfl⟩:=AY hx;have hi':i<X.tn.length:=by rw[<-tsl];exact(av.mp ht).1
   obtain⟨e1,_⟩:=each i t _ ht (ag hi');have et:X.tk[i]?=some (X.tn[i]).2.1:=by rw[pr.tk,aE,ag hi'];rfl
   refine⟨t.1,_,rfl,SqT.of (s4 _ _ e1),rfl,_,_,rfl,_,_,rfl,rfl,_,rfl,cNx.mk (ba (At (by lia))) hi hz ha ⟨⟨_,_,rfl⟩,λ b o e=>?_,?_⟩⟩
   .rw[Af (Ah e hacc)];exact s4 b o e
   .rw[List.take_add_one,et,ah];rfl
  .rintro zs σ H4 hz ha ⟨_,s4,rfl⟩;rw[el,bE]at ha;have D1:DIs K H4 (.lst (Ft X.tk)) (.ref acc):=MQ ha;exact⟨_,rfl,X.d,_,rfl,DGet.k (k:=Sum.inr "taken") (s4 _ _ d3),_,_,D1,MQ (s4 _ _ b3),⟨_,rfl⟩,⟨_,rfl⟩,by rw[dep,Ii];decide,by rw[if_neg (by decide),Cf _ D1];exact q H4⟩
 obtain⟨tY,hY,kY⟩:∃rd,PSs (Bd CX0 P w K mg base DI "law" (Ad Bf) f cdv A outer s H E).nox ((Jz (nth (Ap Bf) 11)).drop 3) rd/\∀(X:Pd)(n:Nat)(w1 w2 w3 w4 w5 w6 w9 w10 w11 w12:Option V)(D:CT)(H1:Hp),PrAt C H1 X n->TrOk X->n<=60->X.os.length<=63->TabOk BN BE tb2 H1->(∀H2,SameX tb2 H1 H2->TabOk BN BE tb2 H2->D.nx [some (.ref a),w1,w2,w3,w4,w5,w6,some (.ref X.d),some (.ref X.a),w9,w10,w11,w12] H2)->rd D [some (.ref a),w1,w2,w3,w4,w5,w6,some (.ref X.d),some (.ref X.a),w9,w10,w11,w12] H1:=by
  refine⟨_,(Ag (AB (PW.pt (Gu (Aq (L7 hr) (DZ M_Bench_offcuts hr (pv 8)) (Ar (Cz hr) rfl T.z_sorted rfl (Aa (AN hu (pv 7) A8 (λ_ _=>rfl)) Ab)) (Av _)) (DW (Aq ME (Ar A1 rfl T.z_len rfl (Aa (DZ M_Bench_sheets hr (pv 8)) Ab)) (Ar A1 rfl T.z_len rfl (Aa (AN hu (pv 7) A8 (λ_ _=>rfl)) Ab)) (Av _))))) (Ag (As BD)) Ay)),?_⟩;intro X n w1 w2 w3 w4 w5 w6 w9 w10 w11 w12 D H1 pr tr n60 o6 tab qq;have bok:=pr.bok n60 o6;have pok:∀y∈A5 (whs 0 (X.tn.map λ t=>t.2.2.2.2)),A6 y.2:=λ y hy=>(pr.offs y hy).1;refine⟨_,rfl,X.a,X.dx,_,rfl,pr.bn.ob,CS _ _ (by decide +kernel) (by decide +kernel),X.a,X.dx,X.ls,X.lt,X.ss,X.tn,rfl,pr.bn,bok,pok,λ l ts H3 s3 nl hl wf pm srt=>?_⟩;have pr3:=pr.same s3;have dgO:DGet H3 X.d (.str "offcuts") (some (.ref X.c)):=DGet.k (k:=Sum.inr "offcuts") pr3.ls.dic;have rr:Ai X.os=(X.os.map toR).map λ t=>V.ref t.1:=by rw[aY];rfl
  have pko:∀t∈X.os,A6 t.2.2.2:=λ t ht=>pok t.2.2 (pr.rel.off.mem_iff.mp (ay.mpr ⟨t,ht,rfl⟩));refine⟨_,rfl,X.d,_,rfl,dgO,X.c,X.os.map toR,0,3,FE,rfl,by rw[<-rr];exact SqL.of pr3.ls.off,by rw[ae];lia,λ g hg=>?_,λ g hg g' hg'=>?_,λ l2 ts2 nl2 pm2 srt2=>?_⟩
  .obtain⟨y,hy,rfl⟩:=ay.mp hg;exact⟨(pr3.ls.ofs y hy).1,(pr3.ls.ofs y hy).2,rfl,rfl⟩
  .obtain⟨y,hy,rfl⟩:=ay.mp hg;obtain⟨y',hy',rfl⟩:=ay.mp hg';exact Qo (Dn (pko y hy)) (Dn (pko y' hy'))
  .obtain⟨us2,pu,rfl⟩:=E5 (f:=toR) (l:=ts2) (m:=X.os.map toR) pm2 X.os rfl;have r2:((us2.map toR).map λ t=>V.ref t.1)=Ai us2:=by rw[aY];rfl
   rw[r2];obtain⟨H4,g,s4,e4⟩:=nw (.lst (Ai us2)) nl2;rw[g];rw[aY]at srt2;have eqL:ts.map (λ t:Of1=>t.2.2)=us2.map (λ t:Of1=>t.2.2):=by
    refine PP (λ y hy=>pok y (pm.mem_iff.mp hy)) (pm.trans (pr.rel.off.symm.trans (pu.map _).symm)) ?_ ?_
    .rw[aY];exact srt
    .rw[aY];exact srt2
   have D1:DIs K H4 (.lst (Fo (ts.map λ t:Of1=>t.2.2))) (.ref l):=by
    rw[DIs];exact⟨_,_,rfl,SqL.of (s4 _ _ hl),Gq ts λ t ht=>(wf t ht).tups λ x xs e=>s4 _ _ e⟩
   have D2:DIs K H4 (.lst (Fo (ts.map λ t:Of1=>t.2.2))) (.ref l2):=by
    rw[DIs,eqL];exact⟨_,_,rfl,SqL.of e4,Gq us2 λ t ht=>((pr3.ls.ofs t (pu.mem_iff.mp ht))).tups λ x xs e=>s4 _ _ e⟩
   refine⟨_,_,D1,D2,⟨_,rfl⟩,⟨_,rfl⟩,by have:=HM (ts.map λ t:Of1=>t.2.2);rw[dep];lia,_,rfl,B4 (by rw[if_pos rfl,Cf _ D2];rfl) ?_⟩;have s14:=s3.trans s4;have pr4:=pr3.same s4;have tab4:=tab.same s14;obtain⟨g,gr⟩:=K9 pr4 tr n60;have n1:=pr.n1;refine⟨_,rfl,X.a,X.dx,_,rfl,pr4.bn.ob,CS _ _ (by decide +kernel) (by decide +kernel),X.a,X.dx,X.ls,X.lt,X.ss,X.tn,g,rfl,pr4.bn,by lia,tab4,gr,λ l5 ts5 H5 sx tab5 nl5 hl5 tsl each=>?_⟩;have nt:∀{x:Addr}{o:HO},H4 x=some o->(∀ps,o≠.tbl ps)->x≠tb2:=λ e no z=>by
    obtain⟨ps,e2,_⟩:=tab4;rw[z,e2]at e;exact no ps (Option.some.inj e).symm
   have d5:=sx _ _ (nt pr4.ls.dic (by intro ps z;cases z)) pr4.ls.dic;have b5:=sx _ _ (nt pr4.ls.tak (by intro ps z;cases z)) pr4.ls.tak;refine⟨l5,_,rfl,.inl (SqL.of hl5),_,rfl,X.d,_,rfl,DGet.k (k:=Sum.inr "taken") d5,X.b,_,rfl,.inl (SqL.of b5),rfl,_,rfl,B4 ?_ (qq H5 (s14.x.trans sx) tab5)⟩;have:(Ai ts5).length=(X.tk.map V.int).length:=by unfold Ai;rw[ae,ae,tsl,pr.tk,ae]
   rw[this,decide_eq_true rfl];rfl
 obtain⟨tX,hX,kX⟩:∃rd,PSs (Bd CX0 P w K mg base DI "law" (Ad Bf) f cdv A outer s H E).nox ((Jz (nth (Ap Bf) 11)).drop 2) rd/\∀(X:Pd)(n:Nat)(v1 v2:V)(d1 d2:D)(tu:Bool)(w1 w2 w3 w4 w5 w6 w9:Option V)(D:CT)(H1:Hp),PrAt C H1 X n->X.ps.length=n->TrOk X->n<=60->X.os.length<=63->(∀X' n' H3,PrAt C H3 X' n'->X'.ps.length=n'->n'<=60->Stp v1 v2 n X n' X'->X'.os.length<=63)->TabOk BN BE tb2 H1->tb2∉X.own->DAt H1 d1 v1->DAt H1 d2 v2->dep d1<=10->dep d2<=10 ->
   (∀X' n' H3,PrAt C H3 X' n'->X'.ps.length=n'->TrOk X'->n'<=60->Stp v1 v2 n X n' X'->X'.a=X.a->X'.d=X.d->(∀b∈X'.own,b∈X.own\/H1 b=none)->Out (tb2::X.own) H1 H3->TabOk BN BE tb2 H3->D.nx [some (.ref a),w1,w2,w3,w4,w5,w6,some (.ref X.d),some (.ref X.a),w9,some v1,some v2,some (.bl tu)] H3) ->
   rd D [some (.ref a),w1,w2,w3,w4,w5,w6,some (.ref X.d),some (.ref X.a),w9,some v1,some v2,some (.bl tu)] H1:=by
  refine⟨_,(Ae (AB (DY (DX (A2 D__law_is hr (Aa (A2 D__law_asked hr (Aa (pv 8) (Aa (pv 10) (Aa (pv 11) (Aa (pv 12) Ab))))) (Aa (A2 D__law_due hr (Aa (pv 7) (Aa (pv 10) (Aa (pv 11) (Aa (pv 12) Ab))))) Ab))))) (Ag (As BD)) Ay)
  hY),?_⟩
  intro X n v1 v2 d1 d2 tu w1 w2 w3 w4 w5 w6 w9 D H1 pr en tr n60 o6 few tab nt a1 a2 p1 p2 qq;refine⟨_,rfl,_,rfl,_,rfl,_,rfl,?_⟩;dsimp only[Lo,aX,bX,aI];refine OI (K:=K) (Q:=λ v H4=>tY D [some (.ref a),w1,w2,w3,w4,w5,w6,some (.ref X.d),some (.ref X.a),w9,some v1,some v2,some (.bl tu)] H4) (Qd:=λ va vd H3=>EO K [va,vd] H3 (λ v H4=>tY D [some (.ref a),w1,w2,w3,w4,w5,w6,some (.ref X.d),some (.ref X.a),w9,some v1,some v2,some (.bl tu)] H4) E0) (E2:=E0) (E3:=E0) pr en tr n60 o6 a1 a2 p1 p2 (λ va H2 h=>?_) (λ va vd H3 h=>h) λ X' n' H' pr' en' tr' n6 stp ea ed own' out=>?_
  .refine⟨_,rfl,_,rfl,_,rfl,_,rfl,?_⟩;dsimp only[Lo,aX,bX,aI];exact NE h λ vd H3 h3=>ON h3 λ H4 h4=>⟨_,rfl,B4 rfl h4⟩
  have tab':TabOk BN BE tb2 H':=P8 tab out nt pr.own_at;have:=kY X' n' w1 w2 w3 w4 w5 w6 w9 (some v1) (some v2) (some (.bl tu)) D H' pr' tr' n6 (few X' n' H' pr' en' n6 stp) tab' (λ H4 sx tab4=>by
   rw[ed,ea];exact qq X' n' H4 (pr'.tab sx tab') en' tr' n6 stp ea ed own' (λ y o ny e=>sx _ _ (λ z=>ny (by rw[z];exact aR)) (out y o (λ z=>ny (aO _ z)) e)) tab4)
  rw[ed,ea]at this;exact this
 obtain⟨tW,hW,kW⟩:∃rd,PSs (Bd CX0 P w K mg base DI "law" (Ad Bf) f cdv A outer s H E).nox (Jz (nth (Ap Bf) 11)) rd/\∀(X:Pd)(n:Nat)(k:Nat)(so p:Addr)(L:LUz)(v1 v2:V)(d1 d2:D)(w1 w2 w3 w4 w6 w10 w11 w12:Option V)(D:CT)(H1:Hp),PrAt C H1 X n->X.ps.length=n->TrOk X->n<=60->X.os.length<=63->(∀X' n' H3,PrAt C H3 X' n'->X'.ps.length=n'->n'<=60->Stp v1 v2 n X n' X'->X'.os.length<=63)->TabOk BN BE tb2 H1->tb2∉X.own->SqL K H1 a (ns.map V.int)->k<=200->H1 so=some (.lst L)->L[k]?=some (.ref p)->H1 p=some (.lst [v1,v2])->DAt H1 d1 v1->DAt H1 d2 v2->dep d1<=10->dep d2<=10 ->
   (∀X' n' H3 (tu:Bool),PrAt C H3 X' n'->X'.ps.length=n'->TrOk X'->n'<=60->Stp v1 v2 n X n' X'->X'.a=X.a->X'.d=X.d->(∀b∈X'.own,b∈X.own\/H1 b=none)->Out (tb2::X.own) H1 H3->TabOk BN BE tb2 H3->D.nx [some (.ref a),w1,w2,w3,w4,some (.int k),w6,some (.ref X.d),some (.ref X.a),some (.ref so),some v1,some v2,some (.bl tu)] H3) ->
   rd D [some (.ref a),w1,w2,w3,w4,some (.int k),w6,some (.ref X.d),some (.ref X.a),some (.ref so),w10,w11,w12] H1:=by
  refine⟨_,(Ae (EX (Ak ix_list (pv 9) (pv 5) (λ_ _=>rfl)) (R1 rfl (Am (Al (i:=10) S.nd rfl (aF rfl)) (Am (Al (i:=11) S.nd rfl (aF rfl)) AM))))
  (Ae (Au (i:=12) S.nd rfl (aF rfl) (Jh Dp (A2 D__law_draw hr (Aa (A2 D__law_cell hr (Aa (pv 0) (Aa Ac Ab))) (Aa (pv 5) (Aa Ac Ab)))) Ac (Av _)))
  hX)),?_⟩
  intro X n k so p L v1 v2 d1 d2 w1 w2 w3 w4 w6 w10 w11 w12 D H1 pr en tr n60 o6 few tab nt hq k2 hso hk hp a1 a2 p1 p2 qq;refine⟨_,rfl,_,rfl,so,_,_,_,rfl,rfl,SqL.of hso,Bs hk,p,_,rfl,SqL.of hp,rfl,_,_,rfl,_,_,rfl,rfl,_,rfl,a,ns,4,rfl,hq,by decide,λ z=>⟨_,rfl,z,k,2,rfl,by lia,by lia,by decide,λ r _ _=>⟨rfl,?_⟩⟩⟩;exact kX X n v1 v2 d1 d2 _ w1 w2 w3 w4 _ w6 _ D H1 pr en tr n60 o6 few tab nt a1 a2 p1 p2 (λ X' n' H3 pr' en' tr' n6 stp ea ed ow ou tb=>qq X' n' H3 _ pr' en' tr' n6 stp ea ed ow ou tb)
 obtain⟨tV,hV,kV⟩:∃rd,PSs (Bd CX0 P w K mg base DI "law" (Ad Bf) f cdv A outer s H E).nox ((Ap Bf).drop 11) rd/\∀(md:Bool)(k0:Nat)(X0:Pd)(so:Addr)(L:LUz)(w1 w2 w3 w4 w5 w6:Option V)(B H1:Hp),k0<=4->(md=false->L.length<=24)->(md=true->∀i,k0<=i->i<k0+62->∀p,L[i]?=some (.ref p)->H1 p=some (.lst [.int 1,.int 1]))->1<=X0.zs.length->X0.os=[]->Same H B->Same B H1->PrAt C H1 X0 0->X0.ps.length=0->TrOk X0->(∀x∈X0.own,H x=none/\B x≠none)->NoI H1 X0.own->B so=none->H1 so=some (.lst L)->L.length<=200->(∀x∈L,Pr2 B H1 x) ->
   rd { nx:=λ_ H'=>Q .non H',rt:=Q } [some (.ref a),w1,w2,w3,w4,w5,w6,some (.ref X0.d),some (.ref X0.a),some (.ref so),none,none,none] H1:=by
  refine⟨_,(Ae (Cc PassesOwn.never rfl (C4 rfl T.z_range (Aa (Ar A1 rfl T.z_len rfl (Aa (pv 9) Ab)) Ab)) (Al (i:=5) S.nd rfl (aF rfl)) hW)
  hZ),?_⟩
  intro md k0 X0 so L w1 w2 w3 w4 w5 w6 B H1 k4 l24 one z1 o0 sB s1 pr0 en0 tr0 own0 ni nso hso l200 prs;have s01:=sB.trans s1;have t1:=s01 _ _ htb;have tab0:TabOk BN BE tb2 H1:=TabOk.same (TabOk.new htb) s01;have nt0:tb2∉X0.own:=λ z=>by rw[(own0 _ z).1]at htb;cases htb
  have mB:∀y∈tb2::X0.own,B y≠none:=λ y hy=>by
   rcases aA.mp hy with rfl|hy
   .rw[sB _ _ htb];intro z;cases z
   .exact(own0 y hy).2
  have nI:NoI H1 (tb2::X0.own):=λ y hy u e=>by
   rcases aA.mp hy with rfl|hy
   .rw[t1]at e;cases e
   .exact ni y hy u e
  have nso':so∉tb2::X0.own:=λ z=>mB so z nso;refine⟨_,rfl,so,_,rfl,.inl (SqL.of hso),(L.length:Int),rfl,by lia,by lia,DA (lo:=0) (n:=(L.length:Int).toNat) (λ i σ H'=>∃(X:Pd)(n:Nat)(w5 w10 w11 w12:Option V),σ=[some (.ref a),w1,w2,w3,w4,w5,w6,some (.ref X0.d),some (.ref X0.a),some (.ref so),w10,w11,w12]/\PrAt C H' X n/\X.ps.length=n/\TrOk X/\n<=60/\X.a=X0.a/\X.d=X0.d/\X.zs=X0.zs/\JM md k0 i n X.wd/\(∀b∈X.own,b∈X0.own\/H1 b=none)/\Out (tb2::X0.own) H1 H'/\TabOk BN BE tb2 H') ⟨X0,0,_,_,_,_,rfl,pr0,en0,tr0,by decide,rfl,rfl,rfl,by show JM md k0 0 0 (wR (X0.os.map λ t:Of1=>t.2.2));rw[o0];cases md;exact aj 0;exact⟨λ_=>by decide,by decide,λ_=>.inl (aZ _)⟩,λ b hb=>.inl hb,λ y o _ e=>e,tab0⟩ ?_ ?_⟩
  .rintro i σ H2 hi ⟨X,n,w5,w10,w11,w12,rfl,pr,en,tr,n60,ea,ed,ezs,jm,ow,ou,tab⟩;have hi:i<L.length:=by lia
   rw[cH];obtain⟨x,hx⟩:∃x,L[i]?=some x:=⟨_,ag hi⟩;obtain⟨p,v1,v2,d1,d2,rfl,np,hp,a1,a2,k1,k2⟩:=(prs x (ai hx)).out ou mB nI;have nt:tb2∉X.own:=λ z=>by
    rcases ow _ z with z|z
    .exact nt0 z
    .rw[t1]at z;cases z
   have sq:SqL K H2 a (ns.map V.int):=PL hS0 (λ y hy=>(own0 y hy).1) htb λ y o ny e=>ou y o ny (s01 _ _ e);have h11:md=true->k0<=i->i<k0+62->v1=.int 1/\v2=.int 1:=λ m1 m2 m3=>by
    have h1:=one m1 i m2 m3 p hx;have h2:=ou _ _ (λ z=>mB p z np) h1;rw[hp]at h2;cases h2;exact⟨rfl,rfl⟩
   have z1':1<=X.zs.length:=by rw[ezs];exact z1
   rw[<-ea,<-ed];refine kW X n i so p L v1 v2 d1 d2 w1 w2 w3 w4 w6 w10 w11 w12 _ H2 pr en tr n60 (jm.few pr en λ z=>by have:=l24 z;lia) (λ X' n' H3 pr' en' n6 stp=>(jm.step stp z1' k4 n60 n6 h11).few pr' en' λ z=>by have:=l24 z;lia) tab nt sq (by lia) (ou _ _ nso' hso) hx hp a1 a2 (MH k1) (MH k2) (λ X' n' H3 tu pr' en' tr' n6 stp ea' ed' ow' ou' tab'=>?_);refine⟨X',n',_,_,_,_,rfl,pr',en',tr',n6,ea',ed',stp.1.trans ezs,jm.step stp z1' k4 n60 n6 h11,λ b hb=>?_,λ y o ny e=>?_,tab'⟩
   .rcases ow' b hb with z|z
    .exact ow b z
    .by_cases q:b∈tb2::X0.own
     .rcases aA.mp q with rfl|q
      .obtain⟨ps,e⟩:=tab.tbl;rw[e]at z;cases z
      .exact .inl q
     .refine .inr ?_;cases e:H1 b with
      |none=>rfl
      |some o=>rw[ou _ _ q e]at z;cases z
   .refine ou' y o (λ z=>?_) (ou y o ny e);rcases aA.mp z with rfl|z
    .exact ny aR
    .rcases ow y z with z|z
     .exact ny (aO _ z)
     .rw[e]at z;cases z
  .rintro σ H2 ⟨X,n,w5,w10,w11,w12,rfl,pr,en,tr,n60,ea,ed,ezs,jm,ow,ou,tab⟩;rw[<-ea,<-ed];exact kZ X n _ _ _ _ _ _ _ _ _ _ H2 pr tr n60 tab
 obtain⟨tU,hU,kU⟩:∃rd,PSs (Bd CX0 P w K mg base DI "law" (Ad Bf) f cdv A outer s H E).nox ((Ap Bf).drop 9) rd/\∀(X0:Pd)(w1 w2 w3 w4 w5 w6:Option V)(H1:Hp),Same H H1->PrAt C H1 X0 0->X0.ps.length=0->1<=X0.zs.length->X0.os=[]->TrOk X0->(∀x∈X0.own,H x=none/\∃ys,H1 x=some (.lst ys)/\∀y∈ys,Bp y=false) ->
   rd { nx:=λ_ H'=>Q .non H',rt:=Q } [some (.ref a),w1,w2,w3,w4,w5,w6,some (.ref X0.d),some (.ref X0.a),none,none,none,none] H1:=by
  refine⟨_,(Ae (Gv rfl (Al (i:=9) S.nd rfl (aF rfl)) (BP (E6 IT (pv 0) (E4 Ac) (E4 Ac))) (λ_ _ _ _ _=>pgk (nk ["_law_cell_here"])) (λ_ _ _ _ _=>(Bc (Aa (A2 D__law_side hr (Aa (A2 D__law_draw hr (Aa (pv 0) (Aa Ac (Aa Ac Ab)))) Ab)) (Aa (A2 D__law_side hr (Aa (A2 D__law_draw hr (Aa (pv 0) (Aa Ac (Aa Ac Ab)))) Ab)) Ab)))) (N:=["_law_cell_here"]) (fr:=[none]))
  (Ae (AB (Aq Dp (Aw Cd (A2 D__law_cell hr (Aa (pv 0) (Aa Ac Ab))) Ac) Ac (Av _)) (Ag (Au (i:=9) S.nd rfl (aF rfl) (Aw OH (Aw OH (E6 IT (pv 9) Jc (E4 Ac)) (Aw R8 (Bc (Aa (Bc (Aa Ac (Aa Ac Ab))) Ab)) Ac)) (E6 IT (pv 9) (E4 Ac) Jc)))) Ay)
  hV)),?_⟩
  intro X0 w1 w2 w3 w4 w5 w6 H1 s1 pr0 en0 z1 o0 tr0 own0;refine⟨_,rfl,5,rfl,29,rfl,a,ns.map V.int,rfl,s1.seq hS0,λ p np=>?_⟩;obtain⟨cs,ecs,lcs⟩:=NS ns;rw[ecs];obtain⟨H2,g,s2,ep⟩:=nw (.lst (cs.map V.int)) np;rw[g];refine⟨p,rfl,⟨_,SqL.of ep⟩,λ acc hacc=>DB (K:=K) (a:=p) (ys:=cs.map V.int) (λ i zs σ H'=>(∃y,σ=[y])/\Same H2 H'/\∀x∈zs,Pr2 (upd H2 acc (.lst [])) H' x) ⟨⟨none,rfl⟩,Same.new hacc,(λ x hx=>nomatch hx)⟩ (λ i zs σ H' _ _ hp=>SqL.of (hp.2.1 _ _ ep)) ?_ ?_⟩
  .rintro i x zs σ H3 hx hi hz ha ⟨⟨y,rfl⟩,s3,prs⟩;obtain⟨c,hc,rfl⟩:=ED hx;refine⟨_,rfl,c,1,1000,rfl,by decide,by decide,by decide,λ r1 _ _=>⟨r1,rfl,λ d1 v1 H4 s4 a1 o1=>⟨_,rfl,c,2,1000,rfl,by decide,by decide,by decide,λ r2 _ _=>⟨r2,rfl,λ d2 v2 H5 s5 a2 o2=>⟨Ao 2,λ t nt=>?_⟩⟩⟩⟩⟩;have s35:=s4.trans s5;have nt2:H2 t=none:=DF (s3.trans s35) nt;have ha5:=s35 _ _ ha;have tacc:t≠acc:=λ z=>by rw[z,ha5]at nt;cases nt
   obtain⟨H6,g,s6,e6⟩:=nw (.lst [v1,v2]) nt;rw[g];have s36:=s35.trans s6;have ha6:=s36 _ _ ha;have nI:NoI H6 [acc]:=λ y hy u e=>by
    rw[aa.mp hy,ha6]at e;cases e;obtain⟨p,_,_,_,_,rfl,_⟩:=prs u aR;rfl
   have o:Out [acc] H6 (upd H6 acc (.lst (zs++[.ref t]))):=λ y o n e=>by rw[Af (λ z=>n (by rw[z];simp))];exact e
   have bA:∀y∈[acc],(upd H2 acc (.lst [])) y≠none:=λ y hy=>by rw[aa.mp hy,upd_same];intro z;cases z
   have hi':=hi;rw[ae]at hi';refine cNx.mk (ba (At (by rw[ae];lia))) hi hz ha6 ⟨⟨_,rfl⟩,λ b o e=>by rw[Af (Ah e hacc)];exact s36 b o (s3 b o e),λ x hx=>?_⟩;rcases aw.mp hx with hx|hx
   .exact((prs x hx).same s36).out o bA nI
   .rw[aa.mp hx];exact Pr2.out ⟨t,v1,v2,d1,d2,rfl,by rw[Af tacc];exact nt2,e6,CC (s5.trans s6) _ a1,CC s6 _ a2,o1,o2⟩ o bA nI
  .rintro zs σ H3 hz ha ⟨⟨y,rfl⟩,s3,prs⟩;rw[ae]at hz;have s13:=s2.trans s3;have s03:=s1.trans s13;have prs1:∀x∈zs,Pr2 H1 H3 x:=λ x hx=>by
    obtain⟨p,v1,v2,d1,d2,e,hb,r⟩:=prs x hx;exact⟨p,v1,v2,d1,d2,e,DF (s2.trans (Same.new hacc)) hb,r⟩
   have nacc:H1 acc=none:=DF s2 hacc;have own1:∀x∈X0.own,H x=none/\H1 x≠none:=λ x hx=>by
    obtain⟨h1,ys,h2,_⟩:=own0 x hx;exact⟨h1,by rw[h2];intro z;cases z⟩
   have nI:∀{H':Hp},Same H1 H'->NoI H' X0.own:=λ s' y hy u e=>by
    obtain⟨_,ys,h2,h3⟩:=own0 y hy;rw[s' _ _ h2]at e;cases e;exact h3 u aR
   refine⟨_,rfl,a,ns,4,rfl,s03.seq hS0,by decide,λ z=>⟨_,_,rfl,rfl,(show(0:Int)<4 from by decide),rfl,_,rfl,Bi (λ_=>?_) (λ_=>?_)⟩⟩
   .refine⟨_,rfl,4,rfl,acc,zs,rfl,SqL.of ha,λ q1 n1=>?_⟩;obtain⟨HA,g,sA,eA⟩:=nw (.lst (Bt zs none (some 4))) n1;rw[g];refine⟨Ao 2,λ q2 n2=>?_⟩;obtain⟨HB,g,sB,eB⟩:=nw (.lst [.int 1,.int 1]) n2;rw[g];refine⟨Ao 1,λ q3 n3=>?_⟩;obtain⟨HC,g,sC,eC⟩:=nw (.lst [.ref q2]) n3;rw[g];refine⟨q3,62,_,rfl,rfl,eC,by decide,by decide,ba (At (show 1*62<=1000 by decide)),λ q4 n4=>?_⟩;obtain⟨HD,g,sD,eD⟩:=nw (.lst (List.replicate (62:Int).toNat [V.ref q2]).flatten) n4;rw[g];obtain⟨rs,ers,lr2,mrs⟩:∃rs,(List.replicate (62:Int).toNat [V.ref q2]).flatten=rs/\rs.length=62/\∀x∈rs,x=.ref q2:=⟨_,rfl,by rw[ML];rfl,λ x hx=>by
     obtain⟨l,hl,hx⟩:=List.mem_flatten.mp hx;rw[(List.mem_replicate.mp hl).2]at hx;exact aa.mp hx⟩
    rw[ers]at eD;have c1:(Bt zs none (some 4)).length<=zs.length:=KQ;have sBD:=sB.trans (sC.trans sD);refine⟨q1,q4,_,_,rfl,rfl,sBD _ _ eA,eD,ba (At (by lia)),λ q5 n5=>?_⟩;obtain⟨HE,g,sE,eE⟩:=nw (.lst (Bt zs none (some 4)++rs)) n5;rw[g];have sBE:=sBD.trans sE;have sE3:=sA.trans sBE;refine⟨_,rfl,4,rfl,acc,zs,rfl,SqL.of (sE3 _ _ ha),λ q6 n6=>?_⟩;obtain⟨HF,g,sF,eF⟩:=nw (.lst (Bt zs (some 4) none)) n6;rw[g];have c2:(Bt zs (some 4) none).length<=zs.length:=KQ;refine⟨q5,q6,_,_,rfl,rfl,sF _ _ eE,eF,ba (At (by rw[ak];lia)),λ q7 n7=>?_⟩;have sF3:=sE3.trans sF;have sG:=sF3.trans (Same.new (o:=.lst (Bt zs none (some 4)++rs++Bt zs (some 4) none)) n7);have s1G:=s13.trans sG;refine kV true (Bt zs none (some 4)).length X0 q7 _ w1 w2 w3 w4 w5 w6 H1 _ Ua (λ z=>nomatch z) (λ_ i i1 i2 p hp=>?_) z1 o0 s1 s1G (pr0.same s1G) en0 tr0 own1 (nI s1G) (DF (s13.trans sF3) n7) upd_same (by rw[ak,ak];lia) λ x hx=>?_
    .rw[aK,bj i1,c8 (by rw[lr2];lia)]at hp;cases mrs _ (ai hp);exact((sC.trans (sD.trans (sE.trans sF))).trans (Same.new n7)) _ _ eB
    rcases aw.mp hx with hx|hx
    .rcases aw.mp hx with hx|hx
     .exact(prs1 x (KO hx)).same sG
     .rw[mrs x hx];exact Pr2.same ⟨q2,_,_,.at (.int 1),.at (.int 1),rfl,DF (s13.trans sA) n2,eB,Ch rfl,Ch rfl,rfl,rfl⟩ ((sC.trans (sD.trans (sE.trans sF))).trans (Same.new n7))
    .exact(prs1 x (KO hx)).same sG
   .exact kV false 0 X0 acc zs w1 w2 w3 w4 w5 w6 H1 H3 (by decide) (λ_=>by lia) (λ z=>nomatch z) z1 o0 s1 s13 (pr0.same s13) en0 tr0 own1 (nI s13) nacc ha (by lia) prs1
 obtain⟨tT,hT,kT⟩:∃rd,PSs (Bd CX0 P w K mg base DI "law" (Ad Bf) f cdv A outer s H E).nox ((Ap Bf).drop 7) rd/\∀(sh:Addr)(zs:LI)(w2 w3 w4 w5 w6:Option V)(H1:Hp),Same H H1->H sh=none->1<=zs.length->zs.length<=4->(∀z∈zs,SOk z)->TupL H1 sh zs ->
   rd { nx:=λ_ H'=>Q .non H',rt:=Q } [some (.ref a),some (.ref sh),w2,w3,w4,w5,w6,none,none,none,none,none,none] H1:=by
  refine⟨_,(Ae (Au (i:=7) S.nd rfl (aF rfl) (Qe (Dm A8 (pv 1) (Dm A8 (Bc Ab) (Dm A8 (Bc Ab) (Dm A8 (Bc Ab) M9)))) rfl rfl (by decide) (by decide)))
  (Ae (Au (i:=8) S.nd rfl (aF rfl) (R3 K_Bench hr Qf (Aa (HU EG rfl T.z_list rfl (Aa (pv 1) Ab)) Ab)))
  hU)),?_⟩
  intro sh zs w2 w3 w4 w5 w6 H1 s1 nsh l1 l4 so hsh;refine λ p np=>⟨_,rfl,Ao 0,λ b nb=>⟨Ao 0,λ c nc=>⟨Ao 0,λ e ne=>?_⟩⟩⟩;have key:=Q7 hsh np nb nc ne;refine⟨key.1,stK sh b c e,rfl,(show 4<=15 by decide),?_⟩;obtain⟨_,s2,l2,fb,fc,fe⟩:=key;rw[show Fa [] (stK sh b c e)=stK sh b c e from rfl];generalize upd (upd (upd (upd (upd H1 p (.dK [])) b (.lst [])) c (.lst [])) e (.lst [])) p (.dK (stK sh b c e))=H2 at s2 l2 |-;obtain⟨ts,t1,t2,t3⟩:=l2.sh;refine⟨_,rfl,sh,_,rfl,.inl (SqL.of t1),λ l nl=>λ a0 dx0 na0 ndx0 nex0=>?_⟩;obtain⟨HA,g,sA,eA⟩:=nw (.lst (Ai ts)) nl;rw[g] at na0 ndx0 |-;have sB:Same HA (upd (upd HA dx0 (.own a0)) a0 (.ins C dx0 [])):=λ b o e=>by rw[Af (Ah e na0),Af (Ah e ndx0)];exact e
  have eB:(upd (upd HA dx0 (.own a0)) a0 (.ins C dx0 [])) a0=some (.ins C dx0 []):=upd_same;generalize upd (upd HA dx0 (.own a0)) a0 (.ins C dx0 [])=HB at sB eB |-;have sAB:=sA.trans sB;have du:Ck (zs.map some)=none:=by
   unfold Ck;rw[ae,if_neg (by lia),KA];rfl
  refine⟨a0,dx0,l,Ai ts,zs.map some,rfl,eB,sB _ _ eA,Om (λ t ht=>sAB _ _ (t2 t ht)) t3 so,by rw[ae];lia,(λ n e=>by rw[du]at e;cases e),(λ n e=>by rw[du]at e;cases e),λ_ ss es ls lt us HC nls nlt nel xC bnC eu=>⟨rfl,?_⟩⟩;have ess:ss=zs:=((List.map_inj_right (λ_ _ h=>Option.some.inj h)).mp es).symm;subst ess;have sC:Same HA HC:=λ b o e=>xC _ _ (Ah e na0) (sB _ _ e);have s2C:=sA.trans sC;have s12:=s2;have s1C:=s12.trans s2C;have nn:∀{b:Addr}{o:HO}{G G':Hp},G' b=none->Same G G'->G b=some o->False:=λ h1 h2 h3=>by rw[h2 _ _ h3]at h1;cases h1
  have old:∀y∈[sh,b,c,e],∃o,H2 y=some o:=λ y hy=>by
   simp only[aA,bd,or_false]at hy;rcases hy with rfl|rfl|rfl|rfl
   .exact⟨_,t1⟩
   .exact⟨_,l2.tak⟩
   .exact⟨_,l2.off⟩
   .exact⟨_,l2.pan⟩
  have m1:ls∉[sh,b,c,e]:=λ z=>let ⟨o,q⟩:=old _ z;nn nls sAB q;have m2:lt∉[sh,b,c,e]:=λ z=>let ⟨o,q⟩:=old _ z;nn nlt sAB q;have lC:=l2.same s2C;have tp:=bnC.tak;have lsC:=bnC.lst;have s0C:=s1.trans s1C;have f0:∀{y:Addr},H1 y=none->H y=none:=λ h=>DF s1 h;refine kU ⟨a0,dx0,ls,lt,us,[],p,sh,b,c,e,ss,[],[],[]⟩ _ _ _ _ _ _ HC s0C ⟨bnC,lC,eu,l4,so,rfl,Rel.start ss,aj _,(λ t ht=>nomatch ht),aj _,aj _,?_⟩ rfl l1 rfl (λ t ht=>nomatch ht) λ y hy=>?_
  .show[ls,lt,sh,b,c,e].Nodup;simp only[bx,aA,bd,or_false,not_or,not_false_eq_true,d0,and_true]at m1 m2 |-;exact⟨⟨nel,m1⟩,m2,⟨l2.nab,l2.nac,l2.nae⟩,⟨l2.nbc,l2.nbe⟩,l2.nce⟩
  .have hy:y∈[ls,lt,sh,b,c,e]:=hy;simp only[aA,bd,or_false]at hy;have rf:∀{α:Type}{ts:List (Addr×α)}{z:V},z∈Ai ts->Bp z=false:=λ h=>by
    unfold Ai at h;obtain⟨t,_,rfl⟩:=ay.mp h;rfl
   rcases hy with rfl|rfl|rfl|rfl|rfl|rfl
   .exact⟨f0 (DF (s12.trans sAB) nls),_,lsC,λ z hz=>rf hz⟩
   .exact⟨f0 (DF (s12.trans sAB) nlt),_,tp,(λ z hz=>nomatch hz)⟩
   .exact⟨nsh,_,s2C _ _ t1,λ z hz=>rf hz⟩
   .exact⟨f0 fb,_,lC.tak,(λ z hz=>nomatch hz)⟩
   .exact⟨f0 fc,_,lC.off,(λ z hz=>nomatch hz)⟩
   .exact⟨f0 fe,_,lC.pan,(λ z hz=>nomatch hz)⟩
 obtain⟨tS,hS,kS⟩:∃rd,PSs (Bd CX0 P w K mg base DI "law" (Ad Bf) f cdv A outer s H E).nox ((Ap Bf).drop 4) rd/\∀(w1 w2 w3:Option V)(H1:Hp),Same H H1 ->
   rd { nx:=λ_ H'=>Q .non H',rt:=Q } [some (.ref a),w1,w2,w3,none,none,none,none,none,none,none,none,none] H1:=by
  refine⟨_,(Ae (Au (i:=4) S.nd rfl (aF rfl) (Ak ix_list (Bc (Aa Ac (Aa Ac Ab))) (Aw Cd (A2 D__law_cell hr (Aa (pv 0) (Aa Ac Ab))) Ac) (λ_ _=>rfl)))
  (Ae (Au (i:=1) S.nd rfl (aF rfl) (Bc Ab))
  (Ae (Cc PassesOwn.never rfl (C4 rfl T.z_range (Aa (Aw AI Ac (Aw Cd (Aw EB (A2 D__law_cell hr (Aa (pv 0) (Aa Ac Ab))) Ac) Ac)) Ab)) (Al (i:=5) S.nd rfl (aF rfl)) (Ae (Au (i:=6) S.nd rfl (aF rfl) (A2 D__law_cell hr (Aa (pv 0) (Aa Ac Ab))))
  (Ag (AU (BJ (pv 1) (Aa (An (Aa (Aw AI Ac (A2 D__law_draw hr (Aa (pv 6) (Aa (pv 5) (Aa (pv 4) Ab))))) (Aa (Aw AI Ac (A2 D__law_draw hr (Aa (pv 6) (Aa (Aw AI (pv 5) Ac) (Aa (pv 4) Ab))))) Ab))) Ab))))))
  hT))),?_⟩
  intro w1 w2 w3 H1 s1;refine⟨Ao 2,λ L nL=>?_⟩;obtain⟨HI,g,sI,eI⟩:=nw (.lst [.int 12,.int 4]) nL;rw[g];have s0I:=s1.trans sI;refine⟨_,rfl,a,ns,2,rfl,s0I.seq hS0,by decide,λ z=>⟨_,_,rfl,rfl,(show(0:Int)<2 from by decide),?_⟩⟩;obtain⟨v,hv,hm⟩:=Mn (L:=[.int 12,.int 4]) (i:=z % 2) (bP _ (by decide)) (bN _ (by decide));obtain⟨m,rfl,m1,m2⟩:∃m:Int,v=.int m/\1<=m/\m<=12:=by
   simp only[aA,bd,or_false]at hm;rcases hm with rfl|rfl
   .exact⟨12,rfl,by decide,by decide⟩
   .exact⟨4,rfl,by decide,by decide⟩
  refine⟨L,_,_,_,rfl,rfl,SqL.of eI,hv,Ao 0,λ sh nsh=>?_⟩;have nsh0:H sh=none:=DF s0I nsh;obtain⟨H0,g,s0,e0⟩:=nw (.lst []) nsh;rw[g];have s00:=s0I.trans s0;refine⟨_,rfl,a,ns,2,rfl,s00.seq hS0,by decide,λ z2=>?_⟩;have z0:=bP (z2 / 2) (b:=4) (by decide);have z4:=bN (z2 / 2) (b:=4) (by decide);refine⟨_,_,rfl,rfl,Q8 _ (by decide) (by decide),_,_,rfl,rfl,(show(0:Int)<4 from by decide),_,_,rfl,rfl,_,rfl,by lia,by lia,DA (lo:=0) (n:=(1+z2 / 2 % 4).toNat) (λ i σ H'=>(∃w5 w6,σ=[some (.ref a),some (.ref sh),w2,w3,some (.int m),w5,w6,none,none,none,none,none,none])/\Same H H'/\∃ts:LZ,H' sh=some (.lst (Ai ts))/\(∀t∈ts,H' t.1=some (.tup [.int t.2.1,.int t.2.2]))/\ts.length=i/\∀t∈ts,SOk t.2)
   ⟨⟨_,_,rfl⟩,s00,[],e0,(λ t ht=>nomatch ht),rfl,(λ t ht=>nomatch ht)⟩ ?_ ?_⟩
  .rintro i σ H1 hi ⟨⟨w2,w3,rfl⟩,s1,ts,t1,t2,t3,t4⟩;refine⟨_,rfl,a,ns,3,rfl,s1.seq hS0,by decide,λ c=>?_⟩;refine⟨_,rfl,.inl ⟨rfl,_,SqL.of t1⟩,_,rfl,_,rfl,_,rfl,c,(0+(i:Int)),m,rfl,by lia,by lia,by lia,λ r1 r10 r11=>⟨_,_,rfl,rfl,_,rfl,_,rfl,_,_,rfl,rfl,_,rfl,c,(0+(i:Int))+5,m,rfl,by lia,by lia,by lia,λ r2 r20 r21=>⟨_,_,rfl,rfl,Ao 2,λ b nb=>?_⟩⟩⟩;obtain⟨H2,g,s2,e2⟩:=nw (.tup [(λ i j=>V.int (i+j)) 1 r1,(λ i j=>V.int (i+j)) 1 r2]) nb;rw[g];have e2:H2 b=some (.tup [.int (1+r1),.int (1+r2)]):=e2;have t1':=s2 _ _ t1;refine⟨sh,_,_,rfl,rfl,t1',At (by rw[Ax];lia),?_⟩;have te:Ai ts++[V.ref b]=Ai (ts++[((b,1+r1,1+r2):Addr×Int×Int)]):=by rw[Ai,Ai,ah];rfl
   rw[te];have kp:∀x xs,H2 x=some (.tup xs)->(upd H2 sh (.lst (Ai (ts++[((b,1+r1,1+r2):Addr×Int×Int)])))) x=some (.tup xs):=λ x xs e=>by rw[Af (λ z=>by rw[z,t1']at e;cases e)];exact e
   refine⟨⟨_,_,rfl⟩,λ y o e=>by rw[Af (Ah e nsh0)];exact s2 _ _ (s1 _ _ e),_,upd_same,λ t ht=>?_,by rw[ak,t3];rfl,λ t ht=>?_⟩
   .rcases aw.mp ht with ht|ht
    .exact kp _ _ (s2 _ _ (t2 t ht))
    .rw[aa.mp ht];exact kp _ _ e2
   .rcases aw.mp ht with ht|ht
    .exact t4 t ht
    .rw[aa.mp ht];exact⟨by show 1<=1+r1;lia,by show 1+r1<=12;lia,by show 1<=1+r2;lia,by show 1+r2<=12;lia⟩
  .rintro σ H1 ⟨⟨w5,w6,rfl⟩,s1,ts,t1,t2,t3,t4⟩;refine kT sh (ts.map (·.2)) _ _ _ w5 w6 H1 s1 nsh0 (by rw[ae,t3];lia) (by rw[ae,t3];lia) (λ z hz=>?_) ⟨ts,t1,t2,rfl⟩;obtain⟨t,ht,rfl⟩:=ay.mp hz;exact t4 t ht
 obtain⟨tR,hR,kR⟩:∃rd,PSs (Bd CX0 P w K mg base DI "law" (Ad Bf) f cdv A outer s H E).nox ((Ap Bf).drop 3) rd/\∀(l:Addr)(xs:LUz)(gs:List (Option (Int×Int)))(dv:V)(w2:Option V)(H2:Hp),Same H H2->H2 l=some (.lst xs)->Ths STh H2 xs gs->gs.length<=100->(Ck gs=none->dv=.non)->(∀b n,Ck gs=some (b,n)->∃u,dv=.ref u/\H2 u=some (.tup [.str (if b then "many" else "sheet"),.int n,.bl false,.bl true])) ->
   rd { nx:=λ_ H'=>Q .non H',rt:=Q } [some (.ref a),some (.ref l),w2,some dv,none,none,none,none,none,none,none,none,none] H2:=by
  refine⟨_,(Ae (AB (Aq (RA hr) (A2 D__law_made hr (Aa (HU EG rfl T.z_list rfl (Aa (pv 1) Ab)) Ab)) (pv 3) (Av _)) (Ag (As BD)) Ay)
  hS),?_⟩
  intro l xs gs dv w2 H2 s2 hl th few q0 q1;refine⟨_,rfl,l,xs,rfl,.inl (SqL.of hl),λ l2 nl2=>?_⟩;obtain⟨HA,g,sA,eA⟩:=nw (.lst xs) nl2;rw[g];have s0A:=s2.trans sA;refine⟨l2,xs,gs,rfl,eA,th.mono (λ v g k=>k.same sA),few,λ du H' s'=>?_,λ b n du t H' s' ht=>?_⟩
  .obtain rfl:=q0 du;exact⟨_,rfl,.inl ⟨rfl,_,rfl,B4 (by rw[decide_eq_true rfl];rfl) (kS _ _ _ H' (s0A.trans s'))⟩⟩
  .obtain⟨u,rfl,hu⟩:=q1 b n du;have D1:=FQ (K:=K) (d:=.at (.int n)) ht (Ch rfl);have D2:=FQ (K:=K) (d:=.at (.int n)) (s' _ _ (sA _ _ hu)) (Ch rfl);exact⟨_,rfl,.inr ⟨_,_,D1,D2,⟨_,rfl⟩,⟨_,rfl⟩,aS (KB (by rw[dep];decide)) (by decide),_,rfl,B4 (by rw[if_pos rfl,Cf _ D2];rfl) (kS _ _ _ H' (s0A.trans s'))⟩⟩
 refine⟨_,(Ae (EX (A2 D__law_sheets hr (Aa (A2 D__law_cell hr (Aa (pv 0) (Aa Ac Ab))) (Aa (Aw Cd (A2 D__law_cell hr (Aa (pv 0) (Aa Ac Ab))) Ac) Ab))) (Cw rfl (Am (Al (i:=1) S.nd rfl (aF rfl)) (Am (Al (i:=2) S.nd rfl (aF rfl)) AM))))
  (Ae (Au (i:=3) S.nd rfl (aF rfl) AL)
  (Ae (AB (PW.pt (Gu (Aq (Qh hr) (pv 1) (Bc Ab) (Av _)) (DW (Aq HW (Ar A1 rfl T.z_len rfl (Aa (pv 1) Ab)) Ac (Av _))))) (Ag (Au (i:=3) S.nd rfl (aF rfl) (An (Aa A8 (Aa (Ar A1 rfl T.z_len rfl (Aa (pv 1) Ab)) (Aa BD (Aa BD Ab))))))) (Ag (AB (Aq EA (pv 2) AL (Av _)) (Ag (Au (i:=3) S.nd rfl (aF rfl) (An (Aa A8 (Aa (pv 2) (Aa BD (Aa BD Ab))))))) Ay)))
  hR))),?_⟩
 refine⟨_,rfl,a,ns,0,rfl,hS0,by decide,λ z0=>⟨_,rfl,a,ns,1,rfl,hS0,by decide,λ z1=>⟨_,_,rfl,rfl,(show(0:Int)<7 from by decide),z0,z1 % 7,rfl,bP _ (by decide),by lia,λ t l xs gs H1 s1 nl ht hl th gl=>⟨t,_,rfl,SqT.of ht,rfl,_,_,rfl,_,_,rfl,rfl,?_⟩⟩⟩⟩;refine⟨_,rfl,Ao 0,λ e ne=>?_⟩;obtain⟨HA,g,sA,eA⟩:=nw (.lst []) ne;rw[g];have hlA:=sA _ _ hl;have thA:=th.mono λ v g k=>k.same sA;have gl7:gs.length<=7:=by lia
 have xl:=th.len;have s0A:=s1.trans sA;have many:(xs.length<1\/4<xs.length)->∀u,HA u=none->tR { nx:=λ_ H'=>Q .non H',rt:=Q } [some (.ref a),some (.ref l),some (OF (BM gs)),some (.ref u),none,none,none,none,none,none,none,none,none] (upd HA u (.tup [.str "many",.int xs.length,.bl false,.bl true])):=λ h u nu=>by
  have du:Ck gs=some (true,(gs.length:Int)):=by unfold Ck;rw[if_pos (by rw[<-xl];exact h)]
  refine kR l xs gs _ _ _ (s0A.trans (Same.new nu)) ((Same.new nu) _ _ hlA) (thA.mono λ v g k=>k.same (Same.new nu)) (by lia) (λ z=>by rw[du]at z;cases z) λ b n z=>?_;rw[du]at z;cases z;rw[<-xl];exact⟨u,rfl,upd_same⟩
 refine⟨l,e,xs,rfl,rfl,SqL.of hlA,SqL.of eA,_,rfl,Bi (λ c=>NI ?_) (λ c=>?_)⟩
 .have c:xs.length<1:=by
   cases xs with
   |nil=>exact Nat.zero_lt_one
   |cons x xs=>cases c
  exact⟨_,rfl,l,xs,rfl,.inl (SqL.of hlA),Ao 4,λ u nu=>many (.inl c) u nu⟩
 .have c:1<=xs.length:=by
   cases xs with
   |nil=>cases c
   |cons x xs=>exact Nat.le_add_left _ _
  refine⟨_,rfl,l,xs,rfl,.inl (SqL.of hlA),_,_,rfl,rfl,_,rfl,Bi (λ c2=>?_) (λ c2=>?_)⟩
  .have c2:(4:Int)<(xs.length:Int):=of_decide_eq_true c2;exact⟨_,rfl,l,xs,rfl,.inl (SqL.of hlA),Ao 4,λ u nu=>many (.inr (by lia)) u nu⟩
  .have c2:¬(4:Int)<(xs.length:Int):=of_decide_eq_false c2;have du:Ck gs=(BM gs).map λ k:Nat=>(false,(k:Int)):=by unfold Ck;rw[if_neg (by lia)]
   cases f0:BM gs with
   |none =>
    rw[f0]at du;exact⟨_,rfl,rfl,_,rfl,B4 rfl (kR l xs gs .non _ HA s0A hlA thA (by lia) (λ_=>rfl) λ b n z=>by rw[du]at z;cases z)⟩
   |some k =>
    rw[f0]at du;refine⟨_,rfl,rfl,_,rfl,C9 rfl ⟨_,rfl,Ao 4,λ u nu=>kR l xs gs _ _ _ (s0A.trans (Same.new nu)) ((Same.new nu) _ _ hlA) (thA.mono λ v g k=>k.same (Same.new nu)) (by lia) (λ z=>by rw[du]at z;cases z) λ b n z=>?_⟩⟩;rw[du]at z;cases z;exact⟨u,rfl,upd_same⟩
def clL:List Cl:=[.S,.M,.D,.G]
def RC(K:Frag)(cS cM cD cG cE:Addr):Bool:=clL.all λ x=>(clL.all λ y=>kitOne K (.ref (clA cS cM cD cG x)) (.ref (clA cS cM cD cG y))==some (decide (x=y))&&mroIn K (clA cS cM cD cG x) (.ref (clA cS cM cD cG y))==some (decide (x=y)))&&kitOne K (.ref (clA cS cM cD cG x)) (.ref cE)==some true
theorem Nc(x:Cl):x∈clL:=by cases x<;>decide
theorem Jt{K:Frag}{cS cM cD cG cE:Addr}(h:RC K cS cM cD cG cE=true)(x:Cl):(∀y,kitOne K (.ref (clA cS cM cD cG x)) (.ref (clA cS cM cD cG y))=some (decide (x=y))/\mroIn K (clA cS cM cD cG x) (.ref (clA cS cM cD cG y))=some (decide (x=y)))/\kitOne K (.ref (clA cS cM cD cG x)) (.ref cE)=some true:=by
 unfold RC at h;have h1:=cK.mp (b9.mp h x (Nc x));exact⟨λ y=>let h2:=cK.mp (b9.mp h1.1 y (Nc y));⟨beq_iff_eq.mp h2.1,beq_iff_eq.mp h2.2⟩,beq_iff_eq.mp h1.2⟩
def icB(K:Frag)(C:Addr):Bool:=plainGet K C Str.empty&&(hasDictIn K C&&(plainOver K C&&((findIn K (.ref C) "__setattr__"==some (some (.builtin "object.__setattr__")))&&((findIn K (.ref C) "__class__"==some (some (.builtin "object.__class__"))) &&
 ((specialIn K (.builtin "object.__class__") "__get__"==some (some (.builtin "getset_descriptor.__get__")))&&((takesIn K (.builtin "object.__class__")==some true)&&((mroIn K C (.type "object")==some true)&&(makesIn K C&&keepIn K (.ref C)))))))))
theorem LX{C:Addr}(h:icB K C=true):Ob K C/\makesIn K C=true/\keepIn K (.ref C)=true:=by
 unfold icB at h;simp only[aP,beq_iff_eq]at h;obtain⟨a,b,c,d,e,f,g,i,j,l⟩:=h;exact⟨⟨⟨a,b,c,d⟩,e,f,g,i⟩,j,l⟩
def RD(K:Frag)(cT cW cU cL:Addr):Bool:=([(cW,"mark"),(cU,"at"),(cU,"first"),(cU,"other"),(cL,"at"),(cL,"first"),(cL,"other")]:List (Addr×Str)).all (λ p=>findIn K (.ref p.1) p.2==some none) &&
 ([(cW,cW,true),(cW,cU,false),(cW,cL,false),(cU,cW,false),(cL,cW,false),(cU,cU,true),(cU,cL,false),(cL,cU,false),(cL,cL,true),(cW,cT,true),(cU,cT,true),(cL,cT,true)]:List (Addr×Addr×Bool)).all (λ p=>kitOne K (.ref p.1) (.ref p.2.1)==some p.2.2)
theorem S1(h:RD K cT cW cU cL=true)(iW:Ob K cW)(iU:Ob K cU)(iL:Ob K cL)(gT:mg "Tree"=some (.ref cT))(gW:mg "Whole"=some (.ref cW))(gU:mg "Upright"=some (.ref cU))(gL:mg "Level"=some (.ref cL)):RT mg K cT cW cU cL:=by
 unfold RD at h;rw[aP,b9,b9]at h;obtain⟨h1,h2⟩:=h;have f1:∀p∈([(cW,"mark"),(cU,"at"),(cU,"first"),(cU,"other"),(cL,"at"),(cL,"first"),(cL,"other")]:List (Addr×Str)),findIn K (.ref p.1) p.2=some none:=λ p hp=>beq_iff_eq.mp (h1 p hp);have f2:∀p∈([(cW,cW,true),(cW,cU,false),(cW,cL,false),(cU,cW,false),(cL,cW,false),(cU,cU,true),(cU,cL,false),(cL,cU,false),(cL,cL,true),(cW,cT,true),(cU,cT,true),(cL,cT,true)]:List (Addr×Addr×Bool)),kitOne K (.ref p.1) (.ref p.2.1)=some p.2.2:=λ p hp=>beq_iff_eq.mp (h2 p hp);simp only[List.forall_mem_cons,bd,false_implies,implies_true,and_true]at f1 f2;obtain⟨a1,a2,a3,a4,a5,a6,a7⟩:=f1;obtain⟨k1,k2,k3,k4,k5,k6,k7,k8,k9,k10,k11,k12⟩:=f2;refine⟨gT,gW,gU,gL,iW,?_,a1,?_,?_,?_,k1,?_,?_,?_,k10,?_⟩
 .intro u;cases u;exact iL;exact iU
 .intro u;cases u;exact a5;exact a2
 .intro u;cases u;exact a6;exact a3
 .intro u;cases u;exact a7;exact a4
 .intro u;cases u;exact k3;exact k2
 .intro u;cases u;exact k5;exact k4
 .intro u v;cases u<;>cases v;exact k9;exact k8;exact k7;exact k6
 .intro u;cases u;exact k12;exact k11
end
theorem K1{α β:Type}{us:List α}{p:β}{ps:List β}(h:us.length=(p::ps).length):∃u vs,us=u::vs/\vs.length=ps.length:=by
 cases us with
 |nil=>cases h
 |cons u vs=>exact⟨u,vs,rfl,Nat.succ.inj h⟩
theorem K0{α β:Type}{us:List α}(h:us.length=([]:List β).length):us=[]:=eM.mp h
abbrev FB(K:Frag)(x qual:Str)(st:Stmt)(f:Addr):Prop:=∃fd,Fun K x qual st f fd
abbrev FI(K:Frag)(x:Str)(st:Stmt)(f:Addr):Prop:=nsIn K mainGlobals x=some (some (.ref f))/\FB K x x st f
abbrev MI(K:Frag)(C:Addr)(x qual:Str)(st:Stmt)(f:Addr):Prop:=findIn K (.ref C) x=some (some (.ref f))/\isFn K (.ref f)=true/\FB K x qual st f
structure HC(P:Program)(w:World)(K:Frag)(mg:MGz)(base:Heap):Prop where
 ex:∃h:Heap,K.In h/\h.Ns mainGlobals mg
abbrev BOk(x qual:Str)(st:Stmt)(ps:LSz):Prop:=∀(kV doc pm:Value)(an:Option Addr)(cdv ct:Value)(us:LWz),us.length=ps.length->bindArgs (fnOf x qual (AV st) (Ap st) (Ad st) .none kV doc pm an cdv ct) ⟨us,[]⟩=pure (ps.zip us)
section
variable{P:Program}{w:World}{K:Frag}{mg:MGz}{base:Heap}{x qual:Str}{st:Stmt}{f C:Addr}{n:Nat}{ps:LSz}{sp:Sp}{v:Value}
theorem HC.g(c:HC P w K mg base)(a:nsIn K mainGlobals x=some (some v)):mg x=some v:=let ⟨_,X,G⟩:=c.ex;mg_of X G a
theorem HC.d(c:HC P w K mg base)(i:FI K x st f)(ok:∀fd,Fun K x x st f fd->A3 P w K mg base CX0 n f fd ps sp)(hb:BOk x x st ps:=by intro _ _ _ _ _ _ us hl;(repeat (obtain⟨_,_,e,h⟩:=K1 hl;clear hl;subst e;have hl:=h;clear h));cases K0 hl;rfl):AC P w K mg base n x ps sp:=let ⟨a,_,F⟩:=i;⟨_,_,ok _ F,c.g a,F.kp,F.binds hb⟩
theorem HC.dx(c:HC P w K mg base)(i:FI K x st f)(ok:∀fd,Fun K x x st f fd->A3 P w K mg base (CX1 P w) n f fd ps sp)(hb:BOk x x st ps:=by intro _ _ _ _ _ _ us hl;(repeat (obtain⟨_,_,e,h⟩:=K1 hl;clear hl;subst e;have hl:=h;clear h));cases K0 hl;rfl):JH P w K mg base n x ps sp:=let ⟨a,_,F⟩:=i;⟨_,_,ok _ F,c.g a,F.kp,F.binds hb⟩
theorem HC.m(_:HC P w K mg base)(l:Cls K C)(i:MI K C x qual st f)(ok:∀fd,Fun K x qual st f fd->A3 P w K mg base CX0 n f fd ps sp)(hb:BOk x qual st ps:=by intro _ _ _ _ _ _ us hl;(repeat (obtain⟨_,_,e,h⟩:=K1 hl;clear hl;subst e;have hl:=h;clear h));cases K0 hl;rfl):KW P w K mg base n C x ps sp:=let ⟨a,b,_,F⟩:=i;⟨l,_,_,⟨a,b,F.kp⟩,ok _ F,F.binds hb⟩
theorem HC.mx(_:HC P w K mg base)(l:Cls K C)(i:MI K C x qual st f)(ok:∀fd,Fun K x qual st f fd->A3 P w K mg base (CX1 P w) n f fd ps sp)(hb:BOk x qual st ps:=by intro _ _ _ _ _ _ us hl;(repeat (obtain⟨_,_,e,h⟩:=K1 hl;clear hl;subst e;have hl:=h;clear h));cases K0 hl;rfl):Iz P w K mg base n C x ps sp:=let ⟨a,b,_,F⟩:=i;⟨l,_,_,⟨a,b,F.kp⟩,ok _ F,F.binds hb⟩
theorem HC.k{cn:Str}(c:HC P w K mg base)(m:makesIn K C=true)(k:keepIn K (.ref C)=true)(ac:nsIn K mainGlobals cn=some (some (.ref C)))(i:MI K C "__init__" qual st f)(ok:∀fd,Fun K "__init__" qual st f fd->A3 P w K mg base CX0 n f fd ps sp)(hb:BOk "__init__" qual st ps:=by intro _ _ _ _ _ _ us hl;(repeat (obtain⟨_,_,e,h⟩:=K1 hl;clear hl;subst e;have hl:=h;clear h));cases K0 hl;rfl):Oa P w K mg base n cn C ps sp:=let ⟨a,b,_,F⟩:=i;⟨_,_,⟨m,a,b,k⟩,ok _ F,c.g ac,F.binds hb⟩
theorem HC.kx{cn:Str}(c:HC P w K mg base)(m:makesIn K C=true)(k:keepIn K (.ref C)=true)(ac:nsIn K mainGlobals cn=some (some (.ref C)))(i:MI K C "__init__" qual st f)(ok:∀fd,Fun K "__init__" qual st f fd->A3 P w K mg base (CX1 P w) n f fd ps sp)(hb:BOk "__init__" qual st ps:=by intro _ _ _ _ _ _ us hl;(repeat (obtain⟨_,_,e,h⟩:=K1 hl;clear hl;subst e;have hl:=h;clear h));cases K0 hl;rfl):KU P w K mg base n cn C ps sp:=let ⟨a,b,_,F⟩:=i;⟨_,_,⟨m,a,b,k⟩,ok _ F,c.g ac,F.binds hb⟩
theorem HC.xm{cn:Str}{ns:LSz}(c:HC P w K mg base)(l:FW K C=true)(e:Ce K C f=true)(k:keepIn K (.ref C)=true)(ac:nsIn K mainGlobals cn=some (some (.ref C)))(i:MI K C "__init__" qual st f)(ok:∀fd,Fun K "__init__" qual st f fd->XCls K C->A3 P w K mg base CX0 n f fd ps (Nv C ns))(fw:ns.length<=1000:=by decide)(hb:BOk "__init__" qual st ps:=by intro _ _ _ _ _ _ us hl;(repeat (obtain⟨_,_,e,h⟩:=K1 hl;clear hl;subst e;have hl:=h;clear h));cases K0 hl;rfl):Hd P w K mg base n cn C ps ns:=let ⟨a,b,_,F⟩:=i;⟨fw,_,_,⟨XCls.of l,e,k,b⟩,ok _ F (XCls.of l),c.g ac,F.binds hb⟩
end
theorem all_mk{l:OpenLaw}{w:World}{K:Frag}{h:Heap}{mg:MGz}{fa:Addr}(X:K.In h)(G:h.Ns mainGlobals mg)(hfa:mg "law"=some (.ref fa))
  {C:Addr} (aC:nsIn K mainGlobals "Bench"=some (some (.ref C)))
  (pg_C:plainGet K C Str.empty=true)
  (hd_C:hasDictIn K C=true)
  (po_C:plainOver K C=true)
  (sa_C:findIn K (.ref C) "__setattr__"=some (some (.builtin "object.__setattr__")))
  (mk_C:makesIn K C=true)
  (kc_C:keepIn K (.ref C)=true)
  (n_C_stock:findIn K (.ref C) "stock"=some none)
  (n_C_taken:findIn K (.ref C) "taken"=some none)
  {cT:Addr} (aT:nsIn K mainGlobals "Tree"=some (some (.ref cT)))
  {cW:Addr} (aC_cW:nsIn K mainGlobals "Whole"=some (some (.ref cW))) (ic_cW:icB K cW=true)
  {f_cW:Addr} {od_cW an_cW:Option Addr} {sl_cW:AOz} {oc_cW kV_cW dc_cW pm_cW cd_cW ct_cW:Value} {T_cW:Addr} {to_cW:Value} {td_cW:Option Addr} {ts_cW:AOz} {ti_cW:Array Value} {tn_cW:Nat} (a_cWcW:findIn K (.ref cW) "__init__"=some (some (.ref f_cW))) (i_cW:isFn K (.ref f_cW)=true) (l_cW:K.lookup f_cW=some ⟨oc_cW,od_cW,.func (fnOf "__init__" "Whole.__init__" (AV Bk) (Ap Bk) (Ad Bk) (.ref T_cW) kV_cW dc_cW pm_cW an_cW cd_cW ct_cW),sl_cW⟩) (cc_cW:codeIn K cd_cW "Whole.__init__"=true) (k_cW:keepIn K (.ref f_cW)=true) (lT_cW:K.lookup T_cW=some ⟨to_cW,td_cW,.seq ti_cW tn_cW,ts_cW⟩) (eT_cW:ti_cW=#[.none])
  {cU:Addr} (aC_cU:nsIn K mainGlobals "Upright"=some (some (.ref cU))) (ic_cU:icB K cU=true)
  {f_cU:Addr} (h_cUcU:MI K cU "__init__" "Upright.__init__" BX f_cU)
  {cL:Addr} (aC_cL:nsIn K mainGlobals "Level"=some (some (.ref cL))) (ic_cL:icB K cL=true)
  {f_cL:Addr} (h_cLcL:MI K cL "__init__" "Level.__init__" CH f_cL)
  (kit:RD K cT cW cU cL=true)
  {cG:Addr} (aG:nsIn K mainGlobals "GlassError"=some (some (.ref cG))) (eG:PySem.W.excIn K cG vErr "ValueError.__new__"=true)
  {cS:Addr} (aC_cS:nsIn K mainGlobals "NoSide"=some (some (.ref cS))) (kC_cS:keepIn K (.ref cS)=true) (nC_cS:findIn K (.ref cS) "side"=some none)
  {f_cS:Addr} (h_cScS:MI K cS "__init__" "NoSide.__init__" Cv f_cS)
  (ei_cS:Ce K cS f_cS=true) (xc_cS:FW K cS=true) (xm_cS:mroIn K cS (.ref cG)=some true)
  {cM:Addr} (aC_cM:nsIn K mainGlobals "TooMany"=some (some (.ref cM))) (kC_cM:keepIn K (.ref cM)=true) (nC_cM:findIn K (.ref cM) "many"=some none)
  {f_cM:Addr} (h_cMcM:MI K cM "__init__" "TooMany.__init__" BY f_cM)
  (ei_cM:Ce K cM f_cM=true) (xc_cM:FW K cM=true) (xm_cM:mroIn K cM (.ref cG)=some true)
  {cD:Addr} (aC_cD:nsIn K mainGlobals "NoSheet"=some (some (.ref cD))) (kC_cD:keepIn K (.ref cD)=true) (nC_cD:findIn K (.ref cD) "place"=some none)
  {f_cD:Addr} (h_cDcD:MI K cD "__init__" "NoSheet.__init__" BZ f_cD)
  (ei_cD:Ce K cD f_cD=true) (xc_cD:FW K cD=true) (xm_cD:mroIn K cD (.ref cG)=some true)
  {cGl:Addr} (aC_cGl:nsIn K mainGlobals "NoGlass"=some (some (.ref cGl))) (kC_cGl:keepIn K (.ref cGl)=true) (nC_cGl:findIn K (.ref cGl) "width"=some none) (nC2_cGl:findIn K (.ref cGl) "height"=some none)
  {f_cGl:Addr} (h_cGlcGl:MI K cGl "__init__" "NoGlass.__init__" Ca f_cGl)
  (ei_cGl:Ce K cGl f_cGl=true) (xc_cGl:FW K cGl=true) (xm_cGl:mroIn K cGl (.ref cG)=some true)
  (ktC:RC K cS cM cD cGl cG=true)
  {f0:Addr} (h0:FI K "is_whole" DQ f0)
  {f1:Addr} (h1:FI K "is_side" ET f1)
  {f2:Addr} (h2:FI K "size_of" ES f2)
  {f3:Addr} (h3:FI K "area_of" EU f3)
  {f4:Addr} (h4:FI K "check_sides" Ct f4)
  {f5:Addr} (h5:FI K "cut_from" DT f5)
  {f6:Addr} (h6:FI K "tree_from" Df f6)
  {f7:Addr} (h7:FI K "first_piece" Cs f7)
  {f8:Addr} (h8:FI K "other_piece" Cr f8)
  {f9:Addr} (h9:FI K "entries_by" CF f9)
  {f10:Addr} (h10:FI K "ways_to_lie" Cq f10)
  {f11:Addr} (h11:FI K "ways_held" De f11)
  {f12:Addr} (h12:FI K "is_sheet" DR f12)
  {f13:Addr} (h13:FI K "check_sheets" BV f13)
  {f14:Addr} (h14:FI K "holds" IV f14)
  {f15:Addr} (h15:FI K "cut_pane" DS f15)
  {f16:Addr} {od16 an16:Option Addr} {sl16:AOz} {oc16 kV16 dc16 pm16 cd16 ct16:Value} (a16:nsIn K mainGlobals "tree_in"=some (some (.ref f16))) (l16:K.lookup f16=some ⟨oc16,od16,.func (fnOf "tree_in" "tree_in" (AV AO) (Ap AO) (Ad AO) .none kV16 dc16 pm16 an16 cd16 ct16),sl16⟩) (cc16:codeIn K cd16 "tree_in"=true) (k16:keepIn K (.ref f16)=true) {c16 tb2:Addr} (ec16:cd16=.ref c16) (hC16:JC K c16 tb2=true)
  {f17:Addr} (h17C:MI K C "__init__" "Bench.__init__" CI f17)
  {f18:Addr} (h18C:MI K C "whole_pieces" "Bench.whole_pieces" Bg f18)
  {f19:Addr} (h19C:MI K C "panes_cut" "Bench.panes_cut" B0 f19)
  {f20:Addr} (h20C:MI K C "offcuts" "Bench.offcuts" BH f20)
  {f21:Addr} (h21C:MI K C "sheets" "Bench.sheets" Cb f21)
  {f22:Addr} (h22C:MI K C "piece_for" "Bench.piece_for" Bz f22)
  {f23:Addr} {od23 an23:Option Addr} {sl23:AOz} {oc23 kV23 dc23 pm23 cd23 ct23:Value} {T23:Addr} {to23:Value} {td23:Option Addr} {ts23:AOz} {ti23:Array Value} {tn23:Nat} (a23C:findIn K (.ref C) "cut"=some (some (.ref f23))) (i23:isFn K (.ref f23)=true) (l23:K.lookup f23=some ⟨oc23,od23,.func (fnOf "cut" "Bench.cut" (AV Bu) (Ap Bu) (Ad Bu) (.ref T23) kV23 dc23 pm23 an23 cd23 ct23),sl23⟩) (cc23:codeIn K cd23 "Bench.cut"=true) (k23:keepIn K (.ref f23)=true) (lT23:K.lookup T23=some ⟨to23,td23,.seq ti23 tn23,ts23⟩) (eT23:ti23=#[.bool false])
  {f24:Addr} (h24:FI K "_law_cell" Di f24)
  {f25:Addr} (h25:FI K "_law_draw" Dh f25)
  {f26:Addr} (h26:FI K "_law_held" BA f26)
  {f27:Addr} (h27:FI K "_law_area" Dj f27)
  {f28:Addr} (h28:FI K "_law_choice" Cu f28)
  {f29:Addr} (h29:FI K "_law_cut" AX f29)
  {f30:Addr} (h30:FI K "_law_sheets" A7 f30)
  {f31:Addr} (h31:FI K "_law_made" Dg f31)
  {f32:Addr} (h32:FI K "_law_side" B9 f32)
  {f33:Addr} (h33:FI K "_law_is_side" BW f33)
  {f34:Addr} (h34:FI K "_law_asked" CG f34)
  {f35:Addr} (h35:FI K "_law_due" DU f35)
  {f36:Addr} (h36:FI K "_law_is" EV f36)
  {f37:Addr} (h37:FI K "law" Bf f37)
  {bm:Addr} {bsl:AOz} (abm:nsIn K mainGlobals "__builtins__"=some (some (.ref bm))) (lbm:K.lookup bm=some ⟨.type "module",some builtinsNs,.plain,bsl⟩) (nbm1:bm≠builtinsNs) (nbm2:bm≠mainGlobals)
  (z0:nsIn K mainGlobals "abs"=some none)
  (z1:nsIn K mainGlobals "isinstance"=some none)
  (z2:nsIn K mainGlobals "int"=some none)
  (z3:nsIn K mainGlobals "bool"=some none)
  (z4:nsIn K mainGlobals "tuple"=some none)
  (z5:nsIn K mainGlobals "len"=some none)
  (z6:nsIn K mainGlobals "range"=some none)
  (z7:nsIn K mainGlobals "sorted"=some none)
  (z8:nsIn K mainGlobals "sum"=some none)
  (z9:nsIn K mainGlobals "min"=some none)
  (z10:nsIn K mainGlobals "enumerate"=some none)
  (z11:nsIn K mainGlobals "list"=some none)
  (z12:nsIn K mainGlobals "all"=some none)
  (z13:nsIn K mainGlobals "reversed"=some none)
  {tk0:Tok} (g0:nsIn K mainGlobals "LONGEST_SIDE"=some (some (.int 12 tk0)))
  {tk1:Tok} (g1:nsIn K mainGlobals "WHOLE"=some (some (.str "whole" tk1)))
  {tk2:Tok} (g2:nsIn K mainGlobals "UPRIGHT"=some (some (.str "upright" tk2)))
  {tk3:Tok} (g3:nsIn K mainGlobals "LEVEL"=some (some (.str "level" tk3)))
  {tk4:Tok} (g4:nsIn K mainGlobals "MOST_SHEETS"=some (some (.int 4 tk4)))
  {tk5:Tok} (g5:nsIn K mainGlobals "MOST_CUT"=some (some (.int 60 tk5)))
  : ∃fd:FuncData,(∀(s:Shared)(v:Value),BindsTo s fd ⟨[v],[]⟩ [("_law_script",v)])/\∀base:Heap,K.In base->base.Ns mainGlobals mg->A3 l.prog w K mg base CX0 8 fa fd ["_law_script"] (sp_law tb2 K):=by
 have e:=hfa.symm.trans (mg_of X G h37.1);cases e;have T:Txt mg (tk0,tk1,tk2,tk3,tk4,tk5):=⟨mg_none_of X G z0,mg_none_of X G z1,mg_none_of X G z2,mg_none_of X G z3,mg_none_of X G z4,mg_none_of X G z5,mg_none_of X G z6,mg_none_of X G z7,mg_none_of X G z8,mg_none_of X G z9,mg_none_of X G z10,mg_none_of X G z11,mg_none_of X G z12,mg_none_of X G z13,mg_of X G g0,mg_of X G g1,mg_of X G g2,mg_of X G g3,mg_of X G g4,mg_of X G g5⟩;have BC:JI K C:=⟨⟨pg_C,hd_C,po_C,sa_C⟩,n_C_stock,n_C_taken⟩;obtain⟨I_cW,mk_cW,kc_cW⟩:=LX ic_cW;obtain⟨I_cU,mk_cU,kc_cU⟩:=LX ic_cU;obtain⟨I_cL,mk_cL,kc_cL⟩:=LX ic_cL;have R0:RT mg K cT cW cU cL:=S1 kit I_cW I_cU I_cL (mg_of X G aT) (mg_of X G aC_cW) (mg_of X G aC_cU) (mg_of X G aC_cL);have hB0:Sf K mg:=⟨bm,bsl,mg_of X G abm,nbm1,nbm2,lbm⟩;have RG0:RG mg K cS cM cD cGl cG:=⟨mg_of X G aC_cS,mg_of X G aC_cM,mg_of X G aC_cD,mg_of X G aC_cGl,mg_of X G aG,.inl ⟨f_cS,ei_cS⟩,.inl ⟨f_cM,ei_cM⟩,.inl ⟨f_cD,ei_cD⟩,.inl ⟨f_cGl,ei_cGl⟩,λ x y=>((Jt ktC x).1 y).2,λ x=>by cases x;exact XCls.of xc_cS;exact XCls.of xc_cM;exact XCls.of xc_cD;exact XCls.of xc_cGl,λ x y=>((Jt ktC x).1 y).1,λ x=>(Jt ktC x).2,nC_cS,nC_cM,nC_cD,nC_cGl,nC2_cGl⟩;have F_cW:FunD K "__init__" "Whole.__init__" Bk f_cW _:=⟨⟨_,_,_,_,_,_,_,_,_,_,_,tn_cW,rfl,l_cW,cc_cW,lT_cW,by rw[eT_cW]⟩,k_cW⟩;have b_cW:=F_cW.binds (ps:=["self","mark"]) (ds:=[]) λ_ _ _ _ _ _ _ us hl=>by obtain⟨u0,u1,rfl⟩:=Qp ((aI us) ▸ hl);exact⟨_,rfl,rfl⟩
 have F16:=Qy (st:=AO) l16 cc16 k16 ec16;have b16:=F16.fn.binds (ps:=["entries","sheet"]) λ_ _ _ _ _ _ us hl=>by (repeat (obtain⟨_,_,e,h⟩:=K1 hl;clear hl;subst e;have hl:=h;clear h));cases K0 hl;rfl
 have F23:FunF K "cut" "Bench.cut" Bu f23 _ (.bool false):=⟨⟨_,_,_,_,_,_,_,_,_,_,_,tn23,rfl,l23,cc23,lT23,by rw[eT23]⟩,k23⟩;have b23:=F23.binds (ps:=["self","width","height","turns"]) (ds:=[]) λ_ _ _ _ _ _ _ us hl=>by obtain⟨u0,u1,u2,u3,rfl⟩:=TM ((aI us) ▸ hl);exact⟨_,rfl,rfl⟩
 obtain⟨ha37,fd,F37⟩:=h37;obtain⟨oc,od,kV,doc,pm,an,cdv,ct,osl,rfl,lk,hcd⟩:=id F37.ex;refine⟨fnOf "law" "law" (AV Bf) (Ap Bf) (Ad Bf) .none kV doc pm an cdv ct,λ s v=>.of_eq rfl,λ base _ _=>?_⟩;have c:HC l.prog w K mg base:=⟨h,X,G⟩;have K_Whole:Oa l.prog w K mg base 1 "Whole" cW ["self","mark"] (Os cW):=⟨_,_,⟨mk_cW,a_cWcW,i_cW,kc_cW⟩,Hq F_cW R0,mg_of X G aC_cW,b_cW⟩;have K_Upright:=c.k mk_cU kc_cU aC_cU h_cUcU λ_ F=>F6 F R0;have K_Level:=c.k mk_cL kc_cL aC_cL h_cLcL λ_ F=>Hr F R0;have X_NoSide:=c.xm xc_cS ei_cS kC_cS aC_cS h_cScS λ_ F x=>GA F x nC_cS;have X_TooMany:=c.xm xc_cM ei_cM kC_cM aC_cM h_cMcM λ_ F x=>F7 F x nC_cM;have X_NoSheet:=c.xm xc_cD ei_cD kC_cD aC_cD h_cDcD λ_ F x=>F8 F x nC_cD;have X_NoGlass:=c.xm xc_cGl ei_cGl kC_cGl aC_cGl h_cGlcGl λ_ F x=>F9 F x nC_cGl nC2_cGl;have D_is_whole:=c.d h0 λ_ F=>Kn F T;have D_is_side:=c.d h1 λ_ F=>LC F T D_is_whole;have D_size_of:=c.d h2 λ_ F=>L9 F;have D_area_of:=c.d h3 λ_ F=>LD F;have D_check_sides:=c.dx h4 λ_ F=>G9 F X_NoSide D_is_side;have D_cut_from:=c.d (sp:=DM cW cU cL) h5 λ_ F=>Kr F T K_Upright K_Level;have D_tree_from:=c.d (sp:=IN K cW cU cL) h6 λ_ F=>Jk F T R0 K_Whole D_cut_from;have D_first_piece:=c.d h7 λ_ F=>G8 F T;have D_other_piece:=c.d h8 λ_ F=>G6 F T;have D_entries_by:=c.d h9 λ_ F=>Ho F T D_first_piece D_other_piece;have D_ways_to_lie:=c.d h10 λ_ F=>G0 F;have D_ways_held:=c.d h11 λ_ F=>Jj F D_ways_to_lie;have D_is_sheet:=c.d h12 λ_ F=>Ko F T D_is_side;have D_check_sheets:=c.dx h13 λ_ F=>F5 F T X_TooMany X_NoSheet D_is_sheet;have D_holds:=c.d h14 λ_ F=>OK F T D_size_of D_ways_held;have D_cut_pane:=c.d h15 λ_ F=>Kq F T D_size_of D_ways_held D_first_piece D_other_piece;have D_tree_in:AC l.prog w K mg base 5 "tree_in" ["entries","sheet"] (EN tb2 cW cU cL):=⟨_,_,L8 F16 hC16 hB0 D_entries_by D_tree_from,mg_of X G a16,k16,b16⟩;have K_Bench:=c.kx mk_C kc_C aC h17C λ_ F=>Ht F BC D_check_sheets;have M_Bench_whole_pieces:=c.m ⟨pg_C,hd_C,po_C,sa_C⟩ h18C λ_ F=>CW F T BC;have M_Bench_panes_cut:=c.m ⟨pg_C,hd_C,po_C,sa_C⟩ h19C λ_ F=>Ec F BC M_Bench_whole_pieces;have M_Bench_offcuts:=c.m ⟨pg_C,hd_C,po_C,sa_C⟩ h20C λ_ F=>EY F T BC M_Bench_whole_pieces;have M_Bench_sheets:=c.m (sp:=DN tb2 C cW cU cL) ⟨pg_C,hd_C,po_C,sa_C⟩ h21C λ_ F=>FA F BC D_tree_in;have M_Bench_piece_for:=c.mx ⟨pg_C,hd_C,po_C,sa_C⟩ h22C λ_ F=>Eb F T BC X_NoGlass D_area_of D_holds M_Bench_offcuts;have M_Bench_cut:Iz l.prog w K mg base 5 C "cut" ["self","width","height","turns"] (IR C cGl cM cS):=⟨⟨pg_C,hd_C,po_C,sa_C⟩,_,_,⟨a23C,i23,k23⟩,Jm F23 T BC X_TooMany D_check_sides D_cut_pane M_Bench_panes_cut M_Bench_piece_for,b23⟩;have D__law_cell:=c.d h24 λ_ F=>Kl F T;have D__law_draw:=c.d h25 λ_ F=>Kk F;have D__law_held:=c.d h26 λ_ F=>Kj F;have D__law_area:=c.d h27 λ_ F=>Km F;have D__law_choice:=c.d h28 λ_ F=>Hn F T D__law_held D__law_area;have D__law_cut:=c.d h29 λ_ F=>LB F D__law_choice D__law_held;have D__law_sheets:=c.d h30 λ_ F=>Hm F T D__law_draw;have D__law_made:=c.d h31 λ_ F=>Ki F T RG0 K_Bench;have D__law_side:=c.d h32 λ_ F=>Kh F;have D__law_is_side:=c.d h33 λ_ F=>G7 F T;have D__law_asked:=c.d h34 λ_ F=>Jl F T RG0 BC M_Bench_cut;have D__law_due:=c.d h35 λ_ F=>LA F T D__law_is_side D__law_cut;have D__law_is:=c.d h36 λ_ F=>N4 F T;exact RB F37 T K_Bench D__law_cell D__law_draw D__law_sheets D__law_made D__law_side D__law_asked D__law_due D__law_is M_Bench_sheets M_Bench_offcuts
theorem walk(tb2:Addr){l:OpenLaw}{q:Program}{loose:LSz}{XP:(MGz)->Heap->Prop}{YP:World->Heap->Prop}{d:DefRec}{K:Params->Frag}{Ts:List Addr}(hm_tb2:tb2∈Ts)(hn:l.most=some 63)(hdf:d.params.defaults=[])
  (hY:∀(w:World)(h:Heap),YP w h->(K w.params).In h) (hT:∀(w:World)(h:Heap),YP w h->∀T∈Ts,h.get? T=some (tabObj #[])/\(K w.params).lookup T=none/\∃c,CodeHd h c T)
  (F:∀(w:World)(mg:MGz)(fa:Addr)(h:Heap),(K w.params).In h->h.Ns mainGlobals mg->mg d.name=some (.ref fa) ->
   ∃fd:FuncData,(∀(s:Shared)(u:Value),BindsTo s fd ⟨[u],[]⟩ [("_law_script",u)])/\∀base:Heap,(K w.params).In base->base.Ns mainGlobals mg->A3 l.prog w (K w.params) mg base CX0 8 fa fd ["_law_script"] (sp_law tb2 (K w.params))) :
  WalkO q loose XP YP l.row.toRowW d [] (λ f vs=>PySem.call f vs) :=
 L2.walk_ofT (n:=63) (k:=8) (x:="_law_script") (CX:=λ_=>CX0) (sp:=λ w=>sp_law tb2 (K w.params)) hn (by decide) hdf ⟨rfl,by decide,by decide⟩ hY hT F (λ_ _ a ns hl hO hS=>⟨a,ns,rfl,hS,hl,hO.2 tb2 hm_tb2,λ_=>rfl⟩) λ_ _ _ _ _ z=>z
end K73
open PySem PySem.W PyProof.Rows
set_option maxRecDepth 100000 in
set_option maxHeartbeats 0 in
theorem PySem.Challenge.cw_glazebench_k73_bench_refused_holds : PySem.Challenge.rw_glazebench_k73_bench_refused.Holds := by
 refine KH.prep fun said => ?_
 have fx : ∀ s, KH.Xp PySem.Challenge.pw_glazebench_k73_bench_refused s = true → XL (KH.qv PySem.Challenge.pw_glazebench_k73_bench_refused) [] (s.heap.nsMap mainGlobals) s.heap := fun s e => xl_of s (cK.mp e).1
 have fr : ∀ s, KH.Xp PySem.Challenge.pw_glazebench_k73_bench_refused s = true → RecFacts (RowW.records (OpenRow.toRowW PySem.Challenge.rw_glazebench_k73_bench_refused.row)) s.heap := fun s e => recFacts_of (cK.mp e).2
 refine holds_open (XP := XL (KH.qv PySem.Challenge.pw_glazebench_k73_bench_refused) []) KH.left (L2.hookT (kHook KH.KK KH.kas KH.kas_is) KH.Ts).of (L2.hookT (kHook KH.KK KH.kas KH.kas_is) KH.Ts).keeps fx XL.keeps (by rfl) (by rfl) (by rfl) fr (by rfl) said (by decide +kernel) ?hb ?hw ?hc
 case hb => exact ⟨rfl,rfl, rfl,rfl, rfl, by decide +kernel⟩
 case hw => w_witness2
 case hc =>
  k_fill
  refine K73.walk (l := PySem.Challenge.rw_glazebench_k73_bench_refused) (Ts := KH.Ts) 355 (by simp [KH.Ts]) rfl rfl (fun w h Y => PySem.W.kIn_of Y.1) ?HT ?F
  case HT =>
   intro w h Y T hT
   refine ⟨Y.2 T hT, ?_⟩
   have hT : T ∈ [355] := hT
   simp only [aA, bd, or_false] at hT
   subst hT
   ·exact ⟨by kernel_rfl, 359, L2.codeTB_of (c := 359) (T := 355) (by kernel_rfl) h (PySem.W.kIn_of Y.1)⟩
  case F =>
   intro w mg fa h KX G hmg
   refine' K73.all_mk (tb2 := 355) KX G hmg ?my_aC ?my_pg_C ?my_hd_C ?my_po_C ?my_sa_C ?my_mk_C ?my_kc_C ?my_n_C_stock ?my_n_C_taken ?my_aT ?my_aC_cW ?my_ic_cW ?my_a_cWcW ?my_i_cW ?my_l_cW ?my_cc_cW ?my_k_cW ?my_lT_cW ?my_eT_cW ?my_aC_cU ?my_ic_cU ?my_h_cUcU ?my_aC_cL ?my_ic_cL ?my_h_cLcL ?my_kit ?my_aG ?my_eG ?my_aC_cS ?my_kC_cS ?my_nC_cS ?my_h_cScS ?my_ei_cS ?my_xc_cS ?my_xm_cS ?my_aC_cM ?my_kC_cM ?my_nC_cM ?my_h_cMcM ?my_ei_cM ?my_xc_cM ?my_xm_cM ?my_aC_cD ?my_kC_cD ?my_nC_cD ?my_h_cDcD ?my_ei_cD ?my_xc_cD ?my_xm_cD ?my_aC_cGl ?my_kC_cGl ?my_nC_cGl ?my_nC2_cGl ?my_h_cGlcGl ?my_ei_cGl ?my_xc_cGl ?my_xm_cGl ?my_ktC ?my_h0 ?my_h1 ?my_h2 ?my_h3 ?my_h4 ?my_h5 ?my_h6 ?my_h7 ?my_h8 ?my_h9 ?my_h10 ?my_h11 ?my_h12 ?my_h13 ?my_h14 ?my_h15 ?my_a16 ?my_l16 ?my_cc16 ?my_k16 ?my_ec16 ?my_hC16 ?my_h17C ?my_h18C ?my_h19C ?my_h20C ?my_h21C ?my_h22C ?my_a23C ?my_i23 ?my_l23 ?my_cc23 ?my_k23 ?my_lT23 ?my_eT23 ?my_h24 ?my_h25 ?my_h26 ?my_h27 ?my_h28 ?my_h29 ?my_h30 ?my_h31 ?my_h32 ?my_h33 ?my_h34 ?my_h35 ?my_h36 ?my_h37 ?my_abm ?my_lbm ?my_nbm1 ?my_nbm2 ?my_z0 ?my_z1 ?my_z2 ?my_z3 ?my_z4 ?my_z5 ?my_z6 ?my_z7 ?my_z8 ?my_z9 ?my_z10 ?my_z11 ?my_z12 ?my_z13 ?my_g0 ?my_g1 ?my_g2 ?my_g3 ?my_g4 ?my_g5
   (case my_aC => k_is); (case my_pg_C => k_is); (case my_hd_C => k_is); (case my_po_C => k_is); (case my_sa_C => k_is); (case my_mk_C => k_is); (case my_kc_C => k_is); (case my_n_C_stock => k_is)
   (case my_n_C_taken => k_is); (case my_aT => k_is); (case my_aC_cW => k_is); (case my_a_cWcW => k_is); (case my_i_cW => k_is); (case my_l_cW => k_is); (case my_cc_cW => k_is); (case my_k_cW => k_is)
   (case my_lT_cW => k_is); (case my_aC_cU => k_is); (case my_aC_cL => k_is); (case my_aG => k_is); (case my_aC_cS => k_is); (case my_kC_cS => k_is); (case my_nC_cS => k_is); (case my_xm_cS => k_is)
   (case my_aC_cM => k_is); (case my_kC_cM => k_is); (case my_nC_cM => k_is); (case my_xm_cM => k_is); (case my_aC_cD => k_is); (case my_kC_cD => k_is); (case my_nC_cD => k_is); (case my_xm_cD => k_is)
   (case my_aC_cGl => k_is); (case my_kC_cGl => k_is); (case my_nC_cGl => k_is); (case my_nC2_cGl => k_is); (case my_xm_cGl => k_is); (case my_a16 => k_is); (case my_l16 => k_is); (case my_cc16 => k_is)
   (case my_k16 => k_is); (case my_a23C => k_is); (case my_i23 => k_is); (case my_l23 => k_is); (case my_cc23 => k_is); (case my_k23 => k_is); (case my_lT23 => k_is); (case my_abm => k_is)
   (case my_lbm => k_is); (case my_z0 => k_is); (case my_z1 => k_is); (case my_z2 => k_is); (case my_z3 => k_is); (case my_z4 => k_is); (case my_z5 => k_is); (case my_z6 => k_is)
   (case my_z7 => k_is); (case my_z8 => k_is); (case my_z9 => k_is); (case my_z10 => k_is); (case my_z11 => k_is); (case my_z12 => k_is); (case my_z13 => k_is); (case my_g0 => k_is)
   (case my_g1 => k_is); (case my_g2 => k_is); (case my_g3 => k_is); (case my_g4 => k_is); (case my_g5 => k_is); (case my_eT_cW => rfl); (case my_ec16 => rfl); (case my_eT23 => rfl)
   (case my_ic_cW => kernel_rfl); (case my_ic_cU => kernel_rfl); (case my_ic_cL => kernel_rfl); (case my_kit => kernel_rfl); (case my_eG => kernel_rfl); (case my_ei_cS => kernel_rfl); (case my_xc_cS => kernel_rfl); (case my_ei_cM => kernel_rfl)
   (case my_xc_cM => kernel_rfl); (case my_ei_cD => kernel_rfl); (case my_xc_cD => kernel_rfl); (case my_ei_cGl => kernel_rfl); (case my_xc_cGl => kernel_rfl); (case my_ktC => kernel_rfl); (case my_hC16 => kernel_rfl); (case my_nbm1 => decide)
   (case my_nbm2 => decide)
   case my_h_cUcU | my_h_cLcL | my_h_cScS | my_h_cMcM | my_h_cDcD | my_h_cGlcGl | my_h17C | my_h18C | my_h19C | my_h20C | my_h21C | my_h22C => exact ⟨by k_is, by k_is, _, ⟨⟨_,_,_,_,_,_,_,_,_,rfl, by k_is, by k_is⟩, by k_is⟩⟩
   case my_h0 | my_h1 | my_h2 | my_h3 | my_h4 | my_h5 | my_h6 | my_h7 | my_h8 | my_h9 | my_h10 | my_h11 | my_h12 | my_h13 | my_h14 | my_h15 | my_h24 | my_h25 | my_h26 | my_h27 | my_h28 | my_h29 | my_h30 | my_h31 | my_h32 | my_h33 | my_h34 | my_h35 | my_h36 | my_h37 => exact ⟨by k_is, _, ⟨⟨_,_,_,_,_,_,_,_,_,rfl, by k_is, by k_is⟩, by k_is⟩⟩
