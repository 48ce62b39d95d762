import PyProof.Rows.All
import Wide.All
import OpenK.AllK
import Wide.FinOn
import Lean
import PyProof.EqAt
import PyProof.EqKinds
import PyProof.TupleCall
import PyProof.Rows.SortRuns
import PyProof.NeKinds
import PyProof.ExcAttrAll.ValueError
import PyProof.StationsW
import PyProof.PassesOwn
import PyProof.RulesAs
import PyProof.NsDelKeeps
import PyProof.CompMap
import PyProof.DictItems
import KE.KPairComp
import KE.KMinKey
import KE.KDictList
import KE.KDictOf
import KE.KEqDict
import PyProof.DictIter
import PyProof.DictWalks
import PyProof.Rows.DictUnroll
import KE.KRevIter
import KE.KLam
import KE.KSortKey
import KE.KSortTup
import PyProof.Rows.StrJoin2
import PyProof.Rows.StrNews
import PyProof.StrLawsTight
import PyProof.StrWalks
import PyProof.StrBlockH
import KE.KIntText
import KE.LcSums
import KE.KNest
import PyProof.ZipIter
import KE.KItemsList
import PySem.Challenge.RW_glazebench_k23_whole_tree_or_room
set_option Elab.async false
set_option linter.all false
set_option maxRecDepth 100000
open List renaming length_map→aa,mem_singleton→ad,length_append→af,mem_append→ai,map_append→aj,mem_of_getElem?→ao,getElem?_eq_getElem→aq,size_toArray→au,mem_map→aw,mem_append_right→az,getElem?_map→aB,mem_cons_self→aD,getElem?_eq_some_iff→aH,length_cons→aI,mem_cons_of_mem→aJ,append_nil→aL,take_length→aN,mem_cons→aO,mem_filter→aP,map_cons→aS,not_mem_nil→aU,take_succ→aV,lookup_cons→aX,length_take→aY,mem_append_left→a9,map_map→be,append_assoc→bi,pairwise_append→bn,length_drop→bp,getElem?_eq_none→bq,nodup_cons→bv,all_eq_true→bC,getElem?_append_right→bD,getD_eq_getElem?_getD→bE,length_singleton→bF,length_replicate→bG,cons_append→bJ,pairwise_cons→bL,nil_append→bN,any_cons→bP,length_filter_le→bQ,forall_mem_cons→bT,map_nil→bV,getElem_mem→bW,pairwise_iff_getElem→bX,replicate_succ→bZ,getElem_of_mem→b9,length_nil→ce,find?_cons→cf,filter_map→cg,pairwise_singleton→cm,length_eq_one_iff→cu,take_append_drop→cw,filter_cons→cx,any_eq_true→cy,getElem?_range→cz,filter_sublist→cA,nodup_iff_pairwise_ne→cD,mem_range→cE,filter_append→cH,contains_cons→cI,getElem?_append_left→cM,drop_eq_getElem_cons→cN,pairwise_map→cO,nodup_append→cP,flatten_cons→cQ,ext_getElem?→cR,getElem?_set_self→c8,mem_of_mem_take→dh,mem_of_mem_drop→di,getElem?_set_ne→dj,dropLast_concat→dm,getD→dw,filterMap_cons→dz,all_cons→dC,map_singleton→dF,length_range→dH,flatten_replicate_singleton→dI,flatMap_cons→dJ,of_mem_zip→dS,forIn_cons→dU,mem_of_find?_eq_some→dY,map_take→d0,map_drop→d7,getElem?_take_of_lt→d8,length_eq_zero_iff→ek,getElem?_replicate→ez,take_of_length_le→eD,length_pos_of_mem→eE,any_map→eF,all_map→eI,findSome?_append→eN,eq_nil_or_concat→eO,concat_eq_append→eP,replicate_succ'→eU,length_dropLast→eW
open Bool renaming false_ne_true→ae,and_eq_true→aK,false_eq_true→aW,eq_iff_iff→bg,or_eq_true→bO,not_eq_true'→cV,and_false→dq,and_true→dD,or_true→dM,true_and→d9,and_eq_true_iff→eY
open PySem.Heap renaming get?_push_of_some→ag,lt_size→aA,get?_push_size→aR,get?_update_other→bz,get?_update_self→bR,size_push→bU,get?_update_ne→cB,get?_push_ne→cS,get?_push_at→dL,size_update→dQ,get?_none_of_le→eX
open Nat renaming le_refl→ah,le_of_lt→aF,ne_of_lt→aM,lt_of_lt_of_le→aQ,le_trans→ba,zero_le→bb,lt_irrefl→bA,le_succ→bI,lt_succ_of_lt→bS,le_antisymm→ci,lt_of_le_of_lt→cj,lt_succ_self→cZ,sub_self→c9,lt_or_ge→dc,add_sub_cancel→dG,le_of_eq→dN,ne_of_gt→eK,min_self→eL,lt_trans→eM
open Or renaming inl→av,inr→cK
open Int renaming le_refl→aE,toNat_of_nonneg→cb,emod_lt_of_pos→cJ,emod_nonneg→df,zero_add→dO,mul_le_mul_of_nonneg_right→dR,not_lt→dZ,le_trans→eQ,le_of_lt→eR
open Classical renaming byContradiction→aZ,propDecidable→dW
open Array renaming getElem?_eq_some_iff→bj,length_toList→bY,getD_eq_getD_getElem?→cC,getElem?_toList→eJ,toList_append→eZ
open PySem.F renaming plainAttrs_list→br,type_list_pop→cq,slot_list_pop→cr,attrBase_ValueError→dP
open Option renaming map_some→bH,map_eq_some_iff→bK,bind_some→cY,isSome_map→dE,isSome_iff_exists→dX
open Prod renaming ext→bM,mk→du,fst→eS
abbrev VPz:=PySem.Value→PySem.Shared→Prop
abbrev PNz:=List (PySem.Addr × PySem.Obj)
abbrev MGz:=PySem.Str→Option PySem.Value
abbrev AOz:=Array (Option PySem.Value)
abbrev LSz:=List PySem.Str
abbrev LWz:=List PySem.Value
namespace L2
open PySem.W
open PySem PySem.Spec PyProof.Rows
abbrev Key:=Sum Int Str
def IH:Key->Value->Bool
 |.inl k,v=>Value.isInt k v
 |.inr x,v=>Value.isStrOf x v
def Vh(w:World):Key->Int
 |.inl k=>hashInt k
 |.inr x=>hashStr w x
theorem Be:∀{k:Key}{v:Value},IH k v=true->(∃i t,k=Sum.inl i/\v=Value.int i t)\/(∃x t,k=Sum.inr x/\v=Value.str x t)
 |.inl i,v,h=>by
  obtain⟨t,e⟩:=Value.isInt_shape (k:=i) (v:=v) h;exact .inl ⟨i,t,rfl,e⟩
 |.inr x,v,h=>by
  obtain⟨t,e⟩:=Value.isStrOf_shape (x:=x) (v:=v) h;exact .inr ⟨x,t,rfl,e⟩
theorem O9(i:Int)(t:Tok):IH (.inl i) (.int i t)=true:=by simp[IH,Value.isInt]
theorem O8(x:Str)(t:Tok):IH (.inr x) (.str x t)=true:=by simp[IH,Value.isStrOf]
theorem SQ(a b:Int):decide ((Sum.inl a:Key)=Sum.inl b)=(a==b):=by
 by_cases e:a=b
 .subst e;simp
 .have h:¬(Sum.inl a:Key)=Sum.inl b:=λ q=>e (Sum.inl.inj q);rw[decide_eq_false h];exact(beq_eq_false_iff_ne.mpr e).symm
theorem SM(a b:Str):decide ((Sum.inr a:Key)=Sum.inr b)=decide (a=b):=by
 by_cases e:a=b
 .subst e;simp
 .have h:¬(Sum.inr a:Key)=Sum.inr b:=λ q=>e (Sum.inr.inj q);rw[decide_eq_false h,decide_eq_false e]
theorem SO(a:Int)(b:Str):decide ((Sum.inl a:Key)=Sum.inr b)=false:=decide_eq_false (λ q=>nomatch q)
theorem SN(a:Str)(b:Int):decide ((Sum.inr a:Key)=Sum.inl b)=false:=decide_eq_false (λ q=>nomatch q)
def Bv(prog:Program)(w:World):PySem.KeyKind prog w Key where
 is:=IH
 hash:=Vh w
 inj:=λ v a b ha hb=>by
  rcases Be ha with ⟨i,t,rfl,rfl⟩|⟨x,t,rfl,rfl⟩
  .rcases Be hb with ⟨j,u,rfl,e⟩|⟨y,u,rfl,e⟩
   .injection e with e1 _;rw[e1]
   .exact nomatch e
  .rcases Be hb with ⟨j,u,rfl,e⟩|⟨y,u,rfl,e⟩
   .exact nomatch e
   .injection e with e1 _;rw[e1]
 byValue:=λ k v h=>by
  rcases Be h with ⟨i,t,rfl,rfl⟩|⟨x,t,rfl,rfl⟩<;>rfl
 pyHash:=λ hv h=>by
  rcases Be hv with ⟨i,t,rfl,rfl⟩|⟨x,t,rfl,rfl⟩
  .exact wpAny_pyHash_int h
  .exact wpAny_pyHash_str h
 eqBool:=λ hu hv h=>by
  rcases Be hu with ⟨i,t,rfl,rfl⟩|⟨x,t,rfl,rfl⟩
  .rcases Be hv with ⟨j,u,rfl,rfl⟩|⟨y,u,rfl,rfl⟩
   .rw[SQ]at h;exact wpAny_eqBool_int h
   .rw[SO]at h;exact SeqAt.EqAt.int_str i t y u _ _ _ _ h
  .rcases Be hv with ⟨j,u,rfl,rfl⟩|⟨y,u,rfl,rfl⟩
   .rw[SN]at h;exact SeqAt.EqAt.str_int x t j u _ _ _ _ h
   .rw[SM]at h;exact wpAny_eqBool_str h
 «strs»:=λ k x t v h=>by
  rcases Be h with ⟨i,u,rfl,e⟩|⟨y,u,rfl,e⟩
  .exact nomatch e
  .injection e with e1 _;subst e1;cases v<;>rfl
theorem Lj(prog:Program)(w:World)(i:Int)(t:Tok):(Bv prog w).is (.inl i) (.int i t)=true:=O9 i t
theorem Li(prog:Program)(w:World)(x:Str)(t:Tok):(Bv prog w).is (.inr x) (.str x t)=true:=O8 x t
inductive V where
 |non|bl (b:Bool)|int (i:Int)|str (x:Str)|byt (b:Array UInt8)|flt (b:UInt64)|ref (a:Addr)|ty (n:String)
 deriving DecidableEq
abbrev LKz:=List (List Key×V)
abbrev LFz:=List (Str×V)
abbrev LUz:=List V
def RelV:V->Value->Prop
 |.non,u=>u=Value.none
 |.bl b,u=>u=Value.bool b
 |.int i,u=>∃t,u=Value.int i t
 |.str x,u=>∃t,u=Value.str x t
 |.byt b,u=>∃t,u=Value.bytes b t
 |.flt b,u=>∃t,u=Value.float b t
 |.ref a,u=>u=Value.ref a
 |.ty n,u=>u=Value.type n
abbrev Vals:LUz->LWz->Prop:=Paired RelV
theorem Vals.length{xs:LUz}{us:LWz}(r:Vals xs us):xs.length=us.length:=Paired.length r
theorem Vals.get:∀{xs:LUz}{us:LWz}{i:Nat}{x:V},Vals xs us->xs[i]?=some x->∃u,us[i]?=some u/\RelV x u
 |_,_,_,_,.nil,e=>by simp at e
 |_,_,0,_,.cons r _,e=>by simp at e;subst e;exact⟨_,rfl,r⟩
 |_,_,i+1,x,.cons _ t,e=>by
  obtain⟨u,h1,h2⟩:=Vals.get (i:=i) (x:=x) t (by simpa using e);exact⟨u,by simpa using h1,h2⟩
theorem Vals.set{x:V}{u:Value}(r:RelV x u):∀{xs:LUz}{us:LWz}(i:Nat),Vals xs us->Vals (xs.set i x) (us.set i u)
 |_,_,_,.nil=>.nil
 |_,_,0,.cons _ t=>.cons r t
 |_,_,i+1,.cons q t=>.cons q (Vals.set r i t)
theorem Vals.append:∀{xs ys:LUz}{us ws:LWz},Vals xs us->Vals ys ws->Vals (xs++ys) (us++ws)
 |_,_,_,_,.nil,s=>s
 |_,_,_,_,.cons r t,s=>.cons r (Vals.append t s)
theorem Vals.take:∀{xs:LUz}{us:LWz}(n:Nat),Vals xs us->Vals (xs.take n) (us.take n)
 |_,_,0,_=>.nil
 |_,_,_+1,.nil=>.nil
 |_,_,n+1,.cons r t=>.cons r (Vals.take n t)
theorem Vals.drop:∀{xs:LUz}{us:LWz}(n:Nat),Vals xs us->Vals (xs.drop n) (us.drop n)
 |_,_,0,r=>r
 |_,_,_+1,.nil=>.nil
 |_,_,n+1,.cons _ t=>Vals.drop n t
def RelO:Option V->Option Value->Prop
 |some v,some u=>RelV v u
 |none,none=>True
 |_,_=>False
def KV{κ:Type}:List (κ×V)->List (κ×Value)->Prop:=Paired λ(p:κ×V)(q:κ×Value)=>p.1=q.1/\RelV p.2 q.2
def kV:Key->V
 |.inl i=>.int i
 |.inr x=>.str x
inductive HO where
 |lst (xs:LUz)
 |tup (xs:LUz)
 |dK (kvs:List (Key×V))|dT (kvs:LKz)
 |set (S:Int->Bool) (n:Nat)
 |ins (C dx:Addr) (fs:LFz)
 |own (x:Addr)
 |xd (fs:LFz)
 |met (f x:Addr)
 |rng (lo hi:Int)
 |frz (o:Obj) (u:HO)
 |tbl (ps:Array Value)
 |ext (φ:Heap->Prop)
abbrev Hp:=Addr->Option HO
def upd(H:Hp)(a:Addr)(o:HO):Hp:=λ b=>if b=a then some o else H b
theorem Af{H:Hp}{a:Addr}{o:HO}:upd H a o a=some o:=by unfold upd;rw[if_pos rfl]
theorem Ag{H:Hp}{a b:Addr}{o:HO}(h:b≠a):upd H a o b=H b:=by unfold upd;rw[if_neg h]
theorem AL{H:Hp}{a b:Addr}{o u:HO}(h:H a=some o)(h':H b=some u)(d:o≠u):a≠b:=by
 intro e;subst e;rw[h]at h';exact d (Option.some.inj h')
theorem Ae{H:Hp}{a b:Addr}{o:HO}(h:H a=some o)(h':H b=none):a≠b:=by
 intro e;subst e;rw[h]at h';cases h'
section
variable(P:Program)(w:World)
def ObjOk(H:Hp)(h:Heap)(a:Addr):HO->Prop
 |.lst xs=>xs.length<=sizeLine/\∃(its:LWz)(n:Nat),Vals xs its/\h.get? a=some { cls:=.type "list",data:=.seq its.toArray n }
 |.tup xs=>xs.length<=sizeLine/\∃its:LWz,Vals xs its/\IsTup h a its.toArray
 |.dK kvs=>kvs.length<=sizeLine/\(a==sysModules)=false/\∃vs,KV kvs vs/\h.DictOf (Bv P w) a vs
 |.dT kvs=>kvs.length<=sizeLine/\(a==sysModules)=false/\∃xs:List (List Key×Addr×Value),
   Paired (λ(p:List Key×V)(q:List Key×Addr×Value)=>p.1=q.1/\H q.2.1=some (.tup (p.1.map kV))/\RelV p.2 q.2.2) kvs xs /\
   ∃o es ep,h.get? a=some o/\o.ExactDict/\o.data=.dict es ep/\es.toList=xs.map (entryOfKey (tupleKind (Bv P w)))/\(xs.map (·.1)).Nodup
 |.set S n=>h.SetOf (intKind P w) a S n
 |.ins C dx fs=>H dx=some (.own a)/\fs.length<=1000/\dx≠a/\h.get? a=some (instObj C dx) /\
   ∃mA,h.Ns1 dx mA/\(∀f,RelO (fs.lookup f) (mA f))/\PySem.Within mA (fs.map (·.1))
 |.own _=>∃o,h.get? a=some o
 |.xd fs=>∃mA,h.Ns1 a mA/\∀f,RelO (fs.lookup f) (mA f)
 |.rng lo hi=>∃t u v,h.get? a=some { cls:=.type "range",data:=.fields #[.int lo t,.int hi u,.int 1 v] }
 |.frz o u=>h.get? a=some o/\ObjOk H h a u
 |.tbl ps=>h.get? a=some { cls:=.none,data:=.fields ps }
 |.met f x=>h.get? a=some (methodObj (.ref f) (.ref x))
 |.ext φ=>φ h/\(∃o,h.get? a=some o)/\∀h1 h2:Heap,φ h1->(∀o,h1.get? a=some o->h2.get? a=some o)->φ h2
def HOk(H:Hp)(h:Heap):Prop:=∀a o,H a=some o->ObjOk P w H h a o
end
section
variable{P:Program}{w:World}{H H':Hp}{h h':Heap}{a:Addr}{o:HO}
theorem ObjOk.lt(x:ObjOk P w H h a o):a<h.objs.size:=by
 cases o with
 |lst xs=>obtain⟨_,_,_,_,e⟩:=x;exact aA e
 |tup xs=>obtain⟨_,_,_,p⟩:=x;exact p.lt
 |dK kvs=>obtain⟨_,_,_,_,o,_,_,e,_⟩:=x;exact aA e
 |dT kvs=>obtain⟨_,_,_,_,o,_,_,e,_⟩:=x;exact aA e
 |set S n=>obtain⟨o,_,_,_,e,_⟩:=x;exact aA e
 |ins C dx fs=>obtain⟨_,_,_,e,_⟩:=x;exact aA e
 |own y=>obtain⟨_,e⟩:=x;exact aA e
 |xd fs=>obtain⟨_,⟨_,_,_,e,_⟩,_⟩:=x;exact aA e
 |rng lo hi=>obtain⟨_,_,_,e⟩:=x;exact aA e
 |frz ob u=>obtain⟨e,_⟩:=x;exact aA e
 |tbl ps=>exact aA (show h.get? a=some _ from x)
 |met f y=>exact aA (show h.get? a=some _ from x)
 |ext φ=>obtain⟨_,⟨_,e⟩,_⟩:=x;exact aA e
theorem Paired.mapP{α β:Type}{F G:α->β->Prop}:∀{l₁:List α}{l₂:List β},Paired F l₁ l₂->(∀a b,F a b->G a b)->Paired G l₁ l₂
 |_,_,.nil,_=>.nil
 |_,_,.cons r t,f=>.cons (f _ _ r) (Paired.mapP t f)
theorem ObjOk.stay(x:ObjOk P w H h a o)(k:∀b u,(b=a\/H b=some (.own a))->h.get? b=some u->h'.get? b=some u)
  (ho:∀b,H b=some (.own a)->H' b=some (.own a)) (ht:∀b xs,H b=some (.tup xs)->H' b=some (.tup xs)):ObjOk P w H' h' a o:=by
 induction o with
 |lst xs=>obtain⟨z,its,n,r,e⟩:=x;exact⟨z,its,n,r,k _ _ (.inl rfl) e⟩
 |tup xs=>obtain⟨z,its,r,ob,e,c⟩:=x;exact⟨z,its,r,ob,k _ _ (.inl rfl) e,c⟩
 |dK kvs=>obtain⟨z,y,vs,r,ob,es,ep,e,c⟩:=x;exact⟨z,y,vs,r,ob,es,ep,k _ _ (.inl rfl) e,c⟩
 |dT kvs =>
  obtain⟨z,y,xs,r,ob,es,ep,e,c⟩:=x;exact⟨z,y,xs,Paired.mapP r λ p q z=>⟨z.1,ht _ _ z.2.1,z.2.2⟩,ob,es,ep,k _ _ (.inl rfl) e,c⟩
 |set S n=>obtain⟨ob,es,ep,t,e,c⟩:=x;exact⟨ob,es,ep,t,k _ _ (.inl rfl) e,c⟩
 |ins C dx fs =>
  obtain⟨d,z,ne,e,mA,⟨od,es,ep,e2,c⟩,r⟩:=x;exact⟨ho _ d,z,ne,k _ _ (.inl rfl) e,mA,⟨od,es,ep,k _ _ (.inr d) e2,c⟩,r⟩
 |own y=>obtain⟨ob,e⟩:=x;exact⟨ob,k _ _ (.inl rfl) e⟩
 |xd fs=>obtain⟨mA,⟨od,es,ep,e,c⟩,r⟩:=x;exact⟨mA,⟨od,es,ep,k _ _ (.inl rfl) e,c⟩,r⟩
 |rng lo hi=>obtain⟨t,u,v,e⟩:=x;exact⟨t,u,v,k _ _ (.inl rfl) e⟩
 |frz ob u ih=>obtain⟨e,q⟩:=x;exact⟨k _ _ (.inl rfl) e,ih q⟩
 |tbl ps =>
  have e:h.get? a=some { cls:=.none,data:=.fields ps }:=x;show h'.get? a=some { cls:=.none,data:=.fields ps };exact k a _ (.inl rfl) e
 |met f y =>
  have e:h.get? a=some (methodObj (.ref f) (.ref y)):=x;show h'.get? a=some (methodObj (.ref f) (.ref y));exact k a _ (.inl rfl) e
 |ext φ=>obtain⟨p,⟨o,e⟩,st⟩:=x;exact⟨st _ _ p λ o q=>k _ _ (.inl rfl) q,⟨o,k _ _ (.inl rfl) e⟩,st⟩
theorem HOk.lt(x:HOk P w H h)(e:H a=some o):a<h.objs.size:=(x a o e).lt
theorem HOk.fresh(x:HOk P w H h)(e:h.objs.size<=a):H a=none:=by
 cases q:H a with
 |none=>rfl
 |some u=>exact absurd (aQ (x.lt q) e) (bA _)
theorem HOk.kept(x:HOk P w H h)(k:∀b u,h.get? b=some u->h'.get? b=some u):HOk P w H h':=λ a o e =>
 (x a o e).stay (λ b u _ q=>k b u q) (λ_ q=>q) λ_ _ q=>q
theorem HOk.laid(x:HOk P w H h)(k:∀b u,h.get? b=some u->h'.get? b=some u)(hp:h.objs.size<=a)(new:ObjOk P w (upd H a o) h' a o):HOk P w (upd H a o) h':=λ b u e=>by
 have hn:=x.fresh hp;by_cases hb:b=a
 .subst hb;rw[Af]at e;cases e;exact new
 .rw[Ag hb]at e;exact(x b u e).stay (λ c v _ q=>k c v q) (λ c q=>by rw[Ag (Ae q hn)];exact q) λ c xs q=>by rw[Ag (Ae q hn)];exact q
end
def Rd(H:Hp)(a:Addr)(u:HO):Prop:=H a=some u\/∃o,H a=some (.frz o u)
theorem Rd.ok{P:Program}{w:World}{H:Hp}{h:Heap}{a:Addr}{u:HO}(r:Rd H a u)(x:HOk P w H h):ObjOk P w H h a u:=by
 rcases r with r|⟨o,r⟩
 .exact x a u r
 .obtain⟨_,q⟩:=x a _ r;exact q
def Mut:Option HO->Prop
 |some (.lst _)=>True
 |some (.dK _)=>True
 |some (.dT _)=>True
 |some (.set _ _)=>True
 |some (.ins _ _ _)=>True
 |some (.ext _)=>True
 |_=>False
section
variable{P:Program}{w:World}{H:Hp}{h h':Heap}{x e:Addr}{o':HO}
theorem HOk.write(ok:HOk P w H h)(mu:Mut (H x))(he:e=x\/H e=some (.own x))(k:∀b u,b≠e->h.get? b=some u->h'.get? b=some u)(heo:∃u,h'.get? e=some u)
  (new:ObjOk P w (upd H x o') h' x o'):HOk P w (upd H x o') h':=λ b u q=>by
 have nown:∀c y,H c=some (.own y)->c≠x:=λ c y r z=>by subst z;rw[r]at mu;exact mu
 have ntup:∀c xs,H c=some (.tup xs)->c≠x:=λ c xs r z=>by subst z;rw[r]at mu;exact mu
 by_cases hb:b=x
 .subst hb;rw[Af]at q;cases q;exact new
 .rw[Ag hb]at q;by_cases hbe:b=e
  .have q':H b=some (.own x):=by
    rcases he with z|z
    .exact absurd (hbe.trans z) hb
    .rw[hbe];exact z
   rw[q]at q';cases q';obtain⟨v,hv⟩:=heo;exact⟨v,by rw[hbe];exact hv⟩
  .refine(ok b u q).stay (λ c v hc r=>k c v ?_ r) (λ c r=>by rw[Ag (nown c b r)];exact r) λ c xs r=>by rw[Ag (ntup c xs r)];exact r
   rcases hc with rfl|hc
   .exact hbe
   .rintro rfl;rcases he with z|z
    .exact nown c b hc z
    .rw[hc]at z;cases z;exact hb rfl
end
structure Un(fs ex:List Addr)(H H':Hp)(h h':Heap):Prop where
 keep:∀b o,h.get? b=some o->H b=none->b∉fs->b∉ex->h'.get? b=some o
 slot:∀b o,h.get? b=some o->H b=none->b∈fs->b∉ex->∃sl,h'.get? b=some { o with slots:=sl }
 free:∀b o,h.get? b=some o->H b=none->b∉ex->H' b=none
 there:∀b o,h.get? b=some o->b∉ex->∃o',h'.get? b=some o'
 tups:∀b xs,H b=some (.tup xs)->H' b=some (.tup xs)
 frzs:∀b o u,H b=some (.frz o u)->H' b=some (.frz o u)
 tbls:∀b ps,H b=some (.tbl ps)->∃more,H' b=some (.tbl (ps++more))
section
variable{fs fs' ex ex':List Addr}{H H1 H2:Hp}{h h1 h2 h':Heap}{a x e:Addr}{o:HO}
theorem Un.any(u:Un fs ex H H1 h h1){b:Addr}{ob:Obj}(q:h.get? b=some ob)(n:H b=none)(hx:b∉ex):∃sl,h1.get? b=some { ob with slots:=sl }:=by
 by_cases hb:b∈fs
 .exact u.slot b ob q n hb hx
 .exact⟨ob.slots,u.keep b ob q n hb hx⟩
theorem Un.kept(k:∀b u,h.get? b=some u->h'.get? b=some u):Un fs ex H H h h' :=
 ⟨λ b ob q _ _ _=>k b ob q,λ b ob q _ _ _=>⟨ob.slots,k b ob q⟩,λ_ _ _ n _=>n,λ b ob q _=>⟨ob,k b ob q⟩,λ_ _ q=>q,λ_ _ _ q=>q,λ_ ps q=>⟨#[],by rw[q];simp⟩⟩
theorem Un.refl:Un fs ex H H h h:=Un.kept λ_ _ q=>q
theorem Un.laid(k:∀b u,h.get? b=some u->h'.get? b=some u)(hp:h.objs.size<=a)(hn:H a=none):Un fs ex H (upd H a o) h h' where
 keep:=λ b u q _ _ _=>k b u q
 slot:=λ b u q _ _ _=>⟨u.slots,k b u q⟩
 free:=λ b u q n _=>by rw[Ag (aM (aQ (aA q) hp))];exact n
 there:=λ b u q _=>⟨u,k b u q⟩
 tups:=λ b xs q=>by rw[Ag (Ae q hn)];exact q
 frzs:=λ b u xs q=>by rw[Ag (Ae q hn)];exact q
 tbls:=λ b ps q=>⟨#[],by rw[Ag (Ae q hn),q];simp⟩
theorem Un.write(mu:Mut (H x))(he:e=x\/H e=some (.own x))(k:∀b u,b≠e->h.get? b=some u->h'.get? b=some u)(heo:∃u,h'.get? e=some u):Un fs ex H (upd H x o) h h':=by
 have hx:∀b,H b=none->b≠x:=λ b n z=>by subst z;rw[n]at mu;exact mu
 have hb:∀b,H b=none->b≠e:=λ b n z=>by
  subst z;rcases he with r|r
  .exact hx b n r
  .rw[n]at r;cases r
 have hm:∀b u,H b=some u->¬Mut (some u)->b≠x:=λ b u q nm z=>by subst z;rw[q]at mu;exact nm mu
 refine⟨λ b u q n _ _=>k b u (hb b n) q,λ b u q n _ _=>⟨u.slots,k b u (hb b n) q⟩,λ b u q n _=>by rw[Ag (hx b n)];exact n,λ b u q _=>?_,
  λ b xs q=>by rw[Ag (hm b _ q λ z=>z)];exact q,λ b u xs q=>by rw[Ag (hm b _ q λ z=>z)];exact q,λ b ps q=>⟨#[],by rw[Ag (hm b _ q λ z=>z),q];simp⟩⟩
 by_cases hbe:b=e
 .subst hbe;exact heo
 .exact⟨u,k b u hbe q⟩
end
def trk(h:Heap)(H:Hp):List Addr:=(List.range h.objs.size).filter λ a=>(H a).isSome
def Kd(h:Heap)(H:Hp):Heap:=hideAll h (trk h H)
theorem OC(h:Heap)(H:Hp):(Kd h H).objs.size=h.objs.size:=hideAll_size _ _
theorem Qd{h:Heap}{H:Hp}{b:Addr}{o:Obj}(e:h.get? b=some o)(n:H b=none):(Kd h H).get? b=some o :=
 hideAll_get _ e λ hm=>by
  have q:(H b).isSome=true:=(aP.mp hm).2;rw[n]at q;simp at q
theorem Rr{h:Heap}{H:Hp}{b:Addr}{o:Obj}(e:(Kd h H).get? b=some o):h.get? b=some o/\H b=none:=by
 have e':h.get? b=some o:=of_hideAll (trk h H) e;refine⟨e',?_⟩;cases q:H b with
 |none=>rfl
 |some x =>
  have hm:b∈trk h H:=aP.mpr ⟨cE.mpr (aA e'),by simp[q]⟩;have z:(Kd h H).get? b=none:=hideAll_none (trk h H) hm;rw[z]at e;cases e
structure Mod(K:Frag)(mg:MGz)(base:Heap):Prop where
 kin:K.In base
 glob:base.Ns mainGlobals mg
 blt:∃mb,base.Ns builtinsNs mb/\∀x:Str,x≠"__name__"->mb x=bootBuiltins x
 nolimit:base.NoLimit
structure Cx where
 prog:Program
 w:World
 K:Frag
 mg:MGz
 base:Heap
 A:Around
 N:LSz
 s₀:Shared
 H₀:Hp
 env:Env
 outer:List Env
 stack:List Env
 ex:List Addr
 fn:Str->Bool
 calm:Bool
 pn:PNz
 xe:VPz
def frs(l:List Env):List Addr:=l.filterMap (·.frame)
abbrev Cx.fs(X:Cx):List Addr:=frs X.outer
def Vis(sc:Scope)(x:Str):Prop:=sc.names.lookup x=some .local\/sc.names.lookup x=some .cell\/sc.names.lookup x=some .free
def Loc(sc:Scope)(x:Str):Prop:=sc.names.lookup x=some .local\/sc.names.lookup x=some .cell
def Vr(env:Env)(h:Heap)(m:MGz)(x:Str)(u:Value):Prop :=
 (env.kindOf x=some .local/\m x=some u)\/((env.kindOf x=some .cell\/env.kindOf x=some .free)/\∃c,env.cells.lookup x=some c/\h.IsCell c (some u))
structure Cx.Ok(X:Cx):Prop where
 mod:Mod X.K X.mg X.base
 kind:X.env.scope.kind=.function
 glob:X.env.globals=mainGlobals
 blt:X.env.builtins=builtinsNs
 above:X.s₀.heap.objs.size<=X.env.locals
 inj:∀x y c,X.env.cells.lookup x=some c->X.env.cells.lookup y=some c->x=y
 has:∀x,(X.env.kindOf x=some .cell\/X.env.kindOf x=some .free)->∃c,X.env.cells.lookup x=some c
 cab:∀x c,X.fn x=true->X.env.cells.lookup x=some c->X.s₀.heap.objs.size<=c
 hd:X.calm=true->X.A.handled=none
 frames:X.A.frames=some X.stack
 stk:X.stack=X.outer\/(X.stack=X.env::X.outer/\X.env.frame=some X.env.locals)
 exf:∀b∈X.ex,b≠X.env.locals/\∀x c,X.env.cells.lookup x=some c->c≠b
 bs:∀b o,X.base.get? b=some o->X.s₀.heap.get? b=some o/\X.H₀ b=none
 bsz:X.base.objs.size<=X.s₀.heap.objs.size
 noex:∀b o,X.base.get? b=some o->b∉X.ex
 exfs:∀b∈X.ex,b∉X.fs
 funs:X.s₀.heap.FunFrames X.base X.outer
 frf:∀b∈X.fs,X.H₀ b=none
structure Inv(X:Cx)(pins:PNz)(σ:List (Option V))(H:Hp)(s:Shared):Prop where
 ok:X.Ok
 os:s.os=X.s₀.os
 bare:AllBare s.gens
 base:Un X.fs X.ex X.H₀ H X.s₀.heap s.heap
 loc:∃m,s.heap.Ns X.env.locals m/\∀(i:Nat)(x:Str)(v:V),X.N[i]?=some x->σ[i]?=some (some v)->Vis X.env.scope x->∃u,RelV v u/\Vr X.env s.heap m x u
 cell:∀x c,X.env.cells.lookup x=some c->∃v,s.heap.IsCell c v
 free:H X.env.locals=none
 freeC:∀x c,X.env.cells.lookup x=some c->H c=none
 pin:∀p∈X.pn++pins,s.heap.get? p.1=some p.2/\H p.1=none/\p.1≠X.env.locals/\p.1∉X.fs/\∀v,p.2.data≠.cell v
 hok:HOk X.prog X.w H s.heap
 len:σ.length=X.N.length
section
variable{X:Cx}{pins:PNz}{σ:List (Option V)}{H H':Hp}{s:Shared}{h':Heap}
theorem Cx.Ok.nofr(ok:X.Ok){b:Addr}{o:Obj}(e:X.base.get? b=some o):b∉X.fs:=λ hb=>by
 have:=(ok.funs.mem hb).1;rw[e]at this;cases this
theorem Inv.bs(I:Inv X pins σ H s):∀b o,X.base.get? b=some o->s.heap.get? b=some o/\H b=none:=λ b o e =>
 ⟨I.base.keep b o (I.ok.bs b o e).1 (I.ok.bs b o e).2 (I.ok.nofr e) (I.ok.noex b o e),I.base.free b o (I.ok.bs b o e).1 (I.ok.bs b o e).2 (I.ok.noex b o e)⟩
theorem Inv.bk(I:Inv X pins σ H s):∀b o,X.base.get? b=some o->s.heap.get? b=some o:=λ b o e=>(I.bs b o e).1
theorem Inv.mod(I:Inv X pins σ H s):Mod X.K X.mg X.base:=I.ok.mod
theorem Inv.kIn(I:Inv X pins σ H s):X.K.In s.heap:=I.ok.mod.kin.keeps I.bk
theorem Inv.lt(I:Inv X pins σ H s):X.env.locals<s.heap.objs.size:=let ⟨_,hn,_⟩:=I.loc;hn.lt
theorem Inv.sz(I:Inv X pins σ H s):X.s₀.heap.objs.size<=s.heap.objs.size:=ba I.ok.above (aF I.lt)
theorem Inv.nofs(I:Inv X pins σ H s){a:Addr}(h:s.heap.objs.size<=a):a∉X.fs:=λ hb=>by
 obtain⟨_,o,ho,_⟩:=I.ok.funs.mem hb;exact absurd (aQ (aA ho) (ba I.sz h)) (bA _)
theorem Inv.cne(I:Inv X pins σ H s):∀x c,X.env.cells.lookup x=some c->c≠X.env.locals:=λ x c e z=>by
 obtain⟨v,o,ho,hd⟩:=I.cell x c e;obtain⟨m,⟨o',es,ep,ho',hd',_⟩,_⟩:=I.loc;rw[z,ho']at ho;cases ho;rw[hd']at hd;cases hd
theorem Inv.funs(I:Inv X pins σ H s):s.heap.FunFrames X.base X.outer:=by
 have all:∀(l:List Env),(∀b∈frs l,b∈X.fs)->X.s₀.heap.FunFrames X.base l->s.heap.FunFrames X.base l:=by
  intro l
  induction l with
  |nil=>intro _ _;trivial
  |cons env r ih =>
   intro hs hl;obtain⟨hk,⟨L,o,hf,hn,ho,hd⟩,hr⟩:=hl;have hL:L∈X.fs:=hs L (by unfold frs;rw[dz,hf];exact aD);obtain⟨sl,e⟩:=I.base.slot L o ho (I.ok.frf L hL) hL λ z=>I.ok.exfs L z hL;exact⟨hk,⟨L,_,hf,hn,e,hd⟩,ih (λ b hb=>hs b (by unfold frs;rw[dz,hf];exact aJ _ hb)) hr⟩
 exact all X.outer (λ_ hb=>hb) I.ok.funs
theorem Inv.stack(I:Inv X pins σ H s):s.heap.FunFrames X.base X.stack:=by
 rcases I.ok.stk with e|⟨e,hf⟩
 .rw[e];exact I.funs
 .rw[e];obtain⟨m,hn,_⟩:=I.loc;refine .cons (by rw[I.ok.kind];decide) hf hn ?_ I.funs;exact eX (ba I.ok.bsz I.ok.above)
theorem Inv.stkSub(I:Inv X pins σ H s):∀b∈frs X.stack,b∈X.env.locals::X.fs:=λ b hb=>by
 rcases I.ok.stk with e|⟨e,hf⟩
 .rw[e]at hb;exact aJ _ hb
 .rw[e]at hb;unfold frs at hb;rw[dz,hf]at hb;exact hb
theorem Inv.stkFree(I:Inv X pins σ H s):∀b∈frs X.stack,H b=none:=λ b hb=>by
 rcases aO.mp (I.stkSub b hb) with e|hb
 .rw[e];exact I.free
 .obtain⟨_,o,ho,_⟩:=I.ok.funs.mem hb;exact I.base.free b o ho (I.ok.frf b hb) λ z=>I.ok.exfs b z hb
theorem Inv.step{g':Array GenState}{t':Nat}{d':Drawn}{ch:List Addr}(I:Inv X pins σ H s)
  (hch:∀b∈ch,(b∈X.ex\/X.s₀.heap.objs.size<=b)/\b≠X.env.locals/\(∀x c,X.env.cells.lookup x=some c->c≠b)/\∀p∈X.pn++pins,p.1≠b)
  (keep:∀b o,b≠X.env.locals->b∉X.fs->b∉ch->s.heap.get? b=some o->H b=none->h'.get? b=some o)
  (slot:∀b o,b≠X.env.locals->b∈X.fs->b∉ch->s.heap.get? b=some o->H b=none->∃sl,h'.get? b=some { o with slots:=sl }) (free:∀b o,b∉ch->s.heap.get? b=some o->H b=none->H' b=none)
  (there:∀b o,b∉ch->s.heap.get? b=some o->∃o',h'.get? b=some o')
  (tups:∀b xs,H b=some (.tup xs)->H' b=some (.tup xs)) (frzs:∀b o u,H b=some (.frz o u)->H' b=some (.frz o u)) (tbls:∀b ps,H b=some (.tbl ps)->∃more,H' b=some (.tbl (ps++more)))
  (ns:∀m,s.heap.Ns X.env.locals m->h'.Ns X.env.locals m) (hok:HOk X.prog X.w H' h') (hg:AllBare g') :
  Inv X pins σ H' { s with heap:=h',gens:=g',drawn:=d',toks:=t' }:=by
 have neL:∀b o,X.s₀.heap.get? b=some o->b≠X.env.locals:=λ b o e=>aM (aQ (aA e) I.ok.above);have neC:∀b o,X.s₀.heap.get? b=some o->b∉X.ex->b∉ch:=λ b o e hx hb=>by
  rcases(hch b hb).1 with z|z
  .exact hx z
  .exact absurd (aQ (aA e) z) (bA _)
 have cellK:∀x c,X.env.cells.lookup x=some c->∀v,s.heap.IsCell c v->h'.IsCell c v:=λ x c e v ⟨o,ho,hd⟩=>by
  have nch:c∉ch:=λ z=>(hch c z).2.2.1 x c e rfl;by_cases hc:c∈X.fs
  .obtain⟨sl,q⟩:=slot c o (I.cne x c e) hc nch ho (I.freeC x c e);exact⟨_,q,hd⟩
  .exact⟨o,keep c o (I.cne x c e) hc nch ho (I.freeC x c e),hd⟩
 refine⟨I.ok,I.os,hg,⟨λ b o e n hb hx=>?_,λ b o e n hb hx=>?_,λ b o e n hx=>?_,λ b o e hx=>?_,λ b xs e=>tups b xs (I.base.tups b xs e),λ b o xs e=>frzs b o xs (I.base.frzs b o xs e),λ b ps e=>?_⟩,?_,λ x c e=>?_,?_,λ x c e=>?_,λ p hp=>?_,hok,I.len⟩
 .exact keep b o (neL b o e) hb (neC b o e hx) (I.base.keep b o e n hb hx) (I.base.free b o e n hx)
 .obtain⟨sl,e1⟩:=I.base.slot b o e n hb hx;obtain⟨sl',e2⟩:=slot b _ (neL b o e) hb (neC b o e hx) e1 (I.base.free b o e n hx);exact⟨sl',e2⟩
 .obtain⟨o',e1⟩:=I.base.there b o e hx;exact free b o' (neC b o e hx) e1 (I.base.free b o e n hx)
 .obtain⟨o',e1⟩:=I.base.there b o e hx;exact there b o' (neC b o e hx) e1
 .obtain⟨m1,e1⟩:=I.base.tbls b ps e;obtain⟨m2,e2⟩:=tbls b _ e1;exact⟨m1++m2,by rw[e2,Array.append_assoc]⟩
 .obtain⟨m,hn,hl⟩:=I.loc;refine⟨m,ns m hn,λ i x v e1 e2 e3=>?_⟩;obtain⟨u,r,l⟩:=hl i x v e1 e2 e3;refine⟨u,r,?_⟩;rcases l with l|⟨k,c,e,z⟩
  .exact .inl l
  .exact .inr ⟨k,c,e,cellK x c e _ z⟩
 .obtain⟨v,z⟩:=I.cell x c e;exact⟨v,cellK x c e v z⟩
 .obtain⟨m,⟨o,_,_,ho,_⟩,_⟩:=I.loc;exact free _ o (λ z=>(hch _ z).2.1 rfl) ho I.free
 .obtain⟨v,o,ho,hd⟩:=I.cell x c e;exact free c o (λ z=>(hch c z).2.2.1 x c e rfl) ho (I.freeC x c e)
 .obtain⟨e,n,ne,nf,d⟩:=I.pin p hp;have nch:p.1∉ch:=λ z=>(hch p.1 z).2.2.2 p hp rfl;exact⟨keep p.1 p.2 ne nf nch e n,free p.1 p.2 nch e n,ne,nf,d⟩
theorem Inv.un{t':Nat}(I:Inv X pins σ H s)(u:Un X.fs [] H H' s.heap h')(hok:HOk X.prog X.w H' h'):Inv X pins σ H' { s with heap:=h',toks:=t' }:=by
 obtain⟨m,⟨o,es,ep,ho,r⟩,_⟩:=id I.loc;obtain⟨sl,hL⟩:=u.any ho I.free (by simp);exact I.step (g':=s.gens) (d':=s.drawn) (ch:=[]) (λ_ z=>nomatch z) (λ b o _ hb _ e n=>u.keep b o e n hb (by simp)) (λ b o _ hb _ e n=>u.slot b o e n hb (by simp)) (λ b o _ e n=>u.free b o e n (by simp)) (λ b o _ e=>u.there b o e (by simp)) u.tups u.frzs u.tbls (λ m' hm=>by
  obtain⟨o',es',ep',ho',r'⟩:=hm;rw[ho]at ho';cases ho';exact⟨_,es',ep',hL,r'⟩) hok I.bare
theorem Inv.call{g':Array GenState}{t':Nat}{d':Drawn}{ch:List Addr}(I:Inv X pins σ H s)(u:Un (frs X.stack) ch H H' s.heap h')(hok:HOk X.prog X.w H' h')(hg:AllBare g')
  (hch:∀b∈ch,(b∈X.ex\/X.s₀.heap.objs.size<=b)/\b≠X.env.locals/\(∀x c,X.env.cells.lookup x=some c->c≠b)/\∀p∈X.pn++pins,p.1≠b) :
  Inv X pins σ H' { s with heap:=h',gens:=g',drawn:=d',toks:=t' }:=by
 obtain⟨m,⟨o,es,ep,ho,r⟩,_⟩:=id I.loc;obtain⟨sl,hL⟩:=u.any ho I.free λ z=>(hch _ z).2.1 rfl;exact I.step (ch:=ch) hch (λ b o hL hb hc e n=>u.keep b o e n (λ z=>(aO.mp (I.stkSub b z)).elim hL hb) hc) (λ b o _ _ hc e n=>u.any e n hc) (λ b o hc e n=>u.free b o e n hc) (λ b o hc e=>u.there b o e hc) u.tups u.frzs u.tbls (λ m' hm=>by
  obtain⟨o',es',ep',ho',r'⟩:=hm;rw[ho]at ho';cases ho';exact⟨_,es',ep',hL,r'⟩) hok hg
theorem Inv.turned{t':Nat}{it:Addr}(I:Inv X pins σ H s)(k:∀b o,b≠it->s.heap.get? b=some o->h'.get? b=some o)(hn:H it=none)(hL:it≠X.env.locals)
  (h1:it∈X.ex\/X.s₀.heap.objs.size<=it) (h2:∀x c,X.env.cells.lookup x=some c->c≠it) (h3:∀p∈X.pn++pins,p.1≠it):Inv X pins σ H { s with heap:=h',toks:=t' }:=by
 have nit:∀b u,H b=some u->b≠it:=λ b u e z=>by rw[z,hn]at e;cases e
 refine I.step (g':=s.gens) (d':=s.drawn) (ch:=[it]) (λ b hb=>?_) (λ b o _ _ hc e _=>k b o (λ z=>hc (by simp[z])) e) (λ b o _ _ hc e _=>⟨o.slots,k b o (λ z=>hc (by simp[z])) e⟩) (λ_ _ _ _ n=>n)
  (λ b o hc e=>⟨o,k b o (λ z=>hc (by simp[z])) e⟩) (λ_ _ e=>e) (λ_ _ _ e=>e) (λ b ps e=>⟨#[],by rw[e];simp⟩) (λ m hm=>?_) (λ b u e=>?_) I.bare
 .have e:b=it:=by simpa using hb
  subst e;exact⟨h1,hL,h2,h3⟩
 .obtain⟨o,es,ep,ho,r⟩:=hm;exact⟨o,es,ep,k _ o (Ne.symm hL) ho,r⟩
 .refine(I.hok b u e).stay (λ c v hc q=>k c v ?_ q) (λ_ q=>q) λ_ _ q=>q;rcases hc with z|z
  .rw[z];exact nit b u e
  .exact nit c _ z
theorem Inv.tok(I:Inv X pins σ H s)(t:Nat):Inv X pins σ H { s with toks:=t }:=I.un (h':=s.heap) (t':=t) Un.refl I.hok
theorem Inv.kept{t':Nat}(I:Inv X pins σ H s)(k:∀b u,s.heap.get? b=some u->h'.get? b=some u):Inv X pins σ H { s with heap:=h',toks:=t' }:=I.un (Un.kept k) (I.hok.kept k)
theorem Inv.laid{a:Addr}{o:HO}{t':Nat}(I:Inv X pins σ H s)(k:∀b u,s.heap.get? b=some u->h'.get? b=some u)(hp:s.heap.objs.size<=a)(new:ObjOk X.prog X.w (upd H a o) h' a o) :
  Inv X pins σ (upd H a o) { s with heap:=h',toks:=t' }:=I.un (Un.laid k hp (I.hok.fresh hp)) (I.hok.laid k hp new)
theorem Inv.write{x e:Addr}{o:HO}{t':Nat}(I:Inv X pins σ H s)(mu:Mut (H x))(he:e=x\/H e=some (.own x))(k:∀b u,b≠e->s.heap.get? b=some u->h'.get? b=some u)(heo:∃u,h'.get? e=some u)
  (new:ObjOk X.prog X.w (upd H x o) h' x o):Inv X pins σ (upd H x o) { s with heap:=h',toks:=t' }:=I.un (Un.write mu he k heo) (I.hok.write mu he k heo new)
theorem Inv.pins_of{pins':PNz}(I:Inv X pins σ H s)(h:∀p∈pins',s.heap.get? p.1=some p.2/\H p.1=none/\p.1≠X.env.locals/\p.1∉X.fs/\∀v,p.2.data≠.cell v):Inv X pins' σ H s :=
 ⟨I.ok,I.os,I.bare,I.base,I.loc,I.cell,I.free,I.freeC,λ p hp=>(ai.mp hp).elim (λ z=>I.pin p (a9 _ z)) (h p),I.hok,I.len⟩
theorem GS{N:LSz}(hN:N.Nodup){i j:Nat}{x:Str}(a:N[i]?=some x)(b:N[j]?=some x):i=j:=by
 obtain⟨h1,e1⟩:=aH.mp a;obtain⟨h2,e2⟩:=aH.mp b;exact(List.getElem_inj hN).mp (e1.trans e2.symm)
theorem Om{M:Model}{A:Around}{E:VPz}{i:Nat}{x:Str}{v:V}{u:Value}{Q:Unit->Shared->Prop}(I:Inv X pins σ H s)(hN:X.N.Nodup)(hi:X.N[i]?=some x)(hx:Loc X.env.scope x)(r:RelV v u)
  (h:∀s',Inv X pins (σ.set i (some v)) H s'->(∃a,Heap.SameBut a s.heap s'.heap/\(a=X.env.locals\/X.env.cells.lookup x=some a))->Q () s') (hf:X.fn x=true\/X.env.scope.names.lookup x=some .local:=by first|exact .inl rfl|exact .inr rfl|assumption):wpAny M A (storeName X.env x u) Q E s:=by
 obtain⟨m,hn,hl⟩:=id I.loc;have hcls:(X.env.scope.kind==.class||(X.env.scope.kind==.module&&X.env.locals != X.env.globals))=false:=by rw[I.ok.kind];rfl
 have hiσ:i<σ.length:=by rw[I.len];exact(aH.mp hi).1
 have cne:=I.cne;have tracked:∀{a:Addr}{h':Heap},(∃o,s.heap.get? a=some o/\H a=none)->Heap.SameBut a s.heap h'->HOk X.prog X.w H h':=λ{a h'} ha hs b ob e=>by
  obtain⟨_,_,hfree⟩:=ha;refine(I.hok b ob e).stay (λ c w' hc q=>(hs.2 c ?_).trans q) (λ_ q=>q) λ_ _ q=>q;rintro rfl;rcases hc with rfl|hc
  .rw[hfree]at e;cases e
  .rw[hfree]at hc;cases hc
 rcases hx with hk|hk
 .refine wpAny_storeName_local hk hn (λ h' hn' hs=>?_) hcls;obtain⟨oL,_,_,hoL,_⟩:=id hn;refine h _ ⟨I.ok,I.os,I.bare,⟨λ b o e n hb hx=>?_,λ b o e n hb hx=>?_,I.base.free,λ b o e hx=>?_,I.base.tups,I.base.frzs,I.base.tbls⟩,⟨_,hn',λ j y v' e1 e2 e3=>?_⟩,λ y c e=>?_,I.free,I.freeC,λ p hp=>?_,tracked ⟨oL,hoL,I.free⟩ hs,by simpa using I.len⟩ ⟨_,hs,.inl rfl⟩
  .exact(hs.2 b (aM (aQ (aA e) I.ok.above))).trans (I.base.keep b o e n hb hx)
  .obtain⟨sl,e1⟩:=I.base.slot b o e n hb hx;exact⟨sl,(hs.2 b (aM (aQ (aA e) I.ok.above))).trans e1⟩
  .obtain⟨o',e1⟩:=I.base.there b o e hx;exact⟨o',(hs.2 b (aM (aQ (aA e) I.ok.above))).trans e1⟩
  .by_cases hj:j=i
   .subst hj;rw[hi]at e1;cases e1;rw[c8 hiσ]at e2;cases e2;exact⟨u,r,.inl ⟨hk,by simp⟩⟩
   .rw[dj (Ne.symm hj)]at e2;obtain⟨u',r',q⟩:=hl j y v' e1 e2 e3;refine⟨u',r',?_⟩;rcases q with ⟨k,e⟩|⟨k,c,e,z⟩
    .refine .inl ⟨k,?_⟩;have:y≠x:=λ e=>hj (GS hN e1 (e ▸ hi));simp[this,e]
    .exact .inr ⟨k,c,e,z.sameBut hs (cne y c e)⟩
  .obtain⟨w',z⟩:=I.cell y c e;exact⟨w',z.sameBut hs (cne y c e)⟩
  .obtain⟨e,n,ne,nf,d⟩:=I.pin p hp;exact⟨(hs.2 p.1 ne).trans e,n,ne,nf,d⟩
 .have hfn:X.fn x=true:=by
   rcases hf with z|z
   .exact z
   .rw[z]at hk;cases hk
  obtain⟨c,hc⟩:=I.ok.has x (.inl hk);obtain⟨w',z⟩:=I.cell x c hc;refine wpAny_storeName_cell I.ok.kind hk hc z (λ h' hc' hs=>?_);obtain⟨oc,hoc,hocd⟩:=id z;refine h { s with heap:=h' } ⟨I.ok,I.os,I.bare,⟨λ b o e n hb hx=>?_,λ b o e n hb hx=>?_,I.base.free,λ b o e hx=>?_,I.base.tups,I.base.frzs,I.base.tbls⟩,⟨m,hn.sameBut hs (Ne.symm (cne x c hc)),λ j y v' e1 e2 e3=>?_⟩,λ y c' e=>?_,I.free,I.freeC,λ p hp=>?_,tracked ⟨oc,hoc,I.freeC x c hc⟩ hs,by simpa using I.len⟩ ⟨c,hs,.inr hc⟩
  .exact(hs.2 b (aM (aQ (aA e) (I.ok.cab x c hfn hc)))).trans (I.base.keep b o e n hb hx)
  .obtain⟨sl,e1⟩:=I.base.slot b o e n hb hx;exact⟨sl,(hs.2 b (aM (aQ (aA e) (I.ok.cab x c hfn hc)))).trans e1⟩
  .obtain⟨o',e1⟩:=I.base.there b o e hx;exact⟨o',(hs.2 b (aM (aQ (aA e) (I.ok.cab x c hfn hc)))).trans e1⟩
  .by_cases hj:j=i
   .subst hj;rw[hi]at e1;cases e1;rw[c8 hiσ]at e2;cases e2;exact⟨u,r,.inr ⟨.inl hk,c,hc,hc'⟩⟩
   .rw[dj (Ne.symm hj)]at e2;obtain⟨u',r',q⟩:=hl j y v' e1 e2 e3;refine⟨u',r',?_⟩;rcases q with q|⟨k,c',e,z'⟩
    .exact .inl q
    .refine .inr ⟨k,c',e,z'.sameBut hs ?_⟩;rintro rfl;exact hj (GS hN e1 (I.ok.inj _ _ _ e hc ▸ hi))
  .by_cases hcc:c'=c
   .subst hcc;exact⟨_,hc'⟩
   .obtain⟨w2,z2⟩:=I.cell y c' e;exact⟨w2,z2.sameBut hs hcc⟩
  .obtain⟨e,n,ne,nf,d⟩:=I.pin p hp;refine⟨(hs.2 p.1 ?_).trans e,n,ne,nf,d⟩;intro q;rw[q,hoc]at e;have q':oc=p.2:=Option.some.inj e;exact d w' (by rw[<-q'];exact hocd)
theorem ES{M:Model}{A:Around}{E:VPz}{i:Nat}{x:Str}{v:V}{u:Value}{Q:Unit->Shared->Prop}(I:Inv X pins σ H s)(hN:X.N.Nodup)(hi:X.N[i]?=some x)(hx:Loc X.env.scope x)(r:RelV v u)
  (h:∀s',Inv X pins (σ.set i (some v)) H s'->Q () s') (hf:X.fn x=true\/X.env.scope.names.lookup x=some .local:=by first|exact .inl rfl|exact .inr rfl|assumption):wpAny M A (storeName X.env x u) Q E s :=
 Om I hN hi hx r (λ s' I' _=>h s' I') hf
theorem Inv.call'{s':Shared}{ch:List Addr}(I:Inv X pins σ H s)(ho:s'.os=s.os)(u:Un (frs X.stack) ch H H' s.heap s'.heap)(hok:HOk X.prog X.w H' s'.heap)(hg:AllBare s'.gens)
  (hch:∀b∈ch,(b∈X.ex\/X.s₀.heap.objs.size<=b)/\b≠X.env.locals/\(∀x c,X.env.cells.lookup x=some c->c≠b)/\∀p∈X.pn++pins,p.1≠b):Inv X pins σ H' s':=by
 obtain⟨h',g',d',t',o'⟩:=s';have e:o'=s.os:=ho;subst e;exact I.call (g':=g') (t':=t') (d':=d') u hok hg hch
end
abbrev XK:=Value->Option Addr->Hp->Prop
abbrev St:=List (Option V)
abbrev VK:=V->Hp->Prop
abbrev TE:=St->Hp->VK->Prop
abbrev TT:=St->Hp->(Bool->Hp->Prop)->Prop
abbrev TA:=St->Hp->(LUz->Hp->Prop)->Prop
structure Cd where
 nx:St->Hp->Prop
 rt:VK
 bk:St->Hp->Prop:=λ_ _=>False
 ct:St->Hp->Prop:=λ_ _=>False
abbrev TS:=Cd->St->Hp->Prop
def EP(X:Cx)(pins:PNz)(σ:St)(Q:VK)(u:Value)(s':Shared):Prop:=∃v H',Inv X pins σ H' s'/\RelV v u/\Q v H'
def TP(X:Cx)(pins:PNz)(σ:St)(Q:Bool->Hp->Prop)(b:Bool)(s':Shared):Prop:=∃H',Inv X pins σ H' s'/\Q b H'
def AP(X:Cx)(pins:PNz)(σ:St)(Q:LUz->Hp->Prop)(us:LWz)(s':Shared):Prop:=∃vs H',Inv X pins σ H' s'/\Vals vs us/\Q vs H'
def SP(X:Cx)(pins:PNz)(D:Cd)(f:Flow)(s':Shared):Prop :=
 match f with
 |.next=>∃σ' H',Inv X pins σ' H' s'/\D.nx σ' H'
 |.brk=>∃σ' H',Inv X pins σ' H' s'/\D.bk σ' H'
 |.cont=>∃σ' H',Inv X pins σ' H' s'/\D.ct σ' H'
 |.ret u=>∃v σ' H',Inv X pins σ' H' s'/\RelV v u/\D.rt v H'
def PE(X:Cx)(e:Expr)(t:TE):Prop :=
 ∀(pins:PNz)(s:Shared)(σ:St)(H:Hp)(Q:VK),Inv X pins σ H s->t σ H Q->wpAny (model X.prog X.w) X.A (eval e X.env) (EP X pins σ Q) X.xe s
def PT(X:Cx)(e:Expr)(t:TT):Prop :=
 ∀(pins:PNz)(s:Shared)(σ:St)(H:Hp)(Q:Bool->Hp->Prop),Inv X pins σ H s->t σ H Q->wpAny (model X.prog X.w) X.A (isTrue e X.env (eval e X.env)) (TP X pins σ Q) X.xe s
def PW(X:Cx)(e:Expr)(t:TT):Prop :=
 ∀(whole:Sem Value)(pins:PNz)(s:Shared)(σ:St)(H:Hp)(Q:Bool->Hp->Prop),Inv X pins σ H s->t σ H Q->wpAny (model X.prog X.w) X.A (isTrue e X.env whole) (TP X pins σ Q) X.xe s
theorem PW.pt{X:Cx}{e:Expr}{t:TT}(h:PW X e t):PT X e t:=h _
def PA(X:Cx)(es:List Expr)(t:TA):Prop :=
 ∀(pos:Pos)(pins:PNz)(s:Shared)(σ:St)(H:Hp)(Q:LUz->Hp->Prop),Inv X pins σ H s->t σ H Q->wpAny (model X.prog X.w) X.A (spliced (backTo pos (starEach es X.env))) (AP X pins σ Q) X.xe s
def PS(X:Cx)(st:Stmt)(t:TS):Prop :=
 ∀(pins:PNz)(s:Shared)(σ:St)(H:Hp)(D:Cd),Inv X pins σ H s->t D σ H->wpAny (model X.prog X.w) X.A (exec st X.env) (SP X pins D) X.xe s
def PSs(X:Cx)(st:List Stmt)(t:TS):Prop :=
 ∀(pins:PNz)(s:Shared)(σ:St)(H:Hp)(D:Cd),Inv X pins σ H s->t D σ H->wpAny (model X.prog X.w) X.A (execs st X.env) (SP X pins D) X.xe s
theorem thn{α:Type}{t:Sem α}{Q Q':α->Shared->Prop}{M:Model}{A:Around}{E:VPz}{s:Shared}(h:wpAny M A t Q E s)(hQ:∀a s,Q a s->Q' a s):wpAny M A t Q' E s:=wpAny_mono h hQ λ_ _ x=>x
section
variable{X:Cx}
inductive UC(i:Nat)(σ:St)(H:Hp)(Q:VK):Prop
 |mk (v:V) (e:σ[i]?=some (some v)) (q:Q v H):UC i σ H Q
def To(i:Nat):TE:=λ σ H Q=>UC i σ H Q
inductive IBl(x:V)(Q:Bool->Prop):Prop
 |mk (c:Bool) (e:x=.bl c) (q:Q c):IBl x Q
def tC(v:V):TE:=λ_ H Q=>Q v H
theorem S8{i:Nat}{x:Str}{pos:Pos}(hN:X.N[i]?=some x)(hv:Vis X.env.scope x)(hd:(x==("__debug__":Str))=false:=by decide)(hcd:(x==("__classdict__":Str))=false:=by decide):PE X (.Name x pos) (To i):=by
 intro pins s σ H Q I h;obtain⟨v,e,h⟩:=h;obtain⟨m,hn,hl⟩:=I.loc;obtain⟨u,r,l⟩:=hl i x v hN e hv;have fin:EP X pins σ Q u s:=⟨v,H,I,r,h⟩;rcases l with ⟨hk,hm⟩|⟨hk,c,hc,hcell⟩
 .exact wpAny_Name (wpAny_loadName_local I.ok.kind hk hn hm fin) hd
 .rcases hk with hk|hk
  .exact wpAny_Name (wpAny_loadName_cell I.ok.kind hk hc hcell fin) hd
  .exact wpAny_Name (wpAny_loadName_free I.ok.kind hk hc hcell fin hcd) hd
theorem Ad{i j pos}:PE X (.Constant (.int i) j pos) (tC (.int i)):=λ_ _ _ H _ I h=>wpAny_Constant_int ⟨.int i,H,I.tok _,⟨_,rfl⟩,h⟩
theorem Bq{b j pos}:PE X (.Constant (.bool b) j pos) (tC (.bl b)):=λ_ _ _ H _ I h=>Constant_bool ⟨.bl b,H,I,rfl,h⟩
theorem BY{j pos}:PE X (.Constant .none j pos) (tC .non):=λ_ _ _ H _ I h=>Constant_none ⟨.non,H,I,rfl,h⟩
theorem G9{x j pos}:PE X (.Constant (.str x) j pos) (tC (.str x)):=λ_ _ _ H _ I h=>Calls.Constant_str ⟨.str x,H,I.tok _,⟨_,rfl⟩,h⟩
def Gl(X:Cx)(x:Str):Prop:=X.env.kindOf x=some .globalImplicit
theorem DF{E:VPz}{pins:PNz}{s:Shared}{σ:St}{H:Hp}{x:Str}{u:Value}{pos:Pos}{Q:VPz}(I:Inv X pins σ H s)(hg:Gl X x)(hm:X.mg x=some u)(h:Q u s)
  (hd:(x==("__debug__":Str))=false:=by decide):wpAny (model X.prog X.w) X.A (eval (.Name x pos) X.env) Q E s :=
 Calls.Name_function_global I.ok.kind hg (Calls.loadGlobal_global (by rw[I.ok.glob];exact I.mod.glob.keeps I.bk) hm h) hd
theorem EG{E:VPz}{pins:PNz}{s:Shared}{σ:St}{H:Hp}{x:Str}{u:Value}{pos:Pos}{Q:VPz}(I:Inv X pins σ H s)(hg:Gl X x)(hm:X.mg x=none)(hv:bootBuiltins x=some u)(h:Q u s)
  (hn:x≠"__name__":=by decide) (hd:(x==("__debug__":Str))=false:=by decide):wpAny (model X.prog X.w) X.A (eval (.Name x pos) X.env) Q E s:=by
 obtain⟨mb,h1,h2⟩:=I.mod.blt;exact Calls.Name_function_global I.ok.kind hg (Calls.loadGlobal_builtin (by rw[I.ok.glob];exact I.mod.glob.keeps I.bk) hm (by rw[I.ok.blt];exact h1.keeps I.bk) ((h2 x hn).trans hv) h) hd
theorem A9{x:Str}{v:V}{u:Value}{pos:Pos}(hg:Gl X x)(hm:X.mg x=some u)(r:RelV v u)(hd:(x==("__debug__":Str))=false:=by decide):PE X (.Name x pos) (tC v) :=
 λ_ _ _ H _ I h=>DF I hg hm ⟨v,H,I,r,h⟩ hd
theorem El{x:Str}{v:V}{u:Value}{pos:Pos}(hg:Gl X x)(hm:X.mg x=none)(hv:bootBuiltins x=some u)(r:RelV v u)(hn:x≠"__name__":=by decide)(hd:(x==("__debug__":Str))=false:=by decide):PE X (.Name x pos) (tC v) :=
 λ_ _ _ H _ I h=>EG I hg hm hv ⟨v,H,I,r,h⟩ hn hd
variable{a b:Expr}{ta tb:TE}{pos:Pos}
def PC(X:Cx)(op:CmpOp)(a b:Expr)(t:TE):Prop :=
 ∀(pins:PNz)(s:Shared)(σ:St)(H:Hp)(Q:VK),Inv X pins σ H s->t σ H Q ->
  wpAny (model X.prog X.w) X.A (eval a X.env) (λ v s₁=>wpAny (model X.prog X.w) X.A (eval b X.env) (λ u s₂=>wpAny (model X.prog X.w) X.A (compareOp op v u) (EP X pins σ Q) X.xe s₂) X.xe s₁) X.xe s
def tB(t:TE):TT:=λ σ H Q=>t σ H λ x H1=>IBl x λ c=>Q c H1
theorem J2{op:CmpOp}{t:TE}(h:PC X op a b t)(h1:behindInMarks op b=false:=by first|exact nobehind _ (by decide) (by decide)|rfl):PT X (.Compare a [op] [b] pos) (tB t):=by
 intro pins s σ H Q I hw;refine wpAny_isTrue_Compare1 (thn (h pins s σ H _ I hw) λ v s1 h1=>thn h1 λ u s2 h2=>thn h2 λ c s3 hz_=>?_) h1;obtain⟨x,H1,I1,r1,q1⟩:=hz_;obtain⟨d,rfl,q⟩:=q1;cases r1;exact wpAny_truthy_bool ⟨H1,I1,q⟩
theorem AI{e:Expr}{t:TE}(h:PE X e t)(he:∀whole,isTrue e X.env whole=(do let v <-whole;standAt e.pos;holding [v] (truthy v)):=by intro _;rfl):PT X e (tB t):=by
  intro pins s σ H Q I hw;refine isTrue_plain (thn (h pins s σ H _ I hw) λ v s1 hz_=>?_) (he _);obtain⟨x,H1,I1,r1,q1⟩:=hz_;obtain⟨d,rfl,q⟩:=q1;cases r1;exact wpAny_truthy_bool ⟨H1,I1,q⟩
variable{tA tB':TT}{rest:List Expr}
def UU(t u:TT):TT:=λ σ H Q=>t σ H λ c H1=>if c=true then u σ H1 Q else Q false H1
def tOr(t u:TT):TT:=λ σ H Q=>t σ H λ c H1=>if c=true then Q true H1 else u σ H1 Q
def UN(t:TT):TT:=λ σ H Q=>t σ H λ c H1=>Q (!c) H1
theorem DC(ha:PT X a tA):PW X (.BoolOp .And [a] pos) tA:=by
 intro wh pins s σ H Q I h;refine isTrue_and (thn (ha pins s σ H Q I h) λ c s1 e=>?_);cases c with
 |true=>exact isTrue_and_nil e
 |false=>exact e
theorem BC(ha:PT X a tA):PW X (.BoolOp .Or [a] pos) tA:=by
 intro wh pins s σ H Q I h;refine isTrue_or (thn (ha pins s σ H Q I h) λ c s1 e=>?_);cases c with
 |false=>exact isTrue_or_nil e
 |true=>exact e
theorem Cp(ha:PT X a tA)(hb:PW X (.BoolOp .And (b::rest) pos) tB'):PW X (.BoolOp .And (a::b::rest) pos) (UU tA tB'):=by
 intro wh pins s σ H Q I h;refine isTrue_and (thn (ha pins s σ H _ I h) λ c s1 hz_=>?_);obtain⟨H1,I1,q1⟩:=hz_;cases c with
 |true=>exact hb wh pins s1 σ H1 Q I1 q1
 |false=>exact⟨H1,I1,q1⟩
theorem BL(ha:PT X a tA)(hb:PW X (.BoolOp .Or (b::rest) pos) tB'):PW X (.BoolOp .Or (a::b::rest) pos) (tOr tA tB'):=by
 intro wh pins s σ H Q I h;refine isTrue_or (thn (ha pins s σ H _ I h) λ c s1 hz_=>?_);obtain⟨H1,I1,q1⟩:=hz_;cases c with
 |true=>exact⟨H1,I1,q1⟩
 |false=>exact hb wh pins s1 σ H1 Q I1 q1
theorem AW(ha:PT X a tA):PT X (.UnaryOp .Not a pos) (UN tA):=by
 intro pins s σ H Q I h;exact isTrue_not (ha pins s σ H (λ c H1=>Q (!c) H1) I h)
def TB(ta tb:TE):TE:=λ σ H Q=>ta σ H λ x H1=>IBl x λ c=>if c=true then tb σ H1 Q else Q (.bl false) H1
def UM(ta tb:TE):TE:=λ σ H Q=>ta σ H λ x H1=>IBl x λ c=>if c=true then Q (.bl true) H1 else tb σ H1 Q
def Tu(ta:TE):TE:=λ σ H Q=>ta σ H λ x H1=>IBl x λ c=>Q (.bl (!c)) H1
theorem Bg{op}{t:TE}(h:PE X a t):PE X (.BoolOp op [a] pos) t:=λ pins s σ H Q I hw=>BoolOp_one (h pins s σ H Q I hw)
theorem Bm(ha:PE X a ta)(hb:PE X (.BoolOp .And (b::rest) pos) tb):PE X (.BoolOp .And (a::b::rest) pos) (TB ta tb):=by
 intro pins s σ H Q I h;refine BoolOp_and (thn (ha pins s σ H _ I h) λ v s1 hz_=>?_);obtain⟨x,H1,I1,r1,q1⟩:=hz_;obtain⟨c,rfl,q1⟩:=q1;cases r1;refine wpAny_truthy_bool ?_;cases c with
 |true=>exact hb pins s1 σ H1 Q I1 q1
 |false=>exact⟨.bl false,H1,I1,rfl,q1⟩
theorem I9(ha:PE X a ta)(hb:PE X (.BoolOp .Or (b::rest) pos) tb):PE X (.BoolOp .Or (a::b::rest) pos) (UM ta tb):=by
 intro pins s σ H Q I h;refine BoolOp_or (thn (ha pins s σ H _ I h) λ v s1 hz_=>?_);obtain⟨x,H1,I1,r1,q1⟩:=hz_;obtain⟨c,rfl,q1⟩:=q1;cases r1;refine wpAny_truthy_bool ?_;cases c with
 |false=>exact hb pins s1 σ H1 Q I1 q1
 |true=>exact⟨.bl true,H1,I1,rfl,q1⟩
theorem JC(ha:PE X a ta):PE X (.UnaryOp .Not a pos) (Tu ta):=by
 intro pins s σ H Q I h;refine UnaryOp_ (thn (ha pins s σ H _ I h) λ v s1 hz_=>?_);obtain⟨x,H1,I1,r1,q1⟩:=hz_;obtain⟨c,rfl,q1⟩:=q1;cases r1;exact not_of (wpAny_truthy_bool ⟨.bl (!c),H1,I1,rfl,q1⟩)
end
def SqL(K:Frag)(H:Hp)(a:Addr)(xs:LUz):Prop :=
 Rd H a (.lst xs) \/
  ∃(o:Obj)(its:Array Value)(n:Nat),K.lookup a=some o/\o.cls=.type "list"/\o.dict=none/\o.data=.seq its n/\its.size<=sizeLine/\Vals xs its.toList
def SqT(K:Frag)(H:Hp)(a:Addr)(xs:LUz):Prop :=
 Rd H a (.tup xs) \/
  ∃(o:Obj)(its:Array Value)(n:Nat),K.lookup a=some o/\o.cls=.type "tuple"/\o.data=.seq its n/\its.size<=sizeLine/\Vals xs its.toList
def Vo:Value->Option V
 |.none=>some .non
 |.bool b=>some (.bl b)
 |.int i _=>some (.int i)
 |.str x _=>some (.str x)
 |.bytes b _=>some (.byt b)
 |.float b _=>some (.flt b)
 |.ref a=>some (.ref a)
 |.type n=>some (.ty n)
 |_=>none
theorem RelV.abs{x:V}{u:Value}(r:RelV x u):Vo u=some x:=by
 cases x with
 |non=>cases r;rfl
 |bl _=>cases r;rfl
 |int _=>obtain⟨t,rfl⟩:=r;rfl
 |str _=>obtain⟨t,rfl⟩:=r;rfl
 |byt _=>obtain⟨t,rfl⟩:=r;rfl
 |flt _=>obtain⟨t,rfl⟩:=r;rfl
 |ref _=>cases r;rfl
 |ty _=>cases r;rfl
theorem RelV.inj{x y:V}{u:Value}(r:RelV x u)(q:RelV y u):x=y:=Option.some.inj (r.abs.symm.trans q.abs)
theorem Vals.inj:∀{xs ys:LUz}{us:LWz},Vals xs us->Vals ys us->xs=ys
 |_,_,_,.nil,.nil=>rfl
 |_,_,_,.cons r t,.cons r' t'=>by rw[r.inj r',Vals.inj t t']
section
variable{X:Cx}{pins:PNz}{σ:St}{H:Hp}{s:Shared}{a:Addr}{xs ys:LUz}
theorem SqL.of{K:Frag}(h:H a=some (.lst xs)):SqL K H a xs:=.inl (.inl h)
theorem SqT.of{K:Frag}(h:H a=some (.tup xs)):SqT K H a xs:=.inl (.inl h)
theorem Inv.list(I:Inv X pins σ H s)(h:SqL X.K H a xs):∃its:LWz,Vals xs its/\PlainL s.heap a its.toArray/\xs.length<=sizeLine:=by
 rcases h with h|⟨o,its,n,hk,hc,hd,hs,hz,r⟩
 .obtain⟨z,its,n,r,e⟩:=h.ok I.hok;exact⟨its,r,⟨_,n,e,rfl,rfl,rfl⟩,z⟩
 .refine⟨its.toList,r,⟨o,n,I.kIn a o hk,hc,hd,by simpa using hs⟩,?_⟩;have e:=r.length;simp only[bY]at e;lia
theorem Inv.tuple(I:Inv X pins σ H s)(h:SqT X.K H a xs):∃its:LWz,Vals xs its/\IsTup s.heap a its.toArray/\xs.length<=sizeLine:=by
 rcases h with h|⟨o,its,n,hk,hc,hs,hz,r⟩
 .obtain⟨z,its,r,p⟩:=h.ok I.hok;exact⟨its,r,p,z⟩
 .refine⟨its.toList,r,⟨o,I.kIn a o hk,hc,n,by simpa using hs⟩,?_⟩;have e:=r.length;simp only[bY]at e;lia
theorem Inv.list_inj(I:Inv X pins σ H s)(h:SqL X.K H a xs)(h':SqL X.K H a ys):xs=ys:=by
 obtain⟨its,r,⟨o,n,e,_,_,d⟩,_⟩:=I.list h;obtain⟨its',r',⟨o',n',e',_,_,d'⟩,_⟩:=I.list h';rw[e]at e';cases e';rw[d]at d';injection d' with d1 _;have:its=its':=by simpa using congrArg Array.toList d1
 subst this;exact r.inj r'
theorem Inv.tuple_inj(I:Inv X pins σ H s)(h:SqT X.K H a xs)(h':SqT X.K H a ys):xs=ys:=by
 obtain⟨its,r,⟨o,e,_,n,d⟩,_⟩:=I.tuple h;obtain⟨its',r',⟨o',e',_,n',d'⟩,_⟩:=I.tuple h';rw[e]at e';cases e';rw[d]at d';injection d' with d1 _;have:its=its':=by simpa using congrArg Array.toList d1
 subst this;exact r.inj r'
end
abbrev Cx.wish(X:Cx)(E:VPz):Cx:={ X with xe:=E }
abbrev Cx.nox(X:Cx):Cx:=X.wish λ_ _=>False
theorem Cx.Ok.wish{X:Cx}(ok:X.Ok)(E:VPz):(X.wish E).Ok :=
 ⟨ok.mod,ok.kind,ok.glob,ok.blt,ok.above,ok.inj,ok.has,ok.cab,ok.hd,ok.frames,ok.stk,ok.exf,ok.bs,ok.bsz,ok.noex,ok.exfs,ok.funs,ok.frf⟩
theorem Cx.Ok.unwish{X:Cx}{E:VPz}(ok:(X.wish E).Ok):X.Ok :=
 ⟨ok.mod,ok.kind,ok.glob,ok.blt,ok.above,ok.inj,ok.has,ok.cab,ok.hd,ok.frames,ok.stk,ok.exf,ok.bs,ok.bsz,ok.noex,ok.exfs,ok.funs,ok.frf⟩
section
variable{X:Cx}{pins:PNz}{σ:St}{H:Hp}{s:Shared}{E:VPz}
theorem Inv.wish(I:Inv X pins σ H s)(E:VPz):Inv (X.wish E) pins σ H s:=⟨I.ok.wish E,I.os,I.bare,I.base,I.loc,I.cell,I.free,I.freeC,I.pin,I.hok,I.len⟩
theorem Inv.unwish(I:Inv (X.wish E) pins σ H s):Inv X pins σ H s:=⟨I.ok.unwish,I.os,I.bare,I.base,I.loc,I.cell,I.free,I.freeC,I.pin,I.hok,I.len⟩
theorem SP.unwish{D:Cd}{f:Flow}{s':Shared}(h:SP (X.wish E) pins D f s'):SP X pins D f s':=by
 cases f with
 |next=>obtain⟨σ',H',I,q⟩:=h;exact⟨σ',H',I.unwish,q⟩
 |brk=>obtain⟨σ',H',I,q⟩:=h;exact⟨σ',H',I.unwish,q⟩
 |cont=>obtain⟨σ',H',I,q⟩:=h;exact⟨σ',H',I.unwish,q⟩
 |ret u=>obtain⟨v,σ',H',I,r,q⟩:=h;exact⟨v,σ',H',I.unwish,r,q⟩
theorem PSs.nox{st:List Stmt}{t:TS}(h:PSs X.nox st t):PSs X st t:=λ pins s σ H D I hw =>
 wpAny_mono (h pins s σ H D (I.wish _) hw) (λ_ _ q=>q.unwish) λ_ _ z=>False.elim z
end
section
variable{X:Cx}{st:Stmt}{rest:List Stmt}{t u:TS}{e:Expr}{te:TE}{pos:Pos}
def Tv:TS:=λ D σ H=>D.nx σ H
def UK(t u:TS):TS:=λ D σ H=>t { D with nx:=u D } σ H
theorem Az:PSs X [] Tv:=λ_ _ σ H _ I h=>wpAny_execs_nil ⟨σ,H,I,h⟩
theorem Ac(h1:PS X st t)(h2:PSs X rest u):PSs X (st::rest) (UK t u):=by
 intro pins s σ H D I h;refine wpAny_execs_cons (thn (h1 pins s σ H { D with nx:=u D } I h) λ f s1 q=>?_);cases f with
 |next =>
  obtain⟨σ',H',I',q⟩:=q;exact h2 pins s1 σ' H' D I' q
 |ret v=>exact q
 |brk=>exact q
 |cont=>exact q
theorem Ah(h1:PS X st t):PSs X [st] t:=by
 intro pins s σ H D I h;refine wpAny_execs_cons (thn (h1 pins s σ H D I h) λ f s1 q=>?_);cases f with
 |next=>exact wpAny_execs_nil q
 |ret v=>exact q
 |brk=>exact q
 |cont=>exact q
def T7:TS:=λ D σ H=>D.ct σ H
theorem KM:PS X (.Continue pos) T7:=λ_ _ σ H _ I h=>wpAny_Continue ⟨σ,H,I,h⟩
theorem Inv.quiet{pins:PNz}{σ:St}{H:Hp}{s:Shared}(I:Inv X pins σ H s):interactive X.env=false:=by simp[interactive,I.ok.kind]
def Tx(te:TE):TS:=λ D σ H=>te σ H λ_ H1=>D.nx σ H1
theorem AS(he:PE X e te)(hs:swapsWith e none pos.line X.env=pure false:=by rfl):PS X (.Expr e pos) (Tx te):=by
 intro pins s σ H D I h;exact wpAny_Expr_any (thn (he pins s σ H _ I h) λ v s1 ⟨x,H1,I1,r1,q1⟩=>⟨σ,H1,I1,q1⟩) I.quiet hs
def UL(te:TE):TS:=λ D σ H=>te σ H D.rt
theorem Ap(he:PE X e te):PS X (.Return (some e) pos) (UL te):=by
 intro pins s σ H D I h;exact wpAny_Return_some (thn (he pins s σ H _ I h) λ v s1 ⟨x,H1,I1,r1,q1⟩=>⟨x,σ,H1,I1,r1,q1⟩)
def UP(c:TT)(t u:TS):TS:=λ D σ H=>c σ H λ b H1=>if b=true then t D σ H1 else u D σ H1
theorem A7{c:Expr}{a b:List Stmt}{tc:TT}(hc:PT X c tc)(ha:PSs X a t)(hb:PSs X b u):PS X (.If c a b pos) (UP tc t u):=by
 intro pins s σ H D I h;refine wpAny_If (thn (hc pins s σ H _ I h) λ d s1 hz_=>?_);obtain⟨H1,I1,q1⟩:=hz_;cases d with
 |true=>exact ha pins s1 σ H1 D I1 q1
 |false=>exact hb pins s1 σ H1 D I1 q1
def Sx:TS:=λ_ _ _=>False
theorem Dq:PS X st Sx:=λ_ _ _ _ _ _ h=>h.elim
end
abbrev TG:=V->St->Hp->(St->Hp->Prop)->Prop
abbrev TGs:=LUz->St->Hp->(St->Hp->Prop)->Prop
def PG(X:Cx)(target:Expr)(t:TG):Prop :=
 ∀(pins:PNz)(s:Shared)(σ:St)(H:Hp)(v:V)(u:Value)(Q:St->Hp->Prop),Inv X pins σ H s->RelV v u->t v σ H Q ->
  wpAny (model X.prog X.w) X.A (assign target X.env u) (λ_ s'=>∃σ' H',Inv X pins σ' H' s'/\Q σ' H') X.xe s
def PGs(X:Cx)(ts:List Expr)(t:TGs):Prop :=
 ∀(pins:PNz)(s:Shared)(σ:St)(H:Hp)(vs:LUz)(us:LWz)(Q:St->Hp->Prop),Inv X pins σ H s->Vals vs us->t vs σ H Q ->
  wpAny (model X.prog X.w) X.A (assignInOrder ((assignEach ts X.env).map (·.2)) us) (λ_ s'=>∃σ' H',Inv X pins σ' H' s'/\Q σ' H') X.xe s
abbrev Ti:=V->V->V->Hp->(Hp->Prop)->Prop
def U5(X:Cx)(t:Ti):Prop :=
 ∀(pins:PNz)(s:Shared)(σ:St)(H:Hp)(o i v:V)(ov iv u:Value)(Q:Hp->Prop),Inv X pins σ H s->RelV o ov->RelV i iv->RelV v u->t o i v H Q ->
  wpAny (model X.prog X.w) X.A (setItem ov iv u) (λ_ s'=>∃H',Inv X pins σ H' s'/\Q H') X.xe s
section
variable{X:Cx}{pos:Pos}
def Qf(i:Nat):TG:=λ v σ H Q=>Q (σ.set i (some v)) H
theorem Al{i:Nat}{x:Str}(hN:X.N.Nodup)(hi:X.N[i]?=some x)(hx:Loc X.env.scope x)(hf:X.fn x=true\/X.env.scope.names.lookup x=some .local:=by first|exact .inl rfl|exact .inr rfl|assumption):PG X (.Name x pos) (Qf i):=by
 intro pins s σ H v u Q I r h;exact wpAny_assign_Name (ES I hN hi hx r (λ s' I'=>⟨_,H,I',h⟩) hf)
def Vm:TGs:=λ vs σ H Q=>vs=[]/\Q σ H
def Ur(t:TG)(u:TGs):TGs:=λ vs σ H Q=>∃v r,vs=v::r/\t v σ H λ σ' H'=>u r σ' H' Q
theorem AZ:PGs X [] Vm:=by
 intro pins s σ H vs us Q I r h;obtain⟨e,h⟩:=h;subst e;cases r;exact assignInOrder_nil ⟨σ,H,I,h⟩
theorem Au{e:Expr}{es:List Expr}{t:TG}{u:TGs}(h1:PG X e t)(h2:PGs X es u)
  (hs:(assignEach (e::es) X.env).map (·.2)=assign e X.env::(assignEach es X.env).map (·.2):=by rfl):PGs X (e::es) (Ur t u):=by
 intro pins s σ H vs us Q I r h;obtain⟨v,vr,e1,h⟩:=h;subst e1;cases r with
 |cons r rr =>
  rw[hs];refine assignInOrder_cons (thn (h1 pins s σ H _ _ _ I r h) λ_ s1 hz_=>?_);obtain⟨σ1,H1,I1,q1⟩:=hz_;exact h2 pins s1 σ1 H1 _ _ Q I1 rr q1
inductive Sj(K:Frag)(n:Nat)(t:TGs)(v:V)(σ:St)(H:Hp)(Q:St->Hp->Prop):Prop
 |mk (a:Addr) (xs:LUz) (e:v=.ref a) (s:SqT K H a xs) (l:xs.length=n) (q:t xs σ H Q):Sj K n t v σ H Q
def Uq(K:Frag)(n:Nat)(t:TGs):TG:=λ v σ H Q=>Sj K n t v σ H Q
theorem Bz{es:List Expr}{k:Nat}{t:TGs}{n:Nat}(hc:X.calm=true)(h:PGs X es t)
  (hn:(assignEach es X.env).length=n:=by rfl) (hst:(assignEach es X.env).findIdx? (·.1)=none:=by rfl):PG X (.Tuple es k pos) (Uq X.K n t):=by
 intro pins s σ H v u Q I r hw;obtain⟨a,xs,e1,hq,hl,hw⟩:=hw;subst e1;cases r;obtain⟨its,rv,ht,hz⟩:=I.tuple hq;refine assign_Tuple_tuple (I.ok.hd hc) ht (by simp[hn,<-hl,rv.length]) hst λ h' hx=>?_;have I1:Inv X pins σ H { s with heap:=h' }:=I.kept (t':=s.toks) λ b o e=>hx b o (aM (aA e)) e;exact h pins _ σ H xs _ Q I1 (by simpa using rv) hw
def Vl(to ti:TE)(t:Ti):TG:=λ v σ H Q=>to σ H λ o H1=>ti σ H1 λ i H2=>t o i v H2 λ H3=>Q σ H3
theorem P6{o i:Expr}{to ti:TE}{t:Ti}(ho:PE X o to)(hi:PE X i ti)(hs:U5 X t)
    (ha:∀v,assign (.Subscript o i pos) X.env v=(do
      let ov <-holding [v] (eval o X.env)
      let iv <-holding [v,ov] (eval i X.env)
      standAt pos
      holding [v,ov,iv] (setItem ov iv v)
      release [v,ov,iv] []):=by intro _;rfl):PG X (.Subscript o i pos) (Vl to ti t):=by
  intro pins s σ H v u Q I r h;rw[ha];refine wpAny_bind (wpAny_holding (thn (ho pins s σ H _ I h) λ ov s1 hz_=>?_));obtain⟨x,H1,I1,r1,q1⟩:=hz_;refine wpAny_bind (wpAny_holding (thn (hi pins s1 σ H1 _ I1 q1) λ iv s2 hz_=>?_));obtain⟨y,H2,I2,r2,q2⟩:=hz_;refine wpAny_bind (wpAny_standAt (wpAny_bind (wpAny_holding (thn (hs pins s2 σ H2 x y v ov iv u _ I2 r1 r2 r q2) λ_ s3 hz_=>?_))));obtain⟨H3,I3,q3⟩:=hz_;exact wpAny_release ⟨σ,H3,I3,q3⟩
def QL(te:TE)(g:TG):TS:=λ D σ H=>te σ H λ x H1=>g x σ H1 D.nx
theorem Di{tg e:Expr}{te:TE}{g:TG}(he:PE X e te)(hg:PG X tg g)(hs:swapsWithSole [tg] e pos.line X.env=pure false:=by rfl)(hw:swappedStores [tg] e X.env=pure none:=by rfl)
  (h1:(assignEach [tg] X.env).map (·.2)=[assign tg X.env]:=by rfl):PS X (.Assign [tg] e pos) (QL te g):=by
 intro pins s σ H D I h;refine wpAny_Assign_stores (thn (he pins s σ H _ I h) λ v s1 hz_=>?_) hs hw;obtain⟨x,H1,I1,r1,q1⟩:=hz_;rw[h1];exact thn (hg pins s1 σ H1 x v _ I1 r1 q1) λ_ s2 q=>q
theorem Ar{i:Nat}{x:Str}{e:Expr}{te:TE}{pos':Pos}(hN:X.N.Nodup)(hi:X.N[i]?=some x)(hx:Loc X.env.scope x)(he:PE X e te)(hs:swapsWith e (some (.Name x pos')) pos.line X.env=pure false:=by rfl)(hf:X.fn x=true\/X.env.scope.names.lookup x=some .local:=by first|exact .inl rfl|exact .inr rfl|assumption) :
  PS X (.Assign [.Name x pos'] e pos) (QL te (Qf i)):=by
 intro pins s σ H D I h;refine wpAny_Assign_Name (thn (he pins s σ H _ I h) λ v s1 hz_=>?_) hs;obtain⟨y,H1,I1,r1,q1⟩:=hz_;exact ES I1 hN hi hx r1 (λ s2 I2=>⟨_,H1,I2,q1⟩) hf
def Pe(c:TT)(tb:TS):TS:=λ D σ H=>∃W:Nat->St->Hp->Prop,(∃m,W m σ H)/\∀m σ H,W m σ H ->
 c σ H λ b H1=>if b=true then ∃N:St->Hp->Prop,(∀σ' H',N σ' H'->∃m',m'<m/\W m' σ' H')/\tb { D with nx:=N,ct:=N,bk:=D.nx } σ H1 else D.nx σ H1
theorem KL{c:Expr}{body:List Stmt}{tc:TT}{tb:TS}(hp:PassesOwn (model X.prog X.w) X.A X.env X.xe)(hc:PT X c tc)(hb:PSs X body tb):PS X (.While c body [] pos) (Pe tc tb):=by
 intro pins s σ H D I h;obtain⟨W,⟨m0,w0⟩,turn⟩:=h;refine wpAny_While (codeAny_whileLoop (λ n s'=>∃σ' H',Inv X pins σ' H' s'/\W n σ' H') ?_ m0 ⟨σ,H,I,w0⟩);rintro n s1 ⟨σ1,H1,I1,w1⟩;refine wpAny_passesOwn hp (thn (hc pins s1 σ1 H1 _ I1 (turn n σ1 H1 w1)) λ b s2 hz_=>?_);obtain⟨H2,I2,q2⟩:=hz_;cases b with
 |true =>
  obtain⟨N,hN,q2⟩:=q2;rw[if_pos rfl];refine wpAny_passesOwn hp (thn (hb pins s2 σ1 H2 _ I2 q2) λ f s3 q3=>?_);cases f with
  |next =>
   obtain⟨σ3,H3,I3,n3⟩:=q3;obtain⟨m',hm,w3⟩:=hN σ3 H3 n3;exact⟨m',hm,σ3,H3,I3,w3⟩
  |cont =>
   obtain⟨σ3,H3,I3,n3⟩:=q3;obtain⟨m',hm,w3⟩:=hN σ3 H3 n3;exact⟨m',hm,σ3,H3,I3,w3⟩
  |brk=>exact q3
  |ret v=>exact q3
 |false =>
  rw[if_neg ae];exact wpAny_execs_nil ⟨σ1,H2,I2,q2⟩
end
structure It where
 go:Nat->Hp->Prop
 yld:Nat->Hp->V->Hp->Prop
 stop:Nat->Hp->Prop
def EL(X:Cx)(pins:PNz)(H:Hp)(b:Addr):Prop :=
 H b=none/\b≠X.env.locals/\b∉X.fs/\(b∈X.ex\/X.s₀.heap.objs.size<=b)/\(∀x c,X.env.cells.lookup x=some c->c≠b)/\∀p∈X.pn++pins,p.1≠b
theorem Inv.fpOk{X:Cx}{pins:PNz}{σ:St}{H H':Hp}{s:Shared}{b:Addr}(I:Inv X pins σ H s)(hb:s.heap.objs.size<=b)(hn:H' b=none):EL X pins H' b:=by
 refine⟨hn,eK (aQ I.lt hb),I.nofs hb,.inr (ba I.sz hb),λ x c e z=>?_,λ p hp z=>?_⟩
 .obtain⟨v,q⟩:=I.cell x c e;exact absurd (aQ q.lt (by rw[z];exact hb)) (bA _)
 .exact absurd (aQ (aA (I.pin p hp).1) (by rw[z];exact hb)) (bA _)
structure OP(P:Program)(w:World)(K:Frag)(tg:Expr)(J:It)(fp:List Addr)(it:Addr)(tn:Nat->Heap->Prop):Prop where
 mem:it∈fp
 obj:∀i h,tn i h->∀b∈fp,∃o,h.get? b=some o/\∀v,o.data≠.cell v
 keep:∀i h h',tn i h->(∀b∈fp,∀o,h.get? b=some o->h'.get? b=some o)->tn i h'
 item:∀(X:Cx),X.prog=P->X.w=w->X.K=K->X.calm=true->∀(i:Nat)(pins:PNz)(s:Shared)(σ:St)(H:Hp)(E:VPz),Inv X pins σ H s->(∀b∈fp,EL X pins H b)->tn i s.heap->J.go i H ->
  wpAny (model P w) X.A (pyNext (.ref it)) (λ r s1=>∃u,r=some u /\
   wpAny (model P w) X.A (letOwnedTupleGo tg (.ref it) u) (λ_ s2=>∃x H',Inv X pins σ H' s2/\RelV x u/\J.yld i H x H'/\tn (i+1) s2.heap/\∀b∈fp,H' b=none) E s1) E s
 done:∀(X:Cx),X.prog=P->X.w=w->X.K=K->X.calm=true->∀(i:Nat)(pins:PNz)(s:Shared)(σ:St)(H:Hp)(E:VPz),Inv X pins σ H s->(∀b∈fp,EL X pins H b)->tn i s.heap->J.stop i H ->
  wpAny (model P w) X.A (pyNext (.ref it)) (λ r s1=>r=none/\Inv X pins σ H s1) E s
 self:∀(A:Around)(i:Nat)(s:Shared)(Q:VPz)(E:VPz),tn i s.heap->Q (.ref it) s->wpAny (model P w) A (pyIter (.ref it)) Q E s
abbrev TI:=St->Hp->(It->Hp->Prop)->Prop
def PIE(X:Cx)(pins:PNz)(σ:St)(tg:Expr)(R:It->Hp->Prop)(itv:Value)(s2:Shared):Prop :=
 ∃(it:Addr)(fp:List Addr)(tn:Nat->Heap->Prop)(J:It)(H':Hp),itv=.ref it/\Inv X pins σ H' s2/\OP X.prog X.w X.K tg J fp it tn/\tn 0 s2.heap/\(∀b∈fp,EL X pins H' b)/\R J H'
def PI(X:Cx)(tg iter:Expr)(wi:TI):Prop :=
 ∀(pins:PNz)(s:Shared)(σ:St)(H:Hp)(R:It->Hp->Prop),Inv X pins σ H s->wi σ H R ->
  wpAny (model X.prog X.w) X.A (eval iter X.env) (λ v s1=>wpAny (model X.prog X.w) X.A (pyIter v) (PIE X pins σ tg R) X.xe s1) X.xe s
theorem NA{M:Model}{A:Around}{E:VPz}{s:Shared}{tg:Expr}{it:Addr}{u:Value}{o:Obj}{n:String}{vs:Array Value}{Q:Unit->Shared->Prop}(ho:s.heap.get? it=some o)(hc:o.cls=.type n)(hd:o.data=.fields vs)
    (hn:["enumerate","zip","dict_itemiterator","dict_reverseitemiterator","odict_iterator","itertools.zip_longest","itertools.pairwise"].contains n=false) (hQ:Q () s):wpAny M A (letOwnedTupleGo tg (.ref it) u) Q E s:=by
  unfold letOwnedTupleGo;cases tg<;>first
    |exact wpAny_pure hQ
    | (cases u<;>first
        |exact wpAny_pure hQ
        | (refine wpAny_bind (wpAny_load ho ?_)
           rw[hc,hd];show wpAny M A (if (["enumerate","zip","dict_itemiterator","dict_reverseitemiterator","odict_iterator","itertools.zip_longest","itertools.pairwise"].contains n&&vs[0]?==some (rawInt _))=true then _ else _) Q E s;rw[if_neg (by intro h;rw[hn,Bool.false_and]at h;cases h)];exact wpAny_pure hQ))
def Itl(K:Frag)(a:Addr):It :=
 ⟨λ i H=>∃xs x,SqL K H a xs/\xs[i]?=some x,λ i H x H'=>H'=H/\∀xs,SqL K H a xs->xs[i]?=some x,λ i H=>∃xs,SqL K H a xs/\xs.length<=i⟩
def Itt(K:Frag)(a:Addr):It :=
 ⟨λ i H=>∃xs x,SqT K H a xs/\xs[i]?=some x,λ i H x H'=>H'=H/\∀xs,SqT K H a xs->xs[i]?=some x,λ i H=>∃xs,SqT K H a xs/\xs.length<=i⟩
def Itr(lo:Int)(n:Nat):It:=⟨λ i _=>i<n,λ i H x H'=>H'=H/\x=.int (lo+i),λ i _=>n<=i⟩
theorem Oi{P:Program}{w:World}{K:Frag}{tg:Expr}(a it:Addr):OP P w K tg (Itl K a) [it] it (λ i h=>h.IsListIter it a i) where
 mem:=by simp
 obj:=λ i h st b hb=>by
  have e:b=it:=by simpa using hb
  subst e;obtain⟨o,e,c,d⟩:=st;exact⟨o,e,λ v z=>by rw[d]at z;cases z⟩
 keep:=λ i h h' st k=>st.at λ o e=>k it (by simp) o e
 item:=by
  intro X hP hw hK hc i pins s σ H E I hf st hg;subst hP hw hK;obtain⟨xs,x,hq,hx⟩:=hg;obtain⟨its,rv,p,hz⟩:=I.list hq;obtain⟨u,hu,ru⟩:=rv.get hx;obtain⟨f0,f1,f2,f3,f4,f5⟩:=hf it (by simp);refine wpAny_pyNext_list_item st p.isList (x:=u) (by simpa using hu) λ h' st' sb=>?_;have I1:Inv X pins σ H { s with heap:=h' }:=I.turned (t':=s.toks) (λ b o hb e=>(sb.2 b hb).trans e) f0 f1 f3 f4 f5;obtain⟨o,e,c,d⟩:=id st';exact⟨u,rfl,NA (s:={ s with heap:=h' }) e c d (by decide) ⟨x,H,I1,ru,⟨rfl,λ ys hy=>by rw[I.list_inj hy hq];exact hx⟩,st',λ b hb=>(hf b hb).1⟩⟩
 done:=by
  intro X hP hw hK hc i pins s σ H E I hf st hg;subst hP hw hK;obtain⟨xs,hq,hx⟩:=hg;obtain⟨its,rv,p,hz⟩:=I.list hq;obtain⟨f0,f1,f2,f3,f4,f5⟩:=hf it (by simp);have hl:=rv.length;exact wpAny_pyNext_list_end (I.ok.hd hc) st p.isList (by simp;lia) λ h' eb=>⟨rfl,I.turned (t':=s.toks) (λ b o hb e=>eb b o hb e) f0 f1 f3 f4 f5⟩
 self:=λ_ _ _ _ _ st h=>wpAny_pyIter_listiter st h
theorem Ma{P:Program}{w:World}{K:Frag}{tg:Expr}(a it:Addr):OP P w K tg (Itt K a) [it] it (λ i h=>h.IsTupleIter it a i) where
 mem:=by simp
 obj:=λ i h st b hb=>by
  have e:b=it:=by simpa using hb
  subst e;obtain⟨o,e,c,d⟩:=st;exact⟨o,e,λ v z=>by rw[d]at z;cases z⟩
 keep:=λ i h h' st k=>st.at λ o e=>k it (by simp) o e
 item:=by
  intro X hP hw hK hc i pins s σ H E I hf st hg;subst hP hw hK;obtain⟨xs,x,hq,hx⟩:=hg;obtain⟨its,rv,p,hz⟩:=I.tuple hq;obtain⟨u,hu,ru⟩:=rv.get hx;obtain⟨f0,f1,f2,f3,f4,f5⟩:=hf it (by simp);refine wpAny_pyNext_tuple_item st (show s.heap.IsTuple a its.toArray from p) (x:=u) (by simpa using hu) λ h' st' sb=>?_;have I1:Inv X pins σ H { s with heap:=h' }:=I.turned (t':=s.toks) (λ b o hb e=>(sb.2 b hb).trans e) f0 f1 f3 f4 f5;obtain⟨o,e,c,d⟩:=id st';exact⟨u,rfl,NA (s:={ s with heap:=h' }) e c d (by decide) ⟨x,H,I1,ru,⟨rfl,λ ys hy=>by rw[I.tuple_inj hy hq];exact hx⟩,st',λ b hb=>(hf b hb).1⟩⟩
 done:=by
  intro X hP hw hK hc i pins s σ H E I hf st hg;subst hP hw hK;obtain⟨xs,hq,hx⟩:=hg;obtain⟨its,rv,p,hz⟩:=I.tuple hq;obtain⟨f0,f1,f2,f3,f4,f5⟩:=hf it (by simp);have hl:=rv.length;exact wpAny_pyNext_tuple_end (I.ok.hd hc) st (show s.heap.IsTuple a its.toArray from p) (by simp;lia) λ h' eb=>⟨rfl,I.turned (t':=s.toks) (λ b o hb e=>eb b o hb e) f0 f1 f3 f4 f5⟩
 self:=λ_ _ _ _ _ st h=>wpAny_pyIter_tupleiter st h
theorem Mb{P:Program}{w:World}{K:Frag}{tg:Expr}(it:Addr)(lo:Int)(n:Nat):OP P w K tg (Itr lo n) [it] it (λ i h=>IsRangeIter h it (lo+(i:Nat)*1) ((n:Int)-(i:Nat)) 1) where
 mem:=by simp
 obj:=λ i h st b hb=>by
  have e:b=it:=by simpa using hb
  subst e;exact⟨_,st,λ v z=>by
   have z':Data.fields _=Data.cell v:=z;cases z'⟩
 keep:=λ i h h' st k=>k it (by simp) _ st
 item:=by
  intro X hP hw hK hc i pins s σ H E I hf st hg;subst hP hw hK;obtain⟨f0,f1,f2,f3,f4,f5⟩:=hf it (by simp);have W:=Walks.range (prog:=X.prog) (w:=X.w) (I.ok.hd hc) it lo 1 n;refine W.item i s _ _ hg st λ v h' tk hv st' kk=>?_;obtain⟨t,rfl⟩:=hv;have I1:Inv X pins σ H { s with heap:=h',toks:=tk }:=I.turned (λ b o hb e=>kk b o (by simpa using hb) e) f0 f1 f3 f4 f5;refine⟨_,rfl,NA (s:={ s with heap:=h',toks:=tk }) (n:="range_iterator") st' rfl rfl (by decide) ⟨.int (lo+i),H,I1,⟨t,?_⟩,⟨rfl,rfl⟩,st',λ b hb=>(hf b hb).1⟩⟩;rw[Int.mul_one]
 done:=by
  intro X hP hw hK hc i pins s σ H E I hf st hg;subst hP hw hK;obtain⟨f0,f1,f2,f3,f4,f5⟩:=hf it (by simp);exact wpAny_pyNext_range_end (I.ok.hd hc) st (by have:n<=i:=hg;lia) λ h' eb=>⟨rfl,I.turned (t':=s.toks) (λ b o hb e=>eb b o hb e) f0 f1 f3 f4 f5⟩
 self:=λ_ _ _ _ _ st h=>wpAny_pyIter_rangeiter st h
section
variable{X:Cx}{tg:Expr}
inductive Tl(x:V)(S Q:Addr->Prop):Prop
 |mk (a:Addr) (e:x=.ref a) (s:S a) (q:Q a):Tl x S Q
def Uo(K:Frag)(tl:TE):TI:=λ σ H R=>tl σ H λ x H1=>Tl x (λ a=>∃xs,SqL K H1 a xs) λ a=>R (Itl K a) H1
def Vi(K:Frag)(tl:TE):TI:=λ σ H R=>tl σ H λ x H1=>Tl x (λ a=>∃xs,SqT K H1 a xs) λ a=>R (Itt K a) H1
theorem AC{l:Expr}{tl:TE}(hl:PE X l tl):PI X tg l (Uo X.K tl):=by
 intro pins s σ H R I h;refine thn (hl pins s σ H _ I h) λ v s1 hz_=>?_;obtain⟨x,H1,I1,r1,q1⟩:=hz_;obtain⟨a,e,⟨xs,hq⟩,q⟩:=q1;subst e;cases r1;obtain⟨its,rv,p,hz⟩:=I1.list hq;refine wpAny_pyIter_list p.isList ?_;refine⟨s1.heap.objs.size,[s1.heap.objs.size],_,_,H1,rfl,I1.kept (t':=s1.toks) λ b o e=>ag _ e,Oi a _,⟨_,aR _ rfl,rfl,rfl⟩,λ b hb=>?_,q⟩;have e:b=s1.heap.objs.size:=by simpa using hb
 subst e;exact I1.fpOk (ah _) (I1.hok.fresh (ah _))
theorem Mt{l:Expr}{tl:TE}(hl:PE X l tl):PI X tg l (Vi X.K tl):=by
 intro pins s σ H R I h;refine thn (hl pins s σ H _ I h) λ v s1 hz_=>?_;obtain⟨x,H1,I1,r1,q1⟩:=hz_;obtain⟨a,e,⟨xs,hq⟩,q⟩:=q1;subst e;cases r1;obtain⟨its,rv,p,hz⟩:=I1.tuple hq;refine wpAny_pyIter_tuple (show s1.heap.IsTuple a its.toArray from p) ?_;refine⟨s1.heap.objs.size,[s1.heap.objs.size],_,_,H1,rfl,I1.kept (t':=s1.toks) λ b o e=>ag _ e,Ma a _,⟨_,aR _ rfl,rfl,rfl⟩,λ b hb=>?_,q⟩;have e:b=s1.heap.objs.size:=by simpa using hb
 subst e;exact I1.fpOk (ah _) (I1.hok.fresh (ah _))
theorem KJ{pins:PNz}{σ:St}{H:Hp}{s:Shared}{R:It->Hp->Prop}{E:VPz}{lo hi:Int}{t u v:Tok}{tk:Nat}(I:Inv X pins σ H s)(h1:-(2^62)<=lo)(h2:lo<2^62)(h3:-(2^62)<=hi)(h4:hi<2^62)
  (q:R (Itr lo (hi-lo).toNat) H):wpAny (model X.prog X.w) X.A (pyIter (.ref s.heap.objs.size)) (PIE X pins σ tg R) E { s with heap:=s.heap.push { cls:=.type "range",data:=.fields #[.int lo t,.int hi u,.int 1 v] },toks:=tk }:=by
 refine wpAny_pyIter_range (IsRange.new ..) (small_one h1 h2 h3 h4) ?_;have I1:Inv X pins σ H { s with heap:=s.heap.push { cls:=.type "range",data:=.fields #[.int lo t,.int hi u,.int 1 v] },toks:=tk }:=I.kept λ b o e=>ag _ e;refine⟨(s.heap.push { cls:=.type "range",data:=.fields #[.int lo t,.int hi u,.int 1 v] }).objs.size,[(s.heap.push { cls:=.type "range",data:=.fields #[.int lo t,.int hi u,.int 1 v] }).objs.size],_,_,H,rfl,
  I1.kept (t':=tk) λ b o e=>ag _ e,Mb _ lo (hi-lo).toNat,?_,λ b hb=>?_,q⟩
 .have e1:lo+((0:Nat):Int)*1=lo:=by simp
  have e2:(((hi-lo).toNat:Nat):Int)-((0:Nat):Int)=Builtin.Range.rangeSize lo hi 1:=by rw[rangeSize_one];split<;>lia
  show IsRangeIter _ _ (lo+((0:Nat):Int)*1) ((((hi-lo).toNat:Nat):Int)-((0:Nat):Int)) 1;rw[e1,e2];exact aR _ rfl
 .have e:b=(s.heap.push { cls:=.type "range",data:=.fields #[.int lo t,.int hi u,.int 1 v] }).objs.size:=by simpa using hb
  subst e;exact I1.fpOk (ah _) (I1.hok.fresh (ah _))
inductive Sl(vs:LUz)(R:Int->Prop):Prop
 |mk (j:Int) (e:vs=[.int j]) (l:-(2^62)<=j) (h:j<2^62) (q:R j):Sl vs R
def Um(ta:TA):TI:=λ σ H R=>ta σ H λ vs H1=>Sl vs λ j=>R (Itr 0 j.toNat) H1
def Ul(ta:TA):TI:=λ σ H R=>ta σ H λ vs H1=>∃i j:Int,vs=[.int i,.int j]/\(-(2^62)<=i/\i<2^62/\-(2^62)<=j/\j<2^62)/\R (Itr i (j-i).toNat) H1
theorem BG{a:Expr}{ta:TA}{p pos:Pos}(hg:Gl X "range")(hm:X.mg "range"=none)(ha:PA X [a] ta)(hs:starEach [a] X.env=[(false,eval a X.env)]:=by rfl):PI X tg (.Call (.Name "range" p) [a] [] pos) (Um ta):=by
 intro pins s σ H R I h;refine Call_ (EG I hg hm boot_range (PyProof.Rows.callWith_type1 (thn (ha pos pins s σ H _ I h) λ us s1 hz_=>?_) hs rfl));obtain⟨vs,H1,I1,r1,q1⟩:=hz_;obtain⟨j,e,q1,q2,q⟩:=q1;subst e;cases r1 with
 |cons r rr =>
  cases rr;obtain⟨t,rfl⟩:=r;exact call_range_1 (KJ I1 (by lia) (by lia) q1 q2 (by simpa using q))
theorem AT{a b:Expr}{ta:TA}{p pos:Pos}(hg:Gl X "range")(hm:X.mg "range"=none)(ha:PA X [a,b] ta)(hs:starEach [a,b] X.env=[(false,eval a X.env),(false,eval b X.env)]:=by rfl)(hs2:starEach [b] X.env=[(false,eval b X.env)]:=by rfl) :
  PI X tg (.Call (.Name "range" p) [a,b] [] pos) (Ul ta):=by
 intro pins s σ H R I h;refine Call_ (EG I hg hm boot_range (PyProof.Rows.callWith_type1 (thn (ha pos pins s σ H _ I h) λ us s1 hz_=>?_) (by rw[hs,hs2]) (by rw[hs2];rfl)));obtain⟨vs,H1,I1,r1,q1⟩:=hz_;obtain⟨i,j,e,⟨q1,q2,q3,q4⟩,q⟩:=q1;subst e;cases r1 with
 |cons r rr =>
  cases rr with
  |cons r' rr =>
   cases rr;obtain⟨t,rfl⟩:=r;obtain⟨t',rfl⟩:=r';exact call_range_2 (KJ I1 q1 q2 q3 q4 q)
def UQ(wi:TI)(g:TG)(tb:TS):TS:=λ D σ H=>wi σ H λ J H1=>∃W:Nat->Nat->St->Hp->Prop,(∃m,W 0 m σ H1)/\∀i m σ H,W i m σ H ->
 (J.stop i H/\D.nx σ H)\/(J.go i H/\∃N:St->Hp->Prop,(∀σ' H',N σ' H'->∃m',m'<m/\W (i+1) m' σ' H')/\∀x H',J.yld i H x H'->g x σ H' λ σ2 H2=>tb { D with nx:=N,ct:=N,bk:=D.nx } σ2 H2)
def JB(fp:List Addr)(h:Heap):PNz:=fp.filterMap λ b=>(h.get? b).map λ o=>(b,o)
theorem Bh{fp:List Addr}{h:Heap}{b:Addr}{o:Obj}(hb:b∈fp)(e:h.get? b=some o):(b,o)∈JB fp h:=List.mem_filterMap.mpr ⟨b,hb,by rw[e];rfl⟩
theorem O1{fp:List Addr}{h:Heap}{p:Addr×Obj}(hp:p∈JB fp h):p.1∈fp/\h.get? p.1=some p.2:=by
 obtain⟨b,hb,e⟩:=List.mem_filterMap.mp hp;cases q:h.get? b with
 |none=>rw[q]at e;cases e
 |some o =>
  rw[q]at e;have e':(b,o)=p:=Option.some.inj e;subst e';exact⟨hb,q⟩
theorem Inv.pinned{pins:PNz}{σ:St}{H:Hp}{s:Shared}{fp:List Addr}(I:Inv X pins σ H s)(hf:∀b∈fp,EL X pins H b)(ho:∀b∈fp,∃o,s.heap.get? b=some o/\∀v,o.data≠.cell v):Inv X (pins++JB fp s.heap) σ H s :=
 I.pins_of λ p hp=>(ai.mp hp).elim (λ z=>I.pin p (az _ z)) λ z=>by
  obtain⟨hb,e⟩:=O1 z;obtain⟨f0,f1,f2,_⟩:=hf p.1 hb;obtain⟨o,e',d⟩:=ho p.1 hb;rw[e]at e';cases e';exact⟨e,f0,f1,f2,d⟩
theorem Inv.unpinned{pins pl:PNz}{σ:St}{H:Hp}{s:Shared}(I:Inv X (pins++pl) σ H s):Inv X pins σ H s:=I.pins_of λ p hp=>I.pin p (az _ (a9 _ hp))
theorem AN{iter:Expr}{body:List Stmt}{wi:TI}{g:TG}{tb:TS}{pos:Pos}(hp:PassesOwn (model X.prog X.w) X.A X.env X.xe)(hc:X.calm=true)(hi:PI X tg iter wi)(hg:PG X tg g)(hb:PSs X body tb)
  (hs:∀x,foldedSetIterable iter X.env x=pure x:=by intro _;rfl):PS X (.For tg iter body [] pos) (UQ wi g tb):=by
 intro pins s σ H D I h;refine wpAny_For (thn (hi pins s σ H _ I h) λ v s1 h1=>thn h1 λ itv s2 h2=>?_) hs;obtain⟨it,fp,tn,J,H2,e,I2,T,st2,f2,W,⟨m0,w0⟩,turn⟩:=h2;subst e;have stat:∀{H':Hp},(∀b∈fp,H' b=none)->∀b∈fp,EL X pins H' b:=λ hn b hb=>⟨hn b hb,(f2 b hb).2⟩;refine codeAny_forLoop_any (λ n s'=>∃i σ' H',Inv X pins σ' H' s'/\tn i s'.heap/\(∀b∈fp,H' b=none)/\W i n σ' H') ?_ m0 ⟨0,σ,H2,I2,st2,λ b hb=>(f2 b hb).1,w0⟩;rintro n s3 ⟨i,σ3,H3,I3,st3,fr3,w3⟩;rcases turn i n σ3 H3 w3 with ⟨stop,qn⟩|⟨go,N,hN,step⟩
 .refine wpAny_passesOwn hp (thn (T.done X rfl rfl rfl hc i pins s3 σ3 H3 X.xe I3 (stat fr3) st3 stop) λ r s4 hz_=>?_);obtain⟨hr,I4⟩:=hz_;subst hr;exact wpAny_execs_nil ⟨σ3,H3,I4,qn⟩
 .refine wpAny_passesOwn hp (thn (T.item X rfl rfl rfl hc i pins s3 σ3 H3 X.xe I3 (stat fr3) st3 go) λ r s4 hz_=>?_);obtain⟨u,hr,h4⟩:=hz_;subst hr;refine wpAny_passesOwn hp (thn h4 λ_ s5 hz_=>?_);obtain⟨x,H5,I5,r5,y5,st5,fr5⟩:=hz_;have I5':=I5.pinned (stat fr5) (T.obj _ _ st5);refine wpAny_passesOwn hp (thn (hg _ s5 σ3 H5 x u _ I5' r5 (step x H5 y5)) λ_ s6 hz_=>?_);obtain⟨σ6,H6,I6,q6⟩:=hz_;refine wpAny_passesOwn hp (thn (hb _ s6 σ6 H6 _ I6 q6) λ f s7 q7=>?_);have again:∀{σ7:St}{H7:Hp},Inv X (pins++JB fp s5.heap) σ7 H7 s7->N σ7 H7->∃m,m<n/\∃i σ' H',Inv X pins σ' H' s7/\tn i s7.heap/\(∀b∈fp,H' b=none)/\W i m σ' H':=λ{σ7 H7} I7 n7=>by
   obtain⟨m',hm,w7⟩:=hN σ7 H7 n7;refine⟨m',hm,i+1,σ7,H7,I7.unpinned,T.keep _ _ _ st5 λ b hb o e=>(I7.pin (b,o) (az _ (az _ (Bh hb e)))).1,λ b hb=>?_,w7⟩;obtain⟨o,e,d⟩:=T.obj _ _ st5 b hb;exact(I7.pin (b,o) (az _ (az _ (Bh hb e)))).2.1
  cases f with
  |next=>obtain⟨σ7,H7,I7,n7⟩:=q7;exact again I7 n7
  |cont=>obtain⟨σ7,H7,I7,n7⟩:=q7;exact again I7 n7
  |brk=>obtain⟨σ7,H7,I7,q7⟩:=q7;exact⟨σ7,H7,I7.unpinned,q7⟩
  |ret v=>obtain⟨x7,σ7,H7,I7,r7,q7⟩:=q7;exact⟨x7,σ7,H7,I7.unpinned,r7,q7⟩
end
theorem B9{K:Frag}{a:Addr}{xs:LUz}{g:TG}{tb:TS}{D:Cd}{σ:St}{H:Hp}(Pv:Nat->St->Hp->Prop)(h0:Pv 0 σ H)(hl:∀i σ H,i<=xs.length->Pv i σ H->SqL K H a xs)
  (hs:∀i x σ H,xs[i]?=some x->Pv i σ H->g x σ H λ σ2 H2=>tb { D with nx:=Pv (i+1),ct:=Pv (i+1),bk:=D.nx } σ2 H2) (hd:∀σ H,Pv xs.length σ H->D.nx σ H) :
  ∃W:Nat->Nat->St->Hp->Prop,(∃m,W 0 m σ H)/\∀i m σ H,W i m σ H ->
   ((Itl K a).stop i H/\D.nx σ H)\/((Itl K a).go i H/\∃N:St->Hp->Prop,(∀σ' H',N σ' H'->∃m',m'<m/\W (i+1) m' σ' H')/\∀x H',(Itl K a).yld i H x H'->g x σ H' λ σ2 H2=>tb { D with nx:=N,ct:=N,bk:=D.nx } σ2 H2):=by
 refine⟨λ i m σ H=>m=xs.length-i/\i<=xs.length/\Pv i σ H,⟨xs.length,by simp,bb _,h0⟩,?_⟩;rintro i m σ H ⟨rfl,hi,p⟩;have q:=hl i σ H hi p;by_cases hlt:i<xs.length
 .refine .inr ⟨⟨xs,xs[i],q,by simp[hlt]⟩,Pv (i+1),λ σ' H' p'=>⟨xs.length-(i+1),by lia,rfl,hlt,p'⟩,λ x H' y=>?_⟩;obtain⟨e,y⟩:=y;subst e;exact hs i x σ _ (y xs q) p
 .have e:i=xs.length:=by lia
  subst e;exact .inl ⟨⟨xs,q,ah _⟩,hd σ H p⟩
theorem ND{K:Frag}{a:Addr}{xs:LUz}{g:TG}{tb:TS}{D:Cd}{σ:St}{H:Hp}(Pv:Nat->St->Hp->Prop)(h0:Pv 0 σ H)(hl:∀i σ H,i<=xs.length->Pv i σ H->SqT K H a xs)
  (hs:∀i x σ H,xs[i]?=some x->Pv i σ H->g x σ H λ σ2 H2=>tb { D with nx:=Pv (i+1),ct:=Pv (i+1),bk:=D.nx } σ2 H2) (hd:∀σ H,Pv xs.length σ H->D.nx σ H) :
  ∃W:Nat->Nat->St->Hp->Prop,(∃m,W 0 m σ H)/\∀i m σ H,W i m σ H ->
   ((Itt K a).stop i H/\D.nx σ H)\/((Itt K a).go i H/\∃N:St->Hp->Prop,(∀σ' H',N σ' H'->∃m',m'<m/\W (i+1) m' σ' H')/\∀x H',(Itt K a).yld i H x H'->g x σ H' λ σ2 H2=>tb { D with nx:=N,ct:=N,bk:=D.nx } σ2 H2):=by
 refine⟨λ i m σ H=>m=xs.length-i/\i<=xs.length/\Pv i σ H,⟨xs.length,by simp,bb _,h0⟩,?_⟩;rintro i m σ H ⟨rfl,hi,p⟩;have q:=hl i σ H hi p;by_cases hlt:i<xs.length
 .refine .inr ⟨⟨xs,xs[i],q,by simp[hlt]⟩,Pv (i+1),λ σ' H' p'=>⟨xs.length-(i+1),by lia,rfl,hlt,p'⟩,λ x H' y=>?_⟩;obtain⟨e,y⟩:=y;subst e;exact hs i x σ _ (y xs q) p
 .have e:i=xs.length:=by lia
  subst e;exact .inl ⟨⟨xs,q,ah _⟩,hd σ H p⟩
theorem Ba{lo:Int}{n:Nat}{g:TG}{tb:TS}{D:Cd}{σ:St}{H:Hp}(Pv:Nat->St->Hp->Prop)(h0:Pv 0 σ H)
  (hs:∀i σ H,i<n->Pv i σ H->g (.int (lo+i)) σ H λ σ2 H2=>tb { D with nx:=Pv (i+1),ct:=Pv (i+1),bk:=D.nx } σ2 H2) (hd:∀σ H,Pv n σ H->D.nx σ H) :
  ∃W:Nat->Nat->St->Hp->Prop,(∃m,W 0 m σ H)/\∀i m σ H,W i m σ H ->
   ((Itr lo n).stop i H/\D.nx σ H)\/((Itr lo n).go i H/\∃N:St->Hp->Prop,(∀σ' H',N σ' H'->∃m',m'<m/\W (i+1) m' σ' H')/\∀x H',(Itr lo n).yld i H x H'->g x σ H' λ σ2 H2=>tb { D with nx:=N,ct:=N,bk:=D.nx } σ2 H2):=by
 refine⟨λ i m σ H=>m=n-i/\i<=n/\Pv i σ H,⟨n,by simp,bb _,h0⟩,?_⟩;rintro i m σ H ⟨rfl,hi,p⟩;by_cases hlt:i<n
 .refine .inr ⟨hlt,Pv (i+1),λ σ' H' p'=>⟨n-(i+1),by lia,rfl,hlt,p'⟩,λ x H' y=>?_⟩;obtain⟨e,y⟩:=y;subst e y;exact hs i σ _ hlt p
 .have e:i=n:=by lia
  subst e;exact .inl ⟨ah _,hd σ H p⟩
theorem OT{c:TT}{tb:TS}{D:Cd}{σ:St}{H:Hp}(Pv:St->Hp->Prop)(μ:St->Hp->Nat)(h0:Pv σ H)
  (hs:∀σ H,Pv σ H->c σ H λ b H1=>if b=true then tb { D with nx:=λ σ' H'=>Pv σ' H'/\μ σ' H'<μ σ H,ct:=λ σ' H'=>Pv σ' H'/\μ σ' H'<μ σ H,bk:=D.nx } σ H1 else D.nx σ H1)
  (mono:∀σ H Q Q',(∀b H1,Q b H1->Q' b H1)->c σ H Q->c σ H Q'):Pe c tb D σ H:=by
 refine⟨λ m σ H=>m=μ σ H/\Pv σ H,⟨_,rfl,h0⟩,?_⟩;rintro m σ H ⟨rfl,p⟩;refine mono σ H _ _ (λ b H1 q=>?_) (hs σ H p);cases b with
 |true=>exact⟨_,λ σ' H' ⟨p',l⟩=>⟨_,l,rfl,p'⟩,q⟩
 |false=>exact q
abbrev R2:=V->V->Hp->VK->Prop
def OpR(X:Cx)(f:Value->Value->Sem Value)(r:R2):Prop :=
 ∀(pins:PNz)(s:Shared)(σ:St)(H:Hp)(x y:V)(v u:Value)(Q:VK),Inv X pins σ H s->RelV x v->RelV y u->r x y H Q ->
  wpAny (model X.prog X.w) X.A (f v u) (EP X pins σ Q) X.xe s
def UnR(X:Cx)(f:Value->Sem Value)(r:V->Hp->VK->Prop):Prop :=
 ∀(pins:PNz)(s:Shared)(σ:St)(H:Hp)(x:V)(v:Value)(Q:VK),Inv X pins σ H s->RelV x v->r x H Q ->
  wpAny (model X.prog X.w) X.A (f v) (EP X pins σ Q) X.xe s
def CQ(X:Cx)(f:Value)(r:LUz->Hp->VK->Prop):Prop :=
 ∀(pins:PNz)(s:Shared)(σ:St)(H:Hp)(xs:LUz)(us:LWz)(Q:VK),Inv X pins σ H s->Vals xs us->r xs H Q ->
  wpAny (model X.prog X.w) X.A (call f us) (EP X pins σ Q) X.xe s
def Vp(X:Cx)(r:V->Hp->(Bool->Hp->Prop)->Prop):Prop :=
 ∀(pins:PNz)(s:Shared)(σ:St)(H:Hp)(x:V)(v:Value)(Q:Bool->Hp->Prop),Inv X pins σ H s->RelV x v->r x H Q ->
  wpAny (model X.prog X.w) X.A (truthy v) (TP X pins σ Q) X.xe s
def tOp(r:R2)(ta tb:TE):TE:=λ σ H Q=>ta σ H λ x H1=>tb σ H1 λ y H2=>r x y H2 Q
def tUn(r:V->Hp->VK->Prop)(ta:TE):TE:=λ σ H Q=>ta σ H λ x H1=>r x H1 Q
inductive II1(C:Int->Int->Prop)(g:Int->Int->V)(x y:V)(H:Hp)(Q:VK):Prop
 |mk (i j:Int) (e1:x=.int i) (e2:y=.int j) (c:C i j) (q:Q (g i j) H):II1 C g x y H Q
inductive II0(g:Int->Int->V)(x y:V)(H:Hp)(Q:VK):Prop
 |mk (i j:Int) (e1:x=.int i) (e2:y=.int j) (q:Q (g i j) H):II0 g x y H Q
inductive IU(g:Int->V)(x:V)(H:Hp)(Q:VK):Prop
 |mk (i:Int) (e:x=.int i) (q:Q (g i) H):IU g x H Q
def rI(C:Int->Int->Prop)(g:Int->Int->V):R2:=λ x y H Q=>II1 C g x y H Q
def rI0(g:Int->Int->V):R2:=λ x y H Q=>II0 g x y H Q
def rU(g:Int->V):V->Hp->VK->Prop:=λ x H Q=>IU g x H Q
section
variable{X:Cx}{a b c:Expr}{ta tb tc:TE}{pos:Pos}
theorem Tg(ha:PE X a ta)(hb:PE X b tb){pins:PNz}{s:Shared}{σ:St}{H:Hp}{R:V->V->Hp->Prop}(I:Inv X pins σ H s)
  (h:ta σ H λ x H1=>tb σ H1 λ y H2=>R x y H2) {Q:VPz} {f:Value->Value->Sem Value}
  (hf:∀v u s2 x y H2,Inv X pins σ H2 s2->RelV x v->RelV y u->R x y H2->wpAny (model X.prog X.w) X.A (f v u) Q X.xe s2) :
  wpAny (model X.prog X.w) X.A (eval a X.env) (λ v s₁=>wpAny (model X.prog X.w) X.A (eval b X.env) (λ u s₂=>wpAny (model X.prog X.w) X.A (f v u) Q X.xe s₂) X.xe s₁) X.xe s:=by
 refine thn (ha pins s σ H _ I h) λ v s1 hz_=>?_;obtain⟨x,H1,I1,r1,q1⟩:=hz_;refine thn (hb pins s1 σ H1 _ I1 q1) λ u s2 hz_=>?_;obtain⟨y,H2,I2,r2,q2⟩:=hz_;exact hf v u s2 x y H2 I2 r1 r2 q2
theorem Aq{op:Operator}{r:R2}(ho:OpR X (binaryOp op) r)(ha:PE X a ta)(hb:PE X b tb):PE X (.BinOp a op b pos) (tOp r ta tb):=by
 intro pins s σ H Q I h;exact wpAny_BinOp (Tg ha hb I h λ v u s2 x y H2 I2 rx ry q=>ho pins s2 σ H2 x y v u Q I2 rx ry q)
theorem I8{op:UnaryOp}{r:V->Hp->VK->Prop}(ho:UnR X (unaryOp op) r)(ha:PE X a ta):PE X (.UnaryOp op a pos) (tUn r ta):=by
 intro pins s σ H Q I h;exact UnaryOp_ (thn (ha pins s σ H _ I h) λ v s1 ⟨x,H1,I1,r1,q1⟩=>ho pins s1 σ H1 x v Q I1 r1 q1)
theorem opI{f:Value->Value->Sem Value}{C:Int->Int->Prop}{g:Int->Int->Int}
  (rule:∀(i j:Int)(t u:Tok)(s:Shared)(Q:VPz)(E:VPz),C i j->Q (.int (g i j) s.toks) { s with toks:=s.toks+1 }->wpAny (model X.prog X.w) X.A (f (.int i t) (.int j u)) Q E s) :
  OpR X f (rI C λ i j=>.int (g i j)):=by
 intro pins s σ H x y v u Q I rx ry h;obtain⟨i,j,rfl,rfl,hc,q⟩:=h;obtain⟨t,rfl⟩:=rx;obtain⟨t',rfl⟩:=ry;exact rule i j t t' s _ _ hc ⟨.int (g i j),H,I.tok _,⟨_,rfl⟩,q⟩
theorem Ue{f:Value->Value->Sem Value}{g:Int->Int->Int}
  (rule:∀(i j:Int)(t u:Tok)(s:Shared)(Q:VPz)(E:VPz),Q (.int (g i j) s.toks) { s with toks:=s.toks+1 }->wpAny (model X.prog X.w) X.A (f (.int i t) (.int j u)) Q E s) :
  OpR X f (rI0 λ i j=>.int (g i j)):=by
 intro pins s σ H x y v u Q I rx ry h;obtain⟨i,j,rfl,rfl,q⟩:=h;obtain⟨t,rfl⟩:=rx;obtain⟨t',rfl⟩:=ry;exact rule i j t t' s _ _ ⟨.int (g i j),H,I.tok _,⟨_,rfl⟩,q⟩
theorem SD{f:Value->Value->Sem Value}{g:Int->Int->Bool}
  (rule:∀(i j:Int)(t u:Tok)(s:Shared)(Q:VPz)(E:VPz),Q (.bool (g i j)) s->wpAny (model X.prog X.w) X.A (f (.int i t) (.int j u)) Q E s) :
  OpR X f (rI0 λ i j=>.bl (g i j)):=by
 intro pins s σ H x y v u Q I rx ry h;obtain⟨i,j,rfl,rfl,q⟩:=h;obtain⟨t,rfl⟩:=rx;obtain⟨t',rfl⟩:=ry;exact rule i j t t' s _ _ ⟨.bl (g i j),H,I,rfl,q⟩
def RS(i j:Int):Prop:=0<=j/\j<=1000000/\i.natAbs<2^64
theorem A4:OpR X (binaryOp .Add) (rI0 λ i j=>.int (i+j)):=Ue λ_ _ _ _ _ _ _ q=>add_int q
theorem AB:OpR X (binaryOp .Sub) (rI0 λ i j=>.int (i-j)):=Ue λ_ _ _ _ _ _ _ q=>sub_int q
theorem GD:OpR X (binaryOp .Mod) (rI (λ_ j=>0<j) λ i j=>.int (i % j)):=opI λ i j _ _ _ _ _ hc q=>by
 have h1:(0:Int)<j:=hc;exact mod_int' (by lia) (by rw[Int.fmod_eq_emod_of_nonneg i (by lia)];exact q)
theorem JD:OpR X (binaryOp .Pow) (rI RS λ i j=>.int (i^j.toNat)):=opI λ_ _ _ _ _ _ _ hc q=>pow_int_small hc.1 hc.2.1 hc.2.2 q
theorem unI{f:Value->Sem Value}{g:Int->Int}
  (rule:∀(i:Int)(t:Tok)(s:Shared)(Q:VPz)(E:VPz),Q (.int (g i) s.toks) { s with toks:=s.toks+1 }->wpAny (model X.prog X.w) X.A (f (.int i t)) Q E s) :
  UnR X f (rU λ i=>.int (g i)):=by
 intro pins s σ H x v Q I rx h;obtain⟨i,rfl,q⟩:=h;obtain⟨t,rfl⟩:=rx;exact rule i t s _ _ ⟨.int (g i),H,I.tok _,⟨_,rfl⟩,q⟩
theorem Fu:UnR X (unaryOp .USub) (rU λ i=>.int (-i)):=unI λ_ _ _ _ _ q=>neg_int q
end
def TD:V->V->Bool
 |.non,.non=>true|.non,.int _=>true|.int _,.non=>true|.non,.bl _=>true|.bl _,.non=>true|.non,.str _=>true|.str _,.non=>true
 |.int _,.int _=>true|.bl _,.bl _=>true|.str _,.str _=>true|.byt _,.byt _=>true
 |.int _,.str _=>true|.str _,.int _=>true|.bl _,.str _=>true|.str _,.bl _=>true
 |_,_=>false
def rEq:R2:=λ x y H Q=>TD x y=true/\Q (.bl (decide (x=y))) H
def rNe:R2:=λ x y H Q=>TD x y=true/\Q (.bl (!decide (x=y))) H
theorem NI{i j:Int}:decide (V.int i=V.int j)=(i==j):=by
 rw[bg];simp
theorem Qs{i j:Bool}:decide (V.bl i=V.bl j)=(i==j):=by
 rw[bg];simp
theorem NH{i j:Str}:decide (V.str i=V.str j)=(i==j):=by
 rw[bg];simp
theorem NJ{i j:Array UInt8}:decide (V.byt i=V.byt j)=(i.toList==j.toList):=by
 rw[bg];cases i;cases j;simp
section
variable{X:Cx}{a b c:Expr}{ta tb tc:TE}{pos:Pos}
theorem AE{pins:PNz}{σ:St}{H:Hp}{s:Shared}{Q:VK}{k k':Bool}(I:Inv X pins σ H s)(q:Q (.bl k) H)(e:k=k'):EP X pins σ Q (.bool k') s:=by
 subst e;exact⟨.bl k,H,I,rfl,q⟩
theorem BU:OpR X (compareOp .Eq) rEq:=by
 intro pins s σ H x y v u Q I rx ry h;obtain⟨hs,q⟩:=h;cases x with
 |non =>
  cases rx;cases y with
  |non=>cases ry;exact PySem.EqNone.eq_none_none (AE I q (by simp))
  |bl j=>cases ry;exact PySem.EqNone.eq_none_bool (AE I q (by simp))
  |int j=>obtain⟨t',rfl⟩:=ry;exact PySem.EqNone.eq_none_int (AE I q (by simp))
  |str j=>obtain⟨t',rfl⟩:=ry;exact PySem.EqNone.eq_none_str (AE I q (by simp))
  |_=>exact absurd (show false=true from hs) ae
 |bl i =>
  cases rx;cases y with
  |non=>cases ry;exact PySem.EqNone.eq_bool_none (AE I q (by simp))
  |bl j=>cases ry;exact eq_bool (AE I q Qs)
  |str j=>obtain⟨t',rfl⟩:=ry;exact PySem.EqMixed.eq_bool_str (AE I q (by simp))
  |_=>exact absurd (show false=true from hs) ae
 |int i =>
  obtain⟨t,rfl⟩:=rx;cases y with
  |non=>cases ry;exact PySem.EqNone.eq_int_none (AE I q (by simp))
  |int j=>obtain⟨t',rfl⟩:=ry;exact eq_int (AE I q NI)
  |str j=>obtain⟨t',rfl⟩:=ry;exact PySem.EqMixed.eq_int_str (AE I q (by simp))
  |_=>exact absurd (show false=true from hs) ae
 |str i =>
  obtain⟨t,rfl⟩:=rx;cases y with
  |non=>cases ry;exact PySem.EqNone.eq_str_none (AE I q (by simp))
  |bl j=>cases ry;exact PySem.EqMixed.eq_str_bool (AE I q (by simp))
  |int j=>obtain⟨t',rfl⟩:=ry;exact PySem.EqMixed.eq_str_int (AE I q (by simp))
  |str j=>obtain⟨t',rfl⟩:=ry;exact eq_str (AE I q NH)
  |_=>exact absurd (show false=true from hs) ae
 |byt i =>
  obtain⟨t,rfl⟩:=rx;cases y with
  |byt j=>obtain⟨t',rfl⟩:=ry;exact eq_bytes (AE I q NJ)
  |_=>exact absurd (show false=true from hs) ae
 |_=>cases y<;>exact absurd (show false=true from hs) ae
theorem Fc:OpR X (compareOp .NotEq) rNe:=by
 intro pins s σ H x y v u Q I rx ry h;obtain⟨hs,q⟩:=h;cases x with
 |non =>
  cases rx;cases y with
  |non=>cases ry;exact PySem.EqNone.ne_none_none (AE I q (by simp))
  |bl j=>cases ry;exact PySem.EqNone.ne_none_bool (AE I q (by simp))
  |int j=>obtain⟨t',rfl⟩:=ry;exact PySem.EqNone.ne_none_int (AE I q (by simp))
  |str j=>obtain⟨t',rfl⟩:=ry;exact PySem.EqNone.ne_none_str (AE I q (by simp))
  |_=>exact absurd (show false=true from hs) ae
 |bl i =>
  cases rx;cases y with
  |non=>cases ry;exact PySem.EqNone.ne_bool_none (AE I q (by simp))
  |bl j=>cases ry;exact ne_bool (AE I q (congrArg not Qs))
  |str j=>obtain⟨t',rfl⟩:=ry;exact PySem.EqMixed.ne_bool_str (AE I q (by simp))
  |_=>exact absurd (show false=true from hs) ae
 |int i =>
  obtain⟨t,rfl⟩:=rx;cases y with
  |non=>cases ry;exact PySem.EqNone.ne_int_none (AE I q (by simp))
  |int j=>obtain⟨t',rfl⟩:=ry;exact ne_int (AE I q (congrArg not NI))
  |str j=>obtain⟨t',rfl⟩:=ry;exact PySem.EqMixed.ne_int_str (AE I q (by simp))
  |_=>exact absurd (show false=true from hs) ae
 |str i =>
  obtain⟨t,rfl⟩:=rx;cases y with
  |non=>cases ry;exact PySem.EqNone.ne_str_none (AE I q (by simp))
  |bl j=>cases ry;exact PySem.EqMixed.ne_str_bool (AE I q (by simp))
  |int j=>obtain⟨t',rfl⟩:=ry;exact PySem.EqMixed.ne_str_int (AE I q (by simp))
  |str j=>obtain⟨t',rfl⟩:=ry;exact ne_str (AE I q (congrArg not NH))
  |_=>exact absurd (show false=true from hs) ae
 |byt i =>
  obtain⟨t,rfl⟩:=rx;cases y with
  |byt j=>obtain⟨t',rfl⟩:=ry;exact ne_bytes (AE I q (congrArg not NJ))
  |_=>exact absurd (show false=true from hs) ae
 |_=>cases y<;>exact absurd (show false=true from hs) ae
theorem AR:OpR X (compareOp .Lt) (rI0 λ i j=>.bl (decide (i<j))):=SD λ_ _ _ _ _ _ _ q=>lt_int q
theorem B0:OpR X (compareOp .LtE) (rI0 λ i j=>.bl (decide (i<=j))):=SD λ_ _ _ _ _ _ _ q=>le_int q
theorem KO:OpR X (compareOp .Gt) (rI0 λ i j=>.bl (decide (j<i))):=SD λ_ _ _ _ _ _ _ q=>gt_int q
theorem F2:OpR X (compareOp .Is) (λ x y H Q=>y=.non/\Q (.bl (decide (x=.non))) H):=by
 intro pins s σ H x y v u Q I rx ry h;obtain⟨rfl,q⟩:=h;cases ry;refine is_none_gen (AE I q ?_);cases x<;>first
  | (cases rx;rfl)
  | (obtain⟨t,rfl⟩:=rx;rfl)
theorem Ro:OpR X (compareOp .IsNot) (λ x y H Q=>y=.non/\Q (.bl (!decide (x=.non))) H):=by
 intro pins s σ H x y v u Q I rx ry h;obtain⟨rfl,q⟩:=h;cases ry;refine isnot_none_gen (AE I q ?_);cases x<;>first
  | (cases rx;rfl)
  | (obtain⟨t,rfl⟩:=rx;rfl)
theorem Av(b:Expr){op:CmpOp}(h:op≠.In:=by decide)(h2:op≠.NotIn:=by decide):behindInMarks op b=false:=by
 have e1:(op==CmpOp.In)=false:=by cases op<;>first|rfl|exact absurd rfl h
 have e2:(op==CmpOp.NotIn)=false:=by cases op<;>first|rfl|exact absurd rfl h2
 cases b<;>simp[behindInMarks,e1,e2]
theorem AH{op:CmpOp}{r:R2}(ho:OpR X (compareOp op) r)(ha:PE X a ta)(hb:PE X b tb)(hm:behindInMarks op b=false):PE X (.Compare a [op] [b] pos) (tOp r ta tb):=by
 intro pins s σ H Q I h;exact wpAny_Compare1 (Tg ha hb I h λ v u s2 x y H2 I2 rx ry q=>ho pins s2 σ H2 x y v u Q I2 rx ry q) hm
def Pf(t:TE):TT:=λ σ H Q=>t σ H λ x H'=>IBl x λ k=>Q k H'
theorem Ax{op:CmpOp}{r:R2}(ho:OpR X (compareOp op) r)(ha:PE X a ta)(hb:PE X b tb)(hm:behindInMarks op b=false):PT X (.Compare a [op] [b] pos) (Pf (tOp r ta tb)):=by
 intro pins s σ H Q I h;refine wpAny_isTrue_Compare1 (thn (ha pins s σ H _ I h) λ v s1 ⟨x,H1,I1,r1,q1⟩=>thn (hb pins s1 σ H1 _ I1 q1) λ u s2 ⟨y,H2,I2,r2,q2⟩ =>
  thn (ho pins s2 σ H2 x y v u _ I2 r1 r2 q2) λ c s3 ⟨z,H3,I3,r3,k,e,q3⟩=>?_) hm
 subst e;cases r3;exact wpAny_truthy_bool ⟨H3,I3,q3⟩
def Ph(r r':R2)(ta tb tc:TE):TE:=λ σ H Q=>ta σ H λ x H1=>tb σ H1 λ y H2=>r x y H2 λ z H3=>IBl z λ k =>
 (if k=true then tc σ H3 λ w' H4=>r' y w' H4 Q else Q (.bl false) H3)
theorem BP{op op':CmpOp}{r r':R2}(ho:OpR X (compareOp op) r)(ho':OpR X (compareOp op') r')(ha:PE X a ta)(hb:PE X b tb)(hc:PE X c tc)
  (hm:lastMarks [op,op'] [b,c]=false:=by with_unfolding_all rfl):PE X (.Compare a [op,op'] [b,c] pos) (Ph r r' ta tb tc):=by
 intro pins s σ H Q I h;refine Compare_chain (thn (ha pins s σ H _ I h) λ v s1 ⟨x,H1,I1,r1,q1⟩=>chain_link (thn (hb pins s1 σ H1 _ I1 q1) λ u s2 ⟨y,H2,I2,r2,q2⟩ =>
  thn (ho pins s2 σ H2 x y v u _ I2 r1 r2 q2) λ d s3 ⟨z,H3,I3,r3,k,e,q3⟩=>?_)) hm
 subst e;cases r3;refine wpAny_truthy_bool ?_;cases k with
 |false=>exact ite_ff ⟨.bl false,H3,I3,rfl,q3⟩
 |true=>exact ite_tt (chain_last (thn (hc pins s3 σ H3 _ I3 q3) λ w' s4 ⟨z',H4,I4,r4,q4⟩=>ho' pins s4 σ H4 y z' u w' Q I4 r2 r4 q4))
theorem C7{op op':CmpOp}{r r':R2}(ho:OpR X (compareOp op) r)(ho':OpR X (compareOp op') r')(ha:PE X a ta)(hb:PE X b tb)(hc:PE X c tc)
  (hm:lastMarks [op,op'] [b,c]=false:=by with_unfolding_all rfl):PT X (.Compare a [op,op'] [b,c] pos) (Pf (Ph r r' ta tb tc)):=by
 intro pins s σ H Q I h;refine isTrue_chain (thn (ha pins s σ H _ I h) λ v s1 ⟨x,H1,I1,r1,q1⟩=>test_link (thn (hb pins s1 σ H1 _ I1 q1) λ u s2 ⟨y,H2,I2,r2,q2⟩ =>
  thn (ho pins s2 σ H2 x y v u _ I2 r1 r2 q2) λ d s3 ⟨z,H3,I3,r3,k,e,q3⟩=>?_)) hm
 subst e;cases r3;refine wpAny_truthy_bool ?_;cases k with
 |false =>
  obtain⟨k',e',q'⟩:=q3;cases e';exact ite_ff ⟨H3,I3,q'⟩
 |true =>
  refine ite_tt (test_last (thn (hc pins s3 σ H3 _ I3 q3) λ w' s4 ⟨z',H4,I4,r4,q4⟩=>thn (ho' pins s4 σ H4 y z' u w' _ I4 r2 r4 q4) λ d' s5 ⟨z2,H5,I5,r5,k2,e2,q5⟩=>?_));subst e2;cases r5;exact wpAny_truthy_bool ⟨H5,I5,q5⟩
def U2(K:Frag)(x:V)(H:Hp)(k:Bool):Prop :=
 match x with
 |.non=>k=false
 |.bl b=>k=b
 |.int i=>k=(i != 0)
 |.str y=>y.length<=sizeLine/\k=((y.length:Int) != 0)
 |.byt y=>y.size<=sizeLine/\k=((y.size:Int) != 0)
 |.ref p=>(∃xs,SqL K H p xs/\k=!xs.isEmpty)\/(∃xs,SqT K H p xs/\k=!xs.isEmpty)\/∃kvs,H p=some (.dK kvs)/\k=!kvs.isEmpty
 |_=>False
theorem M7{κ:Type}{kvs:List (κ×V)}{vs:List (κ×Value)}(r:KV kvs vs):(!vs.isEmpty)=!kvs.isEmpty:=by
 cases r<;>rfl
theorem Hd{xs:LUz}{its:LWz}(r:Vals xs its):(!its.toArray.isEmpty)=!xs.isEmpty:=by
 cases r<;>simp
theorem GY:(sizeLine:Nat)<2^63:=by rw[sizeLine_eq];decide
theorem Sv:Vp X (λ x H Q=>∃k,U2 X.K x H k/\Q k H):=by
 intro pins s σ H x v Q I rx h;obtain⟨k,e,q⟩:=h;have hl:=GY;have hs:sizeLine=16777216:=sizeLine_eq;cases x with
 |non =>
  cases rx;have e':k=false:=e;subst e';exact truthy_none ⟨H,I,q⟩
 |bl b =>
  cases rx;have e':k=b:=e;subst e';exact wpAny_truthy_bool ⟨H,I,q⟩
 |int i =>
  obtain⟨t,rfl⟩:=rx;have e':k=(i != 0):=e;subst e';exact PySem.P.truthy_int ⟨H,I,q⟩
 |str y =>
  obtain⟨t,rfl⟩:=rx;obtain⟨hy,e'⟩:y.length<=sizeLine/\k=((y.length:Int) != 0):=e;subst e';exact PySem.P.truthy_str (by lia) ⟨H,I.tok _,q⟩
 |byt y =>
  obtain⟨t,rfl⟩:=rx;obtain⟨hy,e'⟩:y.size<=sizeLine/\k=((y.size:Int) != 0):=e;subst e';exact truthy_bytes (by lia) ⟨H,I.tok _,q⟩
 |ref p =>
  cases rx;have e':(∃xs,SqL X.K H p xs/\k=!xs.isEmpty)\/(∃xs,SqT X.K H p xs/\k=!xs.isEmpty)\/∃kvs,H p=some (.dK kvs)/\k=!kvs.isEmpty:=e;rcases e' with ⟨xs,hx,e'⟩|⟨xs,hx,e'⟩|⟨kvs,hx,e'⟩
  .subst e';obtain⟨its,r,pl,hz⟩:=I.list hx;have hlen:=r.length;exact wpAny_truthy_list pl.isList (by simp only[au];lia) ⟨H,I.tok _,by rw[Hd r];exact q⟩
  .subst e';obtain⟨its,r,pl,hz⟩:=I.tuple hx;have hlen:=r.length;exact truthy_tuple pl (by simp only[au];lia) ⟨H,I.tok _,by rw[Hd r];exact q⟩
  .subst e';obtain⟨hz,hS,vs,r,m⟩:kvs.length<=sizeLine/\(p==sysModules)=false/\∃vs,KV kvs vs/\s.heap.DictOf (Bv X.prog X.w) p vs:=I.hok p _ hx;have hlen:kvs.length=vs.length:=Paired.length r;exact wpAny_truthy_dict hS m (by lia) ⟨H,I.tok _,by rw[M7 r];exact q⟩
 |_=>exact(show False from e).elim
theorem Fa(ha:PE X a ta)(he:∀whole,isTrue a X.env whole=(do let v <-whole;standAt a.pos;holding [v] (truthy v))) :
    PT X a (λ σ H Q=>ta σ H λ x H'=>∃k,U2 X.K x H' k/\Q k H'):=by
  intro pins s σ H Q I h;exact isTrue_plain (thn (ha pins s σ H _ I h) λ v s1 ⟨x,H1,I1,r1,q1⟩=>Sv pins s1 σ H1 x v Q I1 r1 q1) (he _)
theorem EM{x:V}{us:LWz}(r:Vals [x] us):∃u,us=[u]/\RelV x u:=by
 cases r with
 |cons r1 r2=>cases r2;exact⟨_,rfl,r1⟩
theorem MT{x y:V}{us:LWz}(r:Vals [x,y] us):∃u w',us=[u,w']/\RelV x u/\RelV y w':=by
 cases r with
 |cons r1 r2 =>
  cases r2 with
  |cons r3 r4=>cases r4;exact⟨_,_,rfl,r1,r3⟩
theorem FG(hc:X.calm=true):CQ X (.builtin "min") (λ xs H Q=>∃i j,xs=[.int i,.int j]/\Q (.int (if j<i then j else i)) H):=by
 intro pins s σ H xs us Q I r h;obtain⟨i,j,rfl,q⟩:=h;obtain⟨u,w',rfl,⟨t,rfl⟩,⟨t',rfl⟩⟩:=MT r;refine min_two_ints (I.ok.hd hc) λ h' tk k=>⟨_,H,I.kept k,?_,q⟩;by_cases hj:j<i
 .rw[if_pos hj,if_pos hj];exact⟨_,rfl⟩
 .rw[if_neg hj,if_neg hj];exact⟨_,rfl⟩
theorem FH:CQ X (.type "int") (λ xs H Q=>(∃i,xs=[.int i]/\Q (.int i) H)\/∃k,xs=[.bl k]/\Q (.int (if k then 1 else 0)) H):=by
 intro pins s σ H xs us Q I r h;rcases h with ⟨i,rfl,q⟩|⟨k,rfl,q⟩
 .obtain⟨u,rfl,t,rfl⟩:=EM r;exact call_int_int ⟨.int i,H,I,⟨_,rfl⟩,q⟩
 .obtain⟨u,rfl,r1⟩:=EM r;cases r1;exact call_int_bool ⟨.int (if k then 1 else 0),H,I.tok _,⟨_,rfl⟩,q⟩
end
structure ObjM(h:Heap)(x dx C:Addr)(mA:MGz):Prop where
 obj:h.get? x=some (instObj C dx)
 ns:h.Ns1 dx mA
 ne:dx≠x
theorem IE{h:Heap}{dx:Addr}{mA:MGz}(n:h.Ns1 dx mA):∃od,h.get? dx=some od/\∀name,lookIn name od=some (mA name):=by
 obtain⟨o,es,ep,ho,hd,hk,_,hm⟩:=n;refine⟨o,ho,λ name=>?_⟩;have e:=hm name;unfold nsFind findBy at e;rw[<-Array.find?_toList]at e;unfold lookIn;rw[hd];dsimp only;split
 .rename_i y q;rw[q]at e;exact congrArg some e
 .rename_i q;rw[q]at e;have a:es.toList.any (·.refKey)=false:=by
   rw[List.any_eq_false];intro y hy;obtain⟨z,t,hkey⟩:=hk y (Array.mem_toList_iff.mp hy);simp[DictEntry.refKey,hkey]
  have a':¬es.toList.any (·.refKey)=true:=by rw[a];exact ae
  rw[if_neg a'];exact congrArg some e
theorem ObjM.look{h:Heap}{x dx C:Addr}{mA:MGz}(I:ObjM h x dx C mA):∃od,InstAt h x (instObj C dx) C (some od)/\∀name,lookIn name od=some (mA name) :=
 let ⟨od,ho,hl⟩:=IE I.ns
 ⟨od,⟨I.obj,rfl,rfl,ho⟩,hl⟩
section
variable{prog:Program}{w:World}{A:Around}{E:VPz}{s:Shared}{K:Frag}{x dx C f:Addr}{mA:MGz}{name:Str}{v:Value}
theorem Rz{expr:Bool}{Q:VPz}(X:K.In s.heap)(I:ObjM s.heap x dx C mA)(hg:plainGet K C name=true)(hh:hasDictIn K C=true)
  (ha:findIn K (.ref C) name=some none) (hv:mA name=some v) (hv':handedIn v=true) (h:Q v { s with toks:=s.toks+1 }) :
  wpAny (model prog w) A (getAttr (.ref x) name expr) Q E s:=by
 obtain⟨od,J,hl⟩:=I.look;exact get_value X J (plainGet_of hg).1 (findObj_own hh ha rfl (by rw[hl,hv])) hv' h
theorem Qe{pl:Sem Bool}{Q:Value×LWz->Shared->Prop}(X:K.In s.heap)(I:ObjM s.heap x dx C mA)(hg:plainGet K C name=true)
  (hf:findIn K (.ref C) name=some (some (.ref f))) (ht:isFn K (.ref f)=true) (hv:mA name=none) (h:Q (.ref f,[.ref x]) s) :
  wpAny (model prog w) A (getMethod (.ref x) name pl) Q E s:=by
 obtain⟨od,J,hl⟩:=I.look;exact method_fn X J (plainGet_of hg).1 (plainGet_of hg).2 hf (beq_iff_eq.mp ht) (by show(lookIn name od).map (·.isSome)=some false;rw[hl,hv];rfl) h
theorem QV{ns:LSz}{Q:Unit->Shared->Prop}(X:K.In s.heap)(I:ObjM s.heap x dx C mA)
  (hs:findIn K (.ref C) "__setattr__"=some (some (.builtin "object.__setattr__"))) (hp:plainOver K C=true) (ht:takerIn K C name=some none) (hh:hasDictIn K C=true)
  (hw:PySem.Within mA ns) (hsz:ns.length<=sizeLine)
  (h:∀h',ObjM h' x dx C (λ y=>if y=name then some v else mA y)->Heap.SameBut dx s.heap h'->Q () { s with heap:=h',toks:=s.toks+2 }) :
  wpAny (model prog w) A (setAttr (.ref x) name v) Q E s:=by
 obtain⟨od,J,hl⟩:=I.look;refine set_plain X J hs (osa_open (s:={ s with toks:=s.toks+1 }) (r:=none) X J hp ht λ b=>?_);obtain⟨cd,hc,hd'⟩:=any_some hh;have hx:s.heap.get? x=some ⟨.ref C,some dx,.plain,#[]⟩:=I.obj;refine wpAny_bind (wpAny_pure (wpAny_bind (wpAny_bind (wpAny_loadPart hx (wpAny_bind (Looks.here (s:={ s with toks:=s.toks+1 }) (looks_clsIn X hc) ?_))))));rw[hd'];refine wpAny_pure (a:=some dx) (wpAny_bind (wpAny_pure (wpAny_bind ?_)));refine wpAny_nsSet1 (s:={ s with toks:=s.toks+1 }) I.ns λ h' hn2 hs2=>?_;obtain⟨oD,esD,epD,hoD,hdD,hcD⟩:=hn2.count (PySem.Within.cons name v hw);refine wpAny_bind (wpAny_lookBehind hoD (by rw[hdD];exact pastItsLine_dict (ba hcD (by rw[aI];lia))) ?_);exact wpAny_pure (h _ ⟨(hs2.2 _ (Ne.symm I.ne)).trans I.obj,hn2,I.ne⟩ hs2)
theorem PM{R:Result->Shared->Prop}{vs:LWz}{kw:List (Str×Value)}(X:K.In s.heap)(hm:makesIn K C=true)
  (hi:findIn K (.ref C) "__init__"=some (some (.ref f))) (hf:typeIn K (.ref f)=some (.type "function"))
  (h:codeAny (model prog w) (A.under (.builtin "type.__call__" ⟨.ref C::vs,kw⟩)) (.call (.ref f) ⟨.ref (s.heap.objs.size+1)::vs,kw⟩) (InitBack (s.heap.objs.size+1) R)
   { s with heap:=(s.heap.push emptyDict).push (instObj C s.heap.objs.size) }) :
  codeAny (model prog w) A (.call (.ref C) ⟨vs,kw⟩) R s:=by
 obtain⟨hh,g,d,t,os⟩:=s;exact make_core (makes_of X hm) (looks_findIn X hi) (λ self=>bind_fn X self hf) (.inl rfl) h
end
def Bd(f:Str)(v:V):LFz->LFz
 |[]=>[(f,v)]
 | (g,x)::r=>if g=f then (g,v)::r else (g,x)::Bd f v r
theorem A1(f g:Str)(v:V):∀fs:LFz,(Bd f v fs).lookup g=if g=f then some v else fs.lookup g
 |[]=>by
  show List.lookup g [(f,v)]=_;by_cases h:g=f
  .have hb:(g==f)=true:=beq_iff_eq.mpr h;simp only[List.lookup,hb,if_pos h]
  .have hb:(g==f)=false:=beq_eq_false_iff_ne.mpr h;simp only[List.lookup,hb,if_neg h]
 | (k,x)::r=>by
  have ih:=A1 f g v r;rw[show Bd f v ((k,x)::r)=(if k=f then (k,v)::r else (k,x)::Bd f v r) from rfl];by_cases hk:k=f
  .rw[if_pos hk];by_cases h:g=k
   .have hb:(g==k)=true:=beq_iff_eq.mpr h;simp only[List.lookup,hb,if_pos (h.trans hk)]
   .have hb:(g==k)=false:=beq_eq_false_iff_ne.mpr h;simp only[List.lookup,hb,if_neg (λ e:g=f=>h (e.trans hk.symm))]
  .rw[if_neg hk];by_cases h:g=k
   .have hb:(g==k)=true:=beq_iff_eq.mpr h;simp only[List.lookup,hb,if_neg (λ e:g=f=>hk (h.symm.trans e))]
   .have hb:(g==k)=false:=beq_eq_false_iff_ne.mpr h;simp only[List.lookup,hb];exact ih
theorem Dr(f:Str)(v:V):∀fs:LFz,f∈(Bd f v fs).map (·.1)/\∀g,g∈fs.map (·.1)->g∈(Bd f v fs).map (·.1)
 |[]=>⟨by simp[Bd],λ g h=>by simp at h⟩
 | (k,x)::r=>by
  obtain⟨i1,i2⟩:=Dr f v r;rw[show Bd f v ((k,x)::r)=(if k=f then (k,v)::r else (k,x)::Bd f v r) from rfl];by_cases hk:k=f
  .rw[if_pos hk];subst hk;exact⟨by simp,λ g h=>by simpa using h⟩
  .rw[if_neg hk];refine⟨?_,λ g h=>?_⟩
   .rw[aS];exact aJ _ i1
   .rw[aS]at h |-;rcases aO.mp h with e|e
    .exact aO.mpr (.inl e)
    .exact aJ _ (i2 g e)
theorem FN(f:Str)(v:V):∀fs:LFz,(Bd f v fs).length<=fs.length+1
 |[]=>by simp[Bd]
 | (k,x)::r=>by
  have ih:=FN f v r;rw[show Bd f v ((k,x)::r)=(if k=f then (k,v)::r else (k,x)::Bd f v r) from rfl];by_cases hk:k=f
  .rw[if_pos hk,aI,aI];lia
  .rw[if_neg hk,aI,aI];lia
theorem RelO.some_of{v:V}{o:Option Value}(r:RelO (some v) o):∃u,o=some u/\RelV v u:=by
 cases o with
 |none=>exact(show False from r).elim
 |some u=>exact⟨u,rfl,r⟩
theorem RelO.none_of{o:Option Value}(r:RelO none o):o=none:=by
 cases o with
 |none=>rfl
 |some u=>exact(show False from r).elim
theorem IK{v:V}{u:Value}(r:RelV v u):handedIn u=true:=by
 cases v with
 |non=>cases(show u=Value.none from r);rfl
 |bl b=>cases(show u=Value.bool b from r);rfl
 |int i=>obtain⟨t,e⟩:=(show ∃t,u=Value.int i t from r);cases e;rfl
 |str x=>obtain⟨t,e⟩:=(show ∃t,u=Value.str x t from r);cases e;rfl
 |byt b=>obtain⟨t,e⟩:=(show ∃t,u=Value.bytes b t from r);cases e;rfl
 |flt b=>obtain⟨t,e⟩:=(show ∃t,u=Value.float b t from r);cases e;rfl
 |ref a=>cases(show u=Value.ref a from r);rfl
 |ty n=>cases(show u=Value.type n from r);rfl
section
variable{P:Program}{w:World}{H H':Hp}{h h':Heap}{a C dx:Addr}{fs fs':LFz}
theorem Gj(hok:HOk P w H h)(e:H a=some (.ins C dx fs)):∃mA,ObjM h a dx C mA/\(∀f,RelO (fs.lookup f) (mA f))/\PySem.Within mA (fs.map (·.1))/\fs.length<=1000/\H dx=some (.own a):=by
 obtain⟨d,z,ne,ob,mA,n,r,q⟩:=(show ObjOk P w H h a (.ins C dx fs) from hok a _ e);exact⟨mA,⟨ob,n,ne⟩,r,q,z,d⟩
end
structure Cls(K:Frag)(C:Addr):Prop where
 pg:plainGet K C Str.empty=true
 hd:hasDictIn K C=true
 po:plainOver K C=true
 sa:findIn K (.ref C) "__setattr__"=some (some (.builtin "object.__setattr__"))
theorem Cls.get{K:Frag}{C:Addr}(c:Cls K C)(f:Str):plainGet K C f=true:=c.pg
def NoAttr(K:Frag)(C:Addr)(f:Str):Prop:=findIn K (.ref C) f=some none
theorem NoAttr.taker{K:Frag}{C:Addr}{f:Str}(n:NoAttr K C f):takerIn K C f=some none:=by
 unfold takerIn;rw[show findIn K (.ref C) f=some none from n];rfl
structure RR(K:Frag)(C:Addr)(m:Str)(f:Addr):Prop where
 at_:findIn K (.ref C) m=some (some (.ref f))
 fn:isFn K (.ref f)=true
 kp:keepIn K (.ref f)=true
section
variable{X:Cx}{pins:PNz}{σ:St}{H:Hp}{s:Shared}{a C dx:Addr}{fs:LFz}{f:Str}{v:V}{A:Around}{E:VPz}
theorem MA{b:Bool}{Q:VPz}(I:Inv X pins σ H s)(e:H a=some (.ins C dx fs))(c:Cls X.K C)(n:NoAttr X.K C f)(l:fs.lookup f=some v)
  (h:∀u s',Inv X pins σ H s'->RelV v u->Q u s'):wpAny (model X.prog X.w) A (getAttr (.ref a) f b) Q E s:=by
 obtain⟨mA,O,r,_,_,_⟩:=Gj I.hok e;obtain⟨u,hu,ru⟩:=RelO.some_of (v:=v) (o:=mA f) (by rw[<-l];exact r f);exact Rz I.kIn O (c.get f) c.hd n hu (IK ru) (h u _ (I.tok _) ru)
theorem Hg{m:Str}{g:Addr}{pl:Sem Bool}{Q:Value×LWz->Shared->Prop}(I:Inv X pins σ H s)(e:H a=some (.ins C dx fs))(c:Cls X.K C)(k:RR X.K C m g)(l:fs.lookup m=none)
  (h:Q (.ref g,[.ref a]) s):wpAny (model X.prog X.w) A (getMethod (.ref a) m pl) Q E s:=by
 obtain⟨mA,O,r,_,_,_⟩:=Gj I.hok e;have hn:mA m=none:=RelO.none_of (by rw[<-l];exact r m);exact Qe I.kIn O (c.get m) k.at_ k.fn hn h
theorem Mj{y:V}{u:Value}{Q:Unit->Shared->Prop}(I:Inv X pins σ H s)(e:H a=some (.ins C dx fs))(c:Cls X.K C)(n:NoAttr X.K C f)(hl:fs.length<1000)(ry:RelV y u)
  (h:∀s',Inv X pins σ (upd H a (.ins C dx (Bd f y fs))) s'->Q () s'):wpAny (model X.prog X.w) A (setAttr (.ref a) f u) Q E s:=by
 obtain⟨mA,O,r,wi,_,ho⟩:=Gj I.hok e;have hz:(fs.map (·.1)).length<=sizeLine:=by rw[aa,sizeLine_eq];lia
 refine QV I.kIn O c.sa c.po n.taker c.hd wi hz λ h' O' sb=>h _ ?_;have hd:∃o,h'.get? dx=some o:=let ⟨o,_,_,e',_⟩:=O'.ns;⟨o,e'⟩;refine I.write (x:=a) (e:=dx) (by rw[e];exact True.intro) (.inr ho) (λ b q hb z=>(sb.2 b hb).trans z) hd ?_;refine⟨by rw[Ag O.ne];exact ho,?_,O.ne,O'.obj,_,O'.ns,λ g=>?_,λ g hg=>?_⟩
 .have:=FN f y fs;lia
 .show RelO ((Bd f y fs).lookup g) (if g=f then some u else mA g);rw[A1];by_cases q:g=f
  .rw[if_pos q,if_pos q];exact ry
  .rw[if_neg q,if_neg q];exact r g
 .by_cases q:g=f
  .rw[q];exact(Dr f y fs).1
  .refine(Dr f y fs).2 g (wi g λ z=>hg ?_);show(if g=f then some u else mA g)=none;rw[if_neg q];exact z
theorem Inv.made(I:Inv X pins σ H s):Inv X pins σ (upd (upd H s.heap.objs.size (.own (s.heap.objs.size+1))) (s.heap.objs.size+1) (.ins C s.heap.objs.size []))
  { s with heap:=(s.heap.push emptyDict).push (instObj C s.heap.objs.size) }:=by
 have e1:(s.heap.push emptyDict).get? s.heap.objs.size=some emptyDict:=aR s.heap rfl;have e2:((s.heap.push emptyDict).push (instObj C s.heap.objs.size)).get? (s.heap.objs.size+1)=some (instObj C s.heap.objs.size):=by
  have:=aR (s.heap.push emptyDict) (o:=instObj C s.heap.objs.size) rfl;rwa [bU]at this
 have e3:(s.heap.push emptyDict).Ns s.heap.objs.size (λ_=>none):=⟨emptyDict,#[],_,e1,rfl,(λ e he=>absurd he (by simp)),λ_=>rfl⟩;have I1:=I.laid (a:=s.heap.objs.size) (o:=.own (s.heap.objs.size+1)) (h':=s.heap.push emptyDict) (t':=s.toks) (λ b u q=>ag _ q) (ah _) ⟨_,e1⟩;refine I1.laid (a:=s.heap.objs.size+1) (o:=.ins C s.heap.objs.size []) (t':=s.toks) (λ b u q=>ag _ q) (dN (bU _ _)) ?_;have ne:s.heap.objs.size≠s.heap.objs.size+1:=aM (cZ _);refine⟨by rw[Ag ne,Af],bb _,ne,e2,λ_=>none,(Heap.Ns1.of_empty e3).at λ o q=>ag _ q,λ_=>True.intro,λ y hy=>absurd rfl hy⟩
theorem NR{prog:Program}{w:World}{env:Env}{e:Expr}{f:Str}{pos:Pos}{s:Shared}{Q:VPz}(hb:attributeBase e f env (eval e env)=eval e env)
  (h:wpAny (model prog w) A (eval e env) (λ o s₁=>wpAny (model prog w) A (getAttr o f true) Q E s₁) E s):wpAny (model prog w) A (eval (.Attribute e f pos) env) Q E s :=
 Attribute_any_ h (by rw[arm_eval_Attribute,hb])
end
inductive UF(K:Frag)(f:Str)(x:V)(H:Hp)(Q:VK):Prop
 |mk (a C dx:Addr) (fs:LFz) (v:V) (e:x=.ref a) (h:H a=some (.ins C dx fs)) (c:Cls K C) (n:NoAttr K C f) (l:fs.lookup f=some v) (q:Q v H):UF K f x H Q
def UR(K:Frag)(ta:TE)(f:Str):TE:=λ σ H Q=>ta σ H λ x H1=>UF K f x H1 Q
def UV(K:Frag)(ta tv:TE)(f:Str):TS:=λ D σ H=>tv σ H λ y H1=>ta σ H1 λ x H2=>∃a C dx fs,x=.ref a/\H2 a=some (.ins C dx fs)/\Cls K C/\NoAttr K C f/\fs.length<1000 /\
 D.nx σ (upd H2 a (.ins C dx (Bd f y fs)))
section
variable{X:Cx}{o e value:Expr}{f:Str}{pos pos' tpos:Pos}{ta tv:TE}
theorem BZ(he:PE X e ta)(hb:attributeBase e f X.env (eval e X.env)=eval e X.env):PE X (.Attribute e f pos) (UR X.K ta f):=by
 intro pins s σ H Q I h;refine NR hb (thn (he pins s σ H _ I h) λ u s1 hz_=>?_);obtain⟨x,H1,I1,rx,a,C,dx,fs,v,ex,ea,c,n,l,q⟩:=hz_;subst ex;obtain rfl:u=Value.ref a:=rx;exact MA I1 ea c n l λ u' s2 I2 ru=>⟨v,H1,I2,ru,q⟩
theorem C9(ha:PE X o ta)(hv:PE X value tv)(hs:swapsWith value (some (.Attribute o f pos')) pos.line X.env=pure false):PS X (.Assign [.Attribute o f pos'] value pos) (UV X.K ta tv f):=by
 intro pins s σ H D I h;refine plainObj_wpAny_Assign_Attribute (thn (hv pins s σ H _ I h) λ u s1 hz_=>?_) hs;obtain⟨y,H1,I1,ry,q⟩:=hz_;refine thn (ha pins s1 σ H1 _ I1 q) λ ov s2 hz_=>?_;obtain⟨x,H2,I2,rx,a,C,dx,fs,ex,ea,c,n,l,q2⟩:=hz_;subst ex;obtain rfl:ov=Value.ref a:=rx;exact Mj I2 ea c n l ry λ s3 I3=>⟨σ,_,I3,q2⟩
end
section
variable{X:Cx}{pins:PNz}{σ:St}{H:Hp}{s:Shared}{A:Around}{E:VPz}{Q:VPz}{c:Value}{b:Bool}
inductive FJ(K:Frag)(H:Hp):V->Value->Prop where
 |non:FJ K H .non (.type "NoneType")
 |bl (x:Bool):FJ K H (.bl x) (.type "bool")
 |int (i:Int):FJ K H (.int i) (.type "int")
 |str (x:Str):FJ K H (.str x) (.type "str")
 |flt (x:UInt64):FJ K H (.flt x) (.type "float")
 |lst {a:Addr} {xs:LUz} (e:H a=some (.lst xs)):FJ K H (.ref a) (.type "list")
 |frz {a:Addr} {o:Obj} {xs:LUz} (e:H a=some (.frz o (.lst xs))):FJ K H (.ref a) (.type "list")
 |tup {a:Addr} {xs:LUz} (e:H a=some (.tup xs)):FJ K H (.ref a) (.type "tuple")
 |dK {a:Addr} {kvs:List (Key×V)} (e:H a=some (.dK kvs)):FJ K H (.ref a) (.type "dict")
 |dT {a:Addr} {kvs:LKz} (e:H a=some (.dT kvs)):FJ K H (.ref a) (.type "dict")
 |ins {a C dx:Addr} {fs:LFz} (e:H a=some (.ins C dx fs)) (cl:Cls K C) (ha:findIn K (.ref C) "__class__"=some (some (.builtin "object.__class__")))
   (hn:specialIn K (.builtin "object.__class__") "__get__"=some (some (.builtin "getset_descriptor.__get__"))) (htk:takesIn K (.builtin "object.__class__")=some true)
   (hm:mroIn K C (.type "object")=some true):FJ K H (.ref a) (.ref C)
theorem IJ{x:V}{u t:Value}(I:Inv X pins σ H s)(rx:RelV x u)(ty:FJ X.K H x t)(e:kitOne X.K t c=some b)(h:∀tk,Q (.bool b) { s with toks:=tk }) :
  wpAny (model X.prog X.w) A (call (.builtin "isinstance") [u,c]) Q E s:=by
 cases ty with
 |non=>cases(show u=Value.none from rx);exact kia_one kitx_none I.kIn True.intro e (λ z=>nomatch z) h
 |bl y=>cases(show u=Value.bool y from rx);exact kia_one kitx_bool I.kIn True.intro e (λ z=>nomatch z) h
 |int i=>obtain⟨t,q⟩:=(show ∃t,u=Value.int i t from rx);cases q;exact kia_one kitx_int I.kIn True.intro e (λ z=>nomatch z) h
 |str y=>obtain⟨t,q⟩:=(show ∃t,u=Value.str y t from rx);cases q;exact kia_one kitx_str I.kIn True.intro e (λ z=>nomatch z) h
 |flt y=>obtain⟨t,q⟩:=(show ∃t,u=Value.float y t from rx);cases q;exact kia_one kitx_float I.kIn True.intro e (λ z=>nomatch z) h
 |@lst a xs ea =>
  cases(show u=Value.ref a from rx);obtain⟨_,_,n,_,h1⟩:=(show ObjOk X.prog X.w H s.heap a (.lst xs) from I.hok a _ ea);exact kia_one kitx_list I.kIn ⟨_,h1,rfl⟩ e (λ z=>nomatch z) h
 |@frz a ob xs ea =>
  cases(show u=Value.ref a from rx);obtain⟨_,_,_,n,_,h1⟩:=(show ObjOk X.prog X.w H s.heap a (.frz ob (.lst xs)) from I.hok a _ ea);exact kia_one kitx_list I.kIn ⟨_,h1,rfl⟩ e (λ z=>nomatch z) h
 |@tup a xs ea =>
  cases(show u=Value.ref a from rx);obtain⟨_,_,_,p⟩:=(show ObjOk X.prog X.w H s.heap a (.tup xs) from I.hok a _ ea);obtain⟨o,h1,h2,_⟩:=p;exact kia_one kitx_tuple I.kIn ⟨o,h1,h2⟩ e (λ z=>nomatch z) h
 |@dK a kvs ea =>
  cases(show u=Value.ref a from rx);obtain⟨_,_,vs,_,p⟩:=(show ObjOk X.prog X.w H s.heap a (.dK kvs) from I.hok a _ ea);obtain⟨o,es,ep,h1,h2,_⟩:=p;exact kia_one kitx_dict I.kIn ⟨o,h1,h2.1⟩ e (λ z=>nomatch z) h
 |@dT a kvs ea =>
  cases(show u=Value.ref a from rx);obtain⟨_,_,xs,_,o,es,ep,h1,h2,_⟩:=(show ObjOk X.prog X.w H s.heap a (.dT kvs) from I.hok a _ ea);exact kia_one kitx_dict I.kIn ⟨o,h1,h2.1⟩ e (λ z=>nomatch z) h
 |@ins a C dx fs ea cl ha hn htk hm =>
  cases(show u=Value.ref a from rx);obtain⟨mA,O,_⟩:=Gj I.hok ea;obtain⟨od,J,_⟩:=O.look;exact kia_one (kitx_own (cl.get _) cl.hd ha hn htk hm) I.kIn J e (λ z=>nomatch z) h
end
structure Room(k:Nat)(A:Around):Prop where
 hd:A.handled=none
 dp:A.depth+3*k+5<recursionLimit
 un:A.units+16*k+200<cLine
theorem Room.mono{j k:Nat}{A:Around}(r:Room k A)(h:j<=k):Room j A:=⟨r.hd,by have:=r.dp;lia,by have:=r.un;lia⟩
theorem Room.deeper{k:Nat}{A:Around}(r:Room (k+1) A)(env:Env):Room k (A.deeper env) :=
 ⟨r.hd,by have:=r.dp;show A.depth+1+3*k+5<_;lia,by have:=r.un;show A.units+3+16*k+200<_;lia⟩
theorem M5{A:Around}{C:Addr}{us:LWz}{kw:List (Str×Value)}:(A.under (.builtin "type.__call__" ⟨.ref C::us,kw⟩)).depth=A.depth+1:=by
 first|rfl|simp[Around.under,Code.weight,Code.isCreation,Code.isGuard,Code.isCaller,Code.frames,Code.isFrame,guardIds]
theorem M4{A:Around}{C:Addr}{us:LWz}{kw:List (Str×Value)}:(A.under (.builtin "type.__call__" ⟨.ref C::us,kw⟩)).units=A.units+1:=by
 first|rfl|simp[Around.under,Code.cUnits,Code.frames,Code.isFrame]
theorem Room.make{k:Nat}{A:Around}(r:Room (k+1) A)(C:Addr)(us:LWz)(kw:List (Str×Value)):Room k (A.under (.builtin "type.__call__" ⟨.ref C::us,kw⟩)) :=
 ⟨r.hd,by have:=r.dp;rw[M5];lia,by have:=r.un;rw[M4];lia⟩
theorem Room.depth{k:Nat}{A:Around}(r:Room k A):A.depth<recursionLimit:=by have:=r.dp;lia
theorem Room.units{k:Nat}{A:Around}(r:Room k A):A.units+64<cLine:=by have:=r.un;lia
def Sw:TA:=λ_ H Q=>Q [] H
def T9(ta:TE)(tr:TA):TA:=λ σ H Q=>ta σ H λ x H1=>tr σ H1 λ xs H2=>Q (x::xs) H2
section
variable{X:Cx}{e:Expr}{es:List Expr}{te:TE}{t:TA}{pos:Pos}
theorem Ab:PA X [] Sw:=λ_ _ _ _ H Q I h=>Calls.spliced_nil ⟨[],H,I,.nil,h⟩
theorem Aa(ha:PE X e te)(hr:PA X es t)(hs:starEach (e::es) X.env=(false,eval e X.env)::starEach es X.env:=by rfl):PA X (e::es) (T9 te t):=by
 intro pos pins s σ H Q I h;rw[hs];show wpAny _ _ (spliced ((false,eval e X.env)::backTo pos (starEach es X.env))) _ _ s;refine Calls.spliced_cons (thn (ha pins s σ H _ I h) λ u s1 hz_=>?_);obtain⟨x,H1,I1,r1,q1⟩:=hz_;exact thn (hr pos pins s1 σ H1 _ I1 q1) λ us s2 ⟨xs,H2,I2,r2,q2⟩=>⟨x::xs,H2,I2,.cons r1 r2,q2⟩
def UJ(t:TA):TE:=λ σ H Q=>t σ H λ xs H1=>xs.length<=sizeLine/\∀p,H1 p=none->Q (.ref p) (upd H1 p (.tup xs))
def UO(t:TA):TE:=λ σ H Q=>t σ H λ xs H1=>xs.length<=sizeLine/\∀p,H1 p=none->Q (.ref p) (upd H1 p (.lst xs))
theorem A3{x1}(h:PA X es t):PE X (.Tuple es x1 pos) (UJ t):=by
 intro pins s σ H Q I hq;refine wpAny_Tuple_spliced (thn (h pos pins s σ H _ I hq) λ us s1 ⟨xs,H1,I1,r,z,q⟩=>⟨by rw[<-r.length];exact z,?_⟩);have hf:H1 s1.heap.objs.size=none:=I1.hok.fresh (ah _);refine⟨.ref s1.heap.objs.size,upd H1 s1.heap.objs.size (.tup xs),I1.laid (t':=s1.toks) (λ b u e=>ag _ e) (ah _) ?_,rfl,q _ hf⟩;exact⟨z,us,r,⟨_,aR _ rfl,rfl,_,rfl⟩⟩
theorem AJ(h:PA X es t):PE X (.List es pos) (UO t):=by
 intro pins s σ H Q I hq;refine wpAny_List_spliced (thn (h pos pins s σ H _ I hq) λ us s1 ⟨xs,H1,I1,r,z,q⟩=>⟨by rw[<-r.length];exact z,?_⟩);have hf:H1 s1.heap.objs.size=none:=I1.hok.fresh (ah _);refine⟨.ref s1.heap.objs.size,upd H1 s1.heap.objs.size (.lst xs),I1.laid (t':=s1.toks) (λ b u e=>ag _ e) (ah _) ?_,rfl,q _ hf⟩;exact⟨z,us,0,r,aR _ rfl⟩
end
abbrev Sp:=LUz->Hp->VK->XK->Prop
abbrev CXT:=List Env->Hp->Shared->XK->Value->Shared->Prop
structure Env0(P:Program)(w:World)(K:Frag)(mg:MGz)(base:Heap)(A:Around)(outer:List Env)(s:Shared)(H:Hp):Prop where
 frames:A.frames=some outer
 mod:Mod K mg base
 bs:∀b o,base.get? b=some o->s.heap.get? b=some o/\H b=none
 bsz:base.objs.size<=s.heap.objs.size
 funs:s.heap.FunFrames base outer
 frf:∀b∈frs outer,H b=none
 hok:HOk P w H s.heap
 bare:AllBare s.gens
def CE(outer:List Env)(P:Program)(w:World)(H:Hp)(s:Shared)(Q:VK)(u:Value)(s':Shared):Prop :=
 ∃v H',s'.os=s.os/\AllBare s'.gens/\Un (frs outer) [] H H' s.heap s'.heap/\HOk P w H' s'.heap/\RelV v u/\Q v H'
def CR(CX:CXT)(outer:List Env)(P:Program)(w:World)(H:Hp)(s:Shared)(Q:VK)(E:XK)(r:Result)(s':Shared):Prop :=
 match r with
 |.ok (.ret u)=>CE outer P w H s Q u s'
 |.ok _=>False
 |.error e=>CX outer H s E e s'
structure A5(P:Program)(w:World)(K:Frag)(mg:MGz)(base:Heap)(CX:CXT)(k:Nat)(f:Addr)(fd:FuncData)(ps:LSz)(sp:Sp):Prop where
 len:∀vs H Q E,sp vs H Q E->vs.length=ps.length
 run:∀(A:Around)(outer:List Env)(s:Shared)(H:Hp)(args:Args)(us:LWz)(vs:LUz)(Q:VK)(E:XK),Room k A->Env0 P w K mg base A outer s H->BindsTo s fd args (ps.zip us)->Vals vs us->sp vs H Q E ->
  codeAny (model P w) A (.call (.ref f) args) (CR CX outer P w H s Q E) s
theorem Env0.make{P:Program}{w:World}{K:Frag}{mg:MGz}{base:Heap}{A:Around}{outer:List Env}{s:Shared}{H:Hp}(e:Env0 P w K mg base A outer s H)(C:Addr)(us:LWz)(kw:List (Str×Value)) :
  Env0 P w K mg base (A.under (.builtin "type.__call__" ⟨.ref C::us,kw⟩)) outer s H:=⟨by first|exact e.frames|(simpa [Around.under,Code.envs,Code.isFrame,pushEnvs] using e.frames),e.mod,e.bs,e.bsz,e.funs,e.frf,e.hok,e.bare⟩
section
variable{X:Cx}{pins:PNz}{σ:St}{H:Hp}{s s':Shared}
theorem Inv.env0(I:Inv X pins σ H s):Env0 X.prog X.w X.K X.mg X.base X.A X.stack s H :=
 ⟨I.ok.frames,I.ok.mod,I.bs,ba I.ok.bsz I.sz,I.stack,I.stkFree,I.hok,I.bare⟩
theorem Inv.after{Q:VK}{u:Value}(I:Inv X pins σ H s)(h:CE X.stack X.prog X.w H s Q u s'):EP X pins σ Q u s':=by
 obtain⟨v,H',os,bare,un,hok,r,q⟩:=h;obtain⟨hh,g,d,t,os'⟩:=s';obtain rfl:os'=s.os:=os;exact⟨v,H',I.call (h':=hh) (g':=g) (d':=d) (t':=t) (ch:=[]) un hok bare (λ b z=>absurd z (by simp)),r,q⟩
end
def Pj(sp:Sp)(dvs:LUz)(E:XK)(t:TA):TE:=λ σ H Q=>t σ H λ vs H1=>sp (vs++dvs) H1 Q E
def MX(C:Addr)(m:Str)(sp:Sp)(dvs:LUz)(E:XK)(ta:TE)(t:TA):TE:=λ σ H Q=>ta σ H λ x H1=>∃a dx fs,x=.ref a/\H1 a=some (.ins C dx fs)/\fs.lookup m=none /\
 t σ H1 λ vs H2=>sp (x::(vs++dvs)) H2 Q E
def RV(C:Addr)(sp:Sp)(dvs:LUz)(E:XK)(t:TA):TE:=λ σ H Q=>t σ H λ vs H1=>∀x dx,H1 x=none->H1 dx=none->dx≠x ->
 sp (.ref x::(vs++dvs)) (upd (upd H1 dx (.own x)) x (.ins C dx [])) (λ v H2=>v=.non/\Q (.ref x) H2) E
def Binds(K:Frag)(fd:FuncData)(ps:LSz)(ds:LWz):Prop :=
 ∀(s:Shared)(us:LWz),K.In s.heap->(us++ds).length=ps.length->BindsTo s fd ⟨us,[]⟩ (ps.zip (us++ds))
theorem Binds.all{K:Frag}{fd:FuncData}{ps:LSz}(h:∀us:LWz,us.length=ps.length->bindArgs fd ⟨us,[]⟩=pure (ps.zip us)):Binds K fd ps []:=λ s us _ hl=>by
 rw[aL]at hl |-;exact .of_eq (h us hl)
def Eh(CX:CXT)(X:Cx)(E:XK):Prop:=∀(pins:PNz)(σ:St)(H:Hp)(s:Shared)(e:Value)(s':Shared),Inv X pins σ H s->CX X.stack H s E e s'->X.xe e s'
section
variable{X:Cx}{CX:CXT}{k:Nat}{f C:Addr}{fd:FuncData}{ps:LSz}{sp:Sp}{dvs:LUz}{ds:LWz}{E:XK}{x m:Str}{p pos apos:Pos}{e o:Expr}{es:List Expr}{ta:TE}{t:TA}
theorem Mo{pins:PNz}{σ:St}{H:Hp}{s:Shared}{Q:VK}{us:LWz}{vs:LUz}(F:A5 X.prog X.w X.K X.mg X.base CX k f fd ps sp)(hr:Room k X.A)(hb:Binds X.K fd ps ds)(hd:Vals dvs ds)(hx:Eh CX X E)
  (I:Inv X pins σ H s) (r:Vals vs us) (h:sp (vs++dvs) H Q E):wpAny (model X.prog X.w) X.A (call (.ref f) us) (EP X pins σ Q) X.xe s:=by
 have r2:Vals (vs++dvs) (us++ds):=r.append hd;have hl:(us++ds).length=ps.length:=by rw[<-r2.length];exact F.len _ _ _ _ h
 refine wpAny_call (codeAny_mono (F.run X.A X.stack s H ⟨us,[]⟩ (us++ds) (vs++dvs) Q E hr I.env0 (hb s us I.kIn hl) r2 h) λ r s' hq=>?_);cases r with
 |error e=>exact hx pins σ H s e s' I hq
 |ok fl =>
  cases fl with
  |ret u=>exact I.after hq
  |next=>exact False.elim hq
  |brk=>exact False.elim hq
  |cont=>exact False.elim hq
theorem Rn(F:A5 X.prog X.w X.K X.mg X.base CX k f fd ps sp)(hr:Room k X.A)(hg:Gl X x)(hm:X.mg x=some (.ref f))(hk:keepIn X.K (.ref f)=true)(hb:Binds X.K fd ps ds)(hd:Vals dvs ds)(hx:Eh CX X E)
  (ha:PA X (e::es) t) (hdb:(x==("__debug__":Str))=false:=by decide) (he:starEach (e::es) X.env=(false,eval e X.env)::starEach es X.env:=by rfl) (hpl:(backTo pos (starEach es X.env)).any (·.1)=false:=by rfl) :
  PE X (.Call (.Name x p) (e::es) [] pos) (Pj sp dvs E t):=by
 intro pins s σ H Q I h;refine wpAny_Call_Name_kw (DF I hg hm ?_ hdb);refine callWith_K (h₀:=X.base) I.ok.mod.kin hk (thn (ha pos pins s σ H _ I h) λ us s1 ⟨vs,H1,I1,r,q⟩=>⟨I1.kIn,?_⟩) he hpl;exact Mo F hr hb hd hx I1 r q
theorem Ri{pl:Sem Bool}(he:PE X o ta)(c:Cls X.K C)(hm:RR X.K C m f)(F:A5 X.prog X.w X.K X.mg X.base CX k f fd ps sp)(hr:Room k X.A)(hb:Binds X.K fd ps ds)(hd:Vals dvs ds)(hx:Eh CX X E)(ha:PA X (e::es) t)
    (hst:starEach (e::es) X.env=(false,eval e X.env)::starEach es X.env:=by rfl) (hpl:(backTo pos (starEach es X.env)).any (·.1)=false:=by rfl)
    (ht:eval (.Call (.Attribute o m apos) (e::es) [] pos) X.env=(do
      let ov <-eval o X.env
      standAt apos.atName
      let (f,first) <-holding [ov] (getMethod ov m pl)
      callWith pos f first (backTo pos (starEach (e::es) X.env)) (backToKw pos (keywordEach [] X.env))):=by rfl) :
    PE X (.Call (.Attribute o m apos) (e::es) [] pos) (MX C m sp dvs E ta t):=by
  intro pins s σ H Q I h;refine methodCall_KW (pl:=pl) (thn (he pins s σ H _ I h) λ u s1 hz_=>?_) ht;obtain⟨x,H1,I1,rx,a,dx,fs,ex,ea,l,q⟩:=hz_;subst ex;obtain rfl:u=Value.ref a:=rx;refine Hg I1 ea c hm l ?_;refine callWith_K (first:=[.ref a]) (h₀:=X.base) I.ok.mod.kin hm.kp (thn (ha pos pins s1 σ H1 _ I1 q) λ us s2 ⟨vs,H2,I2,r,q2⟩=>⟨I2.kIn,?_⟩) hst hpl;exact Mo (us:=.ref a::us) (vs:=.ref a::vs) F hr hb hd hx I2 (.cons rfl r) q2
theorem P7{pl:Sem Bool}(he:PE X o ta)(c:Cls X.K C)(hm:RR X.K C m f)(F:A5 X.prog X.w X.K X.mg X.base CX k f fd ps sp)(hr:Room k X.A)(hb:Binds X.K fd ps ds)(hd:Vals dvs ds)(hx:Eh CX X E)
    (ht:eval (.Call (.Attribute o m apos) [] [] pos) X.env=(do
      let ov <-eval o X.env
      standAt apos.atName
      let (f,first) <-holding [ov] (getMethod ov m pl)
      callWith pos f first (backTo pos (starEach [] X.env)) (backToKw pos (keywordEach [] X.env))):=by rfl) :
    PE X (.Call (.Attribute o m apos) [] [] pos) (MX C m sp dvs E ta Sw):=by
  intro pins s σ H Q I h;refine methodCall_KW (pl:=pl) (thn (he pins s σ H _ I h) λ u s1 hz_=>?_) ht;obtain⟨x,H1,I1,rx,a,dx,fs,ex,ea,l,q⟩:=hz_;subst ex;obtain rfl:u=Value.ref a:=rx;refine Hg I1 ea c hm l ?_;exact callWith_K0 (first:=[.ref a]) I1.kIn hm.kp (Mo (us:=[.ref a]) (vs:=[.ref a]) F hr hb hd hx I1 (.cons rfl .nil) q)
structure Mk(K:Frag)(C f:Addr):Prop where
 makes:makesIn K C=true
 init:findIn K (.ref C) "__init__"=some (some (.ref f))
 fn:isFn K (.ref f)=true
 kp:keepIn K (.ref C)=true
theorem Px{pins:PNz}{σ:St}{H:Hp}{s:Shared}{Q:VK}{us:LWz}{vs:LUz}(M:Mk X.K C f)(F:A5 X.prog X.w X.K X.mg X.base CX k f fd ps sp)(hr:Room (k+1) X.A)(hb:Binds X.K fd ps ds)(hd:Vals dvs ds)
  (hx:Eh CX X E) (I:Inv X pins σ H s) (r:Vals vs us)
  (h:∀x dx,H x=none->H dx=none->dx≠x->sp (.ref x::(vs++dvs)) (upd (upd H dx (.own x)) x (.ins C dx [])) (λ v H2=>v=.non/\Q (.ref x) H2) E) :
  wpAny (model X.prog X.w) X.A (call (.ref C) us) (EP X pins σ Q) X.xe s:=by
 have hq:=h (s.heap.objs.size+1) s.heap.objs.size (I.hok.fresh (bI _)) (I.hok.fresh (ah _)) (aM (cZ _));have I2:=Inv.made (C:=C) I;have r2:Vals (V.ref (s.heap.objs.size+1)::(vs++dvs)) (Value.ref (s.heap.objs.size+1)::(us++ds)):=.cons rfl (r.append hd);have hl:(Value.ref (s.heap.objs.size+1)::us++ds).length=ps.length:=by
  have e:=r2.length;rw[F.len _ _ _ _ hq]at e;exact e.symm
 refine wpAny_call (PM (f:=f) I.kIn M.makes M.init (beq_iff_eq.mp M.fn) (codeAny_mono (F.run _ X.stack _ _ ⟨Value.ref (s.heap.objs.size+1)::us,[]⟩ (Value.ref (s.heap.objs.size+1)::(us++ds)) _ _ E (hr.make C us [])
  (I2.env0.make C us []) (hb _ (Value.ref (s.heap.objs.size+1)::us) I2.kIn hl) r2 hq) λ r s' hq'=>?_))
 cases r with
 |error e=>exact hx pins σ _ _ e s' I2 hq'
 |ok fl =>
  cases fl with
  |ret u =>
   obtain⟨v,H',I3,rv,ev,q3⟩:=I2.after hq';subst ev;exact⟨rv,⟨V.ref (s.heap.objs.size+1),H',I3,rfl,q3⟩⟩
  |next=>exact False.elim hq'
  |brk=>exact False.elim hq'
  |cont=>exact False.elim hq'
theorem Rj(M:Mk X.K C f)(F:A5 X.prog X.w X.K X.mg X.base CX k f fd ps sp)(hr:Room (k+1) X.A)(hg:Gl X x)(hm:X.mg x=some (.ref C))(hb:Binds X.K fd ps ds)(hd:Vals dvs ds)(hx:Eh CX X E)
  (ha:PA X (e::es) t) (hdb:(x==("__debug__":Str))=false:=by decide) (he:starEach (e::es) X.env=(false,eval e X.env)::starEach es X.env:=by rfl) (hpl:(backTo pos (starEach es X.env)).any (·.1)=false:=by rfl) :
  PE X (.Call (.Name x p) (e::es) [] pos) (RV C sp dvs E t):=by
 intro pins s σ H Q I h;refine wpAny_Call_Name_kw (DF I hg hm ?_ hdb);refine callWith_K (h₀:=X.base) I.ok.mod.kin M.kp (thn (ha pos pins s σ H _ I h) λ us s1 ⟨vs,H1,I1,r,q⟩=>⟨I1.kIn,?_⟩) he hpl;exact Px M F hr hb hd hx I1 r q
end
structure An(N P:LSz)(sc:Scope):Prop where
 kind:sc.kind=.function
 co:sc.isCoroutine=false
 gen:sc.isGenerator=false
 nd:N.Nodup
 pre:N.take P.length=P
 par:∀x∈P,sc.names.lookup x=some .local\/sc.names.lookup x=some .cell
 nofree:∀y∈sc.names,y.2≠.free
theorem fsc{N P:List Str}{sc:Scope}(a:sc.kind=.function:=by rfl)(b:sc.isCoroutine=false:=by rfl)(c:sc.isGenerator=false:=by rfl)(d:N.Nodup:=by decide +kernel)(e:N.take P.length=P:=by rfl)(f:∀x∈P,sc.names.lookup x=some .local\/sc.names.lookup x=some .cell:=by decide +kernel)(g:∀y∈sc.names,y.2≠.free:=by decide +kernel):An N P sc:=⟨a,b,c,d,e,f,g⟩
theorem IQ{kindOf:Str->Option NameKind}{x:Str}:∀{binds:List (Str×Value)}{m:MGz},(∀v,(x,v)∉binds)->bindL kindOf binds m x=m x
 |[],_,_=>rfl
 | (n,v)::r,m,h=>by
  unfold bindL;rw[IQ λ w hw=>h w (aJ _ hw)];split
  .have:x≠n:=by rintro rfl;exact h v aD
   simp[this]
  .rfl
theorem IS{kindOf:Str->Option NameKind}{x:Str}:∀{binds:List (Str×Value)}{m:MGz},(∀v,(x,v)∉binds)->bindC kindOf binds m x=m x
 |[],_,_=>rfl
 | (n,v)::r,m,h=>by
  unfold bindC;rw[IS λ w hw=>h w (aJ _ hw)];split
  .rfl
  .have:x≠n:=by rintro rfl;exact h v aD
   simp[this]
theorem IR{kindOf:Str->Option NameKind}{x:Str}{v:Value}:∀{P:LSz}{vs:LWz}{i:Nat}{m:MGz},P.Nodup->P[i]?=some x->vs[i]?=some v->kindOf x=some .local ->
  bindL kindOf (P.zip vs) m x=some v
 |[],_,_,_,_,h,_,_=>by simp at h
 |_::_,[],_,_,_,_,h,_=>by simp at h
 |p::P,w::vs,0,m,nd,h1,h2,hk=>by
  simp at h1 h2;subst h1;subst h2;show bindL kindOf ((p,w)::P.zip vs) m p=_;unfold bindL;rw[IQ λ v hv=>(bv.mp nd).1 (dS hv).1,if_pos hk];simp
 |p::P,w::vs,i+1,m,nd,h1,h2,hk=>by
  show bindL kindOf ((p,w)::P.zip vs) m x=_;unfold bindL;exact IR (i:=i) (bv.mp nd).2 (by simpa using h1) (by simpa using h2) hk
theorem IT{kindOf:Str->Option NameKind}{x:Str}{v:Value}:∀{P:LSz}{vs:LWz}{i:Nat}{m:MGz},P.Nodup->P[i]?=some x->vs[i]?=some v->kindOf x≠some .local ->
  bindC kindOf (P.zip vs) m x=some v
 |[],_,_,_,_,h,_,_=>by simp at h
 |_::_,[],_,_,_,_,h,_=>by simp at h
 |p::P,w::vs,0,m,nd,h1,h2,hk=>by
  simp at h1 h2;subst h1;subst h2;show bindC kindOf ((p,w)::P.zip vs) m p=_;unfold bindC;rw[IS λ v hv=>(bv.mp nd).1 (dS hv).1,if_neg hk];simp
 |p::P,w::vs,i+1,m,nd,h1,h2,hk=>by
  show bindC kindOf ((p,w)::P.zip vs) m x=_;unfold bindC;exact IT (i:=i) (bv.mp nd).2 (by simpa using h1) (by simpa using h2) hk
def C0(N:LSz)(vs:LUz):St:=vs.map some++List.replicate (N.length-vs.length) none
def BA(CX:CXT)(P:Program)(w:World)(K:Frag)(mg:MGz)(base:Heap)(N:LSz)(qual:Str)(scope:Scope)(f:Addr)(cd:Value)(A:Around)(outer:List Env)(s:Shared)(H:Hp)(E:XK):Cx where
 prog:=P
 w:=w
 K:=K
 mg:=mg
 base:=base
 A:=A.deeper (envOfC qual scope s.heap.objs.size f cd)
 N:=N
 s₀:=s
 H₀:=H
 env:=envOfC qual scope s.heap.objs.size f cd
 outer:=outer
 stack:=envOfC qual scope s.heap.objs.size f cd::outer
 ex:=[]
 calm:=true
 fn:=λ_=>true
 pn:=[]
 xe:=λ e s'=>wpAny (model P w) (A.deeper (envOfC qual scope s.heap.objs.size f cd)) (leaving (envOfC qual scope s.heap.objs.size f cd) e) (λ_ s''=>CX outer H s E e s'') (λ e' s''=>CX outer H s E e' s'') s'
theorem LI{sc:Scope}{n:Nat}{x:Str}(h:sc.names.lookup x=some .cell):∃c,(cellsFrom n sc.names []).lookup x=some c:=by
 have q:=cellsFrom_some sc.names n [] (.inl h);exact dX.mp q
theorem OA{CX:CXT}{P:Program}{w:World}{K:Frag}{mg:MGz}{base:Heap}{N ps:LSz}{qual:Str}{scope:Scope}{f:Addr}{cd:Value}{A:Around}{outer:List Env}{s s1:Shared}{H:Hp}{E:XK}{us:LWz}{vs:LUz}
  (S:An N ps scope) (hd:A.handled=none) (e0:Env0 P w K mg base A outer s H) (hl:vs.length=ps.length) (r:Vals vs us)
  (x:InCallC s s.heap.objs.size (bindL (envOfC qual scope s.heap.objs.size f cd).kindOf (ps.zip us) λ_=>none) (cellsFrom (s.heap.objs.size+1) scope.names []) (bindC (envOfC qual scope s.heap.objs.size f cd).kindOf (ps.zip us) λ_=>none) s1) :
  Inv (BA CX P w K mg base N qual scope f cd A outer s H E) [] (C0 N vs) H s1:=by
 have hpl:ps.length<=N.length:=by have:=congrArg List.length S.pre;rw[aY]at this;lia
 obtain⟨h1,tk,rfl,hk⟩:=x.done;have noA:∀b:Addr,b∉(BA CX P w K mg base N qual scope f cd A outer s H E).ex:=λ b z=>absurd (show b∈([]:List Addr) from z) (by simp);refine⟨⟨e0.mod,S.kind,rfl,rfl,ah _,λ y z c h1 h2=>?_,λ y hy=>?_,λ y c _ h=>?_,λ_=>hd,Around.frames_deeper e0.frames,.inr ⟨rfl,rfl⟩,λ b z=>absurd z (noA b),e0.bs,e0.bsz,λ b _ _=>noA b,λ b z=>absurd z (noA b),e0.funs,e0.frf⟩,
  rfl,e0.bare,Un.kept hk,⟨_,x.toInCall.ns,λ i y v h1 h2 h3=>?_⟩,λ y c h=>⟨_,x.cell y c h⟩,e0.hok.fresh (ah _),λ y c h=>?_,λ p hp=>absurd (show p∈([]:PNz) from hp) (by simp),e0.hok.kept hk,?_⟩
 .exact name_of_addr x.apart (PySem.mem_of_lookup h1) (PySem.mem_of_lookup h2)
 .have hy:scope.names.lookup y=some .cell\/scope.names.lookup y=some .free:=hy;rcases hy with hy|hy
  .exact LI hy
  .exact absurd rfl (S.nofree _ (PySem.mem_of_lookup hy))
 .exact aF (x.above y c (PySem.mem_of_lookup h))
 .have hi:i<vs.length:=by
   unfold C0 at h2;by_cases hi:i<vs.length
   .exact hi
   .rw[bD (by simpa using hi)]at h2;rw[ez]at h2;split at h2<;>cases h2
  have ha:vs[i]?=some v:=by
   unfold C0 at h2;rw[cM (by simpa using hi),aB]at h2;cases e:vs[i]? with
   |none=>rw[e]at h2;cases h2
   |some a=>rw[e]at h2;cases h2;rfl
  obtain⟨u,hu,rv⟩:=r.get ha;have hp:ps[i]?=some y:=by
   rw[<-S.pre,d8 (by lia)];exact h1
  have ndP:ps.Nodup:=by rw[<-S.pre];exact S.nd.sublist (List.take_sublist _ _)
  refine⟨u,rv,?_⟩;rcases S.par y (ao hp) with k|k
  .exact .inl ⟨k,IR ndP hp hu k⟩
  .obtain⟨c,e⟩:=LI (n:=s.heap.objs.size+1) k;refine .inr ⟨.inl k,c,e,?_⟩;have q:=x.cell y c e;rw[IT ndP hp hu (by show scope.names.lookup y≠_;rw[k];decide)]at q;exact q
 .exact e0.hok.fresh (aF (x.above y c (PySem.mem_of_lookup h)))
 .unfold C0;show _=N.length;rw[af,aa,bG];lia
theorem NE{CX:CXT}{P:Program}{w:World}{K:Frag}{mg:MGz}{base:Heap}{k:Nat}{f:Addr}{name qual:Str}{params:Arguments}{body:List Stmt}{scope:Scope}{dV kV doc pm cdv ct oc:Value}{an od:Option Addr}
  {osl:AOz} {N ps:LSz} {sp:Sp} (lk:K.lookup f=some ⟨oc,od,.func (fnOf name qual params body scope dV kV doc pm an cdv ct),osl⟩) (hcd:codeIn K cdv qual=true) (S:An N ps scope)
  (len:∀vs H Q E,sp vs H Q E->vs.length=ps.length)
  (hbody:∀(A:Around)(outer:List Env)(s:Shared)(H:Hp)(vs:LUz)(Q:VK)(E:XK),Room k (A.deeper (envOfC qual scope s.heap.objs.size f cdv))->sp vs H Q E ->
   ∃t,PSs (BA CX P w K mg base N qual scope f cdv A outer s H E) body t/\t { nx:=λ_ H'=>Q .non H',rt:=Q } (C0 N vs) H) :
  A5 P w K mg base CX (k+1) f (fnOf name qual params body scope dV kV doc pm an cdv ct) ps sp:=by
 refine⟨len,λ A outer s H args us vs Q E hr e0 hb r hsp=>?_⟩;have hl:=len _ _ _ _ hsp;have KX:K.In s.heap:=e0.mod.kin.keeps λ b o e=>(e0.bs b o e).1;have lim:s.heap.NoLimit:=e0.mod.nolimit.keeps λ b o e=>(e0.bs b o e).1;have hkind:∀y∈ps.zip us,scope.names.lookup y.1=some .local\/(scope.names.lookup y.1=some .cell/\((cellsFrom (s.heap.objs.size+1) scope.names []).lookup y.1).isSome=true):=λ⟨n,v⟩ hy=>by
  rcases S.par n (dS hy).1 with q|q
  .exact .inl q
  .exact .inr ⟨q,cellsFrom_some _ _ _ (.inl q)⟩
 refine codeAny_call_function hr.depth (KX _ _ lk) rfl S.co S.gen rfl (codeRec_of KX hcd) (hb _ _ _ _ ?_);refine wpAny_newFunctionEnv_cells S.kind hkind λ env he s1 x=>?_;subst he;refine⟨lim.keeps x.toInCall.keep,codeAny_func ?_⟩;obtain⟨t,ht,hq⟩:=hbody A outer s H vs Q E (hr.deeper _) hsp;have I:Inv (BA CX P w K mg base N qual scope f cdv A outer s H E) [] (C0 N vs) H s1:=OA S hr.hd e0 hl r x;refine wpAny_mono (ht [] s1 (C0 N vs) H _ I hq) (λ fl s' hs=>?_) λ e s' hs=>hs;have fin:∀{σ':St}{H':Hp}{v:V}{u:Value},Inv (BA CX P w K mg base N qual scope f cdv A outer s H E) [] σ' H' s'->RelV v u->Q v H'->CE outer P w H s Q u s' :=
  λ{σ' H' v u} J rv q=>⟨v,H',J.os,J.bare,J.base,J.hok,rv,q⟩
 cases fl with
 |ret u =>
  obtain⟨v,σ',H',J,rv,q⟩:=hs;exact fin J rv q
 |next =>
  obtain⟨σ',H',J,q⟩:=hs;exact fin (v:=V.non) (u:=Value.none) J rfl q
 |brk =>
  obtain⟨_,_,_,q⟩:=hs;exact False.elim q
 |cont =>
  obtain⟨_,_,_,q⟩:=hs;exact False.elim q
section
variable{X:Cx}{x:Str}{p pos:Pos}{e:Expr}{es:List Expr}{t:TA}{id T:String}{r:LUz->Hp->VK->Prop}
def tCB(r:LUz->Hp->VK->Prop)(t:TA):TE:=λ σ H Q=>t σ H λ vs H1=>r vs H1 Q
theorem A0(hc:CQ X (.builtin id) r)(hg:Gl X x)(hm:X.mg x=none)(hv:bootBuiltins x=some (.builtin id))(ha:PA X (e::es) t)(hn:x≠"__name__":=by decide)(hdb:(x==("__debug__":Str))=false:=by decide)
  (he:starEach (e::es) X.env=(false,eval e X.env)::starEach es X.env:=by rfl) (hpl:(backTo pos (starEach es X.env)).any (·.1)=false:=by rfl):PE X (.Call (.Name x p) (e::es) [] pos) (tCB r t):=by
 intro pins s σ H Q I h;refine wpAny_Call_Name_kw (EG I hg hm hv ?_ hn hdb);exact PyProof.Rows.callWith_builtin1 (thn (ha pos pins s σ H _ I h) λ us s1 ⟨vs,H1,I1,r1,q1⟩=>hc pins s1 σ H1 vs us Q I1 r1 q1) he hpl
theorem BH(hc:CQ X (.type T) r)(hg:Gl X x)(hm:X.mg x=none)(hv:bootBuiltins x=some (.type T))(ha:PA X (e::es) t)(hn:x≠"__name__":=by decide)(hdb:(x==("__debug__":Str))=false:=by decide)
  (he:starEach (e::es) X.env=(false,eval e X.env)::starEach es X.env:=by rfl) (hpl:(backTo pos (starEach es X.env)).any (·.1)=false:=by rfl):PE X (.Call (.Name x p) (e::es) [] pos) (tCB r t):=by
 intro pins s σ H Q I h;refine wpAny_Call_Name_kw (EG I hg hm hv ?_ hn hdb);exact PyProof.Rows.callWith_type1 (thn (ha pos pins s σ H _ I h) λ us s1 ⟨vs,H1,I1,r1,q1⟩=>hc pins s1 σ H1 vs us Q I1 r1 q1) he hpl
end
end L2
namespace HT
open PySem.W
open PySem PyProof.Rows
def lexLt:List Int->List Int->Bool
 |[],[]=>false
 |[],_::_=>true
 |_::_,[]=>false
 |x::xs,y::ys=>if x=y then lexLt xs ys else decide (x<y)
theorem lexLt_cons(x y:Int)(xs ys:List Int):lexLt (x::xs) (y::ys)=if x=y then lexLt xs ys else decide (x<y):=rfl
theorem lexLt_nil_nil:lexLt [] []=false:=rfl
section
variable{prog:Program}{w:World}{A:Around}{E:VPz}{s:Shared}
def sIx(n d:Nat):Option Int->Nat
 |none=>d
 |some v=>if v<0 then (v+(n:Int)).toNat else min v.toNat n
theorem S3(n d:Nat)(hd:d<=n)(o:Option Int):sIx n d o<=n:=by
 cases o with
 |none=>exact hd
 |some v =>
  show(if v<0 then (v+(n:Int)).toNat else min v.toNat n)<=n;by_cases hv:v<0
  .rw[if_pos hv];lia
  .rw[if_neg hv];exact Nat.min_le_right _ _
theorem NN(v:Int)(n d:Nat):(if v<0 then max (v+(n:Int)) 0 else min v (n:Int))=((sIx n d (some v):Nat):Int):=by
 show(if v<0 then max (v+(n:Int)) 0 else min v (n:Int))=(((if v<0 then (v+(n:Int)).toNat else min v.toNat n):Nat):Int);by_cases hv:v<0
 .simp only[if_pos hv];lia
 .simp only[if_neg hv];lia
theorem MK(lo hi:Option Int)(n:Nat):Builtin.Slice.sliceAdjust lo hi 1 (n:Int)=(((sIx n 0 lo:Nat):Int),((sIx n n hi:Nat):Int)):=by
 have h1:¬((1:Int)<0):=by lia
 unfold Builtin.Slice.sliceAdjust;simp only[h1,if_false];refine bM ?_ ?_
 .cases lo with
  |none=>rfl
  |some v=>exact NN v n 0
 .cases hi with
  |none=>rfl
  |some v=>exact NN v n n
theorem Ms(i j:Nat):Builtin.Slice.slicePlaces (i:Int) (j:Int) 1=j-i:=by
 unfold Builtin.Slice.slicePlaces;have h1:(1:Int)>0:=by lia
 simp only[h1,if_true,Int.ediv_one];split<;>lia
theorem G1{v:Value}{o:Option Int}{Q:Option Int->Shared->Prop}(p:IsPart v o)(h:Q o s):wpAny (model prog w) A (Builtin.Slice.slicePartIndex v) Q E s:=by
 cases p with
 |none=>exact slicePart_none h
 |int i t=>exact slicePart_int h
theorem Do{sl:Addr}{vl vu:Value}{lo hi:Option Int}{n:Nat}{Q:Int×Int×Nat->Shared->Prop}(hs:s.heap.IsSliceOf sl vl vu .none)(pl:IsPart vl lo)(pu:IsPart vu hi)
  (h:Q (((sIx n 0 lo:Nat):Int),1,sIx n n hi-sIx n 0 lo) s):wpAny (model prog w) A (Builtin.Slice.sliceApplied (.ref sl) (pure (n:Int))) Q E s:=by
 obtain⟨os,hos,hcs,hds⟩:=id hs;unfold Builtin.Slice.sliceApplied Builtin.Slice.sliceFields;refine wpAny_bind (wpAny_bind (wpAny_field hos hds (x:=vl) rfl (wpAny_bind (wpAny_field hos hds (x:=vu) rfl (wpAny_bind (wpAny_field hos hds (x:=.none) rfl (wpAny_pure ?_)))))));refine wpAny_bind (slicePart_none ?_);show wpAny _ _ (if ((1:Int)==0)=true then _ else _) _ _ s;rw[if_neg (by decide)];refine wpAny_bind (G1 pl (wpAny_bind (G1 pu (wpAny_bind (wpAny_pure ?_)))));show wpAny _ _ (match Builtin.Slice.sliceAdjust lo hi 1 (n:Int) with|(lo,hi)=>pure (lo,(1:Int),Builtin.Slice.slicePlaces lo hi 1)) _ _ s;rw[MK lo hi n];show wpAny _ _ (pure (((sIx n 0 lo:Nat):Int),(1:Int),Builtin.Slice.slicePlaces ((sIx n 0 lo:Nat):Int) ((sIx n n hi:Nat):Int) 1)) _ _ s;rw[Ms];exact wpAny_pure h
theorem P4(xs:Array Value)(i k:Nat):((List.range k).filterMap λ(m:Nat)=>xs[((i:Int)+(m:Int)*1).toNat]?).toArray=((xs.toList.drop i).take k).toArray:=by
 have e:(λ(m:Nat)=>xs[((i:Int)+(m:Int)*1).toNat]?)=λ m=>xs[i+m]?:=by
  funext m
  have:((i:Int)+(m:Int)*1).toNat=i+m:=by lia
  rw[this]
 rw[e];have:=pick_run xs i k;rw[List.filterMap_map]at this;have e2:((λ x=>xs[x]?)∘λ x=>i+x)=λ m=>xs[i+m]?:=rfl;rw[e2]at this;rw[this]
theorem getItem_tuple_cut{t sl:Addr}{items:Array Value}{vl vu:Value}{lo hi:Option Int}{Q:VPz}(ht:IsTup s.heap t items)(hs:s.heap.IsSliceOf sl vl vu .none)(pl:IsPart vl lo)(pu:IsPart vu hi)
  (hw:¬(sIx items.size 0 lo=0/\sIx items.size items.size hi=items.size))
  (h:Q (.ref s.heap.objs.size) { s with heap:=s.heap.push { cls:=.type "tuple",data:=.seq ((items.toList.drop (sIx items.size 0 lo)).take (sIx items.size items.size hi-sIx items.size 0 lo)).toArray } })
  (hsz:items.size<=sizeLine):wpAny (model prog w) A (getItem (.ref t) (.ref sl)) Q E s:=by
 have htake:sizeOk (.seq ((items.toList.drop (sIx items.size 0 lo)).take (sIx items.size items.size hi-sIx items.size 0 lo)).toArray):=by
  show((items.toList.drop (sIx items.size 0 lo)).take (sIx items.size items.size hi-sIx items.size 0 lo)).toArray.size<=sizeLine;rw[au,aY,bp,bY];lia
 have hj:sIx items.size items.size hi<=items.size:=S3 _ _ (ah _) hi;obtain⟨os,hos,hcs,hds⟩:=id hs;have hTs:s.TypeIs (.ref sl) "slice":=⟨os,hos,hcs⟩;unfold getItem
 try with_reducible refine wpAny_holding ?_
 first|refine wpAny_bind (wpAny_pure ?_)|skip
 refine wpAny_bind (wpAny_sequenceKey ht.typeIs (by decide) ?_);refine wpAny_bind (wpAny_callSpecial?_slot (name:=Str.ofString "__getitem__") ht.typeIs PyProof.Rows.slot_tuple_getitem
  (wpAny_call_entry PyProof.Rows.slot_tuple_getitem ht.typeIs entry_tuple_getitem ?_ (args_tuple_getitem _ _)))
 show wpAny _ _ (Builtin.Tuple.tupleItemsOf (.ref t) >>= _) _ _ s;refine wpAny_bind (tupleItemsOf_ ht ?_);refine wpAny_bind (wpAny_typeOf hTs ?_);rw[if_pos (by decide)];refine wpAny_bind (Do hs pl pu ?_);have hno:¬((((sIx items.size 0 lo:Nat):Int)==0&&(1:Int)==1&&(sIx items.size items.size hi-sIx items.size 0 lo)==items.size)=true):=by
  intro q;rw[aK,aK]at q;have q1:((sIx items.size 0 lo:Nat):Int)=0:=eq_of_beq q.1.1;have q2:sIx items.size items.size hi-sIx items.size 0 lo=items.size:=eq_of_beq q.2;exact hw ⟨by lia,by lia⟩
 show wpAny _ _ (if (((sIx items.size 0 lo:Nat):Int)==0&&(1:Int)==1&&(sIx items.size items.size hi-sIx items.size 0 lo)==items.size)=true then _ else _) _ _ s;rw[if_neg hno,P4]
 first
  |exact wpAny_bind (m:=Builtin.Tuple.tupleExact _) (wpAny_newObj_type (wpAny_pure ⟨_,rfl,wpAny_pure h⟩) htake)
  |exact wpAny_bind (m:=Builtin.Tuple.tupleExact _) (wpAny_newObj_type (wpAny_bind (wpAny_pure (wpAny_pure ⟨_,rfl,wpAny_pure h⟩))) htake)
  |exact wpAny_bind (wpAny_bind (m:=Builtin.Tuple.tupleExact _) (wpAny_newObj_type (wpAny_pure (wpAny_pure ⟨_,rfl,wpAny_pure h⟩)) htake))
  |exact wpAny_bind (wpAny_bind (m:=Builtin.Tuple.tupleExact _) (wpAny_newObj_type (wpAny_pure ⟨_,rfl,wpAny_pure h⟩) htake))
end
end HT
namespace L2
open PySem.W
open PySem PySem.Spec PyProof.Rows
abbrev TO:=St->Hp->(Option Int->Hp->Prop)->Prop
def PO(X:Cx)(e:Option Expr)(t:TO):Prop :=
 ∀(pins:PNz)(s:Shared)(σ:St)(H:Hp)(Q:Option Int->Hp->Prop),Inv X pins σ H s->t σ H Q ->
  wpAny (model X.prog X.w) X.A (evalPart e X.env) (λ u s'=>∃o H',Inv X pins σ H' s'/\IsPart u o/\Q o H') X.xe s
def QI:TO:=λ_ H Q=>Q none H
def Tt(t:TE):TO:=λ σ H Q=>t σ H λ x H1=>∃i,x=.int i/\Q (some i) H1
theorem M8{ns:List Int}:∀{us:LWz},Vals (ns.map V.int) us->IntsAre us ns:=by
 induction ns with
 |nil=>intro us r;rw[bV]at r;cases r;exact .nil
 |cons n ns ih =>
  intro us r;rw[aS]at r;cases r with
  |cons r1 r2 =>
   obtain⟨t,e⟩:=r1;subst e;exact .cons n t (ih r2)
section
variable{X:Cx}{e:Expr}{te:TE}{lo hi:Option Expr}{tl th:TO}{pos p2:Pos}
theorem CI:PO X none QI:=by
 intro pins s σ H Q I h;rw[evalPart_none];exact wpAny_pure ⟨none,H,I,.none,h⟩
theorem Ce(h:PE X e te):PO X (some e) (Tt te):=by
 intro pins s σ H Q I hw;rw[evalPart_some];refine thn (h pins s σ H _ I hw) λ u s1 hz_=>?_;obtain⟨x,H1,I1,r1,q1⟩:=hz_;obtain⟨i,rfl,q⟩:=q1;obtain⟨t,rfl⟩:=r1;exact⟨some i,H1,I1,.int i t,q⟩
def SlR(X:Cx)(r:V->Option Int->Option Int->Hp->VK->Prop):Prop :=
 ∀(pins:PNz)(s:Shared)(σ:St)(H:Hp)(x:V)(v vl vu:Value)(lo hi:Option Int)(sl:Addr)(Q:VK),Inv X pins σ H s->RelV x v->s.heap.IsSliceOf sl vl vu .none->IsPart vl lo->IsPart vu hi->r x lo hi H Q ->
  ∃T id,typeLookup (.type T) "__getitem__"=pure (some (.builtin id))/\s.TypeIs v T/\wpAny (model X.prog X.w) X.A (getItem v (.ref sl)) (EP X pins σ Q) X.xe s
def tSl(r:V->Option Int->Option Int->Hp->VK->Prop)(te:TE)(tl th:TO):TE:=λ σ H Q=>te σ H λ x H1=>tl σ H1 λ l H2=>th σ H2 λ u H3=>r x l u H3 Q
theorem BN{r:V->Option Int->Option Int->Hp->VK->Prop}(hr:SlR X r)(he:PE X e te)(hl:PO X lo tl)(hu:PO X hi th):PE X (.Subscript e (.Slice lo hi none p2) pos) (tSl r te tl th):=by
 intro pins s σ H Q I h;refine Subscript_ (thn (he pins s σ H _ I h) λ v s1 hz_=>?_);obtain⟨x,H1,I1,r1,q1⟩:=hz_;refine wpAny_Slice (thn (hl pins s1 σ H1 _ I1 q1) λ vl s2 hz_=>?_);obtain⟨l,H2,I2,pl,q2⟩:=hz_;refine thn (hu pins s2 σ H2 _ I2 q2) λ vu s3 hz_=>?_;obtain⟨u,H3,I3,pu,q3⟩:=hz_;rw[evalPart_none];refine wpAny_pure ?_;have I4:Inv X pins σ H3 { s3 with heap:=s3.heap.push { cls:=.type "slice",data:=.fields #[vl,vu,.none] } }:=I3.kept (t':=s3.toks) λ b ob q=>ag _ q;obtain⟨T,id,hT,ht,hg⟩:=hr pins { s3 with heap:=s3.heap.push { cls:=.type "slice",data:=.fields #[vl,vu,.none] } } σ H3 x v vl vu l u s3.heap.objs.size Q I4 r1 (Heap.IsSliceOf.new ..) pl pu q3;show wpAny (model X.prog X.w) X.A (subscriptTail e (.Slice lo hi none p2) v (.ref s3.heap.objs.size)) (EP X pins σ Q) X.xe { s3 with heap:=s3.heap.push { cls:=.type "slice",data:=.fields #[vl,vu,.none] } };exact tail_any (ops:=[.ref s3.heap.objs.size,v]) ht hT hg (by with_unfolding_all rfl)
def Fl(xs:LUz)(lo hi:Option Int):LUz:=(xs.drop (HT.sIx xs.length 0 lo)).take (HT.sIx xs.length xs.length hi-HT.sIx xs.length 0 lo)
theorem FS(xs:LUz)(lo hi:Option Int):(Fl xs lo hi).length<=xs.length:=by
 unfold Fl;rw[aY,bp];lia
def UZ(K:Frag):V->Option Int->Option Int->Hp->VK->Prop:=λ x lo hi H Q=>∃a xs,x=.ref a/\SqT K H a xs /\
 ¬(HT.sIx xs.length 0 lo=0/\HT.sIx xs.length xs.length hi=xs.length)/\∀p,H p=none->Q (.ref p) (upd H p (.tup (Fl xs lo hi)))
theorem Pt:SlR X (UZ X.K):=by
 intro pins s σ H x v vl vu lo hi sl Q I rx hs pl pu h;obtain⟨a,xs,rfl,hx,hw,q⟩:=h;cases rx;obtain⟨its,r,ht,hz⟩:=I.tuple hx;have hlen:its.toArray.size=xs.length:=by rw[au];exact r.length.symm
 refine⟨"tuple",_,PyProof.Rows.slot_tuple_getitem.lookup,ht.typeIs,?_⟩;refine HT.getItem_tuple_cut ht hs pl pu (by rw[hlen];exact hw) ?_ (by rw[hlen];exact hz);rw[hlen];refine⟨.ref s.heap.objs.size,_,I.laid (t':=s.toks) (o:=.tup (Fl xs lo hi)) (λ b ob q=>ag _ q) (ah _) ?_,rfl,q _ (I.hok.fresh (ah _))⟩;exact⟨ba (FS xs lo hi) hz,_,(r.drop (HT.sIx xs.length 0 lo)).take (HT.sIx xs.length xs.length hi-HT.sIx xs.length 0 lo),IsTup.new _ _⟩
end
def ixN(n:Nat)(i:Int):Option Nat:=if 0<=i then (if i<n then some i.toNat else none) else if -(n:Int)<=i then some (i+n).toNat else none
def atI{α:Type}(xs:List α)(i:Int):Option α:=(ixN xs.length i).bind λ j=>xs[j]?
theorem N7{n:Nat}{i:Int}{j:Nat}(h:ixN n i=some j):seqIndex? i n=some j/\j<n/\-(n:Int)<=i/\i<n:=by
 unfold ixN at h;by_cases h0:0<=i
 .rw[if_pos h0]at h;by_cases h1:i<n
  .rw[if_pos h1]at h;have e:i.toNat=j:=Option.some.inj h;exact⟨by rw[seqIndex_of h0 h1,e],by lia,by lia,h1⟩
  .rw[if_neg h1]at h;cases h
 .rw[if_neg h0]at h;by_cases h1:-(n:Int)<=i
  .rw[if_pos h1]at h;have e:(i+n).toNat=j:=Option.some.inj h;exact⟨by rw[seqIndex_neg (by lia) h1,e],by lia,h1,by lia⟩
  .rw[if_neg h1]at h;cases h
theorem NS{α:Type}{xs:List α}{i:Int}{v:α}(h:atI xs i=some v):∃j,seqIndex? i xs.length=some j/\xs[j]?=some v/\j<xs.length/\-(xs.length:Int)<=i/\i<xs.length:=by
 unfold atI at h;cases e:ixN xs.length i with
 |none=>rw[e]at h;cases h
 |some j =>
  rw[e]at h;obtain⟨h1,h2,h3,h4⟩:=N7 e;exact⟨j,h1,h,h2,h3,h4⟩
theorem CO{α:Type}{xs:List α}{j:Nat}{v:α}(h:xs[j]?=some v):atI xs (j:Int)=some v:=by
 have hj:j<xs.length:=(aH.mp h).1;have e:ixN xs.length (j:Int)=some j:=by
  unfold ixN;rw[if_pos (by lia),if_pos (by lia)];simp
 unfold atI;rw[e];exact h
theorem Hw{α:Type}(xs:List α)(v:α):atI (xs++[v]) (-1)=some v:=by
 have hl:(xs++[v]).length=xs.length+1:=by simp
 have e:ixN (xs++[v]).length (-1)=some xs.length:=by
  unfold ixN;rw[hl,if_neg (by decide),if_pos (by lia)];congr 1;lia
 unfold atI;rw[e];show(xs++[v])[xs.length]?=some v;simp
def RO(b:Expr):Prop:=∀o i,subscripted b false o i=operate [o,i] (getItem o i)
def IxR(X:Cx)(r:R2):Prop :=
 ∀(value slice:Expr)(pins:PNz)(s:Shared)(σ:St)(H:Hp)(x y:V)(v u:Value)(Q:VK),Inv X pins σ H s->RelV x v->RelV y u->r x y H Q ->
  subscripted slice false v u=operate [v,u] (getItem v u)->wpAny (model X.prog X.w) X.A (subscriptTail value slice v u) (EP X pins σ Q) X.xe s
def MtR(X:Cx)(id:String)(r:V->LUz->Hp->VK->Prop):Prop :=
 ∀(pins:PNz)(s:Shared)(σ:St)(H:Hp)(x:V)(xs:LUz)(v:Value)(us:LWz)(Q:VK),Inv X pins σ H s->RelV x v->Vals xs us->r x xs H Q ->
  wpAny (model X.prog X.w) X.A (call (.builtin id) (v::us)) (EP X pins σ Q) X.xe s
section
variable{X:Cx}{a b:Expr}{ta tb:TE}{pos:Pos}
theorem Aj{r:R2}(hr:IxR X r)(ha:PE X a ta)(hb:PE X b tb)(hs:RO b):PE X (.Subscript a b pos) (tOp r ta tb):=by
 intro pins s σ H Q I h;exact Subscript_ (Tg ha hb I h λ v u s2 x y H2 I2 rx ry q=>hr a b pins s2 σ H2 x y v u Q I2 rx ry q (hs _ _))
inductive UE(K:Frag)(x y:V)(H:Hp)(Q:VK):Prop
 |mk (p:Addr) (xs:LUz) (i:Int) (v:V) (e1:x=.ref p) (e2:y=.int i) (s:SqL K H p xs) (a:atI xs i=some v) (q:Q v H):UE K x y H Q
inductive UD(K:Frag)(x y:V)(H:Hp)(Q:VK):Prop
 |mk (p:Addr) (xs:LUz) (i:Int) (v:V) (e1:x=.ref p) (e2:y=.int i) (s:SqT K H p xs) (a:atI xs i=some v) (q:Q v H):UD K x y H Q
def TX(K:Frag):R2:=λ x y H Q=>UE K x y H Q
def TW(K:Frag):R2:=λ x y H Q=>UD K x y H Q
theorem AX:IxR X (TX X.K):=by
 intro value slice pins s σ H x y v u Q I rx ry h hs;obtain⟨p,xs,i,z,rfl,rfl,hq,he,q⟩:=h;cases rx;obtain⟨t,rfl⟩:=ry;obtain⟨its,r,pl,hz⟩:=I.list hq;obtain⟨j,h1,h2,h3,h4,h5⟩:=NS he;obtain⟨w,ew,rw'⟩:=r.get h2;have hl:=r.length;have hn:=GY;have fin:EP X pins σ Q w s:=⟨z,H,I,rw',q⟩;by_cases h0:0<=i
 .have hj:i.toNat=j:=by
   rw[seqIndex_of h0 h5]at h1;exact Option.some.inj h1
  exact item_listR pl.isList h0 (by lia) (by rw[hj];simpa using ew) fin hs
 .have hj:(i+(its.toArray.size:Int)).toNat=j:=by
   rw[seqIndex_neg (by lia) h4]at h1;rw[au,<-hl];exact Option.some.inj h1
  exact subscriptTail_builtinR (x:=w) pl.isList.typeIs slot_list_getitem.lookup
   (wpAny_getItem_list_neg (Q:=λ r s'=>r=w/\EP X pins σ Q r s') pl.isList (by lia) (by rw[au]<;>lia) (by lia) (by rw[hj];simpa using ew) ⟨rfl,fin⟩) hs
theorem Ak:IxR X (TW X.K):=by
 intro value slice pins s σ H x y v u Q I rx ry h hs;obtain⟨p,xs,i,z,rfl,rfl,hq,he,q⟩:=h;cases rx;obtain⟨t,rfl⟩:=ry;obtain⟨its,r,pl,hz⟩:=I.tuple hq;obtain⟨j,h1,h2,h3,h4,h5⟩:=NS he;obtain⟨w,ew,rw'⟩:=r.get h2;have hl:=r.length;have hn:=GY;have fin:EP X pins σ Q w s:=⟨z,H,I,rw',q⟩;exact subscriptTail_builtinR (x:=w) pl.typeIs slot_tuple_getitem.lookup
  (getItem_tuple (j:=j) (Q:=λ r s'=>r=w/\EP X pins σ Q r s') pl (by lia) (by lia) (by rw[au,<-hl];exact h1) (by simpa using ew) ⟨rfl,fin⟩) hs
theorem M3(its:LWz)(n j:Nat)(u:Value):Obj.mapSeq (·.setIfInBounds j u) { cls:=.type "list",data:=.seq its.toArray n }={ cls:=.type "list",data:=.seq (its.set j u).toArray n }:=by
 simp[Obj.mapSeq]
theorem Inv.lst{pins:PNz}{σ:St}{H:Hp}{s:Shared}{p:Addr}{xs:LUz}(I:Inv X pins σ H s)(h:H p=some (.lst xs)) :
  ∃(its:LWz)(n:Nat),Vals xs its/\s.heap.get? p=some { cls:=.type "list",data:=.seq its.toArray n }/\xs.length<=sizeLine:=by
 obtain⟨z,its,n,r,e⟩:=I.hok p _ h;exact⟨its,n,r,e,z⟩
theorem Inv.lstUpd{pins:PNz}{σ:St}{H:Hp}{s:Shared}{p:Addr}{xs ys:LUz}{its its':LWz}{n n':Nat}{f:Obj->Obj}(I:Inv X pins σ H s)(h:H p=some (.lst xs))
  (ho:s.heap.get? p=some { cls:=.type "list",data:=.seq its.toArray n }) (hf:f { cls:=.type "list",data:=.seq its.toArray n }={ cls:=.type "list",data:=.seq its'.toArray n' }) (r:Vals ys its') (hz:ys.length<=sizeLine) (t:Nat) :
  Inv X pins σ (upd H p (.lst ys)) { s with heap:=s.heap.update p f,toks:=t }:=by
 have e:(s.heap.update p f).get? p=some { cls:=.type "list",data:=.seq its'.toArray n' }:=by
  rw[bR f ho (by rw[hf]<;>rfl),hf]
 refine I.write (x:=p) (e:=p) (by rw[h];trivial) (.inl rfl) (λ b u hb q=>(bz _ _ (Ne.symm hb)).trans q) ⟨_,e⟩ ?_;exact⟨hz,its',n',r,e⟩
def TV:V->V->V->Hp->(Hp->Prop)->Prop:=λ o i v H Q=>∃p xs k j,o=.ref p/\i=.int k/\H p=some (.lst xs)/\ixN xs.length k=some j/\Q (upd H p (.lst (xs.set j v)))
theorem K8:U5 X TV:=by
 intro pins s σ H o i v ov iv u Q I ro ri rv h;obtain⟨p,xs,k,j,rfl,rfl,hp,hj,q⟩:=h;cases ro;obtain⟨t,rfl⟩:=ri;obtain⟨its,n,r,ho,hz⟩:=I.lst hp;obtain⟨h1,h2,h3,h4⟩:=N7 hj;have hl:=r.length;have hn:=GY;have I':Inv X pins σ (upd H p (.lst (xs.set j v))) { s with heap:=s.heap.update p (Obj.mapSeq (·.setIfInBounds j u)) } :=
  I.lstUpd hp ho (M3 its n j u) (r.set rv j) (by rw[List.length_set];exact hz) s.toks
 by_cases h0:0<=k
 .have hk:k.toNat=j:=by
   rw[seqIndex_of h0 h4]at h1;exact Option.some.inj h1
  exact ki_setAt ho h0 (by lia) (by rw[au,<-hl];exact h4) (by rw[hk];exact⟨_,I',q⟩)
 .have hk:(k+(its.toArray.size:Int)).toNat=j:=by
   rw[seqIndex_neg (by lia) h3]at h1;rw[au,<-hl];exact Option.some.inj h1
  exact ki_setBack ho (by lia) (by rw[au,<-hl];exact h3) (by lia) (by rw[hk];exact⟨_,I',q⟩)
theorem Jw(lo hi:Option Int)(n:Nat):(sliceBounds lo hi none n).1=((HT.sIx n 0 lo:Nat):Int)/\(sliceBounds lo hi none n).2.1=((HT.sIx n n hi:Nat):Int)/\(sliceBounds lo hi none n).2.2=1:=by
 refine⟨?_,?_,rfl⟩
 .cases lo with
  |none=>simp[sliceBounds,HT.sIx]
  |some i =>
   simp only[sliceBounds,HT.sIx,Option.getD_none,show(1:Int)>0 by decide,if_true];by_cases h:i<0
   .simp only[h,if_true]<;>lia
   .simp only[h,if_false]<;>lia
 .cases hi with
  |none=>simp[sliceBounds,HT.sIx]
  |some i =>
   simp only[sliceBounds,HT.sIx,Option.getD_none,show(1:Int)>0 by decide,if_true];by_cases h:i<0
   .simp only[h,if_true]<;>lia
   .simp only[h,if_false]<;>lia
theorem HN(its:LWz)(lo hi:Option Int):slicePick its.toArray lo hi none=((its.drop (HT.sIx its.length 0 lo)).take (HT.sIx its.length its.length hi-HT.sIx its.length 0 lo)).toArray:=by
 obtain⟨h1,h2,h3⟩:=Jw lo hi its.toArray.size;unfold slicePick;rw[h1,h2,h3];simp only[sliceRange_one,pick_run,au]<;>rfl
def Va(K:Frag):V->Option Int->Option Int->Hp->VK->Prop:=λ x lo hi H Q=>∃a xs,x=.ref a/\SqL K H a xs/\∀p,H p=none->Q (.ref p) (upd H p (.lst (Fl xs lo hi)))
theorem Du:SlR X (Va X.K):=by
 intro pins s σ H x v vl vu lo hi sl Q I rx hs pl pu h;obtain⟨a,xs,rfl,hx,q⟩:=h;cases rx;obtain⟨its,r,ht,hz⟩:=I.list hx;have hlen:=r.length;refine⟨"list",_,slot_list_getitem.lookup,ht.isList.typeIs,?_⟩;refine wpAny_getItem_list_slice ht.isList hs pl pu .none (by simp) ?_ (by rw[au]<;>lia);rw[HN,<-hlen];refine⟨.ref s.heap.objs.size,_,I.laid (t':=s.toks) (o:=.lst (Fl xs lo hi)) (λ b ob q=>ag _ q) (ah _) ?_,rfl,q _ (I.hok.fresh (ah _))⟩;exact⟨ba (FS xs lo hi) hz,_,0,(r.drop (HT.sIx xs.length 0 lo)).take (HT.sIx xs.length xs.length hi-HT.sIx xs.length 0 lo),aR _ rfl⟩
def CL:V->Bool
 |.non=>true
 |.bl _=>true
 |.int _=>true
 |.str _=>true
 |_=>false
def eqV:V->V->Bool
 |.non,.non=>true
 |.bl a,.bl b=>a==b
 |.bl a,.int b=>(if a then 1 else 0)==b
 |.int a,.bl b=>a==(if b then 1 else 0)
 |.int a,.int b=>a==b
 |.str a,.str b=>a==b
 |_,_=>false
theorem MC{A:Around}{s:Shared}{y x:V}{u v:Value}(ry:RelV y u)(rx:RelV x v)(fy:CL y=true)(fx:CL x=true):SeqAt.EqAt A s u v (eqV y x):=by
 cases y with
 |non =>
  cases ry;cases x with
  |non=>cases rx;exact SeqAt.EqAt.same _
  |bl b=>cases rx;exact SeqAt.EqAt.none_bool b
  |int b=>obtain⟨t,rfl⟩:=rx;exact SeqAt.EqAt.none_int b t
  |str b=>obtain⟨t,rfl⟩:=rx;exact SeqAt.EqAt.none_str b t
  |_=>exact absurd (show false=true from fx) ae
 |bl a =>
  cases ry;cases x with
  |non=>cases rx;exact SeqAt.EqAt.bool_none a
  |bl b=>cases rx;exact SeqAt.EqAt.bool_bool a b
  |int b=>obtain⟨t,rfl⟩:=rx;exact SeqAt.EqAt.bool_int a b t
  |str b=>obtain⟨t,rfl⟩:=rx;exact SeqAt.EqAt.bool_str a b t
  |_=>exact absurd (show false=true from fx) ae
 |int a =>
  obtain⟨t',rfl⟩:=ry;cases x with
  |non=>cases rx;exact SeqAt.EqAt.int_none a t'
  |bl b=>cases rx;exact SeqAt.EqAt.int_bool a t' b
  |int b=>obtain⟨t,rfl⟩:=rx;exact SeqAt.EqAt.int_int a t' b t
  |str b=>obtain⟨t,rfl⟩:=rx;exact SeqAt.EqAt.int_str a t' b t
  |_=>exact absurd (show false=true from fx) ae
 |str a =>
  obtain⟨t',rfl⟩:=ry;cases x with
  |non=>cases rx;exact SeqAt.EqAt.str_none a t'
  |bl b=>cases rx;exact SeqAt.EqAt.str_bool a t' b
  |int b=>obtain⟨t,rfl⟩:=rx;exact SeqAt.EqAt.str_int a t' b t
  |str b=>obtain⟨t,rfl⟩:=rx;exact SeqAt.EqAt.str_str a t' b t
  |_=>exact absurd (show false=true from fx) ae
 |_=>exact absurd (show false=true from fy) ae
def eqU(x:V)(u:Value):Bool:=match u with
 |.none=>eqV .non x
 |.bool b=>eqV (.bl b) x
 |.int i _=>eqV (.int i) x
 |.str z _=>eqV (.str z) x
 |_=>false
theorem Qo{x y:V}{u:Value}(r:RelV y u)(f:CL y=true):eqU x u=eqV y x:=by
 cases y with
 |non=>cases r;rfl
 |bl b=>cases r;rfl
 |int i=>obtain⟨t,rfl⟩:=r;rfl
 |str z=>obtain⟨t,rfl⟩:=r;rfl
 |_=>exact absurd (show false=true from f) ae
theorem Fn{x:V}:∀{xs:LUz}{us:LWz},Vals xs us->xs.all CL=true->us.any (eqU x)=xs.any λ y=>eqV y x
 |_,_,.nil,_=>rfl
 |y::xs,u::us,.cons r t,f=>by
  rw[dC,aK]at f;rw[bP,bP,Qo r f.1,Fn t f.2]
theorem Eb{A:Around}{s:Shared}{x:V}{v:Value}(rx:RelV x v)(fx:CL x=true):∀{xs:LUz}{us:LWz},Vals xs us->xs.all CL=true->∀u∈us,SeqAt.EqAt A s u v (eqU x u)
 |_,_,.nil,_=>λ u hu=>by cases hu
 |y::xs,u::us,.cons r t,f=>λ u' hu=>by
  rw[dC,aK]at f;rcases aO.mp hu with rfl|hu
  .rw[Qo r f.1];exact MC r rx f.1 fx
  .exact Eb rx fx t f.2 u' hu
def inV(x:V)(xs:LUz):Bool:=xs.any λ y=>eqV y x
def rIn(K:Frag)(neg:Bool):R2:=λ x y H Q=>∃p xs,y=.ref p/\(SqL K H p xs\/SqT K H p xs)/\CL x=true/\xs.all CL=true/\Q (.bl (if neg then !inV x xs else inV x xs)) H
theorem F3:OpR X (compareOp .In) (rIn X.K false):=by
 intro pins s σ H x y v u Q I rx ry h;obtain⟨p,xs,rfl,hq,fx,fs,q⟩:=h;cases ry;rcases hq with hq|hq
 .obtain⟨its,r,pl,hz⟩:=I.list hq;refine SeqAt.in_listAt (eqU x) pl.isList (λ w hw=>Eb rx fx r fs w (by simpa using hw)) ⟨.bl _,H,I,rfl,?_⟩;rw[show its.toArray.any (eqU x)=its.any (eqU x) by simp,Fn r fs];exact q
 .obtain⟨its,r,pl,hz⟩:=I.tuple hq;refine SeqAt.in_tupleAt (eqU x) pl (λ w hw=>Eb rx fx r fs w (by simpa using hw)) ⟨.bl _,H,I,rfl,?_⟩;rw[show its.toArray.any (eqU x)=its.any (eqU x) by simp,Fn r fs];exact q
theorem JE:OpR X (compareOp .NotIn) (rIn X.K true):=by
 intro pins s σ H x y v u Q I rx ry h;obtain⟨p,xs,rfl,hq,fx,fs,q⟩:=h;cases ry;rcases hq with hq|hq
 .obtain⟨its,r,pl,hz⟩:=I.list hq;refine SeqAt.notIn_listAt (eqU x) pl.isList (λ w hw=>Eb rx fx r fs w (by simpa using hw)) ⟨.bl _,H,I,rfl,?_⟩;rw[show its.toArray.any (eqU x)=its.any (eqU x) by simp,Fn r fs];exact q
 .obtain⟨its,r,pl,hz⟩:=I.tuple hq;refine SeqAt.notIn_tupleAt (eqU x) pl (λ w hw=>Eb rx fx r fs w (by simpa using hw)) ⟨.bl _,H,I,rfl,?_⟩;rw[show its.toArray.any (eqU x)=its.any (eqU x) by simp,Fn r fs];exact q
theorem A6:CQ X (.builtin "len") (λ xs H Q=>∃p ys,xs=[.ref p]/\(SqL X.K H p ys\/SqT X.K H p ys)/\Q (.int ys.length) H):=by
 intro pins s σ H xs us Q I r h;obtain⟨p,ys,rfl,hq,q⟩:=h;obtain⟨u,rfl,rx⟩:=EM r;cases rx;have hn:=GY;rcases hq with hq|hq
 .obtain⟨its,r',pl,hz⟩:=I.list hq;have hlen:=r'.length;exact Calls.call_len_list pl.isList (by simp only[au]<;>lia) ⟨.int ys.length,H,I.tok _,⟨s.toks+1,by rw[au,hlen]⟩,q⟩
 .obtain⟨its,r',pl,hz⟩:=I.tuple hq;have hlen:=r'.length;exact len_tuple pl (by simp only[au]<;>lia) ⟨.int ys.length,H,I.tok _,⟨s.toks+1,by rw[au,hlen]⟩,q⟩
theorem Cv:CQ X (.type "list") (λ xs H Q=>∃p ys,xs=[.ref p]/\(SqL X.K H p ys\/SqT X.K H p ys)/\∀l,H l=none->Q (.ref l) (upd H l (.lst ys))):=by
 intro pins s σ H xs us Q I r h;obtain⟨p,ys,rfl,hq,q⟩:=h;obtain⟨u,rfl,rx⟩:=EM r;cases rx;have fin:∀(its:LWz),Vals ys its->ys.length<=sizeLine->∀(h':Heap)(c':Nat),(∀b o',s.heap.get? b=some o'->h'.get? b=some o') ->
   h'.get? s.heap.objs.size=some { cls:=.type "list",dict:=none,data:=.seq its.toArray c',slots:=#[] }->EP X pins σ Q (.ref s.heap.objs.size) { s with heap:=h' }:=λ its r' hz h' c' kp e =>
  ⟨.ref s.heap.objs.size,_,I.laid (t':=s.toks) kp (ah _) (show ObjOk X.prog X.w _ h' _ (.lst ys) from ⟨hz,its,c',r',e⟩),rfl,q _ (I.hok.fresh (ah _))⟩
 rcases hq with hq|hq
 .obtain⟨its,r',pl,hz⟩:=I.list hq;have hlen:=r'.length;obtain⟨o,ho,hc,n,hd⟩:=pl.isList;exact call_list_seq p (.inl rfl) ho hc hd (λ h' c' kp e=>fin its r' hz h' c' kp e) (by simp only[au]<;>lia)
 .obtain⟨its,r',pl,hz⟩:=I.tuple hq;have hlen:=r'.length;obtain⟨o,ho,hc,n,hd⟩:=pl;exact call_list_seq p (.inr rfl) ho hc hd (λ h' c' kp e=>fin its r' hz h' c' kp e) (by simp only[au]<;>lia)
theorem Ic:CQ X (.type "tuple") (λ xs H Q=>∃p ys,xs=[.ref p]/\((SqL X.K H p ys/\∀l,H l=none->Q (.ref l) (upd H l (.tup ys)))\/(SqT X.K H p ys/\Q (.ref p) H))):=by
 intro pins s σ H xs us Q I r h;obtain⟨p,ys,rfl,h⟩:=h;obtain⟨u,rfl,rx⟩:=EM r;cases rx;rcases h with ⟨hq,q⟩|⟨hq,q⟩
 .obtain⟨its,r',pl,hz⟩:=I.list hq;have hlen:=r'.length;refine call_tuple_list pl.isList (λ h' kp=>?_) (by simp only[au]<;>lia);have I1:Inv X pins σ H { s with heap:=h' }:=I.kept (t':=s.toks) kp;have I2:Inv X pins σ (upd H h'.objs.size (.tup ys)) { s with heap:=h'.push { cls:=.type "tuple",data:=.seq its.toArray } } :=
   I1.laid (t':=s.toks) (λ b o e=>ag _ e) (ah _) (show ObjOk X.prog X.w _ _ _ (.tup ys) from ⟨hz,its,r',IsTup.new _ _⟩)
  exact⟨.ref h'.objs.size,_,I2,rfl,q _ (I1.hok.fresh (ah _))⟩
 .obtain⟨its,r',pl,hz⟩:=I.tuple hq;exact call_tuple_same pl ⟨.ref p,H,I,rfl,q⟩
def tyV(K:Frag)(T:String)(x:V)(H:Hp):Prop:=match x with
 |.str _=>T="str"
 |.int _=>T="int"
 |.ref p=>(T="list"/\∃xs,SqL K H p xs)\/(T="tuple"/\∃o,K.lookup p=some o/\o.cls=.type "tuple"/\o.dict=none) \/
   (T="dict"/\((∃kvs,H p=some (.dK kvs))\/∃kvs,H p=some (.dT kvs)))\/(T="set"/\∃S n,H p=some (.set S n))
 |_=>False
theorem OY{pins:PNz}{σ:St}{H:Hp}{s:Shared}{T:String}{x:V}{v:Value}(I:Inv X pins σ H s)(r:RelV x v)(ty:tyV X.K T x H) :
  s.TypeIs v T/\∀a,v=.ref a->∃ob,s.heap.get? a=some ob/\ob.dict=none:=by
 cases x with
 |str z =>
  obtain⟨t,rfl⟩:=r;cases(show T="str" from ty);exact⟨typeIs_str s z t,λ_ e=>nomatch e⟩
 |int i =>
  obtain⟨t,rfl⟩:=r;cases(show T="int" from ty);exact⟨typeIs_int s i t,λ_ e=>nomatch e⟩
 |ref p =>
  cases r;rcases ty with ⟨rfl,xs,hq⟩|⟨rfl,o,hk,hc,hd⟩|⟨rfl,hk⟩|⟨rfl,S,n,hk⟩
  .obtain⟨its,_,pl,_⟩:=I.list hq;refine⟨pl.isList.typeIs,λ a e=>?_⟩;cases e;obtain⟨o,n,e,c,hd,_⟩:=pl;exact⟨o,e,hd⟩
  .refine⟨⟨o,I.kIn p o hk,hc⟩,λ a e=>?_⟩;cases e;exact⟨o,I.kIn _ o hk,hd⟩
  .have z:∃o,s.heap.get? p=some o/\o.ExactDict:=by
    rcases hk with ⟨kvs,hk⟩|⟨kvs,hk⟩
    .obtain⟨_,_,_,_,o,_,_,e,ex,_⟩:=I.hok p _ hk;exact⟨o,e,ex⟩
    .obtain⟨_,_,_,_,o,_,_,e,ex,_⟩:=I.hok p _ hk;exact⟨o,e,ex⟩
   obtain⟨o,e,ex⟩:=z;refine⟨⟨o,e,ex.1⟩,λ a e2=>?_⟩;cases e2;exact⟨o,e,ex.2.1⟩
  .obtain⟨o,_,_,_,e,ex,_⟩:=I.hok p _ hk;refine⟨⟨o,e,ex.1⟩,λ a e2=>?_⟩;cases e2;exact⟨o,e,ex.2.1⟩
 |_=>exact False.elim ty
def UT(K:Frag)(T:String)(r:V->LUz->Hp->VK->Prop)(to:TE):TE:=λ σ H Q=>to σ H λ x H1=>tyV K T x H1/\r x [] H1 Q
def tBM(K:Frag)(T:String)(r:V->LUz->Hp->VK->Prop)(to:TE)(t:TA):TE:=λ σ H Q=>to σ H λ x H1=>tyV K T x H1/\t σ H1 λ xs H2=>r x xs H2 Q
variable{o e:Expr}{es:List Expr}{to:TE}{t:TA}{name:Str}{apos cpos:Pos}{T id:String}{r:V->LUz->Hp->VK->Prop}
theorem GA(pa:PlainAttrs T)(slot:Slot T name id)(hty:typeOf (.builtin id)=pure (.type "method_descriptor"))(hm:MtR X id r)(ho:PE X o to)
  (hbase:attributeBase o name X.env (eval o X.env)=eval o X.env:=by rfl) (hline:(apos.endLine==cpos.line)=true:=by rfl):PE X (.Call (.Attribute o name apos) [] [] cpos) (UT X.K T r to):=by
 intro pins s σ H Q I h;refine wpAny_Call_method0_late hbase hline (thn (ho pins s σ H _ I h) λ v s1 hz_=>?_);obtain⟨x,H1,I1,r1,ty,q1⟩:=hz_;obtain⟨h1,h2⟩:=OY I1 r1 ty;exact⟨T,id,pa,slot,hty,h1,h2,Calls.callWith_builtin rfl (PySem.evalArgs_none (hm pins s1 σ H1 x [] v [] Q I1 r1 .nil q1))⟩
theorem Ub(pa:PlainAttrs T)(slot:Slot T name id)(hty:typeOf (.builtin id)=pure (.type "method_descriptor"))(hm:MtR X id r)(ho:PE X o to)(ha:PA X (e::es) t)
  (hbase:attributeBase o name X.env (eval o X.env)=eval o X.env:=by rfl)
  (hfew:((backTo cpos (starEach (e::es) X.env)).all (λ x=>!x.1)&&(backToKw cpos (keywordEach [] X.env)).all (λ x=>x.1.isSome)
  &&decide ((e::es).length+([]:List Keyword).length+(if ([]:List Keyword).isEmpty then 0 else 1)<30))=true:=by rfl)
  (hline:(apos.endLine==cpos.line)=true:=by rfl) (hs:starEach (e::es) X.env=(false,eval e X.env)::starEach es X.env:=by rfl) (hplain:(backTo cpos (starEach es X.env)).any (·.1)=false:=by rfl) :
  PE X (.Call (.Attribute o name apos) (e::es) [] cpos) (tBM X.K T r to t):=by
 intro pins s σ H Q I h;refine wpAny_Call_method_late hbase hfew hline rfl (thn (ho pins s σ H _ I h) λ v s1 hz_=>?_);obtain⟨x,H1,I1,r1,ty,q1⟩:=hz_;obtain⟨h1,h2⟩:=OY I1 r1 ty;refine⟨T,id,pa,slot,hty,h1,h2,?_⟩;have hA:=ha cpos pins s1 σ H1 _ I1 q1;rw[hs]at hA |-;refine Calls.callWith_builtin (by show(false||(backTo cpos (starEach es X.env)).any (·.1))=false;rw[hplain]<;>rfl) (Calls.evalArgs_plain ?_);exact thn hA λ us s2 ⟨vs,H2,I2,r2,q2⟩=>hm pins s2 σ H2 x vs v us Q I2 r1 r2 q2
/- xs.append(e),list.index on a module's tuple .. are MtR facts of 06m -/
end
def MtM(X:Cx)(id:String)(r:V->LUz->Hp->VK->Prop):Prop :=
 ∀(pins:PNz)(s:Shared)(σ:St)(H:Hp)(x:V)(xs:LUz)(v:Value)(us:LWz)(Q:VK),Inv X pins σ H s->RelV x v->Vals xs us->r x xs H Q ->
  wpAny (model X.prog X.w) X.A (call (.builtin id) (v::us)) (EP X pins σ Q) X.xe s
theorem Vals.one:∀{x:V}{us:LWz},Vals [x] us->∃u,us=[u]/\RelV x u
 |_,_,.cons r .nil=>⟨_,rfl,r⟩
theorem Vals.zero:∀{us:LWz},Vals [] us->us=[]
 |_,.nil=>rfl
theorem Vals.dropLast{xs:LUz}{us:LWz}(h:Vals xs us):Vals xs.dropLast us.dropLast:=by
 induction h with
 |nil=>exact .nil
 |cons r t ih =>
  cases t with
  |nil=>exact .nil
  |cons q t'=>exact .cons r ih
theorem Vals.rep{xs:LUz}{us:LWz}(h:Vals xs us):∀k:Nat,Vals (List.replicate k xs).flatten (List.replicate k us).flatten
 |0=>.nil
 |k+1=>by
  rw[bZ,bZ,cQ,cQ];exact Vals.append h (Vals.rep h k)
theorem MB{α:Type}(l:List α):l.eraseIdx (l.length-1)=l.dropLast:=by
 induction l with
 |nil=>rfl
 |cons a r ih =>
  cases r with
  |nil=>rfl
  |cons b r =>
   have e:(a::b::r).length-1=((b::r).length-1)+1:=by
    have h1:(a::b::r).length=r.length+2:=rfl;have h2:(b::r).length=r.length+1:=rfl;lia
   rw[e,List.eraseIdx_cons_succ,ih]
   all_goals rfl
theorem IL(its:LWz):∀(k:Nat)(acc:LWz),
  List.foldl (λ x1 x2=>x1++x2) acc.toArray (List.replicate k its.toArray)=(acc++(List.replicate k its).flatten).toArray
 |0,acc=>by simp
 |k+1,acc=>by
  have e:acc.toArray++its.toArray=(acc++its).toArray:=by simp
  have e2:(acc++its)++(List.replicate k its).flatten=acc++(List.replicate (k+1) its).flatten:=by
   rw[bZ,cQ,bi]
  rw[<-e2,<-IL its k (acc++its),<-e,bZ,List.foldl_cons]
section
variable{X:Cx}{pins:PNz}{σ:St}{H:Hp}{s:Shared}{l b:Addr}{xs ys zs:LUz}
theorem Inv.lset{its its':LWz}{n:Nat}{f:Array Value->Array Value}{t':Nat}(I:Inv X pins σ H s)(hH:H l=some (.lst xs))
  (e:s.heap.get? l=some { cls:=.type "list",data:=.seq its.toArray n }) (hf:f its.toArray=its'.toArray) (hv:Vals ys its') (hz:ys.length<=sizeLine) :
  Inv X pins σ (upd H l (.lst ys)) { s with heap:=s.heap.update l (Obj.mapSeq f),toks:=t' }:=by
 have q:=PySem.IsL.update e f;rw[hf]at q;refine I.write (x:=l) (e:=l) (by rw[hH];exact trivial) (.inl rfl) (λ b' u hb hu=>(bz s.heap (Obj.mapSeq f) (Ne.symm hb)).trans hu) ⟨_,q⟩ ?_;exact⟨hz,its',_,hv,q⟩
theorem Inv.lnew{its:LWz}{t':Nat}(I:Inv X pins σ H s)(hv:Vals ys its)(hz:ys.length<=sizeLine) :
  Inv X pins σ (upd H s.heap.objs.size (.lst ys)) { s with heap:=s.heap.push { cls:=.type "list",data:=.seq its.toArray },toks:=t' } :=
 I.laid (λ_ _ q=>ag _ q) (ah _) ⟨hz,its,0,hv,aR _ rfl⟩
theorem Inv.fresh(I:Inv X pins σ H s):H s.heap.objs.size=none:=I.hok.fresh (ah _)
theorem Inv.lstM(I:Inv X pins σ H s)(hH:H l=some (.lst xs)):xs.length<=sizeLine/\∃(its:LWz)(n:Nat),Vals xs its/\xs.length=its.length/\s.heap.get? l=some { cls:=.type "list",data:=.seq its.toArray n }:=by
 obtain⟨z,its,n,r,e⟩:=I.hok l _ hH;exact⟨z,its,n,r,r.length,e⟩
theorem PF{n:Nat}(h:n<=sizeLine):Builtin.List.listTooLong n=false:=by
 unfold Builtin.List.listTooLong;exact decide_eq_false (by lia)
end
section
variable{X:Cx}
def Np:V->LUz->Hp->VK->Prop:=λ x vs H Q=>∃l xs y,x=.ref l/\vs=[y]/\H l=some (.lst xs)/\xs.length<sizeLine/\Q .non (upd H l (.lst (xs++[y])))
theorem F8:MtM X "list.append" Np:=by
 intro pins s σ H x vs v us Q I rx rv h;obtain⟨l,xs,y,rfl,rfl,hH,hz,q⟩:=h;cases rx;obtain⟨u,rfl,ru⟩:=rv.one;obtain⟨z,its,n,r,hl,e⟩:=I.lstM hH;refine call_meets F.slot_list_append ⟨_,e,rfl⟩ F.entry_list_append (F.args_list_append_2 _ _) (PySem.list_append l its.toArray n u (by rw[au];lia)) ⟨e,?_⟩;refine⟨.non,_,I.lset (its':=its++[u]) hH e (by simp) (r.append (.cons ru .nil)) ?_,rfl,q⟩;rw[af,bF];lia
def Vd:V->LUz->Hp->VK->Prop:=λ x vs H Q=>∃l xs y,x=.ref l/\vs=[]/\H l=some (.lst xs)/\xs[xs.length-1]?=some y/\Q y (upd H l (.lst xs.dropLast))
theorem JT:MtM X "list.pop" Vd:=by
 intro pins s σ H x vs v us Q I rx rv h;obtain⟨l,xs,y,rfl,rfl,hH,hy,q⟩:=h;cases rx;have hus:=rv.zero;subst hus;obtain⟨z,its,n,r,hl,e⟩:=I.lstM hH;obtain⟨u,hu,ru⟩:=r.get hy;have hy':its.toArray[its.toArray.size-1]?=some u:=by
  show its.toArray[its.length-1]?=some u;rw[<-eJ,<-hl];exact hu
 refine call_meets F.slot_list_pop ⟨_,e,rfl⟩ F.entry_list_pop (F.args_list_pop_1 _) (MeetsSeq.list_pop_last l its.toArray n u hy' (by rw[au];lia)) ⟨e,?_⟩;refine⟨y,_,I.lset (its':=its.dropLast) hH e ?_ r.dropLast ?_,ru,q⟩
 .show its.toArray.eraseIdxIfInBounds (its.toArray.size-1)=its.dropLast.toArray;rw[au,List.eraseIdxIfInBounds_toArray,MB]
 .rw[eW];lia
def S7:V->LUz->Hp->VK->Prop:=λ x vs H Q=>∃l xs,x=.ref l/\vs=[]/\H l=some (.lst xs)/\Q .non (upd H l (.lst []))
theorem PL:MtM X "list.clear" S7:=by
 intro pins s σ H x vs v us Q I rx rv h;obtain⟨l,xs,rfl,rfl,hH,q⟩:=h;cases rx;have hus:=rv.zero;subst hus;obtain⟨z,its,n,r,hl,e⟩:=I.lstM hH;refine call_meets F.slot_list_clear ⟨_,e,rfl⟩ F.entry_list_clear (F.args_list_clear_1 _) (AutoSeq1.list_clear_list_0 l its.toArray n (by rw[au];lia)) ⟨e,?_⟩;exact⟨.non,_,I.lset (its':=[]) (ys:=[]) hH e rfl .nil (bb _),rfl,q⟩
inductive UG(x y:V)(H:Hp)(Q:VK):Prop
 |mk (l b:Addr) (xs zs:LUz) (e1:x=.ref l) (e2:y=.ref b) (h1:H l=some (.lst xs)) (h2:H b=some (.lst zs)) (n:xs.length+zs.length<=sizeLine) (q:∀p,H p=none->Q (.ref p) (upd H p (.lst (xs++zs)))):UG x y H Q
def Ve:R2:=λ x y H Q=>UG x y H Q
theorem Cq:OpR X (binaryOp .Add) Ve:=by
 intro pins s σ H x y v u Q I rx ry h;obtain⟨l,b,xs,zs,rfl,rfl,hH,hB,hz,q⟩:=h;cases rx;cases ry;obtain⟨z,its,n,r,hl,e⟩:=I.lstM hH;obtain⟨z2,its2,n2,r2,hl2,e2⟩:=I.lstM hB;refine PySem.P.add_list e e2 ?_ (by rw[au,au];lia);have ea:its.toArray++its2.toArray=(its++its2).toArray:=by simp
 rw[ea];exact⟨.ref _,_,I.lnew (t':=s.toks) (r.append r2) (by rw[af];lia),rfl,q _ I.fresh⟩
def Vc:R2:=λ x y H Q=>∃l k xs,x=.ref l/\y=.int k/\H l=some (.lst xs)/\-(2^63)<=k/\k<2^63/\xs.length*k.toNat<=sizeLine /\
 ∀p,H p=none->Q (.ref p) (upd H p (.lst (List.replicate k.toNat xs).flatten))
theorem Rt{α:Type}(xs:List α)(k:Nat):(List.replicate k xs).flatten.length=k*xs.length:=by
 induction k with
 |zero=>simp
 |succ k ih=>rw[bZ,cQ,af,ih,Nat.succ_mul,Nat.add_comm]
theorem SC:OpR X (binaryOp .Mult) Vc:=by
 intro pins s σ H x y v u Q I rx ry h;obtain⟨l,k,xs,rfl,rfl,hH,h1,h2,hz,q⟩:=h;cases rx;obtain⟨t,rfl⟩:=ry;obtain⟨z,its,n,r,hl,e⟩:=I.lstM hH;have hlen:its.toArray.size*k.toNat<=sizeLine:=by rw[au,<-hl];exact hz
 have hcap:¬its.toArray.size*k.toNat>(2^63-1) / 8:=by
  have:(sizeLine:Nat)<=(2^63-1) / 8:=by decide
  lia
 have hfit:¬(!Builtin.List.listFitsIndex k)=true:=by
  rw[fitsIndex_both h1 h2];exact ae
 have hlong:¬Builtin.List.listTooLong (its.toArray.size*k.toNat)=true:=by
  rw[PF hlen];exact ae
 have hnew:List.foldl (λ x1 x2=>x1++x2) #[] (List.replicate (if its.toArray.isEmpty=true then 0 else k.toNat) its.toArray)=(List.replicate k.toNat its).flatten.toArray:=by
  have f0:∀m:Nat,List.foldl (λ x1 x2=>x1++x2) #[] (List.replicate m its.toArray)=(List.replicate m its).flatten.toArray:=λ m=>by
   have:=IL its m [];rw[bN]at this;exact this
  rw[f0];cases its with
  |nil=>simp
  |cons a r'=>rw[if_neg (by simp)]
 refine wpAny_binaryOp_repeat_ref (T:="list") (U:="int") (by decide) ⟨_,e,rfl⟩ (λ s'=>typeIs_int s' k t) noFill_list_mul F.fills_int_mul F.slot_int_rmul repeat_list F.slot_int_index.lookup
  (call_meets F.slot_int_rmul (typeIs_int s k t) F.entry_int_rmul (F.args_int_rmul_2 _ _) (int___rmul___int_list k t l its.toArray n)
   ⟨e,rfl,⟨_,e,rfl⟩,call_meets F.slot_list_mul ⟨_,e,rfl⟩ F.entry_list_mul (F.args_list_mul_2 _ _) (AutoListH.list___mul___list_int_3 l its.toArray n k t hfit hcap hlong) ⟨e,?_⟩⟩)
 rw[hnew];exact⟨.ref _,_,I.lnew (t':=s.toks) (r.rep k.toNat) (by rw[Rt,Nat.mul_comm];exact hz),rfl,q _ I.fresh⟩
end
end L2
namespace Att
open PySem.W
open PySem PySem.Calls PyProof.Rows
theorem Gd{P:Params}{h:Heap}:∀(ns:List Int)(vs:LWz),WellAll P h vs (ns.map WData.int)->IntsAre vs ns:=by
 intro ns
 induction ns with
 |nil =>
  intro vs w;rw[bV]at w;cases w;exact .nil
 |cons n ns ih =>
  intro vs w;rw[aS]at w;cases w with
  |cons a b =>
   cases a;exact .cons _ _ (ih _ b)
theorem Oq{l:OpenLaw}{n:Nat}(hn:l.most=some n){P:Params}{h:Heap}{args:List WData}{vals:LWz}
  (hpre:l.row.toRowW.claim.pre args=true) (hwl:WellAll P h vals args) :
  ∃a vs ns,vals=[Value.ref a]/\args=[WData.list (ns.map WData.int)]/\h.get? a=some { cls:=.type "list",data:=.seq vs.toArray }/\IntsAre vs ns/\ns.length<=n:=by
 have hsh:WShape.hasAll [] args [.list .int]=true:=(pre_splitW hpre).1;have hc:l.pre.holds [] { args:=args }=true:=(pre_splitW hpre).2;obtain⟨d,r,rfl,h1,h2⟩:=hasAllW_cons hsh;obtain rfl:=hasAllW_nil h2;obtain⟨xs,rfl,h3⟩:=hasW_list h1;obtain⟨ns,rfl⟩:=items_int h3;have hlen:ns.length<=n:=by
  unfold OpenLaw.pre at hc;have h4:(WTm.not (.lt (.lit (.int (n:Int))) (.len (.arg 0)))).holds [] { args:=[.list (ns.map .int)] }=true:=by
   have h4:=(holds_andW hc).1;rw[hn]at h4;exact h4
  have h5:=condW_of h4 (w_not (w_lt w_lit (w_len_list (w_arg rfl))));rw[aa]at h5;refine Nat.le_of_not_lt λ q=>?_;have q':(n:Int)<((ns.length:Nat):Int):=by lia
  first
   | (rw[decide_eq_true q']at h5;exact absurd h5 (by decide))
   | (simp at h5;lia)
 cases hwl with
 |cons w1 w2 =>
  cases w2;cases w1 with
  |list ho hall=>exact⟨_,_,ns,rfl,rfl,ho,Gd ns _ hall,hlen⟩
theorem Ow(l:OpenLaw)(args:List WData):l.row.toRowW.claim.post args (.bool true) args=true :=
 postW_of (r:=l.row.toRowW) (X:=(true==true))
  (show WShape.has [] (.bool true) .bool=true by first|rfl|decide|simp[WShape.has,WShape.arms,WShape.armsAll])
  (show(WTm.eq .res (.lit (.bool true))).value [] { args:=args,res:=some (.bool true),after:=args }=some (.bool (true==true)) from w_eq_bool (w_res rfl) w_lit) rfl
theorem attach_call{l:OpenLaw}{n:Nat}{q:Program}{loose:LSz}{XP:(MGz)->Heap->Prop}{YP:World->Heap->Prop}{d:DefRec}
  (hn:l.most=some n) (hdf:d.params.defaults=[])
  (call:∀(w:World)(s₀ s₁:Shared)(mg mb:MGz)(fa:Addr)(o:Obj)(pm cd doc:Value)(a:Addr)(vs:LWz)(ns:List Int),
   Ground q loose [] XP w s₀ mg mb s₁.heap->YP w s₁.heap ->
   s₁.heap.get? fa=some o->o.data=.func (docDef d.name d.params d.body d.scope pm cd doc)->s₁.heap.CodeRec cd d.name->mg d.name=some (.ref fa) ->
   s₁.heap.get? a=some { cls:=.type "list",data:=.seq vs.toArray }->IntsAre vs ns->ns.length<=n->s₁.gens=#[] ->
   codeAny (model l.prog w) callerA (.call (.ref fa) ⟨[.ref a],[]⟩) (λ r s'=>r=.ok (.ret (.bool true))/\OldK s₁.heap s'.heap/\s'.os=s₁.os/\AllBare s'.gens) s₁) :
  WalkO q loose XP YP l.row.toRowW d [] (λ f vs=>PySem.call f vs):=by
 intro w s₀ s₁ mg mb G Y fa o pm cd doc dV kV ho hd hcd hD hmg hg args vals as hpre hlay hrd hwl hlo;obtain rfl:dV=.none:=Dflts.none hD hdf;obtain rfl:kV=.none:=Dflts.noKw hD;obtain⟨a,vs,ns,rfl,rfl,hobj,hints,hlen⟩:=Oq hn hpre hwl;refine enter_call (codeAny_mono (call w s₀ s₁ mg mb fa o pm cd doc a vs ns G Y ho (fd_plain hd) hcd hmg hobj hints hlen hg) λ r s' hq=>?_);obtain⟨rfl,h2,h3,h4⟩:=hq;exact⟨.inl ⟨.bool true,.bool true,[],rfl,λ_=>rfl,.bool true,Ow l _,λ_=>⟨List.Pairwise.nil,λ_ hm=>(nomatch hm)⟩⟩,h2,h3,h4⟩
end Att
namespace L2
open PySem.W
open PySem PySem.Spec PyProof.Rows
theorem Ij:∀{vs:LWz}{ns:List Int},IntsAre vs ns->Vals (ns.map V.int) vs
 |_,_,.nil=>.nil
 |_,_,.cons n t h=>.cons ⟨t,rfl⟩ (Ij h)
end L2
/- THE LAST THEOREM (shape;LID,My.* are yours):
  My.Adr: a structure of the addresses that your layer names (classes,functions);My.Txt K t: a structure (Prop) of the equations over K;
  My.txt_mk:{K} {implicit addresses ..} (e1:nsIn K mainGlobals "law"=some (some (.ref f))) (e2:K.lookup f=some ⟨oc,od,.func (fnOf "law" "law" params body scope dV kV doc pm an cdv ct),sl⟩) (e3:codeIn K cdv "law"=true) ..:∃t,My.Txt K t
set_option maxRecDepth 100000 in
set_option maxHeartbeats 0 in
theorem PySem.Challenge.cw_LID_holds:PySem.Challenge.rw_LID.Holds:=by
 w_on;o_law;k_head;(case hw=>w_witness2)
 k_fill
 refine L2.walk_of (l:=PySem.Challenge.rw_LID) (n:=63) (k:=40) (x:="script") (CX:=λ w=>..) (sp:=λ_=>My.sp_law) rfl (by decide) rfl ⟨rfl,by decide,by decide⟩ (λ w h Y=>kIn_of Y) ?F ?S ?C
 case F =>
  intro w mg fa h KX G hmg;have T:∃t,My.Txt (L2.KOf KX) t:=by
   dsimp only[L2.KOf]                          -- K must stand as «<heap const> w.params» for k_is;refine' My.txt_mk ?e1 ?e2 ?e3 ..
   (case e1=>k_is)                    -- in the order: a name -> its address -> its object -> its parts
   (case e2=>k_is)
   ..
  obtain⟨t,T⟩:=T;have e0:=hmg.symm.trans (mg_of KX G T.law);cases e0                                       -- fa is the law's own address;exact⟨_,λ s u=>.of_eq rfl,λ base kb nb=>My.law_fn T kb nb⟩     -- if «.of_eq rfl» comes too early: refine'⟨_,?b,λ base kb nb=>My.law_fn T kb nb⟩;exact λ s u=>.of_eq rfl
 case S=>exact λ w H a ns hl hO hS=>..
 case C=>exact ..
(the tactic k_is has no namespace: write k_is) -/
namespace L2
open PySem.W
open PySem PySem.Spec PyProof.Rows
def AD(s:Stmt)(j:Nat):Stmt:=match s with
 |.ClassDef _ _ _ body _ _ _ _ _ _ _=>body.getD j (.Pass ⟨0,0,0,0⟩)
 |_=>.Pass ⟨0,0,0,0⟩
def B5(s:Stmt):Arguments:=match s with
 |.FunctionDef _ a _ _ _ _ _ _ _ _=>a
 |_=>{ posonlyargs:=[],args:=[],vararg:=none,kwonlyargs:=[],kw_defaults:=[],kwarg:=none,defaults:=[] }
def A8(s:Stmt):List Stmt:=match s with
 |.FunctionDef _ _ b _ _ _ _ _ _ _=>b
 |_=>[]
def Ai(s:Stmt):Scope:=match s with
 |.FunctionDef _ _ _ _ _ _ sc _ _ _=>sc
 |_=>{ kind:=.function,names:=[],isGenerator:=false,isCoroutine:=false }
abbrev CX0:CXT:=λ_ _ _ _ _ _=>False
abbrev E0:XK:=λ_ _ _=>False
theorem GC{X:Cx}:Eh CX0 X E0:=λ_ _ _ _ _ _ _ h=>h.elim
structure Fun(K:Frag)(x qual:Str)(st:Stmt)(f:Addr)(fd:FuncData):Prop where
 ex:∃(oc:Value)(od:Option Addr)(kV doc pm:Value)(an:Option Addr)(cdv ct:Value)(osl:AOz),
  fd=fnOf x qual (B5 st) (A8 st) (Ai st) .none kV doc pm an cdv ct/\K.lookup f=some ⟨oc,od,.func fd,osl⟩/\codeIn K cdv qual=true
 kp:keepIn K (.ref f)=true
section
variable{P:Program}{w:World}{K:Frag}{mg:MGz}{base:Heap}
theorem Fun.ok{x qual:Str}{st:Stmt}{f:Addr}{fd:FuncData}{N ps:LSz}{k:Nat}{sp:Sp}(F:Fun K x qual st f fd)(S:An N ps (Ai st))(len:∀vs H Q E,sp vs H Q E->vs.length=ps.length)
  (hbody:∀(cdv:Value)(A:Around)(outer:List Env)(s:Shared)(H:Hp)(vs:LUz)(Q:VK)(E:XK),Room k (A.deeper (envOfC qual (Ai st) s.heap.objs.size f cdv))->sp vs H Q E ->
   ∃t,PSs (BA CX0 P w K mg base N qual (Ai st) f cdv A outer s H E).nox (A8 st) t/\t { nx:=λ_ H'=>Q .non H',rt:=Q } (C0 N vs) H):A5 P w K mg base CX0 (k+1) f fd ps sp:=by
 obtain⟨oc,od,kV,doc,pm,an,cdv,ct,osl,rfl,lk,hcd⟩:=F.ex;refine NE lk hcd S len λ A outer s H vs Q E hr hsp=>?_;obtain⟨t,h,q⟩:=hbody cdv A outer s H vs Q E hr hsp;exact⟨t,h.nox,q⟩
theorem Fun.binds{x qual:Str}{st:Stmt}{f:Addr}{fd:FuncData}{ps:LSz}(F:Fun K x qual st f fd)
  (h:∀(kV doc pm:Value)(an:Option Addr)(cdv ct:Value)(us:LWz),us.length=ps.length->bindArgs (fnOf x qual (B5 st) (A8 st) (Ai st) .none kV doc pm an cdv ct) ⟨us,[]⟩=pure (ps.zip us)):Binds K fd ps []:=by
 obtain⟨oc,od,kV,doc,pm,an,cdv,ct,osl,rfl,lk,hcd⟩:=F.ex;exact .all (h kV doc pm an cdv ct)
end
theorem N9{A:Around}{k:Nat}(hr:Room k A):A.units+1<cLine:=cj (Nat.add_le_add_left (by decide:1<=64) _) hr.units
theorem Am{n:Nat}(h:n<=1000):n<sizeLine:=cj h (by decide)
section
variable{X:Cx}
theorem pv(i:Nat){x:Str}{pos:Pos}(hN:X.N[i]?=some x:=by rfl)(hv:Vis X.env.scope x:=by first|exact av rfl|exact cK (av rfl)|exact cK (cK rfl))(hd:(x==("__debug__":Str))=false:=by decide)
  (hcd:(x==("__classdict__":Str))=false:=by decide):PE X (.Name x pos) (To i):=S8 hN hv hd hcd
end
theorem Ls{A B:Prop}(h:B):if false=true then A else B:=by
 rw[if_neg ae];exact h
theorem PU{A B:Prop}(h:A):if true=true then A else B:=by
 rw[if_pos rfl];exact h
def Same(H H':Hp):Prop:=∀b o,H b=some o->H' b=some o
theorem Same.refl(H:Hp):Same H H:=λ_ _ h=>h
theorem Same.trans{H H1 H2:Hp}(a:Same H H1)(b:Same H1 H2):Same H H2:=λ c o h=>b c o (a c o h)
theorem Same.free{H H':Hp}(e:Same H H'){l:Addr}(h:H' l=Option.none):H l=Option.none:=by
 cases q:H l with
 |none=>rfl
 |some o =>
  rw[e l o q]at h;cases h
theorem Same.seq{K:Frag}{H H':Hp}{a:Addr}{xs:LUz}(e:Same H H')(h:SqL K H a xs):SqL K H' a xs:=by
 rcases h with (h|⟨o,h⟩)|h
 .exact .inl (.inl (e _ _ h))
 .exact .inl (.inr ⟨o,e _ _ h⟩)
 .exact .inr h
end L2
set_option maxHeartbeats 4000000
namespace L2
open PySem.W
open PySem PyProof.Rows
def ID{α β:Type}(oS:Program->LSz->LSz->(Shared->Bool)->Bool->Shared->α)(ms:LSz)(p q:Program)(lo:LSz)(Xt:Shared->Bool)(Yf:Shared->β)(h0:Heap)(s:Shared):Bool×α×β :=
 ((((staticsOk ms h0 s.heap&&namesBound p s.heap)&&gensDone s)&&laidKept h0 s.heap),oS q lo ms Xt true s,Yf s)
noncomputable abbrev Eg(P:Params)(os:OsState):Shared:=Shared.mk (boot_heap P) (Array.mk []) boot_drawn boot_toks os
theorem O5{p q:Program}{lo:LSz}{Xt:Shared->Bool}{β:Type}{Yf:Shared->β}{Ya:World->β}{N m:Nat}{an:Option Value}
  (bo:∀w:World,Option.map (λ s=>(s.heap,s.gens,s.drawn,s.toks)) (fencedOpening treeTable p w N)=some (boot_heap w.params,Array.mk [],boot_drawn,boot_toks))
  (sz:∀w:World,((boot_heap w.params).isNs mainGlobals,(boot_heap w.params).objs.size,(boot_heap w.params).nsMap mainGlobals "__annotations__")=(true,m,an))
  (rn:∀(w:World)(os:OsState),Option.map (ID openSeen (importedModules p.main.body) p q lo Xt Yf (boot_heap w.params)) (topRun treeTable p w m an N (Eg w.params os) (topStub p))=some (true,openGood q lo,Ya w)) :
  LeftO p q lo Xt Yf Ya N:=by
 intro w;obtain⟨s0,e0,e1⟩:=bK.mp (bo w);obtain⟨hp,gs,dr,tk,os⟩:=s0;simp only[du.injEq]at e1;obtain⟨rfl,rfl,rfl,rfl⟩:=e1;have z:=sz w;simp only[du.injEq]at z;obtain⟨z1,z2,z3⟩:=z;obtain⟨s1,r1,r2⟩:=bK.mp (rn w os);unfold ID at r2;simp only[du.injEq]at r2;obtain⟨l1,l2,l3⟩:=r2;have tf:topFrom treeTable p w N (Eg w.params os)=some s1:=by
  unfold topFrom;dsimp only;rw[z1,z2,z3];show Option.bind (topRun treeTable p w m an N (Eg w.params os) (topStub p)) _=_;rw[r1];show(match (((staticsOk (importedModules p.main.body) (boot_heap w.params) s1.heap&&namesBound p s1.heap)&&gensDone s1)&&laidKept (boot_heap w.params) s1.heap) with|true=>some s1|false=>none)=_;rw[l1]
 unfold openEnds;rw[e0];show Option.map _ (topFrom treeTable p w N (Eg w.params os))=_;rw[tf];exact congrArg some (bM l2 l3)
def Pc:List Obj->Nat->BT->BT
 |[],_,t=>t
 |o::r,i,t=>Pc r (i+1) (t.ins i o)
def Ct(ok:Thread->Bool)(stp:SharedT->Thread->Option (SharedT×Thread)):Nat->SharedT->Thread->Option SharedT
 |0,_,_=>none
 |n+1,s,t=>match through t with
  |true=>some s
  |false=>match ok t with
   |false=>none
   |true=>match stp s t with
    |some (s1,t1)=>Ct ok stp n s1 t1
    |none=>none
theorem Gv{tb:String->Option Builtin}{p:Program}{w:World}{m:Nat}{an:Option Value}:∀{n:Nat}{s s1:SharedT}{t:Thread},Ct (stepOk m an) (stepT (denote tb) p w) n s t=some s1->topRun tb p w m an n s.abs t=some s1.abs
 |0,_,_,_,h=>by cases h
 |n+1,s,s1,t,h=>by
  rw[Ct]at h;rw[topRun];cases ht:through t with
  |true=>rw[ht]at h;cases h;rfl
  |false =>
   rw[ht]at h;cases hk:stepOk m an t with
   |false=>rw[hk]at h;cases h
   |true =>
    rw[hk]at h;cases hs:stepT (denote tb) p w s t with
    |none=>rw[hs]at h;cases h
    |some r =>
     obtain⟨s2,t2⟩:=r;rw[hs]at h;rw[stepT_spec hs];exact Gv h
noncomputable def Uw(P:Params):BT:=Pc (boot_heap P).objs.toList 0 .nil
noncomputable def Es(P:Params)(os:OsState):SharedT:=SharedT.mk (Uw P) 11 (boot_heap P).life (Array.mk []) boot_drawn boot_toks os
theorem Qz(P:Params)(os:OsState):(Es P os).abs=Eg P os:=by kernel_rfl
theorem S5{p q:Program}{lo ms:LSz}{Xt:Shared->Bool}{α β:Type}{Yf:Shared->β}{N m:Nat}{an:Option Value}{w:World}{os:OsState}{r:Bool×α×β}{oS:Program->LSz->LSz->(Shared->Bool)->Bool->Shared->α}
  (h:Option.map (λ s=>ID oS ms p q lo Xt Yf (boot_heap w.params) (SharedT.abs s)) (Ct (stepOk m an) (stepT (denote treeTable) p w) N (Es w.params os) (topStub p))=some r) :
  Option.map (ID oS ms p q lo Xt Yf (boot_heap w.params)) (topRun treeTable p w m an N (Eg w.params os) (topStub p))=some r:=by
 obtain⟨s,e,z⟩:=bK.mp h;have e:=Gv e;rw[Qz]at e;rw[e];exact congrArg some z
theorem Uh{σ α β:Type}{r:Option σ}{f:σ->Bool}{g:σ->α}{k:σ->β}{a:α}{b:β}(h1:r.map f=some true)(h2:r.map g=some a)(h3:r.map k=some b):r.map (λ s=>(f s,g s,k s))=some (true,a,b):=by
 cases r with
 |none=>cases h1
 |some s =>
  have e1:=Option.some.inj h1;have e2:=Option.some.inj h2;have e3:=Option.some.inj h3;exact congrArg some (bM e1 (bM e2 e3))
def Ug(ms:LSz)(p:Program)(h0:Heap)(s:Shared):Bool:=(((staticsOk ms h0 s.heap&&namesBound p s.heap)&&gensDone s)&&laidKept h0 s.heap)
def U4(N m:Nat)(an:Option Value){p p':Program}{sT:(Code->Sem Fin)->Program->World->SharedT->Thread->Option (SharedT×Thread)}{dn:(String->Option Builtin)->Code->Sem Fin}{tT:String->Option Builtin}{iM:List Stmt->LSz}{oS:∀(q:Program)(lo ms:LSz)(Xt:Shared->Bool)(g0:Bool)(s:Shared),_}(h1:@stepT=sT)(h0:@denote=dn)(h2:treeTable=tT)(h3:@importedModules=iM)(h4:@openSeen=oS)(h5:p=p'):Prop:=∀(w:World)(os:OsState),Option.map (λ s=>Ug (iM p'.main.body) p' (boot_heap w.params) (SharedT.abs s)) (Ct (stepOk m an) (sT (dn tT) p' w) N (Es w.params os) (topStub p'))=some true
def RunB(N m:Nat)(an:Option Value)(q:Program->Program)(lo:LSz)(Xt:Program->Shared->Bool){p p':Program}{sT:(Code->Sem Fin)->Program->World->SharedT->Thread->Option (SharedT×Thread)}{dn:(String->Option Builtin)->Code->Sem Fin}{tT:String->Option Builtin}{iM:List Stmt->LSz}{oS:∀(q:Program)(lo ms:LSz)(Xt:Shared->Bool)(g0:Bool)(s:Shared),_}(h1:@stepT=sT)(h0:@denote=dn)(h2:treeTable=tT)(h3:@importedModules=iM)(h4:@openSeen=oS)(h5:p=p'):Prop:=∀(w:World)(os:OsState),Option.map (λ s=>oS (q p') lo (iM p'.main.body) (Xt p') true (SharedT.abs s)) (Ct (stepOk m an) (sT (dn tT) p' w) N (Es w.params os) (topStub p'))=some (openGood (q p') lo)
def U3(N m:Nat)(an:Option Value){β:Type}(Yf:Shared->β)(Ya:World->β){p p':Program}{sT:(Code->Sem Fin)->Program->World->SharedT->Thread->Option (SharedT×Thread)}{dn:(String->Option Builtin)->Code->Sem Fin}{tT:String->Option Builtin}{iM:List Stmt->LSz}{oS:∀(q:Program)(lo ms:LSz)(Xt:Shared->Bool)(g0:Bool)(s:Shared),_}(h1:@stepT=sT)(h0:@denote=dn)(h2:treeTable=tT)(h3:@importedModules=iM)(h4:@openSeen=oS)(h5:p=p'):Prop:=∀(w:World)(os:OsState),Option.map (λ s=>Yf (SharedT.abs s)) (Ct (stepOk m an) (sT (dn tT) p' w) N (Es w.params os) (topStub p'))=some (Ya w)
theorem QY{q:Program->Program}{lo:LSz}{Xt:Program->Shared->Bool}{β:Type}{Yf:Shared->β}{Ya:World->β}{N m:Nat}{an:Option Value}{p p':Program}{sT:(Code->Sem Fin)->Program->World->SharedT->Thread->Option (SharedT×Thread)}{dn:(String->Option Builtin)->Code->Sem Fin}{tT:String->Option Builtin}{iM:List Stmt->LSz}{oS:∀(q:Program)(lo ms:LSz)(Xt:Shared->Bool)(g0:Bool)(s:Shared),_}{h1:@stepT=sT}{h0:@denote=dn}{h2:treeTable=tT}{h3:@importedModules=iM}{h4:@openSeen=oS}{h5:p=p'}
  (rA:U4 N m an h1 h0 h2 h3 h4 h5) (rB:RunB N m an q lo Xt h1 h0 h2 h3 h4 h5) (rC:U3 N m an Yf Ya h1 h0 h2 h3 h4 h5) :
  ∀(w:World)(os:OsState),Option.map (ID openSeen (importedModules p.main.body) p (q p) lo (Xt p) Yf (boot_heap w.params)) (topRun treeTable p w m an N (Eg w.params os) (topStub p))=some (true,openGood (q p) lo,Ya w):=by
 subst h1 h0 h2 h3 h4 h5;exact λ w os=>S5 (Uh (rA w os) (rB w os) (rC w os))
open PySem.Spec
def hookT(K:Hook)(Ts:List Addr):Hook :=
 ⟨K.α×List (Option Obj),λ s=>(K.obs s,Ts.map λ T=>s.heap.get? T),λ w=>(K.val w,Ts.map λ_=>some (tabObj #[])),λ w h=>K.says w h/\∀T∈Ts,h.get? T=some (tabObj #[]),
  λ w s e=>⟨K.of w s (du.inj e).1,λ T hT=>by
   have e2:=(du.inj e).2;have:=List.map_eq_map_iff.mp e2 T hT;exact this⟩,λ w h h' x k=>⟨K.keeps w h h' x.1 k,λ T hT=>k _ _ (x.2 T hT)⟩⟩
def Ig{β:Type _}(N m:Nat)(an:Option Value)(q:Program->Program)(lo:LSz)(Xt:Program->Shared->Bool)(g:type_of% (openGood (q default) lo)->β)(b:Program->β){p p':Program}{sT:(Code->Sem Fin)->Program->World->SharedT->Thread->Option (SharedT×Thread)}{dn:(String->Option Builtin)->Code->Sem Fin}{tT:String->Option Builtin}{iM:List Stmt->LSz}{oS:∀(q:Program)(lo ms:LSz)(Xt:Shared->Bool)(g0:Bool)(s:Shared),_}(h1:@stepT=sT)(h0:@denote=dn)(h2:treeTable=tT)(h3:@importedModules=iM)(h4:@openSeen=oS)(h5:p=p'):Prop:=∀(w:World)(os:OsState),Option.map (λ s=>g (oS (q p') lo (iM p'.main.body) (Xt p') true (SharedT.abs s))) (Ct (stepOk m an) (sT (dn tT) p' w) N (Es w.params os) (topStub p'))=some (b (q p'))
theorem RunB.of5{N m:Nat}{an:Option Value}{q:Program->Program}{lo:LSz}{Xt:Program->Shared->Bool}{p p':Program}{sT:(Code->Sem Fin)->Program->World->SharedT->Thread->Option (SharedT×Thread)}{dn:(String->Option Builtin)->Code->Sem Fin}{tT:String->Option Builtin}{iM:List Stmt->LSz}{oS:∀(q:Program)(lo ms:LSz)(Xt:Shared->Bool)(g0:Bool)(s:Shared),_}{h1:@stepT=sT}{h0:@denote=dn}{h2:treeTable=tT}{h3:@importedModules=iM}{h4:@openSeen=oS}{h5:p=p'}(r1:Ig N m an q lo Xt (λ x=>x.1) (expectedOf) h1 h0 h2 h3 h4 h5)(r2:Ig N m an q lo Xt (λ x=>(x.2.1,x.2.2.1)) (λ_=>(bltViewBooted,true)) h1 h0 h2 h3 h4 h5)(r3:Ig N m an q lo Xt (λ x=>(x.2.2.2.1,x.2.2.2.2.1)) (λ q=>(true,pinGoodD (drecsOf q))) h1 h0 h2 h3 h4 h5)(r4:Ig N m an q lo Xt (λ x=>(x.2.2.2.2.2.1,x.2.2.2.2.2.2.1)) (λ q=>(plainGoodE q (looseW q lo),plainGoodD q lo)) h1 h0 h2 h3 h4 h5)(r5:Ig N m an q lo Xt (λ x=>x.2.2.2.2.2.2.2) (λ q=>(wideGood q,clsGoodW q lo)) h1 h0 h2 h3 h4 h5):RunB N m an q lo Xt h1 h0 h2 h3 h4 h5:=λ w os=>by
 have e1:=r1 w os;have e2:=r2 w os;have e3:=r3 w os;have e4:=r4 w os;have e5:=r5 w os;show Option.map _ _=_;generalize Ct _ _ _ _ _=r at e1 e2 e3 e4 e5 |-;cases r with
 |none=>cases e1
 |some s =>
  have e1:=Option.some.inj e1;have e2:=du.inj (Option.some.inj e2);have e3:=du.inj (Option.some.inj e3);have e4:=du.inj (Option.some.inj e4);have e5:=Option.some.inj e5;exact congrArg some (bM e1 (bM e2.1 (bM e2.2 (bM e3.1 (bM e3.2 (bM e4.1 (bM e4.2 e5)))))))
end L2
namespace KH
open PySem.W
open PySem PyProof.Rows L2
noncomputable def top(i:Nat):Stmt:=PySem.Challenge.pw_glazebench_k23_whole_tree_or_room.main.body.getD i (.Pass ⟨0,0,0,0⟩)
noncomputable def kE(P:Params)(x:Str)(t:Tok)(v:Value):DictEntry:=⟨PyData.keyHash P x,.str x t,v⟩
noncomputable abbrev fo(a b:Str)(e:Stmt)(d m:Value)(c:Addr):Obj:=⟨(.type "function"),none,(.func (fnOf a b (B5 e) (A8 e) (Ai e) d .none .none m none (.ref c) .none)),#[]⟩
noncomputable abbrev cp(a b:Str)(t u v:Tok)(l n:Int)(r:Addr)(i:Int)(p:Addr)(q x y:Value)(j k:Int)(z:Tok):Obj:=⟨(.type "code"),none,(.fields #[(.str a t),(.str b u),(.str "/claim/cut.py" v),(.int l 0),(.int n 0),(.int (0) 0),(.int (0) 0),(.int (3) 0),(.ref r),(.bool true),(.int i 0),(.ref p),.none,q,x,y,(.int j 0),(.int k 0),(.str "/claim/cut.py" z)]),#[]⟩
noncomputable abbrev co(a b:Str)(t u v:Tok)(l n:Int)(r:Addr)(i:Int)(p q x y:Addr)(j k:Int)(z:Tok):Obj:=⟨(.type "code"),none,(.fields #[(.str a t),(.str b u),(.str "/claim/cut.py" v),(.int l 0),(.int n 0),(.int (0) 0),(.int (0) 0),(.int (3) 0),(.ref r),(.bool true),(.int i 0),(.ref p),.none,(.ref q),(.ref x),(.ref y),(.int j 0),(.int k 0),(.str "/claim/cut.py" z)]),#[]⟩
noncomputable def KK:Params->Frag:=λ P=>(nat_lit 2,⟨.none,none,(.dict #[] 0),#[]⟩)::(nat_lit 3,⟨(.type "dict"),none,(.dict #[kE P "__name__" 165 (.str "law_glazebench_k23_whole_tree_or_room" 941),kE P "__doc__" 166 .none,kE P "__package__" 167 .none,kE P "__loader__" 168 (.builtin "__main__.__loader__#opaque"),kE P "__spec__" 169 .none,kE P "__annotations__" 170 (.ref 6),kE P "__builtins__" 171 (.ref 4),kE P "__file__" 173 (.str "/claim/cut.py" 172),kE P "__cached__" 174 .none,kE P "_wall" 193 (.ref 21),kE P "GlassError" 213 (.ref 31),kE P "NoSide" 238 (.ref 51),kE P "TooMany" 263 (.ref 70),kE P "NoPane" 288 (.ref 89),kE P "Overlap" 313 (.ref 108),kE P "Bare" 338 (.ref 127),kE P "NoBlock" 363 (.ref 146),kE P "Stuck" 392 (.ref 165),kE P "LONGEST_SIDE" 396 (.int (12) 395),kE P "MOST_PANES" 398 (.int (52) 397),kE P "is_whole" 405 (.ref 174),kE P "is_side" 412 (.ref 181),kE P "is_rectangle" 418 (.ref 186),kE P "inside" 427 (.ref 193),kE P "squares_of" 437 (.ref 200),kE P "check_sides" 446 (.ref 207),kE P "check_panes" 456 (.ref 214),kE P "panes_by_square" 467 (.ref 221),kE P "check_covered" 476 (.ref 228),kE P "Panel" 529 (.ref 264),kE P "TOP" 533 (.int (0) 532),kE P "LEFT" 535 (.int (1) 534),kE P "apart" 544 (.ref 275),kE P "is_block" 550 (.ref 280),kE P "check_block" 558 (.ref 287),kE P "panes_in" 564 (.ref 292),kE P "line_breaks" 573 (.ref 299),kE P "goes_through" 579 (.ref 304),kE P "lines_through" 585 (.ref 309),kE P "WHOLE" 589 (.str "whole" 588),kE P "UPRIGHT_cuts" 591 (.str "upright" 590),kE P "LEVEL_cuts" 593 (.str "level" 592),kE P "Tree" 650 (.ref 352),kE P "Whole" 675 (.ref 374),kE P "Upright" 704 (.ref 393),kE P "Level" 733 (.ref 412),kE P "kind_of" 740 (.ref 421),kE P "entry_of" 748 (.ref 428),kE P "entries_of" 758 (.ref 435),kE P "cut_from" 768 (.ref 442),kE P "tree_from" 780 (.ref 449),kE P "entries_by" 792 (.ref 456),kE P "first_piece" 801 (.ref 463),kE P "other_piece" 810 (.ref 470),kE P "LEVEL_leads" 814 (.str "level" 813),kE P "UPRIGHT_leads" 816 (.str "upright" 815),kE P "runs" 826 (.ref 477),kE P "columns_parted" 832 (.ref 482),kE P "rows_parted" 838 (.ref 487),kE P "level_leads" 850 (.ref 494),kE P "upright_leads" 856 (.ref 499),kE P "leads" 865 (.ref 506),kE P "lies_on" 873 (.ref 513),kE P "turn" 879 (.ref 518),kE P "ROOM" 883 (.str "room" 882),kE P "entry_for" 889 (.ref 523),kE P "cut_up" 898 (.ref 530),kE P "pane_broken" 904 (.ref 535),kE P "breaks_of" 917 (.ref 542),kE P "one_longer" 928 (.ref 549),kE P "four_that_turn" 934 (.ref 554),kE P "tree_of" 940 (.ref 559),kE P "_law_purse" 951 (.ref 566),kE P "_law_take" 960 (.ref 573),kE P "_law_tiled" 980 (.ref 580),kE P "_law_wheel" 986 (.ref 585),kE P "_law_cut_up" 1006 (.ref 592),kE P "_law_panes_in" 1020 (.ref 599),kE P "_law_drawn" 1031 (.ref 606),kE P "_law_least" 1037 (.ref 611),kE P "_law_is_tree" 1053 (.ref 618),kE P "_law_broken" 1059 (.ref 623),kE P "_law_unlike" 1065 (.ref 628),kE P "_law_level" 1076 (.ref 635),kE P "_law_lead" 1082 (.ref 640),kE P "_law_meets" 1090 (.ref 647),kE P "_law_is_room" 1096 (.ref 652),kE P "_law_asked" 1106 (.ref 659),kE P "law" 1121 (.ref 666)] 89),#[]⟩)::(nat_lit 20,co "_wall" "_wall" 187 188 189 1 1 15 181 16 17 18 19 191 1 192)::(nat_lit 21,fo "_wall" "_wall" (top 0) .none (.str "__main__" 164) 20)::(nat_lit 30,⟨(.type "dict"),none,(.dict #[kE P "__module__" 203 (.str "glazebench.errors" 194),kE P "__firstlineno__" 207 (.int (5) 206),kE P "__static_attributes__" 208 (.ref 29),kE P "__weakref__" 210 (.ref 32),kE P "__doc__" 211 .none] 3),#[]⟩)::(nat_lit 31,⟨(.type "type"),none,(.cls { name:="GlassError",bases:=[(.type "ValueError")],mro:=[(.ref 31),(.type "ValueError"),(.type "Exception"),(.type "BaseException"),(.type "object")],ns:=30,qualname:="GlassError",hasDict:=true,slotNames:=[],subclasses:=[(.ref 51),(.ref 70),(.ref 89),(.ref 108),(.ref 127),(.ref 146),(.ref 165)],abstract:=false,collection:=none,hasDel:=false }),#[some (.ref 22),none,some (.str "GlassError" 196),some (.str "GlassError" 204),some (.builtin "ValueError.__new__"),some (.bool true)]⟩)::(nat_lit 32,⟨(.type "getset_descriptor"),none,(.fields #[(.str "__weakref__" 209),(.ref 31),(.builtin "ExceptionGroup.__weakref__"),.none]),#[]⟩)::(nat_lit 47,co "__init__" "NoSide.__init__" 226 227 228 9 2 42 181 43 44 45 46 231 9 232)::(nat_lit 48,fo "__init__" "NoSide.__init__" (AD (top 3) 0) .none (.str "glazebench.errors" 194) 47)::(nat_lit 50,⟨(.type "dict"),none,(.dict #[kE P "__module__" 221 (.str "glazebench.errors" 194),kE P "__firstlineno__" 225 (.int (7) 224),kE P "__init__" 233 (.ref 48),kE P "__static_attributes__" 235 (.ref 49),kE P "__doc__" 236 .none] 2),#[]⟩)::(nat_lit 51,⟨(.type "type"),none,(.cls { name:="NoSide",bases:=[(.ref 31)],mro:=[(.ref 51),(.ref 31),(.type "ValueError"),(.type "Exception"),(.type "BaseException"),(.type "object")],ns:=50,qualname:="NoSide",hasDict:=true,slotNames:=[],subclasses:=[],abstract:=false,collection:=none,hasDel:=false }),#[some (.ref 35),none,some (.str "NoSide" 214),some (.str "NoSide" 222),some (.builtin "ValueError.__new__"),some (.bool true)]⟩)::(nat_lit 66,co "__init__" "TooMany.__init__" 251 252 253 13 2 61 181 62 63 64 65 256 13 257)::(nat_lit 67,fo "__init__" "TooMany.__init__" (AD (top 4) 0) .none (.str "glazebench.errors" 194) 66)::(nat_lit 69,⟨(.type "dict"),none,(.dict #[kE P "__module__" 246 (.str "glazebench.errors" 194),kE P "__firstlineno__" 250 (.int (11) 249),kE P "__init__" 258 (.ref 67),kE P "__static_attributes__" 260 (.ref 68),kE P "__doc__" 261 .none] 2),#[]⟩)::(nat_lit 70,⟨(.type "type"),none,(.cls { name:="TooMany",bases:=[(.ref 31)],mro:=[(.ref 70),(.ref 31),(.type "ValueError"),(.type "Exception"),(.type "BaseException"),(.type "object")],ns:=69,qualname:="TooMany",hasDict:=true,slotNames:=[],subclasses:=[],abstract:=false,collection:=none,hasDel:=false }),#[some (.ref 54),none,some (.str "TooMany" 239),some (.str "TooMany" 247),some (.builtin "ValueError.__new__"),some (.bool true)]⟩)::(nat_lit 85,co "__init__" "NoPane.__init__" 276 277 278 17 2 80 181 81 82 83 84 281 17 282)::(nat_lit 86,fo "__init__" "NoPane.__init__" (AD (top 5) 0) .none (.str "glazebench.errors" 194) 85)::(nat_lit 88,⟨(.type "dict"),none,(.dict #[kE P "__module__" 271 (.str "glazebench.errors" 194),kE P "__firstlineno__" 275 (.int (15) 274),kE P "__init__" 283 (.ref 86),kE P "__static_attributes__" 285 (.ref 87),kE P "__doc__" 286 .none] 2),#[]⟩)::(nat_lit 89,⟨(.type "type"),none,(.cls { name:="NoPane",bases:=[(.ref 31)],mro:=[(.ref 89),(.ref 31),(.type "ValueError"),(.type "Exception"),(.type "BaseException"),(.type "object")],ns:=88,qualname:="NoPane",hasDict:=true,slotNames:=[],subclasses:=[],abstract:=false,collection:=none,hasDel:=false }),#[some (.ref 73),none,some (.str "NoPane" 264),some (.str "NoPane" 272),some (.builtin "ValueError.__new__"),some (.bool true)]⟩)::(nat_lit 104,co "__init__" "Overlap.__init__" 301 302 303 21 2 99 181 100 101 102 103 306 21 307)::(nat_lit 105,fo "__init__" "Overlap.__init__" (AD (top 6) 0) .none (.str "glazebench.errors" 194) 104)::(nat_lit 107,⟨(.type "dict"),none,(.dict #[kE P "__module__" 296 (.str "glazebench.errors" 194),kE P "__firstlineno__" 300 (.int (19) 299),kE P "__init__" 308 (.ref 105),kE P "__static_attributes__" 310 (.ref 106),kE P "__doc__" 311 .none] 2),#[]⟩)::(nat_lit 108,⟨(.type "type"),none,(.cls { name:="Overlap",bases:=[(.ref 31)],mro:=[(.ref 108),(.ref 31),(.type "ValueError"),(.type "Exception"),(.type "BaseException"),(.type "object")],ns:=107,qualname:="Overlap",hasDict:=true,slotNames:=[],subclasses:=[],abstract:=false,collection:=none,hasDel:=false }),#[some (.ref 92),none,some (.str "Overlap" 289),some (.str "Overlap" 297),some (.builtin "ValueError.__new__"),some (.bool true)]⟩)::(nat_lit 123,co "__init__" "Bare.__init__" 326 327 328 25 2 118 181 119 120 121 122 331 25 332)::(nat_lit 124,fo "__init__" "Bare.__init__" (AD (top 7) 0) .none (.str "glazebench.errors" 194) 123)::(nat_lit 126,⟨(.type "dict"),none,(.dict #[kE P "__module__" 321 (.str "glazebench.errors" 194),kE P "__firstlineno__" 325 (.int (23) 324),kE P "__init__" 333 (.ref 124),kE P "__static_attributes__" 335 (.ref 125),kE P "__doc__" 336 .none] 2),#[]⟩)::(nat_lit 127,⟨(.type "type"),none,(.cls { name:="Bare",bases:=[(.ref 31)],mro:=[(.ref 127),(.ref 31),(.type "ValueError"),(.type "Exception"),(.type "BaseException"),(.type "object")],ns:=126,qualname:="Bare",hasDict:=true,slotNames:=[],subclasses:=[],abstract:=false,collection:=none,hasDel:=false }),#[some (.ref 111),none,some (.str "Bare" 314),some (.str "Bare" 322),some (.builtin "ValueError.__new__"),some (.bool true)]⟩)::(nat_lit 142,co "__init__" "NoBlock.__init__" 351 352 353 29 2 137 181 138 139 140 141 356 29 357)::(nat_lit 143,fo "__init__" "NoBlock.__init__" (AD (top 8) 0) .none (.str "glazebench.errors" 194) 142)::(nat_lit 145,⟨(.type "dict"),none,(.dict #[kE P "__module__" 346 (.str "glazebench.errors" 194),kE P "__firstlineno__" 350 (.int (27) 349),kE P "__init__" 358 (.ref 143),kE P "__static_attributes__" 360 (.ref 144),kE P "__doc__" 361 .none] 2),#[]⟩)::(nat_lit 146,⟨(.type "type"),none,(.cls { name:="NoBlock",bases:=[(.ref 31)],mro:=[(.ref 146),(.ref 31),(.type "ValueError"),(.type "Exception"),(.type "BaseException"),(.type "object")],ns:=145,qualname:="NoBlock",hasDict:=true,slotNames:=[],subclasses:=[],abstract:=false,collection:=none,hasDel:=false }),#[some (.ref 130),none,some (.str "NoBlock" 339),some (.str "NoBlock" 347),some (.builtin "ValueError.__new__"),some (.bool true)]⟩)::(nat_lit 161,co "__init__" "Stuck.__init__" 376 377 378 33 4 156 181 157 158 159 160 383 33 384)::(nat_lit 162,fo "__init__" "Stuck.__init__" (AD (top 9) 0) .none (.str "glazebench.errors" 194) 161)::(nat_lit 164,⟨(.type "dict"),none,(.dict #[kE P "__module__" 371 (.str "glazebench.errors" 194),kE P "__firstlineno__" 375 (.int (31) 374),kE P "__init__" 385 (.ref 162),kE P "__static_attributes__" 389 (.ref 163),kE P "__doc__" 390 .none] 2),#[]⟩)::(nat_lit 165,⟨(.type "type"),none,(.cls { name:="Stuck",bases:=[(.ref 31)],mro:=[(.ref 165),(.ref 31),(.type "ValueError"),(.type "Exception"),(.type "BaseException"),(.type "object")],ns:=164,qualname:="Stuck",hasDict:=true,slotNames:=[],subclasses:=[],abstract:=false,collection:=none,hasDel:=false }),#[some (.ref 149),none,some (.str "Stuck" 364),some (.str "Stuck" 372),some (.builtin "ValueError.__new__"),some (.bool true)]⟩)::(nat_lit 173,co "is_whole" "is_whole" 399 400 401 40 1 168 181 169 170 171 172 403 40 404)::(nat_lit 174,fo "is_whole" "is_whole" (top 13) .none (.str "glazebench.panels" 393) 173)::(nat_lit 180,co "is_side" "is_side" 406 407 408 42 1 175 181 176 177 178 179 410 42 411)::(nat_lit 181,fo "is_side" "is_side" (top 14) .none (.str "glazebench.panels" 393) 180)::(nat_lit 185,cp "is_rectangle" "is_rectangle" 413 414 415 44 1 182 181 183 .none .none (.ref 184) 416 44 417)::(nat_lit 186,fo "is_rectangle" "is_rectangle" (top 15) .none (.str "glazebench.panels" 393) 185)::(nat_lit 192,co "inside" "inside" 419 420 421 50 2 187 181 188 189 190 191 425 50 426)::(nat_lit 193,fo "inside" "inside" (top 16) .none (.str "glazebench.panels" 393) 192)::(nat_lit 199,co "squares_of" "squares_of" 428 429 430 53 1 194 181 195 196 197 198 435 53 436)::(nat_lit 200,fo "squares_of" "squares_of" (top 17) .none (.str "glazebench.panels" 393) 199)::(nat_lit 206,co "check_sides" "check_sides" 438 439 440 59 2 201 181 202 203 204 205 444 59 445)::(nat_lit 207,fo "check_sides" "check_sides" (top 18) .none (.str "glazebench.panels" 393) 206)::(nat_lit 213,co "check_panes" "check_panes" 447 448 449 63 2 208 181 209 210 211 212 454 63 455)::(nat_lit 214,fo "check_panes" "check_panes" (top 19) .none (.str "glazebench.panels" 393) 213)::(nat_lit 220,co "panes_by_square" "panes_by_square" 457 458 459 69 1 215 181 216 217 218 219 465 69 466)::(nat_lit 221,fo "panes_by_square" "panes_by_square" (top 20) .none (.str "glazebench.panels" 393) 220)::(nat_lit 227,co "check_covered" "check_covered" 468 469 470 77 2 222 181 223 224 225 226 474 77 475)::(nat_lit 228,fo "check_covered" "check_covered" (top 21) .none (.str "glazebench.panels" 393) 227)::(nat_lit 239,cp "__init__" "Panel.__init__" 489 490 491 83 4 236 181 237 .none .none (.ref 238) 492 83 493)::(nat_lit 240,fo "__init__" "Panel.__init__" (AD (top 22) 0) .none (.str "glazebench.panels" 393) 239)::(nat_lit 246,co "panes" "Panel.panes" 495 496 497 95 1 241 181 242 243 244 245 499 95 500)::(nat_lit 247,fo "panes" "Panel.panes" (AD (top 22) 1) .none (.str "glazebench.panels" 393) 246)::(nat_lit 253,co "pane_at" "Panel.pane_at" 502 503 504 98 3 248 181 249 250 251 252 508 98 509)::(nat_lit 254,fo "pane_at" "Panel.pane_at" (AD (top 22) 2) .none (.str "glazebench.panels" 393) 253)::(nat_lit 260,co "turned" "Panel.turned" 511 512 513 101 1 255 181 256 257 258 259 515 101 516)::(nat_lit 261,fo "turned" "Panel.turned" (AD (top 22) 3) .none (.str "glazebench.panels" 393) 260)::(nat_lit 263,⟨(.type "dict"),none,(.dict #[kE P "__module__" 484 (.str "glazebench.panels" 393),kE P "__firstlineno__" 488 (.int (81) 487),kE P "__init__" 494 (.ref 240),kE P "panes" 501 (.ref 247),kE P "pane_at" 510 (.ref 254),kE P "turned" 517 (.ref 261),kE P "__static_attributes__" 522 (.ref 262),kE P "__dict__" 524 (.ref 265),kE P "__weakref__" 526 (.ref 266),kE P "__doc__" 527 .none] 4),#[]⟩)::(nat_lit 264,⟨(.type "type"),none,(.cls { name:="Panel",bases:=[(.type "object")],mro:=[(.ref 264),(.type "object")],ns:=263,qualname:="Panel",hasDict:=true,slotNames:=[],subclasses:=[],abstract:=false,collection:=none,hasDel:=false }),#[none,none,some (.str "Panel" 477),some (.str "Panel" 485),some (.builtin "object.__new__"),some (.bool true)]⟩)::(nat_lit 265,⟨(.type "getset_descriptor"),none,(.fields #[(.str "__dict__" 523),(.ref 264),(.builtin "function.__dict__"),(.builtin "function.__dict__#set")]),#[]⟩)::(nat_lit 266,⟨(.type "getset_descriptor"),none,(.fields #[(.str "__weakref__" 525),(.ref 264),(.builtin "ExceptionGroup.__weakref__"),.none]),#[]⟩)::(nat_lit 274,co "apart" "apart" 536 537 538 106 2 269 181 270 271 272 273 542 106 543)::(nat_lit 275,fo "apart" "apart" (top 26) .none (.str "glazebench.blocks" 530) 274)::(nat_lit 279,cp "is_block" "is_block" 545 546 547 109 2 276 181 277 .none .none (.ref 278) 548 109 549)::(nat_lit 280,fo "is_block" "is_block" (top 27) .none (.str "glazebench.blocks" 530) 279)::(nat_lit 286,co "check_block" "check_block" 551 552 553 113 2 281 181 282 283 284 285 556 113 557)::(nat_lit 287,fo "check_block" "check_block" (top 28) .none (.str "glazebench.blocks" 530) 286)::(nat_lit 291,cp "panes_in" "panes_in" 559 560 561 116 2 288 181 289 .none .none (.ref 290) 562 116 563)::(nat_lit 292,fo "panes_in" "panes_in" (top 29) .none (.str "glazebench.blocks" 530) 291)::(nat_lit 298,co "line_breaks" "line_breaks" 565 566 567 119 3 293 181 294 295 296 297 571 119 572)::(nat_lit 299,fo "line_breaks" "line_breaks" (top 30) .none (.str "glazebench.blocks" 530) 298)::(nat_lit 303,cp "goes_through" "goes_through" 574 575 576 121 3 300 181 301 .none .none (.ref 302) 577 121 578)::(nat_lit 304,fo "goes_through" "goes_through" (top 31) .none (.str "glazebench.blocks" 530) 303)::(nat_lit 308,cp "lines_through" "lines_through" 580 581 582 123 3 305 181 306 .none .none (.ref 307) 583 123 584)::(nat_lit 309,fo "lines_through" "lines_through" (top 32) .none (.str "glazebench.blocks" 530) 308)::(nat_lit 320,cp "leaves" "Tree.leaves" 606 607 608 131 1 317 181 318 .none .none (.ref 319) 609 131 610)::(nat_lit 321,fo "leaves" "Tree.leaves" (AD (top 37) 0) .none (.str "glazebench.cuts" 586) 320)::(nat_lit 327,co "depth" "Tree.depth" 612 613 614 134 1 322 181 323 324 325 326 616 134 617)::(nat_lit 328,fo "depth" "Tree.depth" (AD (top 37) 1) .none (.str "glazebench.cuts" 586) 327)::(nat_lit 334,co "turned" "Tree.turned" 619 620 621 137 1 329 181 330 331 332 333 623 137 624)::(nat_lit 335,fo "turned" "Tree.turned" (AD (top 37) 2) .none (.str "glazebench.cuts" 586) 334)::(nat_lit 341,co "fits" "Tree.fits" 626 627 628 140 3 336 181 337 338 339 340 632 140 633)::(nat_lit 342,fo "fits" "Tree.fits" (AD (top 37) 3) .none (.str "glazebench.cuts" 586) 341)::(nat_lit 348,co "same" "Tree.same" 635 636 637 143 2 343 181 344 345 346 347 640 143 641)::(nat_lit 349,fo "same" "Tree.same" (AD (top 37) 4) .none (.str "glazebench.cuts" 586) 348)::(nat_lit 351,⟨(.type "dict"),none,(.dict #[kE P "__module__" 601 (.str "glazebench.cuts" 586),kE P "__firstlineno__" 605 (.int (129) 604),kE P "leaves" 611 (.ref 321),kE P "depth" 618 (.ref 328),kE P "turned" 625 (.ref 335),kE P "fits" 634 (.ref 342),kE P "same" 642 (.ref 349),kE P "__static_attributes__" 643 (.ref 350),kE P "__dict__" 645 (.ref 353),kE P "__weakref__" 647 (.ref 354),kE P "__doc__" 648 .none] 4),#[]⟩)::(nat_lit 352,⟨(.type "type"),none,(.cls { name:="Tree",bases:=[(.type "object")],mro:=[(.ref 352),(.type "object")],ns:=351,qualname:="Tree",hasDict:=true,slotNames:=[],subclasses:=[(.ref 374),(.ref 393),(.ref 412)],abstract:=false,collection:=none,hasDel:=false }),#[none,none,some (.str "Tree" 594),some (.str "Tree" 602),some (.builtin "object.__new__"),some (.bool true)]⟩)::(nat_lit 353,⟨(.type "getset_descriptor"),none,(.fields #[(.str "__dict__" 644),(.ref 352),(.builtin "function.__dict__"),(.builtin "function.__dict__#set")]),#[]⟩)::(nat_lit 354,⟨(.type "getset_descriptor"),none,(.fields #[(.str "__weakref__" 646),(.ref 352),(.builtin "ExceptionGroup.__weakref__"),.none]),#[]⟩)::(nat_lit 364,⟨(.type "tuple"),none,(.seq #[.none] 0),#[]⟩)::(nat_lit 370,co "__init__" "Whole.__init__" 663 664 665 147 2 365 181 366 367 368 369 668 147 669)::(nat_lit 371,fo "__init__" "Whole.__init__" (AD (top 38) 0) (.ref 364) (.str "glazebench.cuts" 586) 370)::(nat_lit 373,⟨(.type "dict"),none,(.dict #[kE P "__module__" 658 (.str "glazebench.cuts" 586),kE P "__firstlineno__" 662 (.int (145) 661),kE P "__init__" 670 (.ref 371),kE P "__static_attributes__" 672 (.ref 372),kE P "__doc__" 673 .none] 2),#[]⟩)::(nat_lit 374,⟨(.type "type"),none,(.cls { name:="Whole",bases:=[(.ref 352)],mro:=[(.ref 374),(.ref 352),(.type "object")],ns:=373,qualname:="Whole",hasDict:=true,slotNames:=[],subclasses:=[],abstract:=false,collection:=none,hasDel:=false }),#[some (.ref 357),none,some (.str "Whole" 651),some (.str "Whole" 659),some (.builtin "object.__new__"),some (.bool true)]⟩)::(nat_lit 389,co "__init__" "Upright.__init__" 688 689 690 151 4 384 181 385 386 387 388 695 151 696)::(nat_lit 390,fo "__init__" "Upright.__init__" (AD (top 39) 0) .none (.str "glazebench.cuts" 586) 389)::(nat_lit 392,⟨(.type "dict"),none,(.dict #[kE P "__module__" 683 (.str "glazebench.cuts" 586),kE P "__firstlineno__" 687 (.int (149) 686),kE P "__init__" 697 (.ref 390),kE P "__static_attributes__" 701 (.ref 391),kE P "__doc__" 702 .none] 2),#[]⟩)::(nat_lit 393,⟨(.type "type"),none,(.cls { name:="Upright",bases:=[(.ref 352)],mro:=[(.ref 393),(.ref 352),(.type "object")],ns:=392,qualname:="Upright",hasDict:=true,slotNames:=[],subclasses:=[],abstract:=false,collection:=none,hasDel:=false }),#[some (.ref 377),none,some (.str "Upright" 676),some (.str "Upright" 684),some (.builtin "object.__new__"),some (.bool true)]⟩)::(nat_lit 408,co "__init__" "Level.__init__" 717 718 719 157 4 403 181 404 405 406 407 724 157 725)::(nat_lit 409,fo "__init__" "Level.__init__" (AD (top 40) 0) .none (.str "glazebench.cuts" 586) 408)::(nat_lit 411,⟨(.type "dict"),none,(.dict #[kE P "__module__" 712 (.str "glazebench.cuts" 586),kE P "__firstlineno__" 716 (.int (155) 715),kE P "__init__" 726 (.ref 409),kE P "__static_attributes__" 730 (.ref 410),kE P "__doc__" 731 .none] 2),#[]⟩)::(nat_lit 412,⟨(.type "type"),none,(.cls { name:="Level",bases:=[(.ref 352)],mro:=[(.ref 412),(.ref 352),(.type "object")],ns:=411,qualname:="Level",hasDict:=true,slotNames:=[],subclasses:=[],abstract:=false,collection:=none,hasDel:=false }),#[some (.ref 396),none,some (.str "Level" 705),some (.str "Level" 713),some (.builtin "object.__new__"),some (.bool true)]⟩)::(nat_lit 420,co "kind_of" "kind_of" 734 735 736 161 1 415 181 416 417 418 419 738 161 739)::(nat_lit 421,fo "kind_of" "kind_of" (top 41) .none (.str "glazebench.cuts" 586) 420)::(nat_lit 427,co "entry_of" "entry_of" 741 742 743 165 1 422 181 423 424 425 426 746 165 747)::(nat_lit 428,fo "entry_of" "entry_of" (top 42) .none (.str "glazebench.cuts" 586) 427)::(nat_lit 434,co "entries_of" "entries_of" 749 750 751 168 1 429 181 430 431 432 433 756 168 757)::(nat_lit 435,fo "entries_of" "entries_of" (top 43) .none (.str "glazebench.cuts" 586) 434)::(nat_lit 441,co "cut_from" "cut_from" 759 760 761 177 4 436 181 437 438 439 440 766 177 767)::(nat_lit 442,fo "cut_from" "cut_from" (top 44) .none (.str "glazebench.cuts" 586) 441)::(nat_lit 448,co "tree_from" "tree_from" 769 770 771 181 1 443 181 444 445 446 447 778 181 779)::(nat_lit 449,fo "tree_from" "tree_from" (top 45) .none (.str "glazebench.cuts" 586) 448)::(nat_lit 455,co "entries_by" "entries_by" 781 782 783 191 2 450 181 451 452 453 454 790 191 791)::(nat_lit 456,fo "entries_by" "entries_by" (top 46) .none (.str "glazebench.cuts" 586) 455)::(nat_lit 462,co "first_piece" "first_piece" 793 794 795 202 3 457 181 458 459 460 461 799 202 800)::(nat_lit 463,fo "first_piece" "first_piece" (top 47) .none (.str "glazebench.cuts" 586) 462)::(nat_lit 469,co "other_piece" "other_piece" 802 803 804 206 3 464 181 465 466 467 468 808 206 809)::(nat_lit 470,fo "other_piece" "other_piece" (top 48) .none (.str "glazebench.cuts" 586) 469)::(nat_lit 476,co "runs" "runs" 817 818 819 213 2 471 181 472 473 474 475 824 213 825)::(nat_lit 477,fo "runs" "runs" (top 52) .none (.str "glazebench.leads" 811) 476)::(nat_lit 481,cp "columns_parted" "columns_parted" 827 828 829 221 3 478 181 479 .none .none (.ref 480) 830 221 831)::(nat_lit 482,fo "columns_parted" "columns_parted" (top 53) .none (.str "glazebench.leads" 811) 481)::(nat_lit 486,cp "rows_parted" "rows_parted" 833 834 835 223 3 483 181 484 .none .none (.ref 485) 836 223 837)::(nat_lit 487,fo "rows_parted" "rows_parted" (top 54) .none (.str "glazebench.leads" 811) 486)::(nat_lit 493,co "level_leads" "level_leads" 839 840 841 225 2 488 181 489 490 491 492 848 225 849)::(nat_lit 494,fo "level_leads" "level_leads" (top 55) .none (.str "glazebench.leads" 811) 493)::(nat_lit 498,cp "upright_leads" "upright_leads" 851 852 853 231 3 495 181 496 .none .none (.ref 497) 854 231 855)::(nat_lit 499,fo "upright_leads" "upright_leads" (top 56) .none (.str "glazebench.leads" 811) 498)::(nat_lit 505,co "leads" "leads" 857 858 859 238 2 500 181 501 502 503 504 863 238 864)::(nat_lit 506,fo "leads" "leads" (top 57) .none (.str "glazebench.leads" 811) 505)::(nat_lit 512,co "lies_on" "lies_on" 866 867 868 242 2 507 181 508 509 510 511 871 242 872)::(nat_lit 513,fo "lies_on" "lies_on" (top 58) .none (.str "glazebench.leads" 811) 512)::(nat_lit 517,cp "turn" "turn" 874 875 876 246 1 514 181 515 .none .none (.ref 516) 877 246 878)::(nat_lit 518,fo "turn" "turn" (top 59) .none (.str "glazebench.leads" 811) 517)::(nat_lit 522,cp "entry_for" "entry_for" 884 885 886 252 2 519 181 520 .none .none (.ref 521) 887 252 888)::(nat_lit 523,fo "entry_for" "entry_for" (top 62) .none (.str "glazebench.rooms" 880) 522)::(nat_lit 529,co "cut_up" "cut_up" 890 891 892 263 2 524 181 525 526 527 528 896 263 897)::(nat_lit 530,fo "cut_up" "cut_up" (top 63) .none (.str "glazebench.rooms" 880) 529)::(nat_lit 534,cp "pane_broken" "pane_broken" 899 900 901 265 3 531 181 532 .none .none (.ref 533) 902 265 903)::(nat_lit 535,fo "pane_broken" "pane_broken" (top 64) .none (.str "glazebench.rooms" 880) 534)::(nat_lit 541,co "breaks_of" "breaks_of" 905 906 907 267 2 536 181 537 538 539 540 915 267 916)::(nat_lit 542,fo "breaks_of" "breaks_of" (top 65) .none (.str "glazebench.rooms" 880) 541)::(nat_lit 548,co "one_longer" "one_longer" 918 919 920 274 2 543 181 544 545 546 547 926 274 927)::(nat_lit 549,fo "one_longer" "one_longer" (top 66) .none (.str "glazebench.rooms" 880) 548)::(nat_lit 553,cp "four_that_turn" "four_that_turn" 929 930 931 281 1 550 181 551 .none .none (.ref 552) 932 281 933)::(nat_lit 554,fo "four_that_turn" "four_that_turn" (top 67) .none (.str "glazebench.rooms" 880) 553)::(nat_lit 558,cp "tree_of" "tree_of" 935 936 937 286 1 555 181 556 .none .none (.ref 557) 938 286 939)::(nat_lit 559,fo "tree_of" "tree_of" (top 68) .none (.str "glazebench.rooms" 880) 558)::(nat_lit 565,co "_law_purse" "_law_purse" 943 944 945 293 2 560 181 561 562 563 564 949 293 950)::(nat_lit 566,fo "_law_purse" "_law_purse" (top 70) .none (.str "law_glazebench_k23_whole_tree_or_room" 941) 565)::(nat_lit 572,co "_law_take" "_law_take" 952 953 954 300 2 567 181 568 569 570 571 958 300 959)::(nat_lit 573,fo "_law_take" "_law_take" (top 71) .none (.str "law_glazebench_k23_whole_tree_or_room" 941) 572)::(nat_lit 579,co "_law_tiled" "_law_tiled" 961 962 963 304 4 574 181 575 576 577 578 978 304 979)::(nat_lit 580,fo "_law_tiled" "_law_tiled" (top 72) .none (.str "law_glazebench_k23_whole_tree_or_room" 941) 579)::(nat_lit 584,cp "_law_wheel" "_law_wheel" 981 982 983 325 4 581 181 582 .none .none (.ref 583) 984 325 985)::(nat_lit 585,fo "_law_wheel" "_law_wheel" (top 73) .none (.str "law_glazebench_k23_whole_tree_or_room" 941) 584)::(nat_lit 591,co "_law_cut_up" "_law_cut_up" 987 988 989 339 5 586 181 587 588 589 590 1004 339 1005)::(nat_lit 592,fo "_law_cut_up" "_law_cut_up" (top 74) .none (.str "law_glazebench_k23_whole_tree_or_room" 941) 591)::(nat_lit 598,co "_law_panes_in" "_law_panes_in" 1007 1008 1009 352 2 593 181 594 595 596 597 1018 352 1019)::(nat_lit 599,fo "_law_panes_in" "_law_panes_in" (top 75) .none (.str "law_glazebench_k23_whole_tree_or_room" 941) 598)::(nat_lit 605,co "_law_drawn" "_law_drawn" 1021 1022 1023 361 1 600 181 601 602 603 604 1029 361 1030)::(nat_lit 606,fo "_law_drawn" "_law_drawn" (top 76) .none (.str "law_glazebench_k23_whole_tree_or_room" 941) 605)::(nat_lit 610,cp "_law_least" "_law_least" 1032 1033 1034 371 4 607 181 608 .none .none (.ref 609) 1035 371 1036)::(nat_lit 611,fo "_law_least" "_law_least" (top 77) .none (.str "law_glazebench_k23_whole_tree_or_room" 941) 610)::(nat_lit 617,co "_law_is_tree" "_law_is_tree" 1038 1039 1040 376 3 612 181 613 614 615 616 1051 376 1052)::(nat_lit 618,fo "_law_is_tree" "_law_is_tree" (top 78) .none (.str "law_glazebench_k23_whole_tree_or_room" 941) 617)::(nat_lit 622,cp "_law_broken" "_law_broken" 1054 1055 1056 396 3 619 181 620 .none .none (.ref 621) 1057 396 1058)::(nat_lit 623,fo "_law_broken" "_law_broken" (top 79) .none (.str "law_glazebench_k23_whole_tree_or_room" 941) 622)::(nat_lit 627,cp "_law_unlike" "_law_unlike" 1060 1061 1062 407 4 624 181 625 .none .none (.ref 626) 1063 407 1064)::(nat_lit 628,fo "_law_unlike" "_law_unlike" (top 80) .none (.str "law_glazebench_k23_whole_tree_or_room" 941) 627)::(nat_lit 634,co "_law_level" "_law_level" 1066 1067 1068 412 4 629 181 630 631 632 633 1074 412 1075)::(nat_lit 635,fo "_law_level" "_law_level" (top 81) .none (.str "law_glazebench_k23_whole_tree_or_room" 941) 634)::(nat_lit 639,cp "_law_lead" "_law_lead" 1077 1078 1079 415 3 636 181 637 .none .none (.ref 638) 1080 415 1081)::(nat_lit 640,fo "_law_lead" "_law_lead" (top 82) .none (.str "law_glazebench_k23_whole_tree_or_room" 941) 639)::(nat_lit 646,co "_law_meets" "_law_meets" 1083 1084 1085 433 2 641 181 642 643 644 645 1088 433 1089)::(nat_lit 647,fo "_law_meets" "_law_meets" (top 83) .none (.str "law_glazebench_k23_whole_tree_or_room" 941) 646)::(nat_lit 651,cp "_law_is_room" "_law_is_room" 1091 1092 1093 435 2 648 181 649 .none .none (.ref 650) 1094 435 1095)::(nat_lit 652,fo "_law_is_room" "_law_is_room" (top 84) .none (.str "law_glazebench_k23_whole_tree_or_room" 941) 651)::(nat_lit 658,co "_law_asked" "_law_asked" 1097 1098 1099 446 1 653 181 654 655 656 657 1104 446 1105)::(nat_lit 659,fo "_law_asked" "_law_asked" (top 85) .none (.str "law_glazebench_k23_whole_tree_or_room" 941) 658)::(nat_lit 665,co "law" "law" 1107 1108 1109 454 1 660 181 661 662 663 664 1119 454 1120)::(nat_lit 666,fo "law" "law" (top 86) .none (.str "law_glazebench_k23_whole_tree_or_room" 941) 665)::(nat_lit 4,⟨(.type "module"),(some 0),.plain,#[]⟩)::[]
noncomputable def kas:List Addr:=nat_lit 2::nat_lit 3::nat_lit 20::nat_lit 21::nat_lit 30::nat_lit 31::nat_lit 32::nat_lit 47::nat_lit 48::nat_lit 50::nat_lit 51::nat_lit 66::nat_lit 67::nat_lit 69::nat_lit 70::nat_lit 85::nat_lit 86::nat_lit 88::nat_lit 89::nat_lit 104::nat_lit 105::nat_lit 107::nat_lit 108::nat_lit 123::nat_lit 124::nat_lit 126::nat_lit 127::nat_lit 142::nat_lit 143::nat_lit 145::nat_lit 146::nat_lit 161::nat_lit 162::nat_lit 164::nat_lit 165::nat_lit 173::nat_lit 174::nat_lit 180::nat_lit 181::nat_lit 185::nat_lit 186::nat_lit 192::nat_lit 193::nat_lit 199::nat_lit 200::nat_lit 206::nat_lit 207::nat_lit 213::nat_lit 214::nat_lit 220::nat_lit 221::nat_lit 227::nat_lit 228::nat_lit 239::nat_lit 240::nat_lit 246::nat_lit 247::nat_lit 253::nat_lit 254::nat_lit 260::nat_lit 261::nat_lit 263::nat_lit 264::nat_lit 265::nat_lit 266::nat_lit 274::nat_lit 275::nat_lit 279::nat_lit 280::nat_lit 286::nat_lit 287::nat_lit 291::nat_lit 292::nat_lit 298::nat_lit 299::nat_lit 303::nat_lit 304::nat_lit 308::nat_lit 309::nat_lit 320::nat_lit 321::nat_lit 327::nat_lit 328::nat_lit 334::nat_lit 335::nat_lit 341::nat_lit 342::nat_lit 348::nat_lit 349::nat_lit 351::nat_lit 352::nat_lit 353::nat_lit 354::nat_lit 364::nat_lit 370::nat_lit 371::nat_lit 373::nat_lit 374::nat_lit 389::nat_lit 390::nat_lit 392::nat_lit 393::nat_lit 408::nat_lit 409::nat_lit 411::nat_lit 412::nat_lit 420::nat_lit 421::nat_lit 427::nat_lit 428::nat_lit 434::nat_lit 435::nat_lit 441::nat_lit 442::nat_lit 448::nat_lit 449::nat_lit 455::nat_lit 456::nat_lit 462::nat_lit 463::nat_lit 469::nat_lit 470::nat_lit 476::nat_lit 477::nat_lit 481::nat_lit 482::nat_lit 486::nat_lit 487::nat_lit 493::nat_lit 494::nat_lit 498::nat_lit 499::nat_lit 505::nat_lit 506::nat_lit 512::nat_lit 513::nat_lit 517::nat_lit 518::nat_lit 522::nat_lit 523::nat_lit 529::nat_lit 530::nat_lit 534::nat_lit 535::nat_lit 541::nat_lit 542::nat_lit 548::nat_lit 549::nat_lit 553::nat_lit 554::nat_lit 558::nat_lit 559::nat_lit 565::nat_lit 566::nat_lit 572::nat_lit 573::nat_lit 579::nat_lit 580::nat_lit 584::nat_lit 585::nat_lit 591::nat_lit 592::nat_lit 598::nat_lit 599::nat_lit 605::nat_lit 606::nat_lit 610::nat_lit 611::nat_lit 617::nat_lit 618::nat_lit 622::nat_lit 623::nat_lit 627::nat_lit 628::nat_lit 634::nat_lit 635::nat_lit 639::nat_lit 640::nat_lit 646::nat_lit 647::nat_lit 651::nat_lit 652::nat_lit 658::nat_lit 659::nat_lit 665::nat_lit 666::nat_lit 4::[]
noncomputable def keeps:List Nat:=0::2::3::4::5::6::7::8::9::11::12::13::14::15::16::17::18::19::20::21::22::24::25::26::27::28::29::30::31::32::34::35::36::37::38::39::40::41::42::43::44::45::46::47::48::50::51::52::53::54::55::56::57::58::59::61::62::63::64::65::66::67::68::70::71::72::73::74::75::76::77::78::79::80::81::82::83::84::85::86::[]
noncomputable def lo:LSz:=["Whole"]
noncomputable def Ts:List Addr:=nat_lit 525::[]
theorem prep(h:PySem.Challenge.rw_glazebench_k23_whole_tree_or_room.row.wellSaid=true->PySem.Challenge.rw_glazebench_k23_whole_tree_or_room.row.Holds):PySem.Challenge.rw_glazebench_k23_whole_tree_or_room.Holds:=by
 w_on
 o_law
 exact h (by assumption)
noncomputable def qv(p:Program):Program:=view p keeps
noncomputable def Xp(p:Program)(s:Shared):Bool:=xlAt (qv p) [] s&&recOk (RowW.records (OpenRow.toRowW PySem.Challenge.rw_glazebench_k23_whole_tree_or_room.row)) s
theorem kas_is(P:Params):kas=(KK P).map (λ x=>x.1):=by kernel_rfl
theorem Ud:opening PySem.Challenge.pw_glazebench_k23_whole_tree_or_room=plainProg PySem.Challenge.pw_glazebench_k23_whole_tree_or_room.main.scope.names:=by kernel_rfl
theorem Ql(s:Shared):fenceModules? PySem.Challenge.pw_glazebench_k23_whole_tree_or_room s=some s:=by kernel_rfl
theorem RJ(w:World):((boot_heap w.params).isNs mainGlobals,(boot_heap w.params).objs.size,(boot_heap w.params).nsMap mainGlobals "__annotations__")=(true,11,(some (.ref 6))):=by kernel_rfl
theorem UY:U4 10504 11 (some (.ref 6)) Fast.te10156331382660048174 Fast.te11892475500146522536 Fast.te14364793385576792824 Fast.te5923862056798008813 Fast.te4187177175401517315 Fast.te6208297655108656995:=λ w os=>by kernel_rfl
theorem TU:Ig 10504 11 (some (.ref 6)) qv lo Xp (λ x=>x.1) (expectedOf) Fast.te10156331382660048174 Fast.te11892475500146522536 Fast.te14364793385576792824 Fast.te5923862056798008813 Fast.te4187177175401517315 Fast.te6208297655108656995:=λ w os=>by kernel_rfl
theorem TR:Ig 10504 11 (some (.ref 6)) qv lo Xp (λ x=>(x.2.1,x.2.2.1)) (λ_=>(bltViewBooted,true)) Fast.te10156331382660048174 Fast.te11892475500146522536 Fast.te14364793385576792824 Fast.te5923862056798008813 Fast.te4187177175401517315 Fast.te6208297655108656995:=λ w os=>by kernel_rfl
theorem TQ:Ig 10504 11 (some (.ref 6)) qv lo Xp (λ x=>(x.2.2.2.1,x.2.2.2.2.1)) (λ q=>(true,pinGoodD (drecsOf q))) Fast.te10156331382660048174 Fast.te11892475500146522536 Fast.te14364793385576792824 Fast.te5923862056798008813 Fast.te4187177175401517315 Fast.te6208297655108656995:=λ w os=>by kernel_rfl
theorem TN:Ig 10504 11 (some (.ref 6)) qv lo Xp (λ x=>(x.2.2.2.2.2.1,x.2.2.2.2.2.2.1)) (λ q=>(plainGoodE q (looseW q lo),plainGoodD q lo)) Fast.te10156331382660048174 Fast.te11892475500146522536 Fast.te14364793385576792824 Fast.te5923862056798008813 Fast.te4187177175401517315 Fast.te6208297655108656995:=λ w os=>by kernel_rfl
theorem TM:Ig 10504 11 (some (.ref 6)) qv lo Xp (λ x=>x.2.2.2.2.2.2.2) (λ q=>(wideGood q,clsGoodW q lo)) Fast.te10156331382660048174 Fast.te11892475500146522536 Fast.te14364793385576792824 Fast.te5923862056798008813 Fast.te4187177175401517315 Fast.te6208297655108656995:=λ w os=>by kernel_rfl
theorem UX:RunB 10504 11 (some (.ref 6)) qv lo Xp Fast.te10156331382660048174 Fast.te11892475500146522536 Fast.te14364793385576792824 Fast.te5923862056798008813 Fast.te4187177175401517315 Fast.te6208297655108656995:=RunB.of5 TU TR TQ TN TM
theorem UW:U3 10504 11 (some (.ref 6)) (hookT (kHook KK kas kas_is) Ts).obs (hookT (kHook KK kas kas_is) Ts).val Fast.te10156331382660048174 Fast.te11892475500146522536 Fast.te14364793385576792824 Fast.te5923862056798008813 Fast.te4187177175401517315 Fast.te6208297655108656995:=λ w os=>by kernel_rfl
theorem ran:∀(w:World)(os:OsState),Option.map (ID openSeen (importedModules PySem.Challenge.pw_glazebench_k23_whole_tree_or_room.main.body) PySem.Challenge.pw_glazebench_k23_whole_tree_or_room (qv PySem.Challenge.pw_glazebench_k23_whole_tree_or_room) lo (Xp PySem.Challenge.pw_glazebench_k23_whole_tree_or_room) (hookT (kHook KK kas kas_is) Ts).obs (boot_heap w.params)) (topRun treeTable PySem.Challenge.pw_glazebench_k23_whole_tree_or_room w 11 (some (.ref 6)) 10504 (Eg w.params os) (topStub PySem.Challenge.pw_glazebench_k23_whole_tree_or_room))=some (true,openGood (qv PySem.Challenge.pw_glazebench_k23_whole_tree_or_room) lo,(hookT (kHook KK kas kas_is) Ts).val w):=QY UY UX UW
theorem left:LeftO PySem.Challenge.pw_glazebench_k23_whole_tree_or_room (qv PySem.Challenge.pw_glazebench_k23_whole_tree_or_room) lo (Xp PySem.Challenge.pw_glazebench_k23_whole_tree_or_room) (hookT (kHook KK kas kas_is) Ts).obs (hookT (kHook KK kas kas_is) Ts).val 10504:=O5 (boot_open Ud (by decide) Ql) RJ ran
end KH
namespace L2
open PySem.W
open PySem PySem.Spec PyProof.Rows
def PV:Option NameKind->Bool
 |some .cell=>true
 |some .free=>true
 |_=>false
theorem N8{o:Option NameKind}(h:PV o=true):o=some .cell\/o=some .free:=by
 match o,h with
 |some .cell,_=>exact .inl rfl
 |some .free,_=>exact .inr rfl
theorem EJ(env:Env):∀(l:List (Str×NameKind))(acc:List (Str×Addr)),(∀y∈l,y.2=.free->∃c,env.cells.lookup y.1=some c) ->
  (∀x c,acc.lookup x=some c->env.cells.lookup x=some c) ->
  ∃cl,(forIn l acc (λ(x:Str×NameKind)(r:List (Str×Addr))=>if (x.2==.free)=true then (cellOf env x.1 >>= λ c=>pure (ForInStep.yield ((x.1,c)::r))) else pure (ForInStep.yield r)):Sem (List (Str×Addr)))=pure cl /\
   (∀x c,cl.lookup x=some c->env.cells.lookup x=some c)/\(∀x,((∃c,acc.lookup x=some c)\/(x,NameKind.free)∈l)->∃c,cl.lookup x=some c)
 |[],acc,_,ha=>⟨acc,by rfl,ha,λ x h=>h.elim id λ z=>nomatch z⟩
 | (n,k)::l,acc,hl,ha=>by
  have hl':∀y∈l,y.2=.free->∃c,env.cells.lookup y.1=some c:=λ y hy=>hl y (aJ _ hy);by_cases hk:k=.free
  .subst hk;obtain⟨c,hc⟩:=hl (n,.free) aD rfl;have hc':env.cells.lookup n=some c:=hc;have look:∀x,((n,c)::acc).lookup x=if x=n then some c else acc.lookup x:=λ x=>by
    rw[aX];by_cases e:x=n
    .subst e;simp
    .rw[if_neg e,show(x==n)=false by simpa using e]
   have ha':∀x d,((n,c)::acc).lookup x=some d->env.cells.lookup x=some d:=λ x d e=>by
    rw[look]at e;split at e
    .rename_i q;subst q;rw[hc'];exact e
    .exact ha x d e
   obtain⟨cl,e,h1,h2⟩:=EJ env l ((n,c)::acc) hl' ha';refine⟨cl,?_,h1,λ x h=>h2 x ?_⟩
   .rw[<-e,dU];have ec:cellOf env n=pure c:=by unfold cellOf;rw[hc']
    show((cellOf env n >>= λ c=>pure (ForInStep.yield ((n,c)::acc))) >>= _:Sem (List (Str×Addr)))=_;rw[ec];rfl
   .rcases h with ⟨d,q⟩|h
    .left
     rw[look];by_cases z:x=n
     .exact⟨c,by rw[if_pos z]⟩
     .exact⟨d,by rw[if_neg z];exact q⟩
    .rcases aO.mp h with z|z
     .left
      rw[look];exact⟨c,by rw[if_pos (congrArg eS z)]⟩
     .exact .inr z
  .obtain⟨cl,e,h1,h2⟩:=EJ env l acc hl' ha;refine⟨cl,?_,h1,λ x h=>h2 x ?_⟩
   .rw[<-e,dU];have hb:(k==NameKind.free)=false:=by simpa using hk
    show((if (k==NameKind.free)=true then _ else pure (ForInStep.yield acc)) >>= _:Sem (List (Str×Addr)))=_;rw[hb];rfl
   .rcases h with h|h
    .exact .inl h
    .rcases aO.mp h with z|z
     .exact absurd (congrArg Prod.snd z).symm hk
     .exact .inr z
theorem MF{scope:Scope}{env:Env}(h:∀y∈scope.names,y.2=.free->∃c,env.cells.lookup y.1=some c) :
  ∃cl,closureFor scope env=pure cl/\(∀x c,cl.lookup x=some c->env.cells.lookup x=some c)/\(∀x,(x,NameKind.free)∈scope.names->∃c,cl.lookup x=some c):=by
 obtain⟨cl,e,h1,h2⟩:=EJ env scope.names [] h (λ x c e=>by simp at e);refine⟨cl,?_,h1,λ x hx=>h2 x (.inr hx)⟩;have e2:closureFor scope env=(forIn scope.names [] (λ(x:Str×NameKind)(r:List (Str×Addr))=>if (x.2==.free)=true then (cellOf env x.1 >>= λ c=>pure (ForInStep.yield ((x.1,c)::r))) else pure (ForInStep.yield r)) >>= λ r=>pure r:Sem (List (Str×Addr))):=by
  rfl
 rw[e2,e];rfl
abbrev AO(X:Cx)(scope:Scope)(cl:List (Str×Addr))(N:LSz)(C:Addr)(s:Shared)(H:Hp)(ex:List Addr):Cx :=
 { X with N:=N,s₀:=s,H₀:=H,env:=compEnvC scope cl C X.env,outer:=X.stack,ex:=ex,fn:=λ_=>false,pn:=[],xe:=λ_ _=>False }
def Er(osc:Scope)(oN:LSz)(sc:Scope)(N:LSz)(fr:List (Option Nat)):Bool :=
 decide (sc.kind=.function)&&sc.names.all (λ y=>decide (y.2≠.cell))&&sc.names.all (λ y=>decide (y.2≠.free)||PV (osc.names.lookup y.1)) &&
 sc.names.all (λ y=>decide (y.2≠.local)||decide (sc.names.lookup y.1=some .local)) &&
 (N.zip fr).all (λ y=>match y.2 with
  |none=>true
  |some i=>decide (oN[i]?=some y.1)&&PV (osc.names.lookup y.1)&&decide (sc.names.lookup y.1=some .free))&&decide (N.length=fr.length)
structure Fq(osc:Scope)(oN:LSz)(sc:Scope)(N:LSz)(fr:List (Option Nat)):Prop where
 kind:sc.kind=.function
 nocell:∀y∈sc.names,y.2≠.cell
 free:∀y∈sc.names,y.2=.free->PV (osc.names.lookup y.1)=true
 loc:∀y∈sc.names,y.2=.local->sc.names.lookup y.1=some .local
 slots:∀(j:Nat)(x:Str)(i:Nat),N[j]?=some x->fr[j]?=some (some i)->oN[i]?=some x/\PV (osc.names.lookup x)=true/\sc.names.lookup x=some .free
 len:N.length=fr.length
theorem DK{osc:Scope}{oN:LSz}{sc:Scope}{N:LSz}{fr:List (Option Nat)}(h:Er osc oN sc N fr=true):Fq osc oN sc N fr:=by
 unfold Er at h;simp only[aK,bC,decide_eq_true_eq,bO]at h;obtain⟨⟨⟨⟨⟨h1,h2⟩,h3⟩,h4⟩,h5⟩,h6⟩:=h;refine⟨h1,h2,λ y hy e=>(h3 y hy).resolve_left λ z=>z e,λ y hy e=>(h4 y hy).resolve_left λ z=>z e,λ j x i e1 e2=>?_,h6⟩;have hm:(x,some i)∈N.zip fr:=by
  have:(N.zip fr)[j]?=some (x,some i):=by rw[List.getElem?_zip_eq_some];exact⟨e1,e2⟩
  exact ao this
 have:=h5 _ hm;simp only[aK,decide_eq_true_eq]at this;exact⟨this.1.1,this.1.2,this.2⟩
def stC(fr:List (Option Nat))(σ:St):St:=fr.map λ o=>o.bind λ i=>(σ[i]?).join
def Pg(wi:TI)(g:TG)(te:TE)(fr:List (Option Nat)):TE:=λ σ H Q=>wi σ H λ J H1=>∀acc,H1 acc=none->∃W:Nat->Nat->St->Hp->Prop,(∃m,W 0 m (stC fr σ) (upd H1 acc (.lst [])))/\∀i m σ1 H2,W i m σ1 H2 ->
 (J.stop i H2/\Q (.ref acc) H2)\/(J.go i H2/\∀x H3,J.yld i H2 x H3->g x σ1 H3 λ σ4 H4=>te σ4 H4 λ v H5=>∃xs,H5 acc=some (.lst xs)/\xs.length<sizeLine/\∃m',m'<m/\W (i+1) m' σ4 (upd H5 acc (.lst (xs++[v]))))
section
variable{prog:Program}{w:World}{A:Around}{R:Result->Shared->Prop}{s:Shared}
theorem Kh{elt target iter:Expr}{scope:Scope}{pos:Pos}{it acc:Value}{env:Env}(I:Nat->Shared->Prop)
    (turn:∀n s,I n s->wpAny (model prog w) A (pyNext it) (λ r s₁=>match r with
      |none=>R (.ok .next) s₁
      |some v=>wpAny (model prog w) A (letOwnedTupleGo target it v) (λ_ s₁=>wpAny (model prog w) A (assign target env v) (λ_ s₂=>wpAny (model prog w) A (eval elt env) (λ x s₃ =>
          wpAny (model prog w) A (call (.builtin "list.append") [acc,x]) (λ_ s₄=>∃m,m<n/\I m s₄) (notedBy (model prog w) A env λ e s'=>R (.error e) s') s₃)
          (notedBy (model prog w) A env λ e s'=>R (.error e) s') s₂) (notedBy (model prog w) A env λ e s'=>R (.error e) s') s₁) (notedBy (model prog w) A env λ e s'=>R (.error e) s') s₁) (notedBy (model prog w) A env λ e s'=>R (.error e) s') s)
    (n:Nat) (h:I n s) :
    codeAny (model prog w) A (.compLoop (.ListComp elt [⟨target,iter,[],0⟩] scope pos) 0 it acc env) R s:=by
  refine codeAny_loop rfl I (λ n s hI=>?_) n h;show wpAny _ _ ((compTurn (.ListComp elt [⟨target,iter,[],0⟩] scope pos) 0 it acc env).onRaise (λ x=>do noteFrame x env;theTreesLotGoes x)) _ _ s;refine wpAny_noted ?_;rw[compTurn_list1];refine wpAny_bind (wpAny_standAt (wpAny_bind (wpAny_mono (turn n s hI) (λ r s₁ h₁=>?_) λ_ _ h'=>h')));cases r with
  |none=>exact wpAny_pure h₁
  |some v =>
    refine wpAny_bind (wpAny_mono h₁ (λ_ s₁ h₁=>?_) λ_ _ h'=>h');exact wpAny_bind (wpAny_mono h₁ (λ_ s₂ h₂=>wpAny_bind (wpAny_bind (wpAny_mono h₂ (λ x s₃ h₃=>wpAny_bind (wpAny_mono h₃
      (λ_ s₄ h₄=>wpAny_pure (wpAny_pure ⟨rfl,h₄⟩)) λ_ _ h'=>h')) λ_ _ h'=>h'))) λ_ _ h'=>h')
end
theorem B1{α:Type}{M:Model}{A:Around}{t:Sem α}{Q:α->Shared->Prop}{E:VPz}{s:Shared}(h:wpAny M A t Q (λ_ _=>False) s):wpAny M A t Q E s :=
 wpAny_mono h (λ_ _ q=>q) λ_ _ z=>z.elim
theorem Mq{scope:Scope}{env:Env}(hc:∀y∈scope.names,y.2≠.cell){x:Str}(h:(relabel scope env).names.lookup x=some .cell\/(relabel scope env).names.lookup x=some .free):(x,NameKind.free)∈scope.names:=by
 have key:∀(l:List (Str×NameKind)),(∀y∈l,y.2≠.cell)->((l.map λ(n,k)=>if (k==NameKind.free&&env.scope.kind==.function&&env.kindOf n==some .cell) then (n,NameKind.cell) else (n,k)).lookup x=some .cell \/
   (l.map λ(n,k)=>if (k==NameKind.free&&env.scope.kind==.function&&env.kindOf n==some .cell) then (n,NameKind.cell) else (n,k)).lookup x=some .free)->(x,NameKind.free)∈l:=by
  intro l
  induction l with
  |nil=>intro _ h;simp at h
  |cons y r ih =>
   obtain⟨n,k⟩:=y;intro hc h;have hr:∀y∈r,y.2≠.cell:=λ y hy=>hc y (aJ _ hy);have hk:k≠.cell:=hc (n,k) aD;rw[aS]at h;by_cases hxn:x=n
   .subst hxn;have hkf:k=.free:=by
     by_cases hb:(k==NameKind.free&&env.scope.kind==.function&&env.kindOf x==some .cell)=true
     .simp only[aK,beq_iff_eq]at hb;exact hb.1.1
     .simp only[hb,if_neg,aW,if_false]at h;simp only[aX,beq_self_eq_true]at h;rcases h with h|h
      .exact absurd (Option.some.inj h) hk
      .exact Option.some.inj h
    rw[hkf];exact aD
   .have hb:(x==n)=false:=by simpa using hxn
    refine aJ _ (ih hr ?_);by_cases hq:(k==NameKind.free&&env.scope.kind==.function&&env.kindOf n==some .cell)=true
    .simp only[hq,if_true,aX,hb]at h;exact h
    .simp only[hq,aW,if_false,aX,hb]at h;exact h
 exact key scope.names hc h
theorem EX{env:Env}{x:Str}:∀{l:List (Str×NameKind)},l.lookup x=some .free ->
  ((l.map λ(n,k)=>if (k==NameKind.free&&env.scope.kind==.function&&env.kindOf n==some .cell) then (n,NameKind.cell) else (n,k)).lookup x=some .cell \/
   (l.map λ(n,k)=>if (k==NameKind.free&&env.scope.kind==.function&&env.kindOf n==some .cell) then (n,NameKind.cell) else (n,k)).lookup x=some .free)
 |[],h=>by simp at h
 | (n,k)::r,h=>by
  rw[aS];by_cases hxn:x=n
  .subst hxn;simp only[aX,beq_self_eq_true]at h;have hk:=Option.some.inj h;subst hk;by_cases hq:(NameKind.free==NameKind.free&&env.scope.kind==.function&&env.kindOf x==some .cell)=true
   .left
    show List.lookup x ((if (NameKind.free==NameKind.free&&env.scope.kind==.function&&env.kindOf x==some .cell)=true then (x,NameKind.cell) else (x,NameKind.free))::_)=_;rw[if_pos hq,aX,beq_self_eq_true]
   .right
    show List.lookup x ((if (NameKind.free==NameKind.free&&env.scope.kind==.function&&env.kindOf x==some .cell)=true then (x,NameKind.cell) else (x,NameKind.free))::_)=_;rw[if_neg hq,aX,beq_self_eq_true]
  .have hb:(x==n)=false:=by simpa using hxn
   simp only[aX,hb]at h;have ih:=EX (env:=env) h;by_cases hq:(k==NameKind.free&&env.scope.kind==.function&&env.kindOf n==some .cell)=true
   .simp only[hq,if_true,aX,hb];exact ih
   .simp only[hq,aW,if_false,aX,hb];exact ih
theorem Lk{x:Str}{k:NameKind}:∀{l:List (Str×NameKind)},l.lookup x=some k->(x,k)∈l
 |[],h=>by simp at h
 | (n,j)::r,h=>by
  by_cases e:x=n
  .subst e;simp only[aX,beq_self_eq_true]at h;rw[<-Option.some.inj h];exact aD
  .have hb:(x==n)=false:=by simpa using e
   simp only[aX,hb]at h;exact aJ _ (Lk h)
section
variable{X:Cx}{elt tg iter:Expr}{scope:Scope}{pos:Pos}{wi:TI}{g:TG}{te:TE}{N:LSz}{fr:List (Option Nat)}
theorem Hr{pins:PNz}{σ:St}{H:Hp}{s s1:Shared}{cl:List (Str×Addr)}{ex:List Addr}{C:Addr}{m:MGz}(I:Inv X pins σ H s)(ck:Fq X.env.scope X.N scope N fr)
    (c1:∀x c,cl.lookup x=some c->X.env.cells.lookup x=some c) (c2:∀x,(x,NameKind.free)∈scope.names->∃c,cl.lookup x=some c) (hex:∀b∈ex,EL X pins H b/\b<s.heap.objs.size) (hC:s.heap.objs.size<=C)
    (hn:s1.heap.Ns C m) (k:∀b o,s.heap.get? b=some o->s1.heap.get? b=some o) (ho:s1.os=s.os) (hg:s1.gens=s.gens) :
    Inv (AO X scope cl N C s H ex) [] (stC fr σ) H s1:=by
  have lt_ne:∀{b:Addr}{o:Obj},s.heap.get? b=some o->b≠C:=λ e=>aM (aQ (aA e) hC);have ok:(AO X scope cl N C s H ex).Ok :=
    { mod:=I.ok.mod
      kind:=ck.kind
      glob:=I.ok.glob
      blt:=I.ok.blt
      above:=hC
      inj:=λ x y c e1 e2=>I.ok.inj x y c (c1 x c e1) (c1 y c e2)
      has:=λ x h=>c2 x (Mq ck.nocell h)
      cab:=λ x c z=>by cases z
      hd:=I.ok.hd
      frames:=I.ok.frames
      stk:=.inl rfl
      exf:=λ b hb=>⟨aM (aQ (hex b hb).2 hC),λ x c e=>(hex b hb).1.2.2.2.2.1 x c (c1 x c e)⟩
      bs:=I.bs
      bsz:=ba I.ok.bsz I.sz
      noex:=λ b o e hb=>by
        rcases(hex b hb).1.2.2.2.1 with z|z
        · exact I.ok.noex b o e z
        · exact absurd (aQ (aA e) (ba I.ok.bsz z)) (bA _)
      exfs:=λ b hb hz=>by
        rcases aO.mp (I.stkSub b hz) with z|z
        · exact(hex b hb).1.2.1 z
        · exact(hex b hb).1.2.2.1 z
      funs:=I.stack
      frf:=I.stkFree }
  refine⟨ok,ho,by rw[hg];exact I.bare,Un.kept k,⟨m,hn,λ j x v e1 e2 e3=>?_⟩,λ x c e=>?_,I.hok.fresh hC,λ x c e=>I.freeC x c (c1 x c e),λ p hp=>by simp at hp,I.hok.kept k,?_⟩
  · have e1':N[j]?=some x:=e1
    unfold stC at e2;rw[aB]at e2;cases q:fr[j]? with
    |none=>rw[q]at e2;cases e2
    |some o =>
      rw[q]at e2;cases o with
      |none =>
        have:(none:Option V)=some v:=Option.some.inj e2;cases this
      |some i =>
        have e2':(σ[i]?).join=some v:=Option.some.inj e2;obtain⟨s1',s2',s3'⟩:=ck.slots j x i e1' q;have hσ:σ[i]?=some (some v):=by
          cases z:σ[i]? with
          |none=>rw[z]at e2';cases e2'
          |some y=>rw[z]at e2';exact congrArg some e2'
        have hcf:=N8 s2';obtain⟨m0,hn0,hl⟩:=I.loc;obtain⟨u,r,lk⟩:=hl i x v s1' hσ (cK hcf);refine⟨u,r,cK ⟨EX s3',?_⟩⟩;obtain⟨c,hc⟩:=c2 x (Lk s3');refine⟨c,hc,?_⟩;rcases lk with ⟨z,_⟩|⟨_,c',hc',hv⟩
        · rcases hcf with y|y
          · have z':X.env.scope.names.lookup x=some .local:=z
            rw[y]at z';cases z'
          · have z':X.env.scope.names.lookup x=some .local:=z
            rw[y]at z';cases z'
        · have:=c1 x c hc
          rw[hc']at this;cases this;exact hv.keeps k
  · obtain⟨v,z⟩:=I.cell x c (c1 x c e)
    exact⟨v,z.keeps k⟩
  · unfold stC
    rw[aa];exact ck.len.symm
theorem IM{pins:PNz}{σ:St}{H:Hp}{s:Shared}{Q:VK}{cl:List (Str×Addr)}{R:Value->Addr->Result->Shared->Prop}(hc:X.calm=true)(I:Inv X pins σ H s)(hi:PI X tg iter wi)
  (hg:∀cl C s H ex,PG (AO X scope cl N C s H ex) tg g) (he:∀cl C s H ex,PE (AO X scope cl N C s H ex) elt te) (ck:Fq X.env.scope X.N scope N fr)
  (c1:∀x c,cl.lookup x=some c->X.env.cells.lookup x=some c) (c2:∀x,(x,NameKind.free)∈scope.names->∃c,cl.lookup x=some c)
  (h:Pg wi g te fr σ H Q)
  (hR:∀acc C s' H' m,s'.heap.Ns C m->EL X pins H' C->Inv X pins σ H' s'->Q (.ref acc) H'->R (.ref acc) C (.ok .next) s') :
  wpAny (model X.prog X.w) X.A (eval iter X.env) (λ x s₁=>wpAny (model X.prog X.w) X.A (pyIter x) (λ it s₂=>wpAny (model X.prog X.w) X.A (newList []) (λ acc s₃ =>
   wpAny (model X.prog X.w) X.A (newFunctionEnv scope X.env.globals cl [] X.env.qual none .none (some X.env)) (λ cenv s₄ =>
    codeAny (model X.prog X.w) X.A (.compStart (.ListComp elt [⟨tg,iter,[],0⟩] scope pos) 0 it acc { cenv with scope:=relabel scope X.env }) (R acc cenv.locals) s₄) X.xe s₃) X.xe s₂) X.xe s₁) X.xe s:=by
 refine thn (hi pins s σ H _ I h) λ v s1 h1=>thn h1 λ itv s2 h2=>?_;obtain⟨it,fp,tn,J,H2,e,I2,T,st2,f2,q2⟩:=h2;subst e;refine wpAny_newObj_type (wpAny_newFunctionEnv ck.nocell (by intro y hy;simp at hy) (λ h₁ hns₁ hsb₁=>?_) ck.kind);dsimp only at hns₁ hsb₁ |-;have I3:Inv X pins σ (upd H2 s2.heap.objs.size (.lst [])) { s2 with heap:=s2.heap.push { cls:=.type "list",dict:=none,data:=.seq ([]:LWz).toArray } }:=I2.lnew (t':=s2.toks) (its:=[]) .nil (bb _);have acc0:H2 s2.heap.objs.size=none:=I2.fresh;obtain⟨W,⟨m0,w0⟩,turn⟩:=q2 s2.heap.objs.size acc0;generalize hH3:s2.heap.push { cls:=.type "list",dict:=none,data:=.seq ([]:LWz).toArray }=h3 at hns₁ hsb₁ I3 |-;have hz3:h3.objs.size=s2.heap.objs.size+1:=by rw[<-hH3,bU]
 have k23:∀b o,s2.heap.get? b=some o->h3.get? b=some o:=λ b o e=>by rw[<-hH3];exact ag _ e
 have k34:∀b o,h3.get? b=some o->h₁.get? b=some o:=λ b o e=>hsb₁.extBut b o (aM (aA e)) (ag _ e);have fpo:∀b∈fp,∃o,s2.heap.get? b=some o/\∀v,o.data≠.cell v:=T.obj 0 _ st2;have hex:∀b∈fp,EL X pins (upd H2 s2.heap.objs.size (.lst [])) b/\b<h3.objs.size:=λ b hb=>by
  obtain⟨o,eo,_⟩:=fpo b hb;have lt:=aA eo;obtain⟨f0,fr'⟩:=f2 b hb;exact⟨⟨by rw[Ag (aM lt)];exact f0,fr'⟩,by rw[hz3];exact bS lt⟩
 have I4:Inv (AO X scope cl N h3.objs.size { s2 with heap:=h3 } (upd H2 s2.heap.objs.size (.lst [])) fp) [] (stC fr σ) (upd H2 s2.heap.objs.size (.lst [])) { s2 with heap:=h₁,toks:=s2.toks+([]:List (Str×Value)).length } :=
  Hr I3 ck c1 c2 hex (ah _) hns₁ k34 rfl rfl
 have stat:∀{H':Hp},(∀b∈fp,H' b=none)->∀b∈fp,EL (AO X scope cl N h3.objs.size { s2 with heap:=h3 } (upd H2 s2.heap.objs.size (.lst [])) fp) [] H' b:=λ hn b hb =>
  ⟨hn b hb,(I4.ok.exf b hb).1,I4.ok.exfs b hb,.inl hb,(I4.ok.exf b hb).2,λ p hp=>by simp at hp⟩
 have stn:∀i h h',tn i h->(∀b o,h.get? b=some o->h'.get? b=some o)->tn i h':=λ i h h' st kk=>T.keep i h h' st λ b _ o e=>kk b o e;have loop:codeAny (model X.prog X.w) X.A (.compLoop (.ListComp elt [⟨tg,iter,[],0⟩] scope pos) 0 (.ref it) (.ref s2.heap.objs.size) (compEnvC scope cl h3.objs.size X.env)) (R (.ref s2.heap.objs.size) h3.objs.size)
   { s2 with heap:=h₁,toks:=s2.toks+([]:List (Str×Value)).length }:=by
  refine Kh (λ n s'=>∃i σ' H',Inv (AO X scope cl N h3.objs.size { s2 with heap:=h3 } (upd H2 s2.heap.objs.size (.lst [])) fp) [] σ' H' s'/\tn i s'.heap/\(∀b∈fp,H' b=none)/\W i n σ' H') ?_ m0
   ⟨0,_,_,I4,stn _ _ _ st2 λ b o e=>k34 b o (k23 b o e),λ b hb=>(hex b hb).1.1,w0⟩
  rintro n s3 ⟨i,σ3,H3,J3,st3,fr3,w3⟩;rcases turn i n σ3 H3 w3 with ⟨stop,qn⟩|⟨go,step⟩
  .refine B1 (thn (T.done (AO X scope cl N h3.objs.size { s2 with heap:=h3 } (upd H2 s2.heap.objs.size (.lst [])) fp) rfl rfl rfl hc i [] s3 σ3 H3 (λ_ _=>False) J3 (stat fr3) st3 stop) λ r s4 hz_=>?_);obtain⟨hr,J4⟩:=hz_;subst hr;obtain⟨mc,hmc,_⟩:=J4.loc;have I5:Inv X pins σ H3 s4:=I3.call' (ch:=fp) J4.os J4.base J4.hok J4.bare λ b hb=>⟨(hex b hb).1.2.2.2.1,(hex b hb).1.2.1,(hex b hb).1.2.2.2.2.1,(hex b hb).1.2.2.2.2.2⟩;exact hR _ _ s4 H3 mc hmc (I3.fpOk (ah _) J4.free) I5 qn
  .refine B1 (thn (T.item (AO X scope cl N h3.objs.size { s2 with heap:=h3 } (upd H2 s2.heap.objs.size (.lst [])) fp) rfl rfl rfl hc i [] s3 σ3 H3 (λ_ _=>False) J3 (stat fr3) st3 go) λ r s4 hz_=>?_);obtain⟨u,hr,h4⟩:=hz_;subst hr;refine B1 (thn h4 λ_ s5 hz_=>?_);obtain⟨x,H5,J5,r5,y5,st5,fr5⟩:=hz_;have J5':=J5.pinned (stat fr5) (T.obj _ _ st5);refine B1 (thn (hg _ _ _ _ _ _ s5 σ3 H5 x u _ J5' r5 (step x H5 y5)) λ_ s6 hz_=>?_);obtain⟨σ6,H6,J6,q6⟩:=hz_;refine B1 (thn (he _ _ _ _ _ _ s6 σ6 H6 _ J6 q6) λ y s7 hz_=>?_);obtain⟨v7,H7,J7,r7,xs,hx,hz,m',hm',w7⟩:=hz_;refine B1 (thn (F8 _ s7 σ6 H7 (.ref s2.heap.objs.size) [v7] (.ref s2.heap.objs.size) [y] (λ v H8=>H8=upd H7 s2.heap.objs.size (.lst (xs++[v7]))) J7 rfl (.cons r7 .nil) ⟨_,xs,v7,rfl,rfl,hx,hz,rfl⟩) λ_ s8 hz_=>?_);obtain⟨_,H8,J8,_,e8⟩:=hz_;subst e8;refine⟨m',hm',i+1,σ6,_,J8.unpinned,T.keep _ _ _ st5 λ b hb o e=>(J8.pin (b,o) (az _ (az _ (Bh hb e)))).1,λ b hb=>?_,w7⟩;obtain⟨o,e,d⟩:=T.obj _ _ st5 b hb;exact(J8.pin (b,o) (az _ (az _ (Bh hb e)))).2.1
 exact codeAny_compStart_list loop (T.self _ 0 _ _ _ (stn _ _ _ st2 λ b o e=>k34 b o (k23 b o e)) loop)
theorem Gp(I:X.Ok)(ck:Fq X.env.scope X.N scope N fr):∃cl,closureFor scope X.env=pure cl/\(∀x c,cl.lookup x=some c->X.env.cells.lookup x=some c)/\(∀x,(x,NameKind.free)∈scope.names->∃c,cl.lookup x=some c) :=
 MF λ y hy e=>I.has y.1 (N8 (ck.free y hy e))
theorem BO(hc:X.calm=true)(hi:PI X tg iter wi)(hg:∀cl C s H ex,PG (AO X scope cl N C s H ex) tg g)(he:∀cl C s H ex,PE (AO X scope cl N C s H ex) elt te)
  (hk:Er X.env.scope X.N scope N fr=true:=by rfl) (hs:∀x,foldedSetIterable iter X.env x=pure x:=by intro _;rfl):PE X (.ListComp elt [⟨tg,iter,[],0⟩] scope pos) (Pg wi g te fr):=by
 intro pins s σ H Q I h;have ck:=DK hk;obtain⟨cl,e1,c1,c2⟩:=Gp I.ok ck;rw[eval_ListComp];refine wpAny_comprehension_free (use:=none) (Q:=EP X pins σ Q) rfl hs e1 ck.kind ck.loc (IM (R:=λ acc C=>compPost (model X.prog X.w) X.A X.xe none (EP X pins σ Q) acc C) hc I hi hg he ck c1 c2 h λ acc C s' H' m hn f I' q=>?_);obtain⟨f0,f1,f2,f3,f4,f5⟩:=f;exact⟨m,hn,λ h' hs'=>⟨.ref acc,H',I'.turned (t':=s'.toks) (λ b o hb e=>hs'.extBut b o hb e) f0 f1 f3 f4 f5,rfl,q⟩⟩
theorem C8{y:Str}{py spos:Pos}{gy:TG}(hc:X.calm=true)(hy:PG X (.Name y py) gy)(hi:PI X tg iter wi)(hg:∀cl C s H ex,PG (AO X scope cl N C s H ex) tg g)(he:∀cl C s H ex,PE (AO X scope cl N C s H ex) elt te)
    (hk:Er X.env.scope X.N scope N fr=true:=by rfl) (hsw:swapsWith (.ListComp elt [⟨tg,iter,[],0⟩] scope pos) (some (.Name y py)) spos.line X.env=pure true:=by rfl) (hs:∀x,foldedSetIterable iter X.env x=pure x:=by intro _;rfl) :
    PS X (.Assign [.Name y py] (.ListComp elt [⟨tg,iter,[],0⟩] scope pos) spos) (QL (Pg wi g te fr) gy):=by
  intro pins s σ H D I h;have ck:=DK hk;obtain⟨cl,e1,c1,c2⟩:=Gp I.ok ck;rw[exec_Assign_Name_used _ _ _ _ hsw];refine wpAny_bind (wpAny_standAt (wpAny_bind ?_));show wpAny _ X.A (do let _ <-comprehension (.ListComp elt [⟨tg,iter,[],0⟩] scope pos) scope X.env _ (newList []) false (eval iter X.env) (some (assign (.Name y py) X.env))) _ _ s;refine wpAny_bind (wpAny_mono (wpAny_comprehension_free (use:=some (assign (.Name y py) X.env)) (Q:=λ_ s'=>SP X pins D .next s') rfl hs e1 ck.kind ck.loc
    (IM (R:=λ acc C=>compPost (model X.prog X.w) X.A X.xe (some (assign (.Name y py) X.env)) (λ_ s'=>SP X pins D .next s') acc C) hc I hi hg he ck c1 c2 h λ acc C s' H' m hn f I' q=>?_)) (λ_ s' hq=>wpAny_pure (wpAny_pure hq)) λ_ _ e=>e)
  show wpAny _ X.A (assign (.Name y py) X.env (.ref acc)) _ _ _;obtain⟨oC,es,ep,hoC,hdC,hrC⟩:=id hn;have IP:=I'.pinned (fp:=[C]) (λ b hb=>by rw[ad.mp hb];exact f) (λ b hb=>by rw[ad.mp hb];exact⟨oC,hoC,λ v z=>by rw[hdC]at z;cases z⟩);refine thn (hy _ s' σ H' (.ref acc) (.ref acc) _ IP rfl q) λ_ s'' ⟨σ6,H6,I6,q6⟩=>?_;have pC:=I6.pin (C,oC) (az _ (az _ (Bh (ad.mpr rfl) hoC)));obtain⟨f0,f1,f2,f3,f4,f5⟩:=f;exact⟨m,⟨oC,es,ep,pC.1,hdC,hrC⟩,λ h' hs'=>⟨σ6,H6,I6.unpinned.turned (t':=s''.toks) (λ b o hb e=>hs'.extBut b o hb e) pC.2.1 f1 f3 f4 f5,q6⟩⟩
end
section
variable{X:Cx}
def LZ(_ j:Int):Prop:=0<j/\j.natAbs.log2<9000
theorem Fd:OpR X (binaryOp .FloorDiv) (rI LZ λ i j=>.int (i / j)):=opI λ i j _ _ _ _ _ hc q=>by
 have h1:(0:Int)<j:=hc.1;exact floordiv_int (by lia) (by rw[Int.fdiv_eq_ediv_of_nonneg i (by lia)];exact q) (.inl (PyProof.noPylong_of_log2 hc.2))
theorem N2:OpR X (binaryOp .Mult) (rI IntMulOk λ i j=>.int (i*j)):=opI λ_ _ _ _ _ _ _ hc q=>mul_int q hc
theorem EF{n k:Nat}(hk:0<k)(h:n<2^k):n.log2<k:=by
 rcases Nat.eq_zero_or_pos n with h0|hp
 .rw[h0];simpa using hk
 .exact(Nat.log2_lt (eK hp)).mpr h
theorem He{z:Int}{k:Nat}(hk:0<k)(h:z.natAbs<2^k):Builtin.Int.intBits z<=k:=by
 unfold Builtin.Int.intBits;split
 .exact bb _
 .exact EF hk h
theorem Lh{a b:Int}(h1:a.natAbs<2^128)(h2:b.natAbs<2^128):IntMulOk a b:=by
 have e1:=He (by decide) h1;have e2:=He (by decide) h2;unfold IntMulOk Builtin.Int.intTooBig;intro h;simp only[aK,decide_eq_true_eq]at h;have h3:=h.2;have hb:(256:Int)<=(bitsLine:Int):=by decide +kernel
 lia
def tyO:Option HO->Option String
 |some (.lst _)=>some "list"
 |some (.frz _ (.lst _))=>some "list"
 |some (.tup _)=>some "tuple"
 |some (.dK _)=>some "dict"
 |some (.dT _)=>some "dict"
 |_=>none
def tyS(H:Hp):V->Option String
 |.non=>some "NoneType"
 |.bl _=>some "bool"
 |.int _=>some "int"
 |.str _=>some "str"
 |.ref a=>tyO (H a)
 |_=>none
theorem Ss{K:Frag}{H:Hp}{x:V}{T:String}(h:tyS H x=some T):FJ K H x (.type T)/\(T="NoneType"\/T="bool"\/T="int"\/T="str"\/T="list"\/T="tuple"\/T="dict"):=by
 unfold tyS at h;split at h
 .cases h;exact⟨.non,by simp⟩
 .cases h;exact⟨.bl _,by simp⟩
 .cases h;exact⟨.int _,by simp⟩
 .cases h;exact⟨.str _,by simp⟩
 .unfold tyO at h;split at h
  .rename_i e;cases h;exact⟨.lst e,by simp⟩
  .rename_i e;cases h;exact⟨.frz e,by simp⟩
  .rename_i e;cases h;exact⟨.tup e,by simp⟩
  .rename_i e;cases h;exact⟨.dK e,by simp⟩
  .rename_i e;cases h;exact⟨.dT e,by simp⟩
  .cases h
 .cases h
def isB(T c:String):Bool:=decide (T=c)||(decide (T="bool")&&decide (c="int"))
theorem PY:isB "tuple" "tuple"=true:=by decide
theorem Ru{K:Frag}{T c:String}(h:T="NoneType"\/T="bool"\/T="int"\/T="str"\/T="list"\/T="tuple"\/T="dict")(hc:c="int"\/c="bool"\/c="tuple"\/c="list"\/c="str") :
  kitOne K (.type T) (.type c)=some (isB T c):=by
 rcases h with rfl|rfl|rfl|rfl|rfl|rfl|rfl<;>rcases hc with rfl|rfl|rfl|rfl|rfl<;>rfl
inductive Sm(xs:LUz)(H:Hp)(Q:VK):Prop
 |mk (x:V) (T c:String) (e:xs=[x,.ty c]) (t:tyS H x=some T) (h:c="int"\/c="bool"\/c="tuple"\/c="list"\/c="str") (q:Q (.bl (isB T c)) H):Sm xs H Q
theorem Cy:CQ X (.builtin "isinstance") (λ xs H Q=>Sm xs H Q):=by
 intro pins s σ H xs us Q I r h;obtain⟨x,T,c,rfl,hT,hc,q⟩:=h;obtain⟨u,w',rfl,rx,ry⟩:=MT r;cases(show w'=Value.type c from ry);obtain⟨ty,hl⟩:=Ss (K:=X.K) hT;exact IJ I rx ty (Ru hl hc) λ tk=>⟨.bl (isB T c),H,I.tok tk,rfl,q⟩
theorem OO{bs:List Bool}{its:LWz}(r:Vals (bs.map V.bl) its){i:Nat}{v:Value}(h:its.toArray[i]?=some v):v=.bool (bs.getD i false):=by
 have hl:=r.length;have hi:i<its.length:=by
  have:=(bj.mp h).1
  simpa using this
 have hb:bs[i]?=some (bs.getD i false):=by
  have:i<bs.length:=by rw[aa]at hl;lia
  rw[bE,aq this];rfl
 obtain⟨u,hu,ru⟩:=r.get (i:=i) (x:=.bl (bs.getD i false)) (by rw[aB,hb];rfl);have h':its[i]?=some v:=by simpa using h
 rw[h']at hu;cases hu;exact ru
theorem Ou{α:Type}(bs:List Bool):(List.range bs.length).all (λ i=>bs.getD i false)=bs.all id:=by
 have e:(List.range bs.length).map (λ i=>bs.getD i false)=bs:=by
  apply cR;intro i;rw[aB];by_cases h:i<bs.length
  .rw[cz h,aq h,bH,bE,aq h];rfl
  .rw[bq (by simpa using h),bq (by lia)];rfl
 conv=>rhs;rw[<-e]
 rw[eI];rfl
theorem Ot{α:Type}(bs:List Bool):(List.range bs.length).any (λ i=>bs.getD i false)=bs.any id:=by
 have e:(List.range bs.length).map (λ i=>bs.getD i false)=bs:=by
  apply cR;intro i;rw[aB];by_cases h:i<bs.length
  .rw[cz h,aq h,bH,bE,aq h];rfl
  .rw[bq (by simpa using h),bq (by lia)];rfl
 conv=>rhs;rw[<-e]
 rw[eF];rfl
theorem FK{prog:Program}{w:World}{A:Around}{bs:List Bool}{its:LWz}(r:Vals (bs.map V.bl) its):TruthOf prog w A (λ i v=>its.toArray[i]?=some v) (λ i=>bs.getD i false):=by
 intro i v s Q E hv hq;have e:=OO r hv;subst e;exact wpAny_truthy_bool hq
theorem Dt:CQ X (.builtin "all") (λ xs H Q=>∃(p:Addr)(bs:List Bool),xs=[.ref p]/\SqL X.K H p (bs.map V.bl)/\X.calm=true/\Q (.bl (bs.all id)) H):=by
 intro pins s σ H xs us Q I r h;obtain⟨p,bs,rfl,hp,hc,q⟩:=h;obtain⟨u,rfl,ru⟩:=EM r;cases ru;obtain⟨its,rv,pl,hz⟩:=I.list hp;have hl:=rv.length;rw[aa]at hl;refine call_all_walk (wpAny_pyIter_list pl.isList ?_);have hlt:p<s.heap.objs.size:=by obtain⟨o,ho,_⟩:=pl.isList;exact aA ho
 refine⟨s.heap.objs.size,_,_,_,_,_,_,rfl,Walks.list (show X.A.in1.handled=none from I.ok.hd hc) s.heap.objs.size p (aM hlt) its.toArray,⟨⟨_,aR _ rfl,rfl,rfl⟩,let ⟨o,ho,r⟩:=pl.isList;⟨o,ag _ ho,r⟩⟩,FK rv,λ h' tk k=>?_⟩;refine⟨.bl (bs.all id),H,I.kept (t':=tk) λ b o e=>k b o (λ z=>?_) (ag _ e),?_,q⟩
 .have:b=s.heap.objs.size:=by simpa using z
  exact absurd (this ▸ aA e) (bA _)
 .show Value.bool _=Value.bool _;rw[au,<-hl,Ou (α:=Nat)]
theorem Hu:CQ X (.builtin "any") (λ xs H Q=>∃(p:Addr)(bs:List Bool),xs=[.ref p]/\SqL X.K H p (bs.map V.bl)/\X.calm=true/\Q (.bl (bs.any id)) H):=by
 intro pins s σ H xs us Q I r h;obtain⟨p,bs,rfl,hp,hc,q⟩:=h;obtain⟨u,rfl,ru⟩:=EM r;cases ru;obtain⟨its,rv,pl,hz⟩:=I.list hp;have hl:=rv.length;rw[aa]at hl;refine call_any_walk (wpAny_pyIter_list pl.isList ?_);have hlt:p<s.heap.objs.size:=by obtain⟨o,ho,_⟩:=pl.isList;exact aA ho
 refine⟨s.heap.objs.size,_,_,_,_,_,_,rfl,Walks.list (show X.A.in1.handled=none from I.ok.hd hc) s.heap.objs.size p (aM hlt) its.toArray,⟨⟨_,aR _ rfl,rfl,rfl⟩,let ⟨o,ho,r⟩:=pl.isList;⟨o,ag _ ho,r⟩⟩,FK rv,λ h' tk k=>?_⟩;refine⟨.bl (bs.any id),H,I.kept (t':=tk) λ b o e=>k b o (λ z=>?_) (ag _ e),?_,q⟩
 .have:b=s.heap.objs.size:=by simpa using z
  exact absurd (this ▸ aA e) (bA _)
 .show Value.bool _=Value.bool _;rw[au,<-hl,Ot (α:=Nat)]
end
structure A2(P:Program)(w:World)(K:Frag)(mg:MGz)(base:Heap)(k:Nat)(x:Str)(ps:LSz)(sp:Sp):Prop where
 ex:∃(f:Addr)(fd:FuncData),A5 P w K mg base CX0 k f fd ps sp/\mg x=some (.ref f)/\keepIn K (.ref f)=true/\Binds K fd ps []
section
variable{X:Cx}{k j:Nat}{x:Str}{ps:LSz}{sp:Sp}{p pos:Pos}{e:Expr}{es:List Expr}{t:TA}
theorem Aw(D:A2 X.prog X.w X.K X.mg X.base k x ps sp)(hr:Room j X.A)(ha:PA X (e::es) t)(hj:k<=j:=by decide)(hg:Gl X x:=by rfl)(hdb:(x==("__debug__":Str))=false:=by decide)
  (he:starEach (e::es) X.env=(false,eval e X.env)::starEach es X.env:=by rfl) (hpl:(backTo pos (starEach es X.env)).any (·.1)=false:=by rfl):PE X (.Call (.Name x p) (e::es) [] pos) (Pj sp [] E0 t):=by
 obtain⟨f,fd,F,hm,hk,hb⟩:=D.ex;exact Rn F (hr.mono hj) hg hm hk hb .nil GC ha hdb he hpl
end
theorem Ay{xs:LUz}(n:Nat)(h:xs.length=n:=by rfl)(h2:n<=1000:=by decide):xs.length<=sizeLine:=by rw[h];exact aF (Am h2)
theorem Bt{c:Bool}{A B:Prop}(h:c=true)(a:A):if c=true then A else B:=by rw[if_pos h];exact a
theorem AG{c:Bool}{A B:Prop}(h:c=false)(b:B):if c=true then A else B:=by rw[if_neg (by rw[h];exact ae)];exact b
theorem AF{c:Bool}{A B:Prop}(h1:c=true->A)(h2:c=false->B):if c=true then A else B:=by
 cases c with
 |true=>exact PU (h1 rfl)
 |false=>exact Ls (h2 rfl)
theorem decI{i j:Int}:decide (V.int i=V.int j)=true↔i=j:=by
 rw[decide_eq_true_eq];exact⟨λ h=>by injection h,λ h=>by rw[h]⟩
def SameX(p:Addr)(H H':Hp):Prop:=∀b o,b≠p->H b=some o->H' b=some o
theorem SameX.refl{p:Addr}{H:Hp}:SameX p H H:=λ_ _ _ h=>h
theorem SameX.trans{p:Addr}{H H1 H2:Hp}(a:SameX p H H1)(b:SameX p H1 H2):SameX p H H2:=λ c o n h=>b c o n (a c o n h)
theorem SameX.upd{p:Addr}{H:Hp}{o:HO}:SameX p H (upd H p o):=λ b u n h=>by rw[Ag n];exact h
theorem SameX.new{p l:Addr}{H:Hp}{o:HO}(h:H l=none):SameX p H (L2.upd H l o):=λ b u _ e=>by rw[Ag (Ae e h)];exact e
theorem Same.new{l:Addr}{H:Hp}{o:HO}(h:H l=none):Same H (L2.upd H l o):=λ b u e=>by rw[Ag (Ae e h)];exact e
theorem Same.x{p:Addr}{H H':Hp}(a:Same H H'):SameX p H H':=λ b o _ e=>a b o e
def cW(acc:Addr)(n:Nat)(Pv:Nat->LUz->St->Hp->Prop)(i m:Nat)(σ:St)(H:Hp):Prop:=i<=n/\m=n-i/\∃xs,xs.length=i/\H acc=some (.lst xs)/\Pv i xs σ H
def cNx(acc:Addr)(n:Nat)(Pv:Nat->LUz->St->Hp->Prop)(i:Nat)(σ:St)(v:V)(H:Hp):Prop:=∃xs,H acc=some (.lst xs)/\xs.length<sizeLine/\∃m',m'<n-i/\cW acc n Pv (i+1) m' σ (upd H acc (.lst (xs++[v])))
theorem cNx.mk{acc:Addr}{n:Nat}{Pv:Nat->LUz->St->Hp->Prop}{i:Nat}{σ:St}{v:V}{H:Hp}{xs:LUz}(hn:n<=sizeLine)(hi:i<n)(hl:xs.length=i)(ha:H acc=some (.lst xs))(hp:Pv (i+1) (xs++[v]) σ (upd H acc (.lst (xs++[v])))) :
  cNx acc n Pv i σ v H:=⟨xs,ha,by lia,n-(i+1),by lia,hi,rfl,xs++[v],by rw[af,hl];rfl,Af,hp⟩
theorem Cb{lo:Int}{n:Nat}{g:TG}{te:TE}{σ:St}{H1:Hp}{acc:Addr}{Qr:Hp->Prop}(Pv:Nat->LUz->St->Hp->Prop)(h0:Pv 0 [] σ (upd H1 acc (.lst [])))
  (hs:∀i xs σ H,i<n->xs.length=i->H acc=some (.lst xs)->Pv i xs σ H->g (.int (lo+i)) σ H λ σ2 H2=>te σ2 H2 λ v H3=>cNx acc n Pv i σ2 v H3)
  (hd:∀xs σ H,xs.length=n->H acc=some (.lst xs)->Pv n xs σ H->Qr H) :
  ∃W:Nat->Nat->St->Hp->Prop,(∃m,W 0 m σ (upd H1 acc (.lst [])))/\∀i m σ1 H2,W i m σ1 H2 ->
   ((Itr lo n).stop i H2/\Qr H2)\/((Itr lo n).go i H2/\∀x H3,(Itr lo n).yld i H2 x H3->g x σ1 H3 λ σ4 H4=>te σ4 H4 λ v H5=>∃xs,H5 acc=some (.lst xs)/\xs.length<sizeLine/\∃m',m'<m/\W (i+1) m' σ4 (upd H5 acc (.lst (xs++[v])))):=by
 refine⟨cW acc n Pv,⟨n,bb _,rfl,[],rfl,Af,h0⟩,?_⟩;rintro i m σ1 H2 ⟨hi,rfl,xs,hl,ha,hp⟩;rcases dc i n with h|h
 .refine .inr ⟨h,?_⟩;rintro x H3 ⟨rfl,rfl⟩;exact hs i xs σ1 H3 h hl ha hp
 .have e:i=n:=ci hi h;subst e;exact .inl ⟨ah _,hd xs σ1 H2 hl ha hp⟩
theorem B6{K:Frag}{a:Addr}{ys:LUz}{g:TG}{te:TE}{σ:St}{H1:Hp}{acc:Addr}{Qr:Hp->Prop}(Pv:Nat->LUz->St->Hp->Prop)(h0:Pv 0 [] σ (upd H1 acc (.lst [])))
  (hq:∀i xs σ H,i<=ys.length->H acc=some (.lst xs)->Pv i xs σ H->SqL K H a ys)
  (hs:∀i x xs σ H,ys[i]?=some x->i<ys.length->xs.length=i->H acc=some (.lst xs)->Pv i xs σ H->g x σ H λ σ2 H2=>te σ2 H2 λ v H3=>cNx acc ys.length Pv i σ2 v H3)
  (hd:∀xs σ H,xs.length=ys.length->H acc=some (.lst xs)->Pv ys.length xs σ H->Qr H) :
  ∃W:Nat->Nat->St->Hp->Prop,(∃m,W 0 m σ (upd H1 acc (.lst [])))/\∀i m σ1 H2,W i m σ1 H2 ->
   ((Itl K a).stop i H2/\Qr H2)\/((Itl K a).go i H2/\∀x H3,(Itl K a).yld i H2 x H3->g x σ1 H3 λ σ4 H4=>te σ4 H4 λ v H5=>∃xs,H5 acc=some (.lst xs)/\xs.length<sizeLine/\∃m',m'<m/\W (i+1) m' σ4 (upd H5 acc (.lst (xs++[v])))):=by
 refine⟨cW acc ys.length Pv,⟨ys.length,bb _,rfl,[],rfl,Af,h0⟩,?_⟩;rintro i m σ1 H2 ⟨hi,rfl,xs,hl,ha,hp⟩;have hsq:=hq i xs σ1 H2 hi ha hp;rcases dc i ys.length with h|h
 .refine .inr ⟨⟨ys,ys[i],hsq,aq h⟩,?_⟩;rintro x H3 ⟨rfl,hx⟩;exact hs i x xs σ1 H3 (hx ys hsq) h hl ha hp
 .have e:i=ys.length:=ci hi h;subst e;exact .inl ⟨⟨ys,hsq,ah _⟩,hd xs σ1 H2 hl ha hp⟩
theorem Qw{K:Frag}{a:Addr}{ys:LUz}{g:TG}{te:TE}{σ:St}{H1:Hp}{acc:Addr}{Qr:Hp->Prop}(Pv:Nat->LUz->St->Hp->Prop)(h0:Pv 0 [] σ (upd H1 acc (.lst [])))
  (hq:∀i xs σ H,i<=ys.length->H acc=some (.lst xs)->Pv i xs σ H->SqT K H a ys)
  (hs:∀i x xs σ H,ys[i]?=some x->i<ys.length->xs.length=i->H acc=some (.lst xs)->Pv i xs σ H->g x σ H λ σ2 H2=>te σ2 H2 λ v H3=>cNx acc ys.length Pv i σ2 v H3)
  (hd:∀xs σ H,xs.length=ys.length->H acc=some (.lst xs)->Pv ys.length xs σ H->Qr H) :
  ∃W:Nat->Nat->St->Hp->Prop,(∃m,W 0 m σ (upd H1 acc (.lst [])))/\∀i m σ1 H2,W i m σ1 H2 ->
   ((Itt K a).stop i H2/\Qr H2)\/((Itt K a).go i H2/\∀x H3,(Itt K a).yld i H2 x H3->g x σ1 H3 λ σ4 H4=>te σ4 H4 λ v H5=>∃xs,H5 acc=some (.lst xs)/\xs.length<sizeLine/\∃m',m'<m/\W (i+1) m' σ4 (upd H5 acc (.lst (xs++[v])))):=by
 refine⟨cW acc ys.length Pv,⟨ys.length,bb _,rfl,[],rfl,Af,h0⟩,?_⟩;rintro i m σ1 H2 ⟨hi,rfl,xs,hl,ha,hp⟩;have hsq:=hq i xs σ1 H2 hi ha hp;rcases dc i ys.length with h|h
 .refine .inr ⟨⟨ys,ys[i],hsq,aq h⟩,?_⟩;rintro x H3 ⟨rfl,hx⟩;exact hs i x xs σ1 H3 (hx ys hsq) h hl ha hp
 .have e:i=ys.length:=ci hi h;subst e;exact .inl ⟨⟨ys,hsq,ah _⟩,hd xs σ1 H2 hl ha hp⟩
section
variable{cmp:Nat->Nat->(Bool->Shared->Prop)->Shared->Prop}{key:Nat->Int}{N:Nat}{s:Shared}
def KP(key:Nat->Int)(p:Array Nat)(i:Nat):Int:=key (p.getD i 0)
def PermN(N:Nat)(p:Array Nat):Prop:=p.toList.Perm (List.range N)
theorem PermN.size{p:Array Nat}(h:PermN N p):p.size=N:=by
 have:=List.Perm.length_eq h;rw[dH]at this
 simpa using this
theorem PermN.lt{p:Array Nat}(h:PermN N p){i:Nat}(hi:i<N):p.getD i 0<N:=by
 have hs:=h.size;have hi':i<p.size:=by lia
 have e:p.getD i 0=p[i]:=by simp[Array.getD,hi']
 rw[e];have hm:p[i]∈p.toList:=by simp
 exact cE.mp ((List.Perm.mem_iff h).mp hm)
theorem PermN.of{p q:Array Nat}(h:PermN N p)(hq:q.Perm p):PermN N q:=(Array.perm_iff_toList_perm.mp hq).trans h
def HD(key:Nat->Int)(p:Array Nat)(k:Nat):Prop:=∀i j,i<=j->j<k->KP key p i<=KP key p j
def MM(key:Nat->Int)(p:Array Nat)(k:Nat):Prop:=∀i j,i<=j->j<k->KP key p j<=KP key p i
theorem Ei{p q:Array Nat}{i j:Nat}(h:p[i]?=q[j]?):KP key p i=KP key q j:=by
 unfold KP;rw[cC,cC,h]
theorem HF{p:Array Nat}{i j:Nat}(hj:j<=p.size)(k:Nat):KP key (kas_rev p i j) k=if i<=k/\k<j then KP key p (i+j-1-k) else KP key p k:=by
 have e:=getElem?_mirror_all (i:=i) hj k;by_cases h:i<=k/\k<j
 .rw[if_pos h]at e |-;exact Ei e
 .rw[if_neg h]at e |-;exact Ei e
theorem IW{p:Array Nat}{src d:Nat}(hs:src<p.size)(hd:d<=src)(k:Nat) :
  KP key (bubble p src d) k=if k=src-d then KP key p src else if src-d<k/\k<=src then KP key p (k-1) else KP key p k:=by
 have e:=getElem?_bubble hs d hd k;by_cases h1:k=src-d
 .rw[if_pos h1]at e |-;exact Ei e
 .rw[if_neg h1]at e |-;by_cases h2:src-d<k/\k<=src
  .rw[if_pos h2]at e |-;exact Ei e
  .rw[if_neg h2]at e |-;exact Ei e
theorem PermN.rev{p:Array Nat}(h:PermN N p)(i j:Nat):PermN N (kas_rev p i j):=h.of (mirror_perm _ _ _ _)
theorem PermN.bub{p:Array Nat}(h:PermN N p)(i j:Nat):PermN N (bubble p i j):=h.of (bubble_perm _ _ _)
theorem QO{p:Array Nat}{n:Nat}(h:HD key p n)(hn:1<=n)(hc:KP key p (n-1)<=KP key p n):HD key p (n+1):=λ i j hij hj=>by
 by_cases e:j=n
 .subst e;by_cases e2:i=j
  .subst e2;exact aE _
  .exact eQ (h i (j-1) (by lia) (by lia)) hc
 .exact h i j hij (by lia)
theorem Gh{p:Array Nat}{n:Nat}(h:MM key p n)(hn:1<=n)(hc:KP key p n<=KP key p (n-1)):MM key p (n+1):=λ i j hij hj=>by
 by_cases e:j=n
 .subst e;by_cases e2:i=j
  .subst e2;exact aE _
  .exact eQ hc (h i (j-1) (by lia) (by lia))
 .exact h i j hij (by lia)
variable(hcmp:∀i j (C:Bool->Shared->Prop),i<N->j<N->C (decide (key i<key j)) s->cmp i j C s)
include hcmp
theorem MJ{p:Array Nat}(hp:PermN N p){G:Nat->Shared->Prop}:∀(f n:Nat),1<=n->n+f<=N->HD key p n->(∀m,n<=m->m<=n+f->HD key p m->(m<n+f->KP key p m<KP key p (m-1))->G m s)->(kas_asc p f n).kasWp cmp G s
 |0,n,h1,hn,hs,hG=>hG n (ah _) (by lia) hs (λ h=>absurd h (by lia))
 |f+1,n,h1,hn,hs,hG=>by
  show cmp _ _ _ s;refine hcmp _ _ _ (hp.lt (by lia)) (hp.lt (by lia)) ?_;by_cases h:key (p.getD n 0)<key (p.getD (n-1) 0)
  .rw[decide_eq_true h];simp only[if_true];exact hG n (ah _) (by lia) hs λ_=>h
  .rw[decide_eq_false h];simp only[aW,if_false];exact MJ hp f (n+1) (by lia) (by lia) (QO hs h1 (by unfold KP;lia)) λ m a b c d=>hG m (by lia) (by lia) c λ z=>d (by lia)
theorem Kv{p:Array Nat}(hp:PermN N p){n:Nat}(h1:1<=n)(hn:n<=N)(hs:MM key p n){G:Nat×Array Nat->Shared->Prop}(hG:∀m q,1<=m->m<=N->PermN N q->HD key q m->G (m,q) s):(kas_tail3 n N p).kasWp cmp G s:=by
 unfold kas_tail3;rw[KasT.kasWp_bind];have hz:=hp.size;refine MJ hcmp (hp.rev 0 n) (N-n) n h1 (by lia) (λ i j hij hj=>?_) λ m a b c _=>hG m _ (by lia) (by lia) (hp.rev 0 n) c;rw[HF (by lia),HF (by lia),if_pos (by lia),if_pos (by lia)];exact hs _ _ (by lia) (by lia)
theorem Gn{G:Array Nat×Nat×Nat->Shared->Prop}:∀(f:Nat)(p:Array Nat)(n q:Nat),PermN N p->1<=n->n+f<=N->q<n->MM key p n->(∀i,n-1-q<=i->i<n->KP key p i=KP key p (n-1)) ->
  (∀p' m r,PermN N p'->1<=m->m<=N->r<m->MM key p' m->(∀i,m-1-r<=i->i<m->KP key p' i=KP key p' (m-1))->G (p',m,r) s)->(kas_desc f p n q).kasWp cmp G s
 |0,p,n,q,hp,h1,hn,hq,hs,he,hG=>hG p n q hp h1 (by lia) hq hs he
 |f+1,p,n,q,hp,h1,hn,hq,hs,he,hG=>by
  have hz:=hp.size;show cmp _ _ _ s;refine hcmp _ _ _ (hp.lt (by lia)) (hp.lt (by lia)) ?_;by_cases h:key (p.getD n 0)<key (p.getD (n-1) 0)
  .rw[decide_eq_true h];simp only[if_true];have h':KP key p n<KP key p (n-1):=h;have key1:MM key p (n+1):=Gh hs h1 (by lia);by_cases hq0:q>0
   .rw[if_pos hq0];have same:∀k,KP key (kas_rev p (n-(q+1)) n) k=KP key p k:=λ k=>by
     rw[HF (by lia)];split
     .rw[he _ (by lia) (by lia),he k (by lia) (by lia)]
     .rfl
    refine Gn f _ (n+1) 0 (hp.rev _ _) (by lia) (by lia) (by lia) (λ i j hij hj=>?_) (λ i a b=>?_) hG
    .rw[same,same];exact key1 i j hij hj
    .rw[show i=n+1-1 by lia]
   .rw[if_neg hq0];exact Gn f _ (n+1) 0 hp (by lia) (by lia) (by lia) key1 (λ i a b=>by rw[show i=n+1-1 by lia]) hG
  .rw[decide_eq_false h];simp only[aW,if_false];show cmp _ _ _ s;refine hcmp _ _ _ (hp.lt (by lia)) (hp.lt (by lia)) ?_;by_cases h2:key (p.getD (n-1) 0)<key (p.getD n 0)
   .rw[decide_eq_true h2];simp only[if_true];exact hG p n q hp h1 (by lia) hq hs he
   .rw[decide_eq_false h2];simp only[aW,if_false];have e:KP key p n=KP key p (n-1):=by unfold KP;lia
    refine Gn f p (n+1) (q+1) hp (by lia) (by lia) (by lia) (Gh hs h1 (by lia)) (λ i a b=>?_) hG;by_cases hi:i=n
    .subst hi;rfl
    .rw[he i (by lia) (by lia),<-e];rfl
theorem FR{p:Array Nat}(hp:PermN N p){n:Nat}(hn:n+1<=N)(hs:MM key p (n+1)){G:Nat×Array Nat->Shared->Prop}(hG:∀m q,1<=m->m<=N->PermN N q->HD key q m->G (m,q) s):(kas_descPart n N p).kasWp cmp G s:=by
 unfold kas_descPart;rw[KasT.kasWp_bind];refine Gn hcmp (N-(n+1)) p (n+1) 0 hp (by lia) (by lia) (by lia) hs (λ i a b=>by rw[show i=n+1-1 by lia]) λ p' m r hp' h1 hm hr hs' he=>?_;dsimp only;have hz:=hp'.size;split
 .have same:∀k,KP key (kas_rev p' (m-(r+1)) m) k=KP key p' k:=λ k=>by
   rw[HF (by lia)];split
   .rw[he _ (by lia) (by lia),he k (by lia) (by lia)]
   .rfl
  exact Kv hcmp (hp'.rev _ _) h1 hm (λ i j hij hj=>by rw[same,same];exact hs' i j hij hj) hG
 .exact Kv hcmp hp' h1 hm hs' hG
theorem Qu{p:Array Nat}(hp:PermN N p)(h1:1<=N){G:Nat×Array Nat->Shared->Prop}(hG:∀m q,1<=m->m<=N->PermN N q->HD key q m->G (m,q) s):(kas_count N p).kasWp cmp G s:=by
 unfold kas_count;rw[KasT.kasWp_bind];have hz:=hp.size;refine MJ hcmp hp (N-1) 1 (ah _) (by lia) (λ i j hij hj=>by rw[show i=j by lia];exact aE _) λ m a b c d=>?_;split
 .exact hG m p a (by lia) hp c
 .rename_i hne;have hm:m<N:=by
   have:m≠N:=λ e=>hne (by rw[e];exact beq_self_eq_true _);lia
  have hd:=d (by lia);split
  .show cmp _ _ _ s;refine hcmp _ _ _ (hp.lt (by lia)) (hp.lt (by lia)) ?_;by_cases h:key (p.getD 0 0)<key (p.getD (m-1) 0)
   .rw[decide_eq_true h];simp only[if_true];exact hG m p a (by lia) hp c
   .rw[decide_eq_false h];simp only[aW,if_false];have h':KP key p (m-1)<=KP key p 0:=by unfold KP;lia
    have eqs:∀i,i<m->KP key p i=KP key p 0:=λ i hi=>Int.le_antisymm (eQ (c i (m-1) (by lia) (by lia)) h') (c 0 i (by lia) hi);have same:∀k,KP key (kas_rev p 0 m) k=KP key p k:=λ k=>by
     rw[HF (by lia)];split
     .rw[eqs _ (by lia),eqs k (by lia)]
     .rfl
    refine FR hcmp (hp.rev 0 m) (by lia) (Gh (λ i j hij hj=>?_) a ?_) hG
    .rw[same,same,eqs i (by lia),eqs j (by lia)];exact aE _
    .rw[same,same];lia
  .have em:m=1:=by lia
   subst em;exact FR hcmp hp (by lia) (Gh (λ i j hij hj=>by rw[show i=j by lia];exact aE _) (ah _) (by lia)) hG
theorem G7{p:Array Nat}(hp:PermN N p){k:Nat}(hk:k<N)(hs:HD key p k){G:Nat->Shared->Prop}(hG:∀l,l<=k->(∀i,i<l->KP key p i<=KP key p k)->(∀i,l<=i->i<k->KP key p k<KP key p i)->G l s) :
  ∀(f l r:Nat),r-l<=f->l<=r->r<=k->(∀i,i<l->KP key p i<=KP key p k)->(∀i,r<=i->i<k->KP key p k<KP key p i)->(kas_place p k f l r).kasWp cmp G s
 |0,l,r,hf,hlr,hr,ha,hb=>hG l (by lia) ha λ i h1 h2=>hb i (by lia) h2
 |f+1,l,r,hf,hlr,hr,ha,hb=>by
  unfold kas_place;split
  .exact hG l (by lia) ha λ i h1 h2=>hb i (by lia) h2
  .show cmp _ _ _ s;refine hcmp _ _ _ (hp.lt hk) (hp.lt (by lia)) ?_;by_cases h:key (p.getD k 0)<key (p.getD ((l+r) / 2) 0)
   .rw[decide_eq_true h];simp only[if_true];refine G7 hp hk hs hG f l ((l+r) / 2) (by lia) (by lia) (by lia) ha λ i h1 h2=>?_;exact Int.lt_of_lt_of_le h (hs _ i h1 h2)
   .rw[decide_eq_false h];simp only[aW,if_false];refine G7 hp hk hs hG f ((l+r) / 2+1) r (by lia) (by lia) hr (λ i h1=>?_) hb;have h2:=hs i ((l+r) / 2) (by lia) (by lia);have h3:KP key p ((l+r) / 2)<=KP key p k:=by unfold KP;lia
    lia
theorem Q4{G:Array Nat->Shared->Prop}(hG:∀q,PermN N q->HD key q N->G q s):∀(f:Nat)(p:Array Nat)(k:Nat),PermN N p->k+f=N->HD key p k->(kas_bin f p k).kasWp cmp G s
 |0,p,k,hp,hk,hs=>hG p hp (by rw[<-hk];exact hs)
 |f+1,p,k,hp,hk,hs=>by
  unfold kas_bin;rw[KasT.kasWp_bind];have hz:=hp.size;refine G7 hcmp hp (by lia) hs (λ l hl ha hb=>?_) k 0 k (by lia) (by lia) (ah _) (λ i h=>absurd h (by lia)) λ i h1 h2=>absurd h1 (by lia);refine Q4 hG f _ (k+1) (hp.bub _ _) (by lia) λ i j hij hj=>?_;rw[IW (by lia) (by lia),IW (by lia) (by lia),show k-(k-l)=l by lia];by_cases i1:i=l
  .rw[if_pos i1];by_cases j1:j=l
   .rw[if_pos j1];exact aE _
   .rw[if_neg j1,if_pos (by lia)];exact eR (hb _ (by lia) (by lia))
  .rw[if_neg i1];by_cases i2:l<i/\i<=k
   .rw[if_pos i2,if_neg (by lia),if_pos (by lia)];exact hs _ _ (by lia) (by lia)
   .rw[if_neg i2];by_cases j1:j=l
    .rw[if_pos j1];exact ha i (by lia)
    .rw[if_neg j1];by_cases j2:l<j/\j<=k
     .rw[if_pos j2];exact hs _ _ (by lia) (by lia)
     .rw[if_neg j2];exact hs _ _ hij (by lia)
theorem Lq(h1:1<=N){G:Array Nat->Shared->Prop}(hG:∀q:Array Nat,PermN N q->(q.toList.map key).Pairwise (·<=·)->G q s):(kas_sort N).kasWp cmp G s:=by
 have p0:PermN N (List.toArray (List.range N)):=by show List.Perm _ _;simp
 have hG':∀q,PermN N q->HD key q N->G q s:=λ q hq hs=>hG q hq (by
  have hz:=hq.size;rw[bX];intro i j hi hj hij;have hi':i<q.size:=by simpa using hi
  have hj':j<q.size:=by simpa using hj
  have:=hs i j (by lia) (by lia);unfold KP at this;rw[show q.getD i 0=q[i] by simp[Array.getD,hi'],show q.getD j 0=q[j] by simp[Array.getD,hj']]at this
  simpa using this)
 unfold kas_sort;rw[KasT.kasWp_bind];refine Qu hcmp p0 h1 λ m q hm1 hm2 hq hs=>?_;dsimp only;split
 .exact Q4 hcmp hG' _ q _ hq (by lia) (by rw[show max m 1=m by lia];exact hs)
 .exact hG' q hq (by rw[show N=m by lia];exact hs)
end
section
variable{prog:Program}{w:World}{A:Around}{E:VPz}{s:Shared}
def BB(h:Heap)(a:Addr)(vs:LWz):Heap:=((h.update a (Obj.mapSeq λ_=>#[])).push (seqObj "tuple" vs.toArray 0)).push (seqObj "list" #[] 0)
theorem JU{h:Heap}{a b:Addr}{vs:LWz}{o:Obj}(hb:b≠a)(e:h.get? b=some o):(BB h a vs).get? b=some o:=by
 unfold BB;exact ag _ (ag _ (by rw[cB _ _ _ _ hb];exact e))
theorem P5(vs:LWz):(List.range vs.length).map (λ i=>vs.getD i Value.none)=vs:=by
 apply cR;intro i;rw[aB];by_cases h:i<vs.length
 .rw[cz h,bH,bE,aq h];rfl
 .rw[bq (by simpa using h),bq (by lia)];rfl
theorem Gc{a:Addr}{vs:LWz}{n:Nat}{P:PySem.Fin->Shared->Prop}{κ:SortKind}{key:Nat->Int}(ho:s.heap.get? a=some (seqObj "list" vs.toArray n))(h64:vs.length<64)
  (hK:∀(Q:SortKind->Shared->Prop)(E:VPz),2<=vs.length->Q κ { s with heap:=BB s.heap a vs }->wpAny (model prog w) A (keyKind' vs.toArray) Q E { s with heap:=BB s.heap a vs })
  (hL:∀i j (C:Bool->Shared->Prop),i<vs.length->j<vs.length->C (decide (key i<key j)) { s with heap:=BB s.heap a vs } ->
   wpAny (model prog w) A (keyLt' κ (vs.getD i Value.none) (vs.getD j Value.none)) C (λ_ _=>False) { s with heap:=BB s.heap a vs })
  (h:∀q:Array Nat,PermN vs.length q->(q.toList.map key).Pairwise (·<=·)->P (.done (.ret .none)) { s with heap:=sortedHeap s.heap a vs (List.toArray (q.toList.map λ i=>vs.getD i Value.none)) }) :
  wpAny (model prog w) A (Builtin.«list.sort» ⟨[.ref a],[]⟩) P E s:=by
 rw[list_sort_plain];have ha:a<s.heap.objs.size:=aA ho;refine wpAny_bind (listItems_at ho rfl ?_);refine wpAny_bind (listUpdate_at ho rfl ?_ (by rw[au,sizeLine_eq];lia) (bb _));obtain⟨e1,ho1⟩:∃e1,(s.heap.update a (Obj.mapSeq λ_=>#[])).get? a=some (seqObj "list" #[] e1):=⟨_,get?_update_seq ho (λ_=>#[])⟩;refine wpAny_bind (seqEpoch_at ho1 rfl ?_);refine wpAny_bind (wpAny_newTuple ?_ (by show vs.length<=_;rw[sizeLine_eq];lia));refine wpAny_bind (wpAny_newList ?_ (bb _));refine wpAny_holding ?_;have ho6:(BB s.heap a vs).get? a=some (seqObj "list" #[] e1):=by
  unfold BB;rw[cS _ _ _ (by rw[size_push',dQ];exact aM (bS ha)),cS _ _ _ (by rw[dQ];exact aM ha)];exact ho1
 show wpAny (model prog w) A _ P E { s with heap:=BB s.heap a vs };dsimp only;have hsz:vs.toArray.size=vs.length:=by simp
 by_cases h2:vs.toArray.size<2
 .rw[if_pos h2,if_pos h2];refine wpAny_bind (wpAny_pure ?_);rw[StateT.run_pure];refine wpAny_bind (wpAny_pure ?_);dsimp only;refine wpAny_bind (seqEpoch_at ho6 rfl ?_);refine wpAny_bind (listUpdate_at ho6 rfl ?_ (bb _) (by rw[Array.size_map];show(pairsOf vs).size<=_;rw[pairsOf_size,sizeLine_eq];lia));simp only[bne_self_eq_false,aW,if_false];have hh:=h (List.toArray (List.range vs.length)) (by show List.Perm _ _;simp) (by
   rw[hsz]at h2;rcases(by lia:vs.length=0\/vs.length=1) with e|e<;>rw[e]<;>simp[List.range_succ])
  have e3:List.map (λ i=>vs.getD i Value.none) (List.range vs.length).toArray.toList=vs:=P5 vs;rw[e3]at hh;have e2:(arrOf (SortSt.mk' general' (vs.toArray.zip vs.toArray) #[] 7 none)).map (·.2)=vs.toArray:=by
   show(vs.toArray.zip vs.toArray).map (·.2)=vs.toArray;apply Array.ext';simp[List.map_snd_zip]
  refine wpAny_pure ?_;rw[e2];exact hh
 .rw[if_neg h2,if_neg h2];have h2':2<=vs.length:=by lia
  refine wpAny_bind (hK _ _ h2' ?_);refine wpAny_bind (wpAny_mono (kat_run (ks:=vs) (vs:=vs) (Q:=λ st' s'=>s'={ s with heap:=BB s.heap a vs }/\∃p:Array Nat,p.size=vs.length/\arrOf st'=p.map (kas_item (vs.toArray.zip vs.toArray))/\failedOf st'=none/\PermN vs.length p/\(p.toList.map key).Pairwise (·<=·))
   (G:=λ p s'=>s'={ s with heap:=BB s.heap a vs }/\PermN vs.length p/\(p.toList.map key).Pairwise (·<=·)) rfl h2' h64 (λ p st' s' a1 a2 a3 a4=>⟨a4.1,p,a1,a2,a3,a4.2⟩)
   (Lq (λ i j C hi hj hC=>hL i j C hi hj hC) (by lia) λ q hq hp=>⟨rfl,hq,hp⟩)) ?_ λ_ _ e=>e)
  rintro⟨⟨⟩,st'⟩ s' ⟨rfl,p,hp,har,hf,pp,ps⟩;dsimp only;have hout:=kat_snds rfl har;have hsz2:(List.toArray (p.toList.map λ i=>vs.getD i Value.none)).size=vs.length:=by rw[au,aa,bY,hp]
  rw[hout];refine wpAny_bind (seqEpoch_at ho6 rfl ?_);refine wpAny_bind (listUpdate_at ho6 rfl ?_ (bb _) (ba (dN hsz2) (by rw[sizeLine_eq];lia)));rw[hf];simp only[bne_self_eq_false,aW,if_false];exact wpAny_pure (h p pp ps)
theorem QS{l:Addr}{vs:LWz}{κ:SortKind}{key:Nat->Int}{Q:VPz}(hl:s.heap.IsList l vs.toArray)(h64:vs.length<64)
  (hK:∀(h':Heap),(∀b o,s.heap.get? b=some o->h'.get? b=some o)->∀(A:Around)(Q:SortKind->Shared->Prop)(E:VPz),2<=vs.length->Q κ { s with heap:=h' }->wpAny (model prog w) A (keyKind' vs.toArray) Q E { s with heap:=h' })
  (hL:∀(h':Heap),(∀b o,s.heap.get? b=some o->h'.get? b=some o)->∀(A:Around) i j (C:Bool->Shared->Prop),i<vs.length->j<vs.length->C (decide (key i<key j)) { s with heap:=h' } ->
   wpAny (model prog w) A (keyLt' κ (vs.getD i Value.none) (vs.getD j Value.none)) C (λ_ _=>False) { s with heap:=h' })
  (h:∀q:Array Nat,PermN vs.length q->(q.toList.map key).Pairwise (·<=·)->Q (.ref (s.heap.objs.size+1)) { s with heap:=sortedAll s.heap vs (List.toArray (q.toList.map λ i=>vs.getD i Value.none)) }) :
  wpAny (model prog w) A (call (.builtin "sorted") [.ref l]) Q E s:=by
 refine Calls.call_function_entry kind_sorted plain_sorted entry_sorted (args_sorted1 _) ?_;unfold Builtin.«sorted»;refine wpAny_bind (m:=checkCount "sorted" 1 1 _) (wpAny_pure ?_);refine wpAny_bind (collect_list hl ?_ (by rw[sizeLine_eq];lia));refine wpAny_bind (wpAny_newList ?_ (by rw[sizeLine_eq];lia));have hsz:((s.heap.push (seqObj "list" #[] 0)).update s.heap.objs.size (Obj.mapSeq (·++vs.toArray))).objs.size=s.heap.objs.size+1:=by
  rw[dQ,size_push']
 have hoL:(((s.heap.push (seqObj "list" #[] 0)).update s.heap.objs.size (Obj.mapSeq (·++vs.toArray))).push (seqObj "list" vs.toArray 0)).get? (s.heap.objs.size+1)=some (seqObj "list" vs.toArray 0):=by
  rw[<-hsz];exact aR _ rfl
 have keep:∀b o,s.heap.get? b=some o->(((s.heap.push (seqObj "list" #[] 0)).update s.heap.objs.size (Obj.mapSeq (·++vs.toArray))).push (seqObj "list" vs.toArray 0)).get? b=some o:=λ b o q=>by
  have hlt:b<s.heap.objs.size:=aA q;rw[cS _ _ _ (by rw[hsz];exact aM (bS hlt)),cB _ _ _ _ (aM hlt),cS _ _ _ (aM hlt)];exact q
 show wpAny _ _ _ _ _ { s with heap:=((s.heap.push (seqObj "list" #[] 0)).update s.heap.objs.size (Obj.mapSeq (·++vs.toArray))).push (seqObj "list" vs.toArray 0) };rw[hsz];have mid:∀b o,s.heap.get? b=some o->(BB (((s.heap.push (seqObj "list" #[] 0)).update s.heap.objs.size (Obj.mapSeq (·++vs.toArray))).push (seqObj "list" vs.toArray 0)) (s.heap.objs.size+1) vs).get? b=some o:=λ b o q =>
  JU (aM (bS (aA q))) (keep b o q)
 refine wpAny_bind (wpAny_holding (wpAny_call_entry slot_list_sort ⟨_,hoL,rfl⟩ entry_list_sort (Gc (κ:=κ) (key:=key) (s:={ s with heap:=((s.heap.push (seqObj "list" #[] 0)).update s.heap.objs.size (Obj.mapSeq (·++vs.toArray))).push (seqObj "list" vs.toArray 0) }) hoL h64 (λ Q E h2 hq=>hK _ mid _ Q E h2 hq) (λ i j C hi hj hc=>hL _ mid _ i j C hi hj hc) λ q a1 a2=>⟨_,rfl,?_⟩) (args_list_sort _)));exact wpAny_pure ⟨_,rfl,h q a1 a2⟩
theorem FP{fin:Bool}{Q:Bool->Shared->Prop}(hf:fin=false):∀{vs ws:LWz}{ns ms:List Int}(i:Nat),IntsAre vs ns->IntsAre ws ms->ns.length=ms.length->Q (HT.lexLt ns ms) s->KatLex prog w A true fin Q (vs.zip ws) i s
 |_,_,_,_,i,.nil,.nil,_,hq=>by rw[HT.lexLt_nil_nil]at hq;rw[hf];exact hq
 |_,_,_,_,i,.cons n t hn,.cons m u hm,hl,hq=>by
  rw[List.zip_cons_cons];rw[HT.lexLt_cons]at hq;refine kat_cons (wpAny_eqBool_int (kat_go (λ e=>kat_yes ?_) λ e=>kat_no ?_))
  .have e':n=m:=by simpa using e
   rw[if_pos e']at hq;exact FP hf (i+1) hn hm (by simpa using hl) hq
  .have e':¬n=m:=by simpa using e
   rw[if_neg e']at hq;by_cases hi:i=0
   .subst hi;exact oneLt_int hq
   .have hb:(true&&i==0)=false:=by simp[hi]
    rw[hb];exact kat_one _ _ (lt_int hq)
end
section
variable{X:Cx}
theorem Ix:∀{ts:List Addr}{its:LWz},Vals (ts.map V.ref) its->its=ts.map Value.ref
 |[],_,.nil=>rfl
 |a::r,_,.cons h t=>by
  cases(show _=Value.ref a from h);rw[aS,Ix t]
theorem G5:∀(ts:List Addr),Vals (ts.map V.ref) (ts.map Value.ref)
 |[]=>.nil
 |a::r=>.cons rfl (G5 r)
theorem Hc{h:Heap}{m:Nat}:∀{ts:List (Addr×List Int)},(∀t∈ts,t.2.length=m+1/\∃items,IsTup h t.1 items/\IntsAre items.toList t.2)->∃fs,KatTups h (ts.map λ t=>Value.ref t.1) fs/\fs.length=ts.length/\∀v∈fs,∃n tk,v=Value.int n tk
 |[],_=>⟨[],KatTups.nil,rfl,λ v hv=>nomatch hv⟩
 |t::r,hh=>by
  obtain⟨fs,h1,h2,h3⟩:=Hc (ts:=r) λ u hu=>hh u (aJ _ hu);obtain⟨hl,items,⟨o,ho,hc,n,hd⟩,hi⟩:=hh t aD;obtain⟨x,tk,z,e⟩:∃(n:Int)(tk:Tok)(zs:LWz),items.toList=Value.int n tk::zs:=by
   generalize items.toList=vs at hi;generalize t.2=ns at hi hl;cases hi with
   |nil=>simp at hl
   |cons n tk hz=>exact⟨n,tk,_,rfl⟩
  have hf:items[0]?=some (Value.int x tk):=by
   rw[<-eJ,e];rfl
  exact⟨_,KatTups.cons ho hc hd hf h1,by simp[h2],λ v hv=>by
   rcases aO.mp hv with rfl|hv
   .exact⟨x,tk,rfl⟩
   .exact h3 v hv⟩
theorem Fm:CQ X (.builtin "sorted") (λ xs H Q=>∃(p:Addr)(ts:List (Addr×List Int))(m:Nat)(key:List Int->Int),xs=[.ref p]/\SqL X.K H p (ts.map λ t=>V.ref t.1)/\ts.length<64 /\
  (∀t∈ts,t.2.length=m+1/\H t.1=some (.tup (t.2.map V.int)))/\(∀t∈ts,∀u∈ts,HT.lexLt t.2 u.2=decide (key t.2<key u.2)) /\
  ∀l (ts':List (Addr×List Int)),H l=none->ts'.Perm ts->(ts'.map λ t=>key t.2).Pairwise (·<=·)->Q (.ref l) (upd H l (.lst (ts'.map λ t=>V.ref t.1)))):=by
 intro pins s σ H xs us Q I r h;obtain⟨p,ts,m,key,rfl,hp,h64,ht,hkey,q⟩:=h;obtain⟨u,rfl,ru⟩:=EM r;cases ru;obtain⟨its,rv,pl,hz⟩:=I.list hp;have hits:its=ts.map λ t=>Value.ref t.1:=by
  have:=Ix (ts:=ts.map (·.1)) (its:=its) (by rw[be];exact rv);rw[this,be];rfl
 have hlen:its.length=ts.length:=by rw[hits,aa]
 have tup:∀t∈ts,t.2.length=m+1/\∃items,IsTup s.heap t.1 items/\IntsAre items.toList t.2:=λ t htm=>by
  obtain⟨h1,h2⟩:=ht t htm;obtain⟨_,zs,rz,tz⟩:=(show ObjOk X.prog X.w H s.heap t.1 (.tup (t.2.map V.int)) from I.hok _ _ h2);exact⟨h1,_,tz,by simpa using M8 rz⟩
 have tupK:∀(h':Heap),(∀b o,s.heap.get? b=some o->h'.get? b=some o)->∀t∈ts,t.2.length=m+1/\∃items,IsTup h' t.1 items/\IntsAre items.toList t.2:=λ h' k t htm=>by
  obtain⟨h1,items,⟨o,e,c⟩,h3⟩:=tup t htm;exact⟨h1,items,⟨o,k _ _ e,c⟩,h3⟩
 refine QS (κ:=tuples' true) (key:=λ i=>key ((ts.map (·.2)).getD i [])) pl.isList (by lia) (λ h' k A' Q' E' h2 hq=>?_) (λ h' k A' i j C hi hj hc=>?_) λ qq pq sq=>?_
 .obtain⟨fs,f1,f2,f3⟩:=Hc (tupK h' k);rw[hits];refine kat_kind (s:={ s with heap:=h' }) (T:=Value.type "int") f1 (by lia) (λ v hv=>?_) (by decide) hq;obtain⟨n,tk,rfl⟩:=f3 v hv;exact .now
 .have hi':i<ts.length:=by lia
  have hj':j<ts.length:=by lia
  obtain⟨l1,x1,⟨o1,e1,c1,n1,d1⟩,z1⟩:=tupK h' k _ (bW hi');obtain⟨l2,x2,⟨o2,e2,c2,n2,d2⟩,z2⟩:=tupK h' k _ (bW hj');have g1:its.getD i Value.none=Value.ref ts[i].1:=by rw[hits];simp[dw,hi']
  have g2:its.getD j Value.none=Value.ref ts[j].1:=by rw[hits];simp[dw,hj']
  have k1:(ts.map (·.2)).getD i []=ts[i].2:=by simp[dw,hi']
  have k2:(ts.map (·.2)).getD j []=ts[j].2:=by simp[dw,hj']
  simp only[k1,k2]at hc;rw[<-hkey _ (bW hi') _ (bW hj')]at hc;rw[g1,g2];have s1:=z1.length;have s2:=z2.length;exact kat_lt (s:={ s with heap:=h' }) e1 d1 e2 d2 (FP (by rw[decide_eq_false];simp at s1 s2;lia) 0 z1 z2 (by lia) hc)
 .obtain⟨e,he⟩:=sortedAll_at s.heap its (List.toArray (qq.toList.map λ i=>its.getD i Value.none));have hn:H (s.heap.objs.size+1)=none:=I.hok.fresh (bI _);have pq':qq.toList.Perm (List.range ts.length):=by rw[<-hlen];exact pq
  have pick:ts.Perm (qq.toList.map λ i=>ts.getD i (0,[])):=by
   have:=(pq'.map λ i=>ts.getD i ((0:Addr),([]:List Int))).symm;have e2:(List.range ts.length).map (λ i=>ts.getD i ((0:Addr),([]:List Int)))=ts:=by
    apply cR;intro i;rw[aB];by_cases h:i<ts.length
    .rw[cz h,bH,bE,aq h];rfl
    .rw[bq (by simpa using h),bq (by lia)];rfl
   rw[e2]at this;exact this
  have inR:∀i∈qq.toList,i<ts.length:=λ i hi=>cE.mp (pq'.mem_iff.mp hi);have eV:qq.toList.map (λ i=>its.getD i Value.none)=(qq.toList.map λ i=>ts.getD i (0,[])).map λ t=>Value.ref t.1:=by
   rw[be];refine List.map_congr_left λ i hi=>?_;have:=inR i hi;rw[hits];simp[dw,this]
  refine⟨.ref (s.heap.objs.size+1),_,I.laid (o:=.lst ((qq.toList.map λ i=>ts.getD i (0,[])).map λ t=>V.ref t.1)) (t':=s.toks) (λ b o z=>sortedAll_old z) (bI _) ⟨?_,_,e,?_,he⟩,rfl,q _ _ hn pick.symm ?_⟩
  .rw[aa,aa,bY,pq.size,sizeLine_eq];lia
  .rw[eV];generalize (qq.toList.map λ i=>ts.getD i ((0:Addr),([]:List Int)))=zs;have:=G5 (zs.map (·.1));rw[be,be]at this;exact this
  .rw[be];have e4:qq.toList.map ((λ t:Addr×List Int=>key t.2)∘λ i=>ts.getD i (0,[]))=qq.toList.map λ i=>key ((ts.map (·.2)).getD i []):=by
    refine List.map_congr_left λ i hi=>?_;have:=inR i hi;simp[dw,this]
   rw[e4];exact sq
end
section
variable{κ:Type}[DecidableEq κ]
def Bb(kvs:List (κ×V))(k:κ):Option V:=(kvs.find? λ kv=>decide (kv.1=k)).map (·.2)
def F1(kvs:List (κ×V))(k:κ)(v:V):List (κ×V) :=
 if (kvs.any λ kv=>decide (kv.1=k))=true then kvs.map (λ kv=>if kv.1=k then (kv.1,v) else kv) else kvs++[(k,v)]
theorem Bw{p:κ×V}{r:List (κ×V)}{k:κ}(e:p.1=k):Bb (p::r) k=some p.2:=by simp[Bb,cf,e]
theorem Bx{p:κ×V}{r:List (κ×V)}{k:κ}(e:¬p.1=k):Bb (p::r) k=Bb r k:=by simp[Bb,cf,e]
theorem EO(k:κ):∀kvs:List (κ×V),(kvs.any λ kv=>decide (kv.1=k))=(Bb kvs k).isSome
 |[]=>rfl
 |p::r=>by
  rw[bP];by_cases e:p.1=k
  .simp only[Bw e,decide_eq_true e,Bool.true_or,Option.isSome_some]
  .rw[Bx e,decide_eq_false e,Bool.false_or];exact EO k r
theorem Ku(k j:κ)(y:V):∀kvs:List (κ×V),Bb (kvs.map λ kv=>if kv.1=k then (kv.1,y) else kv) j=(Bb kvs j).map λ x=>if j=k then y else x
 |[]=>rfl
 |p::r=>by
  have ih:=Ku k j y r;rw[aS];by_cases h:p.1=k
  .rw[if_pos h];by_cases e:p.1=j
   .rw[Bw (p:=(p.1,y)) e,Bw e,bH,if_pos (e.symm.trans h)]
   .rw[Bx (p:=(p.1,y)) e,Bx e,ih]
  .rw[if_neg h];by_cases e:p.1=j
   .rw[Bw (p:=p) e,Bw e,bH,if_neg (λ z=>h (e.trans z))]
   .rw[Bx (p:=p) e,Bx e,ih]
theorem Ik(k j:κ)(y:V):∀kvs:List (κ×V),Bb kvs k=none->Bb (kvs++[(k,y)]) j=if j=k then some y else Bb kvs j
 |[],_=>by
  by_cases e:k=j
  .rw[if_pos e.symm];exact Bw (p:=(k,y)) e
  .rw[if_neg (λ z=>e z.symm)];exact Bx (p:=(k,y)) e
 |p::r,hn=>by
  rw[bJ];have hk:¬p.1=k:=λ z=>by rw[Bw z]at hn;cases hn
  rw[Bx hk]at hn;have ih:=Ik k j y r hn;by_cases e:p.1=j
  .rw[Bw e,Bw e,if_neg (λ z=>hk (e.trans z))]
  .rw[Bx e,Bx e,ih]
theorem EN(kvs:List (κ×V))(k j:κ)(y:V):Bb (F1 kvs k y) j=if j=k then some y else Bb kvs j:=by
 unfold F1;by_cases a:(kvs.any λ kv=>decide (kv.1=k))=true
 .rw[if_pos a,Ku];rw[EO]at a;by_cases e:j=k
  .obtain⟨x,hx⟩:=dX.mp a;rw[if_pos e,e,hx,bH,if_pos rfl]
  .rw[if_neg e];cases Bb kvs j with
   |none=>rfl
   |some x=>rw[bH,if_neg e]
 .rw[if_neg a];refine Ik k j y kvs ?_;rw[EO]at a;cases q:Bb kvs k with
  |none=>rfl
  |some x=>rw[q]at a;exact(a rfl).elim
theorem CK(kvs:List (κ×V))(k:κ)(v:V):(F1 kvs k v).length<=kvs.length+1:=by
 unfold F1;split
 .rw[aa];lia
 .rw[af,aI,ce];lia
theorem RelO.isSome_eq{o:Option V}{u:Option Value}(r:RelO o u):o.isSome=u.isSome:=by
 cases o with
 |none=>cases u with
  |none=>rfl
  |some _=>exact(show False from r).elim
 |some _=>cases u with
  |none=>exact(show False from r).elim
  |some _=>rfl
theorem KV.val{kvs:List (κ×V)}{vs:List (κ×Value)}(r:KV kvs vs)(k:κ):RelO (Bb kvs k) (valueAt vs k):=by
 unfold KV at r
 induction r with
 |nil=>exact True.intro
 |@cons p q ps qs h t ih =>
  obtain⟨h1,h2⟩:=h;by_cases e:p.1=k
  .have e':q.1=k:=h1.symm.trans e;have b:valueAt (q::qs) k=some q.2:=by simp[valueAt,cf,e']
   rw[Bw e,b];exact h2
  .have e':¬q.1=k:=λ z=>e (h1.trans z);have b:valueAt (q::qs) k=valueAt qs k:=by simp[valueAt,cf,e']
   rw[Bx e,b];exact ih
theorem KV.any{kvs:List (κ×V)}{vs:List (κ×Value)}(r:KV kvs vs)(k:κ):(kvs.any λ kv=>decide (kv.1=k))=vs.any λ kv=>decide (kv.1=k):=by
 unfold KV at r
 induction r with
 |nil=>rfl
 |cons h t ih=>rw[bP,bP,ih,h.1]
theorem KV.repl{kvs:List (κ×V)}{vs:List (κ×Value)}(r:KV kvs vs)(k:κ){y:V}{u:Value}(ry:RelV y u) :
  KV (kvs.map λ kv=>if kv.1=k then (kv.1,y) else kv) (vs.map λ kv=>if kv.1=k then (kv.1,u) else kv):=by
 unfold KV at r |-
 induction r with
 |nil=>exact .nil
 |@cons p q ps qs h t ih =>
  rw[aS,aS];refine .cons ?_ ih;obtain⟨h1,h2⟩:=h;by_cases e:p.1=k
  .rw[if_pos e,if_pos (h1.symm.trans e)];exact⟨h1,ry⟩
  .rw[if_neg e,if_neg (λ z=>e (h1.trans z))];exact⟨h1,h2⟩
theorem KV.put{kvs:List (κ×V)}{vs:List (κ×Value)}(r:KV kvs vs)(k:κ){y:V}{u:Value}(ry:RelV y u):KV (F1 kvs k y) (stored vs k u):=by
 unfold F1 stored;rw[r.any k];by_cases e:(vs.any λ kv=>decide (kv.1=k))=true
 .rw[if_pos e,if_pos e];exact r.repl k ry
 .rw[if_neg e,if_neg e];exact Paired.snoc r ⟨rfl,ry⟩
theorem KV.length{kvs:List (κ×V)}{vs:List (κ×Value)}(r:KV kvs vs):kvs.length=vs.length:=Paired.length r
end
theorem Lr{P:Program}{w:World}{k:Key}{u:Value}(r:RelV (kV k) u):(Bv P w).is k u=true:=by
 cases k with
 |inl i=>obtain⟨t,e⟩:=(show ∃t,u=Value.int i t from r);subst e;exact Lj P w i t
 |inr x=>obtain⟨t,e⟩:=(show ∃t,u=Value.str x t from r);subst e;exact Li P w x t
theorem II{P:Program}{w:World}:∀{ks:List Key}{us:LWz},Vals (ks.map kV) us->ItemsAre (Bv P w) ks us
 |[],_,r=>by rw[bV]at r;cases r;exact .nil
 |k::ks,_,r=>by
  rw[aS]at r;cases r with
  |cons h t=>exact .cons (Lr h) (II t)
abbrev KT(H:Hp):LKz->List (List Key×Addr×Value)->Prop:=Paired λ p q=>p.1=q.1/\H q.2.1=some (.tup (p.1.map kV))/\RelV p.2 q.2.2
theorem KT.val{H:Hp}{kvs:LKz}{xs:List (List Key×Addr×Value)}(r:KT H kvs xs)(k:List Key):RelO (Bb kvs k) ((atKey xs k).map (·.2)):=by
 induction r with
 |nil=>exact True.intro
 |@cons p q ps qs h t ih =>
  obtain⟨h1,_,h2⟩:=h;by_cases e:p.1=k
  .have e':q.1=k:=h1.symm.trans e;have b:atKey (q::qs) k=some q.2:=by simp[atKey,cf,e']
   rw[Bw e,b];exact h2
  .have e':¬q.1=k:=λ z=>e (h1.trans z);have b:atKey (q::qs) k=atKey qs k:=by simp[atKey,cf,e']
   rw[Bx e,b];exact ih
theorem KT.repl{H:Hp}{kvs:LKz}{xs:List (List Key×Addr×Value)}(r:KT H kvs xs)(k:List Key){y:V}{u:Value}(ry:RelV y u) :
  KT H (kvs.map λ kv=>if kv.1=k then (kv.1,y) else kv) (xs.map (putAt k u)):=by
 induction r with
 |nil=>exact .nil
 |@cons p q ps qs h t ih =>
  rw[aS,aS];refine .cons ?_ ih;obtain⟨h1,h2,h3⟩:=h;unfold putAt;by_cases e:p.1=k
  .rw[if_pos e,if_pos (h1.symm.trans e)];exact⟨h1,h2,ry⟩
  .rw[if_neg e,if_neg (λ z=>e (h1.trans z))];exact⟨h1,h2,h3⟩
theorem KT.put{H:Hp}{kvs:LKz}{xs:List (List Key×Addr×Value)}(r:KT H kvs xs)(k:List Key){b:Addr}{y:V}{u:Value}(hb:H b=some (.tup (k.map kV)))(ry:RelV y u) :
  KT H (F1 kvs k y) (storedH xs k b u):=by
 have e:(kvs.any λ kv=>decide (kv.1=k))=(atKey xs k).isSome:=by
  rw[EO,(r.val k).isSome_eq,dE]
 unfold F1 storedH;rw[e];by_cases q:(atKey xs k).isSome=true
 .rw[if_pos q,if_pos q];exact r.repl k ry
 .rw[if_neg q,if_neg q];exact Paired.snoc r ⟨rfl,hb,ry⟩
theorem KT.keeps{H H':Hp}{kvs:LKz}{xs:List (List Key×Addr×Value)}(r:KT H kvs xs)(ht:∀b ys,H b=some (.tup ys)->H' b=some (.tup ys)):KT H' kvs xs :=
 Paired.mapP r λ_ _ z=>⟨z.1,ht _ _ z.2.1,z.2.2⟩
section
variable{P:Program}{w:World}{H:Hp}{h:Heap}{a:Addr}
theorem RZ{u:HO}(ok:HOk P w H h)(e:Rd H a u):ObjOk P w H h a u:=e.ok ok
theorem LF{kvs:List (Key×V)}(ok:HOk P w H h)(e:Rd H a (.dK kvs)):kvs.length<=sizeLine/\(a==sysModules)=false/\∃vs,KV kvs vs/\h.DictOf (Bv P w) a vs :=
 show ObjOk P w H h a (.dK kvs) from RZ ok e
theorem Ut{kvs:List (Key×V)}(ok:HOk P w H h)(e:H a=some (.dK kvs)):kvs.length<=sizeLine/\(a==sysModules)=false/\∃vs,KV kvs vs/\h.DictOf (Bv P w) a vs:=LF ok (.inl e)
theorem Ha{ks:List Key}(ok:HOk P w H h)(e:H a=some (.tup (ks.map kV))):(tupleKind (Bv P w)).is h ks a:=by
 obtain⟨_,its,r,o,h1,h2,n,h3⟩:=(show ObjOk P w H h a (.tup (ks.map kV)) from ok a _ e);exact⟨o,its.toArray,n,h1,h2,h3,by simpa using II r⟩
theorem LB{kvs:LKz}(ok:HOk P w H h)(e:Rd H a (.dT kvs)):kvs.length<=sizeLine/\(a==sysModules)=false /\
  ∃xs,KT H kvs xs/\h.DictOfH (tupleKind (Bv P w)) a xs:=by
 obtain⟨z,y,xs,r,o,es,ep,h1,h2,h3,h4,h5⟩:=(show ObjOk P w H h a (.dT kvs) from RZ ok e);refine⟨z,y,xs,r,o,es,ep,h1,h2,h3,h4,λ x hx=>?_,h5⟩;have all:∀{l:LKz}{m:List (List Key×Addr×Value)},KT H l m->∀x∈m,(tupleKind (Bv P w)).is h x.1 x.2.1:=by
  intro l m q
  induction q with
  |nil=>intro x hx;exact nomatch hx
  |@cons p q ps qs hq t ih =>
   intro x hx;rcases aO.mp hx with e|hx
   .subst e;exact Ha ok (by rw[<-hq.1];exact hq.2.1)
   .exact ih x hx
 exact all r x hx
theorem Us{kvs:LKz}(ok:HOk P w H h)(e:H a=some (.dT kvs)):kvs.length<=sizeLine/\(a==sysModules)=false /\
  ∃xs,KT H kvs xs/\h.DictOfH (tupleKind (Bv P w)) a xs:=LB ok (.inl e)
end
def DGet(H:Hp)(a:Addr)(y:V)(r:Option V):Prop :=
 (∃kvs k,Rd H a (.dK kvs)/\y=kV k/\r=Bb kvs k)\/∃kvs k b,Rd H a (.dT kvs)/\y=.ref b/\H b=some (.tup (k.map kV))/\r=Bb kvs k
def DPut(H:Hp)(a:Addr)(y v:V)(H':Hp):Prop :=
 (∃kvs k,H a=some (.dK kvs)/\y=kV k/\kvs.length<sizeLine/\H'=upd H a (.dK (F1 kvs k v))) \/
 ∃kvs k b,H a=some (.dT kvs)/\y=.ref b/\H b=some (.tup (k.map kV))/\kvs.length<sizeLine/\H'=upd H a (.dT (F1 kvs k v))
theorem DGet.t{H:Hp}{a b:Addr}{kvs:LKz}{k:List Key}(e:H a=some (.dT kvs))(eb:H b=some (.tup (k.map kV))):DGet H a (.ref b) (Bb kvs k):=.inr ⟨kvs,k,b,.inl e,rfl,eb,rfl⟩
theorem DPut.t{H:Hp}{a b:Addr}{kvs:LKz}{k:List Key}{v:V}(e:H a=some (.dT kvs))(eb:H b=some (.tup (k.map kV)))(hl:kvs.length<sizeLine) :
  DPut H a (.ref b) v (upd H a (.dT (F1 kvs k v))):=.inr ⟨kvs,k,b,e,rfl,eb,hl,rfl⟩
section
variable{X:Cx}{pins:PNz}{σ:St}{H:Hp}{s:Shared}{a:Addr}{y v:V}{u r:Value}{o:Option V}{A:Around}{E:VPz}
theorem Inv.big(I:Inv X pins σ H s):sysModules<s.heap.objs.size:=by
 have h:mainGlobals<s.heap.objs.size:=(I.mod.glob.keeps I.bk).lt;exact eM (by decide) h
theorem OJ{Q:VPz}(hu:A.units+1<cLine)(I:Inv X pins σ H s)(g:DGet H a y (some v))(ry:RelV y u)(h:∀w' s',Inv X pins σ H s'->RelV v w'->Q w' s') :
  wpAny (model X.prog X.w) A (getItem (.ref a) u) Q E s:=by
 rcases g with ⟨kvs,k,e,ey,l⟩|⟨kvs,k,b,e,ey,eb,l⟩
 .subst ey;obtain⟨z,hd,vs,rel,dd⟩:=LF I.hok e;obtain⟨w',hw,rw'⟩:=RelO.some_of (v:=v) (o:=valueAt vs k) (by rw[l];exact rel.val k);exact wpAny_getItem_of (Lr ry) dd.mapOf hw (h w' _ (I.tok _) rw')
 .subst ey;cases(show u=Value.ref b from ry);obtain⟨z,hd,xs,rel,dd⟩:=LB I.hok e;obtain⟨w',hw,rw'⟩:=RelO.some_of (v:=v) (o:=(atKey xs k).map (·.2)) (by rw[l];exact rel.val k);obtain⟨p,hp,hp2⟩:=bK.mp hw;refine wpAny_getItem_heap (tupleKind_room_in1 hu) (Ha I.hok eb) dd hp ?_;rw[hp2];exact h w' _ (I.tok _) rw'
theorem Vn{Q:VPz}(hu:A.units+1<cLine)(I:Inv X pins σ H s)(g:DGet H a y o)(ry:RelV y u)(h:∀s',Inv X pins σ H s'->Q (.bool o.isSome) s') :
  wpAny (model X.prog X.w) A (compareOp .In u (.ref a)) Q E s:=by
 rcases g with ⟨kvs,k,e,ey,l⟩|⟨kvs,k,b,e,ey,eb,l⟩
 .subst ey;obtain⟨z,hd,vs,rel,dd⟩:=LF I.hok e;refine wpAny_in_of (Lr ry) hd dd.mapOf ?_;rw[<-(rel.val k).isSome_eq,<-l];exact h _ (I.tok _)
 .subst ey;cases(show u=Value.ref b from ry);obtain⟨z,hd,xs,rel,dd⟩:=LB I.hok e;refine wpAny_in_heap (tupleKind_room_in1 hu) (Ha I.hok eb) hd dd ?_;have q:=(rel.val k).isSome_eq;rw[dE]at q;rw[<-q,<-l];exact h _ (I.tok _)
theorem RG{Q:VPz}(hu:A.units+1<cLine)(I:Inv X pins σ H s)(g:DGet H a y o)(ry:RelV y u)(h:∀s',Inv X pins σ H s'->Q (.bool (!o.isSome)) s') :
  wpAny (model X.prog X.w) A (compareOp .NotIn u (.ref a)) Q E s:=by
 rcases g with ⟨kvs,k,e,ey,l⟩|⟨kvs,k,b,e,ey,eb,l⟩
 .subst ey;obtain⟨z,hd,vs,rel,dd⟩:=LF I.hok e;refine wpAny_notIn_of (Lr ry) hd dd.mapOf ?_;rw[<-(rel.val k).isSome_eq,<-l];exact h _ (I.tok _)
 .subst ey;cases(show u=Value.ref b from ry);obtain⟨z,hd,xs,rel,dd⟩:=LB I.hok e;refine wpAny_notIn_heap (tupleKind_room_in1 hu) (Ha I.hok eb) hd dd ?_;have q:=(rel.val k).isSome_eq;rw[dE]at q;rw[<-q,<-l];exact h _ (I.tok _)
theorem NK{h':Heap}{t':Nat}{ob:HO}(I:Inv X pins σ H s)(mu:Mut (H a))(hs:Heap.SameBut a s.heap h')(he:∃q,h'.get? a=some q)(new:ObjOk X.prog X.w (upd H a ob) h' a ob) :
  Inv X pins σ (upd H a ob) { s with heap:=h',toks:=t' } :=
 I.write (x:=a) (e:=a) mu (.inl rfl) (λ b q hb z=>(hs.2 b hb).trans z) he new
theorem Tb{P:Program}{w:World}{H':Hp}{h':Heap}{kvs:List (Key×V)}{vs:List (Key×Value)}(z:kvs.length<=sizeLine)(hd:(a==sysModules)=false)(rel:KV kvs vs)(dd:h'.DictOf (Bv P w) a vs) :
  ObjOk P w H' h' a (.dK kvs):=⟨z,hd,vs,rel,dd⟩
theorem OI{H':Hp}{Q:Unit->Shared->Prop}(hu:A.units+1<cLine)(I:Inv X pins σ H s)(g:DPut H a y v H')(ry:RelV y u)(rv:RelV v r)(h:∀s',Inv X pins σ H' s'->Q () s') :
  wpAny (model X.prog X.w) A (setItem (.ref a) u r) Q E s:=by
 rcases g with ⟨kvs,k,e,ey,l,eH⟩|⟨kvs,k,b,e,ey,eb,l,eH⟩
 .subst ey eH;obtain⟨z,hd,vs,rel,dd⟩:=Ut I.hok e;have hz:vs.length<=sizeLine:=by rw[<-rel.length];exact z
  have hl:(F1 kvs k v).length<=sizeLine:=by have:=CK kvs k v;lia
  refine wpAny_setItem_pairs (hsz:=hz) (Lr ry) dd λ h' dd' hs=>h _ ?_;have he:∃q,h'.get? a=some q:=let ⟨q,_,_,hq,_⟩:=dd';⟨q,hq⟩;exact NK I (by rw[e];exact True.intro) hs he (Tb hl hd (rel.put k rv) dd')
 .subst ey eH;cases(show u=Value.ref b from ry);obtain⟨z,hd,xs,rel,dd⟩:=Us I.hok e;have hz:xs.length<=sizeLine:=by rw[<-Paired.length rel];exact z
  have hl:(F1 kvs k v).length<=sizeLine:=by have:=CK kvs k v;lia
  refine wpAny_setItem_heap (hsz:=hz) (tupleKind_room_in1 hu) (Ha I.hok eb) dd λ h' dd' hs=>h _ ?_;obtain⟨q,es,ep,hq,h2,h3,h4,_,h5⟩:=dd';refine NK I (by rw[e];exact True.intro) hs ⟨q,hq⟩ ⟨hl,hd,_,(rel.put k eb rv).keeps λ c ys ec=>?_,q,es,ep,hq,h2,h3,h4,h5⟩;rw[Ag (AL ec e (λ z=>nomatch z))];exact ec
end
def U6(i:Expr):Prop:=∀ov iv,subscripted i false ov iv=operate [ov,iv] (getItem ov iv)
theorem QM{prog:Program}{w:World}{A:Around}{E:VPz}{s:Shared}{env:Env}{value slice:Expr}{pos:Pos}{T id:String}{Q:VPz}
  (hl:typeLookup (.type T) "__getitem__"=pure (some (.builtin id))) (hs:U6 slice)
  (h:wpAny (model prog w) A (eval value env) (λ o s₁=>wpAny (model prog w) A (eval slice env) (λ i s₂=>s₂.TypeIs o T/\wpAny (model prog w) A (getItem o i) Q E s₂) E s₁) E s) :
  wpAny (model prog w) A (eval (.Subscript value slice pos) env) Q E s:=by
 refine Subscript_ (wpAny_mono h (λ o s₁ h₁=>wpAny_mono h₁ (λ i s₂ h₂=>?_) λ_ _ x=>x) λ_ _ x=>x);obtain⟨hT,h₂⟩:=h₂;unfold subscriptTail;refine wpAny_bind ?_;rw[getitemInPython_of_ne hT.not_modules];refine wpAny_bind (wpAny_specialOf hT hl ?_);have fin:wpAny (model prog w) A (subscripted slice false o i) (λ r s₃=>wpAny (model prog w) A (letTemporaryGo value o r >>= λ_=>pure r) Q E s₃) E s₂:=by
  rw[hs o i];exact wpAny_operating (wpAny_mono h₂ (λ r s₃ h₃=>wpAny_bind (wpAny_letTemporaryGo (wpAny_pure h₃))) λ_ _ x=>x)
 first
  |exact wpAny_pure (wpAny_bind fin)
  |exact wpAny_bind (wpAny_pure (wpAny_bind fin))
  |exact wpAny_bind fin
theorem LG{X:Cx}{pins:PNz}{σ:St}{H:Hp}{s:Shared}{a:Addr}{y:V}{o:Option V}(I:Inv X pins σ H s)(g:DGet H a y o):s.TypeIs (.ref a) "dict":=by
 rcases g with ⟨kvs,k,e,_,_⟩|⟨kvs,k,b,e,_,_,_⟩
 .obtain⟨_,_,vs,_,dd⟩:=LF I.hok e;exact dd.typeIs
 .obtain⟨_,_,xs,_,dd⟩:=LB I.hok e;exact dd.typeIs
def Tz(td ty:TE):TE:=λ σ H Q=>td σ H λ x H1=>ty σ H1 λ y H2=>∃a v,x=.ref a/\DGet H2 a y (some v)/\Q v H2
def US(ty td:TE):TE:=λ σ H Q=>ty σ H λ y H1=>td σ H1 λ x H2=>∃a o,x=.ref a/\DGet H2 a y o/\Q (.bl o.isSome) H2
def QJ(ty td:TE):TE:=λ σ H Q=>ty σ H λ y H1=>td σ H1 λ x H2=>∃a o,x=.ref a/\DGet H2 a y o/\Q (.bl (!o.isSome)) H2
def TK(td ty tv:TE):TS:=λ D σ H=>tv σ H λ v H1=>td σ H1 λ x H2=>ty σ H2 λ y H3=>∃a H4,x=.ref a/\DPut H3 a y v H4/\D.nx σ H4
section
variable{X:Cx}{o i e value:Expr}{pos pos' tpos:Pos}{td ty tv:TE}
theorem Rl(hu:X.A.units+1<cLine)(ho:PE X o td)(hi:PE X i ty)(hs:U6 i):PE X (.Subscript o i pos) (Tz td ty):=by
 intro pins s σ H Q I h;refine QM PySem.F.slot_dict_getitem.lookup hs (thn (ho pins s σ H _ I h) λ u s1 hz_=>?_);obtain⟨x,H1,I1,rx,q1⟩:=hz_;refine thn (hi pins s1 σ H1 _ I1 q1) λ iv s2 hz_=>?_;obtain⟨y,H2,I2,ry,a,v,ex,g,q2⟩:=hz_;subst ex;obtain rfl:u=Value.ref a:=rx;exact⟨LG I2 g,OJ hu I2 g ry λ w' s3 I3 rw'=>⟨v,H2,I3,rw',q2⟩⟩
theorem P9(hu:X.A.units+1<cLine)(hi:PE X i ty)(ho:PE X o td):PC X .In i o (US ty td):=by
 intro pins s σ H Q I h;refine thn (hi pins s σ H _ I h) λ iv s1 hz_=>?_;obtain⟨y,H1,I1,ry,q1⟩:=hz_;refine thn (ho pins s1 σ H1 _ I1 q1) λ u s2 hz_=>?_;obtain⟨x,H2,I2,rx,a,ov,ex,g,q2⟩:=hz_;subst ex;obtain rfl:u=Value.ref a:=rx;exact Vn hu I2 g ry λ s3 I3=>⟨.bl ov.isSome,H2,I3,rfl,q2⟩
theorem IA(hu:X.A.units+1<cLine)(hi:PE X i ty)(ho:PE X o td):PC X .NotIn i o (QJ ty td):=by
 intro pins s σ H Q I h;refine thn (hi pins s σ H _ I h) λ iv s1 hz_=>?_;obtain⟨y,H1,I1,ry,q1⟩:=hz_;refine thn (ho pins s1 σ H1 _ I1 q1) λ u s2 hz_=>?_;obtain⟨x,H2,I2,rx,a,ov,ex,g,q2⟩:=hz_;subst ex;obtain rfl:u=Value.ref a:=rx;exact RG hu I2 g ry λ s3 I3=>⟨.bl (!ov.isSome),H2,I3,rfl,q2⟩
theorem Nq(hu:X.A.units+1<cLine)(ho:PE X o td)(hi:PE X i ty)(hv:PE X value tv)(hs:swapsWith value (some (.Subscript o i pos')) pos.line X.env=pure false) :
  PS X (.Assign [.Subscript o i pos'] value pos) (TK td ty tv):=by
 intro pins s σ H D I h;refine wpAny_Assign_Subscript (thn (hv pins s σ H _ I h) λ r s1 hz_=>?_) hs;obtain⟨v,H1,I1,rv,q1⟩:=hz_;refine thn (ho pins s1 σ H1 _ I1 q1) λ u s2 hz_=>?_;obtain⟨x,H2,I2,rx,q2⟩:=hz_;refine thn (hi pins s2 σ H2 _ I2 q2) λ iv s3 hz_=>?_;obtain⟨y,H3,I3,ry,a,H4,ex,g,q3⟩:=hz_;subst ex;obtain rfl:u=Value.ref a:=rx;exact OI hu I3 g ry rv λ s4 I4=>⟨σ,H4,I4,q3⟩
end
theorem Qq{P:Program}{w:World}{H:Hp}(h:Heap)(hb:sysModules<h.objs.size):ObjOk P w H (h.push { cls:=.type "dict",data:=.dict #[] }) h.objs.size (.dT []) :=
 ⟨bb _,beq_eq_false_iff_ne.mpr (Ne.symm (aM hb)),[],.nil,_,#[],0,aR _ rfl,⟨rfl,rfl,rfl⟩,rfl,rfl,List.nodup_nil⟩
def Sy:TE:=λ_ H Q=>∀p,H p=none->Q (.ref p) (upd H p (.dT []))
section
variable{X:Cx}{pos:Pos}
theorem KN:PE X (.Dict [] [] pos) Sy:=λ pins s σ H Q I h =>
 wpAny_Dict_empty ⟨.ref s.heap.objs.size,_,I.laid (a:=s.heap.objs.size) (o:=.dT []) (t':=s.toks) (λ_ _ q=>ag _ q) (ah _) (Qq s.heap I.big),rfl,h _ (I.hok.fresh (ah _))⟩
end
def Ite(K:Frag)(a:Addr):It :=
 ⟨λ i H=>∃xs x,SqL K H a xs/\xs[i]?=some x,λ i H y H'=>∃t x,(∀xs,SqL K H a xs->xs[i]?=some x)/\y=.ref t/\H t=none/\H'=upd H t (.tup [.int i,x]),λ i H=>∃xs,SqL K H a xs/\xs.length<=i⟩
theorem OF{X:Cx}{pins:PNz}{σ:St}{H:Hp}{s:Shared}{h':Heap}{e it:Addr}{t':Nat}{ys:LUz}(I:Inv X pins σ H s)(fe:EL X pins H e)(fi:EL X pins H it)
  (k:∀b o,b≠e->b≠it->s.heap.get? b=some o->h'.get? b=some o) (he:∃o,h'.get? e=some o) (hi:∃o,h'.get? it=some o)
  (new:ObjOk X.prog X.w (upd H s.heap.objs.size (.tup ys)) h' s.heap.objs.size (.tup ys)) :
  Inv X pins σ (upd H s.heap.objs.size (.tup ys)) { s with heap:=h',toks:=t' }:=by
 have hn:H s.heap.objs.size=none:=I.hok.fresh (ah _);obtain⟨e0,e1,e2,e3,e4,e5⟩:=fe;obtain⟨i0,i1,i2,i3,i4,i5⟩:=fi;have nt:∀b u,H b=some u->b≠e/\b≠it:=λ b u q=>⟨λ z=>(by rw[z,e0]at q;cases q),λ z=>(by rw[z,i0]at q;cases q)⟩;have nc:∀b,b∉[e,it]->b≠e/\b≠it:=λ b hb=>⟨λ z=>hb (by simp[z]),λ z=>hb (by simp[z])⟩;have ne:∀b u,H b=some u->b≠s.heap.objs.size:=λ b u q=>Ae q hn;refine I.step (g':=s.gens) (d':=s.drawn) (ch:=[e,it]) (λ b hb=>?_) (λ b o _ _ hc q _=>k b o (nc b hc).1 (nc b hc).2 q) (λ b o _ _ hc q _=>⟨o.slots,k b o (nc b hc).1 (nc b hc).2 q⟩)
  (λ b o _ q n=>by rw[Ag (aM (aA q))];exact n) (λ b o hc q=>⟨o,k b o (nc b hc).1 (nc b hc).2 q⟩) (λ b xs q=>by rw[Ag (ne b _ q)];exact q) (λ b o u q=>by rw[Ag (ne b _ q)];exact q)
  (λ b ps q=>⟨#[],by rw[Ag (ne b _ q),q];simp⟩) (λ m hm=>?_) (λ b u q=>?_) I.bare
 .rcases aO.mp hb with rfl|hb
  .exact⟨e3,e1,e4,e5⟩
  .rw[ad.mp hb];exact⟨i3,i1,i4,i5⟩
 .obtain⟨o,es,ep,ho,r⟩:=hm;exact⟨o,es,ep,k _ o (Ne.symm e1) (Ne.symm i1) ho,r⟩
 .by_cases hb:b=s.heap.objs.size
  .subst hb;rw[Af]at q;cases q;exact new
  .rw[Ag hb]at q;refine(I.hok b u q).stay (λ c v hc z=>k c v ?_ ?_ z) (λ c z=>by rw[Ag (ne c _ z)];exact z) λ c xs z=>by rw[Ag (ne c _ z)];exact z
   .rcases hc with rfl|hc
    .exact(nt c u q).1
    .exact(nt c _ hc).1
   .rcases hc with rfl|hc
    .exact(nt c u q).2
    .exact(nt c _ hc).2
theorem Oj{P:Program}{w:World}{K:Frag}{es:List Expr}{k:Nat}{pos:Pos}(a e it:Addr)(hei:e≠it) :
  OP P w K (.Tuple es k pos) (Ite K a) [e,it] e (λ i h=>(∃old,IsEnum h e it i old)/\h.IsListIter it a i) where
 mem:=by simp
 obj:=λ i h st b hb=>by
  obtain⟨⟨old,he⟩,⟨o,eo,c,d⟩⟩:=st;rcases aO.mp hb with rfl|hb
  .exact⟨_,he,λ v z=>by
    have z':Data.fields _=Data.cell v:=z;cases z'⟩
  .rw[ad.mp hb];exact⟨o,eo,λ v z=>by rw[d]at z;cases z⟩
 keep:=λ i h h' st kk=>by
  obtain⟨⟨old,he⟩,st⟩:=st;exact⟨⟨old,kk e (by simp) _ he⟩,st.at λ o z=>kk it (by simp) o z⟩
 item:=by
  intro X hP hw hK hc i pins s σ H E I hf st hg;subst hP hw hK;obtain⟨⟨old,he⟩,st⟩:=st;obtain⟨xs,x,hq,hx⟩:=hg;obtain⟨its,rv,p,hz⟩:=I.list hq;obtain⟨u,hu,ru⟩:=rv.get hx;have fe:=hf e (by simp);have fi:=hf it (by simp);refine wpAny_pyNext_enum_item he st p.isList (x:=u) (by simpa using hu) hei λ h' he' st' ht hz' kk=>?_;refine⟨_,rfl,?_⟩;have ltE:e<s.heap.objs.size:=aA he;have hn:H s.heap.objs.size=none:=I.hok.fresh (ah _);have I1:Inv X pins σ (upd H s.heap.objs.size (.tup [.int i,x])) { s with heap:=h',toks:=s.toks+1 }:=by
   refine OF I fe fi kk ⟨_,he'⟩ (let ⟨o,eo,_⟩:=st';⟨o,eo⟩) ⟨?_,[.int i s.toks,u],.cons ⟨_,rfl⟩ (.cons ru .nil),⟨_,ht,rfl,_,rfl⟩⟩;show 2<=sizeLine;decide
  refine wpAny_letOwnedTupleGo_enum (s:={ s with heap:=h',toks:=s.toks+1 }) he' λ h2 he2 sb=>?_;have neE:e≠s.heap.objs.size:=aM ltE;have fe2:(upd H s.heap.objs.size (.tup [.int i,x])) e=none:=by rw[Ag neE];exact fe.1
  have I2:Inv X pins σ (upd H s.heap.objs.size (.tup [.int i,x])) { ({ s with heap:=h',toks:=s.toks+1 }:Shared) with heap:=h2,toks:=s.toks+1 } :=
   I1.turned (t':=s.toks+1) (it:=e) (λ b o hb z=>(sb.2 b hb).trans z) fe2 fe.2.1 fe.2.2.2.1 fe.2.2.2.2.1 fe.2.2.2.2.2
  obtain⟨oi,hoi,_⟩:=id st;have ltI:it<s.heap.objs.size:=aA hoi;refine⟨.ref s.heap.objs.size,_,I2,rfl,⟨_,x,λ ys hy=>by rw[I.list_inj hy hq];exact hx,rfl,hn,rfl⟩,⟨⟨u,?_⟩,?_⟩,λ b hb=>?_⟩
  .have e1:((i+1:Nat):Int)=(i:Int)+1:=by push_cast;rfl
   rw[e1];exact he2
  .exact st'.at λ o z=>(sb.2 it (Ne.symm hei)).trans z
  .rcases aO.mp hb with rfl|hb
   .exact fe2
   .rw[ad.mp hb,Ag (aM ltI)];exact fi.1
 done:=by
  intro X hP hw hK hc i pins s σ H E I hf st hg;subst hP hw hK;obtain⟨⟨old,he⟩,st⟩:=st;obtain⟨xs,hq,hx⟩:=hg;obtain⟨its,rv,p,hz⟩:=I.list hq;obtain⟨f0,f1,f2,f3,f4,f5⟩:=hf it (by simp);have hl:=rv.length;exact wpAny_pyNext_enum_end (I.ok.hd hc) he st p.isList (by simp;lia) λ h' eb=>⟨rfl,I.turned (t':=s.toks) (λ b o hb z=>eb b o hb z) f0 f1 f3 f4 f5⟩
 self:=λ_ _ _ _ _ st h=>by
  obtain⟨⟨old,he⟩,_⟩:=st;exact wpAny_pyIter_enum he h
def Up(K:Frag)(ta:TA):TI:=λ σ H R=>ta σ H λ vs H1=>∃a,vs=[.ref a]/\(∃xs,SqL K H1 a xs)/\R (Ite K a) H1
section
variable{X:Cx}
theorem Nv{a:Expr}{es:List Expr}{k:Nat}{tpos:Pos}{ta:TA}{p pos:Pos}(hg:Gl X "enumerate")(hm:X.mg "enumerate"=none)(ha:PA X [a] ta)(hs:starEach [a] X.env=[(false,eval a X.env)]:=by rfl) :
  PI X (.Tuple es k tpos) (.Call (.Name "enumerate" p) [a] [] pos) (Up X.K ta):=by
 intro pins s σ H R I h;refine Call_ (EG I hg hm boot_enumerate (PyProof.Rows.callWith_type1 (thn (ha pos pins s σ H _ I h) λ us s1 hz_=>?_) hs rfl));obtain⟨vs,H1,I1,r1,q1⟩:=hz_;obtain⟨b,e,⟨xs,hq⟩,q⟩:=q1;subst e;cases r1 with
 |cons r rr =>
  cases rr;cases r;obtain⟨its,rv,pl,hz⟩:=I1.list hq;refine call_enumerate_list pl.isList λ h' he hit hsz hk=>?_;have I2:Inv X pins σ H1 { s1 with heap:=h' }:=I1.kept (t':=s1.toks) hk;refine wpAny_pyIter_enum (s:={ s1 with heap:=h' }) he ?_;refine⟨s1.heap.objs.size+1,[s1.heap.objs.size+1,s1.heap.objs.size],_,_,H1,rfl,I2,Oj b _ _ (Nat.succ_ne_self _),⟨⟨_,he⟩,hit⟩,λ c hc=>?_,q⟩;rcases aO.mp hc with rfl|hc
  .exact I1.fpOk (bI _) (I1.hok.fresh (bI _))
  .rw[ad.mp hc];exact I1.fpOk (ah _) (I1.hok.fresh (ah _))
end
theorem Lx{K:Frag}{a:Addr}{xs:LUz}{g:TG}{tb:TS}{D:Cd}{σ:St}{H:Hp}(Pv:Nat->St->Hp->Prop)(h0:Pv 0 σ H)(hl:∀i σ H,i<=xs.length->Pv i σ H->SqL K H a xs)
  (hs:∀i x σ H t,xs[i]?=some x->Pv i σ H->H t=none->g (.ref t) σ (upd H t (.tup [.int i,x])) λ σ2 H2=>tb { D with nx:=Pv (i+1),ct:=Pv (i+1),bk:=D.nx } σ2 H2) (hd:∀σ H,Pv xs.length σ H->D.nx σ H) :
  ∃W:Nat->Nat->St->Hp->Prop,(∃m,W 0 m σ H)/\∀i m σ H,W i m σ H ->
   ((Ite K a).stop i H/\D.nx σ H)\/((Ite K a).go i H/\∃N:St->Hp->Prop,(∀σ' H',N σ' H'->∃m',m'<m/\W (i+1) m' σ' H')/\∀x H',(Ite K a).yld i H x H'->g x σ H' λ σ2 H2=>tb { D with nx:=N,ct:=N,bk:=D.nx } σ2 H2):=by
 refine⟨λ i m σ H=>m=xs.length-i/\i<=xs.length/\Pv i σ H,⟨xs.length,by simp,bb _,h0⟩,?_⟩;rintro i m σ H ⟨rfl,hi,p⟩;have q:=hl i σ H hi p;by_cases hlt:i<xs.length
 .refine .inr ⟨⟨xs,xs[i],q,by simp[hlt]⟩,Pv (i+1),λ σ' H' p'=>⟨xs.length-(i+1),by lia,rfl,hlt,p'⟩,λ x H' y=>?_⟩;obtain⟨t,z,hz,rfl,ht,rfl⟩:=y;exact hs i z σ H t (hz xs q) p ht
 .have e:i=xs.length:=by lia
  subst e;exact .inl ⟨⟨xs,q,ah _⟩,hd σ H p⟩
open PySem.SeqAt
mutual
inductive D where
 |at (v:V)
 |tup (xs:Ds)
 |lst (xs:Ds)
inductive Ds where
 |nil
 |cons (d:D) (r:Ds)
end
mutual
def DIs(K:Frag)(H:Hp):D->V->Prop
 |.at u,v=>v=u/\CL u=true
 |.tup ds,v=>∃a xs,v=.ref a/\SqT K H a xs/\DIss K H ds xs
 |.lst ds,v=>∃a xs,v=.ref a/\SqL K H a xs/\DIss K H ds xs
def DIss(K:Frag)(H:Hp):Ds->LUz->Prop
 |.nil,xs=>xs=[]
 |.cons d r,xs=>∃x ys,xs=x::ys/\DIs K H d x/\DIss K H r ys
end
mutual
def dep:D->Nat
 |.at _=>0
 |.tup ds=>Cu ds+1
 |.lst ds=>Cu ds+1
def Cu:Ds->Nat
 |.nil=>0
 |.cons d r=>max (dep d) (Cu r)
end
mutual
def deq:D->D->Bool
 |.at u,.at v=>eqV u v
 |.tup xs,.tup ys=>EI xs ys
 |.lst xs,.lst ys=>EI xs ys
 |_,_=>false
def EI:Ds->Ds->Bool
 |.nil,.nil=>true
 |.cons d r,.cons e q=>deq d e&&EI r q
 |_,_=>false
end
def Ds.len:Ds->Nat
 |.nil=>0
 |.cons _ r=>r.len+1
def Ds.get:Ds->Nat->D
 |.nil,_=>.at .non
 |.cons d _,0=>d
 |.cons _ r,i+1=>r.get i
theorem BQ:∀(ds es:Ds),((List.range (min ds.len es.len)).all (λ j=>deq (ds.get j) (es.get j))&&ds.len==es.len)=EI ds es
 |.nil,.nil=>rfl
 |.nil,.cons e q=>by simp[Ds.len,EI]
 |.cons d r,.nil=>by simp[Ds.len,EI]
 |.cons d r,.cons e q=>by
  have ih:=BQ r q;rw[show EI (.cons d r) (.cons e q)=(deq d e&&EI r q) from by rw[EI],<-ih];show((List.range (min (r.len+1) (q.len+1))).all _&&(r.len+1==q.len+1))=_;rw[show min (r.len+1) (q.len+1)=min r.len q.len+1 by lia,List.range_succ_eq_map,dC,eI,Bool.and_assoc];congr 1;rw[show(r.len+1==q.len+1)=(r.len==q.len) by simp];rfl
mutual
theorem BR:∀{K:Frag}{H:Hp}(d:D){v:V},DIs K H d v->deq d d=true
 |_,_,.at u,v,h=>by
  obtain⟨_,hf⟩:=(show v=u/\CL u=true by simpa [DIs] using h);rw[deq];cases u<;>simp_all [CL,eqV]
 |_,_,.tup ds,v,h=>by
  rw[DIs]at h;obtain⟨a,xs,_,_,q⟩:=h;rw[deq];exact FE ds q
 |_,_,.lst ds,v,h=>by
  rw[DIs]at h;obtain⟨a,xs,_,_,q⟩:=h;rw[deq];exact FE ds q
theorem FE:∀{K:Frag}{H:Hp}(ds:Ds){xs:LUz},DIss K H ds xs->EI ds ds=true
 |_,_,.nil,_,_=>by rw[EI]
 |_,_,.cons d r,xs,h=>by
  rw[DIss]at h;obtain⟨x,ys,_,h1,h2⟩:=h;rw[EI,BR d h1,FE r h2];rfl
end
theorem DIss.len{K:Frag}{H:Hp}:∀{ds:Ds}{xs:LUz},DIss K H ds xs->ds.len=xs.length
 |.nil,xs,h=>by rw[DIss]at h;rw[h];rfl
 |.cons d r,xs,h=>by
  rw[DIss]at h;obtain⟨x,ys,rfl,_,h2⟩:=h;show r.len+1=ys.length+1;rw[DIss.len h2]
theorem DIss.get{K:Frag}{H:Hp}:∀{ds:Ds}{xs:LUz}{i:Nat}{x:V},DIss K H ds xs->xs[i]?=some x->DIs K H (ds.get i) x
 |.nil,xs,i,x,h,e=>by rw[DIss]at h;rw[h]at e;simp at e
 |.cons d r,xs,i,x,h,e=>by
  rw[DIss]at h;obtain⟨y,ys,rfl,h1,h2⟩:=h;cases i with
  |zero=>simp at e;subst e;exact h1
  |succ i =>
   show DIs K H (r.get i) x;exact DIss.get h2 (by simpa using e)
theorem Go:∀(ds:Ds)(i:Nat),i<ds.len->dep (ds.get i)<=Cu ds
 |.nil,i,h=>absurd h (by simp[Ds.len])
 |.cons d r,0,_=>by show dep d<=_;rw[Cu];lia
 |.cons d r,i+1,h=>by
  have:=Go r i (by simpa [Ds.len] using h);show dep (r.get i)<=_;rw[Cu];lia
section
variable{X:Cx}{pins:PNz}{σ:St}{H:Hp}{s:Shared}
mutual
theorem DIs.inj(I:Inv X pins σ H s):∀{d e:D}{v:V},DIs X.K H d v->DIs X.K H e v->d=e
 |.at u,.at w',v,h,h'=>by
  rw[DIs]at h;rw[DIs]at h';rw[<-h.1,<-h'.1]
 |.at u,.tup ds,v,h,h'=>by
  rw[DIs]at h;rw[DIs]at h';obtain⟨a,xs,e,_⟩:=h';have:=h.2;rw[<-h.1,e]at this;cases this
 |.at u,.lst ds,v,h,h'=>by
  rw[DIs]at h;rw[DIs]at h';obtain⟨a,xs,e,_⟩:=h';have:=h.2;rw[<-h.1,e]at this;cases this
 |.tup ds,.at u,v,h',h=>by
  rw[DIs]at h;rw[DIs]at h';obtain⟨a,xs,e,_⟩:=h';have:=h.2;rw[<-h.1,e]at this;cases this
 |.lst ds,.at u,v,h',h=>by
  rw[DIs]at h;rw[DIs]at h';obtain⟨a,xs,e,_⟩:=h';have:=h.2;rw[<-h.1,e]at this;cases this
 |.tup ds,.tup es,v,h,h'=>by
  rw[DIs]at h;rw[DIs]at h';obtain⟨a,xs,rfl,h1,h2⟩:=h;obtain⟨b,ys,e,k1,k2⟩:=h';cases e;have e:=I.tuple_inj h1 k1;subst e;rw[DIss.inj I h2 k2]
 |.lst ds,.lst es,v,h,h'=>by
  rw[DIs]at h;rw[DIs]at h';obtain⟨a,xs,rfl,h1,h2⟩:=h;obtain⟨b,ys,e,k1,k2⟩:=h';cases e;have e:=I.list_inj h1 k1;subst e;rw[DIss.inj I h2 k2]
 |.tup ds,.lst es,v,h,h'=>by
  rw[DIs]at h;rw[DIs]at h';obtain⟨a,xs,rfl,h1,h2⟩:=h;obtain⟨b,ys,e,k1,k2⟩:=h';cases e;obtain⟨_,_,t1,_⟩:=I.tuple h1;obtain⟨_,_,t2,_⟩:=I.list k1;exact absurd rfl (ne_of_list_tuple t2.isList (show s.heap.IsTuple a _ from t1))
 |.lst ds,.tup es,v,h,h'=>by
  rw[DIs]at h;rw[DIs]at h';obtain⟨a,xs,rfl,h1,h2⟩:=h;obtain⟨b,ys,e,k1,k2⟩:=h';cases e;obtain⟨_,_,t1,_⟩:=I.tuple k1;obtain⟨_,_,t2,_⟩:=I.list h1;exact absurd rfl (ne_of_list_tuple t2.isList (show s.heap.IsTuple a _ from t1))
theorem DIss.inj(I:Inv X pins σ H s):∀{ds es:Ds}{xs:LUz},DIss X.K H ds xs->DIss X.K H es xs->ds=es
 |.nil,.nil,xs,h,h'=>rfl
 |.nil,.cons d r,xs,h,h'=>by
  rw[DIss]at h;rw[DIss]at h';obtain⟨x,ys,e,_⟩:=h';rw[h]at e;cases e
 |.cons d r,.nil,xs,h',h=>by
  rw[DIss]at h;rw[DIss]at h';obtain⟨x,ys,e,_⟩:=h';rw[h]at e;cases e
 |.cons d r,.cons e q,xs,h,h'=>by
  rw[DIss]at h;rw[DIss]at h';obtain⟨x,ys,rfl,h1,h2⟩:=h;obtain⟨y,zs,e',k1,k2⟩:=h';cases e';rw[DIs.inj I h1 k1,DIss.inj I h2 k2]
end
theorem Hi{A:Around}{u:V}{x:Value}{l:Addr}{items:Array Value}(r:RelV u x)(f:CL u=true)(hl:s.heap.IsTuple l items)(hu:A.units<cLine):EqAt A s x (.ref l) false/\EqAt A s (.ref l) x false:=by
 cases u with
 |non=>cases r;exact⟨.none_tuple hl hu,.tuple_none hl hu⟩
 |bl b=>cases r;exact⟨.bool_tuple b hl hu,.tuple_bool b hl hu⟩
 |int b=>obtain⟨t,rfl⟩:=r;exact⟨.int_tuple b t hl hu,.tuple_int b t hl hu⟩
 |str b=>obtain⟨t,rfl⟩:=r;exact⟨.str_tuple b t hl hu,.tuple_str b t hl hu⟩
 |_=>exact absurd (show false=true from f) ae
theorem Hj{A:Around}{u:V}{x:Value}{l:Addr}{items:Array Value}(r:RelV u x)(f:CL u=true)(hl:s.heap.IsList l items)(hu:A.units<cLine):EqAt A s x (.ref l) false/\EqAt A s (.ref l) x false:=by
 cases u with
 |non=>cases r;exact⟨.none_list hl hu,.list_none hl hu⟩
 |bl b=>cases r;exact⟨.bool_list b hl hu,.list_bool b hl hu⟩
 |int b=>obtain⟨t,rfl⟩:=r;exact⟨.int_list b t hl hu,.list_int b t hl hu⟩
 |str b=>obtain⟨t,rfl⟩:=r;exact⟨.str_list b t hl hu,.list_str b t hl hu⟩
 |_=>exact absurd (show false=true from f) ae
theorem Qp(I:Inv X pins σ H s):∀(n:Nat)(A:Around)(d e:D)(x y:V)(u v:Value),dep d<=n->DIs X.K H d x->DIs X.K H e y->RelV x u->RelV y v->A.units+n<cLine->EqAt A s u v (deq d e):=by
 intro n
 induction n with
 |zero =>
  intro A d e x y u v hn hd he rx ry hu;cases d with
  |tup ds=>rw[dep]at hn;lia
  |lst ds=>rw[dep]at hn;lia
  | «at» p =>
   rw[DIs]at hd;obtain⟨rfl,hf⟩:=hd;cases e with
   | «at» q =>
    rw[DIs]at he;obtain⟨rfl,hg⟩:=he;rw[deq];exact MC rx ry hf hg
   |tup es =>
    rw[DIs]at he;obtain⟨b,ys,rfl,h1,_⟩:=he;obtain⟨_,_,t,_⟩:=I.tuple h1;cases ry;rw[deq]
    .exact(Hi rx hf (show s.heap.IsTuple b _ from t) hu).1
    all_goals (intros;simp_all)
   |lst es =>
    rw[DIs]at he;obtain⟨b,ys,rfl,h1,_⟩:=he;obtain⟨_,_,t,_⟩:=I.list h1;cases ry;rw[deq]
    .exact(Hj rx hf t.isList hu).1
    all_goals (intros;simp_all)
 |succ n ih =>
  intro A d e x y u v hn hd he rx ry hu;have hu1:A.in1.units+n<cLine:=by show A.units+1+n<cLine;lia
  cases d with
  | «at» p =>
   rw[DIs]at hd;obtain⟨rfl,hf⟩:=hd;cases e with
   | «at» q =>
    rw[DIs]at he;obtain⟨rfl,hg⟩:=he;rw[deq];exact MC rx ry hf hg
   |tup es =>
    rw[DIs]at he;obtain⟨b,ys,rfl,h1,_⟩:=he;obtain⟨_,_,t,_⟩:=I.tuple h1;cases ry;rw[deq]
    .exact(Hi rx hf (show s.heap.IsTuple b _ from t) (by lia)).1
    all_goals (intros;simp_all)
   |lst es =>
    rw[DIs]at he;obtain⟨b,ys,rfl,h1,_⟩:=he;obtain⟨_,_,t,_⟩:=I.list h1;cases ry;rw[deq]
    .exact(Hj rx hf t.isList (by lia)).1
    all_goals (intros;simp_all)
  |tup ds =>
   have hd0:=hd;rw[dep]at hn;rw[DIs]at hd;obtain⟨a,xs,rfl,h1,h2⟩:=hd;obtain⟨i1,r1,t1,_⟩:=I.tuple h1;cases rx;cases e with
   | «at» q =>
    rw[DIs]at he;obtain⟨rfl,hg⟩:=he;rw[deq]
    .exact(Hi ry hg (show s.heap.IsTuple a _ from t1) (by lia)).2
    all_goals (intros;simp_all)
   |lst es =>
    rw[DIs]at he;obtain⟨b,ys,rfl,k1,_⟩:=he;obtain⟨_,_,t2,_⟩:=I.list k1;cases ry;rw[deq]
    .exact EqAt.tuple_list (show s.heap.IsTuple a _ from t1) t2.isList (by lia)
    all_goals (intros;simp_all)
   |tup es =>
    have he0:=he;rw[DIs]at he;obtain⟨b,ys,rfl,k1,k2⟩:=he;obtain⟨i2,r2,t2,_⟩:=I.tuple k1;cases ry;by_cases hab:a=b
    .subst hab;rw[DIs.inj I he0 hd0,BR _ hd0];exact EqAt.same _
    .refine EqAt.of_refs hab ?_;have:=RcAt.tuples (A:=A) (e:=λ j=>deq (ds.get j) (es.get j)) (show s.heap.IsTuple a i1.toArray from t1) (show s.heap.IsTuple b i2.toArray from t2) (by lia) λ j g1 g2=>?_
     .have l1:=r1.length;have l2:=r2.length;have m1:=h2.len;have m2:=k2.len;rw[au,au,<-l1,<-l2,<-m1,<-m2,BQ]at this;rw[deq];exact this
     .have l1:=r1.length;have l2:=r2.length;have m1:=h2.len;have g1':j<xs.length:=by simp at g1;lia
      have g2':j<ys.length:=by simp at g2;lia
      obtain⟨u1,e1,q1⟩:=r1.get (aq g1');obtain⟨u2,e2,q2⟩:=r2.get (aq g2');have d1:i1.toArray[j]=u1:=by
       have:i1[j]?=some i1.toArray[j]:=by simp
       rw[e1]at this;exact(Option.some.inj this).symm
      have d2:i2.toArray[j]=u2:=by
       have:i2[j]?=some i2.toArray[j]:=by simp
       rw[e2]at this;exact(Option.some.inj this).symm
      rw[d1,d2];exact ih _ _ _ _ _ _ _ (ba (Go ds j (by lia)) (by lia)) (h2.get (aq g1')) (k2.get (aq g2')) q1 q2 hu1
  |lst ds =>
   have hd0:=hd;rw[dep]at hn;rw[DIs]at hd;obtain⟨a,xs,rfl,h1,h2⟩:=hd;obtain⟨i1,r1,t1,_⟩:=I.list h1;cases rx;cases e with
   | «at» q =>
    rw[DIs]at he;obtain⟨rfl,hg⟩:=he;rw[deq]
    .exact(Hj ry hg t1.isList (by lia)).2
    all_goals (intros;simp_all)
   |tup es =>
    rw[DIs]at he;obtain⟨b,ys,rfl,k1,_⟩:=he;obtain⟨_,_,t2,_⟩:=I.tuple k1;cases ry;rw[deq]
    .exact EqAt.list_tuple t1.isList (show s.heap.IsTuple b _ from t2) (by lia)
    all_goals (intros;simp_all)
   |lst es =>
    have he0:=he;rw[DIs]at he;obtain⟨b,ys,rfl,k1,k2⟩:=he;obtain⟨i2,r2,t2,_⟩:=I.list k1;cases ry;by_cases hab:a=b
    .subst hab;rw[DIs.inj I he0 hd0,BR _ hd0];exact EqAt.same _
    .refine EqAt.of_refs hab ?_;have l1:=r1.length;have l2:=r2.length;have m1:=h2.len;have m2:=k2.len;rw[deq];rw[<-BQ];by_cases hz:ds.len=es.len
     .have:=RcAt.lists (A:=A) (e:=λ j=>deq (ds.get j) (es.get j)) t1.isList t2.isList (by simp;lia) (by lia) λ j g1 g2=>?_
      .rw[au,<-l1,<-m1]at this;rw[hz,eL,beq_self_eq_true,dD,<-hz];exact this
      .have g1':j<xs.length:=by simp at g1;lia
       have g2':j<ys.length:=by simp at g2;lia
       obtain⟨u1,e1,q1⟩:=r1.get (aq g1');obtain⟨u2,e2,q2⟩:=r2.get (aq g2');have d1:i1.toArray[j]=u1:=by
        have:i1[j]?=some i1.toArray[j]:=by simp
        rw[e1]at this;exact(Option.some.inj this).symm
       have d2:i2.toArray[j]=u2:=by
        have:i2[j]?=some i2.toArray[j]:=by simp
        rw[e2]at this;exact(Option.some.inj this).symm
       rw[d1,d2];exact ih _ _ _ _ _ _ _ (ba (Go ds j (by lia)) (by lia)) (h2.get (aq g1')) (k2.get (aq g2')) q1 q2 hu1
     .have e0:(ds.len==es.len)=false:=by simpa using hz
      rw[e0,dq];exact RcAt.lists_lengths t1.isList t2.isList (by simp;lia) (by lia)
end
section
variable{X:Cx}
theorem Gm{pins:PNz}{σ:St}{H:Hp}{s:Shared}(I:Inv X pins σ H s){A:Around}{ds es:Ds}{xs ys:LUz}{i1 i2:LWz}(h2:DIss X.K H ds xs)(k2:DIss X.K H es ys)(r1:Vals xs i1)(r2:Vals ys i2)
  (hu:A.units+60<cLine) (hd:Cu ds<=50):∀j (g1:j<i1.toArray.size) (g2:j<i2.toArray.size),EqAt A.in1 s i1.toArray[j] i2.toArray[j] (deq (ds.get j) (es.get j)):=λ j g1 g2=>by
 have l1:=r1.length;have l2:=r2.length;have m1:=h2.len;have g1':j<xs.length:=by simp at g1;lia
 have g2':j<ys.length:=by simp at g2;lia
 obtain⟨u1,e1,q1⟩:=r1.get (aq g1');obtain⟨u2,e2,q2⟩:=r2.get (aq g2');have d1:i1.toArray[j]=u1:=by
  have:i1[j]?=some i1.toArray[j]:=by simp
  rw[e1]at this;exact(Option.some.inj this).symm
 have d2:i2.toArray[j]=u2:=by
  have:i2[j]?=some i2.toArray[j]:=by simp
  rw[e2]at this;exact(Option.some.inj this).symm
 rw[d1,d2];exact Qp I 50 _ _ _ _ _ _ _ (ba (Go ds j (by lia)) hd) (h2.get (aq g1')) (k2.get (aq g2')) q1 q2 (by show A.units+1+50<cLine;lia)
def S6(K:Frag)(neg:Bool):R2:=λ x y H Q=>∃d e,DIs K H d x/\DIs K H e y/\(∃a,x=.ref a)/\(∃b,y=.ref b)/\dep d<=50/\Q (.bl (if neg then !deq d e else deq d e)) H
theorem JG{k:Nat}(hr:Room k X.A):OpR X (compareOp .Eq) (S6 X.K false):=by
 intro pins s σ H x y v u Q I rx ry h;obtain⟨d,e,hd,he,⟨a,rfl⟩,⟨b,rfl⟩,hn,q⟩:=h;cases rx;cases ry;have hu:=hr.units;cases d with
 | «at» p=>rw[DIs]at hd;obtain⟨rfl,hf⟩:=hd;cases hf
 |tup ds =>
  rw[dep]at hn;rw[DIs]at hd;obtain⟨a',xs,e',h1,h2⟩:=hd;cases e';obtain⟨i1,r1,t1,_⟩:=I.tuple h1;cases e with
  | «at» p=>rw[DIs]at he;obtain⟨rfl,hf⟩:=he;cases hf
  |tup es =>
   rw[DIs]at he;obtain⟨b',ys,e',k1,k2⟩:=he;cases e';obtain⟨i2,r2,t2,_⟩:=I.tuple k1;refine RcAt.tuples (show s.heap.IsTuple a i1.toArray from t1) (show s.heap.IsTuple b i2.toArray from t2) (by lia) (Gm I h2 k2 r1 r2 (by lia) (by lia)) _ _ _ _ ⟨.bl _,H,I,?_,q⟩;show Value.bool _=Value.bool _;rw[au,au,<-r1.length,<-r2.length,<-h2.len,<-k2.len,BQ];simp only[aW,if_false];rw[deq]
  |lst es =>
   rw[DIs]at he;obtain⟨b',ys,e',k1,k2⟩:=he;cases e';obtain⟨i2,r2,t2,_⟩:=I.list k1;refine RcAt.tuple_list (show s.heap.IsTuple a _ from t1) t2.isList (by lia) _ _ _ _ ⟨.bl _,H,I,?_,q⟩;show Value.bool _=Value.bool _;simp only[aW,if_false];rw[deq]<;>(intros;simp_all)
 |lst ds =>
  rw[dep]at hn;rw[DIs]at hd;obtain⟨a',xs,e',h1,h2⟩:=hd;cases e';obtain⟨i1,r1,t1,_⟩:=I.list h1;cases e with
  | «at» p=>rw[DIs]at he;obtain⟨rfl,hf⟩:=he;cases hf
  |tup es =>
   rw[DIs]at he;obtain⟨b',ys,e',k1,k2⟩:=he;cases e';obtain⟨i2,r2,t2,_⟩:=I.tuple k1;refine RcAt.list_tuple t1.isList (show s.heap.IsTuple b _ from t2) (by lia) _ _ _ _ ⟨.bl _,H,I,?_,q⟩;show Value.bool _=Value.bool _;simp only[aW,if_false];rw[deq]<;>(intros;simp_all)
  |lst es =>
   rw[DIs]at he;obtain⟨b',ys,e',k1,k2⟩:=he;cases e';obtain⟨i2,r2,t2,_⟩:=I.list k1;have l1:=r1.length;have l2:=r2.length;have m1:=h2.len;have m2:=k2.len;by_cases hz:ds.len=es.len
   .refine RcAt.lists t1.isList t2.isList (by simp;lia) (by lia) (Gm I h2 k2 r1 r2 (by lia) (by lia)) _ _ _ _ ⟨.bl _,H,I,?_,q⟩;show Value.bool _=Value.bool _;simp only[aW,if_false];rw[deq,<-BQ,au,<-l1,<-m1,hz,eL,beq_self_eq_true,dD]
   .refine RcAt.lists_lengths t1.isList t2.isList (by simp;lia) (by lia) _ _ _ _ ⟨.bl _,H,I,?_,q⟩;show Value.bool _=Value.bool _;have e0:(ds.len==es.len)=false:=by simpa using hz
    simp only[aW,if_false];rw[deq,<-BQ,e0,dq]
theorem JF{k:Nat}(hr:Room k X.A):OpR X (compareOp .NotEq) (S6 X.K true):=by
 intro pins s σ H x y v u Q I rx ry h;obtain⟨d,e,hd,he,⟨a,rfl⟩,⟨b,rfl⟩,hn,q⟩:=h;cases rx;cases ry;have hu:=hr.units;cases d with
 | «at» p=>rw[DIs]at hd;obtain⟨rfl,hf⟩:=hd;cases hf
 |tup ds =>
  rw[dep]at hn;rw[DIs]at hd;obtain⟨a',xs,e',h1,h2⟩:=hd;cases e';obtain⟨i1,r1,t1,_⟩:=I.tuple h1;cases e with
  | «at» p=>rw[DIs]at he;obtain⟨rfl,hf⟩:=he;cases hf
  |tup es =>
   rw[DIs]at he;obtain⟨b',ys,e',k1,k2⟩:=he;cases e';obtain⟨i2,r2,t2,_⟩:=I.tuple k1;refine RcNeAt.tuples (show s.heap.IsTuple a i1.toArray from t1) (show s.heap.IsTuple b i2.toArray from t2) (by lia) (Gm I h2 k2 r1 r2 (by lia) (by lia)) _ _ _ _ ⟨.bl _,H,I,?_,q⟩;show Value.bool _=Value.bool _;rw[au,au,<-r1.length,<-r2.length,<-h2.len,<-k2.len,BQ];simp only[if_true];rw[deq]
  |lst es =>
   rw[DIs]at he;obtain⟨b',ys,e',k1,k2⟩:=he;cases e';obtain⟨i2,r2,t2,_⟩:=I.list k1;refine RcNeAt.tuple_list (show s.heap.IsTuple a _ from t1) t2.isList (by lia) _ _ _ _ ⟨.bl _,H,I,?_,q⟩;show Value.bool _=Value.bool _;simp only[if_true];rw[deq]<;>first|rfl|(intros;simp_all)
 |lst ds =>
  rw[dep]at hn;rw[DIs]at hd;obtain⟨a',xs,e',h1,h2⟩:=hd;cases e';obtain⟨i1,r1,t1,_⟩:=I.list h1;cases e with
  | «at» p=>rw[DIs]at he;obtain⟨rfl,hf⟩:=he;cases hf
  |tup es =>
   rw[DIs]at he;obtain⟨b',ys,e',k1,k2⟩:=he;cases e';obtain⟨i2,r2,t2,_⟩:=I.tuple k1;refine RcNeAt.list_tuple t1.isList (show s.heap.IsTuple b _ from t2) (by lia) _ _ _ _ ⟨.bl _,H,I,?_,q⟩;show Value.bool _=Value.bool _;simp only[if_true];rw[deq]<;>first|rfl|(intros;simp_all)
  |lst es =>
   rw[DIs]at he;obtain⟨b',ys,e',k1,k2⟩:=he;cases e';obtain⟨i2,r2,t2,_⟩:=I.list k1;have l1:=r1.length;have l2:=r2.length;have m1:=h2.len;have m2:=k2.len;by_cases hz:ds.len=es.len
   .refine RcNeAt.lists t1.isList t2.isList (by simp;lia) (by lia) (Gm I h2 k2 r1 r2 (by lia) (by lia)) _ _ _ _ ⟨.bl _,H,I,?_,q⟩;show Value.bool _=Value.bool _;simp only[if_true];rw[deq,<-BQ,au,<-l1,<-m1,hz,eL,beq_self_eq_true,dD]
   .refine RcNeAt.lists_lengths t1.isList t2.isList (by simp;lia) (by lia) _ _ _ _ ⟨.bl _,H,I,?_,q⟩;show Value.bool _=Value.bool _;have e0:(ds.len==es.len)=false:=by simpa using hz
    simp only[if_true];rw[deq,<-BQ,e0,dq];rfl
end
structure MO(P:Program)(w:World)(K:Frag)(mg:MGz)(base:Heap)(k:Nat)(x:Str)(C:Addr)(ps:LSz)(sp:Sp):Prop where
 ex:∃(f:Addr)(fd:FuncData),Mk K C f/\A5 P w K mg base CX0 k f fd ps sp/\mg x=some (.ref C)/\Binds K fd ps []
structure LL(P:Program)(w:World)(K:Frag)(mg:MGz)(base:Heap)(k:Nat)(C:Addr)(m:Str)(ps:LSz)(sp:Sp):Prop where
 cl:Cls K C
 ex:∃(f:Addr)(fd:FuncData),RR K C m f/\A5 P w K mg base CX0 k f fd ps sp/\Binds K fd ps []
section
variable{X:Cx}{k j:Nat}{x m:Str}{C:Addr}{ps:LSz}{sp:Sp}{p pos apos:Pos}{e o:Expr}{es:List Expr}{t:TA}{ta:TE}
theorem Nx(D:MO X.prog X.w X.K X.mg X.base k x C ps sp)(hr:Room j X.A)(ha:PA X (e::es) t)(hj:k+1<=j:=by decide)(hg:Gl X x:=by rfl)(hdb:(x==("__debug__":Str))=false:=by decide)
  (he:starEach (e::es) X.env=(false,eval e X.env)::starEach es X.env:=by rfl) (hpl:(backTo pos (starEach es X.env)).any (·.1)=false:=by rfl):PE X (.Call (.Name x p) (e::es) [] pos) (RV C sp [] E0 t):=by
 obtain⟨f,fd,M,F,hm,hb⟩:=D.ex;exact Rj M F (hr.mono hj) hg hm hb .nil GC ha hdb he hpl
theorem Ny{pl:Sem Bool}(D:LL X.prog X.w X.K X.mg X.base k C m ps sp)(hr:Room j X.A)(he:PE X o ta)(ha:PA X (e::es) t)(hj:k<=j:=by decide)
    (hst:starEach (e::es) X.env=(false,eval e X.env)::starEach es X.env:=by rfl) (hpl:(backTo pos (starEach es X.env)).any (·.1)=false:=by rfl)
    (ht:eval (.Call (.Attribute o m apos) (e::es) [] pos) X.env=(do
      let ov <-eval o X.env
      standAt apos.atName
      let (f,first) <-holding [ov] (getMethod ov m pl)
      callWith pos f first (backTo pos (starEach (e::es) X.env)) (backToKw pos (keywordEach [] X.env))):=by rfl):PE X (.Call (.Attribute o m apos) (e::es) [] pos) (MX C m sp [] E0 ta t):=by
  obtain⟨f,fd,M,F,hb⟩:=D.ex;exact Ri he D.cl M F (hr.mono hj) hb .nil GC ha hst hpl ht
theorem Mu{pl:Sem Bool}(D:LL X.prog X.w X.K X.mg X.base k C m ps sp)(hr:Room j X.A)(he:PE X o ta)(hj:k<=j:=by decide)
    (ht:eval (.Call (.Attribute o m apos) [] [] pos) X.env=(do
      let ov <-eval o X.env
      standAt apos.atName
      let (f,first) <-holding [ov] (getMethod ov m pl)
      callWith pos f first (backTo pos (starEach [] X.env)) (backToKw pos (keywordEach [] X.env))):=by rfl):PE X (.Call (.Attribute o m apos) [] [] pos) (MX C m sp [] E0 ta Sw):=by
  obtain⟨f,fd,M,F,hb⟩:=D.ex;exact P7 he D.cl M F (hr.mono hj) hb .nil GC ht
end
section
variable{X:Cx}{K:Frag}{pos:Pos}
theorem Nw{es:List Expr}{k:Nat}{t:TGs}{n:Nat}(hc:X.calm=true)(h:PGs X es t)(hK:X.K=K:=by rfl)
  (hn:(assignEach es X.env).length=n:=by rfl) (hst:(assignEach es X.env).findIdx? (·.1)=none:=by rfl):PG X (.Tuple es k pos) (Uq K n t):=by
 subst hK;exact Bz hc h hn hst
def P1(K:Frag):LUz->Hp->VK->Prop:=λ xs H Q=>∃p ys,xs=[V.ref p]/\((SqL K H p ys/\∀l,H l=none->Q (.ref l) (upd H l (.tup ys)))\/(SqT K H p ys/\Q (.ref p) H))
theorem Km(hK:X.K=K:=by rfl):CQ X (.type "tuple") (P1 K):=by subst hK;exact Ic
end
end L2
namespace GB
open PySem.W
open PySem L2
structure Rc where
 t:Int
 l:Int
 b:Int
 r:Int
 deriving DecidableEq
def Rc.ls(p:Rc):List Int:=[p.t,p.l,p.b,p.r]
def Rc.has(p:Rc)(r c:Int):Prop:=p.t<=r/\r<p.b/\p.l<=c/\c<p.r
def Rc.In(w h:Int)(p:Rc):Prop:=0<=p.t/\p.t<p.b/\p.b<=h/\0<=p.l/\p.l<p.r/\p.r<=w
def Apart(p q:Rc):Prop:=∀r c,p.has r c->q.has r c->False
theorem Apart.symm{p q:Rc}(h:Apart p q):Apart q p:=λ r c a b=>h r c b a
structure Tiles(w h:Int)(ps:List Rc):Prop where
 ins:∀p∈ps,p.In w h
 dis:ps.Pairwise Apart
 cov:∀r c,0<=r->r<h->0<=c->c<w->∃p∈ps,p.has r c
theorem Hy{ps:List Rc}(h:ps.Pairwise Apart){p q:Rc}{r c:Int}(hp:p∈ps)(hq:q∈ps)(a:p.has r c)(b:q.has r c):p=q:=by
 obtain⟨i,hi,rfl⟩:=b9 hp;obtain⟨j,hj,rfl⟩:=b9 hq;rw[bX]at h;rcases Nat.lt_trichotomy i j with e|e|e
 .exact(h i j hi hj e r c a b).elim
 .subst e;rfl
 .exact(h j i hj hi e r c b a).elim
theorem Tiles.perm{w h:Int}{ps qs:List Rc}(T:Tiles w h ps)(e:qs.Perm ps):Tiles w h qs :=
 ⟨λ p hp=>T.ins p (e.mem_iff.mp hp),(e.pairwise_iff (λ{a b} x=>Apart.symm x)).mpr T.dis,λ r c a b x y=>let ⟨p,hp,z⟩:=T.cov r c a b x y;⟨p,e.mem_iff.mpr hp,z⟩⟩
def key:List Int->Int
 |[a,b,c,d]=>((a*13+b)*13+c)*13+d
 |_=>0
theorem PR(p:Rc):key p.ls=((p.t*13+p.l)*13+p.b)*13+p.r:=rfl
theorem PQ{p q:Rc}{w h w' h':Int}(hp:p.In w h)(hq:q.In w' h')(b1:w<=12)(b2:h<=12)(b3:w'<=12)(b4:h'<=12):HT.lexLt p.ls q.ls=decide (key p.ls<key q.ls):=by
 obtain⟨a1,a2,a3,a4,a5,a6⟩:=hp;obtain⟨c1,c2,c3,c4,c5,c6⟩:=hq;rw[PR,PR];show(if p.t=q.t then (if p.l=q.l then (if p.b=q.b then (if p.r=q.r then false else decide (p.r<q.r)) else decide (p.b<q.b)) else decide (p.l<q.l)) else decide (p.t<q.t))=_
 repeat' split
 all_goals (first|(apply Eq.symm;rw[decide_eq_false_iff_not];lia)|(rw[decide_eq_decide];lia))
def Srt(ps:List Rc):Prop:=(ps.map λ p=>key p.ls).Pairwise (·<=·)
def DL(p:Rc)(i:Nat)(j:Nat):List (Int×Int):=(List.range j).map λ(k:Nat)=>(p.t+(i:Int),p.l+(k:Int))
def FW(p:Rc):Nat->List (Int×Int)
 |0=>[]
 |i+1=>FW p i++DL p i (p.r-p.l).toNat
def sqs(p:Rc):List (Int×Int):=FW p (p.b-p.t).toNat
theorem mem_rowSq{p:Rc}{i j:Nat}{r c:Int}:(r,c)∈DL p i j↔r=p.t+i/\p.l<=c/\c<p.l+j:=by
 unfold DL;rw[aw]
 constructor
 .rintro⟨k,hk,e⟩;have:=cE.mp hk;cases e;lia
 .rintro⟨rfl,a,b⟩;exact⟨(c-p.l).toNat,cE.mpr (by lia),by rw[show((c-p.l).toNat:Int)=c-p.l by lia];congr 1;lia⟩
theorem GW{p:Rc}(h:p.l<=p.r){r c:Int}:∀{n:Nat},(r,c)∈FW p n↔p.t<=r/\r<p.t+n/\p.l<=c/\c<p.r
 |0=>by
  simp only[FW,aU,false_iff];lia
 |n+1=>by
  rw[FW,ai,GW h,mem_rowSq];lia
theorem Gi{p:Rc}(h:p.l<=p.r)(h2:p.t<=p.b){r c:Int}:(r,c)∈sqs p↔p.has r c:=by
 unfold sqs Rc.has;rw[GW h];lia
theorem KD(p:Rc)(i j:Nat):(DL p i j).Nodup:=by
 unfold DL;rw[cD,cO];exact(List.nodup_range (n:=j)).imp λ{a b} h e=>h (by
  have:=congrArg Prod.snd e;simp only at this;lia)
theorem Gx{p:Rc}(h:p.l<=p.r):∀n,(FW p n).Nodup
 |0=>List.nodup_nil
 |n+1=>by
  rw[FW,cP];refine⟨Gx h n,KD p n _,λ a ha b hb e=>?_⟩;subst e;obtain⟨r,c⟩:=a;have h1:=(GW h).mp ha;have h2:=mem_rowSq.mp hb;lia
theorem Gy(p:Rc):∀n,(FW p n).length=n*(p.r-p.l).toNat
 |0=>by simp[FW]
 |n+1=>by rw[FW,af,Gy p n,DL,aa,dH,Nat.succ_mul]
theorem Mp(p:Rc)(i j:Nat):DL p i (j+1)=DL p i j++[(p.t+(i:Int),p.l+(j:Int))]:=by
 unfold DL;rw[List.range_succ,aj];rfl
theorem FM:∀(n:Nat)(xs:List Int),xs.Nodup->(∀x∈xs,0<=x/\x<n)->xs.length<=n
 |0,xs,_,h=>by
  cases xs with
  |nil=>exact ah _
  |cons x r=>have:=h x aD;lia
 |n+1,xs,hn,h=>by
  have h2:(xs.filter λ x=>decide (x≠(n:Int))).length<=n:=FM n _ (hn.filter _) λ x hx=>by
   obtain⟨h1,h2⟩:=aP.mp hx;have:=h x h1;have h3:x≠(n:Int):=of_decide_eq_true h2;lia
  have h3:xs.length<=(xs.filter λ x=>decide (x≠(n:Int))).length+1:=by
   have key:∀(ys:List Int),ys.Nodup->ys.length<=(ys.filter λ x=>decide (x≠(n:Int))).length+1:=by
    intro ys
    induction ys with
    |nil=>intro _;simp
    |cons y r ih =>
     intro hy;obtain⟨h4,h5⟩:=bv.mp hy;by_cases e:y=(n:Int)
     .have e2:(r.filter λ x=>decide (x≠(n:Int)))=r:=by
       rw[List.filter_eq_self];intro x hx;exact decide_eq_true λ z=>h4 (by rw[e,<-z];exact hx)
      rw[cx,if_neg (by simp[e]),e2,aI];exact ah _
     .rw[cx,if_pos (by simpa using e),aI,aI];have:=ih h5;lia
   exact key xs hn
  lia
theorem MH{w h:Int}{ps:List Rc}(hi:∀p∈ps,p.In w h)(hb:∀p∈ps,p.b=h)(hd:ps.Pairwise Apart):ps.length<=w.toNat:=by
 have e:ps.length=(ps.map (·.l)).length:=by rw[aa]
 rw[e];refine FM _ _ ?_ λ x hx=>?_
 .rw[cD,cO];refine List.Pairwise.imp_of_mem (λ{p q} hp hq ha z=>?_) hd;obtain⟨a1,a2,a3,a4,a5,a6⟩:=hi p hp;obtain⟨c1,c2,c3,c4,c5,c6⟩:=hi q hq;have:=hb p hp;have:=hb q hq;exact ha (h-1) p.l ⟨by lia,by lia,by lia,by lia⟩ ⟨by lia,by lia,by lia,by lia⟩
 .obtain⟨p,hp,rfl⟩:=aw.mp hx;obtain⟨a1,a2,a3,a4,a5,a6⟩:=hi p hp;lia
end GB
namespace L2
open PySem.W
open PySem PySem.Spec PyProof.Rows
section
variable{prog:Program}{w:World}{A:Around}{E:VPz}{h:Heap}{g:Array GenState}{d:Drawn}{t:Nat}{os:OsState}
 {nm qn:Str} {C N:Addr} {bs bm bmB:LWz} {hdct:Bool} {sn:LSz} {sub:LWz} {ab:Bool} {col:Option Bool} {dd:Option Addr} {k0 k1 k2 k3 k5:Option Value} {B newId initId:String}
def Co(h:Heap)(C:Addr)(rest:LWz):Heap:=(h.push { cls:=.type "tuple",data:=.seq rest.toArray }).push { cls:=.ref C,data:=.fields #[.ref h.objs.size,.none,.none,.none,.bool false,.none] }
theorem Cg{C:Addr}{rest:LWz}{b:Addr}{o:Obj}(e:h.get? b=some o):(Co h C rest).get? b=some o:=ag _ (ag _ e)
theorem Iz(C:Addr)(rest:LWz):(Co h C rest).get? (h.objs.size+1)=some { cls:=.ref C,data:=.fields #[.ref h.objs.size,.none,.none,.none,.bool false,.none] }:=by
 unfold Co;heap_get
theorem Gu(F:ExcBaseFacts B newId initId bmB)(T:OwnTail h bmB bm){mN:MGz}{rest:LWz}{fI:Addr}{oI:Obj}{Q:Fin->Shared->Prop}
  (hC:h.get? C=some (excClassObj nm qn C N bs bm hdct sn sub ab col dd k0 k1 k2 k3 k5 newId)) (hn:h.Ns N mN) (hi:mN "__init__"=some (.ref fI)) (hfI:h.get? fI=some oI) (hfc:oI.cls=.type "function") (hrest:rest.length<=sizeLine)
  (hq:wpAny (model prog w) A (call (.ref fI) (.ref (h.objs.size+1)::rest)) (λ r s'=>r=.none/\Q (.done (.ret (.ref (h.objs.size+1)))) s') E ⟨Co h C rest,g,d,t,os⟩) :
  wpAny (model prog w) A (Builtin.«type.__call__» ⟨.ref C::rest,[]⟩) Q E ⟨h,g,d,t,os⟩:=by
 repeat (first|with_reducible refine wpAny_loadPart_at hC ?_|with_reducible refine wpAny_madeBy_exc hC ?_|wp_step)
 refine codeAny_call_builtin_code (Code.quiet_builtin _ F.quiet) (wpAny_check_new_subT F T hC (codeAny_exc_new_subT F T hC ?_ hrest));show wpAny _ _ _ _ _ ⟨Co h C rest,g,d,t,os⟩;have c1:(Co h C rest).get? C=_:=Cg hC;have n1:(Co h C rest).Ns N mN:=let ⟨o,es,ep,e,r⟩:=hn;⟨o,es,ep,Cg e,r⟩;have e1:=Iz (h:=h) C rest;have T1:OwnTail (Co h C rest) bmB bm:=T.keeps λ_ _ e=>Cg e;have cc:(Value.ref C::bm).contains (.ref C)=true:=by simp
 unfold isInstance
 repeat (first|with_reducible refine wpAny_loadPart_at e1 ?_|(with_reducible refine wpAny_isSubtype_exc c1 ?_;rw[cc])|wp_step)
 show wpAny _ _ (typeLookup (.ref C) _) _ _ _;refine wpAny_typeLookup_tail c1 n1 T1 F.mroIs F.init.lookup ?_;rw[hi];refine wpAny_holding (wpAny_bind ?_);unfold bindSpecial;refine wpAny_bind (wpAny_typeOf (T:="function") ⟨_,Cg hfI,hfc⟩ ?_);rw[if_pos (by decide)];refine wpAny_pure (wpAny_bind (wpAny_mono hq (λ r s' hr=>?_) λ_ _ x=>x));obtain⟨rfl,hQ⟩:=hr
 wp_walk
 exact hQ
theorem ON(F:ExcBaseFacts B newId initId bmB)(T:OwnTail h bmB bm){mN:MGz}{rest:LWz}{fI:Addr}{oI:Obj}{Q:VPz}
  (hC:h.get? C=some (excClassObj nm qn C N bs bm hdct sn sub ab col dd k0 k1 k2 k3 k5 newId)) (hn:h.Ns N mN) (hi:mN "__init__"=some (.ref fI)) (hfI:h.get? fI=some oI) (hfc:oI.cls=.type "function") (hrest:rest.length<=sizeLine)
  (hq:wpAny (model prog w) (A.under (.builtin "type.__call__" ⟨.ref C::rest,[]⟩)) (call (.ref fI) (.ref (h.objs.size+1)::rest)) (λ r s'=>r=.none/\Q (.ref (h.objs.size+1)) s') E ⟨Co h C rest,g,d,t,os⟩) :
  wpAny (model prog w) A (call (.ref C) rest) Q E ⟨h,g,d,t,os⟩:=by
 have l1:=tc_lookup;have l2:=tc_bind (.ref C);have ty:(⟨h,g,d,t,os⟩:Shared).TypeIs (.ref C) "type":=⟨_,hC,rfl⟩;refine wpAny_call (codeAny_of_tree ?_);show wpAny _ _ (callAny (.ref C) _) _ _ _
 repeat (any_goals (first|assumption|with_reducible refine wpAny_loadPart_at hC ?_|wp_step))
 exact⟨rfl,codeAny_call_builtin_at (Code.quiet_builtin _ (by decide +kernel)) entry_typeCall (wpAny_check_type_call_sub hC (Gu F T hC hn hi hfI hfc hrest hq))⟩
end
open PySem.Builtin PySem.Builtin.ObjectAttr
def vErr:LWz:=[.type "ValueError",.type "Exception",.type "BaseException",.type "object"]
def FD:LWz->Bool
 |[]=>false
 |x::r=>(match x with|.ref _=>FD r|_=>false)||(x::r==vErr)
theorem G4(self:Value):∀{l:LWz},FD l=true->refuseLoop self "__setattr__" l=pure ()
 |[],e=>by cases e
 |x::r,e=>by
  unfold FD at e;rw[bO]at e;rcases e with e|e
  .cases x<;>first|(rw[refuseLoop_ref];exact G4 self e)|cases e
  .rw[show x::r=vErr from beq_iff_eq.mp e];exact PySem.F.store_ValueError.passes self
theorem Kf{T:String}(hT:vErr.contains (.type T)=true):∀{l:LWz},FD l=true->l.contains (.type T)=true
 |[],e=>by cases e
 |x::r,e=>by
  unfold FD at e;rw[bO]at e;rcases e with e|e
  .cases x<;>first|(rw[cI,Kf hT e,dM])|cases e
  .rw[show x::r=vErr from beq_iff_eq.mp e];exact hT
def excIn(K:Frag)(C:Addr):Bool:=(clsIn K C).any λ cd=>FD cd.mro
section
variable{prog:Program}{w:World}{A:Around}{E:VPz}{R:Result->Shared->Prop}{s:Shared}{K:Frag}{x C:Addr}{ox:Obj}{od:Option Obj}{name:Str}{tk:Tok}{v:Value}
theorem N0(X:K.In s.heap)(I:InstAt s.heap x ox C od)(hp:excIn K C=true)(ht:findIn K (.ref C) name=some none)
  (h:wpAny (model prog w) A.in1 (storeInOwnDict (.ref x) (.ref C) (.str name tk) name v false)
   (λ fin s'=>match fin with|.done f=>R (.ok f) s'|.again c'=>c'.quiet=true/\codeAny (model prog w) A c' R s') (λ e s'=>R (.error e) s') s) :
  codeAny (model prog w) A (.call (.builtin "object.__setattr__") ⟨[.ref x,.str name tk,v],[]⟩) R s:=by
 have SF:=PySem.F.store_object;obtain⟨cd,hc,ho⟩:=any_some hp;have ne:cd.mro.isEmpty=false:=by cases q:cd.mro with|nil=>rw[q]at ho;cases ho|cons _ _=>rfl
 have tO:Looks (model prog w) s.heap (isInstance (.ref x) (.type "object")) true:=I.type.andThen (looks_mroIn X (by
  unfold mroIn;rw[hc,cY,ne];show some (cd.mro.contains (.type "object"))=some true;rw[Kf (by decide +kernel) ho]))
 have tM:Looks (model prog w) s.heap (mroOf (.ref C)) cd.mro:=(looks_clsIn X hc).andThen .now;refine codeAny_call_builtin SF.slot.plain SF.entry (@check_slot (model prog w) _ _ s "object.__setattr__" "object" "__setattr__" (.ref x) [.str name tk,v] [] _ SF.kind SF.split tO (SF.args (.ref x) (.str name tk) v) ?_);rw[osa_eq,refuse_eq];refine wpAny_bind (wpAny_bind (I.type.here (wpAny_bind (tM.here ?_))));rw[G4 _ ho];exact wpAny_pure (wpAny_bind (I.type.here (wpAny_bind ((looks_findIn X ht).here (wpAny_bind (wpAny_pure h))))))
theorem Pu{vs:Array Value}{sl:AOz}{Q:Unit->Shared->Prop}(X:K.In s.heap)(hx:s.heap.get? x=some ⟨.ref C,none,.fields vs,sl⟩)(hs:findIn K (.ref C) "__setattr__"=some (some (.builtin "object.__setattr__")))
  (hp:excIn K C=true) (hh:hasDictIn K C=true) (ht:findIn K (.ref C) name=some none)
  (h:∀h',h'.get? x=some ⟨.ref C,some s.heap.objs.size,.fields vs,sl⟩->h'.Ns1 s.heap.objs.size (λ y=>if y=name then some v else none)->(∀b o,b≠x->s.heap.get? b=some o->h'.get? b=some o)->Q () { s with heap:=h',toks:=s.toks+2 }) :
  wpAny (model prog w) A (setAttr (.ref x) name v) Q E s:=by
 have I:InstAt s.heap x ⟨.ref C,none,.fields vs,sl⟩ C none:=⟨hx,rfl,rfl,trivial⟩;obtain⟨cd,hc,hd'⟩:=any_some hh;have nx:x≠s.heap.objs.size:=aM (aA hx);refine set_plain X I hs (N0 (s:={ s with toks:=s.toks+1 }) X I hp ht ?_);refine wpAny_bind (wpAny_pure (wpAny_bind (wpAny_bind (wpAny_loadPart hx (wpAny_bind (Looks.here (s:={ s with toks:=s.toks+1 }) (looks_clsIn X hc) ?_))))));rw[hd'];refine wpAny_bind (wpAny_alloc (wpAny_bind (wpAny_update (ag _ hx) (wpAny_pure ?_))));generalize hH:(s.heap.push { cls:=.type "dict",data:=.dict #[] }).update x (λ o=>{ o with dict:=some s.heap.objs.size })=H1;have hx1:H1.get? x=some ⟨.ref C,some s.heap.objs.size,.fields vs,sl⟩:=by
  rw[<-hH];exact bR _ (ag _ hx) rfl
 have hd1:H1.get? s.heap.objs.size=some { cls:=.type "dict",data:=.dict #[] }:=by
  rw[<-hH,cB _ _ _ _ (Ne.symm nx)];exact aR _ rfl
 have hk1:∀b o,b≠x->s.heap.get? b=some o->H1.get? b=some o:=λ b o hb e=>by
  rw[<-hH,cB _ _ _ _ hb];exact ag _ e
 have hn1:H1.Ns1 s.heap.objs.size (λ_=>none):=Heap.Ns1.of_empty ⟨_,#[],_,hd1,rfl,λ e he=>absurd he (by simp),λ_=>rfl⟩;refine wpAny_bind (wpAny_pure (wpAny_bind (wpAny_nsSet1 (s:={ s with heap:=H1,toks:=s.toks+1 }) hn1 λ h' hn2 hs2=>?_)));obtain⟨oD,esD,epD,hoD,hdD,hcD⟩:=hn2.count (Within.cons name v Within.nil);refine wpAny_bind (wpAny_lookBehind hoD (by rw[hdD];exact pastItsLine_dict (ba hcD (by rw[aI,ce,sizeLine_eq];lia))) ?_);exact wpAny_pure (h _ ((hs2.2 _ nx).trans hx1) hn2 λ b o hb e=>(hs2.2 _ (aM (aA e))).trans (hk1 b o hb e))
theorem QW{vs:Array Value}{sl:AOz}{dx:Addr}{mA:MGz}{ns:LSz}{Q:Unit->Shared->Prop}(X:K.In s.heap)(hx:s.heap.get? x=some ⟨.ref C,some dx,.fields vs,sl⟩)(hn:s.heap.Ns1 dx mA)(hne:dx≠x)
  (hs:findIn K (.ref C) "__setattr__"=some (some (.builtin "object.__setattr__"))) (hp:excIn K C=true) (hh:hasDictIn K C=true) (ht:findIn K (.ref C) name=some none) (hw:PySem.Within mA ns) (hsz:ns.length<=sizeLine)
  (h:∀h',h'.get? x=some ⟨.ref C,some dx,.fields vs,sl⟩->h'.Ns1 dx (λ y=>if y=name then some v else mA y)->Heap.SameBut dx s.heap h'->Q () { s with heap:=h',toks:=s.toks+2 }) :
  wpAny (model prog w) A (setAttr (.ref x) name v) Q E s:=by
 obtain⟨od,ho⟩:∃o,s.heap.get? dx=some o:=let ⟨o,_,_,e,_⟩:=hn;⟨o,e⟩;have I:InstAt s.heap x ⟨.ref C,some dx,.fields vs,sl⟩ C (some od):=⟨hx,rfl,rfl,ho⟩;obtain⟨cd,hc,hd'⟩:=any_some hh;refine set_plain X I hs (N0 (s:={ s with toks:=s.toks+1 }) X I hp ht ?_);refine wpAny_bind (wpAny_pure (wpAny_bind (wpAny_bind (wpAny_loadPart hx (wpAny_bind (Looks.here (s:={ s with toks:=s.toks+1 }) (looks_clsIn X hc) ?_))))));rw[hd'];refine wpAny_pure (a:=some dx) (wpAny_bind (wpAny_pure (wpAny_bind (wpAny_nsSet1 (s:={ s with toks:=s.toks+1 }) hn λ h' hn2 hs2=>?_))));obtain⟨oD,esD,epD,hoD,hdD,hcD⟩:=hn2.count (Within.cons name v hw);refine wpAny_bind (wpAny_lookBehind hoD (by rw[hdD];exact pastItsLine_dict (ba hcD (by rw[aI];lia))) ?_);exact wpAny_pure (h _ ((hs2.2 _ (Ne.symm hne)).trans hx) hn2 hs2)
end
section
variable{prog:Program}{w:World}{A:Around}{E:VPz}{R:Result->Shared->Prop}{s:Shared}{K:Frag}{x C:Addr}{ox:Obj}{od:Option Obj}{name:Str}{tk:Tok}{v:Value}{expr:Bool}
theorem R3(X:K.In s.heap)(I:InstAt s.heap x ox C od)(hp:L2.excIn K C=true)
  (h:wpAny (model prog w) A.in1 (Builtin.«object.__getattribute__» ⟨[.ref x,.str name tk],[]⟩)
   (λ fin s'=>match fin with|.done f=>R (.ok f) s'|.again c'=>c'.quiet=true/\codeAny (model prog w) A c' R s') (λ e s'=>R (.error e) s') s) :
  codeAny (model prog w) A (.call (.builtin "BaseException.__getattribute__") ⟨[.ref x,.str name tk],[]⟩) R s:=by
 obtain⟨cd,hc,ho⟩:=any_some hp;have ne:cd.mro.isEmpty=false:=by cases q:cd.mro with|nil=>rw[q]at ho;cases ho|cons _ _=>rfl
 have tB:Looks (model prog w) s.heap (isInstance (.ref x) (.type "BaseException")) true:=I.type.andThen (looks_mroIn X (by
  unfold mroIn;rw[hc,cY,ne];show some (cd.mro.contains (.type "BaseException"))=some true;rw[Kf (by decide +kernel) ho]))
 exact codeAny_call_builtin dP.ga.plain PySem.F.entry_bexc_ga (@check_slot (model prog w) _ _ s "BaseException.__getattribute__" "BaseException" "__getattribute__" (.ref x) [.str name tk] [] _ (by decide +kernel) (by decide +kernel) tB (PySem.F.args_bexc_ga (.ref x) (.str name tk)) h)
theorem Se(X:K.In s.heap)(I:InstAt s.heap x ox C od)(hp:L2.excIn K C=true)(hga:findIn K (.ref C) "__getattribute__"=some (some (.builtin "BaseException.__getattribute__")))(hk:findIn K (.ref C) "__getattr__"=some none){fill:Bool}{Q:VPz}
  (h:wpAny (model prog w) A.in1 (Builtin.«object.__getattribute__» ⟨[.ref x,.str name tk],[]⟩)
   (λ fin s'=>match fin with|.done (.ret v)=>wpAny (model prog w) A (handedOut v) Q E s'|_=>False) (λ_ _=>False) s) :
  wpAny (model prog w) A (getAttrBy (.ref x) (.str name tk) fill expr) Q E s:=by
 have L0:=I.type (M:=model prog w);have L1:=looks_findIn (M:=model prog w) X hga;have L2:=looks_findIn (M:=model prog w) X hk;unfold getAttrBy;refine wpAny_holding (wpAny_bind (L0.here (wpAny_bind (L1.here ?_))));show wpAny _ _ (getAttrByItsOwn (.ref x) (.str name tk) (.ref C) (.builtin "BaseException.__getattribute__") fill expr) _ _ _;unfold getAttrByItsOwn hookBefore callGetattribute boundAndCalled;refine wpAny_bind (L2.here ?_);refine wpAny_bind (wpAny_attempt (wpAny_holding ?_));rw[show(expr&&onTheHeap (Value.builtin "BaseException.__getattribute__"))=false from by cases expr<;>rfl,if_neg ae];refine wpAny_bind (wpAny_of_eq (dP.ga.bind _) ?_);refine wpAny_call (R3 X I hp (wpAny_mono h (λ fin s' z=>?_) λ_ _ z=>z.elim));rcases fin with (_|_|_|_)|_<;>first|exact z.elim|exact z
theorem R1{Q:VPz}(X:K.In s.heap)(I:InstAt s.heap x ox C od)(hp:L2.excIn K C=true)(hga:findIn K (.ref C) "__getattribute__"=some (some (.builtin "BaseException.__getattribute__")))(hk:findIn K (.ref C) "__getattr__"=some none)
  (hf:findObj K C od name=some (.value v)) (hh:handedIn v=true) (h:Q v { s with toks:=s.toks+1 }):wpAny (model prog w) A (getAttr (.ref x) name expr) Q E s:=by
 unfold getAttr;refine wpAny_bind (wpAny_mkText (Se (s:={ s with toks:=s.toks+1 }) X I hp hga hk ?_));have L0:=I.type (M:=model prog w);have L1:=looks_find (M:=model prog w) X I hf;refine wpAny_bind (wpAny_of_eq (show slotArgs "__getattribute__" 1 ⟨[.ref x,.str name s.toks],[]⟩=pure (.ref x,[.str name s.toks]) from rfl) ?_);refine wpAny_bind (wpAny_pure (wpAny_bind (Looks.here (s:={ s with toks:=s.toks+1 }) L0 (wpAny_bind (Looks.here (s:={ s with toks:=s.toks+1 }) L1 ?_)))));refine wpAny_pure ?_;show wpAny _ _ (handedOut v) _ _ _;rw[handedOut_of hh];exact wpAny_pure h
theorem OM{Q:Option Value->Shared->Prop}(X:K.In s.heap)(I:InstAt s.heap x ox C od)(hp:L2.excIn K C=true)(hga:findIn K (.ref C) "__getattribute__"=some (some (.builtin "BaseException.__getattribute__")))(hk:findIn K (.ref C) "__getattr__"=some none)
  (hf:findObj K C od "__class__"=some (.bind (.builtin "getset_descriptor.__get__") (.builtin "object.__class__"))) (hm:mroIn K C (.type "object")=some true) (h:Q (some (.ref C)) { s with toks:=s.toks+1 }):wpAny (model prog w) A (getAttr? (.ref x) "__class__") Q E s:=by
 unfold getAttr? getAttrBy?;refine wpAny_bind (wpAny_mkText (wpAny_bind (wpAny_attempt (Se (s:={ s with toks:=s.toks+1 }) X I hp hga hk ?_))));have L0:=I.type (M:=model prog w);have L1:=looks_find (M:=model prog w) X I hf;refine wpAny_bind (wpAny_of_eq (show slotArgs "__getattribute__" 1 ⟨[.ref x,.str "__class__" s.toks],[]⟩=pure (.ref x,[.str "__class__" s.toks]) from rfl) ?_);refine wpAny_bind (wpAny_pure (wpAny_bind (Looks.here (s:={ s with toks:=s.toks+1 }) L0 (wpAny_bind (Looks.here (s:={ s with toks:=s.toks+1 }) L1 ?_)))));show wpAny _ _ (holding [.builtin "object.__class__"] (call (.builtin "getset_descriptor.__get__") [.builtin "object.__class__",.ref x,.ref C]) >>= ret) _ _ _;refine wpAny_bind (wpAny_holding (wpAny_call (class_get (s:={ s with toks:=s.toks+1 }) (ox:=ox) (od:=od) X I hm ?_)));exact wpAny_pure (handed_on rfl (wpAny_pure h))
end
def Gf(C x:Addr):HO:=.ext λ h=>∃vs sl,h.get? x=some ⟨.ref C,none,.fields vs,sl⟩/\vs[1]?=some Value.none
def Eu(C dx x:Addr):HO:=.ext λ h=>∃vs sl,h.get? x=some ⟨.ref C,some dx,.fields vs,sl⟩/\vs[1]?=some Value.none
def Fp(C:Addr)(d:Option Addr)(x T:Addr):HO:=.ext λ h=>∃vs sl,h.get? x=some ⟨.ref C,d,.fields vs,sl⟩/\vs[1]?=some (.ref T)
def Cw(dx:Addr)(fs:LFz):HO:=.ext λ h=>∃mA,h.Ns1 dx mA/\(∀f,RelO (fs.lookup f) (mA f))/\PySem.Within mA (fs.map (·.1))
section
variable{P:Program}{w:World}{H:Hp}{h:Heap}{x C dx:Addr}{fs:LFz}
theorem RF{vs:Array Value}{sl:AOz}(e:h.get? x=some ⟨.ref C,none,.fields vs,sl⟩)(f:vs[1]?=some Value.none):ObjOk P w H h x (Gf C x) :=
 ⟨⟨vs,sl,e,f⟩,⟨_,e⟩,λ_ _ ⟨vs,sl,e,f⟩ k=>⟨vs,sl,k _ e,f⟩⟩
theorem RE{vs:Array Value}{sl:AOz}(e:h.get? x=some ⟨.ref C,some dx,.fields vs,sl⟩)(f:vs[1]?=some Value.none):ObjOk P w H h x (Eu C dx x) :=
 ⟨⟨vs,sl,e,f⟩,⟨_,e⟩,λ_ _ ⟨vs,sl,e,f⟩ k=>⟨vs,sl,k _ e,f⟩⟩
theorem RD{d:Option Addr}{T:Addr}{vs:Array Value}{sl:AOz}(e:h.get? x=some ⟨.ref C,d,.fields vs,sl⟩)(f:vs[1]?=some (.ref T)):ObjOk P w H h x (Fp C d x T) :=
 ⟨⟨vs,sl,e,f⟩,⟨_,e⟩,λ_ _ ⟨vs,sl,e,f⟩ k=>⟨vs,sl,k _ e,f⟩⟩
theorem NG{mA:MGz}(n:h.Ns1 dx mA)(r:∀f,RelO (fs.lookup f) (mA f))(wi:PySem.Within mA (fs.map (·.1))):ObjOk P w H h dx (Cw dx fs) :=
 ⟨⟨mA,n,r,wi⟩,let ⟨o,_,_,e,_⟩:=n;⟨o,e⟩,λ_ _ ⟨mA,n,r,wi⟩ k=>⟨mA,n.at k,r,wi⟩⟩
end
structure XCls(K:Frag)(C:Addr):Prop where
 ga:findIn K (.ref C) "__getattribute__"=some (some (.builtin "BaseException.__getattribute__"))
 gh:findIn K (.ref C) "__getattr__"=some none
 hd:hasDictIn K C=true
 sa:findIn K (.ref C) "__setattr__"=some (some (.builtin "object.__setattr__"))
 ex:L2.excIn K C=true
 ca:findIn K (.ref C) "__class__"=some (some (.builtin "object.__class__"))
 gn:specialIn K (.builtin "object.__class__") "__get__"=some (some (.builtin "getset_descriptor.__get__"))
 tk:takesIn K (.builtin "object.__class__")=some true
 mo:mroIn K C (.type "object")=some true
def MS(K:Frag)(C:Addr):Bool:=(findIn K (.ref C) "__getattribute__"==some (some (.builtin "BaseException.__getattribute__")))&&(findIn K (.ref C) "__getattr__"==some none)&&hasDictIn K C&&(findIn K (.ref C) "__setattr__"==some (some (.builtin "object.__setattr__")))&&L2.excIn K C &&
 (findIn K (.ref C) "__class__"==some (some (.builtin "object.__class__")))&&(specialIn K (.builtin "object.__class__") "__get__"==some (some (.builtin "getset_descriptor.__get__"))) &&
 (takesIn K (.builtin "object.__class__")==some true)&&(mroIn K C (.type "object")==some true)
theorem XCls.of{K:Frag}{C:Addr}(h:MS K C=true):XCls K C:=by
 unfold MS at h;simp only[aK,beq_iff_eq]at h;obtain⟨⟨⟨⟨⟨⟨⟨⟨a,a'⟩,b⟩,c⟩,d⟩,e⟩,f⟩,g⟩,i⟩:=h;exact⟨a,a',b,c,d,e,f,g,i⟩
section
variable{X:Cx}{pins:PNz}{σ:St}{H:Hp}{s:Shared}{a C dx:Addr}{fs:LFz}{f:Str}{v:V}{A:Around}{E:VPz}
theorem Ho{φ:Heap->Prop}{b c:Addr}(h:H b=some (.ext φ)):H b≠some (.own c):=λ e=>by rw[h]at e;cases e
theorem Mi{y:V}{u:Value}{Q:Unit->Shared->Prop}(I:Inv X pins σ H s)(e:H a=some (Gf C a))(c:XCls X.K C)(n:NoAttr X.K C f)(ry:RelV y u)
  (h:∀s' d,H d=none->Inv X pins σ (upd (upd H d (Cw d [(f,y)])) a (Eu C d a)) s'->Q () s'):wpAny (model X.prog X.w) A (setAttr (.ref a) f u) Q E s:=by
 obtain⟨⟨vs,sl,hx,hv1⟩,_⟩:=(show ObjOk X.prog X.w H s.heap a (Gf C a) from I.hok a _ e);refine Pu I.kIn hx c.sa c.ex c.hd n λ h' h1 h2 k=>?_;have hn:H s.heap.objs.size=none:=I.hok.fresh (ah _);have nea:s.heap.objs.size≠a:=Ne.symm (Ae e hn);refine h _ s.heap.objs.size hn ?_;have e':∀b o,H b=some o->b≠s.heap.objs.size:=λ b o q=>Ae q hn;have lt:∀b o,s.heap.get? b=some o->b≠s.heap.objs.size:=λ b o q=>aM (aA q);have na:∀b o,H b=some o->(∀φ,o≠.ext φ)->b≠a:=λ b o q z t=>by subst t;rw[e]at q;cases q;exact z _ rfl
 refine I.un (h':=h') (t':=s.toks+2) ⟨λ b o q m _ _=>k b o (λ z=>by rw[z,e]at m;cases m) q,λ b o q m _ _=>⟨o.slots,k b o (λ z=>by rw[z,e]at m;cases m) q⟩,
  λ b o q m _=>by rw[Ag (λ z=>by rw[z,e]at m;cases m),Ag (lt b o q)];exact m,λ b o q _=>?_,λ b xs q=>by rw[Ag (na b _ q (λ φ z=>by cases z)),Ag (e' b _ q)];exact q,
  λ b o u q=>by rw[Ag (na b _ q (λ φ z=>by cases z)),Ag (e' b _ q)];exact q,λ b ps q=>⟨#[],by rw[Ag (na b _ q (λ φ z=>by cases z)),Ag (e' b _ q),q];simp⟩⟩ λ b o q=>?_
 .by_cases hb:b=a
  .subst hb;exact⟨_,h1⟩
  .exact⟨o,k b o hb q⟩
 .by_cases hb:b=a
  .subst hb;rw[Af]at q;cases q;exact RE h1 hv1
  .rw[Ag hb]at q;by_cases hd:b=s.heap.objs.size
   .subst hd;rw[Af]at q;cases q;refine NG h2 (λ g=>?_) λ g hg=>?_
    .show RelO (List.lookup g [(f,y)]) (if g=f then some u else none);by_cases q:g=f
     .have hb:(g==f)=true:=beq_iff_eq.mpr q;rw[if_pos q];simp only[List.lookup,hb];exact ry
     .have hb:(g==f)=false:=beq_eq_false_iff_ne.mpr q;rw[if_neg q];simp only[List.lookup,hb];exact True.intro
    .by_cases q:g=f
     .rw[q];simp
     .exact absurd (if_neg q) hg
   .rw[Ag hd]at q;refine(I.hok b o q).stay (λ cc w' hc z=>k cc w' ?_ z) (λ cc z=>?_) λ cc xs z=>?_
    .rcases hc with rfl|hc
     .exact hb
     .exact λ t=>Ho e (t ▸ hc)
    .rw[Ag (λ t=>Ho e (t ▸ z)),Ag (e' cc _ z)];exact z
    .rw[Ag (na cc _ z (λ φ t=>by cases t)),Ag (e' cc _ z)];exact z
theorem Op{y:V}{u:Value}{Q:Unit->Shared->Prop}(I:Inv X pins σ H s)(e:H a=some (Eu C dx a))(ed:H dx=some (Cw dx fs))(c:XCls X.K C)(n:NoAttr X.K C f)(hl:fs.length<1000)(ry:RelV y u)
  (h:∀s',Inv X pins σ (upd H dx (Cw dx (Bd f y fs))) s'->Q () s'):wpAny (model X.prog X.w) A (setAttr (.ref a) f u) Q E s:=by
 obtain⟨⟨vs,sl,hx,_⟩,_⟩:=(show ObjOk X.prog X.w H s.heap a (Eu C dx a) from I.hok a _ e);obtain⟨⟨mA,hn,r,wi⟩,_⟩:=(show ObjOk X.prog X.w H s.heap dx (Cw dx fs) from I.hok dx _ ed);have hne:dx≠a:=λ z=>by
  subst z;obtain⟨o,es,ep,ho,hd,_⟩:=hn;rw[hx]at ho;cases ho;cases hd
 have hz:(fs.map (·.1)).length<=sizeLine:=by rw[aa,sizeLine_eq];lia
 refine QW I.kIn hx hn hne c.sa c.ex c.hd n wi hz λ h' h1 h2 sb=>h _ ?_;have hd:∃o,h'.get? dx=some o:=let ⟨o,_,_,e',_⟩:=h2;⟨o,e'⟩;refine I.write (x:=dx) (e:=dx) (t':=s.toks+2) (by rw[ed];exact True.intro) (.inl rfl) (λ b q hb z=>(sb.2 b hb).trans z) hd (NG h2 (λ g=>?_) λ g hg=>?_)
 .show RelO ((Bd f y fs).lookup g) (if g=f then some u else mA g);rw[A1];by_cases q:g=f
  .rw[if_pos q,if_pos q];exact ry
  .rw[if_neg q,if_neg q];exact r g
 .by_cases q:g=f
  .rw[q];exact(Dr f y fs).1
  .refine(Dr f y fs).2 g (wi g λ z=>hg ?_);show(if g=f then some u else mA g)=none;rw[if_neg q];exact z
def XAt(H:Hp)(C dx a:Addr):Prop:=H a=some (Eu C dx a)\/∃T,H a=some (Fp C (some dx) a T)
theorem XAt.same{H':Hp}(h:XAt H C dx a)(s:Same H H'):XAt H' C dx a:=h.imp (λ z=>s _ _ z) λ⟨T,z⟩=>⟨T,s _ _ z⟩
theorem XAt.obj(I:Inv X pins σ H s)(h:XAt H C dx a):∃vs sl,s.heap.get? a=some ⟨.ref C,some dx,.fields vs,sl⟩:=by
 rcases h with h|⟨T,h⟩
 .obtain⟨⟨vs,sl,hx,_⟩,_⟩:=(show ObjOk X.prog X.w H s.heap a (Eu C dx a) from I.hok a _ h);exact⟨vs,sl,hx⟩
 .obtain⟨⟨vs,sl,hx,_⟩,_⟩:=(show ObjOk X.prog X.w H s.heap a (Fp C (some dx) a T) from I.hok a _ h);exact⟨vs,sl,hx⟩
theorem OE{b:Bool}{Q:VPz}(I:Inv X pins σ H s)(e:XAt H C dx a)(ed:H dx=some (Cw dx fs))(c:XCls X.K C)(n:NoAttr X.K C f)(l:fs.lookup f=some v)
  (h:∀u s',Inv X pins σ H s'->RelV v u->Q u s'):wpAny (model X.prog X.w) A (getAttr (.ref a) f b) Q E s:=by
 obtain⟨vs,sl,hx⟩:=e.obj I;obtain⟨⟨mA,hn,r,wi⟩,_⟩:=(show ObjOk X.prog X.w H s.heap dx (Cw dx fs) from I.hok dx _ ed);obtain⟨u,hu,ru⟩:=RelO.some_of (v:=v) (o:=mA f) (by rw[<-l];exact r f);obtain⟨od,ho,hl⟩:=IE hn;have J:InstAt s.heap a ⟨.ref C,some dx,.fields vs,sl⟩ C (some od):=⟨hx,rfl,rfl,ho⟩;exact R1 I.kIn J c.ex c.ga c.gh (findObj_own c.hd n rfl (by rw[hl,hu])) (IK ru) (h u _ (I.tok _) ru)
end
theorem PP{K:Frag}{x D:Addr}(c:XCls K D):KitX K (.ref x) (.ref D) (λ h=>∃(ox:Obj)(od:Option Obj),InstAt h x ox D od) where
 ty:=λ_ _ _ ⟨_,_,I⟩=>I.type
 it:=λ_ _ X _=>by
  obtain⟨cdD,hcD,_⟩:=any_some c.hd;unfold clsIn at hcD;split at hcD
  .rename_i c' d' cd' sl' ho;intro A' Q' E' s' k q;unfold isType loadHead;exact wpAny_bind (wpAny_loadPart (k _ _ (X _ _ ho)) (wpAny_pure q))
  .cases hcD
 ne:=λ h tp dd its n sl X htp=>by
  obtain⟨cdD,hcD,_⟩:=any_some c.hd;refine Bool.eq_false_iff.mpr λ q=>?_;have e:D=tp:=Value.ref.inj (beq_iff_eq.mp q);subst e;unfold clsIn at hcD;split at hcD
  .rename_i c' d' cd' sl' ho;have z:=(X _ _ ho).symm.trans htp;cases z
  .cases hcD
 ca:=λ{prog w A E Q s} X ⟨ox,od,I⟩ h=>by
  have hf:findObj K D od "__class__"=some (.bind (.builtin "getset_descriptor.__get__") (.builtin "object.__class__")):=by
   obtain⟨cd,hc,_⟩:=any_some c.hd;unfold findObj;rw[hc,cY,c.ca,cY];simp[c.gn,c.tk]
  exact OM X I c.ex c.ga c.gh hf c.mo h
def QF(H:Hp)(a C:Addr):Prop:=(∃dx fs,XAt H C dx a/\H dx=some (Cw dx fs))\/H a=some (Gf C a)\/∃T,H a=some (Fp C none a T)
section
variable{X:Cx}
theorem M6{pins:PNz}{σ:St}{H:Hp}{s:Shared}{a C:Addr}(I:Inv X pins σ H s)(h:QF H a C):∃(ox:Obj)(od:Option Obj),InstAt s.heap a ox C od:=by
 rcases h with ⟨dx,fs,h1,h2⟩|h|⟨T,h⟩
 .obtain⟨vs,sl,hx⟩:=h1.obj I;obtain⟨⟨mA,hn,_⟩,_⟩:=(show ObjOk X.prog X.w H s.heap dx (Cw dx fs) from I.hok dx _ h2);obtain⟨o,_,_,ho,_⟩:=hn;exact⟨_,some o,⟨hx,rfl,rfl,ho⟩⟩
 .obtain⟨⟨vs,sl,hx,_⟩,_⟩:=(show ObjOk X.prog X.w H s.heap a (Gf C a) from I.hok a _ h);exact⟨_,none,⟨hx,rfl,rfl,trivial⟩⟩
 .obtain⟨⟨vs,sl,hx,_⟩,_⟩:=(show ObjOk X.prog X.w H s.heap a (Fp C none a T) from I.hok a _ h);exact⟨_,none,⟨hx,rfl,rfl,trivial⟩⟩
theorem MG:CQ X (.builtin "isinstance") (λ xs H Q=>∃a C c u b,xs=[.ref a,c]/\QF H a C/\XCls X.K C/\RelV c u/\(∀u',RelV c u'->u'=u)/\kitOne X.K (.ref C) u=some b/\Q (.bl b) H):=by
 intro pins s σ H xs us Q I r h;obtain⟨a,C,c,u,b,rfl,he,hc,ru,uq,hk,q⟩:=h;obtain⟨v1,v2,rfl,r1,r2⟩:=MT r;cases r1;have:=uq v2 r2;subst this;exact kia_one (PP hc) I.kIn (M6 I he) hk (λ z=>nomatch z) λ tk=>⟨.bl b,H,I.tok tk,rfl,q⟩
end
def Tn(K:Frag)(ta:TE)(f:Str):TE:=λ σ H Q=>ta σ H λ x H1=>∃a C dx fs v,x=.ref a/\XAt H1 C dx a/\H1 dx=some (Cw dx fs)/\XCls K C/\NoAttr K C f/\fs.lookup f=some v/\Q v H1
def TF(K:Frag)(ta tv:TE)(f:Str):TS:=λ D σ H=>tv σ H λ y H1=>ta σ H1 λ x H2=>∃a C,x=.ref a/\XCls K C/\NoAttr K C f /\
 ((H2 a=some (Gf C a)/\∀d,H2 d=none->D.nx σ (upd (upd H2 d (Cw d [(f,y)])) a (Eu C d a)))\/∃dx fs,H2 a=some (Eu C dx a)/\H2 dx=some (Cw dx fs)/\fs.length<1000/\D.nx σ (upd H2 dx (Cw dx (Bd f y fs))))
section
variable{X:Cx}{o e value:Expr}{f:Str}{pos pos':Pos}{ta tv:TE}
theorem BM(he:PE X e ta)(hb:attributeBase e f X.env (eval e X.env)=eval e X.env):PE X (.Attribute e f pos) (Tn X.K ta f):=by
 intro pins s σ H Q I h;refine NR hb (thn (he pins s σ H _ I h) λ u s1 hz_=>?_);obtain⟨x,H1,I1,rx,a,C,dx,fs,v,ex,ea,ed,c,n,l,q⟩:=hz_;subst ex;obtain rfl:u=Value.ref a:=rx;exact OE I1 ea ed c n l λ u' s2 I2 ru=>⟨v,H1,I2,ru,q⟩
theorem J9(ha:PE X o ta)(hv:PE X value tv)(hs:swapsWith value (some (.Attribute o f pos')) pos.line X.env=pure false):PS X (.Assign [.Attribute o f pos'] value pos) (TF X.K ta tv f):=by
 intro pins s σ H D I h;refine plainObj_wpAny_Assign_Attribute (thn (hv pins s σ H _ I h) λ u s1 hz_=>?_) hs;obtain⟨y,H1,I1,ry,q⟩:=hz_;refine thn (ha pins s1 σ H1 _ I1 q) λ ov s2 hz_=>?_;obtain⟨x,H2,I2,rx,a,C,ex,c,n,q2⟩:=hz_;subst ex;obtain rfl:ov=Value.ref a:=rx;rcases q2 with ⟨e0,q2⟩|⟨dx,fs,e1,e2,l,q2⟩
 .exact Mi I2 e0 c n ry λ s3 d hd I3=>⟨σ,_,I3,q2 d hd⟩
 .exact Op I2 e1 e2 c n l ry λ s3 I3=>⟨σ,_,I3,q2⟩
end
def Ed(K:Frag)(C:Addr)(fI:Addr):Bool:=match K.lookup C with
 |some ⟨.type "type",_,.cls cd,sl⟩=>(match cd.mro,sl.toList with
  |.ref C'::bm,[_,_,_,_,some (.builtin n),_]=>C'==C&&n=="ValueError.__new__"&&!cd.hasDel&&tailIn K vErr bm&&nsOkIn K cd.ns&&nsIn K cd.ns "__init__"==some (some (.ref fI))
  |_,_=>false)
 |_=>false
theorem Mz{K:Frag}{h:Heap}{N:Addr}{mg:MGz}{n:Str}{v:Value}(X:K.In h)(G:h.Ns N mg)(e:nsIn K N n=some (some v)):mg n=some v:=by
 obtain⟨o,es,ep,ho,hd,_,hf⟩:=G;unfold nsIn at e;split at e
 .rename_i c d es' n' sl q;have:=X _ _ q;rw[ho]at this;cases this;cases hd;split at e
  .rename_i e' he;cases e;rw[<-hf];unfold nsFind findBy;rw[<-Array.find?_toList,he];rfl
  .split at e<;>cases e
 .cases e
structure XMk(K:Frag)(C fI:Addr):Prop where
 cl:XCls K C
 ei:Ed K C fI=true
 kp:keepIn K (.ref C)=true
 fn:isFn K (.ref fI)=true
theorem XMk.call{K:Frag}{C fI:Addr}(M:XMk K C fI){prog:Program}{w:World}{A:Around}{E:VPz}{s:Shared}{rest:LWz}{Q:VPz}(X:K.In s.heap)(hrest:rest.length<=sizeLine)
  (hq:wpAny (model prog w) (A.under (.builtin "type.__call__" ⟨.ref C::rest,[]⟩)) (call (.ref fI) (.ref (s.heap.objs.size+1)::rest)) (λ r s'=>r=.none/\Q (.ref (s.heap.objs.size+1)) s') E { s with heap:=Co s.heap C rest }) :
  wpAny (model prog w) A (call (.ref C) rest) Q E s:=by
 obtain⟨hh,g,d,t,os⟩:=s;have q:=M.ei;have fnt:typeIn K (.ref fI)=some (.type "function"):=beq_iff_eq.mp M.fn;have hfI:∃oI:Obj,hh.get? fI=some oI/\oI.cls=.type "function":=by
  cases z:K.lookup fI with
  |none=>simp[typeIn,z]at fnt
  |some o=>exact⟨o,X _ _ z,by simpa [typeIn,z] using fnt⟩
 obtain⟨oI,hoI,hcI⟩:=hfI;unfold Ed at q;split at q
 .rename_i dd cd sl ho;split at q
  .rename_i C' bm k0 k1 k2 k3 n k5 hm hs;simp only[aK,beq_iff_eq,cV]at q;obtain⟨⟨⟨⟨⟨rfl,rfl⟩,hdel⟩,ht⟩,hok⟩,hni⟩:=q;obtain⟨nm,bs,mro,ns,qn,hd,sn,sub,ab,col,del⟩:=cd;dsimp only at hm hdel hok hni;subst hm hdel;have hsl:sl=#[k0,k1,k2,k3,some (.builtin "ValueError.__new__"),k5]:=by
    obtain⟨l⟩:=sl;simp only at hs;rw[hs]
   subst hsl;have G:hh.Ns ns (hh.nsMap ns):=.of_isNs (isNs_of_in X hok);exact ON PySem.F.excBase_ValueError (tail_of_in X ht) (X _ _ ho) G (Mz X G hni) hoI hcI hrest hq
  .cases q
 .cases q
theorem ObjOk.there{P:Program}{w:World}{H:Hp}{h:Heap}{a:Addr}{o:HO}(x:ObjOk P w H h a o):∃u,h.get? a=some u:=by
 cases o with
 |lst xs=>obtain⟨_,_,_,_,e⟩:=x;exact⟨_,e⟩
 |tup xs=>obtain⟨_,_,_,p⟩:=x;obtain⟨_,e,_⟩:=p;exact⟨_,e⟩
 |dK kvs=>obtain⟨_,_,_,_,o,_,_,e,_⟩:=x;exact⟨_,e⟩
 |dT kvs=>obtain⟨_,_,_,_,o,_,_,e,_⟩:=x;exact⟨_,e⟩
 |set S n=>obtain⟨o,_,_,_,e,_⟩:=x;exact⟨_,e⟩
 |ins C dx fs=>obtain⟨_,_,_,e,_⟩:=x;exact⟨_,e⟩
 |own y=>obtain⟨_,e⟩:=x;exact⟨_,e⟩
 |xd fs=>obtain⟨_,⟨_,_,_,e,_⟩,_⟩:=x;exact⟨_,e⟩
 |rng lo hi=>obtain⟨_,_,_,e⟩:=x;exact⟨_,e⟩
 |frz ob u=>obtain⟨e,_⟩:=x;exact⟨_,e⟩
 |tbl ps=>exact⟨_,(show h.get? a=some _ from x)⟩
 |met f y=>exact⟨_,(show h.get? a=some _ from x)⟩
 |ext φ=>obtain⟨_,⟨_,e⟩,_⟩:=x;exact⟨_,e⟩
def S1(C:Addr)(names:LSz):Sp:=λ vs H Q _=>∃x ws,vs=.ref x::ws/\ws.length=names.length/\H x=some (Gf C x) /\
 ∀d H',H d=none->H' x=some (Eu C d x)->H' d=some (Cw d (names.zip ws))->(∀a o,a≠x->H a=some o->H' a=some o)->Q .non H'
structure Q7(P:Program)(w:World)(K:Frag)(mg:MGz)(base:Heap)(k:Nat)(x:Str)(C:Addr)(ps names:LSz):Prop where
 few:names.length<=1000
 ex:∃(f:Addr)(fd:FuncData),XMk K C f/\A5 P w K mg base CX0 k f fd ps (S1 C names)/\mg x=some (.ref C)/\Binds K fd ps []
section
variable{X:Cx}{CX:CXT}{k j:Nat}{f C:Addr}{fd:FuncData}{ps names:LSz}{sp:Sp}{E:XK}{x m:Str}{p pos apos:Pos}{e o:Expr}{es:List Expr}{ta:TE}{t:TA}
theorem QX{pins:PNz}{σ:St}{H:Hp}{s:Shared}{Q:VK}{us:LWz}{vs:LUz}(M:XMk X.K C f)(F:A5 X.prog X.w X.K X.mg X.base CX k f fd ps sp)(hr:Room (k+1) X.A)(hb:Binds X.K fd ps [])
  (hx:Eh CX X E) (I:Inv X pins σ H s) (r:Vals vs us) (hz:vs.length<=1000)
  (h:∀x,H x=none->sp (.ref x::vs) (upd H x (Gf C x)) (λ v H2=>v=.non/\Q (.ref x) H2) E) :
  wpAny (model X.prog X.w) X.A (call (.ref C) us) (EP X pins σ Q) X.xe s:=by
 have hq:=h (s.heap.objs.size+1) (I.hok.fresh (bI _));have hus:us.length<=sizeLine:=by rw[<-r.length,sizeLine_eq];lia
 have I2:Inv X pins σ (upd H (s.heap.objs.size+1) (Gf C (s.heap.objs.size+1))) { s with heap:=Co s.heap C us } :=
  I.laid (t':=s.toks) (λ b u z=>Cg z) (bI _) (RF (Iz C us) rfl)
 have r2:Vals (V.ref (s.heap.objs.size+1)::vs) (Value.ref (s.heap.objs.size+1)::us):=.cons rfl r;have hl:(Value.ref (s.heap.objs.size+1)::us++[]).length=ps.length:=by
  have e:=r2.length;rw[F.len _ _ _ _ hq]at e;rw[aL];exact e.symm
 have hb2:=hb { s with heap:=Co s.heap C us } (Value.ref (s.heap.objs.size+1)::us) I2.kIn hl;rw[aL]at hb2;refine M.call I.kIn hus (wpAny_call (codeAny_mono (F.run _ X.stack _ _ ⟨Value.ref (s.heap.objs.size+1)::us,[]⟩ (Value.ref (s.heap.objs.size+1)::us) _ _ E (hr.make C us [])
  (I2.env0.make C us []) hb2 r2 hq) λ r s' hq'=>?_))
 cases r with
 |error e=>exact hx pins σ _ _ e s' I2 hq'
 |ok fl =>
  cases fl with
  |ret u =>
   obtain⟨v,H',I3,rv,ev,q3⟩:=I2.after hq';subst ev;exact⟨rv,⟨V.ref (s.heap.objs.size+1),H',I3,rfl,q3⟩⟩
  |next=>exact False.elim hq'
  |brk=>exact False.elim hq'
  |cont=>exact False.elim hq'
end
structure HE(fr tt:List Addr)(e T:Addr)(fl cls:Value)(d:Option Addr)(h h':Heap):Prop where
 nT:h.get? T=none
 keep:∀b o,b≠e->b∉fr->b∉tt->h.get? b=some o->h'.get? b=some o
 slot:∀b o,b∈fr->h.get? b=some o->∃sl,h'.get? b=some { o with slots:=sl }
 exc:∃vs sl,h'.get? e=some ⟨cls,d,.fields vs,sl⟩/\vs[1]?=some (.ref T)
 tb:∃o ts,h'.get? T=some o/\o.data=.fields ts/\ts[3]?=some fl
 old:∀t o ts,t∈tt->t≠e->h.get? t=some o->o.data=.fields ts->3<ts.size->∃o' ts',h'.get? t=some o'/\o'.data=.fields ts'/\ts'[3]?=some Value.none
section
variable{M:Model}{A:Around}{E:VPz}{s:Shared}{base:Heap}{env:Env}{outer:List Env}{L e:Addr}{cls:Value}{d:Option Addr}{vs:Array Value}{sl:AOz}{Q:Unit->Shared->Prop}
theorem GR{head:Value}{hadNext:Bool}(hfr:A.frames=some (env::outer))(hl:s.heap.FunFrames base (env::outer))(hf:env.frame=some L)(he:s.heap.get? e=some ⟨cls,d,.fields vs,sl⟩)(hsz:1<vs.size)
    (h:∀h' T,HE (frs (env::outer)) [] e T (rawInt L) cls d s.heap h'->Q () { s with heap:=h' }) :
    wpAny M A (do
      let a <-frameOf env
      let pl <-entryPlaceOf L hadNext
      let b <-EntryCells.newEntry head a .none (rawInt L) .none pl
      setField (.ref e) 1 b) Q E s:=by
  have hne:e∉frs (env::outer):=λ hm=>by
    obtain⟨_,o,ho,hnf⟩:=hl.mem hm;rw[he]at ho;cases ho;exact hnf vs rfl
  refine wpAny_bind (wpAny_frameOf_fun hfr hl hf λ h₁ hs=>wpAny_bind (wpAny_entryPlaceOf λ pl hpl=>?_));unfold EntryCells.newEntry newFields;refine wpAny_bind (wpAny_newObj_type ?_ (hpl.sizeOk5 _ _ _ _ _));have e1:h₁.get? e=some ⟨cls,d,.fields vs,sl⟩:=(hs.2.1 e hne).trans he;generalize hob:({ cls:=.type "traceback",dict:=none,data:=.fields ([head,.ref L,.none,rawInt L,.none]++(if pl.isEmpty then List.replicate 6 Value.none else pl)).toArray }:Obj)=ob;have hfb:ob.isFreed=false:=by rw[<-hob];rfl
  have e2:=ag (h:=h₁) ob e1;refine wpAny_setField e2 rfl hsz (h _ h₁.objs.size ?_);have nTe:h₁.objs.size≠e:=eK (aA e1);have kp:∀b o,b≠e->h₁.get? b=some o->((h₁.push ob).update e (Obj.mapFields (·.setIfInBounds 1 (Value.ref h₁.objs.size)))).get? b=some o:=λ b o nb hb=>by
    rw[bz _ _ (Ne.symm nb)];exact ag _ hb
  refine⟨eX (dN hs.1.symm),λ b o nb nf _ hb=>kp b o nb ((hs.2.1 b nf).trans hb),λ b o bf hb=>?_,⟨vs.setIfInBounds 1 (.ref h₁.objs.size),sl,?_,by simp[hsz]⟩,⟨ob,([head,.ref L,.none,rawInt L,.none]++(if pl.isEmpty then List.replicate 6 Value.none else pl)).toArray,?_,by rw[<-hob],?_⟩,λ_ _ _ z=>nomatch z⟩
  · obtain⟨sl',z⟩:=hs.2.2 b o hb
    exact⟨sl',kp b _ (λ q=>hne (q ▸ bf)) z⟩
  · exact bR _ e2 rfl
  · rw[bz _ _ (Ne.symm nTe)];exact aR _ hfb
  · simp
theorem Le(hfr:A.frames=some (env::outer))(hl:s.heap.FunFrames base (env::outer))(hf:env.frame=some L)(he:s.heap.get? e=some ⟨cls,d,.fields vs,sl⟩)(h1:vs[1]?=some Value.none)
  (h:∀h' T,HE (frs (env::outer)) [] e T (rawInt L) cls d s.heap h'->Q () { s with heap:=h' }):wpAny M A (noteFrame (.ref e) env) Q E s:=by
 unfold noteFrame;simp only[hf];refine wpAny_bind (wpAny_field he rfl h1 ?_);rw[if_neg (by decide)];exact GR hfr hl hf he (bj.mp h1).1 h
theorem O2{T1:Addr}{oT:Obj}{ts:Array Value}(hfr:A.frames=some (env::outer))(hl:s.heap.FunFrames base (env::outer))(hf:env.frame=some L)(he:s.heap.get? e=some ⟨cls,d,.fields vs,sl⟩)(h1:vs[1]?=some (.ref T1))
  (hT:s.heap.get? T1=some oT) (hd:oT.data=.fields ts) (h3:ts[3]?=some Value.none) (ne:T1≠e)
  (h:∀h' T,HE (frs (env::outer)) [T1] e T (rawInt L) cls d s.heap h'->Q () { s with heap:=h' }):wpAny M A (noteFrame (.ref e) env) Q E s:=by
 unfold noteFrame;simp only[hf];refine wpAny_bind (wpAny_field he rfl h1 ?_);rw[if_pos (show(Value.ref T1 != Value.none)=true from by simp)];refine wpAny_bind (wpAny_field hT hd h3 ?_);rw[if_neg (show ¬((Value.none==rawInt L)=true) from by simp[rawInt])];have hs3:3<ts.size:=(bj.mp h3).1;refine wpAny_bind (wpAny_setField hT hd hs3 ?_);have oth:∀b,b≠T1->(s.heap.update T1 (Obj.mapFields (·.setIfInBounds 3 Value.none))).get? b=s.heap.get? b:=λ b hb=>bz _ _ (Ne.symm hb);have nT1:T1∉frs (env::outer):=λ hm=>by
  obtain⟨_,o,ho,hnf⟩:=hl.mem hm;rw[hT]at ho;cases ho;exact hnf ts hd
 have self:(s.heap.update T1 (Obj.mapFields (·.setIfInBounds 3 Value.none))).get? T1=some (Obj.mapFields (·.setIfInBounds 3 Value.none) oT):=bR _ hT (Obj.isFreed_of_fields (Obj.data_mapFields hd _));refine GR (s:={ s with heap:=s.heap.update T1 (Obj.mapFields (·.setIfInBounds 3 Value.none)) }) hfr (hl.of_keeps λ b o hb hnf=>⟨o,(oth b λ q=>?_).trans hb,rfl⟩) hf ((oth e (Ne.symm ne)).trans he) (bj.mp h1).1 λ h' T n=>h h' T ?_
 .rw[q,hT]at hb;cases hb;exact hnf ts hd
 .have nT':s.heap.get? T=none:=by
   by_cases q:T=T1
   .have:=n.nT;rw[q]at this;rw[self]at this;cases this
   .rw[<-oth T q];exact n.nT
  refine⟨nT',λ b o nb nf nt hb=>n.keep b o nb nf (by simp) ((oth b (by simpa using nt)).trans hb),λ b o bf hb=>n.slot b o bf ((oth b λ q=>nT1 (q ▸ bf)).trans hb),n.exc,n.tb,λ t o us ht hte hb hdo hsz=>?_⟩;obtain rfl:t=T1:=by simpa using ht
  rw[hT]at hb;cases hb;rw[hd]at hdo;cases hdo;exact⟨_,_,n.keep t _ hte nT1 (by simp) self,Obj.data_mapFields hd _,by simp[hs3]⟩
theorem Hh{T:Addr}{oT:Obj}{ts:Array Value}(he:s.heap.get? e=some ⟨cls,d,.fields vs,sl⟩)(h1:vs[1]?=some (.ref T))(hT:s.heap.get? T=some oT)(hd:oT.data=.fields ts)(hs3:3<ts.size)
  (h:∀h',(∀b,b≠T->h'.get? b=s.heap.get? b)->(∃o' ts',h'.get? T=some o'/\o'.data=.fields ts'/\ts'[3]?=some Value.none)->Q () { s with heap:=h' }):wpAny M A (setFlight (.ref e) none) Q E s:=by
 unfold setFlight;refine wpAny_bind (wpAny_field he rfl h1 ?_);rw[if_pos (show(Value.ref T != Value.none)=true from by simp)];refine wpAny_setField hT hd hs3 (h _ (λ b hb=>bz _ _ (Ne.symm hb)) ⟨_,_,bR _ hT (Obj.isFreed_of_fields (Obj.data_mapFields hd _)),Obj.data_mapFields hd _,by simp[hs3]⟩)
end
section
variable{prog:Program}{w:World}{A:Around}{E:VPz}{s:Shared}{K:Frag}{C fI e:Addr}{d:Option Addr}{env:Env}
theorem Mr{x:Sem Value}{Q:Flow->Shared->Prop}(M:XMk K C fI)(hh:A.handled=none)
  (h:wpAny (model prog w) A x (λ v s₁=>∃e d vs sl,v=.ref e/\K.In s₁.heap/\s₁.heap.get? e=some ⟨.ref C,d,.fields vs,sl⟩/\vs[1]?=some Value.none/\E (.ref e) s₁) E s) :
  wpAny (model prog w) A (raiseStmt env (some x) none) Q E s:=by
 unfold raiseStmt;refine wpAny_bind (wpAny_mono h (λ v s₁ h₁=>?_) λ_ _ x=>x);obtain⟨e,d,vs,sl',rfl,X,he,h1,hE⟩:=h₁;obtain⟨hp,g,dr,tk,os⟩:=s₁;have q:=M.ei;unfold Ed at q;split at q
 .rename_i dd cd sl ho;split at q
  .rename_i C' bm k0 k1 k2 k3 n k5 hm hs;simp only[aK,beq_iff_eq,cV]at q;obtain⟨⟨⟨⟨⟨rfl,rfl⟩,hdel⟩,ht⟩,hok⟩,hni⟩:=q;obtain⟨nm,bs,mro,ns,qn,hd,sn,sub,ab,col,del⟩:=cd;dsimp only at hm hdel hok hni;subst hm hdel;have hsl:sl=#[k0,k1,k2,k3,some (.builtin "ValueError.__new__"),k5]:=by
    obtain⟨l⟩:=sl;simp only at hs;rw[hs]
   subst hsl;have hC:hp.get? C'=some (excClassObj nm qn C' ns bs bm hd sn sub ab col dd k0 k1 k2 k3 k5 "ValueError.__new__"):=X _ _ ho;have hcB:(Value.ref C'::bm).contains (.type "BaseException")=true:=by
    rw[cI,(tail_of_in X ht).hasType (show vErr.contains (.type "BaseException")=true by decide +kernel)];exact dM _
   repeat (first|with_reducible refine wpAny_field he rfl h1 ?_|with_reducible refine wpAny_loadPart_at he ?_|with_reducible refine wpAny_loadPart_at hC ?_|(with_reducible refine wpAny_isSubtype_exc hC ?_;rw[hcB])|wp_step)
   exact wpAny_raiseNew_none hh hE
  .cases q
 .cases q
end
def TbO(T:Addr):HO:=.ext λ h=>∃o ts,h.get? T=some o/\o.data=.fields ts/\ts[3]?=some Value.none
theorem Mc{P:Program}{w:World}{H:Hp}{h:Heap}{T:Addr}(t:∃o ts,h.get? T=some o/\o.data=.fields ts/\ts[3]?=some Value.none):ObjOk P w H h T (TbO T) :=
 ⟨t,let ⟨o,_,e,_⟩:=t;⟨o,e⟩,λ_ _ ⟨o,ts,e,r⟩ k=>⟨o,ts,k _ e,r⟩⟩
def Og(H:Hp)(x C:Addr)(d:Option Addr):Prop:=(d=none/\H x=some (Gf C x))\/∃dx,d=some dx/\H x=some (Eu C dx x)
def Fo(H:Hp)(x C:Addr)(d:Option Addr)(T:Addr):Prop:=H x=some (Fp C d x T)/\H T=some (TbO T)/\T≠x
def thrown(H:Hp)(x C:Addr)(d:Option Addr)(T:Addr):Hp:=upd (upd H T (TbO T)) x (Fp C d x T)
theorem DR{H:Hp}{x C T:Addr}{d:Option Addr}:thrown H x C d T x=some (Fp C d x T):=Af
theorem ER{H:Hp}{x C T:Addr}{d:Option Addr}(n:T≠x):thrown H x C d T T=some (TbO T):=by unfold thrown;rw[Ag n,Af]
theorem AM{H:Hp}{x C T b:Addr}{d:Option Addr}(n:b≠x)(m:b≠T):thrown H x C d T b=H b:=by unfold thrown;rw[Ag n,Ag m]
section
variable{X:Cx}{pins:PNz}{σ:St}{H:Hp}{s:Shared}{x C T:Addr}{d:Option Addr}{h1 h2:Heap}{fl:Value}{tt:List Addr}
theorem Rs(I:Inv X pins σ H s){φ:Heap->Prop}(hx:H x=some (.ext φ))(htt:∀t∈tt,H t=some (TbO t)/\t≠x)(n:HE (frs X.stack) tt x T fl (.ref C) d s.heap h1)(k2:∀b,b≠T->h2.get? b=h1.get? b)
  (t2:∃o ts,h2.get? T=some o/\o.data=.fields ts/\ts[3]?=some Value.none):H T=none/\T≠x/\Un (frs X.stack) [] H (thrown H x C d T) s.heap h2/\HOk X.prog X.w (thrown H x C d T) h2:=by
 have hT:H T=none:=by
  cases q:H T with
  |none=>rfl
  |some u =>
   obtain⟨o,ho⟩:=(I.hok T u q).there;rw[n.nT]at ho;cases ho
 have nTx:T≠x:=λ z=>by rw[z,hx]at hT;cases hT
 have tn:∀b o,s.heap.get? b=some o->b≠T:=λ b o e z=>by rw[z,n.nT]at e;cases e
 have un:∀b,H b=none->b≠x:=λ b e z=>by rw[z,hx]at e;cases e
 have ut:∀b,H b=none->b∉tt:=λ b e z=>by rw[(htt b z).1]at e;cases e
 have hb:∀b u,H b=some u->b≠T:=λ b u e z=>by rw[z,hT]at e;cases e
 have old:∀t∈tt,∃o' ts',h2.get? t=some o'/\o'.data=.fields ts'/\ts'[3]?=some Value.none:=λ t ht=>by
  obtain⟨e,ne⟩:=htt t ht;obtain⟨⟨o,ts,e1,e2,e3⟩,_⟩:=(show ObjOk X.prog X.w H s.heap t (TbO t) from I.hok t _ e);obtain⟨o',ts',f1,f2,f3⟩:=n.old t o ts ht ne e1 e2 (bj.mp e3).1;exact⟨o',ts',(k2 t (hb t _ e)).trans f1,f2,f3⟩
 have exc:∃vs sl,h2.get? x=some ⟨.ref C,d,.fields vs,sl⟩/\vs[1]?=some (.ref T):=by
  obtain⟨vs,sl,e1,e2⟩:=n.exc;exact⟨vs,sl,(k2 x (Ne.symm nTx)).trans e1,e2⟩
 have ne_ext:∀b u,H b=some u->(∀ψ,u≠.ext ψ)->b≠x:=λ b u e z q=>by rw[q,hx]at e;cases e;exact z _ rfl
 refine⟨hT,nTx,⟨λ b o q e nf _=>?_,λ b o q e bf _=>?_,λ b o q e _=>?_,λ b o q _=>?_,λ b xs e=>?_,λ b o u e=>?_,λ b ps e=>⟨#[],?_⟩⟩,λ b u e=>?_⟩
 .exact(k2 b (tn b o q)).trans (n.keep b o (un b e) nf (ut b e) q)
 .obtain⟨sl,z⟩:=n.slot b o bf q;exact⟨sl,(k2 b (tn b o q)).trans z⟩
 .rw[AM (un b e) (tn b o q)];exact e
 .by_cases z:b=x
  .obtain⟨vs,sl,e1,_⟩:=exc;exact⟨_,z ▸ e1⟩
  .by_cases zf:b∈frs X.stack
   .obtain⟨sl,z⟩:=n.slot b o zf q;exact⟨_,(k2 b (tn b o q)).trans z⟩
   .by_cases zt:b∈tt
    .obtain⟨o',_,e1,_⟩:=old b zt;exact⟨o',e1⟩
    .exact⟨o,(k2 b (tn b o q)).trans (n.keep b o z zf zt q)⟩
 .rw[AM (ne_ext b _ e λ ψ z=>by cases z) (hb b _ e)];exact e
 .rw[AM (ne_ext b _ e λ ψ z=>by cases z) (hb b _ e)];exact e
 .rw[AM (ne_ext b _ e λ ψ z=>by cases z) (hb b _ e),e];simp
 .by_cases z:b=x
  .subst z;rw[DR]at e;cases e;obtain⟨vs,sl,e1,e2⟩:=exc;exact RD e1 e2
  .by_cases zT:b=T
   .subst zT;rw[ER nTx]at e;cases e;exact Mc t2
   .rw[AM z zT]at e;by_cases zt:b∈tt
    .rw[(htt b zt).1]at e;cases e;exact Mc (old b zt)
    .have own_ne:∀c,H c=some (.own b)->c≠x/\c≠T:=λ c hc=>⟨ne_ext c _ hc (λ ψ z=>by cases z),hb c _ hc⟩;refine(I.hok b u e).stay (λ c v hc q=>?_) (λ c q=>?_) λ c xs q=>?_
     .have hcH:∃y,H c=some y:=by
       rcases hc with rfl|hc
       .exact⟨u,e⟩
       .exact⟨_,hc⟩
      obtain⟨y,hy⟩:=hcH;refine(k2 c (hb c y hy)).trans (n.keep c v ?_ (λ zf=>by rw[I.stkFree c zf]at hy;cases hy) (λ zt'=>?_) q)
      .rcases hc with rfl|hc
       .exact z
       .exact(own_ne c hc).1
      .rcases hc with rfl|hc
       .exact zt zt'
       .rw[(htt c zt').1]at hc;cases hc
     .rw[AM (own_ne c q).1 (own_ne c q).2];exact q
     .rw[AM (ne_ext c _ q λ ψ z=>by cases z) (hb c _ q)];exact q
theorem FL{E:VPz}{Q:Unit->Shared->Prop}(I:Inv X pins σ H s)(hst:X.stack=X.env::X.outer)(hfr:X.env.frame=some X.env.locals)(hf:Og H x C d\/∃T,Fo H x C d T)
  (h:∀h' T,H T=none->T≠x->Inv X pins σ (thrown H x C d T) { s with heap:=h' }->Q () { s with heap:=h' }) :
  wpAny (model X.prog X.w) X.A (noteFrame (.ref x) X.env) (λ_ s₂=>wpAny (model X.prog X.w) X.A (setFlight (.ref x) none) Q E s₂) E s:=by
 have fr:X.A.frames=some (X.env::X.outer):=hst ▸ I.ok.frames;have ff:s.heap.FunFrames X.base (X.env::X.outer):=hst ▸ I.stack;have rest:∀{φ:Heap->Prop}{tt:List Addr}(hx:H x=some (.ext φ))(htt:∀t∈tt,H t=some (TbO t)/\t≠x)(h1:Heap)(T:Addr),HE (frs (X.env::X.outer)) tt x T (rawInt X.env.locals) (.ref C) d s.heap h1 ->
   wpAny (model X.prog X.w) X.A (setFlight (.ref x) none) Q E { s with heap:=h1 }:=λ{φ tt} hx htt h1 T n=>by
  obtain⟨vs,sl,e1,e2⟩:=n.exc;obtain⟨o,ts,f1,f2,f3⟩:=n.tb;refine Hh (s:={ s with heap:=h1 }) e1 e2 f1 f2 (bj.mp f3).1 λ h2 k2 t2=>?_;obtain⟨hT,nT,un,ok⟩:=Rs I hx htt (hst ▸ n) k2 t2;exact h h2 T hT nT (I.call (g':=s.gens) (d':=s.drawn) (t':=s.toks) (ch:=[]) un ok I.bare (λ b z=>absurd z (by simp)))
 rcases hf with (⟨rfl,hx⟩|⟨dx,rfl,hx⟩)|⟨T,hx,hT,ne⟩
 .obtain⟨⟨vs,sl,e1,e2⟩,_⟩:=(show ObjOk X.prog X.w H s.heap x (Gf C x) from I.hok x _ hx);exact Le fr ff hfr e1 e2 λ h1 T n=>rest (tt:=[]) hx (λ t z=>absurd z (by simp)) h1 T n
 .obtain⟨⟨vs,sl,e1,e2⟩,_⟩:=(show ObjOk X.prog X.w H s.heap x (Eu C dx x) from I.hok x _ hx);exact Le fr ff hfr e1 e2 λ h1 T n=>rest (tt:=[]) hx (λ t z=>absurd z (by simp)) h1 T n
 .obtain⟨⟨vs,sl,e1,e2⟩,_⟩:=(show ObjOk X.prog X.w H s.heap x (Fp C d x T) from I.hok x _ hx);obtain⟨⟨o,ts,f1,f2,f3⟩,_⟩:=(show ObjOk X.prog X.w H s.heap T (TbO T) from I.hok T _ hT);exact O2 fr ff hfr e1 e2 f1 f2 f3 ne λ h1 T' n=>rest (tt:=[T]) hx (λ t z=>by rw[ad.mp z];exact⟨hT,ne⟩) h1 T' n
theorem O6{E:VPz}{Q:Unit->Shared->Prop}(I:Inv X pins σ H s)(hst:X.stack=X.env::X.outer)(hfr:X.env.frame=some X.env.locals)(hf:Og H x C d\/∃T,Fo H x C d T)
  (h:∀h' T,H T=none->T≠x->Inv X pins σ (thrown H x C d T) { s with heap:=h' }->Q () { s with heap:=h' }):wpAny (model X.prog X.w) X.A (leaving X.env (.ref x)) Q E s:=by
 unfold leaving;exact wpAny_bind (FL I hst hfr hf h)
end
def CX1(P:Program)(w:World):CXT:=λ outer H s E e s'=>∃x T C d H',e=Value.ref x/\s'.os=s.os/\AllBare s'.gens/\Un (frs outer) [] H H' s.heap s'.heap/\HOk P w H' s'.heap/\Fo H' x C d T/\E (.ref x) d H'
def U1(X:Cx)(E:XK):Prop:=∀(pins:PNz)(σ:St)(H:Hp)(s:Shared)(x C:Addr)(d:Option Addr),Inv X pins σ H s->(Og H x C d\/∃T,Fo H x C d T) ->
 (∀T,H T=none->T≠x->E (.ref x) d (thrown H x C d T))->X.xe (.ref x) s
section
variable{P:Program}{w:World}{K:Frag}{mg:MGz}{base:Heap}{N:LSz}{qual:Str}{scope:Scope}{f:Addr}{cd:Value}{A:Around}{outer:List Env}{s:Shared}{H:Hp}{E E₁:XK}
theorem QG:U1 (BA (CX1 P w) P w K mg base N qual scope f cd A outer s H E) E:=by
 intro pins σ H1 s1 x C d I hf hE;exact O6 I rfl rfl hf λ h' T hT nT I'=>⟨x,T,C,d,_,rfl,I'.os,I'.bare,I'.base,I'.hok,⟨DR,ER nT,nT⟩,hE T hT nT⟩
theorem SB:PassesOwn (model (BA (CX1 P w) P w K mg base N qual scope f cd A outer s H E).prog (BA (CX1 P w) P w K mg base N qual scope f cd A outer s H E).w) (BA (CX1 P w) P w K mg base N qual scope f cd A outer s H E).A (BA (CX1 P w) P w K mg base N qual scope f cd A outer s H E).env (BA (CX1 P w) P w K mg base N qual scope f cd A outer s H E).xe:=PassesOwn.leaving
end
theorem Fun.okx{P:Program}{w:World}{K:Frag}{mg:MGz}{base:Heap}{x qual:Str}{st:Stmt}{f:Addr}{fd:FuncData}{N ps:LSz}{k:Nat}{sp:Sp}(F:Fun K x qual st f fd)(S:An N ps (Ai st))(len:∀vs H Q E,sp vs H Q E->vs.length=ps.length)
  (hbody:∀(cdv:Value)(A:Around)(outer:List Env)(s:Shared)(H:Hp)(vs:LUz)(Q:VK)(E:XK),Room k (A.deeper (envOfC qual (Ai st) s.heap.objs.size f cdv))->sp vs H Q E ->
   ∃t,PSs (BA (CX1 P w) P w K mg base N qual (Ai st) f cdv A outer s H E) (A8 st) t/\t { nx:=λ_ H'=>Q .non H',rt:=Q } (C0 N vs) H):A5 P w K mg base (CX1 P w) (k+1) f fd ps sp:=by
 obtain⟨oc,od,kV,doc,pm,an,cdv,ct,osl,rfl,lk,hcd⟩:=F.ex;exact NE lk hcd S len λ A outer s H vs Q E hr hsp=>hbody cdv A outer s H vs Q E hr hsp
structure MR(P:Program)(w:World)(K:Frag)(mg:MGz)(base:Heap)(k:Nat)(x:Str)(ps:LSz)(sp:Sp):Prop where
 ex:∃(f:Addr)(fd:FuncData),A5 P w K mg base (CX1 P w) k f fd ps sp/\mg x=some (.ref f)/\keepIn K (.ref f)=true/\Binds K fd ps []
def S2(C:Addr)(names:LSz)(E:XK)(t:TA):TS:=λ_ σ H=>t σ H λ vs H1=>vs.length=names.length /\
 ∀y dx T H2,H1 y=none->Same H1 H2->H2 y=some (Eu C dx y)->H2 dx=some (Cw dx (names.zip vs))->dx≠y->H2 T=none->T≠y->E (.ref y) (some dx) (thrown H2 y C (some dx) T)
section
variable{X:Cx}{k j:Nat}{x:Str}{C:Addr}{ps names:LSz}{sp:Sp}{p pos cpos:Pos}{e:Expr}{es:List Expr}{t:TA}{E E₁:XK}
theorem P2(hX:U1 X E)(D:Q7 X.prog X.w X.K X.mg X.base k x C ps names)(hr:Room j X.A)(ha:PA X (e::es) t)(hc:X.calm=true:=by rfl)(hj:k+1<=j:=by decide)(hg:Gl X x:=by rfl)(hdb:(x==("__debug__":Str))=false:=by decide)
  (he:starEach (e::es) X.env=(false,eval e X.env)::starEach es X.env:=by rfl) (hpl:(backTo cpos (starEach es X.env)).any (·.1)=false:=by rfl):PS X (.Raise (some (.Call (.Name x p) (e::es) [] cpos)) none pos) (S2 C names E t):=by
 intro pins s σ H Dd I h;obtain⟨f,fd,M,F,hm,hb⟩:=D.ex;have pe:wpAny (model X.prog X.w) X.A (eval (.Call (.Name x p) (e::es) [] cpos) X.env) (EP X pins σ λ v H2=>∃y d,v=V.ref y/\Og H2 y C d/\∀T,H2 T=none->T≠y->E (.ref y) d (thrown H2 y C d T)) X.xe s:=by
  refine wpAny_Call_Name_kw (DF I hg hm ?_ hdb);refine callWith_K (h₀:=X.base) I.ok.mod.kin M.kp (thn (ha cpos pins s σ H _ I h) λ us s1 ⟨vs,H1,I1,r,hl,q⟩=>⟨I1.kIn,?_⟩) he hpl;refine QX M F (hr.mono hj) hb GC I1 r (hl ▸ D.few) λ y hy=>⟨y,vs,rfl,hl,Af,λ d H' hd h1 h2 hs=>⟨rfl,y,some d,rfl,.inr ⟨d,rfl,h1⟩,λ T hT nT=>?_⟩⟩;refine q y d T H' hy (λ a o ho=>hs a o (Ae ho hy) ?_) h1 h2 (λ z=>by rw[z,Af]at hd;cases hd) hT nT;rw[Ag (Ae ho hy)];exact ho
 rw[arm_exec_Raise];simp only[evalOpt,Option.map];refine wpAny_bind (wpAny_standAt (Mr M (I.ok.hd hc) ?_));refine wpAny_bind (thn pe λ v s1 ⟨u,H2,I2,r,y,d,ey,fr,hE⟩=>wpAny_bind (wpAny_standAt (wpAny_pure ?_)));subst ey;obtain rfl:v=Value.ref y:=r;have ob:∃vs sl,s1.heap.get? y=some ⟨.ref C,d,.fields vs,sl⟩/\vs[1]?=some Value.none:=by
  rcases fr with ⟨rfl,hx⟩|⟨dx,rfl,hx⟩
  .exact(show ObjOk X.prog X.w H2 s1.heap y (Gf C y) from I2.hok y _ hx).1
  .exact(show ObjOk X.prog X.w H2 s1.heap y (Eu C dx y) from I2.hok y _ hx).1
 obtain⟨vs,sl,e1,e2⟩:=ob;exact⟨y,d,vs,sl,rfl,I2.kIn,e1,e2,hX pins σ H2 s1 y C d I2 (.inl fr) hE⟩
end
def DJ:Nat->Heap
 |0=>{}
 |n+1=>(DJ n).push { cls:=.type "dict",data:=.dict #[] }
theorem DI:∀n,(DJ n).objs.size=n
 |0=>rfl
 |n+1=>by rw[DJ,bU,DI n]
theorem Qn{C C' x T T':Addr}{d d':Option Addr}(h:Fp C d x T=Fp C' d' x T'):C=C'/\d=d'/\T=T':=by
 have h:(HO.ext λ h=>∃vs sl,h.get? x=some ⟨.ref C,d,.fields vs,sl⟩/\vs[1]?=some (.ref T))=HO.ext λ h=>∃vs sl,h.get? x=some ⟨.ref C',d',.fields vs,sl⟩/\vs[1]?=some (.ref T'):=h;injection h with h;have e:=congrFun h ((DJ x).push ⟨.ref C,d,.fields #[.none,.ref T],#[]⟩);have g:((DJ x).push ⟨.ref C,d,.fields #[.none,.ref T],#[]⟩).get? x=some ⟨.ref C,d,.fields #[.none,.ref T],#[]⟩:=dL (DI x).symm rfl;have q:=e.mp ⟨_,_,g,rfl⟩;obtain⟨vs,sl,e1,e2⟩:=q;rw[g]at e1;cases e1;cases e2;exact⟨rfl,rfl,rfl⟩
section
variable{X:Cx}{pins:PNz}{σ:St}{H:Hp}{s:Shared}
theorem Gk{M:Model}{A:Around}{E:VPz}{i:Nat}{n:Str}{pos:Pos}{Q:Unit->Shared->Prop}(I:Inv X pins σ H s)(hN:X.N.Nodup)(hi:X.N[i]?=some n)(hk:X.env.scope.names.lookup n=some .local)
    (h:∀s',Inv X pins (σ.set i none) H s'->Q () s'):wpAny M A (do bindName X.env n .none;unbindBehindTheSuite X.env n pos) Q E s:=by
  obtain⟨m,hn,hl⟩:=id I.loc;have hcls:(X.env.scope.kind==.class||(X.env.scope.kind==.module&&X.env.locals != X.env.globals))=false:=by rw[I.ok.kind];rfl
  have hiσ:i<σ.length:=by rw[I.len];exact(aH.mp hi).1
  refine wpAny_nameGoes_keeps hk hn hcls λ h' v hn' hs=>h _ ?_;have nl:∀b o,X.s₀.heap.get? b=some o->b≠X.env.locals:=λ b o e=>aM (aQ (aA e) I.ok.above);refine⟨I.ok,I.os,I.bare,⟨λ b o e z hb hx=>(hs.2 b (nl b o e)).trans (I.base.keep b o e z hb hx),λ b o e z hb hx=>?_,I.base.free,λ b o e hx=>?_,I.base.tups,I.base.frzs,I.base.tbls⟩,⟨_,hn',λ j y v' e1 e2 e3=>?_⟩,λ y c e=>?_,I.free,I.freeC,λ p hp=>?_,λ b ob e=>?_,by simpa using I.len⟩
  · obtain⟨sl,e1⟩:=I.base.slot b o e z hb hx
    exact⟨sl,(hs.2 b (nl b o e)).trans e1⟩
  · obtain⟨o',e1⟩:=I.base.there b o e hx
    exact⟨o',(hs.2 b (nl b o e)).trans e1⟩
  · by_cases hj:j=i
    · subst hj
      rw[c8 hiσ]at e2;cases e2
    · rw[dj (Ne.symm hj)]at e2
      obtain⟨u',r',q⟩:=hl j y v' e1 e2 e3;refine⟨u',r',?_⟩;rcases q with ⟨k,e⟩|⟨k,c,e,z⟩
      · have ny:y≠n:=λ e=>hj (GS hN e1 (e ▸ hi))
        exact .inl ⟨k,by simp[ny,e]⟩
      · exact .inr ⟨k,c,e,z.sameBut hs (I.cne y c e)⟩
  · obtain⟨w',z⟩:=I.cell y c e
    exact⟨w',z.sameBut hs (I.cne y c e)⟩
  · obtain⟨e,z,ne,nf,d⟩:=I.pin p hp
    exact⟨(hs.2 p.1 ne).trans e,z,ne,nf,d⟩
  · refine(I.hok b ob e).stay (λ c w' hc q=>(hs.2 c ?_).trans q) (λ_ q=>q) λ_ _ q=>q
    rintro rfl;rcases hc with hc|hc
    · rw[<-hc,I.free]at e;cases e
    · rw[I.free]at hc;cases hc
abbrev Cx.suite(X:Cx)(x:Addr):Cx:={ X with A:=X.A.mark (some (.ref x)),calm:=false,xe:=λ_ _=>False }
theorem Inv.suite(I:Inv X pins σ H s)(x:Addr):Inv (X.suite x) pins σ H s :=
 ⟨⟨I.ok.mod,I.ok.kind,I.ok.glob,I.ok.blt,I.ok.above,I.ok.inj,I.ok.has,I.ok.cab,(λ z=>nomatch z),I.ok.frames,I.ok.stk,I.ok.exf,I.ok.bs,I.ok.bsz,I.ok.noex,I.ok.exfs,I.ok.funs,I.ok.frf⟩,I.os,I.bare,I.base,I.loc,I.cell,I.free,I.freeC,I.pin,I.hok,I.len⟩
theorem Inv.unsuite{ok:X.Ok}{x:Addr}(I:Inv (X.suite x) pins σ H s):Inv X pins σ H s :=
 ⟨ok,I.os,I.bare,I.base,I.loc,I.cell,I.free,I.freeC,I.pin,I.hok,I.len⟩
end
def PX(X:Cx)(e:Expr)(t:TE)(E:XK):Prop:=∀(pins:PNz)(s:Shared)(σ:St)(H:Hp)(Q:VK)(Ex:VPz),Inv X pins σ H s->t σ H Q ->
 (∀x T C d H' s',Inv X pins σ H' s'->Fo H' x C d T->E (.ref x) d H'->Ex (.ref x) s')->wpAny (model X.prog X.w) X.A (eval e X.env) (EP X pins σ Q) Ex s
section
variable{X:Cx}{k j:Nat}{x:Str}{C:Addr}{ps:LSz}{sp:Sp}{p pos:Pos}{e:Expr}{es:List Expr}{t:TA}{E:XK}
theorem TY(D:MR X.prog X.w X.K X.mg X.base k x ps sp)(hr:Room j X.A)(ha:PA X.nox (e::es) t)(hj:k<=j:=by decide)(hg:Gl X x:=by rfl)(hdb:(x==("__debug__":Str))=false:=by decide)
  (he:starEach (e::es) X.env=(false,eval e X.env)::starEach es X.env:=by rfl) (hpl:(backTo pos (starEach es X.env)).any (·.1)=false:=by rfl):PX X (.Call (.Name x p) (e::es) [] pos) (Pj sp [] E t) E:=by
 obtain⟨f,fd,F,hm,hk,hb⟩:=D.ex;intro pins s σ H Q Ex I h hx;refine wpAny_Call_Name_kw (DF I hg hm ?_ hdb);refine callWith_K (h₀:=X.base) I.ok.mod.kin hk (wpAny_mono (ha pos pins s σ H _ (I.wish _) h) (λ us s1 ⟨vs,H1,I1',r,q⟩=>⟨I1'.unwish.kIn,?_⟩) λ_ _ z=>False.elim z) he hpl;have I1:Inv X pins σ H1 s1:=I1'.unwish;have q:sp (vs++[]) H1 Q E:=q;rw[aL]at q;have hl:us.length=ps.length:=by rw[<-r.length];exact F.len _ _ _ _ q
 have hb2:=hb s1 us I1.kIn (by rw[aL];exact hl);rw[aL]at hb2;refine wpAny_call (codeAny_mono (F.run X.A X.stack s1 H1 ⟨us,[]⟩ us vs Q E (hr.mono hj) I1.env0 hb2 r q) λ r s' hq=>?_);cases r with
 |error e =>
  obtain⟨x,T,C,d,H',rfl,os,bare,un,hok,fl,q'⟩:=hq;exact hx x T C d H' s' (I1.call' (ch:=[]) os un hok bare (λ b z=>absurd z (by simp))) fl q'
 |ok fl =>
  cases fl with
  |ret u=>exact I1.after hq
  |next=>exact False.elim hq
  |brk=>exact False.elim hq
  |cont=>exact False.elim hq
end
def Sd(im:Nat)(D:Cd):Cd:={ nx:=λ σ H=>D.nx (σ.set im none) H,rt:=D.rt,bk:=λ σ H=>D.bk (σ.set im none) H,ct:=λ σ H=>D.ct (σ.set im none) H }
def Md(wi:TI)(g:TG)(tc:TT)(te:TE)(fr:List (Option Nat)):TE:=λ σ H Q=>wi σ H λ J H1=>∀acc,H1 acc=none->∃W:Nat->Nat->St->Hp->Prop,(∃m,W 0 m (stC fr σ) (upd H1 acc (.lst [])))/\∀i m σ1 H2,W i m σ1 H2 ->
 (J.stop i H2/\Q (.ref acc) H2)\/(J.go i H2/\∀x H3,J.yld i H2 x H3->g x σ1 H3 λ σ4 H4=>tc σ4 H4 λ b Hb=>match b with
  |true=>te σ4 Hb λ v H5=>∃xs,H5 acc=some (.lst xs)/\xs.length<sizeLine/\∃m',m'<m/\W (i+1) m' σ4 (upd H5 acc (.lst (xs++[v])))
  |false=>∃m',m'<m/\W (i+1) m' σ4 Hb)
section
variable{prog:Program}{w:World}{A:Around}{R:Result->Shared->Prop}{s:Shared}
theorem Ib{elt target iter cnd:Expr}{scope:Scope}{pos:Pos}{it acc:Value}{env:Env}(I:Nat->Shared->Prop)
    (turn:∀n s,I n s->wpAny (model prog w) A (pyNext it) (λ r s₁=>match r with
      |none=>R (.ok .next) s₁
      |some v=>wpAny (model prog w) A (letOwnedTupleGo target it v) (λ_ s₁=>wpAny (model prog w) A (assign target env v) (λ_ s₂ =>
          wpAny (model prog w) A (forIn [cnd] true λ c r=>if r=true then do let ok <-isTrue c env (eval c env);pure (ForInStep.yield ok) else pure (ForInStep.yield r)) (λ ok s₃ =>
            if ok=true then wpAny (model prog w) A (eval elt env) (λ x s₄=>wpAny (model prog w) A (call (.builtin "list.append") [acc,x]) (λ_ s₅=>∃m,m<n/\I m s₅) (notedBy (model prog w) A env λ e s'=>R (.error e) s') s₄)
              (notedBy (model prog w) A env λ e s'=>R (.error e) s') s₃
            else ∃m,m<n/\I m s₃) (notedBy (model prog w) A env λ e s'=>R (.error e) s') s₂)
          (notedBy (model prog w) A env λ e s'=>R (.error e) s') s₁) (notedBy (model prog w) A env λ e s'=>R (.error e) s') s₁) (notedBy (model prog w) A env λ e s'=>R (.error e) s') s)
    (n:Nat) (h:I n s) :
    codeAny (model prog w) A (.compLoop (.ListComp elt [⟨target,iter,[cnd],0⟩] scope pos) 0 it acc env) R s:=by
  refine codeAny_loop rfl I (λ n s hI=>?_) n h;show wpAny _ _ ((compTurn (.ListComp elt [⟨target,iter,[cnd],0⟩] scope pos) 0 it acc env).onRaise (λ x=>do noteFrame x env;theTreesLotGoes x)) _ _ s;refine wpAny_noted ?_;rw[compTurn_list];refine wpAny_bind (wpAny_standAt (wpAny_bind (wpAny_mono (turn n s hI) (λ r s₁ h₁=>?_) λ_ _ h'=>h')));cases r with
  |none=>exact wpAny_pure h₁
  |some v =>
    refine wpAny_bind (wpAny_mono h₁ (λ_ s₁ h₁=>?_) λ_ _ h'=>h');refine wpAny_bind (wpAny_mono h₁ (λ_ s₂ h₂=>wpAny_bind (wpAny_mono h₂ (λ ok s₃ h₃=>?_) λ_ _ h'=>h')) λ_ _ h'=>h');cases ok with
    |false=>exact wpAny_pure ⟨rfl,h₃⟩
    |true=>exact wpAny_bind (wpAny_bind (wpAny_mono h₃ (λ x s₄ h₄=>wpAny_bind (wpAny_mono h₄ (λ_ s₅ h₅=>wpAny_pure (wpAny_pure ⟨rfl,h₅⟩)) λ_ _ h'=>h')) λ_ _ h'=>h'))
end
section
variable{X:Cx}{elt tg iter:Expr}{scope:Scope}{pos:Pos}{wi:TI}{g:TG}{te:TE}{N:LSz}{fr:List (Option Nat)}
variable{cnd:Expr}{tc:TT}
theorem Ht{pins:PNz}{σ:St}{H:Hp}{s:Shared}{Q:VK}{cl:List (Str×Addr)}{R:Value->Addr->Result->Shared->Prop}(hc:X.calm=true)(I:Inv X pins σ H s)(hi:PI X tg iter wi)
  (hg:∀cl C s H ex,PG (AO X scope cl N C s H ex) tg g) (hcn:∀cl C s H ex,PT (AO X scope cl N C s H ex) cnd tc) (he:∀cl C s H ex,PE (AO X scope cl N C s H ex) elt te) (ck:Fq X.env.scope X.N scope N fr)
  (c1:∀x c,cl.lookup x=some c->X.env.cells.lookup x=some c) (c2:∀x,(x,NameKind.free)∈scope.names->∃c,cl.lookup x=some c)
  (h:Md wi g tc te fr σ H Q)
  (hR:∀acc C s' H' m,s'.heap.Ns C m->EL X pins H' C->Inv X pins σ H' s'->Q (.ref acc) H'->R (.ref acc) C (.ok .next) s') :
  wpAny (model X.prog X.w) X.A (eval iter X.env) (λ x s₁=>wpAny (model X.prog X.w) X.A (pyIter x) (λ it s₂=>wpAny (model X.prog X.w) X.A (newList []) (λ acc s₃ =>
   wpAny (model X.prog X.w) X.A (newFunctionEnv scope X.env.globals cl [] X.env.qual none .none (some X.env)) (λ cenv s₄ =>
    codeAny (model X.prog X.w) X.A (.compStart (.ListComp elt [⟨tg,iter,[cnd],0⟩] scope pos) 0 it acc { cenv with scope:=relabel scope X.env }) (R acc cenv.locals) s₄) X.xe s₃) X.xe s₂) X.xe s₁) X.xe s:=by
 refine thn (hi pins s σ H _ I h) λ v s1 h1=>thn h1 λ itv s2 h2=>?_;obtain⟨it,fp,tn,J,H2,e,I2,T,st2,f2,q2⟩:=h2;subst e;refine wpAny_newObj_type (wpAny_newFunctionEnv ck.nocell (by intro y hy;simp at hy) (λ h₁ hns₁ hsb₁=>?_) ck.kind);dsimp only at hns₁ hsb₁ |-;have I3:Inv X pins σ (upd H2 s2.heap.objs.size (.lst [])) { s2 with heap:=s2.heap.push { cls:=.type "list",dict:=none,data:=.seq ([]:LWz).toArray } }:=I2.lnew (t':=s2.toks) (its:=[]) .nil (bb _);have acc0:H2 s2.heap.objs.size=none:=I2.fresh;obtain⟨W,⟨m0,w0⟩,turn⟩:=q2 s2.heap.objs.size acc0;generalize hH3:s2.heap.push { cls:=.type "list",dict:=none,data:=.seq ([]:LWz).toArray }=h3 at hns₁ hsb₁ I3 |-;have hz3:h3.objs.size=s2.heap.objs.size+1:=by rw[<-hH3,bU]
 have k23:∀b o,s2.heap.get? b=some o->h3.get? b=some o:=λ b o e=>by rw[<-hH3];exact ag _ e
 have k34:∀b o,h3.get? b=some o->h₁.get? b=some o:=λ b o e=>hsb₁.extBut b o (aM (aA e)) (ag _ e);have fpo:∀b∈fp,∃o,s2.heap.get? b=some o/\∀v,o.data≠.cell v:=T.obj 0 _ st2;have hex:∀b∈fp,EL X pins (upd H2 s2.heap.objs.size (.lst [])) b/\b<h3.objs.size:=λ b hb=>by
  obtain⟨o,eo,_⟩:=fpo b hb;have lt:=aA eo;obtain⟨f0,fr'⟩:=f2 b hb;exact⟨⟨by rw[Ag (aM lt)];exact f0,fr'⟩,by rw[hz3];exact bS lt⟩
 have I4:Inv (AO X scope cl N h3.objs.size { s2 with heap:=h3 } (upd H2 s2.heap.objs.size (.lst [])) fp) [] (stC fr σ) (upd H2 s2.heap.objs.size (.lst [])) { s2 with heap:=h₁,toks:=s2.toks+([]:List (Str×Value)).length } :=
  Hr I3 ck c1 c2 hex (ah _) hns₁ k34 rfl rfl
 have stat:∀{H':Hp},(∀b∈fp,H' b=none)->∀b∈fp,EL (AO X scope cl N h3.objs.size { s2 with heap:=h3 } (upd H2 s2.heap.objs.size (.lst [])) fp) [] H' b:=λ hn b hb =>
  ⟨hn b hb,(I4.ok.exf b hb).1,I4.ok.exfs b hb,.inl hb,(I4.ok.exf b hb).2,λ p hp=>by simp at hp⟩
 have stn:∀i h h',tn i h->(∀b o,h.get? b=some o->h'.get? b=some o)->tn i h':=λ i h h' st kk=>T.keep i h h' st λ b _ o e=>kk b o e;have loop:codeAny (model X.prog X.w) X.A (.compLoop (.ListComp elt [⟨tg,iter,[cnd],0⟩] scope pos) 0 (.ref it) (.ref s2.heap.objs.size) (compEnvC scope cl h3.objs.size X.env)) (R (.ref s2.heap.objs.size) h3.objs.size)
   { s2 with heap:=h₁,toks:=s2.toks+([]:List (Str×Value)).length }:=by
  refine Ib (λ n s'=>∃i σ' H',Inv (AO X scope cl N h3.objs.size { s2 with heap:=h3 } (upd H2 s2.heap.objs.size (.lst [])) fp) [] σ' H' s'/\tn i s'.heap/\(∀b∈fp,H' b=none)/\W i n σ' H') ?_ m0
   ⟨0,_,_,I4,stn _ _ _ st2 λ b o e=>k34 b o (k23 b o e),λ b hb=>(hex b hb).1.1,w0⟩
  rintro n s3 ⟨i,σ3,H3,J3,st3,fr3,w3⟩;rcases turn i n σ3 H3 w3 with ⟨stop,qn⟩|⟨go,step⟩
  .refine B1 (thn (T.done (AO X scope cl N h3.objs.size { s2 with heap:=h3 } (upd H2 s2.heap.objs.size (.lst [])) fp) rfl rfl rfl hc i [] s3 σ3 H3 (λ_ _=>False) J3 (stat fr3) st3 stop) λ r s4 hz_=>?_);obtain⟨hr,J4⟩:=hz_;subst hr;obtain⟨mc,hmc,_⟩:=J4.loc;have I5:Inv X pins σ H3 s4:=I3.call' (ch:=fp) J4.os J4.base J4.hok J4.bare λ b hb=>⟨(hex b hb).1.2.2.2.1,(hex b hb).1.2.1,(hex b hb).1.2.2.2.2.1,(hex b hb).1.2.2.2.2.2⟩;exact hR _ _ s4 H3 mc hmc (I3.fpOk (ah _) J4.free) I5 qn
  .refine B1 (thn (T.item (AO X scope cl N h3.objs.size { s2 with heap:=h3 } (upd H2 s2.heap.objs.size (.lst [])) fp) rfl rfl rfl hc i [] s3 σ3 H3 (λ_ _=>False) J3 (stat fr3) st3 go) λ r s4 hz_=>?_);obtain⟨u,hr,h4⟩:=hz_;subst hr;refine B1 (thn h4 λ_ s5 hz_=>?_);obtain⟨x,H5,J5,r5,y5,st5,fr5⟩:=hz_;have J5':=J5.pinned (stat fr5) (T.obj _ _ st5);refine B1 (thn (hg _ _ _ _ _ _ s5 σ3 H5 x u _ J5' r5 (step x H5 y5)) λ_ s6 hz_=>?_);obtain⟨σ6,H6,J6,q6⟩:=hz_;refine wpAny_tests_one (B1 (thn (hcn _ _ _ _ _ _ s6 σ6 H6 _ J6 q6) λ b sb hz_=>?_));obtain⟨Hb,Jb,qb⟩:=hz_;cases b with
   |false =>
    obtain⟨m',hm',w7⟩:=qb;refine ite_ff ⟨m',hm',i+1,σ6,_,Jb.unpinned,T.keep _ _ _ st5 λ b hb o e=>(Jb.pin (b,o) (az _ (az _ (Bh hb e)))).1,λ b hb=>?_,w7⟩;obtain⟨o,e,d⟩:=T.obj _ _ st5 b hb;exact(Jb.pin (b,o) (az _ (az _ (Bh hb e)))).2.1
   |true =>
    refine ite_tt ?_;refine B1 (thn (he _ _ _ _ _ _ sb σ6 Hb _ Jb qb) λ y s7 hz_=>?_);obtain⟨v7,H7,J7,r7,xs,hx,hz,m',hm',w7⟩:=hz_;refine B1 (thn (F8 _ s7 σ6 H7 (.ref s2.heap.objs.size) [v7] (.ref s2.heap.objs.size) [y] (λ v H8=>H8=upd H7 s2.heap.objs.size (.lst (xs++[v7]))) J7 rfl (.cons r7 .nil) ⟨_,xs,v7,rfl,rfl,hx,hz,rfl⟩) λ_ s8 hz_=>?_);obtain⟨_,H8,J8,_,e8⟩:=hz_;subst e8;refine⟨m',hm',i+1,σ6,_,J8.unpinned,T.keep _ _ _ st5 λ b hb o e=>(J8.pin (b,o) (az _ (az _ (Bh hb e)))).1,λ b hb=>?_,w7⟩;obtain⟨o,e,d⟩:=T.obj _ _ st5 b hb;exact(J8.pin (b,o) (az _ (az _ (Bh hb e)))).2.1
 exact codeAny_compStart_list loop (T.self _ 0 _ _ _ (stn _ _ _ st2 λ b o e=>k34 b o (k23 b o e)) loop)
theorem Ch(hc:X.calm=true)(hi:PI X tg iter wi)(hg:∀cl C s H ex,PG (AO X scope cl N C s H ex) tg g)(hcn:∀cl C s H ex,PT (AO X scope cl N C s H ex) cnd tc)(he:∀cl C s H ex,PE (AO X scope cl N C s H ex) elt te)
  (hk:Er X.env.scope X.N scope N fr=true:=by rfl) (hs:∀x,foldedSetIterable iter X.env x=pure x:=by intro _;rfl):PE X (.ListComp elt [⟨tg,iter,[cnd],0⟩] scope pos) (Md wi g tc te fr):=by
 intro pins s σ H Q I h;have ck:=DK hk;obtain⟨cl,e1,c1,c2⟩:=Gp I.ok ck;rw[eval_ListComp];refine wpAny_comprehension_free (use:=none) (Q:=EP X pins σ Q) rfl hs e1 ck.kind ck.loc (Ht (R:=λ acc C=>compPost (model X.prog X.w) X.A X.xe none (EP X pins σ Q) acc C) hc I hi hg hcn he ck c1 c2 h λ acc C s' H' m hn f I' q=>?_);obtain⟨f0,f1,f2,f3,f4,f5⟩:=f;exact⟨m,hn,λ h' hs'=>⟨.ref acc,H',I'.turned (t':=s'.toks) (λ b o hb e=>hs'.extBut b o hb e) f0 f1 f3 f4 f5,rfl,q⟩⟩
theorem Ea{y:Str}{py spos:Pos}{gy:TG}(hc:X.calm=true)(hy:PG X (.Name y py) gy)(hi:PI X tg iter wi)(hg:∀cl C s H ex,PG (AO X scope cl N C s H ex) tg g)(hcn:∀cl C s H ex,PT (AO X scope cl N C s H ex) cnd tc)(he:∀cl C s H ex,PE (AO X scope cl N C s H ex) elt te)
    (hk:Er X.env.scope X.N scope N fr=true:=by rfl) (hsw:swapsWith (.ListComp elt [⟨tg,iter,[cnd],0⟩] scope pos) (some (.Name y py)) spos.line X.env=pure true:=by rfl) (hs:∀x,foldedSetIterable iter X.env x=pure x:=by intro _;rfl) :
    PS X (.Assign [.Name y py] (.ListComp elt [⟨tg,iter,[cnd],0⟩] scope pos) spos) (QL (Md wi g tc te fr) gy):=by
  intro pins s σ H D I h;have ck:=DK hk;obtain⟨cl,e1,c1,c2⟩:=Gp I.ok ck;rw[exec_Assign_Name_used _ _ _ _ hsw];refine wpAny_bind (wpAny_standAt (wpAny_bind ?_));show wpAny _ X.A (do let _ <-comprehension (.ListComp elt [⟨tg,iter,[cnd],0⟩] scope pos) scope X.env _ (newList []) false (eval iter X.env) (some (assign (.Name y py) X.env))) _ _ s;refine wpAny_bind (wpAny_mono (wpAny_comprehension_free (use:=some (assign (.Name y py) X.env)) (Q:=λ_ s'=>SP X pins D .next s') rfl hs e1 ck.kind ck.loc
    (Ht (R:=λ acc C=>compPost (model X.prog X.w) X.A X.xe (some (assign (.Name y py) X.env)) (λ_ s'=>SP X pins D .next s') acc C) hc I hi hg hcn he ck c1 c2 h λ acc C s' H' m hn f I' q=>?_)) (λ_ s' hq=>wpAny_pure (wpAny_pure hq)) λ_ _ e=>e)
  show wpAny _ X.A (assign (.Name y py) X.env (.ref acc)) _ _ _;obtain⟨oC,es,ep,hoC,hdC,hrC⟩:=id hn;have IP:=I'.pinned (fp:=[C]) (λ b hb=>by rw[ad.mp hb];exact f) (λ b hb=>by rw[ad.mp hb];exact⟨oC,hoC,λ v z=>by rw[hdC]at z;cases z⟩);refine thn (hy _ s' σ H' (.ref acc) (.ref acc) _ IP rfl q) λ_ s'' ⟨σ6,H6,I6,q6⟩=>?_;have pC:=I6.pin (C,oC) (az _ (az _ (Bh (ad.mpr rfl) hoC)));obtain⟨f0,f1,f2,f3,f4,f5⟩:=f;exact⟨m,⟨oC,es,ep,pC.1,hdC,hrC⟩,λ h' hs'=>⟨σ6,H6,I6.unpinned.turned (t':=s''.toks) (λ b o hb e=>hs'.extBut b o hb e) pC.2.1 f1 f3 f4 f5,q6⟩⟩
end
def QK(r r' r'':R2)(ta tb tc td:TE):TE:=λ σ H Q=>ta σ H λ x H1=>tb σ H1 λ y H2=>r x y H2 λ b H3=>∃k,b=.bl k /\
 if k=true then tc σ H3 λ z H4=>r' y z H4 λ b' H5=>∃k',b'=.bl k'/\if k'=true then td σ H5 λ u H6=>r'' z u H6 Q else Q (.bl false) H5 else Q (.bl false) H3
section
variable{X:Cx}{a b c d:Expr}{ta tb tc td:TE}{pos:Pos}
theorem Bn{K:Frag}(hK:X.K=K:=by rfl):IxR X (TW K):=by subst hK;exact Ak
theorem Ci{K:Frag}(hK:X.K=K:=by rfl):IxR X (TX K):=by subst hK;exact AX
end
def fW(acc:Addr)(n:Nat)(Pv:Nat->LUz->St->Hp->Prop)(i m:Nat)(σ:St)(H:Hp):Prop:=i<=n/\m=n-i/\∃xs,xs.length<=i/\H acc=some (.lst xs)/\Pv i xs σ H
def fNx(acc:Addr)(n:Nat)(Pv:Nat->LUz->St->Hp->Prop)(i:Nat)(σ:St)(v:V)(H:Hp):Prop:=∃xs,H acc=some (.lst xs)/\xs.length<sizeLine/\∃m',m'<n-i/\fW acc n Pv (i+1) m' σ (upd H acc (.lst (xs++[v])))
def fSk(acc:Addr)(n:Nat)(Pv:Nat->LUz->St->Hp->Prop)(i:Nat)(σ:St)(H:Hp):Prop:=∃m',m'<n-i/\fW acc n Pv (i+1) m' σ H
theorem fNx.mk{acc:Addr}{n:Nat}{Pv:Nat->LUz->St->Hp->Prop}{i:Nat}{σ:St}{v:V}{H:Hp}{xs:LUz}(hn:n<=sizeLine)(hi:i<n)(hl:xs.length<=i)(ha:H acc=some (.lst xs))(hp:Pv (i+1) (xs++[v]) σ (upd H acc (.lst (xs++[v])))) :
  fNx acc n Pv i σ v H:=⟨xs,ha,by lia,n-(i+1),by lia,hi,rfl,xs++[v],by rw[af,bF];lia,Af,hp⟩
theorem fSk.mk{acc:Addr}{n:Nat}{Pv:Nat->LUz->St->Hp->Prop}{i:Nat}{σ:St}{H:Hp}{xs:LUz}(hi:i<n)(hl:xs.length<=i)(ha:H acc=some (.lst xs))(hp:Pv (i+1) xs σ H):fSk acc n Pv i σ H:=⟨n-(i+1),by lia,hi,rfl,xs,by lia,ha,hp⟩
theorem BF{K:Frag}{a:Addr}{ys:LUz}{g:TG}{tc:TT}{te:TE}{σ:St}{H1:Hp}{acc:Addr}{Qr:Hp->Prop}(Pv:Nat->LUz->St->Hp->Prop)(h0:Pv 0 [] σ (upd H1 acc (.lst [])))
  (hq:∀i xs σ H,i<=ys.length->H acc=some (.lst xs)->Pv i xs σ H->SqL K H a ys)
  (hs:∀i x xs σ H,ys[i]?=some x->i<ys.length->xs.length<=i->H acc=some (.lst xs)->Pv i xs σ H->g x σ H λ σ2 H2=>tc σ2 H2 λ b Hb=>match b with
   |true=>te σ2 Hb λ v H3=>fNx acc ys.length Pv i σ2 v H3
   |false=>fSk acc ys.length Pv i σ2 Hb)
  (hd:∀xs σ H,xs.length<=ys.length->H acc=some (.lst xs)->Pv ys.length xs σ H->Qr H) :
  ∃W:Nat->Nat->St->Hp->Prop,(∃m,W 0 m σ (upd H1 acc (.lst [])))/\∀i m σ1 H2,W i m σ1 H2 ->
   ((Itl K a).stop i H2/\Qr H2)\/((Itl K a).go i H2/\∀x H3,(Itl K a).yld i H2 x H3->g x σ1 H3 λ σ4 H4=>tc σ4 H4 λ b Hb=>match b with
    |true=>te σ4 Hb λ v H5=>∃xs,H5 acc=some (.lst xs)/\xs.length<sizeLine/\∃m',m'<m/\W (i+1) m' σ4 (upd H5 acc (.lst (xs++[v])))
    |false=>∃m',m'<m/\W (i+1) m' σ4 Hb):=by
 refine⟨fW acc ys.length Pv,⟨ys.length,bb _,rfl,[],ah _,Af,h0⟩,?_⟩;rintro i m σ1 H2 ⟨hi,rfl,xs,hl,ha,hp⟩;have hsq:=hq i xs σ1 H2 hi ha hp;rcases dc i ys.length with h|h
 .refine .inr ⟨⟨ys,ys[i],hsq,aq h⟩,?_⟩;rintro x H3 ⟨rfl,hx⟩;exact hs i x xs σ1 H3 (hx ys hsq) h hl ha hp
 .have e:i=ys.length:=ci hi h;subst e;exact .inl ⟨⟨ys,hsq,ah _⟩,hd xs σ1 H2 hl ha hp⟩
theorem CM{lo:Int}{n:Nat}{g:TG}{tc:TT}{te:TE}{σ:St}{H1:Hp}{acc:Addr}{Qr:Hp->Prop}(Pv:Nat->LUz->St->Hp->Prop)(h0:Pv 0 [] σ (upd H1 acc (.lst [])))
  (hs:∀i xs σ H,i<n->xs.length<=i->H acc=some (.lst xs)->Pv i xs σ H->g (.int (lo+i)) σ H λ σ2 H2=>tc σ2 H2 λ b Hb=>match b with
   |true=>te σ2 Hb λ v H3=>fNx acc n Pv i σ2 v H3
   |false=>fSk acc n Pv i σ2 Hb)
  (hd:∀xs σ H,xs.length<=n->H acc=some (.lst xs)->Pv n xs σ H->Qr H) :
  ∃W:Nat->Nat->St->Hp->Prop,(∃m,W 0 m σ (upd H1 acc (.lst [])))/\∀i m σ1 H2,W i m σ1 H2 ->
   ((Itr lo n).stop i H2/\Qr H2)\/((Itr lo n).go i H2/\∀x H3,(Itr lo n).yld i H2 x H3->g x σ1 H3 λ σ4 H4=>tc σ4 H4 λ b Hb=>match b with
    |true=>te σ4 Hb λ v H5=>∃xs,H5 acc=some (.lst xs)/\xs.length<sizeLine/\∃m',m'<m/\W (i+1) m' σ4 (upd H5 acc (.lst (xs++[v])))
    |false=>∃m',m'<m/\W (i+1) m' σ4 Hb):=by
 refine⟨fW acc n Pv,⟨n,bb _,rfl,[],ah _,Af,h0⟩,?_⟩;rintro i m σ1 H2 ⟨hi,rfl,xs,hl,ha,hp⟩;rcases dc i n with h|h
 .refine .inr ⟨h,?_⟩;rintro x H3 ⟨rfl,rfl⟩;exact hs i xs σ1 H3 h hl ha hp
 .have e:i=n:=ci hi h;subst e;exact .inl ⟨ah _,hd xs σ1 H2 hl ha hp⟩
structure MP(K:Frag)(C:Addr):Prop where
 cl:Cls K C
 ha:findIn K (.ref C) "__class__"=some (some (.builtin "object.__class__"))
 hn:specialIn K (.builtin "object.__class__") "__get__"=some (some (.builtin "getset_descriptor.__get__"))
 htk:takesIn K (.builtin "object.__class__")=some true
 hm:mroIn K C (.type "object")=some true
section
variable{X:Cx}
theorem EK:CQ X (.builtin "isinstance") (λ xs H Q=>∃a C dx fs c u b,xs=[.ref a,c]/\H a=some (.ins C dx fs)/\MP X.K C/\RelV c u/\(∀u',RelV c u'->u'=u)/\kitOne X.K (.ref C) u=some b/\Q (.bl b) H):=by
 intro pins s σ H xs us Q I r h;obtain⟨a,C,dx,fs,c,u,b,rfl,he,hc,ru,uq,hk,q⟩:=h;obtain⟨v1,v2,rfl,r1,r2⟩:=MT r;have:=uq v2 r2;subst this;exact IJ I r1 (.ins he hc.cl hc.ha hc.hn hc.htk hc.hm) hk λ tk=>⟨.bl b,H,I.tok tk,rfl,q⟩
end
def Itv(K:Frag)(a:Addr)(n:Nat):It :=
 ⟨λ i H=>∃xs,SqL K H a xs/\xs.length=n/\i<n,λ i H x H'=>H'=H/\∀xs,SqL K H a xs->xs[n-1-i]?=some x,λ i H=>n<=i⟩
theorem Pa{P:Program}{w:World}{K:Frag}{tg:Expr}(a it:Addr)(n:Nat):OP P w K tg (Itv K a n) [it] it (λ i h=>i<=n/\h.IsRevIter it a ((n:Int)-1-i)) where
 mem:=by simp
 obj:=λ i h st b hb=>by
  have e:b=it:=by simpa using hb
  subst e;obtain⟨_,o,e,c,d⟩:=st;exact⟨o,e,λ v z=>by rw[d]at z;cases z⟩
 keep:=λ i h h' st k=>⟨st.1,st.2.at λ o e=>k it (by simp) o e⟩
 item:=by
  intro X hP hw hK hc i pins s σ H E I hf st hg;subst hP hw hK;obtain⟨xs,hq,hn,hi⟩:=hg;obtain⟨hin,st⟩:=st;obtain⟨its,rv,p,hz⟩:=I.list hq;have hx:xs[n-1-i]?=some (xs[n-1-i]'(by lia)):=aq (by lia);obtain⟨u,hu,ru⟩:=rv.get hx;obtain⟨f0,f1,f2,f3,f4,f5⟩:=hf it (by simp);have st':s.heap.IsRevIter it a (((n-1-i:Nat):Int)):=by
   rw[show(((n-1-i:Nat):Int))=(n:Int)-1-i by lia];exact st
  refine wpAny_pyNext_rev_item st' p.isList (x:=u) (by simpa using hu) λ h' st' sb=>?_;have I1:Inv X pins σ H { s with heap:=h' }:=I.turned (t':=s.toks) (λ b o hb e=>(sb.2 b hb).trans e) f0 f1 f3 f4 f5;obtain⟨o,e,c,d⟩:=id st';refine⟨u,rfl,NA (s:={ s with heap:=h' }) e c d (by decide) ⟨_,H,I1,ru,⟨rfl,λ ys hy=>by rw[I.list_inj hy hq];exact hx⟩,⟨by lia,?_⟩,λ b hb=>(hf b hb).1⟩⟩;rw[show(n:Int)-1-((i+1:Nat):Int)=((n-1-i:Nat):Int)-1 by lia];exact st'
 done:=by
  intro X hP hw hK hc i pins s σ H E I hf st hg;subst hP hw hK;obtain⟨hin,st⟩:=st;obtain⟨f0,f1,f2,f3,f4,f5⟩:=hf it (by simp);have e:i=n:=ci hin hg;subst e;rw[show(i:Int)-1-(i:Int)=-1 by lia]at st;exact wpAny_pyNext_rev_end (I.ok.hd hc) st λ h' eb=>⟨rfl,I.turned (t':=s.toks) (λ b o hb e=>eb b o hb e) f0 f1 f3 f4 f5⟩
 self:=λ_ _ _ _ _ st h=>wpAny_pyIter_revIter st.2 h
def Vj(K:Frag)(ta:TA):TI:=λ σ H R=>ta σ H λ vs H1=>∃a xs,vs=[.ref a]/\SqL K H1 a xs/\R (Itv K a xs.length) H1
theorem Ie:bootBuiltins "reversed"=some (.type "reversed"):=rfl
section
variable{X:Cx}{tg:Expr}
theorem Rg{a:Expr}{ta:TA}{p pos:Pos}(hg:Gl X "reversed")(hm:X.mg "reversed"=none)(ha:PA X [a] ta)(hs:starEach [a] X.env=[(false,eval a X.env)]:=by rfl) :
  PI X tg (.Call (.Name "reversed" p) [a] [] pos) (Vj X.K ta):=by
 intro pins s σ H R I h;refine Call_ (EG I hg hm Ie (PyProof.Rows.callWith_type1 (thn (ha pos pins s σ H _ I h) λ us s1 hz_=>?_) hs rfl));obtain⟨vs,H1,I1,r1,q1⟩:=hz_;obtain⟨b,xs,e,hq,q⟩:=q1;subst e;cases r1 with
 |cons r rr =>
  cases rr;cases r;obtain⟨its,rv,pl,hz⟩:=I1.list hq;have hl:=rv.length;refine call_reversed_list pl.isList ?_;have I2:Inv X pins σ H1 { s1 with heap:=s1.heap.push (revObj b ((its.toArray.size:Int)-1)) }:=I1.kept (t':=s1.toks) λ c o e=>ag _ e;refine wpAny_pyIter_revIter (s:={ s1 with heap:=s1.heap.push (revObj b ((its.toArray.size:Int)-1)) }) ⟨_,aR _ rfl,rfl,rfl⟩ ?_;refine⟨s1.heap.objs.size,[s1.heap.objs.size],_,_,H1,rfl,I2,Pa b _ xs.length,⟨bb _,⟨_,aR _ rfl,rfl,?_⟩⟩,λ c hc=>?_,q⟩
  .show Data.fields _=Data.fields _;rw[show((its.toArray.size:Int)-1)=(xs.length:Int)-1-((0:Nat):Int) by rw[au,<-hl];lia]
  .have e:c=s1.heap.objs.size:=by simpa using hc
   subst e;exact I1.fpOk (ah _) (I1.hok.fresh (ah _))
end
theorem R8{K:Frag}{a:Addr}{xs:LUz}{g:TG}{tb:TS}{D:Cd}{σ:St}{H:Hp}(Pv:Nat->St->Hp->Prop)(h0:Pv 0 σ H)(hl:∀i σ H,i<=xs.length->Pv i σ H->SqL K H a xs)
  (hs:∀i x σ H,xs[xs.length-1-i]?=some x->i<xs.length->Pv i σ H->g x σ H λ σ2 H2=>tb { D with nx:=Pv (i+1),ct:=Pv (i+1),bk:=D.nx } σ2 H2) (hd:∀σ H,Pv xs.length σ H->D.nx σ H) :
  ∃W:Nat->Nat->St->Hp->Prop,(∃m,W 0 m σ H)/\∀i m σ H,W i m σ H ->
   ((Itv K a xs.length).stop i H/\D.nx σ H)\/((Itv K a xs.length).go i H/\∃N:St->Hp->Prop,(∀σ' H',N σ' H'->∃m',m'<m/\W (i+1) m' σ' H')/\∀x H',(Itv K a xs.length).yld i H x H'->g x σ H' λ σ2 H2=>tb { D with nx:=N,ct:=N,bk:=D.nx } σ2 H2):=by
 refine⟨λ i m σ H=>m=xs.length-i/\i<=xs.length/\Pv i σ H,⟨xs.length,by simp,bb _,h0⟩,?_⟩;rintro i m σ H ⟨rfl,hi,p⟩;have q:=hl i σ H hi p;by_cases hlt:i<xs.length
 .refine .inr ⟨⟨xs,q,rfl,hlt⟩,Pv (i+1),λ σ' H' p'=>⟨xs.length-(i+1),by lia,rfl,hlt,p'⟩,λ x H' y=>?_⟩;obtain⟨e,y⟩:=y;subst e;exact hs i x σ _ (y xs q) hlt p
 .have e:i=xs.length:=by lia
  subst e;exact .inl ⟨ah _,hd σ H p⟩
structure FunD(K:Frag)(x qual:Str)(st:Stmt)(f:Addr)(fd:FuncData):Prop where
 ex:∃(oc:Value)(od:Option Addr)(T:Addr)(kV doc pm:Value)(an:Option Addr)(cdv ct:Value)(osl:AOz)(o:Obj)(n:Nat),
  fd=fnOf x qual (B5 st) (A8 st) (Ai st) (.ref T) kV doc pm an cdv ct/\K.lookup f=some ⟨oc,od,.func fd,osl⟩/\codeIn K cdv qual=true/\K.lookup T=some o/\o.data=.seq #[.none] n
 kp:keepIn K (.ref f)=true
section
variable{P:Program}{w:World}{K:Frag}{mg:MGz}{base:Heap}
theorem FunD.ok{x qual:Str}{st:Stmt}{f:Addr}{fd:FuncData}{N ps:LSz}{k:Nat}{sp:Sp}(F:FunD K x qual st f fd)(S:An N ps (Ai st))(len:∀vs H Q E,sp vs H Q E->vs.length=ps.length)
  (hbody:∀(cdv:Value)(A:Around)(outer:List Env)(s:Shared)(H:Hp)(vs:LUz)(Q:VK)(E:XK),Room k (A.deeper (envOfC qual (Ai st) s.heap.objs.size f cdv))->sp vs H Q E ->
   ∃t,PSs (BA CX0 P w K mg base N qual (Ai st) f cdv A outer s H E).nox (A8 st) t/\t { nx:=λ_ H'=>Q .non H',rt:=Q } (C0 N vs) H):A5 P w K mg base CX0 (k+1) f fd ps sp:=by
 obtain⟨oc,od,T,kV,doc,pm,an,cdv,ct,osl,o,n,rfl,lk,hcd,lT,dT⟩:=F.ex;refine NE lk hcd S len λ A outer s H vs Q E hr hsp=>?_;obtain⟨t,h,q⟩:=hbody cdv A outer s H vs Q E hr hsp;exact⟨t,h.nox,q⟩
theorem FunD.binds{x qual:Str}{st:Stmt}{f:Addr}{fd:FuncData}{ps:LSz}{ds:LWz}(F:FunD K x qual st f fd)
  (h:∀(T:Addr)(kV doc pm:Value)(an:Option Addr)(cdv ct:Value)(us:LWz),(us++ds).length=ps.length->∃k:Option (Array Value)->Sem (List (Str×Value)),
   bindArgs (fnOf x qual (B5 st) (A8 st) (Ai st) (.ref T) kV doc pm an cdv ct) ⟨us,[]⟩=seqItems? (.ref T) >>= k/\k (some #[.none])=pure (ps.zip (us++ds))):Binds K fd ps ds:=by
 obtain⟨oc,od,T,kV,doc,pm,an,cdv,ct,osl,o,n,rfl,lk,hcd,lT,dT⟩:=F.ex;intro s us X hl;obtain⟨k,h1,h2⟩:=h T kV doc pm an cdv ct us hl;exact .of_defaults rfl (X _ _ lT) dT h1 h2
end
def PXS(X:Cx)(st:Stmt)(t:XK->TS):Prop:=∀(E:XK)(pins:PNz)(s:Shared)(σ:St)(H:Hp)(D:Cd)(Ex:VPz),Inv X pins σ H s->t E D σ H ->
 (∀x T C d H' s',Inv X pins σ H' s'->Fo H' x C d T->E (.ref x) d H'->Ex (.ref x) s')->wpAny (model X.prog X.w) X.A (exec st X.env) (SP X pins D) Ex s
mutual
def DAt(H:Hp):D->V->Prop
 |.at u,v=>v=u/\CL u=true
 |.tup ds,v=>∃a xs,v=.ref a/\H a=some (.tup xs)/\Ii H ds xs
 |.lst ds,v=>∃a xs,v=.ref a/\H a=some (.lst xs)/\Ii H ds xs
def Ii(H:Hp):Ds->LUz->Prop
 |.nil,xs=>xs=[]
 |.cons d r,xs=>∃x ys,xs=x::ys/\DAt H d x/\Ii H r ys
end
mutual
theorem Qt{H H':Hp}(s:Same H H'):∀(d:D){v:V},DAt H d v->DAt H' d v
 |.at u,v,h=>by rw[DAt]at h |-;exact h
 |.tup ds,v,h=>by
  rw[DAt]at h |-;obtain⟨a,xs,e,q,r⟩:=h;exact⟨a,xs,e,s _ _ q,FF s ds r⟩
 |.lst ds,v,h=>by
  rw[DAt]at h |-;obtain⟨a,xs,e,q,r⟩:=h;exact⟨a,xs,e,s _ _ q,FF s ds r⟩
theorem FF{H H':Hp}(s:Same H H'):∀(ds:Ds){xs:LUz},Ii H ds xs->Ii H' ds xs
 |.nil,xs,h=>by rw[Ii]at h |-;exact h
 |.cons d r,xs,h=>by
  rw[Ii]at h |-;obtain⟨x,ys,e,p,q⟩:=h;exact⟨x,ys,e,Qt s d p,FF s r q⟩
end
mutual
theorem Tc{K:Frag}{H:Hp}:∀(d:D){v:V},DAt H d v->DIs K H d v
 |.at u,v,h=>by rw[DAt]at h;rw[DIs];exact h
 |.tup ds,v,h=>by
  rw[DAt]at h;rw[DIs];obtain⟨a,xs,e,q,r⟩:=h;exact⟨a,xs,e,SqT.of q,Kg ds r⟩
 |.lst ds,v,h=>by
  rw[DAt]at h;rw[DIs];obtain⟨a,xs,e,q,r⟩:=h;exact⟨a,xs,e,SqL.of q,Kg ds r⟩
theorem Kg{K:Frag}{H:Hp}:∀(ds:Ds){xs:LUz},Ii H ds xs->DIss K H ds xs
 |.nil,xs,h=>by rw[Ii]at h;rw[DIss];exact h
 |.cons d r,xs,h=>by
  rw[Ii]at h;rw[DIss];obtain⟨x,ys,e,p,q⟩:=h;exact⟨x,ys,e,Tc d p,Kg r q⟩
end
def DO(c:Addr)(q:Str):HO:=.ext λ h=>∃o vs t,h.get? c=some o/\o.data=.fields vs/\vs[1]?=some (.str q t)
def BS(f:Addr)(o:Obj):HO:=.ext λ h=>h.get? f=some o
theorem OL{P:Program}{w:World}{H:Hp}{h:Heap}{c:Addr}{q:Str}(x:ObjOk P w H h c (DO c q)):h.CodeRec (.ref c) q:=by
 obtain⟨⟨o,vs,t,e,d,v⟩,_⟩:=x;exact⟨c,o,vs,t,rfl,e,d,v⟩
theorem Qx{P:Program}{w:World}{H:Hp}{h:Heap}{c:Addr}{q:Str}(x:h.CodeRec (.ref c) q):ObjOk P w H h c (DO c q):=by
 obtain⟨c',o,vs,t,e,g,d,v⟩:=x;cases e;exact⟨⟨o,vs,t,g,d,v⟩,⟨o,g⟩,λ h1 h2 ⟨o,vs,t,e,d,v⟩ k=>⟨o,vs,t,k o e,d,v⟩⟩
theorem JS{P:Program}{w:World}{H:Hp}{h:Heap}{f:Addr}{o:Obj}(x:h.get? f=some o):ObjOk P w H h f (BS f o):=⟨x,⟨o,x⟩,λ h1 h2 e k=>k o e⟩
section
variable{X:Cx}{pins:PNz}{σ:St}{H:Hp}{s:Shared}{h1:Heap}
theorem Inv.grow{T c':Addr}{ps more:Array Value}{o:HO}{t':Nat}(I:Inv X pins σ H s)(hT:H T=some (.tbl ps))(k:∀b u,b≠T->s.heap.get? b=some u->h1.get? b=some u)(eT:h1.get? T=some (tabObj (ps++more)))
  (hc:s.heap.objs.size<=c') (new:ObjOk X.prog X.w (upd (upd H T (.tbl (ps++more))) c' o) h1 c' o):Inv X pins σ (upd (upd H T (.tbl (ps++more))) c' o) { s with heap:=h1,toks:=t' }:=by
 have hn:H c'=none:=I.hok.fresh hc;have nT:T≠c':=Ae hT hn;have ne:∀{b:Addr}{u:HO},H b=some u->(∀ps,u≠.tbl ps)->b≠T:=λ{b u} e nu z=>by rw[z,hT]at e;cases e;exact nu _ rfl
 have to:∀{b:Addr}{u:HO},H b=some u->(∀ps,u≠.tbl ps)->(upd (upd H T (.tbl (ps++more))) c' o) b=some u:=λ{b u} e nu=>by rw[Ag (Ae e hn),Ag (ne e nu)];exact e
 refine I.un ⟨λ b u q n _ _=>k b u (λ z=>by rw[z,hT]at n;cases n) q,λ b u q n _ _=>⟨u.slots,k b u (λ z=>by rw[z,hT]at n;cases n) q⟩,λ b u q n _=>?_,λ b u q _=>?_,
  λ b xs q=>to q (λ_ z=>nomatch z),λ b u xs q=>to q (λ_ z=>nomatch z),λ b ps' q=>?_⟩ λ b u e=>?_
 .rw[Ag (aM (aQ (aA q) hc)),Ag (λ z=>by rw[z,hT]at n;cases n)];exact n
 .by_cases z:b=T
  .exact⟨_,by rw[z];exact eT⟩
  .exact⟨u,k b u z q⟩
 .by_cases z:b=T
  .subst z;rw[hT]at q;cases q;exact⟨more,by rw[Ag nT,Af]⟩
  .exact⟨#[],by rw[Ag (Ae q hn),Ag z,q];simp⟩
 .by_cases z:b=c'
  .subst z;rw[Af]at e;cases e;exact new
  .rw[Ag z]at e;by_cases zT:b=T
   .subst zT;rw[Af]at e;cases e;exact eT
   .rw[Ag zT]at e;refine(I.hok b u e).stay (λ c v hcb r=>k c v ?_ r) (λ c r=>to r (λ_ z=>nomatch z)) λ c xs r=>to r (λ_ z=>nomatch z);rcases hcb with rfl|hcb
    .exact zT
    .exact ne hcb (λ_ z=>nomatch z)
end
structure Tm(K:Frag)(mg:MGz):Prop where
 ex:∃bm sl,mg "__builtins__"=some (.ref bm)/\bm≠builtinsNs/\bm≠mainGlobals/\K.lookup bm=some ⟨.type "module",some builtinsNs,.plain,sl⟩
abbrev Cr(mg:MGz)(qual:Str)(params:Arguments)(body:Expr)(scope:Scope)(clos:List (Str×Addr))(c':Addr)(ctv:Value):Obj:=kla_obj "<lambda>" qual params body scope clos ((mg "__name__").getD .none) c' ctv
def Tw(mg:MGz)(T:Addr)(pos:Pos)(params:Arguments)(body:Expr)(scope:Scope)(clos:List (Str×Addr))(qual:Str):TE:=λ σ H Q=>∃ps,H T=some (.tbl ps)/\TriplesOk ps.toList /\
 ((codeAmong pos ps.toList=none/\∀c' f ctv,H c'=none->H f=none->c'≠f->c'≠T->f≠T->Q (.ref f) (upd (upd (upd H T (.tbl (ps++#[rawInt pos.line,rawInt pos.col,.ref c']))) c' (DO c' qual)) f (BS f (Cr mg qual params body scope clos c' ctv)))) \/
  ∃c',codeAmong pos ps.toList=some (.ref c')/\H c'=some (DO c' qual)/\∀f ctv,H f=none->Q (.ref f) (upd H f (BS f (Cr mg qual params body scope clos c' ctv))))
section
variable{X:Cx}
theorem S9{params:Arguments}{body:Expr}{scope:Scope}{pos:Pos}{c T:Addr}{clos:List (Str×Addr)}{qual:Str}(hcode:X.env.code=.ref c)(hC:∀h,X.K.In h->CodeHd h c T)(hB:Tm X.K X.mg)(hdef:defaultsOf params X.env=([],[]))
  (hcl:closureFor scope X.env=pure clos) (hq:X.env.qual++"<lambda>"=qual):PE X (.Lambda params body scope pos) (Tw X.mg T pos params body scope clos qual):=by
 intro pins s σ H Q I h;obtain⟨ps,hT,ht,alt⟩:=h;have hP:s.heap.get? T=some (tabObj ps):=I.hok T _ hT;have hg:s.heap.Ns mainGlobals X.mg:=I.mod.glob.keeps I.bk;obtain⟨bm,sl,b1,b2,b3,b4⟩:=hB.ex;have hbm:X.base.get? bm=some ⟨.type "module",some builtinsNs,.plain,sl⟩:=I.mod.kin bm _ b4;have hbT:bm≠T:=λ z=>by
  have:=(I.bs bm _ hbm).2;rw[z,hT]at this;cases this
 have hgT:mainGlobals≠T:=λ z=>by
  obtain⟨o,es,ep,e,_⟩:=I.mod.glob;have:=(I.bs _ _ e).2;rw[z,hT]at this;cases this
 have hb:s.heap.BuiltinsAt X.mg T:=⟨bm,_,b1,b2,b3,hbT,I.bk bm _ hbm,rfl,rfl,rfl⟩;refine kla_eval hdef ?_;rw[hq];rcases alt with ⟨hnf,q⟩|⟨c',hf,hc',q⟩
 .refine kla_makeFunction hcl I.ok.glob hg hcode (hC _ I.kIn) hP ht hnf hgT hb λ c' ctv h' tk hx hge hlt hrec htb=>?_;have I1:=I.grow (t':=tk) (h1:=h') (c':=c') (o:=DO c' qual) (more:=#[rawInt pos.line,rawInt pos.col,.ref c']) hT (λ b u nb e=>hx b u nb e) htb hge (Qx hrec);have hn:H c'=none:=I.hok.fresh hge;have hnf':H h'.objs.size=none:=I.hok.fresh (ba hge (aF hlt));have I2:=I1.laid (a:=h'.objs.size) (o:=BS h'.objs.size (Cr X.mg qual params body scope clos c' ctv)) (t':=tk) (h':=h'.push (Cr X.mg qual params body scope clos c' ctv)) (λ b u e=>ag _ e) (ah _) (JS (aR _ rfl));exact⟨.ref h'.objs.size,_,I2,rfl,q c' h'.objs.size ctv hn hnf' (aM hlt) (Ne.symm (Ae hT hn)) (Ne.symm (Ae hT hnf'))⟩
 .refine kla_makeFunctionHit hcl I.ok.glob hg hcode (hC _ I.kIn) hP ht hf hb λ ctv h' tk hk hsz=>?_;have hnf':H h'.objs.size=none:=I.hok.fresh hsz;have I1:=I.kept (t':=tk) hk;have I2:=I1.laid (a:=h'.objs.size) (o:=BS h'.objs.size (Cr X.mg qual params body scope clos c' ctv)) (t':=tk) (h':=h'.push (Cr X.mg qual params body scope clos c' ctv)) (λ b u e=>ag _ e) (ah _) (JS (aR _ rfl));exact⟨.ref h'.objs.size,_,I2,rfl,q h'.objs.size ctv hnf'⟩
end
def Q9(Ts:List Addr)(H:Hp):Prop:=(∀b,H b=none\/(∃o xs,H b=some (.frz o (.lst xs)))\/(b∈Ts/\H b=some (.tbl #[])))/\∀T∈Ts,H T=some (.tbl #[])
theorem Ki{h:Heap}{c T:Addr}(x:CodeHd h c T):isCodeTable h T:=by
 obtain⟨o,vs,file,tf,flags,tg,inF,text,tt,e1,e2,e3,e4,_⟩:=x;exact⟨c,o,vs,e1,e2,e3,e4⟩
theorem law_callT{P:Program}{w:World}{K:Frag}{mg mb:MGz}{CX:CXT}{k:Nat}{fa a:Addr}{fd:FuncData}{x:Str}{sp:Sp}{s₁:Shared}{vs:LWz}{ns:List Int}{Ts:List Addr}
  (KX:K.In s₁.heap) (hns:s₁.heap.Ns mainGlobals mg) (hb:s₁.heap.Ns builtinsNs mb) (hbb:∀x:Str,x≠"__name__"->mb x=bootBuiltins x) (hlim:s₁.heap.NoLimit) (hg:s₁.gens=#[])
  (ha:s₁.heap.get? a=some { cls:=.type "list",data:=.seq vs.toArray }) (hi:IntsAre vs ns) (hl:ns.length<=sizeLine) (hr:Room k callerA)
  (hT:∀T∈Ts,s₁.heap.get? T=some (tabObj #[])/\K.lookup T=none/\∃c,CodeHd s₁.heap c T)
  (F:∀base:Heap,K.In base->base.Ns mainGlobals mg->A5 P w K mg base CX k fa fd [x] sp) (hbind:∀(s:Shared)(u:Value),BindsTo s fd ⟨[u],[]⟩ [(x,u)])
  (hsp:∀H:Hp,Q9 Ts H->SqL K H a (ns.map V.int)->sp [.ref a] H (λ v _=>v=.bl true) λ_ _ _=>False)
  (hCX:∀H e s',CX [] H s₁ (λ_ _ _=>False) e s'->False) :
  codeAny (model P w) callerA (.call (.ref fa) ⟨[.ref a],[]⟩) (λ r s'=>r=.ok (.ret (.bool true))/\OldK s₁.heap s'.heap/\s'.os=s₁.os/\AllBare s'.gens) s₁:=by
 have rv:=Ij hi;have lenV:=hi.length;have core:∀H:Hp,Q9 Ts H->SqL K H a (ns.map V.int)->HOk P w H s₁.heap->(∀b,H b≠none->b=a\/b∈Ts)->(H a≠none->K.lookup a=none) ->
   codeAny (model P w) callerA (.call (.ref fa) ⟨[.ref a],[]⟩) (λ r s'=>r=.ok (.ret (.bool true))/\OldK s₁.heap s'.heap/\s'.os=s₁.os/\AllBare s'.gens) s₁:=by
  intro H hO hS hok hA hK;have base_of:∀{b:Addr}{o:Obj},s₁.heap.get? b=some o->H b=none->(Kd s₁.heap H).get? b=some o:=λ e n=>Qd e n;have noA:∀{b:Addr}{o:Obj}{es:Array DictEntry}{ep:Nat},s₁.heap.get? b=some o->o.data=.dict es ep->H b=none:=λ{b o es ep} e d=>by
   cases q:H b with
   |none=>rfl
   |some u =>
    rcases hA b (by rw[q];simp) with e'|e'
    .subst e';rw[ha]at e;cases e;have d':Data.seq vs.toArray _=Data.dict es ep:=d;cases d'
    .rw[(hT b e').1]at e;cases e;cases d
  have nsK:∀{b:Addr}{m:MGz},s₁.heap.Ns b m->(Kd s₁.heap H).Ns b m:=λ{b m} ⟨o,es,ep,e,d,r⟩=>⟨o,es,ep,base_of e (noA e d),d,r⟩;have hKb:K.In (Kd s₁.heap H):=λ b o e=>base_of (KX b o e) (by
   cases q:H b with
   |none=>rfl
   |some u =>
    rcases hA b (by rw[q];simp) with e'|e'
    .subst e';rw[hK (by rw[q];simp)]at e;cases e
    .rw[(hT b e').2.1]at e;cases e)
  have hM:Mod K mg (Kd s₁.heap H):=⟨hKb,nsK hns,⟨mb,nsK hb,hbb⟩,let ⟨mc,h1,h2⟩:=hlim;⟨mc,nsK h1,h2⟩⟩;have e0:Env0 P w K mg (Kd s₁.heap H) callerA [] s₁ H:=⟨rfl,hM,λ b o e=>Rr e,dN (OC _ _),trivial,λ b hb=>absurd (show b∈([]:List Addr) from hb) (by simp),hok,.of_eq hg⟩;refine codeAny_mono ((F _ hKb (nsK hns)).run callerA [] s₁ H ⟨[.ref a],[]⟩ [.ref a] [.ref a] _ _ hr e0 (hbind s₁ (.ref a)) (.cons rfl .nil) (hsp H hO hS)) λ r s' h=>?_;cases r with
  |error e=>exact(hCX H e s' h).elim
  |ok fl =>
   cases fl with
   |next=>exact False.elim h
   |brk=>exact False.elim h
   |cont=>exact False.elim h
   |ret u =>
    obtain⟨v,H',os,bare,un,hok',r',q⟩:=h;have q':v=.bl true:=q;subst q';obtain rfl:u=Value.bool true:=r';have old:∀b o,s₁.heap.get? b=some o->asItWas s₁.heap s'.heap b o/\∃o',s'.heap.get? b=some o':=λ b o e=>by
     cases q:H b with
     |none =>
      have:=un.keep b o e q (by intro z;exact absurd (show b∈([]:List Addr) from z) (by simp)) (by simp);exact⟨.inl this,_,this⟩
     |some u =>
      rcases hO.1 b with z|⟨ob,xs,z⟩|⟨hb',z⟩
      .rw[q]at z;cases z
      .have z2:=un.frzs b ob _ z;obtain⟨e1,_⟩:=hok b _ z;obtain⟨e2,_⟩:=hok' b _ z2;rw[e]at e1;cases e1;exact⟨.inl e2,_,e2⟩
      .obtain⟨more,z2⟩:=un.tbls b #[] z;have e2:s'.heap.get? b=some (tabObj (#[]++more)):=hok' b _ z2;obtain⟨e1,_,c,hc⟩:=hT b hb';rw[e]at e1;cases e1;exact⟨.inr (.inl ⟨Ki hc,rfl,#[],more,rfl,e2⟩),_,e2⟩
    exact⟨rfl,⟨λ b o e=>(old b o e).1,λ b o e=>(old b o e).2⟩,os,bare⟩
 have aT:a∉Ts:=λ z=>by
  have e:=(hT a z).1;rw[ha]at e;cases e
 have tblT:∀T∈Ts,∀H:Hp,ObjOk P w H s₁.heap T (.tbl #[]):=λ T z H=>(hT T z).1;cases hk:K.lookup a with
 |some o =>
  have e:=KX a o hk;rw[ha]at e;cases e;refine core (λ b=>if b∈Ts then some (.tbl #[]) else none) ⟨λ b=>?_,λ T z=>if_pos z⟩ (.inr ⟨_,vs.toArray,_,hk,rfl,rfl,rfl,by rw[au,lenV];exact hl,by simpa using rv⟩) (λ b u z=>?_) (λ b z=>?_) λ z=>absurd (if_neg aT) z
  .by_cases hb:b∈Ts
   .exact .inr (.inr ⟨hb,if_pos hb⟩)
   .exact .inl (if_neg hb)
  .by_cases hb:b∈Ts
   .have z':=(if_pos hb).symm.trans z;cases z';exact tblT b hb _
   .have z':=(if_neg hb).symm.trans z;cases z'
  .by_cases hb:b∈Ts
   .exact .inr hb
   .exact absurd (if_neg hb) z
 |none =>
  refine core (λ b=>if b=a then some (.frz { cls:=.type "list",data:=.seq vs.toArray } (.lst (ns.map V.int))) else if b∈Ts then some (.tbl #[]) else none) ⟨λ b=>?_,λ T z=>?_⟩ (.inl (.inr ⟨{ cls:=.type "list",data:=.seq vs.toArray },if_pos rfl⟩)) (λ b u z=>?_) (λ b z=>?_) λ_=>hk
  .by_cases hb:b=a
   .exact .inr (.inl ⟨_,_,if_pos hb⟩)
   .by_cases hb2:b∈Ts
    .exact .inr (.inr ⟨hb2,(if_neg hb).trans (if_pos hb2)⟩)
    .exact .inl ((if_neg hb).trans (if_neg hb2))
  .have ne:¬T=a:=λ e=>aT (by rw[<-e];exact z);exact(if_neg ne).trans (if_pos z)
  .by_cases hb:b=a
   .have z':=(if_pos hb).symm.trans z;cases z';subst hb;exact⟨ha,by rw[aa];exact hl,vs,_,rv,ha⟩
   .by_cases hb2:b∈Ts
    .have z':=((if_neg hb).trans (if_pos hb2)).symm.trans z;cases z';exact tblT b hb2 _
    .have z':=((if_neg hb).trans (if_neg hb2)).symm.trans z;cases z'
  .by_cases hb:b=a
   .exact .inl hb
   .by_cases hb2:b∈Ts
    .exact .inr hb2
    .exact absurd ((if_neg hb).trans (if_neg hb2)) z
theorem walk_ofT{l:OpenLaw}{n k:Nat}{q:Program}{loose:LSz}{XP:(MGz)->Heap->Prop}{YP:World->Heap->Prop}{d:DefRec}{K:Params->Frag}{CX:World->CXT}{sp:World->Sp}{x:Str}{Ts:List Addr}
  (hn:l.most=some n) (hn2:n<=sizeLine) (hdf:d.params.defaults=[]) (hr:Room k callerA)
  (hY:∀(w:World)(h:Heap),YP w h->(K w.params).In h) (hT:∀(w:World)(h:Heap),YP w h->∀T∈Ts,h.get? T=some (tabObj #[])/\(K w.params).lookup T=none/\∃c,CodeHd h c T)
  (F:∀(w:World)(mg:MGz)(fa:Addr)(h:Heap),(K w.params).In h->h.Ns mainGlobals mg->mg d.name=some (.ref fa) ->
   ∃fd:FuncData,(∀(s:Shared)(u:Value),BindsTo s fd ⟨[u],[]⟩ [(x,u)]) /\
    ∀base:Heap,(K w.params).In base->base.Ns mainGlobals mg->A5 l.prog w (K w.params) mg base (CX w) k fa fd [x] (sp w))
  (hsp:∀(w:World)(H:Hp)(a:Addr)(ns:List Int),ns.length<=n->Q9 Ts H->SqL (K w.params) H a (ns.map V.int)->sp w [.ref a] H (λ v _=>v=.bl true) λ_ _ _=>False)
  (hCX:∀(w:World)(H:Hp)(s:Shared)(e:Value)(s':Shared),CX w [] H s (λ_ _ _=>False) e s'->False) :
  WalkO q loose XP YP l.row.toRowW d [] (λ f vs=>PySem.call f vs):=by
 refine Att.attach_call hn hdf λ w s₀ s₁ mg mb fa o pm cd doc a vs ns G Y ho hd hcd hmg hobj hints hlen hg=>?_;have KX:=hY w _ Y;obtain⟨fd,hb,hF⟩:=F w mg fa _ KX G.T.g hmg;exact law_callT KX G.T.g G.T.b G.T.builtins G.T.nolimit hg hobj hints (ba hlen hn2) hr (hT w _ Y) hF hb (λ H hO hS=>hsp w H a ns hlen hO hS) λ H e s'=>hCX w H s₁ e s'
structure FunC(K:Frag)(x qual:Str)(st:Stmt)(f:Addr)(fd:FuncData)(c:Addr):Prop where
 ex:∃(oc:Value)(od:Option Addr)(kV doc pm:Value)(an:Option Addr)(ct:Value)(osl:AOz),
  fd=fnOf x qual (B5 st) (A8 st) (Ai st) .none kV doc pm an (.ref c) ct/\K.lookup f=some ⟨oc,od,.func fd,osl⟩/\codeIn K (.ref c) qual=true
 kp:keepIn K (.ref f)=true
section
variable{P:Program}{w:World}{K:Frag}{mg:MGz}{base:Heap}{x qual:Str}{st:Stmt}{f c:Addr}{fd:FuncData}{N ps:LSz}{k:Nat}{sp:Sp}
theorem FunC.fn(F:FunC K x qual st f fd c):Fun K x qual st f fd:=by
 obtain⟨oc,od,kV,doc,pm,an,ct,osl,e,lk,hcd⟩:=F.ex;exact⟨⟨oc,od,kV,doc,pm,an,.ref c,ct,osl,e,lk,hcd⟩,F.kp⟩
theorem R5{oc:Value}{od an:Option Addr}{osl:AOz}{kV doc pm cdv ct:Value}(l:K.lookup f=some ⟨oc,od,.func (fnOf x qual (B5 st) (A8 st) (Ai st) .none kV doc pm an cdv ct),osl⟩)
  (cc:codeIn K cdv qual=true) (kp:keepIn K (.ref f)=true) (e:cdv=.ref c):FunC K x qual st f (fnOf x qual (B5 st) (A8 st) (Ai st) .none kV doc pm an cdv ct) c:=by
 subst e;exact⟨⟨oc,od,kV,doc,pm,an,ct,osl,rfl,l,cc⟩,kp⟩
end
def Kj(K:Frag)(c T:Addr):Bool:=match K.lookup c with
 |some o=>match o.data with
  |.fields vs=>(o.cls==.type "code")&&(vs[11]?==some (.ref T))&&(match vs.getD 18 .none with|.str _ _=>true|_=>false)&&(match vs.getD 7 .none with|.int _ _=>true|_=>false)&&(match vs.getD 9 .none with|.bool _=>true|_=>false)&&(match vs.getD 10 .none with|.int _ _=>true|_=>false)&&(c != T)
  |_=>false
 |none=>false
theorem codeTB_of{K:Frag}{c T:Addr}(h:Kj K c T=true):∀hp:Heap,K.In hp->CodeHd hp c T:=λ hp KX=>by
 unfold Kj at h;cases e:K.lookup c with
 |none=>rw[e]at h;cases h
 |some o =>
  rw[e]at h;cases d:o.data with
  |fields vs =>
   simp only[d,aK]at h;obtain⟨⟨⟨⟨⟨⟨h1,h2⟩,h3⟩,h4⟩,h5⟩,h6⟩,h7⟩:=h;have h2:vs[11]?=some (.ref T):=eq_of_beq h2;have e18:∃a b,vs.getD 18 .none=.str a b:=by
    generalize vs.getD 18 .none=v at h3;cases v with
    |str a b=>exact⟨a,b,rfl⟩
    |_=>cases h3
   have e7:∃a b,vs.getD 7 .none=.int a b:=by
    generalize vs.getD 7 .none=v at h4;cases v with
    |int a b=>exact⟨a,b,rfl⟩
    |_=>cases h4
   have e9:∃a,vs.getD 9 .none=.bool a:=by
    generalize vs.getD 9 .none=v at h5;cases v with
    |bool a=>exact⟨a,rfl⟩
    |_=>cases h5
   have e10:∃a b,vs.getD 10 .none=.int a b:=by
    generalize vs.getD 10 .none=v at h6;cases v with
    |int a b=>exact⟨a,b,rfl⟩
    |_=>cases h6
   obtain⟨f1,f2,e18⟩:=e18;obtain⟨g1,g2,e7⟩:=e7;obtain⟨i1,e9⟩:=e9;obtain⟨t1,t2,e10⟩:=e10;refine⟨o,vs,f1,f2,g1,g2,i1,t1,t2,KX c o e,eq_of_beq h1,d,h2,?_,e18,e7,e9,e10,?_⟩
   .rw[cC,h2];rfl
   .intro z;rw[z]at h7;simp at h7
  |_=>simp only[d]at h;cases h
def SameN(H H':Hp):Prop:=∀a o,H a=some o->(∀ps,o≠.tbl ps)->H' a=some o
theorem SameN.trans{H H1 H2:Hp}(a:SameN H H1)(b:SameN H1 H2):SameN H H2:=λ x o e n=>b x o (a x o e n) n
theorem Same.n{H H':Hp}(s:Same H H'):SameN H H':=λ a o e _=>s a o e
theorem SameN.tup{H H':Hp}(s:SameN H H'){a:Addr}{xs:LUz}(e:H a=some (.tup xs)):H' a=some (.tup xs):=s a _ e λ_ z=>nomatch z
theorem SameN.lst{H H':Hp}(s:SameN H H'){a:Addr}{xs:LUz}(e:H a=some (.lst xs)):H' a=some (.lst xs):=s a _ e λ_ z=>nomatch z
def TabOk(pos:Pos)(qual:Str)(T:Addr)(H:Hp):Prop:=∃ps,H T=some (.tbl ps)/\TriplesOk ps.toList/\(codeAmong pos ps.toList=none\/∃c',codeAmong pos ps.toList=some (.ref c')/\H c'=some (DO c' qual))
theorem TabOk.same{pos:Pos}{qual:Str}{T:Addr}{H H':Hp}(h:TabOk pos qual T H)(s:Same H H'):TabOk pos qual T H':=by
 obtain⟨ps,e,t,c⟩:=h;refine⟨ps,s _ _ e,t,?_⟩;rcases c with c|⟨c',c1,c2⟩
 .exact .inl c
 .exact .inr ⟨c',c1,s _ _ c2⟩
theorem TabOk.new{pos:Pos}{qual:Str}{T:Addr}{H:Hp}(h:H T=some (.tbl #[])):TabOk pos qual T H:=⟨#[],h,trivial,.inl rfl⟩
theorem EQ{a b c:Int}{t u:Tok}{v:Value}:∀(l:LWz),TriplesOk l->TriplesOk (l++[.int a t,.int b u,v])
 |[],_=>trivial
 |.int _ _::.int _ _::_::rest,h=>EQ (c:=c) rest h
end L2
namespace HT
open PySem.W
open PySem PySem.Spec PyProof.Rows
section
variable{prog:Program}{w:World}{A:Around}{s:Shared}{E:VPz}
theorem getItem_tuple_all{t sl:Addr}{items:Array Value}{vl vu:Value}{lo hi:Option Int}{Q:VPz}(ht:IsTup s.heap t items)(hs:s.heap.IsSliceOf sl vl vu .none)(pl:IsPart vl lo)(pu:IsPart vu hi)
  (h1:sIx items.size 0 lo=0) (h2:sIx items.size items.size hi=items.size)
  (h:Q (.ref t) s):wpAny (model prog w) A (getItem (.ref t) (.ref sl)) Q E s:=by
 obtain⟨os,hos,hcs,hds⟩:=id hs;have hTs:s.TypeIs (.ref sl) "slice":=⟨os,hos,hcs⟩;unfold getItem
 try with_reducible refine wpAny_holding ?_
 first|refine wpAny_bind (wpAny_pure ?_)|skip
 refine wpAny_bind (wpAny_sequenceKey ht.typeIs (by decide) ?_);refine wpAny_bind (wpAny_callSpecial?_slot (name:=Str.ofString "__getitem__") ht.typeIs PyProof.Rows.slot_tuple_getitem
  (wpAny_call_entry PyProof.Rows.slot_tuple_getitem ht.typeIs entry_tuple_getitem ?_ (args_tuple_getitem _ _)))
 show wpAny _ _ (Builtin.Tuple.tupleItemsOf (.ref t) >>= _) _ _ s;refine wpAny_bind (tupleItemsOf_ ht ?_);refine wpAny_bind (wpAny_typeOf hTs ?_);rw[if_pos (by decide)];refine wpAny_bind (Do hs pl pu ?_);have hyes:(((sIx items.size 0 lo:Nat):Int)==0&&(1:Int)==1&&(sIx items.size items.size hi-sIx items.size 0 lo)==items.size)=true:=by
  rw[h1,h2];simp
 show wpAny _ _ (if (((sIx items.size 0 lo:Nat):Int)==0&&(1:Int)==1&&(sIx items.size items.size hi-sIx items.size 0 lo)==items.size)=true then _ else _) _ _ s;rw[if_pos hyes];refine wpAny_bind (m:=Builtin.Tuple.tupleIsExact _) (wpAny_bind (wpAny_typeOf ht.typeIs (wpAny_pure ?_)));rw[if_pos (by decide)]
 first
  |exact wpAny_bind (wpAny_rule (wpAny_bind (wpAny_pure (wpAny_pure ⟨_,rfl,wpAny_pure h⟩))))
  |exact wpAny_bind (wpAny_rule (wpAny_pure ⟨_,rfl,wpAny_pure h⟩))
  |exact wpAny_bind (wpAny_rule (wpAny_bind (wpAny_pure ⟨_,rfl,wpAny_pure h⟩)))
end
end HT
namespace L2
open PySem.W
open PySem PySem.Spec PyProof.Rows
section
variable{X:Cx}
def Vb:V->Option Int->Option Int->Hp->VK->Prop:=λ x lo hi H Q=>∃a xs,x=.ref a/\H a=some (.tup xs) /\
 ∀p H',Same H H'->H' p=some (.tup (Fl xs lo hi))->Q (.ref p) H'
theorem QT:SlR X Vb:=by
 intro pins s σ H x v vl vu lo hi sl Q I rx hs pl pu h;obtain⟨a,xs,rfl,hx,q⟩:=h;by_cases hw:HT.sIx xs.length 0 lo=0/\HT.sIx xs.length xs.length hi=xs.length
 .cases rx;obtain⟨its,r,ht,hz⟩:=I.tuple (SqT.of hx);have hlen:its.toArray.size=xs.length:=by rw[au];exact r.length.symm
  refine⟨"tuple",_,PyProof.Rows.slot_tuple_getitem.lookup,ht.typeIs,?_⟩;refine HT.getItem_tuple_all ht hs pl pu (by rw[hlen];exact hw.1) (by rw[hlen];exact hw.2) ⟨.ref a,H,I,rfl,q a H (Same.refl H) ?_⟩;unfold Fl;rw[hw.1,hw.2,List.drop_zero,Nat.sub_zero,aN];exact hx
 .exact Pt pins s σ H (.ref a) v vl vu lo hi sl Q I rx hs pl pu ⟨a,xs,rfl,SqT.of hx,hw,λ p hp=>q p _ (Same.new hp) Af⟩
end
section
variable{P:Program}{w:World}{K:Frag}{mg:MGz}{base:Heap}{x qual:Str}{st:Stmt}{f c:Addr}{fd:FuncData}{N ps:LSz}{k:Nat}{sp:Sp}
theorem FunC.ok(F:FunC K x qual st f fd c)(S:An N ps (Ai st))(len:∀vs H Q E,sp vs H Q E->vs.length=ps.length)
  (hbody:∀(A:Around)(outer:List Env)(s:Shared)(H:Hp)(vs:LUz)(Q:VK)(E:XK),Room k (A.deeper (envOfC qual (Ai st) s.heap.objs.size f (.ref c)))->sp vs H Q E ->
   ∃t,PSs (BA CX0 P w K mg base N qual (Ai st) f (.ref c) A outer s H E).nox (A8 st) t/\t { nx:=λ_ H'=>Q .non H',rt:=Q } (C0 N vs) H):A5 P w K mg base CX0 (k+1) f fd ps sp:=by
 obtain⟨oc,od,kV,doc,pm,an,ct,osl,rfl,lk,hcd⟩:=F.ex;refine NE lk hcd S len λ A outer s H vs Q E hr hsp=>?_;obtain⟨t,h,q⟩:=hbody A outer s H vs Q E hr hsp;exact⟨t,h.nox,q⟩
end
def tkd(H:Hp)(L:PNz):Hp:=λ a=>match L.lookup a with|some o=>some (BS a o)|none=>H a
def utk(H:Hp)(L:PNz):Hp:=λ a=>match L.lookup a with|some _=>none|none=>H a
section
variable{P:Program}{w:World}{H H':Hp}{h h':Heap}{a:Addr}{o:Obj}{L:PNz}{fs:List Addr}
theorem Gw(e:L.lookup a=some o):tkd H L a=some (BS a o):=by unfold tkd;rw[e]
theorem AV(e:L.lookup a=none):tkd H L a=H a:=by unfold tkd;rw[e]
theorem Fs(e:L.lookup a=some o):utk H L a=none:=by unfold utk;rw[e]
theorem Bu(e:L.lookup a=none):utk H L a=H a:=by unfold utk;rw[e]
theorem Cz(e:H a=none):utk H L a=none:=by
 cases q:L.lookup a with
 |none=>rw[Bu q];exact e
 |some o=>exact Fs q
theorem ED{u:HO}(hL:∀a o,L.lookup a=some o->H a=none)(e:H a=some u):L.lookup a=none:=by
 cases q:L.lookup a with
 |none=>rfl
 |some o=>rw[hL a o q]at e;cases e
theorem Em{u:HO}(hL:∀a o,L.lookup a=some o->H a=some (BS a o))(e:H a=some u)(n:∀o,u≠BS a o):L.lookup a=none:=by
 cases q:L.lookup a with
 |none=>rfl
 |some o=>rw[hL a o q]at e;cases e;exact absurd rfl (n o)
theorem HOk.tkd(hok:HOk P w H h)(hL:∀a o,L.lookup a=some o->H a=none)(hc:∀a o,L.lookup a=some o->h.get? a=some o):HOk P w (tkd H L) h:=λ a u e=>by
 cases q:L.lookup a with
 |some o =>
  rw[Gw q]at e;cases e;exact JS (hc a o q)
 |none =>
  rw[AV q]at e;exact(hok a u e).stay (λ_ _ _ z=>z) (λ b z=>by rw[AV (ED hL z)];exact z) (λ b xs z=>by rw[AV (ED hL z)];exact z)
theorem HOk.utk(hok:HOk P w H h)(hL:∀a o,L.lookup a=some o->H a=some (BS a o)):HOk P w (utk H L) h:=λ a u e=>by
 cases q:L.lookup a with
 |some o=>rw[Fs q]at e;cases e
 |none =>
  rw[Bu q]at e;exact(hok a u e).stay (λ_ _ _ z=>z) (λ b z=>by rw[Bu (Em hL z (λ_ z=>nomatch z))];exact z) (λ b xs z=>by rw[Bu (Em hL z (λ_ z=>nomatch z))];exact z)
theorem Un.utk(u:Un fs [] (L2.tkd H L) H' h h')(hok:HOk P w H' h')(hL:∀a o,L.lookup a=some o->H a=none)(hc:∀a o,L.lookup a=some o->h.get? a=some o)(hf:∀a o,L.lookup a=some o->a∉fs)(hk:∀a o,L.lookup a=some o->H' a=some (BS a o)):Un fs [] H (L2.utk H' L) h h' where
 keep b o q n nf nx:=by
  cases e:L.lookup b with
  |some o' =>
   rw[hc b o' e]at q;cases q;exact(hok b _ (hk b o e)).1
  |none=>exact u.keep b o q (by rw[AV e];exact n) nf nx
 slot b o q n hb nx:=by
  cases e:L.lookup b with
  |some o'=>exact absurd hb (hf b o' e)
  |none=>exact u.slot b o q (by rw[AV e];exact n) hb nx
 free b o q n nx:=by
  cases e:L.lookup b with
  |some o'=>exact Fs e
  |none=>rw[Bu e];exact u.free b o q (by rw[AV e];exact n) nx
 there b o q nx:=u.there b o q nx
 tups b xs e:=by
  have n:=ED hL e;rw[Bu n];exact u.tups b xs (by rw[AV n];exact e)
 frzs b o v e:=by
  have n:=ED hL e;rw[Bu n];exact u.frzs b o v (by rw[AV n];exact e)
 tbls b ps e:=by
  have n:=ED hL e;rw[Bu n];exact u.tbls b ps (by rw[AV n];exact e)
theorem Un.tkd(u:Un fs [] (L2.utk H L) H' h h')(hL:∀a o,L.lookup a=some o->H a=some (BS a o)):Un fs [] H (L2.tkd H' L) h h':=by
 have out:∀{b},H b=none->L.lookup b=none:=λ{b} n=>by
  cases e:L.lookup b with
  |none=>rfl
  |some o=>rw[hL b o e]at n;cases n
 exact {
  keep:=λ b o q n nf nx=>u.keep b o q (Cz n) nf nx
  slot:=λ b o q n hb nx=>u.slot b o q (Cz n) hb nx
  free:=λ b o q n nx=>by rw[AV (out n)];exact u.free b o q (Cz n) nx
  there:=λ b o q nx=>u.there b o q nx
  tups:=λ b xs e=>by
   have n:=Em hL e (λ_ z=>nomatch z);rw[AV n];exact u.tups b xs (by rw[Bu n];exact e)
  frzs:=λ b o v e=>by
   have n:=Em hL e (λ_ z=>nomatch z);rw[AV n];exact u.frzs b o v (by rw[Bu n];exact e)
  tbls:=λ b ps e=>by
   have n:=Em hL e (λ_ z=>nomatch z);rw[AV n];exact u.tbls b ps (by rw[Bu n];exact e) }
end
def FvOk(P:Program)(w:World)(K:Frag)(mg:MGz)(base:Heap)(k:Nat)(H:Hp)(f:Addr)(sp:Sp):Prop :=
 (∃o fd,H f=some (BS f o)/\o.data=.func fd)/\∀(A:Around)(outer:List Env)(s:Shared)(H':Hp)(us:LWz)(vs:LUz)(Q:VK)(E:XK),Same H H'->Room k A->Env0 P w K mg base A outer s H'->Vals vs us->sp vs H' Q E ->
  codeAny (model P w) A (.call (.ref f) ⟨us,[]⟩) (CR CX0 outer P w H' s Q E) s
theorem FvOk.same{P:Program}{w:World}{K:Frag}{mg:MGz}{base:Heap}{k:Nat}{H H':Hp}{f:Addr}{sp:Sp}(h:FvOk P w K mg base k H f sp)(s:Same H H'):FvOk P w K mg base k H' f sp :=
 ⟨let ⟨o,fd,e,d⟩:=h.1;⟨o,fd,s _ _ e,d⟩,λ A outer sh H2 us vs Q E s2=>h.2 A outer sh H2 us vs Q E (s.trans s2)⟩
def tFv(P:Program)(w:World)(K:Frag)(mg:MGz)(base:Heap)(k:Nat)(tv:TE)(t:TA):TE:=λ σ H Q=>tv σ H λ v H1=>∃f sp,v=.ref f/\FvOk P w K mg base k H1 f sp/\t σ H1 λ vs H2=>Same H1 H2/\sp vs H2 Q E0
section
variable{X:Cx}{k j:Nat}{y:Str}{p pos:Pos}{e:Expr}{es:List Expr}{tv:TE}{t:TA}
theorem Ua(hr:Room j X.A)(hv:PE X (.Name y p) tv)(ha:PA X (e::es) t)(hj:k<=j:=by decide)
  (he:starEach (e::es) X.env=(false,eval e X.env)::starEach es X.env:=by rfl) (hpl:(backTo pos (starEach es X.env)).any (·.1)=false:=by rfl):PE X (.Call (.Name y p) (e::es) [] pos) (tFv X.prog X.w X.K X.mg X.base k tv t):=by
 intro pins s σ H Q I h;refine wpAny_Call_Name_kw (thn (hv pins s σ H _ I h) λ u s1 hz_=>?_);obtain⟨v,H1,I1,r1,f,sp,e1,F,q1⟩:=hz_;subst e1;cases r1;have fnat:∀{H2:Hp}{s2:Shared},Same H1 H2->Inv X pins σ H2 s2->FnAt f s2.heap:=λ{H2 s2} sm I2=>by
  obtain⟨o,fd,e,d⟩:=F.1;have:=(show ObjOk X.prog X.w H2 s2.heap f (BS f o) from I2.hok f _ (sm _ _ e)).1;obtain⟨oc,od,dt,sl⟩:=o;cases d;exact⟨_,_,_,_,this⟩
 refine callWith_F (fnat (Same.refl _) I1) (thn (ha pos pins s1 σ H1 _ I1 q1) λ us s2 ⟨vs,H2,I2,r,sm,q⟩=>⟨fnat sm I2,?_⟩) he hpl;refine wpAny_call (codeAny_mono (F.2 X.A X.stack s2 H2 us vs Q E0 sm (hr.mono hj) I2.env0 r q) λ r s' hq=>?_);cases r with
 |error e=>exact GC pins σ H2 s2 e s' I2 hq
 |ok fl =>
  cases fl with
  |ret u=>exact I2.after hq
  |next=>exact False.elim hq
  |brk=>exact False.elim hq
  |cont=>exact False.elim hq
end
theorem IC{g:Addr->Obj}:∀{l:List Addr}{a:Addr},(l.map λ c=>(c,g c)).lookup a=if a∈l then some (g a) else none
 |[],a=>by simp
 |c::r,a=>by
  rw[aS,aX];by_cases e:a=c
  .subst e;simp
  .have:(a==c)=false:=by simpa using e
   rw[this];show List.lookup a (r.map λ c=>(c,g c))=_;rw[IC];simp[e]
structure Oh(N:LSz)(clos:List (Str×Addr))(σ:St)(H:Hp)(L:PNz):Prop where
 new:∀a o,L.lookup a=some o->H a=none
 has:∀p∈clos,∃o v,L.lookup p.2=some o/\o.data=.cell v
 val:∀p∈clos,∀(i:Nat)(v:V),N[i]?=some p.1->σ[i]?=some (some v)->∃o u,L.lookup p.2=some o/\o.data=.cell (some u)/\RelV v u
def Sz(N:LSz)(clos:List (Str×Addr))(sp:Sp)(t:TA):TE:=λ σ H Q=>t σ H λ vs H1=>∀L,Oh N clos σ H1 L->sp vs (tkd H1 L) (λ v H2=>(∀a o,L.lookup a=some o->H2 a=some (BS a o))/\Q v (utk H2 L)) E0
section
variable{X:Cx}{k j:Nat}{x:Str}{ps:LSz}{sp:Sp}{p pos:Pos}{e:Expr}{es:List Expr}{t:TA}{clos:List (Str×Addr)}
theorem SA(D:A2 X.prog X.w X.K X.mg X.base k x ps sp)(hr:Room j X.A)(ha:PA X (e::es) t)(hcl:∀p∈clos,X.env.cells.lookup p.1=some p.2/\X.env.kindOf p.1=some .cell)(hfn:∀y,X.fn y=true)(hex:X.ex=[])(hj:k<=j:=by decide)(hg:Gl X x:=by rfl)(hdb:(x==("__debug__":Str))=false:=by decide)
  (he:starEach (e::es) X.env=(false,eval e X.env)::starEach es X.env:=by rfl) (hpl:(backTo pos (starEach es X.env)).any (·.1)=false:=by rfl):PE X (.Call (.Name x p) (e::es) [] pos) (Sz X.N clos sp t):=by
 obtain⟨f,fd,F,hm,hk,hb⟩:=D.ex;intro pins s σ H Q I h;refine wpAny_Call_Name_kw (DF I hg hm ?_ hdb);refine callWith_K (h₀:=X.base) I.ok.mod.kin hk (thn (ha pos pins s σ H _ I h) λ us s1 ⟨vs,H1,I1,r,q⟩=>⟨I1.kIn,?_⟩) he hpl
 let g:Addr->Obj:=λ c=>(s1.heap.get? c).getD ⟨.none,none,.plain,#[]⟩
 let L:PNz:=(clos.map (·.2)).map λ c=>(c,g c)
 have hLk:∀a,L.lookup a=if a∈clos.map (·.2) then some (g a) else none:=λ a=>IC;have hcell:∀p∈clos,∃v,s1.heap.IsCell p.2 v:=λ p hp=>I1.cell p.1 p.2 (hcl p hp).1;have hin:∀a o,L.lookup a=some o->∃p∈clos,p.2=a/\s1.heap.get? a=some o:=λ a o e=>by
  rw[hLk]at e;split at e
  .rename_i hm;obtain⟨p,hp,rfl⟩:=aw.mp hm;refine⟨p,hp,rfl,?_⟩;obtain⟨v,o',ho',_⟩:=hcell p hp;cases e;show _=some ((s1.heap.get? p.2).getD _);rw[ho'];rfl
  .cases e
 have hof:∀p∈clos,∀o,s1.heap.get? p.2=some o->L.lookup p.2=some o:=λ p hp o e=>by
  rw[hLk,if_pos (aw.mpr ⟨p,hp,rfl⟩)];show some ((s1.heap.get? p.2).getD _)=_;rw[e];rfl
 have hnew:∀a o,L.lookup a=some o->H1 a=none:=λ a o e=>by
  obtain⟨p,hp,rfl,_⟩:=hin a o e;exact I1.freeC p.1 p.2 (hcl p hp).1
 have hget:∀a o,L.lookup a=some o->s1.heap.get? a=some o:=λ a o e=>let ⟨_,_,_,z⟩:=hin a o e;z;have habove:∀a o,L.lookup a=some o->X.s₀.heap.objs.size<=a:=λ a o e=>by
  obtain⟨p,hp,rfl,_⟩:=hin a o e;exact I1.ok.cab p.1 p.2 (hfn _) (hcl p hp).1
 have hnf:∀a o,L.lookup a=some o->a∉frs X.stack:=λ a o e hb=>by
  have ab:=habove a o e;obtain⟨p,hp,rfl,_⟩:=hin a o e;rcases aO.mp (I1.stkSub _ hb) with z|z
  .exact I1.cne p.1 p.2 (hcl p hp).1 z
  .obtain⟨_,o',ho',_⟩:=I1.ok.funs.mem z;exact absurd (aQ (aA ho') ab) (bA _)
 have CA:Oh X.N clos σ H1 L:=by
  refine⟨hnew,λ p hp=>?_,λ p hp i v hi hv=>?_⟩
  .obtain⟨v,o,ho,hd⟩:=hcell p hp;exact⟨o,v,hof p hp o ho,hd⟩
  .obtain⟨m,hns,hloc⟩:=I1.loc;obtain⟨u,ru,hlook⟩:=hloc i p.1 v hi hv (.inr (.inl (hcl p hp).2));rcases hlook with ⟨k1,_⟩|⟨_,c,hc,o,ho,hd⟩
   .rw[(hcl p hp).2]at k1;cases k1
   .rw[(hcl p hp).1]at hc;cases hc;exact⟨o,u,hof p hp o ho,hd,ru⟩
 have hsp:=q L CA;have e0:Env0 X.prog X.w X.K X.mg X.base X.A X.stack s1 (tkd H1 L):=by
  have z:=I1.env0;refine⟨z.frames,z.mod,λ b o e=>?_,z.bsz,z.funs,λ b hb=>?_,z.hok.tkd hnew hget,z.bare⟩
  .refine⟨(z.bs b o e).1,?_⟩;cases q:L.lookup b with
   |none=>rw[AV q];exact(z.bs b o e).2
   |some o'=>exact absurd (aQ (aA e) (ba I1.ok.bsz (habove b o' q))) (bA _)
  .cases q:L.lookup b with
   |none=>rw[AV q];exact z.frf b hb
   |some o'=>exact absurd hb (hnf b o' q)
 have hl:us.length=ps.length:=by rw[<-r.length];exact F.len _ _ _ _ hsp
 have hbd:=hb s1 us I1.kIn (by rw[aL];exact hl);rw[aL]at hbd;refine wpAny_call (codeAny_mono (F.run X.A X.stack s1 (tkd H1 L) ⟨us,[]⟩ us vs _ E0 (hr.mono hj) e0 hbd r hsp) λ rs s' hq=>?_);cases rs with
 |error e=>exact GC pins σ H1 s1 e s' I1 (by exact hq)
 |ok fl =>
  cases fl with
  |ret u =>
   obtain⟨v,H2,os,bare,un,hok,rv,hkp,q2⟩:=hq;exact I1.after ⟨v,utk H2 L,os,bare,un.utk hok hnew hget hnf hkp,hok.utk hkp,rv,q2⟩
  |next=>exact False.elim hq
  |brk=>exact False.elim hq
  |cont=>exact False.elim hq
end
def RH(P:Program)(w:World)(K:Frag)(mg:MGz)(base:Heap)(N:LSz)(qual:Str)(scope:Scope)(f:Addr)(cd:Value)(clos:List (Str×Addr))(A:Around)(outer:List Env)(s:Shared)(H Hx:Hp)(E:XK):Cx where
 prog:=P
 w:=w
 K:=K
 mg:=mg
 base:=base
 A:=A.deeper (envX qual scope s.heap.objs.size f cd clos)
 N:=N
 s₀:=s
 H₀:=H
 env:=envX qual scope s.heap.objs.size f cd clos
 outer:=outer
 stack:=envX qual scope s.heap.objs.size f cd clos::outer
 ex:=[]
 calm:=true
 fn:=λ_=>false
 pn:=[]
 xe:=λ e s'=>wpAny (model P w) (A.deeper (envX qual scope s.heap.objs.size f cd clos)) (leaving (envX qual scope s.heap.objs.size f cd clos) e) (λ_ s''=>CX0 outer Hx s E e s'') (λ e' s''=>CX0 outer Hx s E e' s'') s'
theorem TabOk.lamC{clos:List (Str×Addr)}{mg:MGz}{pos:Pos}{qual:Str}{T:Addr}{params:Arguments}{body:Expr}{scope:Scope}{σ:St}{H:Hp}{Q:VK}(h:TabOk pos qual T H)
  (q:∀c' f ctv H',SameX T H H'->TabOk pos qual T H'->H' f=some (BS f (Cr mg qual params body scope clos c' ctv))->H' c'=some (DO c' qual)->(∀b,H b=none->H' b=none\/b=c'\/b=f)->Q (.ref f) H'):Tw mg T pos params body scope clos qual σ H Q:=by
 obtain⟨ps,e,t,c⟩:=h;refine⟨ps,e,t,?_⟩;rcases c with c|⟨c',c1,c2⟩
 .refine .inl ⟨c,λ c' f ctv hc hf n1 n2 n3=>?_⟩;have eT:(upd (upd (upd H T (.tbl (ps++#[rawInt pos.line,rawInt pos.col,.ref c']))) c' (DO c' qual)) f (BS f (Cr mg qual params body scope clos c' ctv))) T=some (.tbl (ps++#[rawInt pos.line,rawInt pos.col,.ref c'])):=by
   rw[Ag (Ne.symm n3),Ag (Ne.symm n2),Af]
  have eC:(upd (upd (upd H T (.tbl (ps++#[rawInt pos.line,rawInt pos.col,.ref c']))) c' (DO c' qual)) f (BS f (Cr mg qual params body scope clos c' ctv))) c'=some (DO c' qual):=by
   rw[Ag n1,Af]
  refine q c' f ctv _ (λ a o ea no=>?_) ⟨_,eT,?_,.inr ⟨c',?_,eC⟩⟩ Af eC λ b hb=>?_
  .rw[Ag (Ae no hf),Ag (Ae no hc),Ag ea];exact no
  .rw[eZ];exact EQ (c:=0) _ t
  .rw[eZ];exact codeAmong_snoc _ t c
  .by_cases h1:b=f
   .exact .inr (.inr h1)
   .by_cases h2:b=c'
    .exact .inr (.inl h2)
    .refine .inl ?_;rw[Ag h1,Ag h2,Ag (λ z=>by rw[z,e]at hb;cases hb)];exact hb
 .refine .inr ⟨c',c1,c2,λ f ctv hf=>?_⟩;have s:Same H (upd H f (BS f (Cr mg qual params body scope clos c' ctv))):=Same.new hf;refine q c' f ctv _ s.x (TabOk.same ⟨ps,e,t,.inr ⟨c',c1,c2⟩⟩ s) Af (s _ _ c2) λ b hb=>?_;by_cases h1:b=f
  .exact .inr (.inr h1)
  .exact .inl (by rw[Ag h1];exact hb)
theorem TabOk.tbl{pos:Pos}{qual:Str}{T:Addr}{H:Hp}(h:TabOk pos qual T H):∃ps,H T=some (.tbl ps):=let ⟨ps,e,_⟩:=h;⟨ps,e⟩
theorem SameX.toN{T:Addr}{H H':Hp}(s:SameX T H H')(hT:∃ps,H T=some (.tbl ps)):SameN H H':=λ a o e n=>s a o (λ z=>by obtain⟨ps,e'⟩:=hT;rw[z,e']at e;cases e;exact n _ rfl) e
theorem Pw{H H':Hp}{L:PNz}(hL:∀a o,L.lookup a=some o->H a=none)(s:Same (tkd H L) H'):Same H (utk H' L)/\∀a o,L.lookup a=some o->H' a=some (BS a o) :=
 ⟨λ a o e=>by
  have n:=ED hL e;rw[Bu n];exact s _ _ (by rw[AV n];exact e),λ a o e=>s _ _ (Gw e)⟩
theorem Jl{H:Hp}{L:PNz}{a:Addr}{u:HO}(hL:∀a o,L.lookup a=some o->H a=some (BS a o))(e:H a=some u)(n:∀o,u≠BS a o):utk H L a=some u:=by rw[Bu (Em hL e n)];exact e
theorem Lg{M:Model}{A:Around}{E:VPz}{s:Shared}{scope:Scope}{globals:Addr}{clos:List (Str×Addr)}{pn:Str}{u:Value}{qual:Str}{func:Option Addr}{code:Value}{builtins:Addr}{Q:Env->Shared->Prop}
  (hk:scope.kind=.function) (hp:scope.names.lookup pn=some .cell) (hc:∀n acc,cellsFrom n scope.names acc=(pn,n)::acc) (hpu:∀h,pushCells h scope.names=h.push { cls:=.type "cell",data:=.cell none })
  (hQ:∀h' tk,h'.Ns s.heap.objs.size (λ_=>none)->h'.IsCell (s.heap.objs.size+1) (some u)->(∀b o,s.heap.get? b=some o->h'.get? b=some o)->Q (newEnv scope s.heap.objs.size globals ((pn,s.heap.objs.size+1)::clos) qual func code none builtins) { s with heap:=h',toks:=tk }) :
  wpAny M A (newFunctionEnv scope globals clos [(pn,u)] qual func code none builtins) Q E s:=by
 simp only[newFunctionEnv,Option.isSome_none,aW,if_false];refine wpAny_bind (wpAny_alloc ?_);refine wpAny_bind (wpAny_layCells _ (λ name kind cells=>by cases hkc:kind==NameKind.cell<;>simp[hkc]) _ _ _ _ ?_);rw[hc,hpu,show({ s with heap:=s.heap.push { cls:=.type "frame",data:=.dict #[] } }:Shared).heap.objs.size=s.heap.objs.size+1 from bU ..];have hcell:((s.heap.push { cls:=.type "frame",data:=.dict #[] }).push { cls:=.type "cell",data:=.cell none }).IsCell (s.heap.objs.size+1) none:=⟨{ cls:=.type "cell",data:=.cell none },dL (bU ..).symm rfl,rfl⟩;have hns:=(Heap.Ns.new s.heap (.type "frame")).keeps (h':=(s.heap.push { cls:=.type "frame",data:=.dict #[] }).push { cls:=.type "cell",data:=.cell none }) λ b o e=>ag _ e;refine wpAny_bind ?_;rw[dU];refine wpAny_bind (wpAny_bind (wpAny_storeName_cell (env:=newEnv scope s.heap.objs.size globals ((pn,s.heap.objs.size+1)::clos) qual func code none builtins) hk hp (by simp[newEnv]) hcell λ h' hc' hs'=>?_));refine wpAny_pure ?_;show wpAny M A (forIn ([]:List (Str×Value)) PUnit.unit _) _ _ _;rw[List.forIn_nil];refine wpAny_pure (wpAny_pure (hQ h' _ (hns.sameBut hs' (aM (cZ _))) hc' λ b o e=>hs'.extBut b o (aM (bS (aA e))) (ag _ (ag _ e))))
structure IV(pn:Str)(fs:LSz)(sc:Scope):Prop where
 kind:sc.kind=.function
 co:sc.isCoroutine=false
 gen:sc.isGenerator=false
 par:sc.names.lookup pn=some .cell
 cells:∀n acc,cellsFrom n sc.names acc=(pn,n)::acc
 push:∀h,pushCells h sc.names=h.push { cls:=.type "cell",data:=.cell none }
 own:∀y,sc.names.lookup y=some .cell->y=pn
 free:∀y,sc.names.lookup y=some .free->y∈fs
 isfree:∀y∈fs,sc.names.lookup y=some .free
theorem R4{P:Program}{w:World}{K:Frag}{mg:MGz}{base:Heap}{k:Nat}{H:Hp}{f c':Addr}{params:Arguments}{body:Expr}{scope:Scope}{qual pn:Str}{ctv:Value}{fs:LSz}{clos:List (Str×Addr)}{cv:LUz}{L:PNz}{sp:Sp}
  (hf:H f=some (BS f (Cr mg qual params body scope clos c' ctv))) (hc:H c'=some (DO c' qual)) (S:IV pn fs scope) (hlen:cv.length=fs.length) (hkeys:∀y,(∃c,clos.lookup y=some c)↔y∈fs) (hinj:∀x y c,clos.lookup x=some c->clos.lookup y=some c->x=y)
  (hL:∀a o,L.lookup a=some o->H a=some (BS a o)) (hcell:∀p∈clos,∃o v,L.lookup p.2=some o/\o.data=.cell v) (hval:∀p∈clos,∀(i:Nat)(v:V),fs[i]?=some p.1->cv[i]?=some v->∃o u,L.lookup p.2=some o/\o.data=.cell (some u)/\RelV v u)
  (hb:∀(s:Shared)(u:Value),BindsTo s (kla_fn "<lambda>" qual params body scope clos ((mg "__name__").getD .none) (.ref c') ctv) ⟨[u],[]⟩ [(pn,u)])
  (hone:∀vs H' Q E,sp vs H' Q E->∃v,vs=[v])
  (hbody:∀(A:Around)(outer:List Env)(s:Shared)(H':Hp)(E:XK)(v:V)(Q:VK),Same H H'->Room k (A.deeper (envX qual scope s.heap.objs.size f (.ref c') ((pn,s.heap.objs.size+1)::clos)))->sp [v] H' Q E ->
   ∃te,PE (RH P w K mg base (pn::fs) qual scope f (.ref c') ((pn,s.heap.objs.size+1)::clos) A outer s (utk H' L) H' E) body te/\te (some v::cv.map some) (utk H' L) (λ v' H2=>(∀a o,L.lookup a=some o->H2 a=none)->Q v' (tkd H2 L))) :
  FvOk P w K mg base (k+1) H f sp:=by
 refine⟨⟨_,_,hf,rfl⟩,λ A outer s H' us vs Q E sm hr e0 r h=>?_⟩;obtain⟨v,rfl⟩:=hone _ _ _ _ h;obtain⟨u,rfl,ru⟩:=EM r;obtain⟨te,hpe,h⟩:=hbody A outer s H' E v Q sm (hr.deeper _) h;have hL':∀a o,L.lookup a=some o->H' a=some (BS a o):=λ a o e=>sm _ _ (hL a o e);have hget:∀a o,L.lookup a=some o->s.heap.get? a=some o:=λ a o e=>(show ObjOk P w H' s.heap a (BS a o) from e0.hok a _ (hL' a o e)).1;have lim:s.heap.NoLimit:=e0.mod.nolimit.keeps λ b o e=>(e0.bs b o e).1;have ho:s.heap.get? f=some (Cr mg qual params body scope clos c' ctv):=(show ObjOk P w H' s.heap f (BS f _) from e0.hok f _ (sm _ _ hf)).1;refine kla_callFunE hr.depth ho rfl S.co S.gen rfl (OL (e0.hok c' _ (sm _ _ hc))) (hb s u _ _ _ _ ?_);refine Lg S.kind S.par S.cells S.push λ h1 tk hns hcl hk=>?_;refine⟨lim.keeps hk,?_⟩;show codeAny _ _ (.expr body (envX qual scope s.heap.objs.size f (.ref c') ((pn,s.heap.objs.size+1)::clos))) _ _;refine kla_codeExpr ?_;have noA:∀b:Addr,b∉(RH P w K mg base (pn::fs) qual scope f (.ref c') ((pn,s.heap.objs.size+1)::clos) A outer s (utk H' L) H' E).ex:=λ b z=>absurd (show b∈([]:List Addr) from z) (by simp);have mem:∀y c,clos.lookup y=some c->(y,c)∈clos:=λ y c e=>PySem.mem_of_lookup e;have npf:pn∉fs:=λ z=>by have:=S.isfree pn z;rw[S.par]at this;cases this
 have look:∀y c,((pn,s.heap.objs.size+1)::clos).lookup y=some c->(y=pn/\c=s.heap.objs.size+1)\/(y≠pn/\clos.lookup y=some c):=λ y c e=>by
  rw[aX]at e;by_cases q:y=pn
  .subst q;rw[beq_self_eq_true]at e;exact .inl ⟨rfl,(Option.some.inj e).symm⟩
  .rw[show(y==pn)=false from beq_false_of_ne q]at e;exact .inr ⟨q,e⟩
 have lookF:∀y c,y≠pn->clos.lookup y=some c->((pn,s.heap.objs.size+1)::clos).lookup y=some c:=λ y c n e=>by rw[aX,show(y==pn)=false from beq_false_of_ne n];exact e
 have lookP:((pn,s.heap.objs.size+1)::clos).lookup pn=some (s.heap.objs.size+1):=by rw[aX,beq_self_eq_true]
 have lt:∀y c,clos.lookup y=some c->c<s.heap.objs.size:=λ y c e=>by
  obtain⟨o,vv,ho',_⟩:=hcell (y,c) (mem y c e);exact aA (hget _ _ ho')
 have I:Inv (RH P w K mg base (pn::fs) qual scope f (.ref c') ((pn,s.heap.objs.size+1)::clos) A outer s (utk H' L) H' E) [] (some v::cv.map some) (utk H' L) { s with heap:=h1,toks:=tk }:=by
  refine⟨⟨e0.mod,S.kind,rfl,rfl,ah _,λ x y c h1' h2'=>?_,λ y hy=>?_,λ y c z=>absurd z (by simp[RH]),λ_=>hr.hd,Around.frames_deeper e0.frames,.inr ⟨rfl,rfl⟩,λ b z=>absurd z (noA b),λ b o e=>⟨(e0.bs b o e).1,Cz (e0.bs b o e).2⟩,e0.bsz,λ b _ _=>noA b,λ b z=>absurd z (noA b),e0.funs,λ b hb=>Cz (e0.frf b hb)⟩,
   rfl,e0.bare,Un.kept hk,⟨_,hns,λ i y vv h1' h2 h3=>?_⟩,λ y c e=>?_,Cz (e0.hok.fresh (ah _)),λ y c e=>?_,λ p hp=>absurd (show p∈([]:PNz) from hp) (by simp),(e0.hok.utk hL').kept hk,?_⟩
  .rcases look x c h1' with ⟨rfl,rfl⟩|⟨_,q1⟩
   .rcases look y _ h2' with ⟨rfl,_⟩|⟨_,q2⟩
    .rfl
    .exact absurd (lt y _ q2) (Nat.not_lt.mpr (bI _))
   .rcases look y _ h2' with ⟨rfl,rfl⟩|⟨_,q2⟩
    .exact absurd (lt x _ q1) (Nat.not_lt.mpr (bI _))
    .exact hinj x y c q1 q2
  .have hy:scope.names.lookup y=some .cell\/scope.names.lookup y=some .free:=hy;rcases hy with hy|hy
   .rw[S.own y hy];exact⟨_,lookP⟩
   .have m:=S.free y hy;obtain⟨c,e⟩:=(hkeys y).mpr m;exact⟨c,lookF y c (λ z=>npf (z ▸ m)) e⟩
  .have h1':(pn::fs)[i]?=some y:=h1';cases i with
   |zero =>
    cases h1';cases h2;exact⟨u,ru,.inr ⟨.inl S.par,_,lookP,hcl⟩⟩
   |succ i =>
    have h1':fs[i]?=some y:=h1';have h2:(cv.map some)[i]?=some (some vv):=h2;rw[aB]at h2;obtain⟨z,hz,e⟩:=bK.mp h2;cases e;have m:=ao h1';obtain⟨c,hc'⟩:=(hkeys y).mpr m;obtain⟨o,u',ho',hd,rv⟩:=hval (y,c) (mem y c hc') i vv h1' hz;exact⟨u',rv,.inr ⟨.inr (S.isfree y m),c,lookF y c (λ z=>npf (z ▸ m)) hc',o,hk _ _ (hget _ _ ho'),hd⟩⟩
  .rcases look y c e with ⟨rfl,rfl⟩|⟨_,e⟩
   .exact⟨_,hcl⟩
   .obtain⟨o,vv,ho',hd⟩:=hcell (y,c) (mem y c e);exact⟨vv,o,hk _ _ (hget _ _ ho'),hd⟩
  .rcases look y c e with ⟨rfl,rfl⟩|⟨_,e⟩
   .exact Cz (e0.hok.fresh (bI _))
   .obtain⟨o,vv,ho',hd⟩:=hcell (y,c) (mem y c e);exact Fs ho'
  .show(some v::cv.map some).length=(pn::fs).length;rw[aI,aI,aa,hlen]
 refine wpAny_mono (hpe [] _ _ _ _ I h) (λ u2 s' ⟨v2,H2,J,rv,q⟩=>?_) λ e s' z=>z;have un:Un (frs outer) [] (utk H' L) H2 s.heap s'.heap:=J.base;have hnf:∀a o,L.lookup a=some o->a∉frs outer:=λ a o e hb=>by
  have:=e0.frf a hb;rw[hL' a o e]at this;cases this
 have hno:∀a o,L.lookup a=some o->H2 a=none:=λ a o e=>un.free a o (hget a o e) (Fs e) (by simp);exact⟨v2,tkd H2 L,J.os,J.bare,un.tkd hL',J.hok.tkd hno (λ a o e=>un.keep a o (hget a o e) (Fs e) (hnf a o e) (by simp)),rv,q hno⟩
theorem M1{M:Model}{A:Around}{E:VPz}{s:Shared}{K:Frag}{G C e:Addr}{d:Option Addr}{dt:Data}{sl':AOz}{Q:Bool->Shared->Prop}{b:Bool}(X:K.In s.heap){fI:Addr}(hG:Ed K G fI=true)
  (he:s.heap.get? e=some ⟨.ref C,d,dt,sl'⟩) (hs:mroIn K C (.ref G)=some b) (h:Q b s):wpAny M A (excMatches (.ref e) (.ref G)) Q E s:=by
 have LS:=looks_mroIn (M:=M) X hs;obtain⟨hp,g,dr,tk,os⟩:=s;have q:=hG;unfold Ed at q;split at q
 .rename_i dd cd sl ho;split at q
  .rename_i C' bm k0 k1 k2 k3 n k5 hm hs;simp only[aK,beq_iff_eq,cV]at q;obtain⟨⟨⟨⟨⟨rfl,rfl⟩,hdel⟩,ht⟩,hok⟩,hni⟩:=q;obtain⟨nm,bs,mro,ns,qn,hd,sn,sub,ab,col,del⟩:=cd;dsimp only at hm hdel hok hni;subst hm hdel;have hsl:sl=#[k0,k1,k2,k3,some (.builtin "ValueError.__new__"),k5]:=by
    obtain⟨l⟩:=sl;simp only at hs;rw[hs]
   subst hsl;have hC:hp.get? C'=some (excClassObj nm qn C' ns bs bm hd sn sub ab col dd k0 k1 k2 k3 k5 "ValueError.__new__"):=X _ _ ho;have hcB:(Value.ref C'::bm).contains (.type "BaseException")=true:=by
    rw[cI,(tail_of_in X ht).hasType (show vErr.contains (.type "BaseException")=true by decide +kernel)];exact dM _
   have f:=tc_notTuple;unfold excMatches;cases b<;>(repeat (first|with_reducible refine wpAny_loadPart_at he ?_|with_reducible refine wpAny_loadPart_at hC ?_|(with_reducible refine wpAny_isSubtype_exc hC ?_;rw[hcB])|(with_reducible refine LS.at ?_)|wp_step))<;>exact h
  .cases q
 .cases q
abbrev TH:=Cd->St->Hp->Addr->Addr->Option Addr->Addr->Prop
def PHs(X:Cx)(hs:List ExceptHandler)(t:TH):Prop:=∀(pins:PNz)(s:Shared)(σ:St)(H':Hp)(D:Cd)(x C:Addr)(d:Option Addr)(T2:Addr),T2≠x->Inv X pins σ (thrown H' x C d T2) s->t D σ H' x C d T2 ->
 wpAny (model X.prog X.w) X.A (handleBy (.ref x) X.env hs) (SP X pins D) X.xe s
inductive Sn(K:Frag)(im:Nat)(G:Addr)(ts:TS)(tr:TH)(D:Cd)(σ:St)(H':Hp)(x C:Addr)(d:Option Addr)(T2:Addr):Prop
 |mk (b:Bool) (m:mroIn K C (.ref G)=some b) (y:b=true->ts (Sd im D) (σ.set im (some (.ref x))) (thrown H' x C d T2)) (n:b=false->tr D σ H' x C d T2):Sn K im G ts tr D σ H' x C d T2
def Vk:TH:=λ_ _ _ _ _ _ _=>False
def TJ(t:XK->TS)(th:TH):TS:=λ D σ H=>∃E₁:XK,t E₁ { nx:=D.nx,rt:=λ_ _=>False } σ H /\
 ∀x C d T T2 H',E₁ (.ref x) d H'->Fo H' x C d T->H' T2=none->T2≠x->th D σ H' x C d T2
section
variable{X:Cx}{im:Nat}{m g:Str}{G:Addr}{b₀ st:Stmt}{suite:List Stmt}{gp hpos pos:Pos}{ts:TS}{t:XK->TS}{hs:List ExceptHandler}{th:TH}
theorem Rh:PHs X [] Vk:=λ_ _ _ _ _ _ _ _ _ _ _ z=>z.elim
theorem Re(he:PXS X st t)(hh:PHs X hs th)(hst:X.stack=X.env::X.outer)(hfr:X.env.frame=some X.env.locals)(hne:hs≠[]):PS X (.Try [st] hs [] [] pos) (TJ t th):=by
 intro pins s σ H D I ⟨E₁,h,hk⟩;rw[arm_exec_Try];cases hs with
 |nil=>exact absurd rfl hne
 |cons h0 hs =>
 refine wpAny_bind (wpAny_standAt (wpAny_tryStmt_except ?_));refine wpAny_execs_cons (thn (he E₁ pins s σ H _ _ I h λ x T C d H' s' I' fl q=>?_) λ f s1 q=>?_)
 .refine FL I' hst hfr (.inr ⟨T,fl⟩) λ h' T2 hT2 nT2 I2=>?_;exact hh pins _ σ H' D x C d T2 nT2 I2 (hk x C d T T2 H' q fl hT2 nT2)
 .cases f with
  |next=>obtain⟨σ',H',I',q⟩:=q;exact wpAny_execs_nil (wpAny_execs_nil ⟨σ',H',I',q⟩)
  |ret v=>obtain⟨_,_,_,_,_,q⟩:=q;exact q.elim
  |brk=>obtain⟨_,_,_,q⟩:=q;exact q.elim
  |cont=>obtain⟨_,_,_,q⟩:=q;exact q.elim
end
section
variable{X:Cx}{k j i:Nat}{x m n:Str}{C:Addr}{ps ks:LSz}{sp:Sp}{p pos apos np:Pos}{e o value:Expr}{es:List Expr}{kws:List Keyword}{t tk:TA}{ta:TE}{te:XK->TE}{E:XK}{g:LWz->LWz->LWz}{gV:LUz->LUz->LUz}
def Tp(i:Nat)(te:XK->TE):XK->TS:=λ E D σ H=>te E σ H (λ v H1=>D.nx (σ.set i (some v)) H1)
theorem Rb(hN:X.N.Nodup)(hi:X.N[i]?=some n)(hx:Loc X.env.scope n)(he:∀E,PX X value (te E) E)(hsw:swapsWith value (some (.Name n np)) apos.line X.env=pure false:=by rfl)(hf:X.fn n=true\/X.env.scope.names.lookup n=some .local:=by first|exact .inl rfl|exact .inr rfl|assumption) :
  PXS X (.Assign [.Name n np] value apos) (Tp i te):=by
 intro E pins s σ H D Ex I h hx';refine wpAny_Assign_Name (thn (he E pins s σ H _ _ I h hx') λ v s1 ⟨y,H1,I1,r1,q1⟩=>?_) hsw;exact ES I1 hN hi hx r1 (λ s2 I2=>⟨_,H1,I2,q1⟩) hf
end
theorem RC{K:Frag}{hp:Heap}{G:Addr}(X:K.In hp)(hG:PySem.W.excIn K G vErr "ValueError.__new__"=true):∃nm qn ns bs bm hd sn sub ab col dd k0 k1 k2 k3 k5,hp.get? G=some (excClassObj nm qn G ns bs bm hd sn sub ab col dd k0 k1 k2 k3 k5 "ValueError.__new__")/\(Value.ref G::bm).contains (.type "BaseException")=true:=by
 have q:=hG;unfold PySem.W.excIn at q;split at q
 .rename_i dd cd sl ho;split at q
  .rename_i C' bm k0 k1 k2 k3 n k5 hm hs;simp only[aK,beq_iff_eq,cV]at q;obtain⟨⟨⟨⟨⟨rfl,rfl⟩,hdel⟩,ht⟩,hok⟩,hni⟩:=q;obtain⟨nm,bs,mro,ns,qn,hd,sn,sub,ab,col,del⟩:=cd;dsimp only at hm hdel hok hni;subst hm hdel;have hsl:sl=#[k0,k1,k2,k3,some (.builtin "ValueError.__new__"),k5]:=by
    obtain⟨l⟩:=sl;simp only at hs;rw[hs]
   subst hsl;have hcB:(Value.ref C'::bm).contains (.type "BaseException")=true:=by
    rw[cI,(tail_of_in X ht).hasType (show vErr.contains (.type "BaseException")=true by decide +kernel)];exact dM _
   exact⟨_,_,_,_,_,_,_,_,_,_,_,_,_,_,_,_,X _ _ ho,hcB⟩
  .cases q
 .cases q
theorem M2{M:Model}{A:Around}{E:VPz}{s:Shared}{K:Frag}{G C e:Addr}{d:Option Addr}{dt:Data}{sl':AOz}{Q:Bool->Shared->Prop}{b:Bool}(X:K.In s.heap)(hG:PySem.W.excIn K G vErr "ValueError.__new__"=true)
  (he:s.heap.get? e=some ⟨.ref C,d,dt,sl'⟩) (hs:mroIn K C (.ref G)=some b) (h:Q b s):wpAny M A (excMatches (.ref e) (.ref G)) Q E s:=by
 have LS:=looks_mroIn (M:=M) X hs;obtain⟨hp,g,dr,tk,os⟩:=s;obtain⟨nm,qn,ns,bs,bm,hd,sn,sub,ab,col,dd,k0,k1,k2,k3,k5,hC,hcB⟩:=RC X hG;have f:=tc_notTuple;unfold excMatches;cases b<;>(repeat (first|with_reducible refine wpAny_loadPart_at he ?_|with_reducible refine wpAny_loadPart_at hC ?_|(with_reducible refine wpAny_isSubtype_exc hC ?_;rw[hcB])|(with_reducible refine LS.at ?_)|wp_step))<;>exact h
def So(K:Frag)(G:Addr):Prop:=(∃fI,Ed K G fI=true)\/PySem.W.excIn K G vErr "ValueError.__new__"=true
section
variable{X:Cx}{k j im:Nat}{x m g:Str}{C G:Addr}{p pos cpos:Pos}{e:Expr}{E:XK}{te:TE}{b₀:Stmt}{suite:List Stmt}{gp hpos:Pos}{ts:TS}{hs:List ExceptHandler}{th:TH}
theorem Ox(hN:X.N.Nodup)(him:X.N[im]?=some m)(hm:X.env.scope.names.lookup m=some .local)(hgl:Gl X g)(hg:X.mg g=some (.ref G))(hG:So X.K G)(hsu:∀x,PSs (X.suite x) (b₀::suite) ts)(hr:PHs X hs th)
    (hdb:(g==("__debug__":Str))=false:=by decide):PHs X (.ExceptHandler (some (.Name g gp)) (some m) (b₀::suite) hpos::hs) (Sn X.K im G ts th):=by
  intro pins s' σ H' D x C d T2 nT2 I2 hh;obtain⟨b,hsub,hy,hn⟩:=hh;have fl2:Fo (thrown H' x C d T2) x C d T2:=⟨DR,ER nT2,nT2⟩;obtain⟨⟨vs,sl,e1,e2⟩,_⟩:=(show ObjOk X.prog X.w (thrown H' x C d T2) s'.heap x (Fp C d x T2) from I2.hok x _ fl2.1);obtain⟨⟨o,tv,f1,f2,f3⟩,_⟩:=(show ObjOk X.prog X.w (thrown H' x C d T2) s'.heap T2 (TbO T2) from I2.hok T2 _ fl2.2.1);have mt:∀{A:Around}{Ex:VPz}{Q:Bool->Shared->Prop},Q b s'->wpAny (model X.prog X.w) A (excMatches (.ref x) (.ref G)) Q Ex s':=λ q=>hG.elim (λ⟨fI,z⟩=>M1 I2.kIn z e1 hsub q) λ z=>M2 I2.kIn z e1 hsub q;refine wpAny_handleBy_cons (codeAny_handlers_test (DF (X:=X.suite x) (I2.suite x) hgl hg (mt ?_) hdb)) (by intro z;cases z);cases b with
  |false=>exact hr pins s' σ H' D x C d T2 nT2 I2 (hn rfl)
  |true =>
    have hts:=hy rfl;show codeAny _ _ _ _ _;refine codeAny_handlers_suite_as (Hh e1 e2 f1 f2 (bj.mp f3).1 λ h3 k3 t3=>?_);have same:upd (thrown H' x C d T2) T2 (TbO T2)=thrown H' x C d T2:=funext λ b=>by
      by_cases z:b=T2
      · rw[z,Af,ER nT2]
      · rw[Ag z]
    have I3:Inv X pins σ (thrown H' x C d T2) { s' with heap:=h3 }:=by
      have:=I2.write (x:=T2) (e:=T2) (h':=h3) (o:=TbO T2) (t':=s'.toks) (by rw[fl2.2.1];exact True.intro) (.inl rfl) (λ b u nb z=>(k3 b nb).trans z) (let ⟨o,_,e,_⟩:=t3;⟨o,e⟩) (Mc t3);rw[same]at this;exact this
    refine ES (X:=X.suite x) (I3.suite x) hN him (.inl hm) (v:=.ref x) rfl (λ s4 I4=>?_) (.inr hm);refine wpAny_mono (hsu x pins s4 _ _ (Sd im D) I4 hts) (λ fl s5 q5=>?_) λ_ _ z=>False.elim z;show wpAny (model X.prog X.w) X.A (do bindName X.env m .none;unbindBehindTheSuite X.env m hpos) (λ_ s₃=>SP X pins D fl s₃) X.xe s5;cases fl with
    |next=>obtain⟨σ',H5,I5,q⟩:=q5;exact Gk (I5.unsuite (ok:=I2.ok)) hN him hm λ s6 I6=>⟨_,H5,I6,q⟩
    |brk=>obtain⟨σ',H5,I5,q⟩:=q5;exact Gk (I5.unsuite (ok:=I2.ok)) hN him hm λ s6 I6=>⟨_,H5,I6,q⟩
    |cont=>obtain⟨σ',H5,I5,q⟩:=q5;exact Gk (I5.unsuite (ok:=I2.ok)) hN him hm λ s6 I6=>⟨_,H5,I6,q⟩
    |ret u=>obtain⟨v,σ',H5,I5,r,q⟩:=q5;exact Gk (I5.unsuite (ok:=I2.ok)) hN him hm λ s6 I6=>⟨v,_,H5,I6,r,q⟩
end
section
variable{X:Cx}
theorem Ov{a b c d:Expr}{ta tb tc td:TE}{pos:Pos}{op op' op'':CmpOp}{r r' r'':R2}(ho:OpR X (compareOp op) r)(ho':OpR X (compareOp op') r')(ho'':OpR X (compareOp op'') r'')(ha:PE X a ta)(hb:PE X b tb)(hc:PE X c tc)(hd:PE X d td)
  (hm:lastMarks [op,op',op''] [b,c,d]=false:=by with_unfolding_all rfl):PT X (.Compare a [op,op',op''] [b,c,d] pos) (Pf (QK r r' r'' ta tb tc td)):=by
 intro pins s σ H Q I h;refine isTrue_chain (thn (ha pins s σ H _ I h) λ v s1 ⟨x,H1,I1,r1,q1⟩=>test_link (thn (hb pins s1 σ H1 _ I1 q1) λ u s2 ⟨y,H2,I2,r2,q2⟩ =>
  thn (ho pins s2 σ H2 x y v u _ I2 r1 r2 q2) λ d s3 ⟨z,H3,I3,r3,k,e,q3⟩=>?_)) hm
 subst e;cases r3;refine wpAny_truthy_bool ?_;cases k with
 |false =>
  obtain⟨k',e',q'⟩:=q3;cases e';exact ite_ff ⟨H3,I3,q'⟩
 |true =>
  refine ite_tt (test_link (thn (hc pins s3 σ H3 _ I3 q3) λ w' s4 ⟨z',H4,I4,r4,q4⟩=>thn (ho' pins s4 σ H4 y z' u w' _ I4 r2 r4 q4) λ d' s5 ⟨z5,H5,I5,r5,k',e5,q5⟩=>?_));subst e5;cases r5;refine wpAny_truthy_bool ?_;cases k' with
  |false =>
   obtain⟨k2,e',q'⟩:=q5;cases e';exact ite_ff ⟨H5,I5,q'⟩
  |true =>
   refine ite_tt (test_last (thn (hd pins s5 σ H5 _ I5 q5) λ w6 s6 ⟨z6,H6,I6,r6,q6⟩=>thn (ho'' pins s6 σ H6 z' z6 w' w6 _ I6 r4 r6 q6) λ d' s7 ⟨z7,H7,I7,r7,k2,e2,q7⟩=>?_));subst e2;cases r7;exact wpAny_truthy_bool ⟨H7,I7,q7⟩
def Ra(K:Frag):R2:=λ x y H Q=>∃(p:Addr)(as:List Addr)(g:Addr->Bool)(d:D),y=.ref p/\SqL K H p (as.map V.ref)/\DIs K H d x/\(∀a∈as,∃d',DIs K H d' (.ref a)/\dep d'<=4/\deq d' d=g a)/\Q (.bl (!(as.any g))) H
def QZ(g:Addr->Bool):Value->Bool
 |.ref a=>g a
 |_=>false
theorem Gs{g:Addr->Bool}:∀{as:List Addr}{us:LWz},Vals (as.map V.ref) us->us=as.map Value.ref/\us.any (QZ g)=as.any g
 |[],_,.nil=>⟨rfl,rfl⟩
 |a::r,_,.cons h t=>by
  obtain⟨e1,e2⟩:=Gs (g:=g) t;cases h;exact⟨by rw[e1];rfl,by rw[bP,bP,e2];rfl⟩
theorem Oy{k:Nat}(hr:Room k X.A):OpR X (compareOp .NotIn) (Ra X.K):=by
 intro pins s σ H x y v u Q I rx ry h;obtain⟨p,as,g,d,rfl,hq,hd,ha,q⟩:=h;cases ry;obtain⟨its,r,pl,hz⟩:=I.list hq;obtain⟨e1,e2⟩:=Gs (g:=g) r;have hu:=hr.units;refine SeqAt.notIn_listAt (QZ g) pl.isList (λ w hw=>?_) ⟨.bl _,H,I,rfl,?_⟩
 .have hw:w∈its:=by simpa using hw
  rw[e1]at hw;obtain⟨a,ham,rfl⟩:=aw.mp hw;obtain⟨d',h1,h2,h3⟩:=ha a ham;show SeqAt.EqAt _ _ _ _ (g a);rw[<-h3];exact Qp I 4 _ _ _ _ _ _ _ h2 h1 hd rfl rx (by show X.A.units+1+4<cLine;lia)
 .rw[show its.toArray.any (QZ g)=its.any (QZ g) by simp,e2];exact q
end
@[elab_as_elim] theorem nv {H:Hp} {c:Addr} {o:HO} {P:Hp->Prop} (n:H c=none) (h:∀G,Same H G->G c=some o->P G):P (upd H c o):=h _ (Same.new n) Af
theorem fsk{N ps:LSz}{sc:Scope}(a:sc.kind=.function:=by rfl)(b:sc.isCoroutine=false:=by rfl)(c:sc.isGenerator=false:=by rfl)(d:N.Nodup:=by decide +kernel)(e:N.take ps.length=ps:=by rfl)(f:∀x∈ps,sc.names.lookup x=some .local\/sc.names.lookup x=some .cell:=by decide +kernel)(g:∀y∈sc.names,y.2≠.free:=by decide +kernel):An N ps sc:=⟨a,b,c,d,e,f,g⟩
section
variable{P:Program}{w:World}{K:Frag}{mg:MGz}{base:Heap}{x qual:Str}{st:Stmt}{f c:Addr}{fd:FuncData}{N ps:LSz}{k:Nat}{sp:Sp}
theorem Fun.g(F:Fun K x qual st f fd)(S:An N ps (Ai st))(h:∀vs H Q E,sp vs H Q E->vs.length=ps.length/\∀(cdv:Value)(A:Around)(outer:List Env)(s:Shared),Room k (A.deeper (envOfC qual (Ai st) s.heap.objs.size f cdv)) ->
  ∃t,PSs (BA CX0 P w K mg base N qual (Ai st) f cdv A outer s H E).nox (A8 st) t/\t { nx:=λ_ H'=>Q .non H',rt:=Q } (C0 N vs) H):A5 P w K mg base CX0 (k+1) f fd ps sp :=
 F.ok S (λ vs H Q E z=>(h vs H Q E z).1) λ cdv A outer s H vs Q E hr z=>(h vs H Q E z).2 cdv A outer s hr
theorem Fun.gx(F:Fun K x qual st f fd)(S:An N ps (Ai st))(h:∀vs H Q E,sp vs H Q E->vs.length=ps.length/\∀(cdv:Value)(A:Around)(outer:List Env)(s:Shared),Room k (A.deeper (envOfC qual (Ai st) s.heap.objs.size f cdv)) ->
  ∃t,PSs (BA (CX1 P w) P w K mg base N qual (Ai st) f cdv A outer s H E) (A8 st) t/\t { nx:=λ_ H'=>Q .non H',rt:=Q } (C0 N vs) H):A5 P w K mg base (CX1 P w) (k+1) f fd ps sp :=
 F.okx S (λ vs H Q E z=>(h vs H Q E z).1) λ cdv A outer s H vs Q E hr z=>(h vs H Q E z).2 cdv A outer s hr
theorem FunD.g(F:FunD K x qual st f fd)(S:An N ps (Ai st))(h:∀vs H Q E,sp vs H Q E->vs.length=ps.length/\∀(cdv:Value)(A:Around)(outer:List Env)(s:Shared),Room k (A.deeper (envOfC qual (Ai st) s.heap.objs.size f cdv)) ->
  ∃t,PSs (BA CX0 P w K mg base N qual (Ai st) f cdv A outer s H E).nox (A8 st) t/\t { nx:=λ_ H'=>Q .non H',rt:=Q } (C0 N vs) H):A5 P w K mg base CX0 (k+1) f fd ps sp :=
 F.ok S (λ vs H Q E z=>(h vs H Q E z).1) λ cdv A outer s H vs Q E hr z=>(h vs H Q E z).2 cdv A outer s hr
theorem FunC.g(F:FunC K x qual st f fd c)(S:An N ps (Ai st))(h:∀vs H Q E,sp vs H Q E->vs.length=ps.length/\∀(A:Around)(outer:List Env)(s:Shared),Room k (A.deeper (envOfC qual (Ai st) s.heap.objs.size f (.ref c))) ->
  ∃t,PSs (BA CX0 P w K mg base N qual (Ai st) f (.ref c) A outer s H E).nox (A8 st) t/\t { nx:=λ_ H'=>Q .non H',rt:=Q } (C0 N vs) H):A5 P w K mg base CX0 (k+1) f fd ps sp :=
 F.ok S (λ vs H Q E z=>(h vs H Q E z).1) λ A outer s H vs Q E hr z=>(h vs H Q E z).2 A outer s hr
end
section
variable{X:Cx}
theorem nk(N:LSz)(h:N.Nodup:=by decide +kernel):N.Nodup:=h
theorem pgk{x:Str}{pos:Pos}(hN:X.N.Nodup)(hi:X.N[0]?=some x:=by rfl)(hx:Loc X.env.scope x:=by exact av rfl)(hf:X.fn x=true\/X.env.scope.names.lookup x=some .local:=by first|exact .inl rfl|exact .inr rfl|assumption):PG X (.Name x pos) (Qf 0):=Al hN hi hx hf
theorem BD{o e:Expr}{es:List Expr}{to:TE}{t:TA}{apos cpos:Pos}(ho:PE X o to)(ha:PA X (e::es) t)
  (hbase:attributeBase o "append" X.env (eval o X.env)=eval o X.env:=by rfl)
  (hfew:((backTo cpos (starEach (e::es) X.env)).all (λ x=>!x.1)&&(backToKw cpos (keywordEach [] X.env)).all (λ x=>x.1.isSome)
  &&decide ((e::es).length+([]:List Keyword).length+(if ([]:List Keyword).isEmpty then 0 else 1)<30))=true:=by rfl)
  (hline:(apos.endLine==cpos.line)=true:=by rfl) (hs:starEach (e::es) X.env=(false,eval e X.env)::starEach es X.env:=by rfl) (hplain:(backTo cpos (starEach es X.env)).any (·.1)=false:=by rfl) :
  PE X (.Call (.Attribute o "append" apos) (e::es) [] cpos) (tBM X.K "list" Np to t):=Ub br PySem.F.slot_list_append PySem.F.type_list_append F8 ho ha hbase hfew hline hs hplain
end
end L2
namespace K23
open PySem.W
open PySem L2 GB
def top(i:Nat):Stmt:=PySem.Challenge.pw_glazebench_k23_whole_tree_or_room.main.body.getD i (.Pass ⟨0,0,0,0⟩)
abbrev D8:Stmt:=AD (top 9) 0
abbrev E9:Stmt:=top 13
abbrev Fz:Stmt:=top 14
abbrev C1:Stmt:=top 15
abbrev G2:Stmt:=top 16
abbrev Dv:Stmt:=top 17
abbrev CZ:Stmt:=top 18
abbrev Da:Stmt:=top 19
abbrev BI:Stmt:=top 20
abbrev Cm:Stmt:=top 21
abbrev D9:Stmt:=AD (top 22) 0
abbrev Df:Stmt:=AD (top 22) 1
abbrev Cn:Stmt:=AD (top 22) 2
abbrev Jy:Stmt:=top 26
abbrev EA:Stmt:=top 27
abbrev Db:Stmt:=top 28
abbrev E8:Stmt:=top 29
abbrev CV:Stmt:=top 30
abbrev C3:Stmt:=top 31
abbrev Cl:Stmt:=top 32
abbrev B2:Stmt:=AD (top 38) 0
abbrev C6:Stmt:=AD (top 39) 0
abbrev DA:Stmt:=AD (top 40) 0
abbrev EB:Stmt:=top 44
abbrev DU:Stmt:=top 45
abbrev Dx:Stmt:=top 46
abbrev CY:Stmt:=top 47
abbrev CU:Stmt:=top 48
abbrev Mm:Stmt:=top 52
abbrev BX:Stmt:=top 53
abbrev CS:Stmt:=top 54
abbrev CW:Stmt:=top 55
abbrev Ck:Stmt:=top 56
abbrev Jx:Stmt:=top 57
abbrev Fy:Stmt:=top 58
abbrev Ml:Stmt:=top 59
abbrev DV:Stmt:=top 62
abbrev Bo:Stmt:=top 63
abbrev CT:Stmt:=top 64
abbrev DW:Stmt:=top 65
abbrev Dw:Stmt:=top 66
abbrev BW:Stmt:=top 67
abbrev Fx:Stmt:=top 68
abbrev Dy:Stmt:=top 70
abbrev DX:Stmt:=top 71
abbrev Bk:Stmt:=top 72
abbrev Bj:Stmt:=top 73
abbrev Bf:Stmt:=top 74
abbrev Bp:Stmt:=top 75
abbrev BJ:Stmt:=top 76
abbrev D6:Stmt:=top 77
abbrev C4:Stmt:=top 78
abbrev De:Stmt:=top 79
abbrev Dc:Stmt:=top 80
abbrev D5:Stmt:=top 81
abbrev By:Stmt:=top 82
abbrev Dz:Stmt:=top 83
abbrev C5:Stmt:=top 84
abbrev D7:Stmt:=top 85
abbrev Iv:Stmt:=top 86
theorem nw{H:Hp}{c:Addr}(o:HO)(n:H c=none):∃G,upd H c o=G/\Same H G/\G c=some o:=⟨_,rfl,Same.new n,Af⟩
def DQ:V->Bool
 |.int _=>true
 |_=>false
def K6:V->Bool
 |.int i=>decide (1<=i)&&decide (i<=12)
 |_=>false
def Ew:LUz->Bool
 |[.int a,.int b,.int c,.int d]=>decide (0<=a)&&decide (a<c)&&(decide (0<=b)&&decide (b<d))
 |_=>false
def Ty(H:Hp)(v:V):Prop:=∃T,tyS H v=some T
theorem OZ{H H':Hp}(s:Same H H'){v:V}{T:String}(h:tyS H v=some T):tyS H' v=some T:=by
 cases v with
 |ref a =>
  have h:tyO (H a)=some T:=h;show tyO (H' a)=some T;cases e:H a with
  |none=>rw[e]at h;cases h
  |some o=>rw[e]at h;rw[s a o e];exact h
 |_=>exact h
theorem Ty.same{H H':Hp}(s:Same H H'){v:V}(h:Ty H v):Ty H' v:=let ⟨T,e⟩:=h;⟨T,OZ s e⟩
theorem Kt{H:Hp}{v:V}{T:String}(h:tyS H v=some T):(isB T "int"=true->(!isB T "bool")=DQ v)/\(isB T "int"=false->false=DQ v):=by
 cases v with
 |non=>cases h;exact⟨λ z=>absurd z (by decide),λ_=>rfl⟩
 |bl b=>cases h;exact⟨λ_=>by show(!isB "bool" "bool")=false;decide,λ z=>absurd z (by decide)⟩
 |int i=>cases h;exact⟨λ_=>by show(!isB "int" "bool")=true;decide,λ z=>absurd z (by decide)⟩
 |str x=>cases h;exact⟨λ z=>absurd z (by decide),λ_=>rfl⟩
 |byt b=>cases h
 |flt b=>cases h
 |ty n=>cases h
 |ref a =>
  have key:T="list"\/T="tuple"\/T="dict":=by
   have h:tyO (H a)=some T:=h;unfold tyO at h;split at h<;>first|(cases h;simp)|cases h
  rcases key with rfl|rfl|rfl<;>exact⟨λ z=>absurd z (by decide),λ_=>rfl⟩
theorem OW{H:Hp}{a:Addr}{xs:LUz}(h:H a=some (.tup xs)):tyS H (.ref a)=some "tuple":=by
 show tyO (H a)=some "tuple";rw[h];rfl
theorem OX{H:Hp}{a:Addr}{xs:LUz}(h:H a=some (.lst xs)):tyS H (.ref a)=some "list":=by
 show tyO (H a)=some "list";rw[h];rfl
abbrev AK(a b c d:Int):LUz:=[.int a,.int b,.int c,.int d]
def Fi(a0 a1 a2 a3 o0 o1 o2 o3:Int):Bool:=decide (o0<=a0)&&decide (o1<=a1)&&(decide (a2<=o2)&&decide (a3<=o3))
def At(H:Hp)(ts:List (Addr×Rc)):Prop:=∀t∈ts,H t.1=some (.tup (AK t.2.t t.2.l t.2.b t.2.r))
theorem At.same{H H':Hp}{ts:List (Addr×Rc)}(a:At H ts)(s:Same H H'):At H' ts:=λ t h=>s _ _ (a t h)
theorem At.perm{H:Hp}{ts us:List (Addr×Rc)}(a:At H ts)(s:us.Perm ts):At H us:=λ t h=>a t (s.mem_iff.mp h)
abbrev Ao{α:Type}(ts:List (Addr×α)):LUz:=ts.map λ t=>V.ref t.1
abbrev rcs(ts:List (Addr×Rc)):List Rc:=ts.map (·.2)
theorem F0(us:List (Addr×Rc))(x:Addr×Rc):Ao (us++[x])=Ao us++[V.ref x.1]:=by simp
theorem Dp(us:List (Addr×Rc))(x:Addr×Rc):rcs (us++[x])=rcs us++[x.2]:=by simp
theorem AU{α:Type}{ts:List (Addr×α)}{i:Nat}{x:V}(h:(Ao ts)[i]?=some x):∃t,ts[i]?=some t/\x=.ref t.1:=by
 rw[aB]at h;cases e:ts[i]? with
 |none=>rw[e]at h;cases h
 |some t=>rw[e]at h;exact⟨t,rfl,(Option.some.inj h).symm⟩
def Fk(w h:Int)(ls ld:Addr):LFz:=Bd "by_square" (.ref ld) (Bd "sorted_panes" (.ref ls) (Bd "height" (.int h) (Bd "width" (.int w) [])))
theorem Qh(w h:Int)(ls ld:Addr):(Fk w h ls ld).lookup ("width":Str)=some (.int w):=by
 unfold Fk;rw[A1,if_neg (by decide +kernel),A1,if_neg (by decide +kernel),A1,if_neg (by decide +kernel),A1,if_pos rfl]
theorem Qi(w h:Int)(ls ld:Addr):(Fk w h ls ld).lookup ("height":Str)=some (.int h):=by
 unfold Fk;rw[A1,if_neg (by decide +kernel),A1,if_neg (by decide +kernel),A1,if_pos rfl]
theorem SW(w h:Int)(ls ld:Addr):(Fk w h ls ld).lookup ("sorted_panes":Str)=some (.ref ls):=by
 unfold Fk;rw[A1,if_neg (by decide +kernel),A1,if_pos rfl]
theorem SX(w h:Int)(ls ld:Addr):(Fk w h ls ld).lookup ("by_square":Str)=some (.ref ld):=by
 unfold Fk;rw[A1,if_pos rfl]
theorem NF(w h:Int)(ls ld:Addr){m:Str}(h1:¬m="by_square")(h2:¬m="sorted_panes")(h3:¬m="height")(h4:¬m="width"):(Fk w h ls ld).lookup m=none:=by
 unfold Fk;rw[A1,if_neg h1,A1,if_neg h2,A1,if_neg h3,A1,if_neg h4];rfl
abbrev sqK(r c:Int):List Key:=[Sum.inl r,Sum.inl c]
theorem Jr{r c r' c':Int}(h:sqK r c=sqK r' c'):r=r'/\c=c':=by
 injection h with h1 h2;injection h2 with h2 _;exact⟨Sum.inl.inj h1,Sum.inl.inj h2⟩
structure PanelAt(C:Addr)(H:Hp)(a:Addr)(w h:Int)(ts:List (Addr×Rc))(dx ls ld:Addr)(kvs:LKz):Prop where
 ob:H a=some (.ins C dx (Fk w h ls ld))
 lst:H ls=some (.lst (Ao ts))
 dic:H ld=some (.dT kvs)
 ats:At H ts
 til:Tiles w h (rcs ts)
 few:ts.length<=52
 srt:Srt (rcs ts)
 look:∀r c,0<=r->r<h->0<=c->c<w->∃t∈ts,Bb kvs (sqK r c)=some (.ref t.1)/\t.2.has r c
 sw:1<=w/\w<=12
 sh:1<=h/\h<=12
theorem PanelAt.same{C:Addr}{H H':Hp}{a:Addr}{w h:Int}{ts:List (Addr×Rc)}{dx ls ld:Addr}{kvs:LKz}(p:PanelAt C H a w h ts dx ls ld kvs)(s:Same H H'):PanelAt C H' a w h ts dx ls ld kvs :=
 ⟨s _ _ p.ob,s _ _ p.lst,s _ _ p.dic,p.ats.same s,p.til,p.few,p.srt,p.look,p.sw,p.sh⟩
def rcD(p:Rc):D:=.tup (.cons (.at (.int p.t)) (.cons (.at (.int p.l)) (.cons (.at (.int p.b)) (.cons (.at (.int p.r)) .nil))))
def Et:List Rc->Ds
 |[]=>.nil
 |p::r=>.cons (rcD p) (Et r)
theorem Dh{K:Frag}{H:Hp}{a:Addr}{p:Rc}(h:H a=some (.tup (AK p.t p.l p.b p.r))):DIs K H (rcD p) (.ref a):=by
 unfold rcD;rw[DIs];refine⟨a,_,rfl,SqT.of h,?_⟩;rw[DIss];refine⟨_,_,rfl,by rw[DIs];exact⟨rfl,rfl⟩,?_⟩;rw[DIss];refine⟨_,_,rfl,by rw[DIs];exact⟨rfl,rfl⟩,?_⟩;rw[DIss];refine⟨_,_,rfl,by rw[DIs];exact⟨rfl,rfl⟩,?_⟩;rw[DIss];refine⟨_,_,rfl,by rw[DIs];exact⟨rfl,rfl⟩,?_⟩;rw[DIss]
theorem No{K:Frag}{H:Hp}:∀{ts:List (Addr×Rc)},At H ts->DIss K H (Et (rcs ts)) (Ao ts)
 |[],_=>by rw[show Et (rcs [])=.nil from rfl,DIss];rfl
 |t::r,h=>by
  show DIss K H (.cons (rcD t.2) (Et (rcs r))) (V.ref t.1::Ao r);rw[DIss];exact⟨_,_,rfl,Dh (h t aD),No λ u hu=>h u (aJ _ hu)⟩
theorem EZ(p:Rc):dep (rcD p)=1:=by
 unfold rcD;simp[dep,Cu]
theorem G6:∀ps:List Rc,Cu (Et ps)<=1
 |[]=>by rw[show Et []=.nil from rfl,Cu];lia
 |p::r=>by
  have:=G6 r;show Cu (.cons (rcD p) (Et r))<=1;rw[Cu,EZ];lia
theorem Fh{K:Frag}{H:Hp}{l:Addr}{ts:List (Addr×Rc)}(h:SqL K H l (Ao ts))(a:At H ts):DIs K H (.lst (Et (rcs ts))) (.ref l):=by
 rw[DIs];exact⟨l,_,rfl,h,No a⟩
theorem KI(p:Rc):dep (rcD p)<=50:=by rw[EZ];decide
def Gz:Sp:=λ vs H Q _=>∃v,vs=[v]/\Ty H v/\Q (.bl (DQ v)) H
def MZ:Sp:=λ vs H Q _=>∃v,vs=[v]/\Ty H v/\Q (.bl (K6 v)) H
def Jt:Sp:=λ vs H Q _=>∃v,vs=[v]/\((∃a xs,v=.ref a/\H a=some (.tup xs)/\xs.length<=100/\(∀x∈xs,Ty H x)/\∀H',Same H H'->Q (.bl (Ew xs)) H')\/∃T,tyS H v=some T/\T≠"tuple"/\Q (.bl false) H)
def Dm:Sp:=λ vs H Q _=>∃a b a0 a1 a2 a3 o0 o1 o2 o3,vs=[.ref a,.ref b]/\H a=some (.tup (AK a0 a1 a2 a3))/\H b=some (.tup (AK o0 o1 o2 o3))/\Q (.bl (Fi a0 a1 a2 a3 o0 o1 o2 o3)) H
inductive IZ(K:Frag)(vs:LUz)(H:Hp)(Q:VK)(E:XK):Prop
 |mk (a:Addr) (ns:List Int) (k:Int) (h0:vs=[.ref a,.int k]) (h1:SqL K H a (ns.map V.int)) (h2:0<=k) (h3:k<1000) (h4:∀p z,H p=none->Q (.ref p) (upd H p (.lst [.int z]))):IZ K vs H Q E
def EU(K:Frag) :Sp:=λ vs H Q E=>IZ K vs H Q E
def ET:Sp:=λ vs H Q _=>∃p z m,vs=[.ref p,.int m]/\H p=some (.lst [.int z])/\0<m/\m<18446744073709551616/\∀r z',0<=r->r<m->Q (.int r) (upd H p (.lst [.int z']))
inductive FT(vs:LUz)(H:Hp)(Q:VK)(E:XK):Prop
 |mk (a:Addr) (p:Rc) (h0:vs=[.ref a]) (h1:H a=some (.tup (AK p.t p.l p.b p.r))) (h2:0<=p.t) (h3:p.t<=p.b) (h4:p.b<=12) (h5:0<=p.l) (h6:p.l<=p.r) (h7:p.r<=12) (h8:∀(l:Addr)(sq:List (Addr×(Int×Int)))(H':Hp),Same H H'->H l=none->H' l=some (.lst (sq.map λ s=>V.ref s.1))->(∀s∈sq,H' s.1=some (.tup [.int s.2.1,.int s.2.2]))->sq.map (·.2)=sqs p->Q (.ref l) H'):FT vs H Q E
def E4:Sp:=λ vs H Q E=>FT vs H Q E
inductive DM(vs:LUz)(H:Hp)(Q:VK)(E:XK):Prop
 |mk (w h:Int) (h0:vs=[.int w,.int h]) (h1:(1<=w/\w<=12)) (h2:(1<=h/\h<=12)) (h3:∀H',Same H H'->Q .non H'):DM vs H Q E
def DS:Sp:=λ vs H Q E=>DM vs H Q E
inductive DN(K:Frag)(vs:LUz)(H:Hp)(Q:VK)(E:XK):Prop
 |mk (l sh:Addr) (w h:Int) (ts:List (Addr×Rc)) (h0:vs=[.ref l,.ref sh]) (h1:SqL K H l (Ao ts)) (h2:At H ts) (h3:H sh=some (.tup (AK 0 0 h w))) (h4:(∀p∈rcs ts,p.In w h)) (h5:ts.length<=52) (h6:∀H',Same H H'->Q .non H'):DN K vs H Q E
def DT(K:Frag) :Sp:=λ vs H Q E=>DN K vs H Q E
inductive E3(K:Frag)(vs:LUz)(H:Hp)(Q:VK)(E:XK):Prop
 |mk (l:Addr) (w h:Int) (ts:List (Addr×Rc)) (h0:vs=[.ref l]) (h1:SqL K H l (Ao ts)) (h2:At H ts) (h3:(∀p∈rcs ts,p.In w h)) (h4:(rcs ts).Pairwise Apart) (h5:ts.length<=52) (h6:w<=12) (h7:h<=12) (h8:∀(d:Addr)(kvs:LKz)(H':Hp),Same H H'->H d=none->H' d=some (.dT kvs)->(∀t∈ts,∀r c,t.2.has r c->Bb kvs (sqK r c)=some (.ref t.1))->Q (.ref d) H'):E3 K vs H Q E
def EW(K:Frag) :Sp:=λ vs H Q E=>E3 K vs H Q E
inductive CP(vs:LUz)(H:Hp)(Q:VK)(E:XK):Prop
 |mk (d sh:Addr) (w h:Int) (kvs:LKz) (h0:vs=[.ref d,.ref sh]) (h1:H d=some (.dT kvs)) (h2:H sh=some (.tup (AK 0 0 h w))) (h3:(1<=w/\w<=12)) (h4:(1<=h/\h<=12)) (h5:(∀r c,0<=r->r<h->0<=c->c<w->Bb kvs (sqK r c)≠none)) (h6:∀H',Same H H'->Q .non H'):CP vs H Q E
def Dn:Sp:=λ vs H Q E=>CP vs H Q E
inductive Ji(K:Frag)(C:Addr)(vs:LUz)(H:Hp)(Q:VK)(E:XK):Prop
 |mk (a dx l:Addr) (w h:Int) (ts:List (Addr×Rc)) (h0:vs=[.ref a,.int w,.int h,.ref l]) (h1:H a=some (.ins C dx [])) (h2:SqL K H l (Ao ts)) (h3:At H ts) (h4:Tiles w h (rcs ts)) (h5:ts.length<=52) (h6:(1<=w/\w<=12)) (h7:(1<=h/\h<=12)) (h8:∀(ts':List (Addr×Rc))(ls ld:Addr)(kvs:LKz)(H':Hp),SameX a H H'->ts'.Perm ts->PanelAt C H' a w h ts' dx ls ld kvs->Q .non H'):Ji K C vs H Q E
def K5(K:Frag)(C:Addr) :Sp:=λ vs H Q E=>Ji K C vs H Q E
inductive Ja(C:Addr)(vs:LUz)(H:Hp)(Q:VK)(E:XK):Prop
 |mk (a dx ls ld:Addr) (w h:Int) (ts:List (Addr×Rc)) (kvs:LKz) (h0:vs=[.ref a]) (h1:PanelAt C H a w h ts dx ls ld kvs) (h2:∀l,H l=none->Q (.ref l) (upd H l (.lst (Ao ts)))):Ja C vs H Q E
def EV(C:Addr) :Sp:=λ vs H Q E=>Ja C vs H Q E
inductive FU(C:Addr)(vs:LUz)(H:Hp)(Q:VK)(E:XK):Prop
 |mk (a dx ls ld:Addr) (w h r c:Int) (ts:List (Addr×Rc)) (kvs:LKz) (h0:vs=[.ref a,.int r,.int c]) (h1:PanelAt C H a w h ts dx ls ld kvs) (h2:0<=r) (h3:r<h) (h4:0<=c) (h5:c<w) (h6:∀t H',t∈ts->t.2.has r c->Same H H'->Q (.ref t.1) H'):FU C vs H Q E
def E5(C:Addr) :Sp:=λ vs H Q E=>FU C vs H Q E
inductive IY(K:Frag)(vs:LUz)(H:Hp)(Q:VK)(E:XK):Prop
 |mk (a:Addr) (ns:List Int) (k w h:Int) (h0:vs=[.ref a,.int k,.int w,.int h]) (h1:SqL K H a (ns.map V.int)) (h2:0<=k) (h3:k<=10) (h4:(1<=w/\w<=12)) (h5:(1<=h/\h<=12)) (h6:∀(l:Addr)(ts:List (Addr×Rc))(H':Hp),Same H H'->H l=none->H' l=some (.lst (Ao ts))->At H' ts->Tiles w h (rcs ts)->ts.length<=52->Q (.ref l) H'):IY K vs H Q E
def Kx(K:Frag) :Sp:=λ vs H Q E=>IY K vs H Q E
structure Txt(mg:MGz)(tk:Tok×Tok×Tok×Tok×Tok×Tok×Tok×Tok×Tok×Tok):Prop where
 z_isinstance:mg "isinstance"=none
 z_int:mg "int"=none
 z_bool:mg "bool"=none
 z_tuple:mg "tuple"=none
 z_list:mg "list"=none
 z_len:mg "len"=none
 z_range:mg "range"=none
 z_all:mg "all"=none
 z_any:mg "any"=none
 z_sorted:mg "sorted"=none
 z_str:mg "str"=none
 z_reversed:mg "reversed"=none
 z_min:mg "min"=none
 z_max:mg "max"=none
 z_enumerate:mg "enumerate"=none
 z_ValueError:mg "ValueError"=none
 g_LONGEST_SIDE:mg "LONGEST_SIDE"=some (.int 12 tk.1)
 g_MOST_PANES:mg "MOST_PANES"=some (.int 52 tk.2.1)
 g_WHOLE:mg "WHOLE"=some (.str "whole" tk.2.2.1)
 g_UPRIGHT_cuts:mg "UPRIGHT_cuts"=some (.str "upright" tk.2.2.2.1)
 g_LEVEL_cuts:mg "LEVEL_cuts"=some (.str "level" tk.2.2.2.2.1)
 g_TOP:mg "TOP"=some (.int 0 tk.2.2.2.2.2.1)
 g_LEFT:mg "LEFT"=some (.int 1 tk.2.2.2.2.2.2.1)
 g_ROOM:mg "ROOM"=some (.str "room" tk.2.2.2.2.2.2.2.1)
 g_LEVEL_leads:mg "LEVEL_leads"=some (.str "level" tk.2.2.2.2.2.2.2.2.1)
 g_UPRIGHT_leads:mg "UPRIGHT_leads"=some (.str "upright" tk.2.2.2.2.2.2.2.2.2)
structure OQ(K:Frag)(C:Addr):Prop where
 cl:Cls K C
 n_width:NoAttr K C "width"
 n_height:NoAttr K C "height"
 n_sorted_panes:NoAttr K C "sorted_panes"
 n_by_square:NoAttr K C "by_square"
def AA(p q:Rc):Bool:=Fi p.t p.l p.b p.r q.t q.l q.b q.r
def apR(p q:Rc):Bool:=decide (p.r<=q.l)||decide (q.r<=p.l)||(decide (p.b<=q.t)||decide (q.b<=p.t))
def okA(ps:List Rc)(q:Rc):Bool:=ps.all λ p=>AA p q||apR p q
def Nl(q:Rc):Bool:=Ew (AK q.t q.l q.b q.r)
def blk(w h:Int)(ps:List Rc)(q:Rc):Bool:=Nl q&&AA q ⟨0,0,h,w⟩&&okA ps q
def Uy(w h:Int)(ps:List Rc):Option Rc->Bool
 |none=>false
 |some q=>blk w h ps q
def RN(H:Hp)(v:V):Option Rc->Prop
 |some q=>∃b,v=.ref b/\H b=some (.tup (AK q.t q.l q.b q.r))
 |none=>(∃a xs,v=.ref a/\H a=some (.tup xs)/\xs.length<=100/\(∀x∈xs,Ty H x)/\Ew xs=false)\/∃T,tyS H v=some T/\T≠"tuple"
def K4:Sp:=λ vs H Q _=>∃a b p q,vs=[.ref a,.ref b]/\H a=some (.tup (AK p.t p.l p.b p.r))/\H b=some (.tup (AK q.t q.l q.b q.r))/\Q (.bl (apR p q)) H
inductive Jg(C:Addr)(vs:LUz)(H:Hp)(Q:VK)(E:XK):Prop
 |mk (a dx ls ld:Addr) (w h:Int) (ts:List (Addr×Rc)) (kvs:LKz) (v:V) (g:Option Rc) (h0:vs=[.ref a,v]) (h1:PanelAt C H a w h ts dx ls ld kvs) (h2:RN H v g) (h3:∀H',Same H H'->Q (.bl (Uy w h (rcs ts) g)) H'):Jg C vs H Q E
def K3(C:Addr) :Sp:=λ vs H Q E=>Jg C vs H Q E
inductive Jf(K:Frag)(vs:LUz)(H:Hp)(Q:VK)(E:XK):Prop
 |mk (a:Addr) (ns:List Int) (k w h m:Int) (h0:vs=[.ref a,.int k,.int w,.int h,.int m]) (h1:SqL K H a (ns.map V.int)) (h2:0<=k) (h3:k<=10) (h4:(1<=w/\w<=12)) (h5:(1<=h/\h<=12)) (h6:0<=m) (h7:m<=50) (h8:∀(l:Addr)(ts:List (Addr×Rc))(H':Hp),Same H H'->H' l=some (.lst (Ao ts))->At H' ts->Tiles w h (rcs ts)->ts.length<=m.toNat+1->Q (.ref l) H'):Jf K vs H Q E
def K2(K:Frag) :Sp:=λ vs H Q E=>Jf K vs H Q E
inductive LQ(K:Frag)(vs:LUz)(H:Hp)(Q:VK)(E:XK):Prop
 |mk (l b:Addr) (ts:List (Addr×Rc)) (q:Rc) (w h:Int) (h0:vs=[.ref l,.ref b]) (h1:SqL K H l (Ao ts)) (h2:At H ts) (h3:(∀p∈rcs ts,p.In w h)) (h4:ts.length<=52) (h5:w<=12) (h6:h<=12) (h7:H b=some (.tup (AK q.t q.l q.b q.r))) (h8:∀us:List (Addr×Rc),us.Perm ts->Srt (rcs us)->(okA (rcs us) q=false->∀H',Same H H'->Q .non H')/\(okA (rcs us) q=true->∀l' H',Same H H'->H l'=none->H' l'=some (.lst (Ao (us.filter λ t=>AA t.2 q)))->Q (.ref l') H')):LQ K vs H Q E
def Ju(K:Frag) :Sp:=λ vs H Q E=>LQ K vs H Q E
def Bl(g:Int->Bool)(acc:List (Int×Int))(p:Int):List (Int×Int) :=
 match acc.getLast? with
 |some u=>if u.2=p/\g p=false then acc.dropLast++[(u.1,p+1)] else acc++[(p,p+1)]
 |none=>acc++[(p,p+1)]
def Ev(g:Int->Bool)(ps:List Int):List (Int×Int):=ps.foldl (Bl g) []
def B3(f:Int->Bool)(lo:Int):Nat->List Int
 |0=>[]
 |n+1=>B3 f lo n++(if f (lo+n) then [lo+n] else [])
def CF(f g:Int->Bool)(lo:Int)(n:Nat):List (Int×Int):=Ev g (B3 f lo n)
structure Run(f g:Int->Bool)(s e:Int):Prop where
 lt:s<e
 on:∀x,s<=x->x<e->f x=true
 no:∀x,s<x->x<e->g x=false
 st:f (s-1)=false\/g s=true
theorem Run.uniq{f g:Int->Bool}{s s' e:Int}(h:Run f g s e)(h':Run f g s' e):s=s':=by
 have key:∀a b,Run f g a e->Run f g b e->¬a<b:=λ a b ha hb lt=>by
  rcases hb.st with h1|h1
  .rw[ha.on (b-1) (by lia) (by have:=hb.lt;lia)]at h1;cases h1
  .rw[ha.no b lt hb.lt]at h1;cases h1
 have h1:=key s s' h h';have h2:=key s' s h' h;lia
theorem Mn(f g:Int->Bool)(lo:Int)(n:Nat):CF f g lo (n+1)=if f (lo+n) then Bl g (CF f g lo n) (lo+n) else CF f g lo n:=by
 unfold CF Ev;show(B3 f lo n++_).foldl _ _=_;rw[List.foldl_append];cases f (lo+n)<;>rfl
structure Tk(f g:Int->Bool)(lo hi:Int)(acc:List (Int×Int)):Prop where
 mem:∀u,u∈acc↔(lo<=u.1/\u.2<=hi/\Run f g u.1 u.2/\(u.2=hi\/f u.2=false\/g u.2=true))
 ord:acc.Pairwise λ u v=>u.2<=v.1
 last:f (hi-1)=true->lo<hi->∃s,acc.getLast?=some (s,hi)
theorem Jz{f g:Int->Bool}{lo:Int}(h0:∀x,x<lo->f x=false):∀n:Nat,Tk f g lo (lo+n) (CF f g lo n)
 |0=>by
  refine⟨λ u=>⟨λ h=>absurd h aU,λ⟨h1,h2,h3,_⟩=>?_⟩,List.Pairwise.nil,λ_ h=>absurd h (by simp)⟩;have:=h3.lt;simp at h2;lia
 |n+1=>by
  have I:=Jz (f:=f) (g:=g) h0 n;rw[Mn];generalize CF f g lo n=acc at I |-;have hp:(lo+(n:Int))+1=lo+((n+1:Nat):Int):=by lia
  rw[<-hp];have lo_le:lo<=lo+(n:Int):=by lia
  generalize lo+(n:Int)=p at I lo_le |-;have e1:p+1-1=p:=by lia
  cases hf:f p with
  |false =>
   rw[if_neg ae];refine⟨λ u=>?_,I.ord,λ h=>by rw[e1,hf]at h;cases h⟩;rw[I.mem]
   constructor
   .rintro⟨h1,h2,h3,h4⟩;refine⟨h1,by lia,h3,?_⟩;rcases h4 with h4|h4
    .rw[h4];exact .inr (.inl hf)
    .exact .inr h4
   .rintro⟨h1,h2,h3,h4⟩;have h5:u.2≠p+1:=λ e=>by
     have:=h3.on p (by have:=h3.lt;lia) (by lia);rw[hf]at this;cases this
    exact⟨h1,by lia,h3,h4.imp_left λ e=>absurd e h5⟩
  |true =>
   rw[if_pos rfl];by_cases hx:∃s,acc.getLast?=some (s,p)/\g p=false
   .obtain⟨s,hl,hg⟩:=hx;have ha:acc=acc.dropLast++[(s,p)]:=by
     obtain⟨hne,he⟩:=List.getLast?_eq_some_iff.mp hl;rw[he];simp
    have hr:Bl g acc p=acc.dropLast++[(s,p+1)]:=by
     unfold Bl;rw[hl];simp[hg]
    rw[hr];generalize acc.dropLast=dl at ha |-;subst ha;have od:=bn.mp I.ord;have hs:lo<=s/\p<=p/\Run f g s p/\_:=(I.mem (s,p)).mp (by simp);obtain⟨s1,-,s2,-⟩:=hs;have s3:=s2.lt;refine⟨λ u=>?_,bn.mpr ⟨od.1,cm _ _,λ a ha b hb=>?_⟩,λ_ _=>⟨s,by simp⟩⟩
    .rw[ai,ad]
     constructor
     .rintro(h|rfl)
      .obtain⟨h1,h2,h3,h4⟩:=(I.mem u).mp (a9 _ h);have h5:=od.2.2 u h (s,p) (by simp);refine⟨h1,by lia,h3,?_⟩;have h6:u.2≠p:=by have:u.2<=s:=h5;lia
       exact .inr (h4.resolve_left h6)
      .refine⟨s1,aE _,⟨by show s<p+1;lia,λ x a b=>?_,λ x a b=>?_,s2.st⟩,.inl rfl⟩
       .by_cases e:x=p
        .rw[e];exact hf
        .exact s2.on x a (by have:x<p+1:=b;lia)
       .by_cases e:x=p
        .rw[e];exact hg
        .exact s2.no x a (by have:x<p+1:=b;lia)
     .rintro⟨h1,h2,h3,h4⟩;by_cases e:u.2=p+1
      .right
       have h5:u.1≠p:=λ e'=>by
        rcases h3.st with h6|h6
        .rw[e',s2.on (p-1) (by lia) (by lia)]at h6;cases h6
        .rw[e',hg]at h6;cases h6
       have h7:=h3.lt;have h8:Run f g u.1 p:=⟨by lia,λ x a b=>h3.on x a (by lia),λ x a b=>h3.no x a (by lia),h3.st⟩;have h9:=h8.uniq s2;exact bM h9 e
      .left
       have h5:u.2≠p:=λ e'=>by
        rcases h4 with h4|h4|h4
        .exact e h4
        .rw[e',hf]at h4;cases h4
        .rw[e',hg]at h4;cases h4
       have h6:=(I.mem u).mpr ⟨h1,by lia,h3,.inr (h4.resolve_left e)⟩;rcases ai.mp h6 with h6|h6
       .exact h6
       .rw[ad.mp h6]at h5;exact absurd rfl h5
    .rw[ad.mp hb];exact od.2.2 a ha (s,p) (by simp)
   .have hr:Bl g acc p=acc++[(p,p+1)]:=by
     unfold Bl;cases hl:acc.getLast? with
     |none=>rfl
     |some u =>
      show(if _ then _ else _)=_;rw[if_neg];rintro⟨a,b⟩;exact hx ⟨u.1,by rw[hl,<-a],b⟩
    rw[hr];have top:∀u∈acc,u.2=p->g p=true:=λ u hu e=>by
     obtain⟨h1,h2,h3,h4⟩:=(I.mem u).mp hu;have h5:=h3.lt;obtain⟨s,hl⟩:=I.last (h3.on (p-1) (by lia) (by lia)) (by lia);cases hg:g p with
     |true=>rfl
     |false=>exact absurd ⟨s,hl,hg⟩ hx
    refine⟨λ u=>?_,bn.mpr ⟨I.ord,cm _ _,λ a ha b hb=>?_⟩,λ_ _=>⟨p,by simp⟩⟩
    .rw[ai,ad]
     constructor
     .rintro(h|rfl)
      .obtain⟨h1,h2,h3,h4⟩:=(I.mem u).mp h;refine⟨h1,by lia,h3,?_⟩;rcases h4 with h4|h4
       .exact .inr (.inr (by rw[h4];exact top u h h4))
       .exact .inr h4
      .refine⟨lo_le,aE _,⟨by show p<p+1;lia,λ x a b=>?_,λ x a b=>?_,?_⟩,.inl rfl⟩
       .have:x=p:=by have:x<p+1:=b;have:p<=x:=a;lia
        rw[this];exact hf
       .have:x<p+1:=b;have:p<x:=a;lia
       .show f (p-1)=false\/g p=true;cases h1:f (p-1) with
        |false=>exact .inl rfl
        |true =>
         right
         have lt:lo<p:=by
          apply aZ;intro hn;rw[h0 (p-1) (by lia)]at h1;cases h1
         obtain⟨s,hl⟩:=I.last h1 lt;cases hg:g p with
         |true=>rfl
         |false=>exact absurd ⟨s,hl,hg⟩ hx
     .rintro⟨h1,h2,h3,h4⟩;have h7:=h3.lt;by_cases e:u.2=p+1
      .right
       refine bM ?_ e;show u.1=p;apply aZ;intro ne;have gp:=h3.no p (by lia) (by lia);obtain⟨s,hl⟩:=I.last (h3.on (p-1) (by lia) (by lia)) (by lia);exact hx ⟨s,hl,gp⟩
      .left
       exact(I.mem u).mpr ⟨h1,by lia,h3,.inr (h4.resolve_left e)⟩
    .rw[ad.mp hb];exact((I.mem a).mp ha).2.1
structure Cc(f g:Int->Bool)(s e:Int):Prop extends Run f g s e where
 en:f e=false\/g e=true
theorem K9{f g:Int->Bool}{lo hi:Int}(h:lo<=hi)(h0:∀x,x<lo->f x=false)(h1:∀x,hi<=x->f x=false)(u:Int×Int):u∈CF f g lo (hi-lo).toNat↔Cc f g u.1 u.2:=by
 have I:=Jz (g:=g) h0 (hi-lo).toNat;have e:lo+((hi-lo).toNat:Int)=hi:=by lia
 rw[e]at I;rw[I.mem]
 constructor
 .rintro⟨a,b,c,d⟩;exact⟨c,d.elim (λ z=>.inl (h1 _ (by lia))) id⟩
 .rintro⟨c,d⟩;refine⟨?_,?_,c,.inr d⟩
  .apply aZ;intro hn;have:=c.on u.1 (aE _) c.lt;rw[h0 u.1 (by lia)]at this;cases this
  .apply aZ;intro hn;have:=c.on (u.2-1) (by have:=c.lt;lia) (by lia);rw[h1 (u.2-1) (by lia)]at this;cases this
theorem G3{f g:Int->Bool}{lo:Int}(h0:∀x,x<lo->f x=false)(n:Nat):(CF f g lo n).Nodup:=by
 have I:=Jz (g:=g) h0 n;refine List.Pairwise.imp_of_mem ?_ I.ord;intro a b ha hb h e;subst e;have:=((I.mem a).mp ha).2.2.1.lt;lia
def DG(p:Rc)(r c:Int):Bool:=decide (p.t<=r)&&decide (r<p.b)&&(decide (p.l<=c)&&decide (c<p.r))
theorem hasB_iff{p:Rc}{r c:Int}:DG p r c=true↔p.has r c:=by
 unfold DG Rc.has;simp only[aK,decide_eq_true_eq]
 constructor
 .rintro⟨⟨a,b⟩,c,d⟩;exact⟨a,b,c,d⟩
 .rintro⟨a,b,c,d⟩;exact⟨⟨a,b⟩,c,d⟩
def own(ps:List Rc)(r c:Int):Rc:=(ps.find? λ p=>DG p r c).getD ⟨0,0,0,0⟩
theorem Dj{ps:List Rc}(h:ps.Pairwise Apart){p:Rc}{r c:Int}(hp:p∈ps)(a:p.has r c):own ps r c=p:=by
 unfold own;cases e:ps.find? λ p=>DG p r c with
 |none=>exact absurd (hasB_iff.mpr a) (List.find?_eq_none.mp e p hp)
 |some q=>exact Hy h (dY e) hp (hasB_iff.mp (List.find?_some (p:=λ p=>DG p r c) e)) a
def lvB(ps:List Rc)(q:Rc)(r c:Int):Bool:=decide (q.t<r)&&decide (r<q.b)&&(decide (q.l<=c)&&decide (c<q.r))&&!decide (own ps (r-1) c=own ps r c)
def upB(ps:List Rc)(q:Rc)(r c:Int):Bool:=decide (q.t<=r)&&decide (r<q.b)&&(decide (q.l<c)&&decide (c<q.r))&&!decide (own ps r (c-1)=own ps r c)
def psB(ps:List Rc)(q:Rc)(r c:Int):Bool:=lvB ps q r (c-1)&&lvB ps q r c
theorem BE{ps:List Rc}{q:Rc}{r c:Int}(h:lvB ps q r c=true):q.t<r/\r<q.b/\q.l<=c/\c<q.r:=by
 unfold lvB at h;simp only[aK,decide_eq_true_eq]at h;exact⟨h.1.1.1,h.1.1.2,h.1.2.1,h.1.2.2⟩
theorem Cj{ps:List Rc}{q:Rc}{r c:Int}(h:upB ps q r c=true):q.t<=r/\r<q.b/\q.l<c/\c<q.r:=by
 unfold upB at h;simp only[aK,decide_eq_true_eq]at h;exact⟨h.1.1.1,h.1.1.2,h.1.2.1,h.1.2.2⟩
theorem Ka{ps:List Rc}{q:Rc}{r c:Int}(h1:q.t<r)(h2:r<q.b)(h3:q.l<=c)(h4:c<q.r):lvB ps q r c=!decide (own ps (r-1) c=own ps r c):=by
 unfold lvB;simp[h1,h2,h3,h4]
theorem Jn{ps:List Rc}{q:Rc}{r c:Int}(h1:q.t<=r)(h2:r<q.b)(h3:q.l<c)(h4:c<q.r):upB ps q r c=!decide (own ps r (c-1)=own ps r c):=by
 unfold upB;simp[h1,h2,h3,h4]
abbrev LD:Type:=Bool×Int×Int×Int
def AQ(ps:List Rc)(q:Rc):LD->Prop
 | (false,n,s,e)=>Cc (λ c=>lvB ps q n c) (λ_=>false) s e
 | (true,n,s,e)=>Cc (λ r=>upB ps q r n) (λ r=>psB ps q r n) s e
def lvN(ps:List Rc)(q:Rc):Nat->List LD
 |0=>[]
 |n+1=>lvN ps q n++(CF (λ c=>lvB ps q (q.t+1+n) c) (λ_=>false) q.l (q.r-q.l).toNat).map λ u=>(false,q.t+1+n,u.1,u.2)
def upN(ps:List Rc)(q:Rc):Nat->List LD
 |0=>[]
 |n+1=>upN ps q n++(CF (λ r=>upB ps q r (q.l+1+n)) (λ r=>psB ps q r (q.l+1+n)) q.t (q.b-q.t).toNat).map λ u=>(true,q.l+1+n,u.1,u.2)
theorem JY{ps:List Rc}{q:Rc}(hq:q.l<=q.r)(d:LD):∀n:Nat,d∈lvN ps q n↔d.1=false/\AQ ps q d/\q.t<d.2.1/\d.2.1<q.t+1+n
 |0=>⟨λ h=>absurd h aU,λ⟨_,_,a,b⟩=>by simp at b;lia⟩
 |k+1=>by
  show d∈lvN ps q k++_↔_;rw[ai,JY hq d k,aw];rcases d with ⟨b,n,s,e⟩;have rm:=λ u:Int×Int=>K9 (f:=λ c=>lvB ps q (q.t+1+k) c) (g:=λ_=>false) hq (λ x hx=>by
   cases h:lvB ps q (q.t+1+k) x with
   |false=>rfl
   |true=>have:=BE h;lia) (λ x hx=>by
   cases h:lvB ps q (q.t+1+k) x with
   |false=>rfl
   |true=>have:=BE h;lia) u
  constructor
  .rintro(⟨a,b,c,d⟩|⟨u,hu,e⟩)
   .exact⟨a,b,c,by show n<_;have:n<q.t+1+k:=d;lia⟩
   .cases e;exact⟨rfl,(rm u).mp hu,by show q.t<q.t+1+k;lia,by show q.t+1+k<q.t+1+((k+1:Nat):Int);lia⟩
  .rintro⟨a,i,c,d⟩;cases a;have d':n<q.t+1+((k+1:Nat):Int):=d;by_cases e1:n=q.t+1+k
   .subst e1;exact .inr ⟨(s,e),(rm (s,e)).mpr i,rfl⟩
   .exact .inl ⟨rfl,i,c,by show n<_;lia⟩
theorem Jm{ps:List Rc}{q:Rc}(hq:q.t<=q.b)(d:LD):∀n:Nat,d∈upN ps q n↔d.1=true/\AQ ps q d/\q.l<d.2.1/\d.2.1<q.l+1+n
 |0=>⟨λ h=>absurd h aU,λ⟨_,_,a,b⟩=>by simp at b;lia⟩
 |k+1=>by
  show d∈upN ps q k++_↔_;rw[ai,Jm hq d k,aw];rcases d with ⟨b,n,s,e⟩;have rm:=λ u:Int×Int=>K9 (f:=λ r=>upB ps q r (q.l+1+k)) (g:=λ r=>psB ps q r (q.l+1+k)) hq (λ x hx=>by
   cases h:upB ps q x (q.l+1+k) with
   |false=>rfl
   |true=>have:=Cj h;lia) (λ x hx=>by
   cases h:upB ps q x (q.l+1+k) with
   |false=>rfl
   |true=>have:=Cj h;lia) u
  constructor
  .rintro(⟨a,b,c,d⟩|⟨u,hu,e⟩)
   .exact⟨a,b,c,by show n<_;have:n<q.l+1+k:=d;lia⟩
   .cases e;exact⟨rfl,(rm u).mp hu,by show q.l<q.l+1+k;lia,by show q.l+1+k<q.l+1+((k+1:Nat):Int);lia⟩
  .rintro⟨a,i,c,d⟩;cases a;have d':n<q.l+1+((k+1:Nat):Int):=d;by_cases e1:n=q.l+1+k
   .subst e1;exact .inr ⟨(s,e),(rm (s,e)).mpr i,rfl⟩
   .exact .inl ⟨rfl,i,c,by show n<_;lia⟩
theorem IB{ps:List Rc}{q:Rc}(hq:q.l<=q.r):∀n:Nat,(lvN ps q n).Nodup
 |0=>List.Pairwise.nil
 |k+1=>by
  show(lvN ps q k++_).Nodup;refine cP.mpr ⟨IB hq k,?_,λ a ha b hb e=>?_⟩
  .refine cO.mpr ((G3 (λ x hx=>?_) _).imp λ{a b} h e=>h ?_)
   .cases h:lvB ps q (q.t+1+k) x with
    |false=>rfl
    |true=>have:=BE h;lia
   .exact congrArg (λ d:LD=>d.2.2) e
  .subst e;obtain⟨u,_,rfl⟩:=aw.mp hb;have h1:=((JY hq _ k).mp ha).2.2.2;simp at h1
theorem Im{ps:List Rc}{q:Rc}(hq:q.t<=q.b):∀n:Nat,(upN ps q n).Nodup
 |0=>List.Pairwise.nil
 |k+1=>by
  show(upN ps q k++_).Nodup;refine cP.mpr ⟨Im hq k,?_,λ a ha b hb e=>?_⟩
  .refine cO.mpr ((G3 (λ x hx=>?_) _).imp λ{a b} h e=>h ?_)
   .cases h:upB ps q x (q.l+1+k) with
    |false=>rfl
    |true=>have:=Cj h;lia
   .exact congrArg (λ d:LD=>d.2.2) e
  .subst e;obtain⟨u,_,rfl⟩:=aw.mp hb;have h1:=((Jm hq _ k).mp ha).2.2.2;simp at h1
def BV(ps:List Rc)(q:Rc):List LD:=lvN ps q (q.b-(q.t+1)).toNat
def CD(ps:List Rc)(q:Rc):List LD:=upN ps q (q.r-(q.l+1)).toNat
theorem Eo{ps:List Rc}{q:Rc}(hq:q.l<=q.r)(d:LD):d∈BV ps q↔d.1=false/\AQ ps q d:=by
 unfold BV;rw[JY hq];refine⟨λ⟨a,b,_⟩=>⟨a,b⟩,λ⟨a,b⟩=>⟨a,b,?_⟩⟩;rcases d with ⟨x,n,s,e⟩;cases a;have i:Cc (λ c=>lvB ps q n c) (λ_=>false) s e:=b;have:=BE (i.on s (aE _) i.lt);exact⟨by show q.t<n;lia,by show n<_;lia⟩
theorem Il{ps:List Rc}{q:Rc}(hq:q.t<=q.b)(d:LD):d∈CD ps q↔d.1=true/\AQ ps q d:=by
 unfold CD;rw[Jm hq];refine⟨λ⟨a,b,_⟩=>⟨a,b⟩,λ⟨a,b⟩=>⟨a,b,?_⟩⟩;rcases d with ⟨x,n,s,e⟩;cases a;have i:Cc (λ r=>upB ps q r n) (λ r=>psB ps q r n) s e:=b;have:=Cj (i.on s (aE _) i.lt);exact⟨by show q.l<n;lia,by show n<_;lia⟩
theorem Ep{ps:List Rc}{q:Rc}(h1:q.l<=q.r)(h2:q.t<=q.b)(d:LD):d∈BV ps q++CD ps q↔AQ ps q d:=by
 rw[ai,Eo h1,Il h2];rcases d with ⟨b,n⟩;cases b<;>simp
theorem Ln{ps:List Rc}{q:Rc}(h1:q.l<=q.r)(h2:q.t<=q.b):(BV ps q++CD ps q).Nodup :=
 cP.mpr ⟨IB h1 _,Im h2 _,λ a ha b hb e=>by
  subst e;have x:=((Eo h1 a).mp ha).1;rw[((Il h2 a).mp hb).1]at x;cases x⟩
theorem KB(f:Int->Bool)(lo:Int)(h0:∀x,x<lo->f x=false):∀(n:Nat)(x:Int),f x=true->x<lo+n->∃s,s<=x/\f (s-1)=false/\∀y,s<=y->y<=x->f y=true
 |0,x,h,b=>by rw[h0 x (by lia)]at h;cases h
 |n+1,x,h,b=>by
  cases e:f (x-1) with
  |false=>exact⟨x,aE _,e,λ y a b=>by rw[show y=x by lia];exact h⟩
  |true =>
   obtain⟨s,s1,s2,s3⟩:=KB f lo h0 n (x-1) e (by lia);exact⟨s,by lia,s2,λ y a b=>by
    by_cases z:y=x
    .rw[z];exact h
    .exact s3 y a (by lia)⟩
theorem Iw(f:Int->Bool)(hi:Int)(h1:∀x,hi<=x->f x=false):∀(n:Nat)(x:Int),f x=true->hi<=x+n->∃e,x<e/\f e=false/\∀y,x<=y->y<e->f y=true
 |0,x,h,b=>by rw[h1 x (by lia)]at h;cases h
 |n+1,x,h,b=>by
  cases e:f (x+1) with
  |false=>exact⟨x+1,by lia,e,λ y a b=>by rw[show y=x by lia];exact h⟩
  |true =>
   obtain⟨s,s1,s2,s3⟩:=Iw f hi h1 n (x+1) e (by lia);exact⟨s,by lia,s2,λ y a b=>by
    by_cases z:y=x
    .rw[z];exact h
    .exact s3 y (by lia) b⟩
theorem Oo{ps:List Rc}{q:Rc}(hq:q.l<=q.r)(r c:Int):(∃d∈BV ps q,d.2.1=r/\d.2.2.1<c/\c<d.2.2.2)↔psB ps q r c=true:=by
 constructor
 .rintro⟨⟨b,n,s,e⟩,hd,rfl,h1,h2⟩;obtain⟨hb,hl⟩:=(Eo hq _).mp hd;cases hb;have i:Cc (λ c=>lvB ps q n c) (λ_=>false) s e:=hl;have h1':s<c:=h1;have h2':c<e:=h2;show(lvB ps q n (c-1)&&lvB ps q n c)=true;rw[i.on (c-1) (by lia) (by lia),i.on c (by lia) (by lia)];rfl
 .intro h;unfold psB at h;simp only[aK]at h;obtain⟨h1,h2⟩:=h;obtain⟨s,s1,s2,s3⟩:=KB (λ c=>lvB ps q r c) q.l (λ x hx=>by
   cases h:lvB ps q r x with
   |false=>rfl
   |true=>have:=BE h;lia) (c-q.l).toNat (c-1) h1 (by have:=BE h1;lia)
  obtain⟨e,e1,e2,e3⟩:=Iw (λ c=>lvB ps q r c) q.r (λ x hx=>by
   cases h:lvB ps q r x with
   |false=>rfl
   |true=>have:=BE h;lia) (q.r-c).toNat c h2 (by have:=BE h2;lia)
  refine⟨(false,r,s,e),(Eo hq _).mpr ⟨rfl,?_⟩,rfl,by show s<c;lia,e1⟩;show Cc (λ c=>lvB ps q r c) (λ_=>false) s e;exact⟨⟨by lia,λ x a b=>by
   by_cases z:x<c
   .exact s3 x a (by lia)
   .exact e3 x (by lia) b,λ_ _ _=>rfl,.inl s2⟩,.inl e2⟩
def At2(H:Hp)(us:List (Addr×(Int×Int))):Prop:=∀u∈us,H u.1=some (.tup [.int u.2.1,.int u.2.2])
theorem At2.same{H H':Hp}{us:List (Addr×(Int×Int))}(a:At2 H us)(s:Same H H'):At2 H' us:=λ t h=>s _ _ (a t h)
abbrev B7(us:List (Addr×(Int×Int))):LUz:=us.map λ u=>V.ref u.1
def Rv(d:LD):List Key:=[Sum.inr (cond d.1 "upright" "level"),Sum.inl d.2.1,Sum.inl d.2.2.1,Sum.inl d.2.2.2]
def AtL(H:Hp)(us:List (Addr×LD)):Prop:=∀u∈us,H u.1=some (.tup ((Rv u.2).map kV))
theorem AtL.same{H H':Hp}{us:List (Addr×LD)}(a:AtL H us)(s:Same H H'):AtL H' us:=λ t h=>s _ _ (a t h)
abbrev Bc(us:List (Addr×LD)):LUz:=us.map λ u=>V.ref u.1
inductive Oe(C:Addr)(vs:LUz)(H:Hp)(Q:VK)(E:XK):Prop
 |mk (a dx ls ld b:Addr) (w h:Int) (ts:List (Addr×Rc)) (kvs:LKz) (q:Rc) (h0:vs=[.ref a,.ref b]) (h1:PanelAt C H a w h ts dx ls ld kvs) (h2:H b=some (.tup (AK q.t q.l q.b q.r))) (h3:blk w h (rcs ts) q=true) (h4:∀H',Same H H'->Q .non H'):Oe C vs H Q E
def Mg(C:Addr) :Sp:=λ vs H Q E=>Oe C vs H Q E
inductive LN(K:Frag)(vs:LUz)(H:Hp)(Q:VK)(E:XK):Prop
 |mk (l m:Addr) (ps ss:List Int) (h0:vs=[.ref l,.ref m]) (h1:SqL K H l (ps.map V.int)) (h2:SqL K H m (ss.map V.int)) (h3:ps.length<=100) (h4:∀(lf:Addr)(us:List (Addr×(Int×Int)))(H':Hp),Same H H'->H lf=none->H' lf=some (.lst (B7 us))->At2 H' us->us.map (·.2)=Ev (λ x=>decide (x∈ss)) ps->Q (.ref lf) H'):LN K vs H Q E
def Js(K:Frag) :Sp:=λ vs H Q E=>LN K vs H Q E
inductive LX(C:Addr)(vs:LUz)(H:Hp)(Q:VK)(E:XK):Prop
 |mk (a dx ls ld b:Addr) (w h n:Int) (ts:List (Addr×Rc)) (kvs:LKz) (q:Rc) (h0:vs=[.ref a,.ref b,.int n]) (h1:PanelAt C H a w h ts dx ls ld kvs) (h2:H b=some (.tup (AK q.t q.l q.b q.r))) (h3:q.In w h) (h4:q.t<n) (h5:n<q.b) (h6:∀l H',Same H H'->H l=none->H' l=some (.lst ((B3 (λ c=>lvB (rcs ts) q n c) q.l (q.r-q.l).toNat).map V.int))->Q (.ref l) H'):LX C vs H Q E
def Nh(C:Addr) :Sp:=λ vs H Q E=>LX C vs H Q E
inductive LO(C:Addr)(vs:LUz)(H:Hp)(Q:VK)(E:XK):Prop
 |mk (a dx ls ld b:Addr) (w h n:Int) (ts:List (Addr×Rc)) (kvs:LKz) (q:Rc) (h0:vs=[.ref a,.ref b,.int n]) (h1:PanelAt C H a w h ts dx ls ld kvs) (h2:H b=some (.tup (AK q.t q.l q.b q.r))) (h3:q.In w h) (h4:q.l<n) (h5:n<q.r) (h6:∀l H',Same H H'->H l=none->H' l=some (.lst ((B3 (λ r=>upB (rcs ts) q r n) q.t (q.b-q.t).toNat).map V.int))->Q (.ref l) H'):LO C vs H Q E
def Na(C:Addr) :Sp:=λ vs H Q E=>LO C vs H Q E
inductive Oa(C:Addr)(vs:LUz)(H:Hp)(Q:VK)(E:XK):Prop
 |mk (a dx ls ld b:Addr) (w h:Int) (ts:List (Addr×Rc)) (kvs:LKz) (q:Rc) (h0:vs=[.ref a,.ref b]) (h1:PanelAt C H a w h ts dx ls ld kvs) (h2:H b=some (.tup (AK q.t q.l q.b q.r))) (h3:q.In w h) (h4:∀l us H',Same H H'->H l=none->H' l=some (.lst (Bc us))->AtL H' us->us.map (·.2)=BV (rcs ts) q->Q (.ref l) H'):Oa C vs H Q E
def Pp(C:Addr) :Sp:=λ vs H Q E=>Oa C vs H Q E
inductive NV(C:Addr)(vs:LUz)(H:Hp)(Q:VK)(E:XK):Prop
 |mk (a dx ls ld b m:Addr) (w h:Int) (ts:List (Addr×Rc)) (kvs:LKz) (q:Rc) (us:List (Addr×LD)) (h0:vs=[.ref a,.ref b,.ref m]) (h1:PanelAt C H a w h ts dx ls ld kvs) (h2:H b=some (.tup (AK q.t q.l q.b q.r))) (h3:q.In w h) (h4:H m=some (.lst (Bc us))) (h5:AtL H us) (h6:us.map (·.2)=BV (rcs ts) q) (h7:∀l us' H',Same H H'->H l=none->H' l=some (.lst (Bc us'))->AtL H' us'->us'.map (·.2)=CD (rcs ts) q->Q (.ref l) H'):NV C vs H Q E
def Pl(C:Addr) :Sp:=λ vs H Q E=>NV C vs H Q E
inductive Jd(C:Addr)(vs:LUz)(H:Hp)(Q:VK)(E:XK):Prop
 |mk (a dx ls ld b:Addr) (w h:Int) (ts:List (Addr×Rc)) (kvs:LKz) (q:Rc) (h0:vs=[.ref a,.ref b]) (h1:PanelAt C H a w h ts dx ls ld kvs) (h2:H b=some (.tup (AK q.t q.l q.b q.r))) (h3:q.In w h) (h4:blk w h (rcs ts) q=true) (h5:∀l us H',Same H H'->H l=none->H' l=some (.lst (Bc us))->AtL H' us->us.map (·.2)=BV (rcs ts) q++CD (rcs ts) q->Q (.ref l) H'):Jd C vs H Q E
def K0(C:Addr) :Sp:=λ vs H Q E=>Jd C vs H Q E
inductive IX(vs:LUz)(H:Hp)(Q:VK)(E:XK):Prop
 |mk (l p:Addr) (v:V) (k z w h:Int) (ts:List (Addr×Rc)) (h0:vs=[v,.int k,.ref l,.ref p]) (h1:H p=some (.lst [.int z])) (h2:H l=some (.lst (Ao ts))) (h3:At H ts) (h4:Tiles w h (rcs ts)) (h5:ts.length<=41) (h6:(1<=w/\w<=12)) (h7:(1<=h/\h<=12)) (h8:∀(l':Addr)(ts':List (Addr×Rc))(H':Hp),SameX p H H'->H' l'=some (.lst (Ao ts'))->At H' ts'->Tiles w h (rcs ts')->ts'.length<=52->Q (.ref l') H'):IX vs H Q E
def Kw:Sp:=λ vs H Q E=>IX vs H Q E
section
variable{P:Program}{w:World}{K:Frag}{mg:MGz}{base:Heap}{tk:Tok×Tok×Tok×Tok×Tok×Tok×Tok×Tok×Tok×Tok}{cT cW cU cL C:Addr}
theorem KU{f:Addr}{fd:FuncData}(F:Fun K "is_whole" "is_whole" E9 f fd)(T:Txt mg tk):A5 P w K mg base CX0 1 f fd ["thing"] Gz:=by
 have S:An ["thing"] ["thing"] (Ai E9):=fsk;refine F.g S ?_;rintro vs H Q E ⟨v,rfl,⟨T',hT⟩,q⟩;refine⟨rfl,λ cdv A outer s hr=>?_⟩;refine⟨_,(Ah (Ap (Bm (A0 Cy rfl T.z_isinstance rfl (Aa (pv 0) (Aa (El (v:=.ty "int") rfl T.z_int rfl rfl) Ab))) (Bg (JC (A0 Cy rfl T.z_isinstance rfl (Aa (pv 0) (Aa (El (v:=.ty "bool") rfl T.z_bool rfl rfl) Ab)))))))),?_⟩;refine⟨v,rfl,v,T',"int",rfl,hT,.inl rfl,_,rfl,AF (λ h=>?_) (λ h=>?_)⟩
 .refine⟨v,rfl,v,T',"bool",rfl,hT,.inr (.inl rfl),_,rfl,?_⟩;rw[(Kt hT).1 h];exact q
 .show Q (.bl false) H;rw[(Kt hT).2 h];exact q
theorem Mx{f:Addr}{fd:FuncData}(F:Fun K "is_side" "is_side" Fz f fd)(T:Txt mg tk)(D_is_whole:A2 P w K mg base 1 "is_whole" ["thing"] Gz):A5 P w K mg base CX0 2 f fd ["thing"] MZ:=by
 have S:An ["thing"] ["thing"] (Ai Fz):=fsk;refine F.g S ?_;rintro vs H Q E ⟨v,rfl,hv,q⟩;refine⟨rfl,λ cdv A outer s hr=>?_⟩;refine⟨_,(Ah (Ap (Bm (Aw D_is_whole hr (Aa (pv 0) Ab)) (Bg (BP B0 B0 Ad (pv 0) (A9 (v:=.int 12) rfl T.g_LONGEST_SIDE ⟨_,rfl⟩)))))),?_⟩;refine⟨v,rfl,v,rfl,hv,_,rfl,AF (λ h=>?_) (λ h=>?_)⟩
 .obtain⟨i,rfl⟩:∃i,v=.int i:=by cases v<;>first|exact⟨_,rfl⟩|cases h
  refine⟨_,rfl,_,_,rfl,rfl,_,rfl,AF (λ h1=>?_) (λ h1=>?_)⟩
  .refine⟨_,_,rfl,rfl,?_⟩;have e:K6 (.int i)=decide (i<=12):=by
    show(decide (1<=i)&&decide (i<=12))=_;rw[h1];rfl
   show Q (.bl (decide (i<=12))) H;rw[<-e];exact q
  .have e:K6 (.int i)=false:=by
    show(decide (1<=i)&&decide (i<=12))=_;rw[h1];rfl
   show Q (.bl false) H;rw[<-e];exact q
 .have e:K6 v=false:=by cases v<;>first|rfl|cases h
  show Q (.bl false) H;rw[<-e];exact q
theorem at0{x0 x1 x2 x3:V}:atI [x0,x1,x2,x3] 0=some x0:=rfl
theorem at1{x0 x1 x2 x3:V}:atI [x0,x1,x2,x3] 1=some x1:=rfl
theorem at2{x0 x1 x2 x3:V}:atI [x0,x1,x2,x3] 2=some x2:=rfl
theorem at3{x0 x1 x2 x3:V}:atI [x0,x1,x2,x3] 3=some x3:=rfl
theorem R7:∀{xs:LUz},xs.length=4->(xs.map DQ).all id=true->∃a b c d,xs=AK a b c d
 |[x0,x1,x2,x3],_,h=>by
  simp only[aS,bV,dC,List.all_nil,id,dD,aK]at h;obtain⟨h0,h1,h2,h3⟩:=h;have g:∀{x:V},DQ x=true->∃i,x=.int i:=λ{x} h=>by cases x<;>first|exact⟨_,rfl⟩|cases h
  obtain⟨a,rfl⟩:=g h0;obtain⟨b,rfl⟩:=g h1;obtain⟨c,rfl⟩:=g h2;obtain⟨d,rfl⟩:=g h3;exact⟨a,b,c,d,rfl⟩
theorem Nk{xs:LUz}(h:∀a b c d,xs≠AK a b c d):Ew xs=false:=by
 unfold Ew;split
 .exact absurd rfl (h _ _ _ _)
 .rfl
theorem Uv{n:Nat}:(!decide (V.int (n:Int)=V.int 4))=true->n≠4:=λ h e=>by
 subst e;have:decide (V.int ((4:Nat):Int)=V.int 4)=true:=decI.mpr rfl;rw[this]at h;cases h
theorem Sh{n:Nat}:(!decide (V.int (n:Int)=V.int 4))=false->n=4:=λ h=>by
 have e:decide (V.int (n:Int)=V.int 4)=true:=by
  cases z:decide (V.int (n:Int)=V.int 4) with
  |true=>rfl
  |false=>rw[z]at h;cases h
 have:=decI.mp e;lia
theorem Ol{xs:LUz}{i:Nat}{x:V}(h:xs[i]?=some x){f:V->V}:(xs.take i).map f++[f x]=(xs.take (i+1)).map f:=by
 rw[aV,h,aj];rfl
theorem FZ{f:Addr}{fd:FuncData}(F:Fun K "is_rectangle" "is_rectangle" C1 f fd)(T:Txt mg tk)(D_is_whole:A2 P w K mg base 1 "is_whole" ["thing"] Gz):A5 P w K mg base CX0 2 f fd ["thing"] Jt:=by
 have S:An ["thing"] ["thing"] (Ai C1):=fsk;refine F.g S ?_;rintro vs H Q E ⟨v,rfl,h⟩;refine⟨rfl,λ cdv A outer s hr=>?_⟩;refine⟨_,(Ac (A7 (PW.pt (BL (AW (AI (A0 Cy rfl T.z_isinstance rfl (Aa (pv 0) (Aa (El (v:=.ty "tuple") rfl T.z_tuple rfl rfl) Ab))))) (BC (Ax Fc (A0 A6 rfl T.z_len rfl (Aa (pv 0) Ab)) Ad (Av _))))) (Ah (Ap Bq)) Az)
  (Ac (A7 (AW (AI (A0 Dt rfl T.z_all rfl (Aa (BO rfl (Mt (pv 0)) (λ_ _ _ _ _=>pgk (nk ["part"])) (λ_ _ _ _ _=>(Aw D_is_whole hr (Aa (pv 0) Ab))) (N:=["part"]) (fr:=[none])) Ab)))) (Ah (Ap Bq)) Az)
  (Ah (Ap (Bm (BP B0 AR Ad (Aj Ak (pv 0) Ad (λ_ _=>rfl)) (Aj Ak (pv 0) Ad (λ_ _=>rfl))) (Bg (BP B0 AR Ad (Aj Ak (pv 0) Ad (λ_ _=>rfl)) (Aj Ak (pv 0) Ad (λ_ _=>rfl))))))))),?_⟩
 rcases h with ⟨a,xs,rfl,ha,hlen,hx,q⟩|⟨T',hT,hne,q⟩
 .refine⟨_,rfl,_,"tuple","tuple",rfl,OW ha,.inr (.inr (.inl rfl)),_,rfl,AG (by rw[PY];rfl) ?_⟩;refine⟨_,rfl,a,xs,rfl,.inr (SqT.of ha),rfl,_,rfl,AF (λ h=>?_) (λ h=>?_)⟩
  .have e:Ew xs=false:=Nk λ a b c d z=>Uv h (by rw[z];rfl);show Q (.bl false) H;rw[<-e];exact q H (Same.refl H)
  .have h4:=Sh h;refine⟨_,rfl,a,rfl,⟨xs,SqT.of ha⟩,λ acc hacc=>Qw (K:=K) (a:=a) (ys:=xs) (λ i zs σ H'=>(∃y,σ=[y])/\Same H H'/\zs=(xs.take i).map λ x=>V.bl (DQ x)) ⟨⟨none,rfl⟩,Same.new hacc,rfl⟩
    (λ i zs σ H' _ _ hp=>SqT.of (hp.2.1 _ _ ha)) ?_ ?_⟩
   .rintro i x zs σ H' hxi hi hl hacc' ⟨⟨y,rfl⟩,hs,hzs⟩;refine⟨x,rfl,x,rfl,(hx x (ao hxi)).same hs,cNx.mk (aF (Am (by lia))) hi hl hacc' ⟨⟨_,rfl⟩,λ b o e=>?_,?_⟩⟩
    .rw[Ag (Ae e hacc)];exact hs b o e
    .rw[hzs];exact Ol (f:=λ x=>V.bl (DQ x)) hxi
   .rintro zs σ H' hl hacc' ⟨_,hs,hzs⟩;refine⟨acc,xs.map DQ,rfl,SqL.of (by rw[hacc',hzs,aN,be];rfl),rfl,_,rfl,AF (λ h=>?_) (λ h=>?_)⟩
    .have e:Ew xs=false:=Nk λ a b c d z=>by subst z;cases h
     show Q (.bl false) H';rw[<-e];exact q H' hs
    .obtain⟨a0,a1,a2,a3,rfl⟩:=R7 h4 (by simpa using h);have ha':=hs _ _ ha;have key:Q (.bl (decide (0<=a0)&&decide (a0<a2)&&(decide (0<=a1)&&decide (a1<a3)))) H':=q H' hs;refine⟨_,rfl,a,_,_,_,rfl,rfl,SqT.of ha',at0,_,_,rfl,rfl,_,rfl,AF (λ h1=>?_) (λ h1=>?_)⟩
     .refine⟨_,rfl,a,_,_,_,rfl,rfl,SqT.of ha',at2,_,_,rfl,rfl,_,rfl,AF (λ h2=>?_) (λ h2=>?_)⟩
      .refine⟨_,rfl,a,_,_,_,rfl,rfl,SqT.of ha',at1,_,_,rfl,rfl,_,rfl,AF (λ h3=>?_) (λ h3=>?_)⟩
       .refine⟨_,rfl,a,_,_,_,rfl,rfl,SqT.of ha',at3,_,_,rfl,rfl,?_⟩;rw[h1,h2,h3]at key;exact key
       .show Q (.bl false) H';rw[h1,h2,h3]at key;exact key
      .show Q (.bl false) H';rw[h1,h2]at key;exact key
     .refine⟨_,rfl,Ls ?_⟩;show Q (.bl false) H';rw[h1]at key;exact key
 .refine⟨_,rfl,_,T',"tuple",rfl,hT,.inr (.inr (.inl rfl)),_,rfl,Bt ?_ (PU q)⟩;have e:isB T' "tuple"=false:=by
   unfold isB;rw[decide_eq_false hne];simp
  rw[e];rfl
theorem Oz{f:Addr}{fd:FuncData}(F:Fun K "inside" "inside" G2 f fd):A5 P w K mg base CX0 1 f fd ["one","other"] Dm:=by
 have S:An ["one","other","starts_within"] ["one","other"] (Ai G2):=fsk;refine F.g S ?_;rintro vs H Q E ⟨a,b,a0,a1,a2,a3,o0,o1,o2,o3,rfl,ha,hb,q⟩;refine⟨rfl,λ cdv A outer s hr=>?_⟩;refine⟨_,(Ac (Ar (i:=2) S.nd rfl (av rfl) (Bm (AH B0 (Aj Ak (pv 1) Ad (λ_ _=>rfl)) (Aj Ak (pv 0) Ad (λ_ _=>rfl)) (Av _)) (Bg (AH B0 (Aj Ak (pv 1) Ad (λ_ _=>rfl)) (Aj Ak (pv 0) Ad (λ_ _=>rfl)) (Av _)))))
  (Ah (Ap (Bm (pv 2) (Bm (AH B0 (Aj Ak (pv 0) Ad (λ_ _=>rfl)) (Aj Ak (pv 1) Ad (λ_ _=>rfl)) (Av _)) (Bg (AH B0 (Aj Ak (pv 0) Ad (λ_ _=>rfl)) (Aj Ak (pv 1) Ad (λ_ _=>rfl)) (Av _)))))))),?_⟩
 have key:Q (.bl (decide (o0<=a0)&&decide (o1<=a1)&&(decide (a2<=o2)&&decide (a3<=o3)))) H:=q;refine⟨_,rfl,b,_,_,_,rfl,rfl,SqT.of hb,at0,_,rfl,a,_,_,_,rfl,rfl,SqT.of ha,at0,_,_,rfl,rfl,_,rfl,AF (λ h1=>?_) (λ h1=>?_)⟩
 .refine⟨_,rfl,b,_,_,_,rfl,rfl,SqT.of hb,at1,_,rfl,a,_,_,_,rfl,rfl,SqT.of ha,at1,_,_,rfl,rfl,?_⟩;refine⟨_,rfl,_,rfl,AF (λ h2=>?_) (λ h2=>?_)⟩
  .refine⟨_,rfl,a,_,_,_,rfl,rfl,SqT.of ha,at2,_,rfl,b,_,_,_,rfl,rfl,SqT.of hb,at2,_,_,rfl,rfl,_,rfl,AF (λ h3=>?_) (λ h3=>?_)⟩
   .refine⟨_,rfl,a,_,_,_,rfl,rfl,SqT.of ha,at3,_,rfl,b,_,_,_,rfl,rfl,SqT.of hb,at3,_,_,rfl,rfl,?_⟩;rw[h1,h2,h3]at key;exact key
   .show Q (.bl false) H;rw[h1,h2,h3]at key;exact key
  .show Q (.bl false) H;rw[h1,h2]at key;exact key
 .refine⟨_,rfl,_,rfl,Ls ?_⟩;show Q (.bl false) H;rw[h1]at key;exact key
theorem KR{f:Addr}{fd:FuncData}(F:Fun K "_law_take" "_law_take" DX f fd):A5 P w K mg base CX0 1 f fd ["_law_purse_here","_law_many"] ET:=by
 have S:An ["_law_purse_here","_law_many","_law_found"] ["_law_purse_here","_law_many"] (Ai DX):=fsk;refine F.g S ?_;rintro vs H Q E ⟨p,z,m,rfl,hp,hm,hm2,q⟩;refine⟨rfl,λ cdv A outer s hr=>?_⟩;refine⟨_,(Ac (Ar (i:=2) S.nd rfl (av rfl) (Aq GD (Aj AX (pv 0) Ad (λ_ _=>rfl)) (pv 1)))
  (Ac (Di (Aq Fd (Aj AX (pv 0) Ad (λ_ _=>rfl)) (pv 1)) (P6 (pv 0) Ad K8))
  (Ah (Ap (pv 2))))),?_⟩
 have hdiv:LZ z m:=⟨hm,eM (EF (k:=64) (by decide) (by lia)) (by decide)⟩;refine⟨_,rfl,p,_,_,_,rfl,rfl,SqL.of hp,rfl,_,rfl,_,_,rfl,rfl,hm,?_⟩;refine⟨_,rfl,p,_,_,_,rfl,rfl,SqL.of hp,rfl,_,rfl,_,_,rfl,rfl,hdiv,_,rfl,p,_,_,0,rfl,rfl,hp,rfl,?_⟩;exact⟨_,rfl,q _ _ (df _ (by lia)) (cJ _ hm)⟩
theorem Sa:RS 10 18:=⟨by decide,by decide,by decide⟩
theorem Nt:RS 10 30:=⟨by decide,by decide,by decide⟩
theorem Sg(z:Int):LZ z (10^(18:Int).toNat):=⟨by decide +kernel,by decide +kernel⟩
theorem Q5:(10:Int)^(30:Int).toNat+57=1000000000000000000000000000057:=by decide +kernel
theorem Gq:(0:Int)<(10:Int)^(30:Int).toNat+57:=by rw[Q5];decide
theorem NQ{z k:Int}(h0:0<=k)(h1:k<1000):IntMulOk (z % ((10:Int)^(30:Int).toNat+57)+k+1) 618033988749894848204586834365:=by
 rw[Q5];refine Lh ?_ (by decide +kernel);have a:=df z (b:=1000000000000000000000000000057) (by decide);have b:=cJ z (b:=1000000000000000000000000000057) (by decide);have c:(2:Nat)^128=340282366920938463463374607431768211456:=by decide +kernel
 rw[c];lia
theorem JK{f:Addr}{fd:FuncData}(F:Fun K "_law_purse" "_law_purse" Dy f fd)(T:Txt mg tk):A5 P w K mg base CX0 1 f fd ["_law_script","_law_k"] (EU K):=by
 have S:An ["_law_script","_law_k","_law_cell"] ["_law_script","_law_k"] (Ai Dy):=fsk;refine F.g S ?_;rintro vs H Q E ⟨a,ns,k,rfl,hS,hk0,hk1,q⟩;refine⟨rfl,λ cdv A outer s hr=>?_⟩;refine⟨_,(Ac (Ar (i:=2) S.nd rfl (av rfl) Ad)
  (Ac (A7 (Ax AR (pv 1) (A0 A6 rfl T.z_len rfl (Aa (pv 0) Ab)) (Av _)) (Ah (Ar (i:=2) S.nd rfl (av rfl) (Aj AX (pv 0) (pv 1) (λ_ _=>rfl)))) Az)
  (Ac (A7 (Ax Fc (Aq Fd (pv 2) (Aq JD Ad Ad)) Ad (Av _)) (Ah (Ap (AJ (Aa (pv 2) Ab)))) Az)
  (Ah (Ap (AJ (Aa (Aq GD (Aq N2 (Aq A4 (Aq A4 (Aq GD (pv 2) (Aq A4 (Aq JD Ad Ad) Ad)) (pv 1)) Ad) Ad) (Aq A4 (Aq JD Ad Ad) Ad)) Ab))))))),?_⟩
 refine⟨_,rfl,_,rfl,a,_,rfl,.inl hS,_,_,rfl,rfl,_,rfl,AF (λ h=>?_) (λ h=>?_)⟩
 .have hk:k.toNat<ns.length:=by
   have h':k<((ns.map V.int).length:Int):=of_decide_eq_true h;rw[aa]at h';lia
  have hz:(ns.map V.int)[k.toNat]?=some (.int ns[k.toNat]):=by rw[aB,aq hk];rfl
  have hat:atI (ns.map V.int) k=some (.int ns[k.toNat]):=by
   have e:=CO hz;rw[cb hk0]at e;exact e
  refine⟨_,rfl,_,rfl,a,_,k,_,rfl,rfl,hS,hat,?_⟩;generalize ns[k.toNat]=z0;refine⟨_,rfl,_,_,rfl,rfl,Sa,_,_,rfl,rfl,Sg _,rfl,_,rfl,AF (λ h=>?_) (λ h=>?_)⟩
  .exact⟨_,rfl,Ay 1,λ p hp=>q p _ hp⟩
  .exact⟨_,rfl,_,_,rfl,rfl,Nt,_,_,rfl,rfl,_,_,rfl,rfl,Gq,_,rfl,_,_,rfl,rfl,_,_,rfl,rfl,_,_,rfl,rfl,NQ hk0 hk1,_,_,rfl,rfl,Nt,_,_,rfl,rfl,_,_,rfl,rfl,Gq,Ay 1,λ p hp=>q p _ hp⟩
 .refine⟨_,rfl,_,_,rfl,rfl,Sa,_,_,rfl,rfl,Sg _,rfl,_,rfl,AF (λ h=>?_) (λ h=>?_)⟩
  .exact⟨_,rfl,Ay 1,λ p hp=>q p _ hp⟩
  .exact⟨_,rfl,_,_,rfl,rfl,Nt,_,_,rfl,rfl,_,_,rfl,rfl,Gq,_,rfl,_,_,rfl,rfl,_,_,rfl,rfl,_,_,rfl,rfl,NQ hk0 hk1,_,_,rfl,rfl,Nt,_,_,rfl,rfl,_,_,rfl,rfl,Gq,Ay 1,λ p hp=>q p _ hp⟩
theorem Th{L:LUz}{i:Int}(h0:0<=i)(h1:i<L.length):∃v,atI L i=some v/\v∈L:=by
 have h:i.toNat<L.length:=by lia
 have e:=CO (aq h);rw[cb h0]at e;exact⟨_,e,bW h⟩
theorem PK{i m:Nat}(h1:i<=12)(h2:m<=12):i*m<=144:=Nat.mul_le_mul h1 h2
theorem HP{f:Addr}{fd:FuncData}(F:Fun K "squares_of" "squares_of" Dv f fd)(T:Txt mg tk):A5 P w K mg base CX0 1 f fd ["rectangle"] E4:=by
 have S:An ["rectangle","squares","row","column"] ["rectangle"] (Ai Dv):=fsk;refine F.g S ?_;rintro vs H Q E ⟨a,p,rfl,ha,g1,g2,g3,g4,g5,g6,q⟩;refine⟨rfl,λ cdv A outer s hr=>?_⟩;refine⟨_,(Ac (Ar (i:=1) S.nd rfl (av rfl) (AJ Ab))
  (Ac (AN PassesOwn.never rfl (AT rfl T.z_range (Aa (Aj Ak (pv 0) Ad (λ_ _=>rfl)) (Aa (Aj Ak (pv 0) Ad (λ_ _=>rfl)) Ab))) (Al (i:=2) S.nd rfl (av rfl)) (Ah (AN PassesOwn.never rfl (AT rfl T.z_range (Aa (Aj Ak (pv 0) Ad (λ_ _=>rfl)) (Aa (Aj Ak (pv 0) Ad (λ_ _=>rfl)) Ab))) (Al (i:=3) S.nd rfl (av rfl)) (Ah (AS (BD (pv 1) (Aa (A3 (Aa (pv 2) (Aa (pv 3) Ab))) Ab)))))))
  (Ah (Ap (pv 1))))),?_⟩
 refine⟨Ay 0,λ l hl=>?_⟩;have ha0:(upd H l (.lst [])) a=some (.tup (AK p.t p.l p.b p.r)):=Same.new hl _ _ ha;refine⟨_,rfl,a,_,_,_,rfl,rfl,SqT.of ha0,at0,_,rfl,a,_,_,_,rfl,rfl,SqT.of ha0,at2,p.t,p.b,rfl,⟨by lia,by lia,by lia,by lia⟩,
  Ba (lo:=p.t) (n:=(p.b-p.t).toNat) (λ i σ H'=>∃x y,∃sq:List (Addr×(Int×Int)),σ=[some (.ref a),some (.ref l),x,y]/\Same H H'/\H' l=some (.lst (sq.map λ s=>V.ref s.1))/\(∀s∈sq,H' s.1=some (.tup [.int s.2.1,.int s.2.2]))/\sq.map (·.2)=FW p i)
   ⟨none,none,[],rfl,Same.new hl,Af,λ s hs=>(nomatch hs),rfl⟩ ?_ ?_⟩
 .rintro i σ H' hi ⟨x,y,sq,rfl,hs,hlst,hsq,hmap⟩;have ha':=hs _ _ ha;refine⟨_,rfl,a,_,_,_,rfl,rfl,SqT.of ha',at1,_,rfl,a,_,_,_,rfl,rfl,SqT.of ha',at3,p.l,p.r,rfl,⟨by lia,by lia,by lia,by lia⟩,
   Ba (lo:=p.l) (n:=(p.r-p.l).toNat) (λ j σ H2=>∃y,∃sq:List (Addr×(Int×Int)),σ=[some (.ref a),some (.ref l),some (.int (p.t+i)),y]/\Same H H2/\H2 l=some (.lst (sq.map λ s=>V.ref s.1))/\(∀s∈sq,H2 s.1=some (.tup [.int s.2.1,.int s.2.2]))/\sq.map (·.2)=FW p i++DL p i j)
    ⟨y,sq,rfl,hs,hlst,hsq,by rw[hmap];simp[DL]⟩ ?_ ?_⟩
  .rintro j σ H2 hj ⟨y,sq,rfl,hs2,hl2,hq2,hm2⟩;refine⟨_,rfl,.inl ⟨rfl,_,SqL.of hl2⟩,_,rfl,_,rfl,Ay 2,λ t ht=>?_⟩;have nlt:l≠t:=Ae hl2 ht;have hlen:sq.length<=288:=by
    have e:=congrArg List.length hm2;rw[aa,af,Gy,DL,aa,dH]at e;have:=PK (i:=i) (m:=(p.r-p.l).toNat) (by lia) (by lia);lia
   refine⟨l,_,_,rfl,rfl,by rw[Ag nlt];exact hl2,Am (by rw[aa];lia),?_⟩;refine⟨_,sq++[(t,(p.t+(i:Int),p.l+(j:Int)))],rfl,λ b o e=>?_,?_,λ z hz=>?_,?_⟩
   .rw[Ag (Ae e hl),Ag (Ae (hs2 _ _ e) ht)];exact hs2 b o e
   .rw[Af,aj];rfl
   .rcases ai.mp hz with hz|hz
    .have e:=hq2 z hz;have n1:z.1≠l:=AL e hl2 (by intro q;cases q);rw[Ag n1,Ag (Ae e ht)];exact e
    .rw[ad.mp hz,Ag (Ne.symm nlt)];exact Af
   .rw[aj,hm2,bi,Mp];rfl
  .rintro σ H2 ⟨y,sq,rfl,hs2,hl2,hq2,hm2⟩;exact⟨_,_,sq,rfl,hs2,hl2,hq2,hm2⟩
 .rintro σ H2 ⟨x,y,sq,rfl,hs2,hl2,hq2,hm2⟩;exact⟨_,rfl,q l sq H2 hs2 hl hl2 hq2 hm2⟩
theorem QU{x:Int}(h:1<=x/\x<=12):K6 (.int x)=true:=by
 show(decide (1<=x)&&decide (x<=12))=true;rw[decide_eq_true h.1,decide_eq_true h.2];rfl
theorem GN{f:Addr}{fd:FuncData}(F:Fun K "check_sides" "check_sides" CZ f fd)(D_is_side:A2 P w K mg base 2 "is_side" ["thing"] MZ):A5 P w K mg base CX0 3 f fd ["width","height"] DS:=by
 have S:An ["width","height","side"] ["width","height"] (Ai CZ):=fsk;refine F.g S ?_;rintro vs H Q E ⟨w,h,rfl,gw,gh,q⟩;refine⟨rfl,λ cdv A outer s hr=>?_⟩;refine⟨_,(Ah (AN PassesOwn.never rfl (Mt (A3 (Aa (pv 0) (Aa (pv 1) Ab)))) (Al (i:=2) S.nd rfl (av rfl)) (Ah (A7 (AW (AI (Aw D_is_side hr (Aa (pv 2) Ab)))) (Ah Dq) Az)))),?_⟩;refine⟨_,rfl,_,rfl,Ay 2,λ t ht=>⟨t,rfl,⟨_,SqT.of Af⟩,ND (K:=K) (a:=t) (xs:=[.int w,.int h]) (λ i σ H'=>(∃y,σ=[some (.int w),some (.int h),y])/\H'=upd H t (.tup [.int w,.int h])) ⟨⟨none,rfl⟩,rfl⟩ (λ i σ H' _ hp=>by rw[hp.2];exact SqT.of Af) ?_ ?_⟩⟩
 .rintro i x σ H' hx ⟨⟨y,rfl⟩,rfl⟩;obtain⟨z,rfl,hz⟩:∃z,x=.int z/\(1<=z/\z<=12):=by
   have:=ao hx;simp only[aO,aU,or_false]at this;rcases this with rfl|rfl
   .exact⟨_,rfl,gw⟩
   .exact⟨_,rfl,gh⟩
  refine⟨_,rfl,.int z,rfl,⟨"int",rfl⟩,_,rfl,AG (by rw[QU hz];rfl) ?_⟩;exact⟨⟨_,rfl⟩,rfl⟩
 .rintro σ H' ⟨⟨y,rfl⟩,rfl⟩;exact q _ (Same.new ht)
theorem Ry{p:Rc}{w h:Int}(i:p.In w h):Ew (AK p.t p.l p.b p.r)=true:=by
 obtain⟨a1,a2,a3,a4,a5,a6⟩:=i;show(decide (0<=p.t)&&decide (p.t<p.b)&&(decide (0<=p.l)&&decide (p.l<p.r)))=true;rw[decide_eq_true a1,decide_eq_true a2,decide_eq_true a4,decide_eq_true a5];rfl
theorem ST{p:Rc}{w h:Int}(i:p.In w h):Fi p.t p.l p.b p.r 0 0 h w=true:=by
 obtain⟨a1,a2,a3,a4,a5,a6⟩:=i;show(decide (0<=p.t)&&decide (0<=p.l)&&(decide (p.b<=h)&&decide (p.r<=w)))=true;rw[decide_eq_true a1,decide_eq_true a4,decide_eq_true a3,decide_eq_true a6];rfl
theorem NC{H:Hp}{a b c d:Int}:∀x∈AK a b c d,Ty H x:=λ x hx=>by
 simp only[aO,aU,or_false]at hx;rcases hx with rfl|rfl|rfl|rfl<;>exact⟨"int",rfl⟩
theorem GO{f:Addr}{fd:FuncData}(F:Fun K "check_panes" "check_panes" Da f fd)(T:Txt mg tk)(D_is_rectangle:A2 P w K mg base 2 "is_rectangle" ["thing"] Jt)(D_inside:A2 P w K mg base 1 "inside" ["one","other"] Dm) :
  A5 P w K mg base CX0 3 f fd ["panes","sheet"] (DT K):=by
 have S:An ["panes","sheet","place","pane"] ["panes","sheet"] (Ai Da):=fsk;refine F.g S ?_;rintro vs H Q E ⟨l,sh,w,h,ts,rfl,hl,hat,hsh,hin,hlen,q⟩;refine⟨rfl,λ cdv A outer s hr=>?_⟩;refine⟨_,(Ac (A7 (Ax KO (A0 A6 rfl T.z_len rfl (Aa (pv 0) Ab)) (A9 (v:=.int 52) rfl T.g_MOST_PANES ⟨_,rfl⟩) (Av _)) (Ah Dq) Az)
  (Ah (AN PassesOwn.never rfl (Nv rfl T.z_enumerate (Aa (pv 0) Ab)) (Bz rfl (Au (Al (i:=2) S.nd rfl (av rfl)) (Au (Al (i:=3) S.nd rfl (av rfl)) AZ))) (Ah (A7 (PW.pt (BL (AW (AI (Aw D_is_rectangle hr (Aa (pv 3) Ab)))) (BC (AW (AI (Aw D_inside hr (Aa (pv 3) (Aa (pv 1) Ab)))))))) (Ah Dq) Az))))),?_⟩
 refine⟨_,rfl,l,_,rfl,.inl hl,_,_,rfl,rfl,_,rfl,AG (decide_eq_false (by rw[aa];lia)) ?_⟩;refine⟨_,rfl,l,rfl,⟨_,hl⟩,Lx (K:=K) (a:=l) (xs:=Ao ts) (λ i σ H'=>(∃x y,σ=[some (.ref l),some (.ref sh),x,y])/\Same H H') ⟨⟨none,none,rfl⟩,Same.refl H⟩ (λ i σ H' _ hp=>hp.2.seq hl) ?_ ?_⟩
 .rintro i x σ H' t hx ⟨⟨x0,y0,rfl⟩,hs⟩ ht;obtain⟨u,hu,rfl⟩:=AU hx;have hum:=ao hu;have hsT:=Same.new (o:=.tup [.int i,.ref u.1]) ht;have s1:=hs.trans hsT;have hui:=hin u.2 (aw.mpr ⟨u,hum,rfl⟩);have hua:=s1 _ _ (hat u hum);refine⟨t,_,rfl,SqT.of Af,rfl,_,_,rfl,_,_,rfl,rfl,?_⟩;refine⟨_,rfl,_,rfl,.inl ⟨u.1,_,rfl,hua,(by show(4:Nat)<=100;decide),NC,λ H2 s2=>⟨_,rfl,AG (by rw[Ry hui];rfl) ?_⟩⟩⟩;refine⟨_,rfl,_,rfl,u.1,sh,_,_,_,_,_,_,_,_,rfl,s2 _ _ hua,s2 _ _ (s1 _ _ hsh),_,rfl,AG (by rw[ST hui];rfl) ?_⟩;exact⟨⟨_,_,rfl⟩,s1.trans s2⟩
 .rintro σ H' ⟨⟨x0,y0,rfl⟩,hs⟩;exact q H' hs
theorem Br{α:Type}{xs:List α}{i:Nat}{u x:α}(h:xs[i]?=some u):x∈xs.take (i+1)↔x∈xs.take i\/x=u:=by
 rw[aV,h,ai];simp
theorem Hz{ts:List (Addr×Rc)}(hd:(rcs ts).Pairwise Apart){i:Nat}{u t:Addr×Rc}(h:ts[i]?=some u)(ht:t∈ts.take i):Apart t.2 u.2:=by
 obtain⟨j,hj,rfl⟩:=b9 ht;obtain⟨hi,rfl⟩:=aH.mp h;rw[bX]at hd;have hj':j<i:=by rw[aY]at hj;lia
 have:=hd j i (by rw[aa];lia) (by rw[aa];exact hi) hj'
 simpa using this
theorem M0{α β:Type}{xs:List α}{f:α->β}(hn:(xs.map f).Nodup){j:Nat}{s:α}(h:xs[j]?=some s):f s∉(xs.take j).map f:=λ hm=>by
 obtain⟨hj,rfl⟩:=aH.mp h;obtain⟨y,hy,e⟩:=aw.mp hm;obtain⟨k,hk,rfl⟩:=b9 hy;have hk':k<j:=by rw[aY]at hk;lia
 rw[cD,bX]at hn;exact hn k j (by rw[aa];lia) (by rw[aa];exact hj) hk' (by simpa using e)
theorem Pk{sq:List (Addr×(Int×Int))}{i:Nat}{x:V}(h:(sq.map λ s=>V.ref s.1)[i]?=some x):∃t,sq[i]?=some t/\x=.ref t.1:=by
 rw[aB]at h;cases e:sq[i]? with
 |none=>rw[e]at h;cases h
 |some t=>rw[e]at h;exact⟨t,rfl,(Option.some.inj h).symm⟩
theorem QP{p:Rc}{w h:Int}(i:p.In w h)(b1:w<=12)(b2:h<=12):(sqs p).length<=144:=by
 obtain⟨a1,a2,a3,a4,a5,a6⟩:=i;unfold sqs;rw[Gy];exact PK (by lia) (by lia)
theorem EE{f:Addr}{fd:FuncData}(F:Fun K "panes_by_square" "panes_by_square" BI f fd)(T:Txt mg tk)(D_squares_of:A2 P w K mg base 1 "squares_of" ["rectangle"] E4):A5 P w K mg base CX0 2 f fd ["panes"] (EW K):=by
 have S:An ["panes","by_square","place","pane","square"] ["panes"] (Ai BI):=fsk;refine F.g S ?_;rintro vs H Q E ⟨l,w,h,ts,rfl,hl,hat,hin,hap,hlen,bw,bh,q⟩;refine⟨rfl,λ cdv A outer s hr=>?_⟩;have hu:=N9 hr;refine⟨_,(Ac (Ar (i:=1) S.nd rfl (av rfl) KN)
  (Ac (AN PassesOwn.never rfl (Nv rfl T.z_enumerate (Aa (pv 0) Ab)) (Bz rfl (Au (Al (i:=2) S.nd rfl (av rfl)) (Au (Al (i:=3) S.nd rfl (av rfl)) AZ))) (Ah (AN PassesOwn.never rfl (AC (Aw D_squares_of hr (Aa (pv 3) Ab))) (Al (i:=4) S.nd rfl (av rfl)) (Ac (A7 (J2 (P9 hu (pv 4) (pv 1))) (Ah Dq) Az)
  (Ah (Nq hu (pv 1) (pv 4) (pv 3) rfl))))))
  (Ah (Ap (pv 1))))),?_⟩
 intro d hd;refine⟨_,rfl,l,rfl,⟨_,(Same.new hd).seq hl⟩,Lx (K:=K) (a:=l) (xs:=Ao ts) (λ i σ H'=>(∃x y z,σ=[some (.ref l),some (.ref d),x,y,z])/\Same H H'/\∃kvs,H' d=some (.dT kvs)/\kvs.length<=144*i /\
   (∀t∈ts.take i,∀r c,t.2.has r c->Bb kvs (sqK r c)=some (.ref t.1))/\∀r c v,Bb kvs (sqK r c)=some v->∃t∈ts.take i,t.2.has r c)
  ⟨⟨none,none,none,rfl⟩,Same.new hd,[],Af,bb _,λ t ht=>(nomatch ht),λ r c v e=>by cases e⟩ (λ i σ H' _ hp=>hp.2.1.seq hl) ?_ ?_⟩
 .rintro i x σ H' tt hx ⟨⟨x0,y0,z0,rfl⟩,hs,kvs,hk,hkl,ha1,ha2⟩ htt;obtain⟨u,hu',rfl⟩:=AU hx;have hum:=ao hu';have hi:i<ts.length:=(aH.mp hu').1;have s1:=hs.trans (Same.new (o:=.tup [.int i,.ref u.1]) htt);have hui:=hin u.2 (aw.mpr ⟨u,hum,rfl⟩);obtain⟨c1,c2,c3,c4,c5,c6⟩:=id hui;have hua:=s1 _ _ (hat u hum);have hk1:(upd H' tt (.tup [.int i,.ref u.1])) d=some (.dT kvs):=Same.new htt _ _ hk;refine⟨tt,_,rfl,SqT.of Af,rfl,_,_,rfl,_,_,rfl,rfl,?_⟩;refine⟨_,rfl,u.1,u.2,rfl,hua,c1,by lia,by lia,c4,by lia,by lia,λ l2 sq H2 s2 n2 hl2 hsq hmap=>⟨l2,rfl,⟨_,SqL.of hl2⟩,?_⟩⟩;have hk2:=s2 _ _ hk1;have nl2:l2≠d:=AL hl2 hk2 (by intro z;cases z);have sql:sq.length<=144:=by
   have:=QP hui bw bh;rw[<-hmap,aa]at this;exact this
  have nd:=Gx (p:=u.2) (by lia) (u.2.b-u.2.t).toNat;have nd':(sq.map (·.2)).Nodup:=by rw[hmap];exact nd
  refine B9 (K:=K) (a:=l2) (xs:=sq.map λ s=>V.ref s.1) (λ j σ H3=>(∃z,σ=[some (.ref l),some (.ref d),some (.int i),some (.ref u.1),z])/\SameX d H2 H3/\∃kvs,H3 d=some (.dT kvs)/\kvs.length<=144*i+j /\
    (∀t∈ts.take i,∀r c,t.2.has r c->Bb kvs (sqK r c)=some (.ref t.1))/\(∀z∈sq.take j,Bb kvs (sqK z.2.1 z.2.2)=some (.ref u.1)) /\
    ∀r c v,Bb kvs (sqK r c)=some v->(∃t∈ts.take i,t.2.has r c)\/(r,c)∈(sq.take j).map (λ y:Addr×(Int×Int)=>y.2))
   ⟨⟨_,rfl⟩,SameX.refl,kvs,hk2,by lia,ha1,λ z hz=>(nomatch hz),λ r c v e=>.inl (ha2 r c v e)⟩ (λ j σ H3 _ hp=>SqL.of (hp.2.1 _ _ nl2 hl2)) ?_ ?_
  .rintro j y σ H3 hy ⟨⟨z0,rfl⟩,s3,kv,hk3,hkl3,b1,b2,b3⟩;obtain⟨z,hz,rfl⟩:=Pk hy;have hzm:=ao hz;have hj:j<sq.length:=(aH.mp hz).1;have hz2:=hsq z hzm;have nz:z.1≠d:=AL hz2 hk2 (by intro q;cases q);have hz3:=s3 _ _ nz hz2;have hin2:u.2.has z.2.1 z.2.2:=(Gi (by lia) (by lia)).mp (by rw[<-hmap];exact aw.mpr ⟨z,hzm,rfl⟩);have hno:Bb kv (sqK z.2.1 z.2.2)=none:=by
    cases e:Bb kv (sqK z.2.1 z.2.2) with
    |none=>rfl
    |some v =>
     rcases b3 _ _ v e with ⟨t,ht,hh⟩|hm
     .exact(Hz hap hu' ht _ _ hh hin2).elim
     .exact absurd hm (M0 nd' hz)
   have dg:=DGet.t (k:=sqK z.2.1 z.2.2) hk3 hz3;rw[hno]at dg;refine⟨_,rfl,_,rfl,d,_,rfl,dg,_,rfl,Ls ?_⟩;refine⟨_,rfl,_,rfl,_,rfl,d,_,rfl,DPut.t (k:=sqK z.2.1 z.2.2) hk3 hz3 (cj (m:=20000) (by lia) (by rw[sizeLine_eq];decide)),?_⟩;refine⟨⟨_,rfl⟩,s3.trans SameX.upd,_,Af,?_,λ t ht r c hh=>?_,λ y hy=>?_,λ r c v e=>?_⟩
   .have:=CK kv (sqK z.2.1 z.2.2) (V.ref u.1);lia
   .rw[EN,if_neg,b1 t ht r c hh];intro e;obtain⟨e1,e2⟩:=Jr e;exact Hz hap hu' ht _ _ (by rw[<-e1,<-e2];exact hh) hin2
   .rw[EN];rcases(Br hz).mp hy with hy|rfl
    .split
     .rfl
     .exact b2 y hy
    .rw[if_pos rfl]
   .rw[EN]at e;split at e
    .rename_i e2;obtain⟨e3,e4⟩:=Jr e2;exact .inr (aw.mpr ⟨z,(Br hz).mpr (.inr rfl),by rw[e3,e4]⟩)
    .rcases b3 r c v e with h1|h1
     .exact .inl h1
     .obtain⟨y,hy,e2⟩:=aw.mp h1;exact .inr (aw.mpr ⟨y,(Br hz).mpr (.inl hy),e2⟩)
  .rintro σ H3 ⟨⟨z0,rfl⟩,s3,kv,hk3,hkl3,b1,b2,b3⟩;rw[aa]at hkl3 b2 b3;rw[aN]at b2 b3;refine⟨⟨_,_,_,rfl⟩,λ b o e=>?_,kv,hk3,by lia,λ t ht r c hh=>?_,λ r c v e=>?_⟩
   .exact s3 b o (Ae e hd) (s2 b o (s1 b o e))
   .rcases(Br hu').mp ht with ht|rfl
    .exact b1 t ht r c hh
    .have hm:(r,c)∈sq.map (·.2):=by rw[hmap];exact(Gi (by lia) (by lia)).mpr hh
     obtain⟨z,hz,e⟩:=aw.mp hm;have:=b2 z hz;rw[e]at this;exact this
   .rcases b3 r c v e with ⟨t,ht,hh⟩|hm
    .exact⟨t,(Br hu').mpr (.inl ht),hh⟩
    .exact⟨u,(Br hu').mpr (.inr rfl),(Gi (by lia) (by lia)).mp (by rw[<-hmap];exact hm)⟩
 .rintro σ H' ⟨⟨x0,y0,z0,rfl⟩,hs,kvs,hk,hkl,ha1,ha2⟩;rw[aa,aN]at ha1;exact⟨_,rfl,q d kvs H' hs hd hk ha1⟩
theorem F6{f:Addr}{fd:FuncData}(F:Fun K "check_covered" "check_covered" Cm f fd)(D_squares_of:A2 P w K mg base 1 "squares_of" ["rectangle"] E4):A5 P w K mg base CX0 2 f fd ["by_square","sheet"] Dn:=by
 have S:An ["by_square","sheet","square"] ["by_square","sheet"] (Ai Cm):=fsk;refine F.g S ?_;rintro vs H Q E ⟨d,sh,w,h,kvs,rfl,hd,hsh,gw,gh,hcov,q⟩;refine⟨rfl,λ cdv A outer s hr=>?_⟩;have hu:=N9 hr;refine⟨_,(Ah (AN PassesOwn.never rfl (AC (Aw D_squares_of hr (Aa (pv 1) Ab))) (Al (i:=2) S.nd rfl (av rfl)) (Ah (A7 (J2 (IA hu (pv 2) (pv 0))) (Ah Dq) Az)))),?_⟩;refine⟨_,rfl,sh,⟨0,0,h,w⟩,rfl,hsh,aE _,by show(0:Int)<=h;lia,by show h<=12;lia,aE _,by show(0:Int)<=w;lia,by show w<=12;lia,λ l2 sq H2 s2 n2 hl2 hsq hmap=>⟨l2,rfl,⟨_,SqL.of hl2⟩,?_⟩⟩;refine B9 (K:=K) (a:=l2) (xs:=sq.map λ s=>V.ref s.1) (λ j σ H3=>(∃z,σ=[some (.ref d),some (.ref sh),z])/\H3=H2) ⟨⟨none,rfl⟩,rfl⟩ (λ j σ H3 _ hp=>by rw[hp.2];exact SqL.of hl2) ?_ ?_
 .rintro j y σ H3 hy ⟨⟨z0,rfl⟩,rfl⟩;obtain⟨z,hz,rfl⟩:=Pk hy;have hzm:=ao hz;have hz2:=hsq z hzm;have hin2:(⟨0,0,h,w⟩:Rc).has z.2.1 z.2.2:=(Gi (p:=⟨0,0,h,w⟩) (by show(0:Int)<=w;lia) (by show(0:Int)<=h;lia)).mp (by rw[<-hmap];exact aw.mpr ⟨z,hzm,rfl⟩);obtain⟨i1,i2,i3,i4⟩:=hin2;have hk2:=s2 _ _ hd;have dg:=DGet.t (k:=sqK z.2.1 z.2.2) hk2 hz2;cases e:Bb kvs (sqK z.2.1 z.2.2) with
  |none=>exact absurd e (hcov _ _ i1 i2 i3 i4)
  |some v =>
   rw[e]at dg;exact⟨_,rfl,_,rfl,d,_,rfl,dg,_,rfl,Ls ⟨⟨_,rfl⟩,rfl⟩⟩
 .rintro σ H3 ⟨⟨z0,rfl⟩,rfl⟩;exact q _ s2
theorem G8{α β:Type}{f:α->β}:∀{l' m:List β},l'.Perm m->∀{l:List α},m=l.map f->∃us:List α,us.Perm l/\l'=us.map f:=by
 intro l' m h
 induction h with
 |nil=>intro l e;exact⟨l,.refl _,e⟩
 |cons x hp ih =>
  intro l e;cases l with
  |nil=>cases e
  |cons y r =>
   rw[aS]at e;injection e with e1 e2;obtain⟨us,h1,h2⟩:=ih e2;exact⟨y::us,h1.cons y,by rw[aS,<-h2,e1]⟩
 |swap x y r =>
  intro l e
  match l,e with
  |a::b::r',e =>
   rw[aS,aS]at e;injection e with e1 e2;injection e2 with e2 e3;exact⟨b::a::r',.swap a b r',by rw[aS,aS,e1,e2,e3]⟩
 |trans h1 h2 ih1 ih2 =>
  intro l e;obtain⟨us,a1,a2⟩:=ih2 e;obtain⟨vs,b1,b2⟩:=ih1 a2;exact⟨vs,b1.trans a1,b2⟩
theorem HY{f:Addr}{fd:FuncData}(F:Fun K "__init__" "Panel.__init__" D9 f fd)(T:Txt mg tk)(PC:OQ K C)(D_check_sides:A2 P w K mg base 3 "check_sides" ["width","height"] DS)(D_check_panes:A2 P w K mg base 3 "check_panes" ["panes","sheet"] (DT K))
  (D_panes_by_square:A2 P w K mg base 2 "panes_by_square" ["panes"] (EW K)) (D_check_covered:A2 P w K mg base 2 "check_covered" ["by_square","sheet"] Dn):A5 P w K mg base CX0 4 f fd ["self","width","height","panes"] (K5 K C):=by
 have S:An ["self","width","height","panes","sheet","own_panes","by_square"] ["self","width","height","panes"] (Ai D9):=fsk;refine F.g S ?_;rintro vs H Q E ⟨a,dx,l,w,h,ts,rfl,hob,hl,hat,til,hlen,gw,gh,q⟩;refine⟨rfl,λ cdv A outer s hr=>?_⟩;refine⟨_,(Ac (AS (Aw D_check_sides hr (Aa (pv 1) (Aa (pv 2) Ab))))
  (Ac (Ar (i:=4) S.nd rfl (av rfl) (A3 (Aa Ad (Aa Ad (Aa (pv 2) (Aa (pv 1) Ab))))))
  (Ac (AS (Aw D_check_panes hr (Aa (pv 3) (Aa (pv 4) Ab))))
  (Ac (C8 rfl (Al (i:=5) S.nd rfl (av rfl)) (AC (pv 3)) (λ_ _ _ _ _=>pgk (nk ["pane"])) (λ_ _ _ _ _=>(BH (Km (K:=K)) rfl T.z_tuple rfl (Aa (pv 0) Ab))) (N:=["pane"]) (fr:=[none]))
  (Ac (Ar (i:=6) S.nd rfl (av rfl) (Aw D_panes_by_square hr (Aa (pv 5) Ab)))
  (Ac (AS (Aw D_check_covered hr (Aa (pv 6) (Aa (pv 4) Ab))))
  (Ac (C9 (pv 0) (pv 1) rfl)
  (Ac (C9 (pv 0) (pv 2) rfl)
  (Ac (C9 (pv 0) (A0 Fm rfl T.z_sorted rfl (Aa (pv 5) Ab)) rfl)
  (Ah (C9 (pv 0) (pv 6) rfl))))))))))),?_⟩
 refine⟨_,rfl,_,rfl,w,h,rfl,gw,gh,λ H1 s1=>?_⟩;refine⟨_,rfl,_,rfl,Ay 4,λ t ht=>?_⟩;refine nv ht λ H2 sz hsh=>?_;have s2:=s1.trans sz;refine⟨_,rfl,_,rfl,l,t,w,h,ts,rfl,s2.seq hl,hat.same s2,hsh,til.ins,hlen,λ H3 s3=>?_⟩;have s13:=s2.trans s3;refine⟨_,rfl,l,rfl,⟨_,s13.seq hl⟩,λ acc hacc=>B6 (K:=K) (a:=l) (ys:=Ao ts) (λ i xs σ H'=>(∃y,σ=[y])/\Same H3 H'/\xs=(Ao ts).take i) ⟨⟨none,rfl⟩,Same.new hacc,rfl⟩
  (λ i xs σ H' _ _ hp=>(s13.trans hp.2.1).seq hl) ?_ ?_⟩
 .rintro i x xs σ H' hx hi hl' hacc' ⟨⟨y,rfl⟩,hs,rfl⟩;obtain⟨u,hu',rfl⟩:=AU hx;have hua:=(s13.trans hs) _ _ (hat u (ao hu'));refine⟨_,rfl,u.1,_,rfl,.inr ⟨SqT.of hua,cNx.mk (aF (Am (by rw[aa];lia))) hi hl' hacc' ⟨⟨_,rfl⟩,λ b o e=>?_,?_⟩⟩⟩
  .rw[Ag (Ae e hacc)];exact hs b o e
  .rw[aV,hx];rfl
 .rintro xs σ H4 hl4 hacc4 ⟨_,s4,rfl⟩;rw[aN]at hacc4;have s14:=s13.trans s4;refine⟨_,rfl,acc,w,h,ts,rfl,SqL.of hacc4,hat.same s14,til.ins,til.dis,hlen,gw.2,gh.2,λ d kvs H5 s5 n5 hd5 hk5=>?_⟩;have s15:=s14.trans s5;have look:∀r c,0<=r->r<h->0<=c->c<w->∃t∈ts,Bb kvs (sqK r c)=some (.ref t.1)/\t.2.has r c:=λ r c a1 a2 a3 a4=>by
   obtain⟨p,hp,hh⟩:=til.cov r c a1 a2 a3 a4;obtain⟨u,hu',rfl⟩:=aw.mp hp;exact⟨u,hu',hk5 u hu' r c hh,hh⟩
  refine⟨_,rfl,_,rfl,d,t,w,h,kvs,rfl,hd5,(s3.trans (s4.trans s5)) _ _ hsh,gw,gh,λ r c a1 a2 a3 a4 e=>?_,λ H6 s6=>?_⟩
  .obtain⟨u,_,hv,_⟩:=look r c a1 a2 a3 a4;rw[hv]at e;cases e
  have s16:=s15.trans s6;have ob6:=s16 _ _ hob;have hacc6:=(s5.trans s6) _ _ hacc4;have hd6:=s6 _ _ hd5;have na:acc≠a:=AL hacc6 ob6 (by intro z;cases z);have nd:d≠a:=AL hd6 ob6 (by intro z;cases z);refine⟨_,rfl,_,rfl,a,C,dx,_,rfl,ob6,PC.cl,PC.n_width,(by show 0<1000;decide),?_⟩;refine⟨_,rfl,_,rfl,a,C,dx,_,rfl,Af,PC.cl,PC.n_height,(by show 1<1000;decide),?_⟩;have hacc7:(upd (upd H6 a (.ins C dx (Bd "width" (.int w) []))) a (.ins C dx (Bd "height" (.int h) (Bd "width" (.int w) [])))) acc=some (.lst (Ao ts)):=by rw[Ag na,Ag na];exact hacc6
  have tup:∀t∈ts,(upd (upd H6 a (.ins C dx (Bd "width" (.int w) []))) a (.ins C dx (Bd "height" (.int h) (Bd "width" (.int w) [])))) t.1=some (.tup (AK t.2.t t.2.l t.2.b t.2.r)):=λ t ht=>by
   have e:=s16 _ _ (hat t ht);have nt:t.1≠a:=AL e ob6 (by intro z;cases z);rw[Ag nt,Ag nt];exact e
  refine⟨_,rfl,acc,ts.map λ t=>(t.1,t.2.ls),3,key,rfl,?_,by rw[aa];lia,?_,?_,λ ls us hls hp hsr=>?_⟩
  .rw[be];exact SqL.of hacc7
  .intro z hz;obtain⟨t,ht,rfl⟩:=aw.mp hz;exact⟨rfl,tup t ht⟩
  .intro z hz y hy;obtain⟨t,ht,rfl⟩:=aw.mp hz;obtain⟨u,hu',rfl⟩:=aw.mp hy;exact PQ (til.ins _ (aw.mpr ⟨t,ht,rfl⟩)) (til.ins _ (aw.mpr ⟨u,hu',rfl⟩)) gw.2 gh.2 gw.2 gh.2
  obtain⟨ts',hp',rfl⟩:=G8 hp rfl;have nls:ls≠a:=Ne.symm (Ae Af hls);refine⟨_,rfl,a,C,dx,_,rfl,by rw[Ag (Ne.symm nls)];exact Af,PC.cl,PC.n_sorted_panes,(by show 2<1000;decide),?_⟩;refine⟨_,rfl,_,rfl,a,C,dx,_,rfl,Af,PC.cl,PC.n_by_square,(by show 3<1000;decide),?_⟩;have sx:SameX a H6 (upd (upd (upd (upd (upd H6 a (.ins C dx (Bd "width" (.int w) []))) a (.ins C dx (Bd "height" (.int h) (Bd "width" (.int w) [])))) ls (.lst (List.map (λ t=>V.ref t.1) (List.map (λ t:Addr×Rc=>(t.1,t.2.ls)) ts')))) a (.ins C dx (Bd "sorted_panes" (.ref ls) (Bd "height" (.int h) (Bd "width" (.int w) []))))) a (.ins C dx (Fk w h ls d))):=by
   refine SameX.trans (SameX.trans (SameX.trans (SameX.trans SameX.upd SameX.upd) (SameX.new hls)) SameX.upd) SameX.upd
  refine q ts' ls d kvs _ (λ b o nb e=>sx b o nb (s16 b o e)) hp' ⟨Af,?_,sx _ _ nd hd6,λ t ht=>?_,til.perm (hp'.map _),by rw[hp'.length_eq];exact hlen,?_,λ r c a1 a2 a3 a4=>?_,gw,gh⟩
  .rw[Ag nls,Ag nls,Af,be];rfl
  .have ht':=hp'.mem_iff.mp ht;have e:=s16 _ _ (hat t ht');have nt:t.1≠a:=AL e ob6 (by intro z;cases z);exact sx _ _ nt e
  .unfold Srt;rw[be]at hsr |-;exact hsr
  .obtain⟨u,hu',hv,hh⟩:=look r c a1 a2 a3 a4;exact⟨u,hp'.mem_iff.mpr hu',hv,hh⟩
theorem GQ{f:Addr}{fd:FuncData}(F:Fun K "panes" "Panel.panes" Df f fd)(T:Txt mg tk)(PC:OQ K C):A5 P w K mg base CX0 1 f fd ["self"] (EV C):=by
 have S:An ["self"] ["self"] (Ai Df):=fsk;refine F.g S ?_;rintro vs H Q E ⟨a,dx,ls,ld,w,h,ts,kvs,rfl,pn,q⟩;refine⟨rfl,λ cdv A outer s hr=>?_⟩;refine⟨_,(Ah (Ap (BH Cv rfl T.z_list rfl (Aa (BZ (pv 0) rfl) Ab)))),?_⟩;exact⟨_,rfl,a,C,dx,_,_,rfl,pn.ob,PC.cl,PC.n_sorted_panes,SW _ _ _ _,ls,_,rfl,.inl (SqL.of pn.lst),λ l hl=>q l hl⟩
theorem F7{f:Addr}{fd:FuncData}(F:Fun K "pane_at" "Panel.pane_at" Cn f fd)(PC:OQ K C):A5 P w K mg base CX0 1 f fd ["self","row","column"] (E5 C):=by
 have S:An ["self","row","column"] ["self","row","column"] (Ai Cn):=fsk;refine F.g S ?_;rintro vs H Q E ⟨a,dx,ls,ld,w,h,r,c,ts,kvs,rfl,pn,a1,a2,a3,a4,q⟩;refine⟨rfl,λ cdv A outer s hr=>?_⟩;have hu:=N9 hr;refine⟨_,(Ah (Ap (Rl hu (BZ (pv 0) rfl) (A3 (Aa (pv 1) (Aa (pv 2) Ab))) (λ_ _=>rfl)))),?_⟩;obtain⟨u,hu',hv,hh⟩:=pn.look r c a1 a2 a3 a4;refine⟨_,rfl,a,C,dx,_,_,rfl,pn.ob,PC.cl,PC.n_by_square,SX _ _ _ _,_,rfl,_,rfl,Ay 2,λ t ht=>?_⟩;have dg:=DGet.t (H:=upd H t (.tup [.int r,.int c])) (b:=t) (k:=sqK r c) (Same.new ht _ _ pn.dic) Af;rw[hv]at dg;exact⟨ld,_,rfl,dg,q u _ hu' hh (Same.new ht)⟩
structure Til(H0 H:Hp)(lp d:Addr)(w h r c:Int)(ts:List (Addr×Rc))(kvs:LKz):Prop where
 same:Same H0 H
 lst:H lp=some (.lst (Ao ts))
 dic:H d=some (.dT kvs)
 ats:At H ts
 ins:∀p∈rcs ts,p.In w h
 dis:(rcs ts).Pairwise Apart
 own:∀r' c',Bb kvs (sqK r' c')≠none↔∃p∈rcs ts,p.has r' c'
 tops:∀p∈rcs ts,p.t<=r
 done:∀r' c',0<=r'->0<=c'->c'<w->(r'<r\/(r'=r/\c'<c))->∃p∈rcs ts,p.has r' c'
 cnt:(ts.length:Int)<=12*r+c
 siz:kvs.length<=144*ts.length
 bot:∀p∈(rcs ts).drop 40,p.b=h
theorem Til.to{H0 H H':Hp}{lp d:Addr}{w h r c:Int}{ts:List (Addr×Rc)}{kvs:LKz}(t:Til H0 H lp d w h r c ts kvs)(s:Same H H'):Til H0 H' lp d w h r c ts kvs :=
 ⟨t.same.trans s,s _ _ t.lst,s _ _ t.dic,t.ats.same s,t.ins,t.dis,t.own,t.tops,t.done,t.cnt,t.siz,t.bot⟩
theorem Til.skip{H0 H:Hp}{lp d:Addr}{w h r c:Int}{ts:List (Addr×Rc)}{kvs:LKz}(t:Til H0 H lp d w h r c ts kvs)(e:Bb kvs (sqK r c)≠none):Til H0 H lp d w h r (c+1) ts kvs :=
 ⟨t.same,t.lst,t.dic,t.ats,t.ins,t.dis,t.own,t.tops,λ r' c' a1 a2 a3 a4=>by
  by_cases h1:r'=r/\c'=c
  .obtain⟨rfl,rfl⟩:=h1;exact(t.own _ _).mp e
  .exact t.done r' c' a1 a2 a3 (by lia),by have:=t.cnt;lia,t.siz,t.bot⟩
theorem Til.line{H0 H:Hp}{lp d:Addr}{w h r:Int}{ts:List (Addr×Rc)}{kvs:LKz}(t:Til H0 H lp d w h r w ts kvs)(hw:w<=12):Til H0 H lp d w h (r+1) 0 ts kvs :=
 ⟨t.same,t.lst,t.dic,t.ats,t.ins,t.dis,t.own,λ p hp=>by have:=t.tops p hp;lia,λ r' c' a1 a2 a3 a4=>t.done r' c' a1 a2 a3 (by lia),by have:=t.cnt;lia,t.siz,t.bot⟩
theorem Til.tiles{H0 H:Hp}{lp d:Addr}{w h:Int}{ts:List (Addr×Rc)}{kvs:LKz}(t:Til H0 H lp d w h h 0 ts kvs)(hw:w<=12):Tiles w h (rcs ts)/\ts.length<=52:=by
 refine⟨⟨t.ins,t.dis,λ r c a1 a2 a3 a4=>t.done r c a1 a3 a4 (.inl a2)⟩,?_⟩;have:=MH (w:=w) (h:=h) (ps:=(rcs ts).drop 40) (λ p hp=>t.ins p (di hp)) t.bot (t.dis.sublist (List.drop_sublist _ _));rw[bp,aa]at this;lia
theorem S0{wd hg r c i j:Int}(h1:1<=wd)(h2:1<=hg):(∃q,0<=q/\q<wd*hg/\r=i+q / wd/\c=j+q % wd)↔(i<=r/\r<i+hg/\j<=c/\c<j+wd):=by
 constructor
 .rintro⟨q,q0,q1,rfl,rfl⟩;have a1:0<=q / wd:=Int.ediv_nonneg q0 (by lia);have a2:q / wd<hg:=Int.ediv_lt_of_lt_mul (by lia) (by rw[Int.mul_comm];exact q1);have a3:=df q (b:=wd) (by lia);have a4:=cJ q (b:=wd) (by lia);lia
 .rintro⟨b1,b2,b3,b4⟩;refine⟨(r-i)*wd+(c-j),?_,?_,?_,?_⟩
  .have:=Int.mul_nonneg (show 0<=r-i by lia) (show 0<=wd by lia);lia
  .have e:(r-i+1)*wd<=hg*wd:=dR (by lia) (by lia);rw[Int.add_mul,Int.one_mul]at e;rw[Int.mul_comm wd hg];lia
  .rw[Int.add_comm ((r-i)*wd),Int.add_mul_ediv_right _ _ (by lia),Int.ediv_eq_zero_of_lt (by lia) (by lia)];lia
  .rw[Int.add_comm ((r-i)*wd),Int.add_mul_emod_self_right,Int.emod_eq_of_lt (by lia) (by lia)];lia
theorem Til.more{H0 H H':Hp}{lp d t:Addr}{w h i j wd hg:Int}{ts:List (Addr×Rc)}{kvs kv:LKz}(T:Til H0 H lp d w h i j ts kvs)(i0:0<=i)(j0:0<=j)(w1:1<=wd)(w2:j+wd<=w)(h1:1<=hg)(h2:i+hg<=h)
  (fr:∀x,j<=x->x<j+wd->Bb kvs (sqK i x)=none) (hb:39<ts.length->i+hg=h) (hs:Same H0 H') (hl:H' lp=some (.lst (Ao ts++[V.ref t]))) (hd:H' d=some (.dT kv)) (ha:At H' ts)
  (ht:H' t=some (.tup (AK i j (i+hg) (j+wd)))) (hk:∀r c,Bb kv (sqK r c)≠none↔(Bb kvs (sqK r c)≠none\/(i<=r/\r<i+hg/\j<=c/\c<j+wd))) (hz:kv.length<=kvs.length+144) :
  Til H0 H' lp d w h i (j+1) (ts++[(t,⟨i,j,i+hg,j+wd⟩)]) kv:=by
 have ap:∀p∈rcs ts,Apart p ⟨i,j,i+hg,j+wd⟩:=λ p hp r c a b=>by
  obtain⟨a1,a2,a3,a4⟩:=a;obtain⟨b1,b2,b3,b4⟩:=b;have tp:=T.tops p hp;simp only at b1 b2 b3 b4;exact(T.own i c).mpr ⟨p,hp,⟨tp,by lia,a3,a4⟩⟩ (fr c b3 b4)
 refine⟨hs,by rw[hl,F0],hd,λ u hu=>?_,λ p hp=>?_,?_,λ r c=>?_,λ p hp=>?_,λ r c a1 a2 a3 a4=>?_,?_,?_,λ p hp=>?_⟩
 .rcases ai.mp hu with hu|hu
  .exact ha u hu
  .rw[ad.mp hu];exact ht
 .rw[Dp]at hp;rcases ai.mp hp with hp|hp
  .exact T.ins p hp
  .rw[ad.mp hp];exact⟨i0,by show i<i+hg;lia,h2,j0,by show j<j+wd;lia,w2⟩
 .rw[Dp,bn];exact⟨T.dis,cm _ _,λ p hp q hq=>by rw[ad.mp hq];exact ap p hp⟩
 .rw[hk,T.own,Dp]
  constructor
  .rintro(⟨p,hp,hh⟩|hh)
   .exact⟨p,a9 _ hp,hh⟩
   .exact⟨_,az _ (ad.mpr rfl),hh⟩
  .rintro⟨p,hp,hh⟩;rcases ai.mp hp with hp|hp
   .exact .inl ⟨p,hp,hh⟩
   .rw[ad.mp hp]at hh;exact .inr hh
 .rw[Dp]at hp;rcases ai.mp hp with hp|hp
  .exact T.tops p hp
  .rw[ad.mp hp];exact aE _
 .rw[Dp];by_cases e:r=i/\c=j
  .obtain⟨rfl,rfl⟩:=e;exact⟨_,az _ (ad.mpr rfl),⟨aE _,by show r<r+hg;lia,aE _,by show c<c+wd;lia⟩⟩
  .obtain⟨p,hp,hh⟩:=T.done r c a1 a2 a3 (by lia);exact⟨p,a9 _ hp,hh⟩
 .have:=T.cnt;rw[af];simp only[aI,ce];lia
 .have:=T.siz;rw[af];simp only[aI,ce];lia
 .rw[Dp]at hp;by_cases e:39<ts.length
  .rw[List.drop_append_of_le_length (by rw[aa];lia)]at hp;rcases ai.mp hp with hp|hp
   .exact T.bot p hp
   .rw[ad.mp hp];exact hb e
  .rw[List.drop_of_length_le (by rw[af,aa];simp;lia)]at hp;cases hp
def nth(b:List Stmt)(i:Nat):Stmt:=b.getD i (.Pass ⟨0,0,0,0⟩)
def DH:Stmt->List Stmt
 |.For _ _ b _ _=>b
 |_=>[]
def SI(ww:Int)(σ:St):Nat:=match σ[9]? with
 |some (some (V.int q))=>(ww-q).toNat
 |_=>0
theorem TZ:RS 10 20:=⟨by decide,by decide,by decide⟩
theorem Uu(z:Int):LZ z (10^(20:Int).toNat):=⟨by decide +kernel,by decide +kernel⟩
abbrev Kq:LSz:=["_law_script","_law_k","_law_width","_law_height","_law_most","_law_panes","_law_owned","_law_row","_law_column","_law_free","_law_purse_here","_law_wide","_law_high","_law_square"]
theorem JJ{f:Addr}{fd:FuncData}(F:Fun K "_law_tiled" "_law_tiled" Bk f fd)(T:Txt mg tk)(D__law_purse:A2 P w K mg base 1 "_law_purse" ["_law_script","_law_k"] (EU K))(D__law_take:A2 P w K mg base 1 "_law_take" ["_law_purse_here","_law_many"] ET) :
  A5 P w K mg base CX0 2 f fd ["_law_script","_law_k","_law_width","_law_height"] (Kx K):=by
 have S:An Kq ["_law_script","_law_k","_law_width","_law_height"] (Ai Bk):=fsk;refine F.g S ?_;rintro vs H Q E ⟨a,ns,k,ww,h,rfl,hS,k0,k1,gw,gh,q⟩;refine⟨rfl,λ cdv A outer s hr=>?_⟩;have hu:=N9 hr;obtain⟨tt,htt,fin⟩:∃rd,PSs (BA CX0 P w K mg base Kq "_law_tiled" (Ai Bk) f cdv A outer s H E).nox ((DH (nth (DH (nth (A8 Bk) 3)) 0)).drop 7) rd /\
   ∀(D:Cd)(lp d pp:Addr)(i j fr wd hg m:Int)(x13:Option V)(ts:List (Addr×Rc))(kvs:LKz)(H5:Hp),Til H H5 lp d ww h i j ts kvs->H lp=none->H d=none->0<=i->i<h->0<=j->j<ww->1<=wd->j+wd<=ww->1<=hg->i+hg<=h ->
    (∀x,j<=x->x<j+wd->Bb kvs (sqK i x)=none)->(39<ts.length->i+hg=h) ->
    (∀(x13:Option V)(ts':List (Addr×Rc))(kvs':LKz)(H6:Hp),Til H H6 lp d ww h i (j+1) ts' kvs'->D.nx [some (.ref a),some (.int k),some (.int ww),some (.int h),some (.int m),some (.ref lp),some (.ref d),some (.int i),some (.int j),some (.int fr),some (.ref pp),some (.int wd),some (.int hg),x13] H6) ->
    rd D [some (.ref a),some (.int k),some (.int ww),some (.int h),some (.int m),some (.ref lp),some (.ref d),some (.int i),some (.int j),some (.int fr),some (.ref pp),some (.int wd),some (.int hg),x13] H5:=by
  refine⟨_,(Ac (AS (BD (pv 5) (Aa (A3 (Aa (pv 7) (Aa (pv 8) (Aa (Aq A4 (pv 7) (pv 12)) (Aa (Aq A4 (pv 8) (pv 11)) Ab))))) Ab)))
  (Ah (AN PassesOwn.never rfl (BG rfl T.z_range (Aa (Aq N2 (pv 11) (pv 12)) Ab)) (Al (i:=13) S.nd rfl (av rfl)) (Ah (Nq hu (pv 6) (A3 (Aa (Aq A4 (pv 7) (Aq Fd (pv 13) (pv 11))) (Aa (Aq A4 (pv 8) (Aq GD (pv 13) (pv 11))) Ab))) Bq rfl))))),?_⟩
  intro D lp d pp i j fr wd hg m x13 ts kvs H5 T5 nlp nd i0 i1 j0 j1 w1 w2 h1 h2 hfr hb nx;have nlpd:lp≠d:=AL T5.lst T5.dic (by intro z;cases z);have few:ts.length<=200:=by have:=T5.cnt;lia
  refine⟨_,rfl,.inl ⟨rfl,_,SqL.of T5.lst⟩,_,rfl,_,rfl,_,rfl,_,rfl,_,_,rfl,rfl,_,rfl,_,rfl,_,_,rfl,rfl,Ay 4,λ t ht=>?_⟩;have nlt:lp≠t:=Ae T5.lst ht;have ndt:d≠t:=Ae T5.dic ht;refine⟨lp,_,_,rfl,rfl,by rw[Ag nlt];exact T5.lst,Am (by rw[aa];lia),?_⟩;have l6:(upd (upd H5 t (.tup (AK i j (i+hg) (j+wd)))) lp (.lst (Ao ts++[V.ref t]))) lp=some (.lst (Ao ts++[V.ref t])):=Af;have t6:(upd (upd H5 t (.tup (AK i j (i+hg) (j+wd)))) lp (.lst (Ao ts++[V.ref t]))) t=some (.tup (AK i j (i+hg) (j+wd))):=by rw[Ag (Ne.symm nlt)];exact Af
  have d6:(upd (upd H5 t (.tup (AK i j (i+hg) (j+wd)))) lp (.lst (Ao ts++[V.ref t]))) d=some (.dT kvs):=by rw[Ag (Ne.symm nlpd),Ag ndt];exact T5.dic
  have s6:Same H (upd (upd H5 t (.tup (AK i j (i+hg) (j+wd)))) lp (.lst (Ao ts++[V.ref t]))):=λ b o e=>by
   rw[Ag (Ae e nlp),Ag (Ae (T5.same _ _ e) ht)];exact T5.same b o e
  have a6:At (upd (upd H5 t (.tup (AK i j (i+hg) (j+wd)))) lp (.lst (Ao ts++[V.ref t]))) ts:=λ u hu=>by
   have e:=T5.ats u hu;rw[Ag (AL e T5.lst (by intro z;cases z)),Ag (Ae e ht)];exact e
  generalize upd (upd H5 t (.tup (AK i j (i+hg) (j+wd)))) lp (.lst (Ao ts++[V.ref t]))=H6 at l6 t6 d6 s6 a6 |-;have area:0<=wd*hg/\wd*hg<=144:=by
   refine⟨Int.mul_nonneg (by lia) (by lia),?_⟩;have e1:wd*hg<=12*hg:=dR (by lia) (by lia);lia
  refine⟨_,rfl,_,rfl,_,_,rfl,rfl,Lh (by lia) (by lia),wd*hg,rfl,by lia,by lia,Ba (lo:=0) (n:=(wd*hg).toNat)
   (λ n σ H'=>∃(x13:Option V)(kv:LKz),σ=[some (.ref a),some (.int k),some (.int ww),some (.int h),some (.int m),some (.ref lp),some (.ref d),some (.int i),some (.int j),some (.int fr),some (.ref pp),some (.int wd),some (.int hg),x13] /\
    SameX d H6 H'/\H' d=some (.dT kv)/\kv.length<=kvs.length+n/\∀r c,Bb kv (sqK r c)≠none↔(Bb kvs (sqK r c)≠none\/∃q:Int,0<=q/\q<n/\r=i+q / wd/\c=j+q % wd))
   ⟨x13,kvs,rfl,SameX.refl,d6,by lia,λ r c=>⟨.inl,λ z=>z.elim id λ⟨q,q0,q1,_⟩=>by lia⟩⟩ ?_ ?_⟩
  .rintro n σ H' hn ⟨x13,kv,rfl,sx,dk,dl,dv⟩;rw[dO];have hdiv:LZ (n:Int) wd:=⟨by lia,eM (EF (k:=64) (by decide) (by lia)) (by decide)⟩;refine⟨_,rfl,_,rfl,_,rfl,_,rfl,_,_,rfl,rfl,hdiv,_,_,rfl,rfl,_,rfl,_,rfl,_,rfl,_,_,rfl,rfl,(show 0<wd by lia),_,_,rfl,rfl,Ay 2,λ y hy=>?_⟩;have ndy:d≠y:=Ae dk hy;refine⟨d,_,rfl,DPut.t (k:=sqK (i+n / wd) (j+n % wd)) (by rw[Ag ndy];exact dk) Af (cj (m:=40000) (by have:=T5.siz;lia) (by rw[sizeLine_eq];decide)),?_⟩;refine⟨_,_,rfl,λ b o nb e=>?_,Af,?_,λ r c=>?_⟩
   .rw[Ag nb,Ag (Ae (sx b o nb e) hy)];exact sx b o nb e
   .have:=CK kv (sqK (i+n / wd) (j+n % wd)) (V.bl true);lia
   .rw[EN];by_cases e:sqK r c=sqK (i+n / wd) (j+n % wd)
    .rw[if_pos e];obtain⟨e1,e2⟩:=Jr e;exact⟨λ_=>.inr ⟨n,by lia,by lia,e1,e2⟩,λ_ z=>by cases z⟩
    .rw[if_neg e,dv]
     constructor
     .rintro(z|⟨q,q0,q1,q2,q3⟩)
      .exact .inl z
      .exact .inr ⟨q,q0,by lia,q2,q3⟩
     .rintro(z|⟨q,q0,q1,q2,q3⟩)
      .exact .inl z
      .refine .inr ⟨q,q0,?_,q2,q3⟩;by_cases eq:q=(n:Int)
       .subst eq;exact absurd (by rw[q2,q3]) e
       .lia
  .rintro σ H' ⟨x13,kv,rfl,sx,dk,dl,dv⟩;have nl:=AL l6 d6 (by intro z;cases z);have nt:=AL t6 d6 (by intro z;cases z);refine nx x13 _ kv H' (T5.more i0 j0 w1 w2 h1 h2 hfr hb (λ b o e=>sx b o (Ae e nd) (s6 b o e)) (sx _ _ nl l6) dk (λ u hu=>sx _ _ (AL (a6 u hu) d6 (by intro z;cases z)) (a6 u hu)) (sx _ _ nt t6) (λ r c=>?_) (by lia));rw[dv,<-S0 (i:=i) (j:=j) w1 h1];have en:(((wd*hg).toNat:Nat):Int)=wd*hg:=cb area.1;rw[en]
 obtain⟨t2,ht2,fin2⟩:∃rd,PSs (BA CX0 P w K mg base Kq "_law_tiled" (Ai Bk) f cdv A outer s H E).nox ((DH (nth (DH (nth (A8 Bk) 3)) 0)).drop 3) rd /\
   ∀(D:Cd)(lp d:Addr)(i j fr m:Int)(x10 x11 x12 x13:Option V)(ts:List (Addr×Rc))(kvs:LKz)(H5:Hp),Til H H5 lp d ww h i j ts kvs->H lp=none->H d=none->0<=i->i<h->0<=j->j<ww->1<=fr->j+fr<=ww->2<=m->m<=12 ->
    (∀x,j<=x->x<j+fr->Bb kvs (sqK i x)=none) ->
    (∀(x9 x10 x11 x12 x13:Option V)(ts':List (Addr×Rc))(kvs':LKz)(H6:Hp),Til H H6 lp d ww h i (j+1) ts' kvs'->D.nx [some (.ref a),some (.int k),some (.int ww),some (.int h),some (.int m),some (.ref lp),some (.ref d),some (.int i),some (.int j),x9,x10,x11,x12,x13] H6) ->
    rd D [some (.ref a),some (.int k),some (.int ww),some (.int h),some (.int m),some (.ref lp),some (.ref d),some (.int i),some (.int j),some (.int fr),x10,x11,x12,x13] H5:=by
  refine⟨_,(Ac (Ar (i:=10) S.nd rfl (av rfl) (Aw D__law_purse hr (Aa (pv 0) (Aa (Aq A4 (pv 1) (A0 A6 rfl T.z_len rfl (Aa (pv 5) Ab))) Ab))))
  (Ac (Ar (i:=11) S.nd rfl (av rfl) (Aq A4 Ad (Aw D__law_take hr (Aa (pv 10) (Aa (A0 (FG rfl) rfl T.z_min rfl (Aa (pv 4) (Aa (pv 9) Ab))) Ab)))))
  (Ac (Ar (i:=12) S.nd rfl (av rfl) (Aq A4 Ad (Aw D__law_take hr (Aa (pv 10) (Aa (A0 (FG rfl) rfl T.z_min rfl (Aa (pv 4) (Aa (Aq AB (pv 3) (pv 7)) Ab))) Ab)))))
  (Ac (A7 (Ax KO (A0 A6 rfl T.z_len rfl (Aa (pv 5) Ab)) Ad (Av _)) (Ac (Ar (i:=11) S.nd rfl (av rfl) (pv 9))
  (Ah (Ar (i:=12) S.nd rfl (av rfl) (Aq AB (pv 3) (pv 7))))) Az)
  htt)))),?_⟩
  intro D lp d i j fr m x10 x11 x12 x13 ts kvs H5 T5 nlp nd i0 i1 j0 j1 f1 f2 m1 m2 hfr nx;have few:(ts.length:Int)<=200:=by have:=T5.cnt;lia
  refine⟨_,rfl,_,rfl,_,rfl,lp,_,rfl,.inl (SqL.of T5.lst),_,_,rfl,rfl,a,ns,_,rfl,T5.same.seq hS,by lia,by rw[aa];lia,λ pp z hpp=>?_⟩;refine⟨_,rfl,_,rfl,_,rfl,_,_,rfl,pp,z,_,rfl,Af,by split<;>lia,by split<;>lia,λ r1 z1 r10 r11=>⟨_,_,rfl,rfl,?_⟩⟩;refine⟨_,rfl,_,rfl,_,rfl,_,rfl,_,_,rfl,rfl,_,_,rfl,pp,z1,_,rfl,Af,by split<;>lia,by split<;>lia,λ r2 z2 r20 r21=>⟨_,_,rfl,rfl,?_⟩⟩;have T8:Til H (upd (upd (upd H5 pp (.lst [.int z])) pp (.lst [.int z1])) pp (.lst [.int z2])) lp d ww h i j ts kvs:=T5.to λ b o e=>by
   have n:=Ae e hpp;rw[Ag n,Ag n,Ag n];exact e
  have b1:r1+1<=fr:=by split at r11<;>lia
  have b2:r2+1<=h-i:=by split at r21<;>lia
  refine⟨_,rfl,lp,_,rfl,.inl (SqL.of T8.lst),_,_,rfl,rfl,_,rfl,AF (λ hb=>?_) (λ hb=>?_)⟩
  .refine⟨_,rfl,_,rfl,_,rfl,_,_,rfl,rfl,?_⟩;exact fin D lp d pp i j fr fr (h-i) m x13 ts kvs _ T8 nlp nd i0 i1 j0 j1 (by lia) (by lia) (by lia) (by lia) hfr (λ_=>by lia) λ y13 ts' kvs' H6 T6=>nx _ _ _ _ _ ts' kvs' H6 T6
  .have hb':=of_decide_eq_false hb;rw[aa]at hb';exact fin D lp d pp i j fr (1+r1) (1+r2) m x13 ts kvs _ T8 nlp nd i0 i1 j0 j1 (by lia) (by lia) (by lia) (by lia) (λ x hx1 hx2=>hfr x hx1 (by lia)) (λ z=>by lia) λ y13 ts' kvs' H6 T6=>nx _ _ _ _ _ ts' kvs' H6 T6
 refine⟨_,(Ac (Ar (i:=4) S.nd rfl (av rfl) (Aj AX (AJ (Aa Ad (Aa Ad (Aa Ad (Aa Ad Ab))))) (Aq GD (Aq Fd (Aj AX (Aw D__law_purse hr (Aa (pv 0) (Aa Ad Ab))) Ad (λ_ _=>rfl)) (Aq JD Ad Ad)) Ad) (λ_ _=>rfl)))
  (Ac (Ar (i:=5) S.nd rfl (av rfl) (AJ Ab))
  (Ac (Ar (i:=6) S.nd rfl (av rfl) KN)
  (Ac (AN PassesOwn.never rfl (BG rfl T.z_range (Aa (pv 3) Ab)) (Al (i:=7) S.nd rfl (av rfl)) (Ah (AN PassesOwn.never rfl (BG rfl T.z_range (Aa (pv 2) Ab)) (Al (i:=8) S.nd rfl (av rfl)) (Ac (A7 (J2 (P9 hu (A3 (Aa (pv 7) (Aa (pv 8) Ab))) (pv 6))) (Ah KM) Az)
  (Ac (Ar (i:=9) S.nd rfl (av rfl) Ad)
  (Ac (KL PassesOwn.never (PW.pt (Cp (Ax AR (Aq A4 (pv 8) (pv 9)) (pv 2) (Av _)) (DC (J2 (IA hu (A3 (Aa (pv 7) (Aa (Aq A4 (pv 8) (pv 9)) Ab))) (pv 6)))))) (Ah (Ar (i:=9) S.nd rfl (av rfl) (Aq A4 (pv 9) Ad))))
  ht2))))))
  (Ah (Ap (pv 5))))))),?_⟩
 refine⟨Ay 4,λ l0 h0=>?_⟩;have s0:Same H (upd H l0 (.lst [.int 12,.int 3,.int 2,.int 12])):=Same.new h0;refine⟨_,rfl,a,ns,0,rfl,s0.seq hS,by decide,by decide,λ p0 z0 hp0=>?_⟩;have n0:l0≠p0:=Ae Af hp0;obtain⟨v,hv,hm⟩:=Th (L:=[V.int 12,V.int 3,V.int 2,V.int 12]) (i:=z0 / 10^(20:Int).toNat % 4) (df _ (by decide)) (by show _<(4:Int);exact cJ _ (by decide));obtain⟨m,rfl,m1,m2⟩:∃m,v=.int m/\2<=m/\m<=12:=by
  simp only[aO,aU,or_false]at hm;rcases hm with rfl|rfl|rfl|rfl<;>exact⟨_,rfl,by decide,by decide⟩
 refine⟨p0,_,_,_,rfl,rfl,SqL.of Af,rfl,_,_,rfl,rfl,TZ,_,_,rfl,rfl,Uu _,_,_,rfl,rfl,(show(0:Int)<4 from by decide),l0,_,_,_,rfl,rfl,SqL.of (by rw[Ag n0];exact Af),hv,?_⟩;have s1:=s0.trans (Same.new (o:=.lst [.int z0]) hp0);generalize upd (upd H l0 (.lst [.int 12,.int 3,.int 2,.int 12])) p0 (.lst [.int z0])=H1 at s1 |-;refine⟨Ay 0,λ lp hlp=>?_⟩;intro d hd;have nlp:H lp=none:=s1.free hlp;have nd:H d=none:=(s1.trans (Same.new hlp)).free hd;have nlpd:lp≠d:=Ae Af hd;have T0:Til H (upd (upd H1 lp (.lst [])) d (.dT [])) lp d ww h 0 0 [] []:=⟨(s1.trans (Same.new hlp)).trans (Same.new hd),by rw[Ag nlpd];exact Af,Af,λ t ht=>(nomatch ht),λ p hp=>(nomatch hp),List.Pairwise.nil,
  λ r c=>⟨λ z=>absurd rfl z,λ⟨p,hp,_⟩=>(nomatch hp)⟩,λ p hp=>(nomatch hp),λ r c a1 a2 a3 a4=>by lia,by simp,by simp,λ p hp=>by simp at hp⟩
 refine⟨_,rfl,h,rfl,by lia,by lia,Ba (lo:=0) (n:=h.toNat) (λ i σ H'=>∃x7 x8 x9 x10 x11 x12 x13 ts kvs,σ=[some (.ref a),some (.int k),some (.int ww),some (.int h),some (.int m),some (.ref lp),some (.ref d),x7,x8,x9,x10,x11,x12,x13]/\Til H H' lp d ww h i 0 ts kvs)
  ⟨_,_,_,_,_,_,_,[],[],rfl,T0⟩ ?_ ?_⟩
 .rintro i σ H2 hi ⟨x7,x8,x9,x10,x11,x12,x13,ts,kvs,rfl,T2⟩;rw[dO];refine⟨_,rfl,ww,rfl,by lia,by lia,Ba (lo:=0) (n:=ww.toNat) (λ j σ H'=>∃x8 x9 x10 x11 x12 x13 ts kvs,σ=[some (.ref a),some (.int k),some (.int ww),some (.int h),some (.int m),some (.ref lp),some (.ref d),some (.int i),x8,x9,x10,x11,x12,x13]/\Til H H' lp d ww h i j ts kvs)
   ⟨_,_,_,_,_,_,ts,kvs,rfl,T2⟩ ?_ ?_⟩
  .rintro j σ H3 hj ⟨x8,x9,x10,x11,x12,x13,ts,kvs,rfl,T3⟩;rw[dO];refine⟨_,rfl,_,rfl,Ay 2,λ t ht=>?_⟩;have T4:=T3.to (Same.new (o:=.tup [.int i,.int j]) ht);have dg:=DGet.t (k:=sqK i j) T4.dic Af;cases e:Bb kvs (sqK i j) with
   |some v =>
    rw[e]at dg;refine⟨_,rfl,d,_,rfl,dg,_,rfl,PU ?_⟩;exact⟨_,_,_,_,_,_,ts,kvs,rfl,T4.skip (by rw[e];intro z;cases z)⟩
   |none =>
    rw[e]at dg;refine⟨_,rfl,d,_,rfl,dg,_,rfl,Ls ?_⟩;refine OT (λ σ H'=>∃fr,σ=[some (.ref a),some (.int k),some (.int ww),some (.int h),some (.int m),some (.ref lp),some (.ref d),some (.int i),some (.int j),some (.int fr),x10,x11,x12,x13]/\Til H H' lp d ww h i j ts kvs/\1<=fr/\j+fr<=ww/\∀x,(j:Int)<=x->x<j+fr->Bb kvs (sqK i x)=none)
     (λ σ _=>SI ww σ) ⟨1,rfl,T4,by lia,by lia,λ x h1 h2=>by rw[show x=(j:Int) by lia];exact e⟩ ?_ ?_
    .rintro σ H5 ⟨fr,rfl,T5,f1,f2,f3⟩;refine⟨_,rfl,_,rfl,_,_,rfl,rfl,_,rfl,_,_,rfl,rfl,_,rfl,AF (λ hlt=>?_) (λ hge=>?_)⟩
     .have hlt':=of_decide_eq_true hlt;refine⟨_,rfl,_,rfl,_,rfl,_,_,rfl,rfl,Ay 2,λ y hy=>?_⟩;have T6:=T5.to (Same.new (o:=.tup [.int i,.int (j+fr)]) hy);have dg2:=DGet.t (k:=sqK i (j+fr)) T6.dic Af;cases e2:Bb kvs (sqK i (j+fr)) with
      |none =>
       rw[e2]at dg2;refine⟨_,rfl,d,_,rfl,dg2,_,rfl,PU ?_⟩;refine⟨_,rfl,_,_,rfl,rfl,⟨fr+1,rfl,T6,by lia,by lia,λ x h1 h2=>?_⟩,?_⟩
       .by_cases ex:x=j+fr
        .rw[ex];exact e2
        .exact f3 x h1 (by lia)
       .show(ww-(fr+1)).toNat<(ww-fr).toNat;lia
      |some v =>
       rw[e2]at dg2;refine⟨_,rfl,d,_,rfl,dg2,_,rfl,Ls ?_⟩;refine fin2 _ lp d i j fr m _ _ _ _ ts kvs _ T6 nlp nd (by lia) (by lia) (by lia) (by lia) f1 f2 m1 m2 f3 ?_;exact λ_ _ _ _ _ ts' kvs' H6 T6=>⟨_,_,_,_,_,_,ts',kvs',rfl,T6⟩
     .refine Ls ?_;refine fin2 _ lp d i j fr m _ _ _ _ ts kvs _ T5 nlp nd (by lia) (by lia) (by lia) (by lia) f1 f2 m1 m2 f3 ?_;exact λ_ _ _ _ _ ts' kvs' H6 T6=>⟨_,_,_,_,_,_,ts',kvs',rfl,T6⟩
    .rintro σ H5 Q1 Q2 hq ⟨v8,e8,v9,e9,i1,i2,r1,r2,v2,e2,i3,i4,r3,r4,b,rb,hh⟩;refine⟨v8,e8,v9,e9,i1,i2,r1,r2,v2,e2,i3,i4,r3,r4,b,rb,?_⟩;cases b with
     |false =>
      rw[if_neg ae]at hh |-;exact hq _ _ hh
     |true =>
      rw[if_pos rfl]at hh |-;obtain⟨v7,e7,v8',e8',v9',e9',i5,i6,r5,r6,hz,all⟩:=hh;exact⟨v7,e7,v8',e8',v9',e9',i5,i6,r5,r6,hz,λ p hp=>let ⟨v6,e6,a,o,ra,dg,c,rc,hQ⟩:=all p hp;⟨v6,e6,a,o,ra,dg,c,rc,hq _ _ hQ⟩⟩
  .rintro σ H3 ⟨x8,x9,x10,x11,x12,x13,ts,kvs,rfl,T3⟩;have ew:((ww.toNat:Nat):Int)=ww:=by lia
   rw[ew]at T3;exact⟨_,_,_,_,_,_,_,ts,kvs,rfl,by have:=T3.line gw.2;push_cast;exact this⟩
 .rintro σ H3 ⟨x7,x8,x9,x10,x11,x12,x13,ts,kvs,rfl,T3⟩;have eh:((h.toNat:Nat):Int)=h:=by lia
  rw[eh]at T3;obtain⟨til,few⟩:=T3.tiles gw.2;exact⟨_,rfl,q lp ts H3 T3.same nlp T3.lst T3.ats til few⟩
def lsL(us:List (Addr×Rc)):List (Addr×List Int):=us.map λ t=>(t.1,t.2.ls)
theorem Lm(us:List (Addr×Rc)):(lsL us).map (λ t=>V.ref t.1)=Ao us:=by unfold lsL;rw[be];rfl
theorem sr0{us:List (Addr×Rc)}(h:us.length<=52):(lsL us).length<64:=by unfold lsL;rw[aa];lia
theorem sr1{H:Hp}{acc:Addr}{us:List (Addr×Rc)}(hl:SqL K H acc (Ao us)):SqL K H acc ((lsL us).map λ t=>V.ref t.1):=by rw[Lm];exact hl
theorem sr2{H:Hp}{us:List (Addr×Rc)}(ha:At H us):∀t∈lsL us,t.2.length=3+1/\H t.1=some (.tup (t.2.map V.int)):=λ z hz=>by
 obtain⟨t,ht,rfl⟩:=aw.mp hz;exact⟨rfl,ha t ht⟩
theorem sr3{us:List (Addr×Rc)}{w h:Int}(hin:∀p∈rcs us,p.In w h)(hw:w<=12)(hh:h<=12):∀t∈lsL us,∀u∈lsL us,HT.lexLt t.2 u.2=decide (key t.2<key u.2):=λ z hz y hy=>by
 obtain⟨t,ht,rfl⟩:=aw.mp hz;obtain⟨u,hu',rfl⟩:=aw.mp hy;exact PQ (hin _ (aw.mpr ⟨t,ht,rfl⟩)) (hin _ (aw.mpr ⟨u,hu',rfl⟩)) hw hh hw hh
theorem sr4{us:List (Addr×Rc)}{zs:List (Addr×List Int)}(hp:zs.Perm (lsL us))(hs:(zs.map λ t=>key t.2).Pairwise (·<=·)):∃us',us'.Perm us/\zs=lsL us'/\Srt (rcs us'):=by
 obtain⟨us',hp',rfl⟩:=G8 hp rfl;refine⟨us',hp',rfl,?_⟩;unfold Srt;rw[be]at hs |-;exact hs
theorem GU{w h:Int}{ls ld:Addr}:(Fk w h ls ld).lookup ("panes":Str)=none:=NF _ _ _ _ (by decide +kernel) (by decide +kernel) (by decide +kernel) (by decide +kernel)
theorem PD{f:Addr}{fd:FuncData}(F:Fun K "apart" "apart" Jy f fd):A5 P w K mg base CX0 1 f fd ["one","other"] K4:=by
 have S:An ["one","other","beside"] ["one","other"] (Ai Jy):=fsk;refine F.g S ?_;rintro vs H Q E ⟨a,b,p,q,rfl,ha,hb,k⟩;refine⟨rfl,λ cdv A outer s hr=>?_⟩;refine⟨_,(Ac (Ar (i:=2) S.nd rfl (av rfl) (I9 (AH B0 (Aj Ak (pv 0) Ad (λ_ _=>rfl)) (Aj Ak (pv 1) Ad (λ_ _=>rfl)) (Av _)) (Bg (AH B0 (Aj Ak (pv 1) Ad (λ_ _=>rfl)) (Aj Ak (pv 0) Ad (λ_ _=>rfl)) (Av _)))))
  (Ah (Ap (I9 (pv 2) (I9 (AH B0 (Aj Ak (pv 0) Ad (λ_ _=>rfl)) (Aj Ak (pv 1) Ad (λ_ _=>rfl)) (Av _)) (Bg (AH B0 (Aj Ak (pv 1) Ad (λ_ _=>rfl)) (Aj Ak (pv 0) Ad (λ_ _=>rfl)) (Av _)))))))),?_⟩
 have key:Q (.bl (decide (p.r<=q.l)||decide (q.r<=p.l)||(decide (p.b<=q.t)||decide (q.b<=p.t)))) H:=k;refine⟨_,rfl,a,_,_,_,rfl,rfl,SqT.of ha,at3,_,rfl,b,_,_,_,rfl,rfl,SqT.of hb,at1,_,_,rfl,rfl,_,rfl,AF (λ h1=>?_) (λ h1=>?_)⟩
 .refine⟨_,rfl,_,rfl,PU ?_⟩;show Q (.bl true) H;rw[h1]at key;exact key
 .refine⟨_,rfl,b,_,_,_,rfl,rfl,SqT.of hb,at3,_,rfl,a,_,_,_,rfl,rfl,SqT.of ha,at1,_,_,rfl,rfl,?_⟩;refine⟨_,rfl,_,rfl,AF (λ h2=>?_) (λ h2=>?_)⟩
  .show Q (.bl true) H;rw[h1,h2]at key;exact key
  .refine⟨_,rfl,a,_,_,_,rfl,rfl,SqT.of ha,at2,_,rfl,b,_,_,_,rfl,rfl,SqT.of hb,at0,_,_,rfl,rfl,_,rfl,AF (λ h3=>?_) (λ h3=>?_)⟩
   .show Q (.bl true) H;rw[h1,h2,h3]at key;exact key
   .refine⟨_,rfl,b,_,_,_,rfl,rfl,SqT.of hb,at2,_,rfl,a,_,_,_,rfl,rfl,SqT.of ha,at0,_,_,rfl,rfl,?_⟩;rw[h1,h2,h3]at key;exact key
theorem KW{f:Addr}{fd:FuncData}(F:Fun K "is_block" "is_block" EA f fd)(T:Txt mg tk)(PC:OQ K C)(D_is_rectangle:A2 P w K mg base 2 "is_rectangle" ["thing"] Jt)(D_inside:A2 P w K mg base 1 "inside" ["one","other"] Dm)(D_apart:A2 P w K mg base 1 "apart" ["one","other"] K4)
  (M_Panel_panes:LL P w K mg base 1 C "panes" ["self"] (EV C)):A5 P w K mg base CX0 3 f fd ["panel","block"] (K3 C):=by
 have S:An ["panel","block"] ["panel","block"] (Ai EA):=fsk;refine F.g S ?_;rintro vs H Q E ⟨a,dx,ls,ld,ww,hh,ts,kvs,v,g,rfl,pn,tg,k⟩;refine⟨rfl,λ cdv A outer s hr=>?_⟩;refine⟨_,(Ac (A7 (PW.pt (BL (AW (AI (Aw D_is_rectangle hr (Aa (pv 1) Ab)))) (BC (AW (AI (Aw D_inside hr (Aa (pv 1) (Aa (A3 (Aa Ad (Aa Ad (Aa (BZ (pv 0) rfl) (Aa (BZ (pv 0) rfl) Ab))))) Ab)))))))) (Ah (Ap Bq)) Az)
  (Ah (Ap (A0 Dt rfl T.z_all rfl (Aa (BO rfl (AC (Mu M_Panel_panes hr (pv 0))) (λ_ _ _ _ _=>pgk (nk ["pane","block"])) (λ_ _ _ _ _=>(I9 (Aw D_inside hr (Aa (pv 0) (Aa (pv 1) Ab))) (Bg (Aw D_apart hr (Aa (pv 0) (Aa (pv 1) Ab)))))) (N:=["pane","block"]) (fr:=[none,some 1])) Ab))))),?_⟩
 cases g with
 |none =>
  refine⟨_,rfl,_,rfl,?_⟩;rcases tg with ⟨b,xs,rfl,hb,hz,ht,hrc⟩|⟨T',hT,hne⟩
  .exact .inl ⟨b,xs,rfl,hb,hz,ht,λ H' s1=>⟨_,rfl,Bt (by rw[hrc];rfl) (k H' s1)⟩⟩
  .exact .inr ⟨T',hT,hne,_,rfl,Bt rfl (k H (Same.refl H))⟩
 |some q =>
  obtain⟨b,rfl,hb⟩:=tg;have k:∀H',Same H H'->Q (.bl (Nl q&&AA q ⟨0,0,hh,ww⟩&&okA (rcs ts) q)) H':=k;refine⟨_,rfl,_,rfl,.inl ⟨b,_,rfl,hb,(by show(4:Nat)<=100;decide),NC,λ H1 s1=>⟨_,rfl,?_⟩⟩⟩;cases h1:Nl q with
  |false =>
   have h1':Ew (AK q.t q.l q.b q.r)=false:=h1;rw[h1]at k;exact Bt (by rw[h1'];rfl) (k H1 s1)
  |true =>
   have h1':Ew (AK q.t q.l q.b q.r)=true:=h1;rw[h1]at k;refine AG (by rw[h1'];rfl) ?_;have pn1:=pn.same s1;refine⟨_,rfl,_,rfl,a,C,dx,_,_,rfl,pn1.ob,PC.cl,PC.n_height,Qi _ _ _ _,_,rfl,a,C,dx,_,_,rfl,pn1.ob,PC.cl,PC.n_width,Qh _ _ _ _,Ay 4,λ t ht=>?_⟩;refine nv ht λ H2 sz et=>?_;have s2:=s1.trans sz;have hb2:=s2 _ _ hb;have pn2:=pn.same s2;refine⟨b,t,_,_,_,_,_,_,_,_,rfl,hb2,et,_,rfl,?_⟩;cases h2:AA q ⟨0,0,hh,ww⟩ with
   |false =>
    rw[h2]at k;have h2':Fi q.t q.l q.b q.r 0 0 hh ww=false:=h2;exact Bt (by rw[h2'];rfl) (k H2 s2)
   |true =>
    rw[h2]at k;have h2':Fi q.t q.l q.b q.r 0 0 hh ww=true:=h2;refine AG (by rw[h2'];rfl) ?_;refine⟨_,rfl,a,dx,_,rfl,pn2.ob,GU,a,dx,ls,ld,ww,hh,ts,kvs,rfl,pn2,λ l hl=>?_⟩;refine nv hl λ H3 sz el=>?_;have s3:=s2.trans sz;have hb3:=s3 _ _ hb;refine⟨l,rfl,⟨_,SqL.of el⟩,λ acc hacc=>B6 (K:=K) (a:=l) (ys:=Ao ts) (λ i xs σ H'=>(∃y,σ=[y,some (.ref b)])/\Same H3 H'/\xs=((rcs ts).take i).map λ p=>V.bl (AA p q||apR p q)) ⟨⟨none,rfl⟩,Same.new hacc,rfl⟩ (λ i xs σ H' _ _ hp=>SqL.of (hp.2.1 _ _ el)) ?_ ?_⟩
    .rintro i x xs σ H' hx hi hl' hacc' ⟨⟨y,rfl⟩,s4,rfl⟩;obtain⟨u,hu',rfl⟩:=AU hx;have hua:=(s3.trans s4) _ _ (pn.ats u (ao hu'));have hb4:=s4 _ _ hb3;have er:(rcs ts)[i]?=some u.2:=by rw[aB,hu'];rfl
     have nx:cNx acc (Ao ts).length (λ i xs σ H'=>(∃y,σ=[y,some (.ref b)])/\Same H3 H'/\xs=((rcs ts).take i).map λ p=>V.bl (AA p q||apR p q)) i [some (.ref u.1),some (.ref b)] (V.bl (AA u.2 q||apR u.2 q)) H':=by
      refine cNx.mk (aF (Am (by rw[aa];have:=pn.few;lia))) hi hl' hacc' ⟨⟨_,rfl⟩,λ c o e=>?_,?_⟩
      .rw[Ag (Ae e hacc)];exact s4 c o e
      .rw[aV,er,aj];rfl
     refine⟨_,rfl,_,rfl,u.1,b,_,_,_,_,_,_,_,_,rfl,hua,hb4,_,rfl,AF (λ h3=>?_) (λ h3=>?_)⟩
     .have h3':AA u.2 q=true:=h3;rw[h3']at nx;exact nx
     .have h3':AA u.2 q=false:=h3;rw[h3']at nx;exact⟨_,rfl,_,rfl,u.1,b,u.2,q,rfl,hua,hb4,nx⟩
    .rintro xs σ H' hl' hacc' ⟨_,s4,rfl⟩;have e:(Ao ts).length=(rcs ts).length:=by rw[aa,aa]
     rw[e,aN]at hacc';have e2:List.map V.bl ((rcs ts).map λ p=>AA p q||apR p q)=(rcs ts).map λ p=>V.bl (AA p q||apR p q):=by rw[be (l:=rcs ts)];rfl
     refine⟨acc,(rcs ts).map λ p=>AA p q||apR p q,rfl,SqL.of (by rw[hacc',e2]),rfl,?_⟩;have:=k H' (s3.trans s4);rw[d9,d9]at this;show Q (.bl (((rcs ts).map λ p=>AA p q||apR p q).all id)) H';rw[eI];exact this
theorem Hn{α:Type}(f:α->Bool){xs:List α}{i:Nat}{x:α}(h:xs[i]?=some x):(xs.take (i+1)).filter f=(xs.take i).filter f++(if f x then [x] else []):=by
 rw[aV,h,cH];cases e:f x with
 |true=>simp[e]
 |false=>simp[e]
theorem MD{xs:LUz}{i:Int}(h0:0<=i)(h1:i<xs.length):Fl xs none (some i)=xs.take i.toNat:=by
 unfold Fl HT.sIx;simp only[];rw[if_neg (by lia),Nat.min_eq_left (by lia)];simp
theorem ME{xs:LUz}{i:Int}(h0:0<=i)(h1:i<xs.length):Fl xs (some (i+1)) none=xs.drop (i.toNat+1):=by
 unfold Fl HT.sIx;simp only[];rw[if_neg (by lia),show(i+1).toNat=i.toNat+1 by lia,Nat.min_eq_left (by lia)];exact eD (by rw[bp];exact ah _)
theorem LH(ts:List (Addr×Rc))(n:Nat)(t1 t2:Addr)(p1 p2:Rc):(Ao ts).take n++[V.ref t1,V.ref t2]++(Ao ts).drop (n+1)=Ao (ts.take n++(t1,p1)::(t2,p2)::ts.drop (n+1)):=by
 unfold Ao;rw[aj,aS,aS,d0,d7];simp
theorem Q6{H H':Hp}{ts:List (Addr×Rc)}{n:Nat}{t1 t2:Addr}{p1 p2:Rc}(a:At H ts)(s:Same H H')(h1:H' t1=some (.tup (AK p1.t p1.l p1.b p1.r)))(h2:H' t2=some (.tup (AK p2.t p2.l p2.b p2.r))):At H' (ts.take n++(t1,p1)::(t2,p2)::ts.drop (n+1)):=λ t ht=>by
 rcases ai.mp ht with h|h
 .exact s _ _ (a t (dh h))
 .rcases aO.mp h with rfl|h
  .exact h1
  .rcases aO.mp h with rfl|h
   .exact h2
   .exact s _ _ (a t (di h))
structure Q8(p p1 p2:Rc):Prop where
 o1:p1.t<p1.b/\p1.l<p1.r
 o2:p2.t<p2.b/\p2.l<p2.r
 has:∀r c,p.has r c↔p1.has r c\/p2.has r c
 ap:Apart p1 p2
 i1:p.t<=p1.t/\p1.b<=p.b/\p.l<=p1.l/\p1.r<=p.r
 i2:p.t<=p2.t/\p2.b<=p.b/\p.l<=p2.l/\p2.r<=p.r
theorem QQ{t l b r m:Int}(h:t<b)(h1:l<m)(h2:m<r):Q8 ⟨t,l,b,r⟩ ⟨t,l,b,m⟩ ⟨t,m,b,r⟩ :=
 ⟨⟨h,h1⟩,⟨h,h2⟩,λ x y=>by unfold Rc.has;simp only[];lia,λ x y a b=>by unfold Rc.has at a b;simp only[]at a b;lia,by simp only[];lia,by simp only[];lia⟩
theorem QR{t l b r m:Int}(h:l<r)(h1:t<m)(h2:m<b):Q8 ⟨t,l,b,r⟩ ⟨t,l,m,r⟩ ⟨m,l,b,r⟩ :=
 ⟨⟨h1,h⟩,⟨h2,h⟩,λ x y=>by unfold Rc.has;simp only[];lia,λ x y a b=>by unfold Rc.has at a b;simp only[]at a b;lia,by simp only[];lia,by simp only[];lia⟩
theorem MW{w h:Int}{ts:List (Addr×Rc)}{n:Nat}{u:Addr×Rc}{t1 t2:Addr}{p1 p2:Rc}(T:Tiles w h (rcs ts))(hu:ts[n]?=some u)(sp:Q8 u.2 p1 p2):Tiles w h (rcs (ts.take n++(t1,p1)::(t2,p2)::ts.drop (n+1))):=by
 obtain⟨hn,eu⟩:=aH.mp hu;have e0:ts=ts.take n++u::ts.drop (n+1):=by rw[<-eu,<-cN hn,cw]
 generalize ts.take n=As at e0;generalize ts.drop (n+1)=Bs at e0;subst e0;have e1:rcs (As++u::Bs)=rcs As++u.2::rcs Bs:=by simp
 have e2:rcs (As++(t1,p1)::(t2,p2)::Bs)=rcs As++p1::p2::rcs Bs:=by simp
 rw[e1]at T;rw[e2];generalize rcs As=A at T;generalize rcs Bs=B at T;have hin:=T.ins u.2 (by simp);obtain⟨a1,a2,a3,a4,a5,a6⟩:=hin;have i1:=sp.i1;have i2:=sp.i2;have o1:=sp.o1;have o2:=sp.o2;have in1:p1.In w h:=⟨by lia,o1.1,by lia,by lia,o1.2,by lia⟩;have in2:p2.In w h:=⟨by lia,o2.1,by lia,by lia,o2.2,by lia⟩;have d:=T.dis;rw[bn]at d;obtain⟨dA,dB,dAB⟩:=d;rw[bL]at dB;obtain⟨duB,dB⟩:=dB;have x1:∀q,Apart u.2 q->Apart p1 q:=λ q a r c b e=>a r c ((sp.has r c).mpr (.inl b)) e;have x2:∀q,Apart u.2 q->Apart p2 q:=λ q a r c b e=>a r c ((sp.has r c).mpr (.inr b)) e;refine⟨λ p hp=>?_,?_,λ r c b1 b2 b3 b4=>?_⟩
 .rcases ai.mp hp with h|h
  .exact T.ins p (by simp[h])
  .rcases aO.mp h with rfl|h
   .exact in1
   .rcases aO.mp h with rfl|h
    .exact in2
    .exact T.ins p (by simp[h])
 .rw[bn,bL,bL];refine⟨dA,⟨λ q hq=>?_,λ q hq=>x2 q (duB q hq),dB⟩,λ p hp q hq=>?_⟩
  .rcases aO.mp hq with rfl|hq
   .exact sp.ap
   .exact x1 q (duB q hq)
  .have hu:=dAB p hp u.2 (by simp);rcases aO.mp hq with rfl|hq
   .exact(x1 p hu.symm).symm
   .rcases aO.mp hq with rfl|hq
    .exact(x2 p hu.symm).symm
    .exact dAB p hp q (by simp[hq])
 .obtain⟨p,hp,hh⟩:=T.cov r c b1 b2 b3 b4;rcases ai.mp hp with h|h
  .exact⟨p,by simp[h],hh⟩
  .rcases aO.mp h with rfl|h
   .rcases(sp.has r c).mp hh with h|h
    .exact⟨p1,by simp,h⟩
    .exact⟨p2,by simp,h⟩
   .exact⟨p,by simp[h],hh⟩
theorem SameX.of{x:Addr}{H H':Hp}(s:Same H H'):SameX x H H':=λ b o _ e=>s b o e
theorem SameX.drop{x:Addr}{H0 H H':Hp}(s:Same H0 H)(n:H0 x=none)(t:SameX x H H'):Same H0 H':=λ b o e=>t b o (Ae e n) (s b o e)
theorem DZ{H:Hp}{p l:Addr}{z:Int}{ts:List (Addr×Rc)}(hp:H p=some (.lst [.int z]))(hl:H l=some (.lst (Ao ts))):l≠p:=λ e=>by
 rw[e,hp]at hl;injection hl with hl;injection hl with hl;cases ts with
 |nil=>cases hl
 |cons u r=>injection hl with h1 _;cases h1
theorem At.sx{H H':Hp}{p:Addr}{z:Int}{ts:List (Addr×Rc)}(a:At H ts)(hp:H p=some (.lst [.int z]))(s:SameX p H H'):At H' ts:=λ t h=>s _ _ (AL (a t h) hp (by intro z;cases z)) (a t h)
theorem CG{i j:Int}{H:Hp}{Q:VK}(h:Q (.int (i+j)) H):rI0 (λ i j=>V.int (i+j)) (.int i) (.int j) H Q:=⟨i,j,rfl,rfl,h⟩
def Qb:Stmt->List Stmt
 |.If _ a _ _=>a
 |_=>[]
def Qc:Stmt->List Stmt
 |.If _ _ b _=>b
 |_=>[]
abbrev Kr:LSz:=["_law_script","_law_k","_law_width","_law_height","_law_many","_law_panes","_law_k_more","_law_purse_here","_law_at","_law_top","_law_left","_law_bottom","_law_right","_law_line"]
theorem HS{f:Addr}{fd:FuncData}(F:Fun K "_law_cut_up" "_law_cut_up" Bf f fd)(T:Txt mg tk)(D__law_purse:A2 P w K mg base 1 "_law_purse" ["_law_script","_law_k"] (EU K))(D__law_take:A2 P w K mg base 1 "_law_take" ["_law_purse_here","_law_many"] ET):A5 P w K mg base CX0 2 f fd ["_law_script","_law_k","_law_width","_law_height","_law_many"] (K2 K):=by
 have S:An Kr ["_law_script","_law_k","_law_width","_law_height","_law_many"] (Ai Bf):=fsk;refine F.g S ?_;rintro vs H Q E ⟨a,ns,k,ww,hh,m,rfl,hS,k0,k1,gw,gh,m0,m1,q⟩;refine⟨rfl,λ cdv A outer s hr=>?_⟩;obtain⟨tu,hup,fin_u⟩:∃rd,PSs (BA CX0 P w K mg base Kr "_law_cut_up" (Ai Bf) f cdv A outer s H E).nox (Qb (nth (DH (nth (A8 Bf) 1)) 3)) rd /\
   ∀(D:Cd)(lp p:Addr)(ts:List (Addr×Rc))(u:Addr×Rc)(at' z:Int)(x6 x13:Option V)(H3:Hp),H3 p=some (.lst [.int z])->H3 lp=some (.lst (Ao ts))->At H3 ts->Tiles ww hh (rcs ts)->ts.length<=51->0<=at'->at'<(Ao ts).length->ts[at'.toNat]?=some u->u.2.r-u.2.l>1 ->
    (∀(lp':Addr)(ts':List (Addr×Rc))(ln:Int)(H5:Hp),SameX p H3 H5->H5 lp'=some (.lst (Ao ts'))->At H5 ts'->Tiles ww hh (rcs ts')->ts'.length<=ts.length+1->D.nx [some (.ref a),some (.int k),some (.int ww),some (.int hh),some (.int m),some (.ref lp'),x6,some (.ref p),some (.int at'),some (.int u.2.t),some (.int u.2.l),some (.int u.2.b),some (.int u.2.r),some (.int ln)] H5) ->
    rd D [some (.ref a),some (.int k),some (.int ww),some (.int hh),some (.int m),some (.ref lp),x6,some (.ref p),some (.int at'),some (.int u.2.t),some (.int u.2.l),some (.int u.2.b),some (.int u.2.r),x13] H3:=by
  refine⟨_,(Ac (Ar (i:=13) S.nd rfl (av rfl) (Aq A4 (Aq A4 (pv 10) Ad) (Aw D__law_take hr (Aa (pv 7) (Aa (Aq AB (Aq AB (pv 12) (pv 10)) Ad) Ab)))))
  (Ah (Ar (i:=5) S.nd rfl (av rfl) (Aq Cq (Aq Cq (BN Du (pv 5) CI (Ce (pv 8))) (AJ (Aa (A3 (Aa (pv 9) (Aa (pv 10) (Aa (pv 11) (Aa (pv 13) Ab))))) (Aa (A3 (Aa (pv 9) (Aa (pv 13) (Aa (pv 11) (Aa (pv 12) Ab))))) Ab)))) (BN Du (pv 5) (Ce (Aq A4 (pv 8) Ad)) CI))))),?_⟩
  intro D lp p ts u at' z x6 x13 H3 ep hl hat til few at0' at1' hu' hc nx;obtain⟨b1,b2,b3,b4,b5,b6⟩:=til.ins u.2 (aw.mpr ⟨u,ao hu',rfl⟩);have fl:ts.length=(Ao ts).length:=(aa _).symm;refine⟨_,rfl,_,_,rfl,rfl,_,rfl,_,rfl,_,rfl,_,_,rfl,rfl,_,_,rfl,rfl,p,z,u.2.r-u.2.l-1,rfl,ep,by lia,by lia,λ ln z' r0 r1=>?_⟩;have sx1:SameX p H3 (upd H3 p (.lst [.int z'])):=SameX.upd;have hl4:=sx1 _ _ (DZ ep hl) hl;have hat4:=hat.sx ep sx1;generalize upd H3 p (.lst [.int z'])=H4 at sx1 hl4 hat4 |-;have r2:u.2.l<u.2.l+1+ln:=by lia
  have r3:u.2.l+1+ln<u.2.r:=by lia
  refine CG (i:=u.2.l+1) (j:=ln) ?_;generalize u.2.l+1+ln=mid at r2 r3 |-;refine⟨_,rfl,_,rfl,_,rfl,lp,_,rfl,SqL.of hl4,λ c1 n1=>?_⟩;rw[MD at0' at1'];refine nv n1 λ H5 sa ea=>?_;refine⟨_,rfl,_,rfl,_,rfl,_,rfl,Ay 4,λ t1 m1=>?_⟩;refine nv m1 λ H6 sb eb=>?_;refine⟨_,rfl,_,rfl,_,rfl,_,rfl,Ay 4,λ t2 m2=>?_⟩;refine nv m2 λ H7 sc ec=>?_;refine⟨Ay 2,λ l2 m3=>?_⟩;refine nv m3 λ H8 sd ed=>?_;refine⟨c1,l2,_,_,rfl,rfl,(sb.trans (sc.trans sd)) _ _ ea,ed,aF (Am (by rw[aY];show _+2<=_;lia)),λ c2 m4=>?_⟩;refine nv m4 λ H9 se ee=>?_;have s49:=sa.trans (sb.trans (sc.trans (sd.trans se)));refine⟨_,rfl,_,rfl,_,_,rfl,rfl,_,rfl,lp,_,rfl,SqL.of (s49 _ _ hl4),λ c3 m5=>?_⟩;rw[ME at0' at1'];refine nv m5 λ HA sf ef=>?_;refine⟨c2,c3,_,_,rfl,rfl,sf _ _ ee,ef,aF (Am (by rw[af,aY,bp];show _+2+_<=_;lia)),λ c4 m6=>?_⟩;have sg:=Same.new (o:=.lst ((Ao ts).take at'.toNat++[.ref t1,.ref t2]++(Ao ts).drop (at'.toNat+1))) m6;have s4B:=s49.trans (sf.trans sg);have sbB:=sc.trans (sd.trans (se.trans (sf.trans sg)));have scB:=sd.trans (se.trans (sf.trans sg));refine nx c4 (ts.take at'.toNat++(t1,⟨u.2.t,u.2.l,u.2.b,mid⟩)::(t2,⟨u.2.t,mid,u.2.b,u.2.r⟩)::ts.drop (at'.toNat+1)) mid _ (sx1.trans (SameX.of s4B)) (by rw[Af,LH ts at'.toNat t1 t2 ⟨u.2.t,u.2.l,u.2.b,mid⟩ ⟨u.2.t,mid,u.2.b,u.2.r⟩]) (Q6 hat4 s4B (sbB _ _ eb) (scB _ _ ec)) (MW til hu' (QQ b2 r2 r3)) ?_;rw[af,aI,aI,aY,bp];lia
 obtain⟨tv,hlv,fin_v⟩:∃rd,PSs (BA CX0 P w K mg base Kr "_law_cut_up" (Ai Bf) f cdv A outer s H E).nox (Qb (nth (Qc (nth (DH (nth (A8 Bf) 1)) 3)) 0)) rd /\
   ∀(D:Cd)(lp p:Addr)(ts:List (Addr×Rc))(u:Addr×Rc)(at' z:Int)(x6 x13:Option V)(H3:Hp),H3 p=some (.lst [.int z])->H3 lp=some (.lst (Ao ts))->At H3 ts->Tiles ww hh (rcs ts)->ts.length<=51->0<=at'->at'<(Ao ts).length->ts[at'.toNat]?=some u->u.2.b-u.2.t>1 ->
    (∀(lp':Addr)(ts':List (Addr×Rc))(ln:Int)(H5:Hp),SameX p H3 H5->H5 lp'=some (.lst (Ao ts'))->At H5 ts'->Tiles ww hh (rcs ts')->ts'.length<=ts.length+1->D.nx [some (.ref a),some (.int k),some (.int ww),some (.int hh),some (.int m),some (.ref lp'),x6,some (.ref p),some (.int at'),some (.int u.2.t),some (.int u.2.l),some (.int u.2.b),some (.int u.2.r),some (.int ln)] H5) ->
    rd D [some (.ref a),some (.int k),some (.int ww),some (.int hh),some (.int m),some (.ref lp),x6,some (.ref p),some (.int at'),some (.int u.2.t),some (.int u.2.l),some (.int u.2.b),some (.int u.2.r),x13] H3:=by
  refine⟨_,(Ac (Ar (i:=13) S.nd rfl (av rfl) (Aq A4 (Aq A4 (pv 9) Ad) (Aw D__law_take hr (Aa (pv 7) (Aa (Aq AB (Aq AB (pv 11) (pv 9)) Ad) Ab)))))
  (Ah (Ar (i:=5) S.nd rfl (av rfl) (Aq Cq (Aq Cq (BN Du (pv 5) CI (Ce (pv 8))) (AJ (Aa (A3 (Aa (pv 9) (Aa (pv 10) (Aa (pv 13) (Aa (pv 12) Ab))))) (Aa (A3 (Aa (pv 13) (Aa (pv 10) (Aa (pv 11) (Aa (pv 12) Ab))))) Ab)))) (BN Du (pv 5) (Ce (Aq A4 (pv 8) Ad)) CI))))),?_⟩
  intro D lp p ts u at' z x6 x13 H3 ep hl hat til few at0' at1' hu' hc nx;obtain⟨b1,b2,b3,b4,b5,b6⟩:=til.ins u.2 (aw.mpr ⟨u,ao hu',rfl⟩);have fl:ts.length=(Ao ts).length:=(aa _).symm;refine⟨_,rfl,_,_,rfl,rfl,_,rfl,_,rfl,_,rfl,_,_,rfl,rfl,_,_,rfl,rfl,p,z,u.2.b-u.2.t-1,rfl,ep,by lia,by lia,λ ln z' r0 r1=>?_⟩;have sx1:SameX p H3 (upd H3 p (.lst [.int z'])):=SameX.upd;have hl4:=sx1 _ _ (DZ ep hl) hl;have hat4:=hat.sx ep sx1;generalize upd H3 p (.lst [.int z'])=H4 at sx1 hl4 hat4 |-;have r2:u.2.t<u.2.t+1+ln:=by lia
  have r3:u.2.t+1+ln<u.2.b:=by lia
  refine CG (i:=u.2.t+1) (j:=ln) ?_;generalize u.2.t+1+ln=mid at r2 r3 |-;refine⟨_,rfl,_,rfl,_,rfl,lp,_,rfl,SqL.of hl4,λ c1 n1=>?_⟩;rw[MD at0' at1'];refine nv n1 λ H5 sa ea=>?_;refine⟨_,rfl,_,rfl,_,rfl,_,rfl,Ay 4,λ t1 m1=>?_⟩;refine nv m1 λ H6 sb eb=>?_;refine⟨_,rfl,_,rfl,_,rfl,_,rfl,Ay 4,λ t2 m2=>?_⟩;refine nv m2 λ H7 sc ec=>?_;refine⟨Ay 2,λ l2 m3=>?_⟩;refine nv m3 λ H8 sd ed=>?_;refine⟨c1,l2,_,_,rfl,rfl,(sb.trans (sc.trans sd)) _ _ ea,ed,aF (Am (by rw[aY];show _+2<=_;lia)),λ c2 m4=>?_⟩;refine nv m4 λ H9 se ee=>?_;have s49:=sa.trans (sb.trans (sc.trans (sd.trans se)));refine⟨_,rfl,_,rfl,_,_,rfl,rfl,_,rfl,lp,_,rfl,SqL.of (s49 _ _ hl4),λ c3 m5=>?_⟩;rw[ME at0' at1'];refine nv m5 λ HA sf ef=>?_;refine⟨c2,c3,_,_,rfl,rfl,sf _ _ ee,ef,aF (Am (by rw[af,aY,bp];show _+2+_<=_;lia)),λ c4 m6=>?_⟩;have sg:=Same.new (o:=.lst ((Ao ts).take at'.toNat++[.ref t1,.ref t2]++(Ao ts).drop (at'.toNat+1))) m6;have s4B:=s49.trans (sf.trans sg);have sbB:=sc.trans (sd.trans (se.trans (sf.trans sg)));have scB:=sd.trans (se.trans (sf.trans sg));refine nx c4 (ts.take at'.toNat++(t1,⟨u.2.t,u.2.l,mid,u.2.r⟩)::(t2,⟨mid,u.2.l,u.2.b,u.2.r⟩)::ts.drop (at'.toNat+1)) mid _ (sx1.trans (SameX.of s4B)) (by rw[Af,LH ts at'.toNat t1 t2 ⟨u.2.t,u.2.l,mid,u.2.r⟩ ⟨mid,u.2.l,u.2.b,u.2.r⟩]) (Q6 hat4 s4B (sbB _ _ eb) (scB _ _ ec)) (MW til hu' (QR b5 r2 r3)) ?_;rw[af,aI,aI,aY,bp];lia
 refine⟨_,(Ac (Ar (i:=5) S.nd rfl (av rfl) (AJ (Aa (A3 (Aa Ad (Aa Ad (Aa (pv 3) (Aa (pv 2) Ab))))) Ab)))
  (Ac (AN PassesOwn.never rfl (BG rfl T.z_range (Aa (pv 4) Ab)) (Al (i:=6) S.nd rfl (av rfl)) (Ac (Ar (i:=7) S.nd rfl (av rfl) (Aw D__law_purse hr (Aa (pv 0) (Aa (Aq A4 (pv 1) (pv 6)) Ab))))
  (Ac (Ar (i:=8) S.nd rfl (av rfl) (Aw D__law_take hr (Aa (pv 7) (Aa (A0 A6 rfl T.z_len rfl (Aa (pv 5) Ab)) Ab))))
  (Ac (Di (Aj AX (pv 5) (pv 8) (λ_ _=>rfl)) (Bz rfl (Au (Al (i:=9) S.nd rfl (av rfl)) (Au (Al (i:=10) S.nd rfl (av rfl)) (Au (Al (i:=11) S.nd rfl (av rfl)) (Au (Al (i:=12) S.nd rfl (av rfl)) AZ))))))
  (Ah (A7 (PW.pt (Cp (Ax KO (Aq AB (pv 12) (pv 10)) Ad (Av _)) (DC (PW.pt (BL (Ax AR (Aq AB (pv 11) (pv 9)) Ad (Av _)) (BC (Ax BU (Aw D__law_take hr (Aa (pv 7) (Aa Ad Ab))) Ad (Av _)))))))) hup (Ah (A7 (Ax KO (Aq AB (pv 11) (pv 9)) Ad (Av _)) hlv Az))))))))
  (Ah (Ap (pv 5))))),?_⟩
 refine⟨_,rfl,_,rfl,Ay 4,λ t0 ht0=>⟨Ay 1,λ l0 hl0=>?_⟩⟩;have sA:=Same.new (o:=.tup (AK 0 0 hh ww)) ht0;have eA:(upd H t0 (.tup (AK 0 0 hh ww))) t0=some (.tup (AK 0 0 hh ww)):=Af;generalize upd H t0 (.tup (AK 0 0 hh ww))=H1 at sA eA hl0 |-;refine nv hl0 λ H2 sB eB=>?_;refine⟨_,rfl,m,rfl,by lia,by lia,Ba (lo:=0) (n:=m.toNat) (λ i σ H'=>∃(lp:Addr)(ts:List (Addr×Rc))(x6 x7 x8 x9 x10 x11 x12 x13:Option V),σ=[some (.ref a),some (.int k),some (.int ww),some (.int hh),some (.int m),some (.ref lp),x6,x7,x8,x9,x10,x11,x12,x13]/\Same H H'/\H' lp=some (.lst (Ao ts))/\At H' ts/\Tiles ww hh (rcs ts)/\ts.length<=i+1)
  ⟨l0,[(t0,⟨0,0,hh,ww⟩)],_,_,_,_,_,_,_,_,rfl,sA.trans sB,eB,λ t ht=>by rw[ad.mp ht];exact sB _ _ eA,⟨λ p hp=>by rw[ad.mp hp];exact⟨by simp only[];lia,by simp only[];lia,by simp only[];lia,by simp only[];lia,by simp only[];lia,by simp only[];lia⟩,cm _ _,λ r c b1 b2 b3 b4=>⟨_,ad.mpr rfl,b1,b2,b3,b4⟩⟩,ah _⟩ ?_ ?_⟩
 .rintro i σ H' hi ⟨lp,ts,x6,x7,x8,x9,x10,x11,x12,x13,rfl,s1,hl,hat,til,few⟩;have ne0:0<ts.length:=by
   obtain⟨p,hp,_⟩:=til.cov 0 0 (by lia) (by lia) (by lia) (by lia);obtain⟨u,hu,_⟩:=aw.mp hp;exact eE hu
  refine⟨_,rfl,_,rfl,_,rfl,_,_,rfl,rfl,a,ns,k+(0+(i:Int)),rfl,s1.seq hS,by lia,by lia,λ p z hp=>?_⟩;refine nv hp λ H2' sp ep=>?_;refine⟨_,rfl,_,rfl,lp,_,rfl,.inl (SqL.of (sp _ _ hl)),p,z,_,rfl,ep,by rw[aa];lia,by rw[aa];lia,λ at' z' at0' at1'=>?_⟩;have sx1:SameX p H2' (upd H2' p (.lst [.int z'])):=SameX.upd;have ep3:(upd H2' p (.lst [.int z'])) p=some (.lst [.int z']):=Af;have hl3:=sx1 _ _ (DZ ep (sp _ _ hl)) (sp _ _ hl);have hat3:=(hat.same sp).sx ep sx1;have s13:Same H' (upd H2' p (.lst [.int z'])):=SameX.drop sp hp sx1;generalize upd H2' p (.lst [.int z'])=H3 at sx1 ep3 hl3 hat3 s13 |-;have at2':at'.toNat<ts.length:=by rw[aa]at at1';lia
  obtain⟨u,hu'⟩:∃u,ts[at'.toNat]?=some u:=⟨_,aq at2'⟩;have hua:=hat3 u (ao hu');have gu:atI (Ao ts) at'=some (.ref u.1):=by
   have e:=CO (xs:=Ao ts) (j:=at'.toNat) (v:=.ref u.1) (by rw[aB,hu'];rfl);rwa [cb at0']at e
  obtain⟨b1,b2,b3,b4,b5,b6⟩:=til.ins u.2 (aw.mpr ⟨u,ao hu',rfl⟩);refine⟨_,rfl,_,rfl,lp,_,_,_,rfl,rfl,SqL.of hl3,gu,u.1,_,rfl,SqT.of hua,rfl,_,_,rfl,_,_,rfl,_,_,rfl,_,_,rfl,rfl,?_⟩;have few51:ts.length<=51:=by lia
  refine⟨_,rfl,_,rfl,_,_,rfl,rfl,_,_,rfl,rfl,_,rfl,AF (λ c1=>?_) (λ c1=>?_)⟩
  .have c1:=of_decide_eq_true c1;refine⟨_,rfl,_,rfl,_,_,rfl,rfl,_,_,rfl,rfl,_,rfl,AF (λ c2=>?_) (λ c2=>?_)⟩
   .exact fin_u _ lp p ts u at' z' _ _ H3 ep3 hl3 hat3 til few51 at0' at1' hu' c1 λ lp' ts' ln H5 sx d1 d2 d3 d4=>⟨lp',ts',_,_,_,_,_,_,_,_,rfl,s1.trans (SameX.drop s13 hp sx),d1,d2,d3,by lia⟩
   .refine⟨_,rfl,p,z',2,rfl,ep3,by decide,by decide,λ r z2 r0 r1=>?_⟩;have sx2:SameX p H3 (upd H3 p (.lst [.int z2])):=SameX.upd;have hl4:=sx2 _ _ (DZ ep3 hl3) hl3;have hat4:=hat3.sx ep3 sx2;have ep4:(upd H3 p (.lst [.int z2])) p=some (.lst [.int z2]):=Af;generalize upd H3 p (.lst [.int z2])=H4 at sx2 hl4 hat4 ep4 |-;refine⟨rfl,_,rfl,AF (λ c3=>?_) (λ c3=>?_)⟩
    .exact fin_u _ lp p ts u at' z2 _ _ H4 ep4 hl4 hat4 til few51 at0' at1' hu' c1 λ lp' ts' ln H5 sx d1 d2 d3 d4=>⟨lp',ts',_,_,_,_,_,_,_,_,rfl,s1.trans (SameX.drop s13 hp (sx2.trans sx)),d1,d2,d3,by lia⟩
    .refine⟨_,rfl,_,rfl,_,_,rfl,rfl,_,_,rfl,rfl,_,rfl,AF (λ c4=>?_) (λ c4=>?_)⟩
     .exact fin_v _ lp p ts u at' z2 _ _ H4 ep4 hl4 hat4 til few51 at0' at1' hu' (of_decide_eq_true c4) λ lp' ts' ln H5 sx d1 d2 d3 d4=>⟨lp',ts',_,_,_,_,_,_,_,_,rfl,s1.trans (SameX.drop s13 hp (sx2.trans sx)),d1,d2,d3,by lia⟩
     .exact⟨lp,ts,_,_,_,_,_,_,_,_,rfl,s1.trans (SameX.drop s13 hp sx2),hl4,hat4,til,by lia⟩
  .refine⟨_,rfl,_,rfl,_,_,rfl,rfl,_,_,rfl,rfl,_,rfl,AF (λ c4=>?_) (λ c4=>?_)⟩
   .exact fin_v _ lp p ts u at' z' _ _ H3 ep3 hl3 hat3 til few51 at0' at1' hu' (of_decide_eq_true c4) λ lp' ts' ln H5 sx d1 d2 d3 d4=>⟨lp',ts',_,_,_,_,_,_,_,_,rfl,s1.trans (SameX.drop s13 hp sx),d1,d2,d3,by lia⟩
   .exact⟨lp,ts,_,_,_,_,_,_,_,_,rfl,s1.trans s13,hl3,hat3,til,by lia⟩
 .rintro σ H' ⟨lp,ts,x6,x7,x8,x9,x10,x11,x12,x13,rfl,s1,hl,hat,til,few⟩;exact⟨_,rfl,q lp ts H' s1 hl hat til (by lia)⟩
theorem NU{p q:Rc}(h:p.b<=q.t\/q.b<=p.t\/p.r<=q.l\/q.r<=p.l):apR p q=true:=by
 unfold apR;simp only[bO,decide_eq_true_eq];lia
theorem U0{p q:Rc}(h1:q.t<p.b)(h2:p.t<q.b)(h3:q.l<p.r)(h4:p.l<q.r):apR p q=false:=by
 unfold apR;simp only[Bool.or_eq_false_iff,decide_eq_false_iff_not];lia
theorem SS{p q:Rc}(h1:q.t<=p.t)(h2:p.b<=q.b)(h3:q.l<=p.l)(h4:p.r<=q.r):AA p q=true:=by
 unfold AA Fi;simp only[aK,decide_eq_true_eq];lia
theorem Kc{p q:Rc}(h:¬(q.t<=p.t/\p.b<=q.b/\q.l<=p.l/\p.r<=q.r)):AA p q=false:=by
 cases e:AA p q with
 |false=>rfl
 |true =>
  unfold AA Fi at e;simp only[aK,decide_eq_true_eq]at e;exact absurd ⟨e.1.1,e.2.1,e.1.2,e.2.2⟩ h
theorem KZ{ps:List Rc}{p q:Rc}(h:okA ps q=true)(h1:(AA p q||apR p q)=true):okA (ps++[p]) q=true:=by
 unfold okA at h |-;rw[List.all_append,h]
 simpa using h1
theorem SH{ps:List Rc}{p q:Rc}(hp:p∈ps)(h1:AA p q=false)(h2:apR p q=false):okA ps q=false:=by
 cases e:okA ps q with
 |false=>rfl
 |true =>
  unfold okA at e;rw[bC]at e;have:=e p hp;rw[h1,h2]at this;cases this
abbrev QA:LSz:=["_law_panes","_law_block","_law_top","_law_left","_law_bottom","_law_right","_law_found","_law_one"]
theorem FY{f:Addr}{fd:FuncData}(F:Fun K "_law_panes_in" "_law_panes_in" Bp f fd)(T:Txt mg tk):A5 P w K mg base CX0 1 f fd ["_law_panes","_law_block"] (Ju K):=by
 have S:An QA ["_law_panes","_law_block"] (Ai Bp):=fsk;refine F.g S ?_;rintro vs H Q E ⟨l,b,ts,q,ww,hh,rfl,hl,hat,til,few,gw,gh,hb,k⟩;refine⟨rfl,λ cdv A outer s hr=>?_⟩;obtain⟨te,hel,fin_e⟩:∃rd,PSs (BA CX0 P w K mg base QA "_law_panes_in" (Ai Bp) f cdv A outer s H E).nox (Qc (nth (DH (nth (A8 Bp) 2)) 0)) rd /\
   ∀(D:Cd)(u:Addr×Rc)(x6:Option V)(H':Hp),H' u.1=some (.tup (AK u.2.t u.2.l u.2.b u.2.r))->(apR u.2 q=true->D.nx [some (.ref l),some (.ref b),some (.int q.t),some (.int q.l),some (.int q.b),some (.int q.r),x6,some (.ref u.1)] H')->(apR u.2 q=false->D.rt .non H') ->
    rd D [some (.ref l),some (.ref b),some (.int q.t),some (.int q.l),some (.int q.b),some (.int q.r),x6,some (.ref u.1)] H':=by
  refine⟨_,(Ah (A7 (PW.pt (Cp (Ax AR (pv 2) (Aj Ak (pv 7) Ad (λ_ _=>rfl)) (Av _)) (Cp (Ax AR (Aj Ak (pv 7) Ad (λ_ _=>rfl)) (pv 4) (Av _)) (Cp (Ax AR (pv 3) (Aj Ak (pv 7) Ad (λ_ _=>rfl)) (Av _)) (DC (Ax AR (Aj Ak (pv 7) Ad (λ_ _=>rfl)) (pv 5) (Av _))))))) (Ah (Ap BY)) Az)),?_⟩;intro D u x6 H' hua nx rt;refine⟨_,rfl,_,rfl,u.1,_,_,_,rfl,rfl,SqT.of hua,at2,_,_,rfl,rfl,_,rfl,AF (λ h1=>?_) (λ h1=>nx (NU (.inl (dZ.mp (of_decide_eq_false h1)))))⟩;refine⟨_,rfl,u.1,_,_,_,rfl,rfl,SqT.of hua,at0,_,rfl,_,_,rfl,rfl,_,rfl,AF (λ h2=>?_) (λ h2=>nx (NU (.inr (.inl (dZ.mp (of_decide_eq_false h2))))))⟩;refine⟨_,rfl,_,rfl,u.1,_,_,_,rfl,rfl,SqT.of hua,at3,_,_,rfl,rfl,_,rfl,AF (λ h3=>?_) (λ h3=>nx (NU (.inr (.inr (.inl (dZ.mp (of_decide_eq_false h3)))))))⟩;refine⟨_,rfl,u.1,_,_,_,rfl,rfl,SqT.of hua,at1,_,rfl,_,_,rfl,rfl,_,rfl,AF (λ h4=>?_) (λ h4=>nx (NU (.inr (.inr (.inr (dZ.mp (of_decide_eq_false h4)))))))⟩;exact rt (U0 (of_decide_eq_true h1) (of_decide_eq_true h2) (of_decide_eq_true h3) (of_decide_eq_true h4))
 refine⟨_,(Ac (Di (pv 1) (Bz rfl (Au (Al (i:=2) S.nd rfl (av rfl)) (Au (Al (i:=3) S.nd rfl (av rfl)) (Au (Al (i:=4) S.nd rfl (av rfl)) (Au (Al (i:=5) S.nd rfl (av rfl)) AZ))))))
  (Ac (Ar (i:=6) S.nd rfl (av rfl) (AJ Ab))
  (Ac (AN PassesOwn.never rfl (AC (A0 Fm rfl T.z_sorted rfl (Aa (pv 0) Ab))) (Al (i:=7) S.nd rfl (av rfl)) (Ah (A7 (PW.pt (Cp (Ax B0 (pv 2) (Aj Ak (pv 7) Ad (λ_ _=>rfl)) (Av _)) (Cp (Ax B0 (Aj Ak (pv 7) Ad (λ_ _=>rfl)) (pv 4) (Av _)) (Cp (Ax B0 (pv 3) (Aj Ak (pv 7) Ad (λ_ _=>rfl)) (Av _)) (DC (Ax B0 (Aj Ak (pv 7) Ad (λ_ _=>rfl)) (pv 5) (Av _))))))) (Ah (AS (BD (pv 6) (Aa (pv 7) Ab)))) hel)))
  (Ah (Ap (pv 6)))))),?_⟩
 refine⟨_,rfl,b,_,rfl,SqT.of hb,rfl,_,_,rfl,_,_,rfl,_,_,rfl,_,_,rfl,rfl,?_⟩;refine⟨Ay 0,λ lf hlf=>?_⟩;refine nv hlf λ H1 s1 e1=>?_;refine⟨_,rfl,l,lsL ts,3,key,rfl,sr1 (s1.seq hl),sr0 few,sr2 (hat.same s1),sr3 til gw gh,λ l5 zs hl5 hpz hsz=>?_⟩;obtain⟨us,pus,rfl,sus⟩:=sr4 hpz hsz;rw[Lm];refine nv hl5 λ H2 s2 e2=>?_;have n5:lf≠l5:=Ae e1 hl5;have aus:At H2 us:=(At.perm (hat.same s1) pus).same s2;have k:=k us pus sus;refine⟨l5,rfl,⟨_,SqL.of e2⟩,B9 (K:=K) (a:=l5) (xs:=Ao us) (λ i σ H'=>∃x7:Option V,σ=[some (.ref l),some (.ref b),some (.int q.t),some (.int q.l),some (.int q.b),some (.int q.r),some (.ref lf),x7]/\Same H H'/\H' l5=some (.lst (Ao us))/\At H' us/\H' lf=some (.lst (Ao ((us.take i).filter λ t=>AA t.2 q)))/\okA (rcs (us.take i)) q=true)
  ⟨_,rfl,s1.trans s2,e2,aus,s2 _ _ e1,rfl⟩ (λ i σ H' _ hp=>by obtain⟨_,_,_,h,_⟩:=hp;exact SqL.of h) ?_ ?_⟩
 .rintro i x σ H' hx ⟨x7,rfl,s3,e3,a3,f3,o3⟩;obtain⟨u,hu',rfl⟩:=AU hx;have hum:=ao hu';have hua:=a3 u hum;have ef:=Hn (λ t:Addr×Rc=>AA t.2 q) hu';have er:rcs (us.take (i+1))=rcs (us.take i)++[u.2]:=by rw[aV,hu'];simp
  have no:AA u.2 q=false->apR u.2 q=false->Q .non H':=λ i1 i2=>k.1 (SH (aw.mpr ⟨u,hum,rfl⟩) i1 i2) H' s3;have go:AA u.2 q=false->apR u.2 q=true->∃x7':Option V,[some (.ref l),some (.ref b),some (.int q.t),some (.int q.l),some (.int q.b),some (.int q.r),some (.ref lf),some (.ref u.1)]=[some (.ref l),some (.ref b),some (.int q.t),some (.int q.l),some (.int q.b),some (.int q.r),some (.ref lf),x7']/\Same H H'/\H' l5=some (.lst (Ao us))/\At H' us/\H' lf=some (.lst (Ao ((us.take (i+1)).filter λ t=>AA t.2 q)))/\okA (rcs (us.take (i+1))) q=true:=λ i1 i2 =>
   ⟨_,rfl,s3,e3,a3,by rw[ef,i1,if_neg ae,aL];exact f3,by rw[er];exact KZ o3 (by rw[i1,i2];rfl)⟩
  refine⟨_,rfl,_,rfl,u.1,_,_,_,rfl,rfl,SqT.of hua,at0,_,_,rfl,rfl,_,rfl,AF (λ h1=>?_) (λ h1=>?_)⟩
  .refine⟨_,rfl,u.1,_,_,_,rfl,rfl,SqT.of hua,at2,_,rfl,_,_,rfl,rfl,_,rfl,AF (λ h2=>?_) (λ h2=>?_)⟩
   .refine⟨_,rfl,_,rfl,u.1,_,_,_,rfl,rfl,SqT.of hua,at1,_,_,rfl,rfl,_,rfl,AF (λ h3=>?_) (λ h3=>?_)⟩
    .refine⟨_,rfl,u.1,_,_,_,rfl,rfl,SqT.of hua,at3,_,rfl,_,_,rfl,rfl,_,rfl,AF (λ h4=>?_) (λ h4=>?_)⟩
     .have i1:=SS (of_decide_eq_true h1) (of_decide_eq_true h2) (of_decide_eq_true h3) (of_decide_eq_true h4);refine⟨_,rfl,.inl ⟨rfl,_,SqL.of f3⟩,_,rfl,lf,_,_,rfl,rfl,f3,Am (by rw[aa];have:=bQ (λ t:Addr×Rc=>AA t.2 q) (us.take i);rw[aY]at this;have:=pus.length_eq;lia),?_⟩;have n6:l5≠lf:=Ne.symm n5;refine⟨_,rfl,λ c o e=>?_,by rw[Ag n6];exact e3,λ t ht=>by rw[Ag (AL (a3 t ht) f3 (by intro z;cases z))];exact a3 t ht,by rw[Af,ef,i1,if_pos rfl,F0],by rw[er];exact KZ o3 (by rw[i1];rfl)⟩;rw[Ag (Ae e hlf)];exact s3 c o e
     .have i1:AA u.2 q=false:=Kc λ z=>of_decide_eq_false h4 z.2.2.2;exact fin_e _ u _ H' hua (go i1) (no i1)
    .have i1:AA u.2 q=false:=Kc λ z=>of_decide_eq_false h3 z.2.2.1;exact fin_e _ u _ H' hua (go i1) (no i1)
   .have i1:AA u.2 q=false:=Kc λ z=>of_decide_eq_false h2 z.2.1;exact fin_e _ u _ H' hua (go i1) (no i1)
  .have i1:AA u.2 q=false:=Kc λ z=>of_decide_eq_false h1 z.1;exact fin_e _ u _ H' hua (go i1) (no i1)
 .rintro σ H' ⟨x7,rfl,s3,e3,a3,f3,o3⟩;have e:(Ao us).length=us.length:=aa _;rw[e,aN]at f3 o3;exact⟨_,rfl,k.2 o3 lf H' s3 hlf f3⟩
theorem GP{f:Addr}{fd:FuncData}(F:Fun K "check_block" "check_block" Db f fd)(D_is_block:A2 P w K mg base 3 "is_block" ["panel","block"] (K3 C)):A5 P w K mg base CX0 4 f fd ["panel","block"] (Mg C):=by
 have S:An ["panel","block"] ["panel","block"] (Ai Db):=fsk;refine F.g S ?_;rintro vs H Q E ⟨a,dx,ls,ld,b,ww,hh,ts,kvs,q,rfl,pn,hb,hk,k⟩;refine⟨rfl,λ cdv A outer s hr=>?_⟩;refine⟨_,(Ah (A7 (AW (AI (Aw D_is_block hr (Aa (pv 0) (Aa (pv 1) Ab))))) (Ah Dq) Az)),?_⟩;refine⟨_,rfl,_,rfl,a,dx,ls,ld,ww,hh,ts,kvs,.ref b,some q,rfl,pn,⟨b,rfl,hb⟩,λ H1 s1=>⟨_,rfl,?_⟩⟩;have e:Uy ww hh (rcs ts) (some q)=true:=hk;rw[e];exact AG rfl (k H1 s1)
theorem Lv{x:Int}:∀{ks:List Int},inV (.int x) (ks.map V.int)=decide (x∈ks)
 |[]=>rfl
 |k::ks=>by
  have ih:=Lv (x:=x) (ks:=ks);unfold inV at ih |-;rw[aS,bP,ih];show(k==x||decide (x∈ks))=_;rw[bg,bO,beq_iff_eq,decide_eq_true_eq,decide_eq_true_eq,aO]
  constructor
  .rintro(h|h)
   .exact .inl h.symm
   .exact .inr h
  .rintro(h|h)
   .exact .inl h.symm
   .exact .inr h
theorem EC(g:Int->Bool)(ps:List Int)(p:Int):Ev g (ps++[p])=Bl g (Ev g ps) p:=by
 unfold Ev;rw[List.foldl_append];rfl
theorem J1(g:Int->Bool)(acc:List (Int×Int))(u:Int×Int)(p:Int)(h1:u.2=p)(h2:g p=false):Bl g (acc++[u]) p=acc++[(u.1,p+1)]:=by
 unfold Bl;rw[show(acc++[u]).getLast?=some u by simp];show(if _ then _ else _)=_;rw[if_pos ⟨h1,h2⟩,dm]
theorem J0(g:Int->Bool)(acc:List (Int×Int))(u:Int×Int)(p:Int)(h:¬(u.2=p/\g p=false)):Bl g (acc++[u]) p=acc++[u]++[(p,p+1)]:=by
 unfold Bl;rw[show(acc++[u]).getLast?=some u by simp];show(if _ then _ else _)=_;rw[if_neg h]
theorem Rq{f:Addr}{fd:FuncData}(F:Fun K "runs" "runs" Mm f fd):A5 P w K mg base CX0 1 f fd ["places","stops"] (Js K):=by
 have S:An ["places","stops","found","place"] ["places","stops"] (Ai Mm):=fsk;refine F.g S ?_;rintro vs H Q E ⟨l,m,ps,ss,rfl,hl,hm,few,k⟩;refine⟨rfl,λ cdv A outer s hr=>?_⟩;refine⟨_,(Ac (Ar (i:=2) S.nd rfl (av rfl) (AJ Ab))
  (Ac (AN PassesOwn.never rfl (AC (pv 0)) (Al (i:=3) S.nd rfl (av rfl)) (Ah (A7 (PW.pt (Cp (Fa (pv 2) (λ_=>rfl)) (Cp (Ax BU (Aj Ak (Aj AX (pv 2) (I8 Fu Ad) (λ_ _=>rfl)) Ad (λ_ _=>rfl)) (pv 3) (Av _)) (DC (Ax JE (pv 3) (pv 1) rfl))))) (Ah (Di (A3 (Aa (Aj Ak (Aj AX (pv 2) (I8 Fu Ad) (λ_ _=>rfl)) Ad (λ_ _=>rfl)) (Aa (Aq A4 (pv 3) Ad) Ab))) (P6 (pv 2) (I8 Fu Ad) K8))) (Ah (AS (BD (pv 2) (Aa (A3 (Aa (pv 3) (Aa (Aq A4 (pv 3) Ad) Ab))) Ab)))))))
  (Ah (Ap (pv 2))))),?_⟩
 refine⟨Ay 0,λ lf hlf=>?_⟩;have s1:=Same.new (o:=.lst []) hlf;have e1:(upd H lf (.lst [])) lf=some (.lst []):=Af;generalize upd H lf (.lst [])=H1 at s1 e1 |-;refine⟨_,rfl,l,rfl,⟨_,s1.seq hl⟩,B9 (K:=K) (a:=l) (xs:=ps.map V.int) (λ i σ H'=>∃(us:List (Addr×(Int×Int)))(x3:Option V),σ=[some (.ref l),some (.ref m),some (.ref lf),x3]/\Same H H'/\H' lf=some (.lst (B7 us))/\At2 H' us/\us.map (·.2)=Ev (λ x=>decide (x∈ss)) (ps.take i)/\us.length<=i)
  ⟨[],_,rfl,s1,e1,λ u hu=>absurd hu aU,rfl,ah _⟩ (λ i σ H' _ hp=>by obtain⟨_,_,_,h,_⟩:=hp;exact h.seq hl) ?_ ?_⟩
 .rintro i x σ H' hx ⟨us,x3,rfl,s2,e2,a2,r2,n2⟩;obtain⟨p,hp,rfl⟩:∃p,ps[i]?=some p/\x=.int p:=by
   rw[aB]at hx;cases h:ps[i]? with
   |none=>rw[h]at hx;cases hx
   |some p=>rw[h]at hx;exact⟨p,rfl,(Option.some.inj hx).symm⟩
  have et:ps.take (i+1)=ps.take i++[p]:=by rw[aV,hp];rfl
  have hi:i<ps.length:=(aH.mp hp).1;rcases eO us with rfl|⟨vs,u,eu⟩
  .refine⟨_,rfl,_,.inl ⟨_,SqL.of e2,rfl⟩,AG rfl ?_⟩;refine⟨_,rfl,.inl ⟨rfl,_,SqL.of e2⟩,_,rfl,_,rfl,_,_,rfl,rfl,Ay 2,λ t ht=>?_⟩;have s3:=Same.new (o:=.tup [.int p,.int (p+1)]) ht;have e3:(upd H' t (.tup [.int p,.int (p+1)])) t=some (.tup [.int p,.int (p+1)]):=Af;have e4:=s3 _ _ e2;generalize upd H' t (.tup [.int p,.int (p+1)])=H2 at s3 e3 e4 |-;refine⟨lf,_,_,rfl,rfl,e4,Am (by show 0<=1000;lia),[(t,(p,p+1))],_,rfl,λ c o e=>?_,Af,λ u hu=>?_,?_,by simp⟩
   .rw[Ag (Ae e hlf)];exact(s2.trans s3) c o e
   .rw[ad.mp hu,Ag (AL e3 e4 (by intro z;cases z))];exact e3
   .rw[et,EC,<-r2];rfl
  .rw[eP]at eu;subst eu;have n2':vs.length+1<=i:=by rw[af]at n2;simpa using n2
   have hu2:=a2 u (by simp);have er:B7 (vs++[u])=B7 vs++[.ref u.1]:=by simp
   have rm:(vs++[u]).map (·.2)=vs.map (·.2)++[u.2]:=by simp
   rw[er]at e2;have tru:(!(B7 vs++[V.ref u.1]).isEmpty)=true:=by cases vs<;>rfl
   have lst:atI (B7 vs++[V.ref u.1]) (-1)=some (V.ref u.1):=Hw _ _;have lng:(B7 vs++[V.ref u.1]).length=vs.length+1:=by simp
   have fin:¬(u.2.2=p/\decide (p∈ss)=false)->∀t:Addr,H' t=none->∃(us':List (Addr×(Int×Int)))(x3':Option V),[some (V.ref l),some (V.ref m),some (V.ref lf),some (V.int p)]=[some (V.ref l),some (V.ref m),some (V.ref lf),x3']/\Same H (upd (upd H' t (.tup [.int p,.int (p+1)])) lf (.lst (B7 vs++[V.ref u.1]++[V.ref t])))/\(upd (upd H' t (.tup [.int p,.int (p+1)])) lf (.lst (B7 vs++[V.ref u.1]++[V.ref t]))) lf=some (.lst (B7 us'))/\At2 (upd (upd H' t (.tup [.int p,.int (p+1)])) lf (.lst (B7 vs++[V.ref u.1]++[V.ref t]))) us'/\us'.map (·.2)=Ev (λ x=>decide (x∈ss)) (ps.take (i+1))/\us'.length<=i+1:=λ ng t ht=>by
    have s3:=Same.new (o:=.tup [.int p,.int (p+1)]) ht;have e3:(upd H' t (.tup [.int p,.int (p+1)])) t=some (.tup [.int p,.int (p+1)]):=Af;have e4:=s3 _ _ e2;have a4:=a2.same s3;generalize upd H' t (.tup [.int p,.int (p+1)])=H2 at s3 e3 e4 a4 |-;refine⟨vs++[u]++[(t,(p,p+1))],_,rfl,λ c o e=>?_,by rw[Af];simp,λ v hv=>?_,?_,by simp;lia⟩
    .rw[Ag (Ae e hlf)];exact(s2.trans s3) c o e
    .rcases ai.mp hv with hv|hv
     .rw[Ag (AL (a4 v hv) e4 (by intro z;cases z))];exact a4 v hv
     .rw[ad.mp hv,Ag (AL e3 e4 (by intro z;cases z))];exact e3
    .rw[aj,rm,et,EC,<-r2,rm,J0 _ _ _ _ ng];rfl
   refine⟨_,rfl,_,.inl ⟨_,SqL.of e2,rfl⟩,Bt tru ?_⟩;refine⟨_,rfl,_,rfl,lf,_,_,_,rfl,rfl,SqL.of e2,lst,u.1,_,_,_,rfl,rfl,SqT.of hu2,rfl,_,rfl,rfl,_,rfl,AF (λ c1=>?_) (λ c1=>?_)⟩
   .have c1:u.2.2=p:=by have:=of_decide_eq_true c1;injection this
    refine⟨_,rfl,_,rfl,m,_,rfl,.inl (s2.seq hm),rfl,by rw[bC];intro x hx;obtain⟨z,_,rfl⟩:=aw.mp hx;rfl,_,rfl,?_⟩;rw[if_pos rfl,Lv];cases c2:decide (p∈ss) with
    |false =>
     refine Bt rfl ⟨_,rfl,_,rfl,lf,_,_,_,rfl,rfl,SqL.of e2,lst,u.1,_,_,_,rfl,rfl,SqT.of hu2,rfl,_,rfl,_,_,rfl,rfl,Ay 2,λ t ht=>?_⟩;have s3:=Same.new (o:=.tup [.int u.2.1,.int (p+1)]) ht;have e3:(upd H' t (.tup [.int u.2.1,.int (p+1)])) t=some (.tup [.int u.2.1,.int (p+1)]):=Af;have e4:=s3 _ _ e2;have a4:=a2.same s3;generalize upd H' t (.tup [.int u.2.1,.int (p+1)])=H2 at s3 e3 e4 a4 |-;have ij:ixN (B7 vs++[V.ref u.1]).length (-1)=some vs.length:=by
      rw[lng];unfold ixN;rw[if_neg (by lia),if_pos (by lia)];congr 1;lia
     have st:(B7 vs++[V.ref u.1]).set vs.length (V.ref t)=B7 (vs++[(t,(u.2.1,p+1))]):=by
      rw[List.set_append_right _ _ (by simp)];simp
     refine⟨_,rfl,_,rfl,lf,_,_,_,rfl,rfl,e4,ij,vs++[(t,(u.2.1,p+1))],_,rfl,λ c o e=>?_,by rw[Af,st],λ v hv=>?_,?_,by simp;lia⟩
     .rw[Ag (Ae e hlf)];exact(s2.trans s3) c o e
     .rcases ai.mp hv with hv|hv
      .have hv':=a4 v (a9 _ hv);rw[Ag (AL hv' e4 (by intro z;cases z))];exact hv'
      .rw[ad.mp hv,Ag (AL e3 e4 (by intro z;cases z))];exact e3
     .rw[et,EC,<-r2,rm,J1 _ _ _ _ c1 c2,aj];rfl
    |true =>
     refine AG rfl ⟨_,rfl,.inl ⟨rfl,_,SqL.of e2⟩,_,rfl,_,rfl,_,_,rfl,rfl,Ay 2,λ t ht=>?_⟩;exact⟨lf,_,_,rfl,rfl,Same.new ht _ _ e2,Am (by rw[lng];lia),fin (λ z=>by rw[c2]at z;cases z.2) t ht⟩
   .have c1:u.2.2≠p:=λ z=>of_decide_eq_false c1 (by rw[z]);refine⟨_,rfl,.inl ⟨rfl,_,SqL.of e2⟩,_,rfl,_,rfl,_,_,rfl,rfl,Ay 2,λ t ht=>?_⟩;exact⟨lf,_,_,rfl,rfl,Same.new ht _ _ e2,Am (by rw[lng];lia),fin (λ z=>c1 z.1) t ht⟩
 .rintro σ H' ⟨us,x3,rfl,s2,e2,a2,r2,n2⟩;rw[aa,aN]at r2;exact⟨_,rfl,k lf us H' s2 hlf e2 a2 r2⟩
theorem DD{w h:Int}{ls ld:Addr}:(Fk w h ls ld).lookup ("pane_at":Str)=none:=NF _ _ _ _ (by decide +kernel) (by decide +kernel) (by decide +kernel) (by decide +kernel)
theorem N1{X:Cx}{K:Frag}{k:Nat}(hr:Room k X.A)(hK:X.K=K:=by rfl):OpR X (compareOp .NotEq) (S6 K true):=by subst hK;exact JF hr
theorem Gg(p q:Rc):deq (rcD p) (rcD q)=decide (p=q):=by
 rcases p with ⟨a,b,c,d⟩;rcases q with ⟨a',b',c',d'⟩;unfold rcD;simp only[deq,EI,eqV];rw[bg];simp
theorem Fb{C:Addr}{H:Hp}{a:Addr}{w h:Int}{ts:List (Addr×Rc)}{dx ls ld:Addr}{kvs:LKz}(p:PanelAt C H a w h ts dx ls ld kvs){t:Addr×Rc}{r c:Int}(ht:t∈ts)(hh:t.2.has r c):own (rcs ts) r c=t.2 :=
 Dj p.til.dis (aw.mpr ⟨t,ht,rfl⟩) hh
theorem CJ(f:Int->Bool)(lo:Int):∀n,(B3 f lo n).length<=n
 |0=>ah _
 |n+1=>by
  have:=CJ f lo n;unfold B3;rw[af];split<;>simp<;>lia
theorem Ff{f:Addr}{fd:FuncData}(F:Fun K "columns_parted" "columns_parted" BX f fd)(T:Txt mg tk)(M_Panel_pane_at:LL P w K mg base 1 C "pane_at" ["self","row","column"] (E5 C)):A5 P w K mg base CX0 2 f fd ["panel","block","line"] (Nh C):=by
 have S:An ["panel","block","line"] ["panel","block","line"] (Ai BX):=fsk;refine F.g S ?_;rintro vs H Q E ⟨a,dx,ls,ld,b,ww,hh,n,ts,kvs,q,rfl,pn,hb,⟨q1,q2,q3,q4,q5,q6⟩,n1,n2,k⟩;refine⟨rfl,λ cdv A outer s hr=>?_⟩;have gw:=pn.sw;have gh:=pn.sh;refine⟨_,(Ah (Ap (Ch rfl (AT rfl T.z_range (Aa (Aj Ak (pv 1) Ad (λ_ _=>rfl)) (Aa (Aj Ak (pv 1) Ad (λ_ _=>rfl)) Ab))) (λ_ _ _ _ _=>pgk (nk ["column","line","panel"])) (λ_ _ _ _ _=>(Ax (N1 (K:=K) hr) (Ny M_Panel_pane_at hr (pv 2) (Aa (Aq AB (pv 1) Ad) (Aa (pv 0) Ab))) (Ny M_Panel_pane_at hr (pv 2) (Aa (pv 1) (Aa (pv 0) Ab))) (Av _))) (λ_ _ _ _ _=>(pv 0)) (N:=["column","line","panel"]) (fr:=[none,some 2,some 0])))),?_⟩;refine⟨_,rfl,b,_,_,_,rfl,rfl,SqT.of hb,at1,_,rfl,b,_,_,_,rfl,rfl,SqT.of hb,at3,q.l,q.r,rfl,⟨by lia,by lia,by lia,by lia⟩,λ acc hacc=>CM (lo:=q.l) (n:=(q.r-q.l).toNat) (λ i xs σ H'=>(∃y,σ=[y,some (.int n),some (.ref a)])/\Same H H'/\xs=(B3 (λ c=>lvB (rcs ts) q n c) q.l i).map V.int) ⟨⟨none,rfl⟩,Same.new hacc,rfl⟩ ?_ ?_⟩
 .rintro i xs σ H' hi' hxl hacc' ⟨⟨y,rfl⟩,s1,rfl⟩;have pn1:=pn.same s1;refine⟨_,rfl,a,dx,_,rfl,pn1.ob,DD,_,rfl,_,_,rfl,rfl,_,rfl,a,dx,ls,ld,ww,hh,n-1,q.l+i,ts,kvs,rfl,pn1,by lia,by lia,by lia,by lia,λ u1 H2 hu1 hh1 s2=>?_⟩;have pn2:=pn1.same s2;refine⟨_,rfl,a,dx,_,rfl,pn2.ob,DD,_,rfl,_,rfl,a,dx,ls,ld,ww,hh,n,q.l+i,ts,kvs,rfl,pn2,by lia,by lia,by lia,by lia,λ u2 H3 hu2 hh2 s3=>?_⟩;have pn3:=pn2.same s3;have o1:=Fb pn hu1 hh1;have o2:=Fb pn hu2 hh2;have lv:lvB (rcs ts) q n (q.l+i)=!decide (u1.2=u2.2):=by rw[Ka n1 n2 (by lia) (by lia),o1,o2]
  refine⟨rcD u1.2,rcD u2.2,Dh (pn3.ats u1 hu1),Dh (pn3.ats u2 hu2),⟨_,rfl⟩,⟨_,rfl⟩,KI _,?_⟩;rw[if_pos rfl,Gg,<-lv];refine⟨_,rfl,?_⟩;have hacc3:=s3 _ _ (s2 _ _ hacc');have nacc:∀b o,H b=some o->b≠acc:=λ b o e=>Ae e hacc;have s13:=s1.trans (s2.trans s3);cases hb':lvB (rcs ts) q n (q.l+i) with
  |false =>
   refine fSk.mk hi' hxl hacc3 ⟨⟨_,rfl⟩,s13,?_⟩;rw[B3,hb',if_neg ae,aL]
  |true =>
   refine⟨_,rfl,fNx.mk (aF (Am (by lia))) hi' hxl hacc3 ⟨⟨_,rfl⟩,λ c o e=>?_,?_⟩⟩
   .rw[Ag (nacc c o e)];exact s13 c o e
   .rw[B3,hb',if_pos rfl,aj];rfl
 .rintro xs σ H' hxl hacc' ⟨_,s1,rfl⟩;exact k acc H' s1 hacc hacc'
theorem GF{f:Addr}{fd:FuncData}(F:Fun K "rows_parted" "rows_parted" CS f fd)(T:Txt mg tk)(M_Panel_pane_at:LL P w K mg base 1 C "pane_at" ["self","row","column"] (E5 C)):A5 P w K mg base CX0 2 f fd ["panel","block","line"] (Na C):=by
 have S:An ["panel","block","line"] ["panel","block","line"] (Ai CS):=fsk;refine F.g S ?_;rintro vs H Q E ⟨a,dx,ls,ld,b,ww,hh,n,ts,kvs,q,rfl,pn,hb,⟨q1,q2,q3,q4,q5,q6⟩,n1,n2,k⟩;refine⟨rfl,λ cdv A outer s hr=>?_⟩;have gw:=pn.sw;have gh:=pn.sh;refine⟨_,(Ah (Ap (Ch rfl (AT rfl T.z_range (Aa (Aj Ak (pv 1) Ad (λ_ _=>rfl)) (Aa (Aj Ak (pv 1) Ad (λ_ _=>rfl)) Ab))) (λ_ _ _ _ _=>pgk (nk ["row","line","panel"])) (λ_ _ _ _ _=>(Ax (N1 (K:=K) hr) (Ny M_Panel_pane_at hr (pv 2) (Aa (pv 0) (Aa (Aq AB (pv 1) Ad) Ab))) (Ny M_Panel_pane_at hr (pv 2) (Aa (pv 0) (Aa (pv 1) Ab))) (Av _))) (λ_ _ _ _ _=>(pv 0)) (N:=["row","line","panel"]) (fr:=[none,some 2,some 0])))),?_⟩;refine⟨_,rfl,b,_,_,_,rfl,rfl,SqT.of hb,at0,_,rfl,b,_,_,_,rfl,rfl,SqT.of hb,at2,q.t,q.b,rfl,⟨by lia,by lia,by lia,by lia⟩,λ acc hacc=>CM (lo:=q.t) (n:=(q.b-q.t).toNat) (λ i xs σ H'=>(∃y,σ=[y,some (.int n),some (.ref a)])/\Same H H'/\xs=(B3 (λ r=>upB (rcs ts) q r n) q.t i).map V.int) ⟨⟨none,rfl⟩,Same.new hacc,rfl⟩ ?_ ?_⟩
 .rintro i xs σ H' hi' hxl hacc' ⟨⟨y,rfl⟩,s1,rfl⟩;have pn1:=pn.same s1;refine⟨_,rfl,a,dx,_,rfl,pn1.ob,DD,_,rfl,_,rfl,_,_,rfl,rfl,a,dx,ls,ld,ww,hh,q.t+i,n-1,ts,kvs,rfl,pn1,by lia,by lia,by lia,by lia,λ u1 H2 hu1 hh1 s2=>?_⟩;have pn2:=pn1.same s2;refine⟨_,rfl,a,dx,_,rfl,pn2.ob,DD,_,rfl,_,rfl,a,dx,ls,ld,ww,hh,q.t+i,n,ts,kvs,rfl,pn2,by lia,by lia,by lia,by lia,λ u2 H3 hu2 hh2 s3=>?_⟩;have pn3:=pn2.same s3;have o1:=Fb pn hu1 hh1;have o2:=Fb pn hu2 hh2;have lv:upB (rcs ts) q (q.t+i) n=!decide (u1.2=u2.2):=by rw[Jn (by lia) (by lia) n1 n2,o1,o2]
  refine⟨rcD u1.2,rcD u2.2,Dh (pn3.ats u1 hu1),Dh (pn3.ats u2 hu2),⟨_,rfl⟩,⟨_,rfl⟩,KI _,?_⟩;rw[if_pos rfl,Gg,<-lv];refine⟨_,rfl,?_⟩;have hacc3:=s3 _ _ (s2 _ _ hacc');have nacc:∀b o,H b=some o->b≠acc:=λ b o e=>Ae e hacc;have s13:=s1.trans (s2.trans s3);cases hb':upB (rcs ts) q (q.t+i) n with
  |false =>
   refine fSk.mk hi' hxl hacc3 ⟨⟨_,rfl⟩,s13,?_⟩;rw[B3,hb',if_neg ae,aL]
  |true =>
   refine⟨_,rfl,fNx.mk (aF (Am (by lia))) hi' hxl hacc3 ⟨⟨_,rfl⟩,λ c o e=>?_,?_⟩⟩
   .rw[Ag (nacc c o e)];exact s13 c o e
   .rw[B3,hb',if_pos rfl,aj];rfl
 .rintro xs σ H' hxl hacc' ⟨_,s1,rfl⟩;exact k acc H' s1 hacc hacc'
theorem KC(g:Int->Bool)(acc:List (Int×Int))(p:Int):(Bl g acc p).length<=acc.length+1:=by
 unfold Bl;split
 .split
  .rw[af,eW];simp
  .simp
 .simp
theorem Os(g:Int->Bool)(ps:List Int):(Ev g ps).length<=ps.length:=by
 have key:∀(ps:List Int)(acc:List (Int×Int)),(ps.foldl (Bl g) acc).length<=acc.length+ps.length:=by
  intro ps
  induction ps with
  |nil=>intro acc;simp
  |cons p ps ih=>intro acc;have:=ih (Bl g acc p);have:=KC g acc p;simp only[List.foldl_cons,aI];lia
 have:=key ps [];unfold Ev
 simpa using this
theorem Ej(f g:Int->Bool)(lo:Int)(n:Nat):(CF f g lo n).length<=n:=ba (Os _ _) (CJ _ _ _)
theorem Iy{ts:List (Addr×(Int×Int))}{i:Nat}{x:V}(h:(B7 ts)[i]?=some x):∃t,ts[i]?=some t/\x=.ref t.1:=by
 rw[aB]at h;cases e:ts[i]? with
 |none=>rw[e]at h;cases h
 |some t=>rw[e]at h;exact⟨t,rfl,(Option.some.inj h).symm⟩
theorem GJ{f:Addr}{fd:FuncData}(F:Fun K "level_leads" "level_leads" CW f fd)(T:Txt mg tk)(D_runs:A2 P w K mg base 1 "runs" ["places","stops"] (Js K))(D_columns_parted:A2 P w K mg base 2 "columns_parted" ["panel","block","line"] (Nh C)):A5 P w K mg base CX0 3 f fd ["panel","block"] (Pp C):=by
 have S:An ["panel","block","found","line","begin","end"] ["panel","block"] (Ai CW):=fsk;refine F.g S ?_;rintro vs H Q E ⟨a,dx,ls,ld,b,ww,hh,ts,kvs,q,rfl,pn,hb,qi,k⟩;refine⟨rfl,λ cdv A outer s hr=>?_⟩;have qi':=qi;obtain⟨q1,q2,q3,q4,q5,q6⟩:=qi;have gw:=pn.sw;have gh:=pn.sh;refine⟨_,(Ac (Ar (i:=2) S.nd rfl (av rfl) (AJ Ab))
  (Ac (AN PassesOwn.never rfl (AT rfl T.z_range (Aa (Aq A4 (Aj Ak (pv 1) Ad (λ_ _=>rfl)) Ad) (Aa (Aj Ak (pv 1) Ad (λ_ _=>rfl)) Ab))) (Al (i:=3) S.nd rfl (av rfl)) (Ah (AN PassesOwn.never rfl (AC (Aw D_runs hr (Aa (Aw D_columns_parted hr (Aa (pv 0) (Aa (pv 1) (Aa (pv 3) Ab)))) (Aa (AJ Ab) Ab)))) (Bz rfl (Au (Al (i:=4) S.nd rfl (av rfl)) (Au (Al (i:=5) S.nd rfl (av rfl)) AZ))) (Ah (AS (BD (pv 2) (Aa (A3 (Aa (A9 (v:=.str "level") rfl T.g_LEVEL_leads ⟨_,rfl⟩) (Aa (pv 3) (Aa (pv 4) (Aa (pv 5) Ab))))) Ab)))))))
  (Ah (Ap (pv 2))))),?_⟩
 refine⟨Ay 0,λ lf hlf=>?_⟩;refine nv hlf λ H1 s1 e1=>?_;refine⟨_,rfl,b,_,_,_,rfl,rfl,SqT.of (s1 _ _ hb),at0,_,_,rfl,rfl,_,rfl,b,_,_,_,rfl,rfl,SqT.of (s1 _ _ hb),at2,q.t+1,q.b,rfl,⟨by lia,by lia,by lia,by lia⟩,Ba (lo:=q.t+1) (n:=(q.b-(q.t+1)).toNat) (λ i σ H'=>∃(us:List (Addr×LD))(x3 x4 x5:Option V),σ=[some (.ref a),some (.ref b),some (.ref lf),x3,x4,x5]/\Same H H'/\H' lf=some (.lst (Bc us))/\AtL H' us/\us.map (·.2)=lvN (rcs ts) q i/\us.length<=12*i)
  ⟨[],_,_,_,rfl,s1,e1,λ u hu=>absurd hu aU,rfl,ah _⟩ ?_ ?_⟩
 .rintro i σ H' hi ⟨us,x3,x4,x5,rfl,s2,e2,a2,r2,n2⟩;have hil:i<11:=by lia
  refine⟨_,rfl,_,rfl,_,rfl,a,dx,ls,ld,b,ww,hh,q.t+1+i,ts,kvs,q,rfl,pn.same s2,s2 _ _ hb,qi',by lia,by lia,λ lc H3 s3 hlc ec=>?_⟩;refine⟨Ay 0,λ l0 hl0=>?_⟩;refine nv hl0 λ H4 s4 e4=>?_;have ec4:=s4 _ _ ec;refine⟨lc,l0,_,[],rfl,SqL.of ec4,SqL.of e4,by have:=CJ (λ c=>lvB (rcs ts) q (q.t+1+i) c) q.l (q.r-q.l).toNat;lia,λ lr rs H5 s5 hlr er ar rr=>?_⟩;have nl:lf≠lr:=Ae (s4 _ _ (s3 _ _ e2)) hlr;have s25:=s3.trans (s4.trans s5);have rr':rs.map (·.2)=CF (λ c=>lvB (rcs ts) q (q.t+1+i) c) (λ_=>false) q.l (q.r-q.l).toNat:=by
   rw[rr];unfold CF;congr 1
  have nr:rs.length<=12:=by
   have:=Ej (λ c=>lvB (rcs ts) q (q.t+1+i) c) (λ_=>false) q.l (q.r-q.l).toNat;rw[<-rr',aa]at this;lia
  refine⟨lr,rfl,⟨_,SqL.of er⟩,B9 (K:=K) (a:=lr) (xs:=B7 rs) (λ j σ H'=>∃(vs:List (Addr×LD))(x4 x5:Option V),σ=[some (.ref a),some (.ref b),some (.ref lf),some (.int (q.t+1+i)),x4,x5]/\Same H H'/\H' lr=some (.lst (B7 rs))/\At2 H' rs/\H' lf=some (.lst (Bc (us++vs)))/\AtL H' (us++vs)/\vs.map (·.2)=((rs.map (·.2)).take j).map (λ u=>(false,q.t+1+(i:Int),u.1,u.2))/\vs.length<=j)
   ⟨[],_,_,rfl,s2.trans s25,er,ar,by rw[aL];exact s25 _ _ e2,by rw[aL];exact a2.same s25,rfl,ah _⟩ (λ j σ H' _ hp=>by obtain⟨_,_,_,_,_,h,_⟩:=hp;exact SqL.of h) ?_ ?_⟩
  .rintro j x σ H6 hx ⟨vs,y4,y5,rfl,s6,f6,g6,e6,a6,r6,n6⟩;obtain⟨u,hu,rfl⟩:=Iy hx;have hua:=g6 u (ao hu);have hj:j<rs.length:=(aH.mp hu).1;refine⟨u.1,_,rfl,SqT.of hua,rfl,_,_,rfl,_,_,rfl,rfl,?_⟩;refine⟨_,rfl,.inl ⟨rfl,_,SqL.of e6⟩,_,rfl,_,rfl,_,rfl,Ay 4,λ t ht=>?_⟩;refine nv ht λ H7 s7 e7=>?_;have f7:=s7 _ _ e6;have l7:=s7 _ _ f6;have a7:=a6.same s7;have g7:=g6.same s7;refine⟨lf,_,_,rfl,rfl,f7,Am (by rw[aa,af];lia),vs++[(t,(false,q.t+1+i,u.2.1,u.2.2))],_,_,rfl,λ c o e=>?_,by rw[Ag (Ne.symm nl)];exact l7,λ v hv=>by rw[Ag (AL (g7 v hv) f7 (by intro z;cases z))];exact g7 v hv,by rw[Af];simp,λ v hv=>?_,?_,by simp;lia⟩
   .rw[Ag (Ae e hlf)];exact(s6.trans s7) c o e
   .rw[<-bi]at hv;rcases ai.mp hv with hv|hv
    .rw[Ag (AL (a7 v hv) f7 (by intro z;cases z))];exact a7 v hv
    .rw[ad.mp hv,Ag (AL e7 f7 (by intro z;cases z))];exact e7
   .have:(rs.map (·.2))[j]?=some u.2:=by rw[aB,hu];rfl
    rw[aj,r6,aV,this,aj];rfl
  .rintro σ H6 ⟨vs,y4,y5,rfl,s6,f6,g6,e6,a6,r6,n6⟩;have ll:(B7 rs).length=(rs.map (·.2)).length:=by rw[aa,aa]
   rw[ll,aN,rr']at r6;refine⟨us++vs,_,_,_,rfl,s6,e6,a6,by rw[aj,r2,r6];rfl,?_⟩;rw[aa]at n6;rw[af];lia
 .rintro σ H' ⟨us,x3,x4,x5,rfl,s2,e2,a2,r2,n2⟩;exact⟨_,rfl,k lf us H' s2 hlf e2 a2 r2⟩
theorem Ek{ts:List (Addr×LD)}{i:Nat}{x:V}(h:(Bc ts)[i]?=some x):∃t,ts[i]?=some t/\x=.ref t.1:=by
 rw[aB]at h;cases e:ts[i]? with
 |none=>rw[e]at h;cases h
 |some t=>rw[e]at h;exact⟨t,rfl,(Option.some.inj h).symm⟩
theorem JZ(ps:List Rc)(q:Rc)(hq:q.r-q.l<=12):∀n,(lvN ps q n).length<=12*n
 |0=>ah _
 |n+1=>by
  have h1:=JZ ps q hq n;have h2:=Ej (λ c=>lvB ps q (q.t+1+n) c) (λ_=>false) q.l (q.r-q.l).toNat;show(lvN ps q n++_).length<=_;rw[af,aa];lia
theorem F4{f:Addr}{fd:FuncData}(F:Fun K "upright_leads" "upright_leads" Ck f fd)(T:Txt mg tk)(D_runs:A2 P w K mg base 1 "runs" ["places","stops"] (Js K))(D_rows_parted:A2 P w K mg base 2 "rows_parted" ["panel","block","line"] (Na C)):A5 P w K mg base CX0 3 f fd ["panel","block","levels"] (Pl C):=by
 have S:An ["panel","block","levels","found","line","stops","begin","end"] ["panel","block","levels"] (Ai Ck):=fsk;refine F.g S ?_;rintro vs H Q E ⟨a,dx,ls,ld,b,m,ww,hh,ts,kvs,q,ws,rfl,pn,hb,qi,hm,am,rm,k⟩;refine⟨rfl,λ cdv A outer s hr=>?_⟩;have qi':=qi;obtain⟨q1,q2,q3,q4,q5,q6⟩:=qi;have gw:=pn.sw;have gh:=pn.sh;have lws:ws.length<=144:=by
  have h1:=JZ (rcs ts) q (by lia) (q.b-(q.t+1)).toNat;have h2:(ws.map (·.2)).length=(BV (rcs ts) q).length:=by rw[rm]
  rw[aa]at h2;unfold BV at h2;lia
 refine⟨_,(Ac (Ar (i:=3) S.nd rfl (av rfl) (AJ Ab))
  (Ac (AN PassesOwn.never rfl (AT rfl T.z_range (Aa (Aq A4 (Aj Ak (pv 1) Ad (λ_ _=>rfl)) Ad) (Aa (Aj Ak (pv 1) Ad (λ_ _=>rfl)) Ab))) (Al (i:=4) S.nd rfl (cK rfl)) (Ac (Ea rfl (Al (i:=5) S.nd rfl (av rfl)) (AC (pv 2)) (λ_ _ _ _ _=>(Nw (K:=K) (n:=4) rfl (Au (Al (i:=0) (nk ["word","row","left","right","line"]) rfl (av rfl)) (Au (Al (i:=1) (nk ["word","row","left","right","line"]) rfl (av rfl)) (Au (Al (i:=2) (nk ["word","row","left","right","line"]) rfl (av rfl)) (Au (Al (i:=3) (nk ["word","row","left","right","line"]) rfl (av rfl)) AZ)))))) (λ_ _ _ _ _=>(C7 AR AR (pv 2) (pv 4) (pv 3))) (λ_ _ _ _ _=>(pv 1)) (N:=["word","row","left","right","line"]) (fr:=[none,none,none,none,some 4]))
  (Ah (AN PassesOwn.never rfl (AC (Aw D_runs hr (Aa (Aw D_rows_parted hr (Aa (pv 0) (Aa (pv 1) (Aa (pv 4) Ab)))) (Aa (pv 5) Ab)))) (Bz rfl (Au (Al (i:=6) S.nd rfl (av rfl)) (Au (Al (i:=7) S.nd rfl (av rfl)) AZ))) (Ah (AS (BD (pv 3) (Aa (A3 (Aa (A9 (v:=.str "upright") rfl T.g_UPRIGHT_leads ⟨_,rfl⟩) (Aa (pv 4) (Aa (pv 6) (Aa (pv 7) Ab))))) Ab))))))))
  (Ah (Ap (pv 3))))),?_⟩
 refine⟨Ay 0,λ lf hlf=>?_⟩;refine nv hlf λ H1 s1 e1=>?_;refine⟨_,rfl,b,_,_,_,rfl,rfl,SqT.of (s1 _ _ hb),at1,_,_,rfl,rfl,_,rfl,b,_,_,_,rfl,rfl,SqT.of (s1 _ _ hb),at3,q.l+1,q.r,rfl,⟨by lia,by lia,by lia,by lia⟩,Ba (lo:=q.l+1) (n:=(q.r-(q.l+1)).toNat) (λ i σ H'=>∃(us:List (Addr×LD))(x3 x4 x5 x6:Option V),σ=[some (.ref a),some (.ref b),some (.ref m),some (.ref lf),x3,x4,x5,x6]/\Same H H'/\H' lf=some (.lst (Bc us))/\AtL H' us/\us.map (·.2)=upN (rcs ts) q i/\us.length<=12*i)
  ⟨[],_,_,_,_,rfl,s1,e1,λ u hu=>absurd hu aU,rfl,ah _⟩ ?_ ?_⟩
 .rintro i σ H' hi ⟨us,x3,x4,x5,x6,rfl,s2,e2,a2,r2,n2⟩;have hil:i<11:=by lia
  refine⟨_,rfl,m,rfl,⟨_,SqL.of (s2 _ _ hm)⟩,λ acc hacc=>BF (K:=K) (a:=m) (ys:=Bc ws) (λ j xs σ H2=>(∃y0 y1 y2 y3,σ=[y0,y1,y2,y3,some (.int (q.l+1+i))])/\Same H' H2/\∃ss:List Int,xs=ss.map V.int/\∀x,x∈ss↔∃d∈(ws.map (·.2)).take j,d.2.1=x/\d.2.2.1<q.l+1+i/\q.l+1+i<d.2.2.2) ⟨⟨none,none,none,none,rfl⟩,Same.new hacc,[],rfl,λ x=>⟨λ h=>absurd h aU,λ⟨d,h,_⟩=>absurd h aU⟩⟩ (λ j xs σ H2 _ _ hp=>SqL.of ((s2.trans hp.2.1) _ _ hm)) ?_ ?_⟩
  .rintro j x xs σ H2 hx hj hxl hacc' ⟨⟨y0,y1,y2,y3,rfl⟩,s3,ss,rfl,hss⟩;obtain⟨u,hu,rfl⟩:=Ek hx;have hua:=(am.same (s2.trans s3)) u (ao hu);have hj':(ws.map (·.2))[j]?=some u.2:=by rw[aB,hu];rfl
   have skip:¬(u.2.2.2.1<q.l+1+i/\q.l+1+i<u.2.2.2.2)->∀x,x∈ss↔∃d∈(ws.map (·.2)).take (j+1),d.2.1=x/\d.2.2.1<q.l+1+i/\q.l+1+i<d.2.2.2:=λ hn x=>by
    rw[hss,aV,hj']
    constructor
    .rintro⟨d,h1,h2⟩;exact⟨d,a9 _ h1,h2⟩
    .rintro⟨d,h1,h2,h3⟩;rcases ai.mp h1 with h1|h1
     .exact⟨d,h1,h2,h3⟩
     .have:d=u.2:=by simpa using h1
      subst this;exact absurd h3 hn
   have add:(u.2.2.2.1<q.l+1+i/\q.l+1+i<u.2.2.2.2)->∀x,x∈ss++[u.2.2.1]↔∃d∈(ws.map (·.2)).take (j+1),d.2.1=x/\d.2.2.1<q.l+1+i/\q.l+1+i<d.2.2.2:=λ hy x=>by
    rw[ai,hss,aV,hj']
    constructor
    .rintro(⟨d,h1,h2⟩|h)
     .exact⟨d,a9 _ h1,h2⟩
     .exact⟨u.2,az _ (by simp),(ad.mp h).symm,hy⟩
    .rintro⟨d,h1,h2,h3⟩;rcases ai.mp h1 with h1|h1
     .exact .inl ⟨d,h1,h2,h3⟩
     .have:d=u.2:=by simpa using h1
      subst this;exact .inr (ad.mpr h2.symm)
   have nacc:∀b o,H' b=some o->b≠acc:=λ b o e=>Ae e hacc;refine⟨u.1,_,rfl,SqT.of hua,rfl,_,_,rfl,_,_,rfl,_,_,rfl,_,_,rfl,rfl,?_⟩;refine⟨_,rfl,_,rfl,_,_,rfl,rfl,_,rfl,AF (λ c1=>?_) (λ c1=>?_)⟩
   .refine⟨_,rfl,_,_,rfl,rfl,_,rfl,?_⟩;cases c2:decide (q.l+1+(i:Int)<u.2.2.2.2) with
    |true =>
     refine⟨_,rfl,fNx.mk (aF (Am (by rw[aa];lia))) hj hxl hacc' ⟨⟨_,_,_,_,rfl⟩,λ c o e=>?_,ss++[u.2.2.1],by rw[aj];rfl,add ⟨of_decide_eq_true c1,of_decide_eq_true c2⟩⟩⟩;rw[Ag (nacc c o e)];exact s3 c o e
    |false=>exact fSk.mk hj hxl hacc' ⟨⟨_,_,_,_,rfl⟩,s3,ss,rfl,skip λ z=>of_decide_eq_false c2 z.2⟩
   .exact⟨_,rfl,fSk.mk hj hxl hacc' ⟨⟨_,_,_,_,rfl⟩,s3,ss,rfl,skip λ z=>of_decide_eq_false c1 z.1⟩⟩
  rintro xs σ H2 hl' hacc' ⟨_,s3,ss,rfl,hss⟩;have ll:(Bc ws).length=(ws.map (·.2)).length:=by rw[aa,aa]
  rw[ll,aN,rm]at hss;have hg:(λ x=>decide (x∈ss))=λ r=>psB (rcs ts) q r (q.l+1+i):=funext λ x=>by
   rw[bg,decide_eq_true_eq,hss,Oo (by lia)]
  refine⟨_,rfl,_,rfl,_,rfl,a,dx,ls,ld,b,ww,hh,q.l+1+i,ts,kvs,q,rfl,pn.same (s2.trans s3),(s2.trans s3) _ _ hb,qi',by lia,by lia,λ lc H3 s4 hlc ec=>?_⟩;refine⟨_,rfl,lc,acc,_,ss,rfl,SqL.of ec,SqL.of (s4 _ _ hacc'),by have:=CJ (λ r=>upB (rcs ts) q r (q.l+1+i)) q.t (q.b-q.t).toNat;lia,λ lr rs H5 s5 hlr er ar rr=>?_⟩;have nl:lf≠lr:=Ae (s4 _ _ (s3 _ _ e2)) hlr;have s25:=s3.trans (s4.trans s5);have rr':rs.map (·.2)=CF (λ r=>upB (rcs ts) q r (q.l+1+i)) (λ r=>psB (rcs ts) q r (q.l+1+i)) q.t (q.b-q.t).toNat:=by
   rw[rr,hg];rfl
  have nr:rs.length<=12:=by
   have:=Ej (λ r=>upB (rcs ts) q r (q.l+1+i)) (λ r=>psB (rcs ts) q r (q.l+1+i)) q.t (q.b-q.t).toNat;rw[<-rr',aa]at this;lia
  refine⟨lr,rfl,⟨_,SqL.of er⟩,B9 (K:=K) (a:=lr) (xs:=B7 rs) (λ j σ H'=>∃(vs:List (Addr×LD))(x4 x5:Option V),σ=[some (.ref a),some (.ref b),some (.ref m),some (.ref lf),some (.int (q.l+1+i)),some (.ref acc),x4,x5]/\Same H H'/\H' lr=some (.lst (B7 rs))/\At2 H' rs/\H' lf=some (.lst (Bc (us++vs)))/\AtL H' (us++vs)/\vs.map (·.2)=((rs.map (·.2)).take j).map (λ u=>(true,q.l+1+(i:Int),u.1,u.2))/\vs.length<=j)
   ⟨[],_,_,rfl,s2.trans s25,er,ar,by rw[aL];exact s25 _ _ e2,by rw[aL];exact a2.same s25,rfl,ah _⟩ (λ j σ H' _ hp=>by obtain⟨_,_,_,_,_,h,_⟩:=hp;exact SqL.of h) ?_ ?_⟩
  .rintro j x σ H6 hx ⟨vs,y4,y5,rfl,s6,f6,g6,e6,a6,r6,n6⟩;obtain⟨u,hu,rfl⟩:=Iy hx;have hua:=g6 u (ao hu);have hj:j<rs.length:=(aH.mp hu).1;refine⟨u.1,_,rfl,SqT.of hua,rfl,_,_,rfl,_,_,rfl,rfl,?_⟩;refine⟨_,rfl,.inl ⟨rfl,_,SqL.of e6⟩,_,rfl,_,rfl,_,rfl,Ay 4,λ t ht=>?_⟩;refine nv ht λ H7 s7 e7=>?_;have f7:=s7 _ _ e6;have l7:=s7 _ _ f6;have a7:=a6.same s7;have g7:=g6.same s7;refine⟨lf,_,_,rfl,rfl,f7,Am (by rw[aa,af];lia),vs++[(t,(true,q.l+1+i,u.2.1,u.2.2))],_,_,rfl,λ c o e=>?_,by rw[Ag (Ne.symm nl)];exact l7,λ v hv=>by rw[Ag (AL (g7 v hv) f7 (by intro z;cases z))];exact g7 v hv,by rw[Af];simp,λ v hv=>?_,?_,by simp;lia⟩
   .rw[Ag (Ae e hlf)];exact(s6.trans s7) c o e
   .rw[<-bi]at hv;rcases ai.mp hv with hv|hv
    .rw[Ag (AL (a7 v hv) f7 (by intro z;cases z))];exact a7 v hv
    .rw[ad.mp hv,Ag (AL e7 f7 (by intro z;cases z))];exact e7
   .have:(rs.map (·.2))[j]?=some u.2:=by rw[aB,hu];rfl
    rw[aj,r6,aV,this,aj];rfl
  .rintro σ H6 ⟨vs,y4,y5,rfl,s6,f6,g6,e6,a6,r6,n6⟩;have ll:(B7 rs).length=(rs.map (·.2)).length:=by rw[aa,aa]
   rw[ll,aN,rr']at r6;refine⟨us++vs,_,_,_,_,rfl,s6,e6,a6,by rw[aj,r2,r6];rfl,?_⟩;rw[aa]at n6;rw[af];lia
 .rintro σ H' ⟨us,x3,x4,x5,x6,rfl,s2,e2,a2,r2,n2⟩;exact⟨_,rfl,k lf us H' s2 hlf e2 a2 r2⟩
theorem MU(ps:List Rc)(q:Rc)(hq:q.b-q.t<=12):∀n,(upN ps q n).length<=12*n
 |0=>ah _
 |n+1=>by
  have h1:=MU ps q hq n;have h2:=Ej (λ r=>upB ps q r (q.l+1+n)) (λ r=>psB ps q r (q.l+1+n)) q.t (q.b-q.t).toNat;show(upN ps q n++_).length<=_;rw[af,aa];lia
theorem IG{w h:Int}{ps:List Rc}{q:Rc}(qi:q.In w h)(hw:w<=12)(hh:h<=12):(BV ps q).length<=144/\(CD ps q).length<=144:=by
 obtain⟨q1,q2,q3,q4,q5,q6⟩:=qi;have h1:=JZ ps q (by lia) (q.b-(q.t+1)).toNat;have h2:=MU ps q (by lia) (q.r-(q.l+1)).toNat;unfold BV CD;lia
theorem PB{f:Addr}{fd:FuncData}(F:Fun K "leads" "leads" Jx f fd)(D_check_block:A2 P w K mg base 4 "check_block" ["panel","block"] (Mg C))(D_level_leads:A2 P w K mg base 3 "level_leads" ["panel","block"] (Pp C))(D_upright_leads:A2 P w K mg base 3 "upright_leads" ["panel","block","levels"] (Pl C)):A5 P w K mg base CX0 5 f fd ["panel","block"] (K0 C):=by
 have S:An ["panel","block","levels"] ["panel","block"] (Ai Jx):=fsk;refine F.g S ?_;rintro vs H Q E ⟨a,dx,ls,ld,b,ww,hh,ts,kvs,q,rfl,pn,hb,qi,hk,k⟩;refine⟨rfl,λ cdv A outer s hr=>?_⟩;have gw:=pn.sw;have gh:=pn.sh;obtain⟨n1,n2⟩:=IG (ps:=rcs ts) qi gw.2 gh.2;refine⟨_,(Ac (AS (Aw D_check_block hr (Aa (pv 0) (Aa (pv 1) Ab))))
  (Ac (Ar (i:=2) S.nd rfl (av rfl) (Aw D_level_leads hr (Aa (pv 0) (Aa (pv 1) Ab))))
  (Ah (Ap (Aq Cq (pv 2) (Aw D_upright_leads hr (Aa (pv 0) (Aa (pv 1) (Aa (pv 2) Ab))))))))),?_⟩
 refine⟨_,rfl,_,rfl,a,dx,ls,ld,b,ww,hh,ts,kvs,q,rfl,pn,hb,hk,λ H1 s1=>?_⟩;refine⟨_,rfl,_,rfl,a,dx,ls,ld,b,ww,hh,ts,kvs,q,rfl,pn.same s1,s1 _ _ hb,qi,λ l us H2 s2 hl el al rl=>?_⟩;have s12:=s1.trans s2;refine⟨_,rfl,_,rfl,_,rfl,_,rfl,a,dx,ls,ld,b,l,ww,hh,ts,kvs,q,us,rfl,pn.same s12,s12 _ _ hb,qi,el,al,rl,λ l' us' H3 s3 hl' el' al' rl'=>?_⟩;have m1:us.length<=144:=by rw[<-rl,aa]at n1;exact n1
 have m2:us'.length<=144:=by rw[<-rl',aa]at n2;exact n2
 refine⟨l,l',_,_,rfl,rfl,s3 _ _ el,el',aF (Am (by rw[aa,aa];lia)),λ p hp=>?_⟩;have s4:=Same.new (o:=.lst (Bc us++Bc us')) hp;have s14:=s12.trans (s3.trans s4);have hp0:H p=none:=by
  cases e:H p with
  |none=>rfl
  |some o=>rw[(s12.trans s3) _ _ e]at hp;cases hp
 refine k p (us++us') _ s14 hp0 (by rw[Af];simp) (λ u hu=>?_) (by rw[aj,rl,rl']);rcases ai.mp hu with hu|hu
 .exact(al.same (s3.trans s4)) u hu
 .exact(al'.same s4) u hu
theorem Pd{w h:Int}{A B qs:List Rc}{u:Rc}(T:Tiles w h (A++u::B))(h1:∀x∈qs,x.t<x.b/\x.l<x.r/\u.t<=x.t/\x.b<=u.b/\u.l<=x.l/\x.r<=u.r)(h2:qs.Pairwise Apart)(h3:∀r c,u.has r c->∃x∈qs,x.has r c):Tiles w h (A++qs++B):=by
 have sub:∀x∈qs,∀r c,x.has r c->u.has r c:=λ x hx r c hh=>by
  obtain⟨a1,a2,a3,a4,a5,a6⟩:=h1 x hx;obtain⟨b1,b2,b3,b4⟩:=hh;exact⟨by lia,by lia,by lia,by lia⟩
 obtain⟨d1,d2,d3⟩:=bn.mp T.dis;obtain⟨d4,d5⟩:=bL.mp d2;refine⟨λ p hp=>?_,?_,λ r c b1 b2 b3 b4=>?_⟩
 .rcases ai.mp hp with hp|hp
  .rcases ai.mp hp with hp|hp
   .exact T.ins p (a9 _ hp)
   .obtain⟨u1,u2,u3,u4,u5,u6⟩:=T.ins u (by simp);obtain⟨a1,a2,a3,a4,a5,a6⟩:=h1 p hp;exact⟨by lia,by lia,by lia,by lia,by lia,by lia⟩
  .exact T.ins p (az _ (aJ _ hp))
 .refine bn.mpr ⟨bn.mpr ⟨d1,h2,λ a ha b hb r c x y=>d3 a ha u (by simp) r c x (sub b hb r c y)⟩,d5,λ a ha b hb=>?_⟩;rcases ai.mp ha with ha|ha
  .exact d3 a ha b (aJ _ hb)
  .exact λ r c x y=>d4 b hb r c (sub a ha r c x) y
 .obtain⟨p,hp,hh⟩:=T.cov r c b1 b2 b3 b4;rcases ai.mp hp with hp|hp
  .exact⟨p,a9 _ (a9 _ hp),hh⟩
  .rcases aO.mp hp with rfl|hp
   .obtain⟨x,hx,hx'⟩:=h3 r c hh;exact⟨x,a9 _ (az _ hx),hx'⟩
   .exact⟨p,az _ hp,hh⟩
def Ez(u:Rc)(high low near far:Int):List Rc:=[⟨u.t,u.l,low,near⟩,⟨low,u.l,u.b,far⟩,⟨high,far,u.b,u.r⟩,⟨u.t,near,high,u.r⟩]
def Ey(u:Rc)(high low near far:Int):List Rc:=[⟨u.t,u.l,high,far⟩,⟨u.t,far,low,u.r⟩,⟨low,near,u.b,u.r⟩,⟨high,u.l,u.b,near⟩]
theorem apt{t l b r t' l' b' r':Int}(h:b<=t'\/b'<=t\/r<=l'\/r'<=l):Apart ⟨t,l,b,r⟩ ⟨t',l',b',r'⟩:=by
 rintro ro co ⟨a1,a2,a3,a4⟩ ⟨a5,a6,a7,a8⟩;have a1:t<=ro:=a1;have a2:ro<b:=a2;have a3:l<=co:=a3;have a4:co<r:=a4;have a5:t'<=ro:=a5;have a6:ro<b':=a6;have a7:l'<=co:=a7;have a8:co<r':=a8;lia
def MQ(t l b r:Int)(qs:List Rc):Prop:=(∀x∈qs,x.t<x.b/\x.l<x.r/\t<=x.t/\x.b<=b/\l<=x.l/\x.r<=r)/\qs.Pairwise Apart/\∀ro co,t<=ro->ro<b->l<=co->co<r->∃x∈qs,x.has ro co
theorem Qk{t l b r high low near far:Int}(a1:t<high)(a2:high<low)(a3:low<b)(b1:l<near)(b2:near<far)(b3:far<r):MQ t l b r (Ez ⟨t,l,b,r⟩ high low near far++[⟨high,near,low,far⟩]):=by
 refine⟨?_,?_,λ ro co c1 c2 c3 c4=>?_⟩
 .simp only[Ez,bJ,bN,bT,aU,false_implies,implies_true,and_true];refine⟨?_,?_,?_,?_,?_⟩<;>lia
 .simp only[Ez,bJ,bN,bL,bT,aU,false_implies,implies_true,and_true,List.Pairwise.nil];refine⟨⟨?_,?_,?_,?_⟩,⟨?_,?_,?_⟩,⟨?_,?_⟩,?_⟩<;>exact apt (by lia)
 .by_cases h1:ro<low/\co<near
  .exact⟨⟨t,l,low,near⟩,by simp[Ez],c1,h1.1,c3,h1.2⟩
  by_cases h2:low<=ro/\co<far
  .exact⟨⟨low,l,b,far⟩,by simp[Ez],h2.1,c2,c3,h2.2⟩
  by_cases h3:high<=ro/\far<=co
  .exact⟨⟨high,far,b,r⟩,by simp[Ez],h3.1,c2,h3.2,c4⟩
  by_cases h4:ro<high/\near<=co
  .exact⟨⟨t,near,high,r⟩,by simp[Ez],c1,h4.1,h4.2,c4⟩
  .exact⟨⟨high,near,low,far⟩,by simp[Ez],by show high<=ro;lia,by show ro<low;lia,by show near<=co;lia,by show co<far;lia⟩
theorem Qj{t l b r high low near far:Int}(a1:t<high)(a2:high<low)(a3:low<b)(b1:l<near)(b2:near<far)(b3:far<r):MQ t l b r (Ey ⟨t,l,b,r⟩ high low near far++[⟨high,near,low,far⟩]):=by
 refine⟨?_,?_,λ ro co c1 c2 c3 c4=>?_⟩
 .simp only[Ey,bJ,bN,bT,aU,false_implies,implies_true,and_true];refine⟨?_,?_,?_,?_,?_⟩<;>lia
 .simp only[Ey,bJ,bN,bL,bT,aU,false_implies,implies_true,and_true,List.Pairwise.nil];refine⟨⟨?_,?_,?_,?_⟩,⟨?_,?_,?_⟩,⟨?_,?_⟩,?_⟩<;>exact apt (by lia)
 .by_cases h1:ro<high/\co<far
  .exact⟨⟨t,l,high,far⟩,by simp[Ey],c1,h1.1,c3,h1.2⟩
  by_cases h2:ro<low/\far<=co
  .exact⟨⟨t,far,low,r⟩,by simp[Ey],c1,h2.1,h2.2,c4⟩
  by_cases h3:low<=ro/\near<=co
  .exact⟨⟨low,near,b,r⟩,by simp[Ey],h3.1,c2,h3.2,c4⟩
  by_cases h4:high<=ro/\co<near
  .exact⟨⟨high,l,b,near⟩,by simp[Ey],h4.1,c2,c3,h4.2⟩
  .exact⟨⟨high,near,low,far⟩,by simp[Ey],by show high<=ro;lia,by show ro<low;lia,by show near<=co;lia,by show co<far;lia⟩
theorem RB{w h:Int}{A B qs:List Rc}{u:Rc}{high low near far:Int}(T:Tiles w h (A++u::B))(a1:u.t<high)(a2:high<low)(a3:low<u.b)(b1:u.l<near)(b2:near<far)(b3:far<u.r)
  (hq:qs=Ez u high low near far\/qs=Ey u high low near far):Tiles w h (A++(qs++[⟨high,near,low,far⟩])++B):=by
 have o:MQ u.t u.l u.b u.r (qs++[⟨high,near,low,far⟩]):=by
  rcases hq with rfl|rfl
  .exact Qk a1 a2 a3 b1 b2 b3
  .exact Qj a1 a2 a3 b1 b2 b3
 exact Pd T o.1 o.2.1 λ r c hh=>o.2.2 r c hh.1 hh.2.1 hh.2.2.1 hh.2.2.2
theorem Jq{α:Type}{xs:List α}{n:Nat}{x:α}(h:xs[n]?=some x):xs=xs.take n++x::xs.drop (n+1):=by
 obtain⟨h1,rfl⟩:=aH.mp h;rw[List.getElem_cons_drop,cw]
abbrev Ko:LSz:=["_law_script","_law_k","_law_panes","_law_purse_here","_law_spots","_law_at","_law_top","_law_left","_law_bottom","_law_right","_law_high","_law_low","_law_near","_law_far","_law_five"]
theorem JI{f:Addr}{fd:FuncData}(F:Fun K "_law_wheel" "_law_wheel" Bj f fd)(T:Txt mg tk)(D__law_take:A2 P w K mg base 1 "_law_take" ["_law_purse_here","_law_many"] ET):A5 P w K mg base CX0 2 f fd ["_law_script","_law_k","_law_panes","_law_purse_here"] Kw:=by
 have S:An Ko ["_law_script","_law_k","_law_panes","_law_purse_here"] (Ai Bj):=fsk;refine F.g S ?_;rintro vs H Q E ⟨l,p,v,kk,z,ww,hh,ts,rfl,hp,hl,hat,til,few,gw,gh,k⟩;refine⟨rfl,λ cdv A outer s hr=>?_⟩;have rl:(Ao ts).length=ts.length:=aa _;obtain⟨tw,hw,fin⟩:∃rd,PSs (BA CX0 P w K mg base Ko "_law_wheel" (Ai Bj) f cdv A outer s H E).nox ((A8 Bj).drop 10) rd /\
   ∀(D:Cd)(lf:Addr)(qs:List (Addr×Rc))(at' high low near far:Int)(x4 x6 x7 x8 x9:Option V)(H3:Hp),H3 l=some (.lst (Ao ts))->At H3 ts->H3 lf=some (.lst (Ao qs))->At H3 qs->qs.length=4->0<=at'->at'<(Ao ts).length ->
    (∀(l':Addr)(ts':List (Addr×Rc))(H5:Hp),Same H3 H5->H5 l'=some (.lst (Ao ts'))->At H5 ts'->rcs ts'=rcs (ts.take at'.toNat)++(rcs qs++[⟨high,near,low,far⟩])++rcs (ts.drop (at'.toNat+1))->ts'.length<=ts.length+5->D.rt (.ref l') H5) ->
    rd D [some v,some (.int kk),some (.ref l),some (.ref p),x4,some (.int at'),x6,x7,x8,x9,some (.int high),some (.int low),some (.int near),some (.int far),some (.ref lf)] H3:=by
  refine⟨_,(Ah (Ap (Aq Cq (Aq Cq (Aq Cq (BN Du (pv 2) CI (Ce (pv 5))) (pv 14)) (AJ (Aa (A3 (Aa (pv 10) (Aa (pv 12) (Aa (pv 11) (Aa (pv 13) Ab))))) Ab))) (BN Du (pv 2) (Ce (Aq A4 (pv 5) Ad)) CI)))),?_⟩;intro D lf qs at' high low near far x4 x6 x7 x8 x9 H3 e1 a1 e2 a2 n4 at0' at1' rt;refine⟨_,rfl,_,rfl,_,rfl,l,_,rfl,SqL.of e1,λ c1 m1=>?_⟩;rw[MD at0' at1'];refine nv m1 λ H4 sa ea=>?_;have nq:(Ao qs).length=4:=by rw[aa];exact n4
  refine⟨_,rfl,c1,lf,_,_,rfl,rfl,ea,sa _ _ e2,aF (Am (by rw[aY,nq];lia)),λ c2 m2=>?_⟩;refine nv m2 λ H5 sb eb=>?_;refine⟨_,rfl,_,rfl,_,rfl,_,rfl,Ay 4,λ t5 m3=>⟨Ay 1,λ l5 m4=>?_⟩⟩;have sc:=Same.new (o:=.tup (AK high near low far)) m3;have ec:(upd H5 t5 (.tup (AK high near low far))) t5=_:=Af;generalize upd H5 t5 (.tup (AK high near low far))=H6 at sc ec m4 |-;refine nv m4 λ H7 sd ed=>?_;refine⟨c2,l5,_,_,rfl,rfl,(sc.trans sd) _ _ eb,ed,aF (Am (by rw[af,aY,nq];show _+1<=_;lia)),λ c3 m5=>?_⟩;refine nv m5 λ H8 se ee=>?_;have s38:=sa.trans (sb.trans (sc.trans (sd.trans se)));refine⟨_,rfl,_,rfl,_,_,rfl,rfl,_,rfl,l,_,rfl,SqL.of (s38 _ _ e1),λ c4 m6=>?_⟩;rw[ME at0' at1'];refine nv m6 λ H9 sf ef=>?_;refine⟨c3,c4,_,_,rfl,rfl,sf _ _ ee,ef,aF (Am (by rw[af,af,aY,bp,nq];show _+4+1+_<=_;lia)),λ c5 m7=>?_⟩;have sg:=Same.new (o:=.lst ((Ao ts).take at'.toNat++Ao qs++[.ref t5]++(Ao ts).drop (at'.toNat+1))) m7;have s3A:=s38.trans (sf.trans sg);refine rt c5 (ts.take at'.toNat++(qs++[(t5,⟨high,near,low,far⟩)])++ts.drop (at'.toNat+1)) _ s3A (by rw[Af];simp[Ao,d0,d7]) (λ x hx=>?_) (by simp[rcs]) (by rw[af,af,af,aY,bp,n4];show _+(4+1)+_<=_;lia);rcases ai.mp hx with hx|hx
  .rcases ai.mp hx with hx|hx
   .exact(a1.same s3A) x (dh hx)
   .rcases ai.mp hx with hx|hx
    .exact(a2.same s3A) x hx
    .rw[ad.mp hx];exact(sd.trans (se.trans (sf.trans sg))) _ _ ec
  .exact(a1.same s3A) x (di hx)
 obtain⟨tw8,hw8,fin8⟩:∃rd,PSs (BA CX0 P w K mg base Ko "_law_wheel" (Ai Bj) f cdv A outer s H E).nox ((A8 Bj).drop 8) rd /\
   ∀(D:Cd)(u:Rc)(at' high low near far z3p:Int)(x4 x14:Option V)(H3:Hp),H3 p=some (.lst [.int z3p])->H3 l=some (.lst (Ao ts))->At H3 ts->0<=at'->at'<(Ao ts).length ->
    (∀(l':Addr)(ts':List (Addr×Rc))(H5:Hp)(qs:List Rc),SameX p H3 H5->H5 l'=some (.lst (Ao ts'))->At H5 ts'->(qs=Ez u high low near far\/qs=Ey u high low near far)->rcs ts'=rcs (ts.take at'.toNat)++(qs++[⟨high,near,low,far⟩])++rcs (ts.drop (at'.toNat+1))->ts'.length<=ts.length+5->D.rt (.ref l') H5) ->
    rd D [some v,some (.int kk),some (.ref l),some (.ref p),x4,some (.int at'),some (.int u.t),some (.int u.l),some (.int u.b),some (.int u.r),some (.int high),some (.int low),some (.int near),some (.int far),x14] H3:=by
  refine⟨_,(Ac (Ar (i:=14) S.nd rfl (av rfl) (AJ (Aa (A3 (Aa (pv 6) (Aa (pv 7) (Aa (pv 11) (Aa (pv 12) Ab))))) (Aa (A3 (Aa (pv 11) (Aa (pv 7) (Aa (pv 8) (Aa (pv 13) Ab))))) (Aa (A3 (Aa (pv 10) (Aa (pv 13) (Aa (pv 8) (Aa (pv 9) Ab))))) (Aa (A3 (Aa (pv 6) (Aa (pv 12) (Aa (pv 10) (Aa (pv 9) Ab))))) Ab))))))
  (Ac (A7 (Ax BU (Aw D__law_take hr (Aa (pv 3) (Aa Ad Ab))) Ad (Av _)) (Ah (Ar (i:=14) S.nd rfl (av rfl) (AJ (Aa (A3 (Aa (pv 6) (Aa (pv 7) (Aa (pv 10) (Aa (pv 13) Ab))))) (Aa (A3 (Aa (pv 6) (Aa (pv 13) (Aa (pv 11) (Aa (pv 9) Ab))))) (Aa (A3 (Aa (pv 11) (Aa (pv 12) (Aa (pv 8) (Aa (pv 9) Ab))))) (Aa (A3 (Aa (pv 10) (Aa (pv 7) (Aa (pv 8) (Aa (pv 12) Ab))))) Ab))))))) Az)
  hw)),?_⟩
  intro D u at' high low near far z3p x4 x14 H3 e3p e1 a1 at0' at1' rt;have nlp:l≠p:=DZ e3p e1;refine⟨_,rfl,_,rfl,_,rfl,_,rfl,Ay 4,λ ta0 ma0=>?_⟩;refine nv ma0 λ Ha0 sa0 ea0=>?_;refine⟨_,rfl,_,rfl,_,rfl,_,rfl,Ay 4,λ ta1 ma1=>?_⟩;refine nv ma1 λ Ha1 sa1 ea1=>?_;refine⟨_,rfl,_,rfl,_,rfl,_,rfl,Ay 4,λ ta2 ma2=>?_⟩;refine nv ma2 λ Ha2 sa2 ea2=>?_;refine⟨_,rfl,_,rfl,_,rfl,_,rfl,Ay 4,λ ta3 ma3=>?_⟩;refine nv ma3 λ Ha3 sa3 ea3=>?_;refine⟨Ay 4,λ la mla=>?_⟩;refine nv mla λ HLa sla ela=>?_;have aqa:At HLa [(ta0,⟨u.t,u.l,low,near⟩),(ta1,⟨low,u.l,u.b,far⟩),(ta2,⟨high,far,u.b,u.r⟩),(ta3,⟨u.t,near,high,u.r⟩)]:=λ x hx=>by
   simp only[aO,aU,or_false]at hx;rcases hx with rfl|rfl|rfl|rfl
   .exact(sa1.trans (sa2.trans (sa3.trans (sla)))) _ _ ea0
   .exact(sa2.trans (sa3.trans (sla))) _ _ ea1
   .exact(sa3.trans (sla)) _ _ ea2
   .exact(sla) _ _ ea3
  have sxa:=(SameX.refl (p:=p) (H:=H3)).trans (SameX.of (sa0.trans (sa1.trans (sa2.trans (sa3.trans (sla))))));have ep7:HLa p=some (.lst [.int z3p]):=(sa0.trans (sa1.trans (sa2.trans (sa3.trans sla)))) _ _ e3p;have nla:la≠p:=λ z=>by rw[z]at ela;rw[ep7]at ela;cases ela
  refine⟨_,rfl,p,z3p,2,rfl,ep7,by decide,by decide,λ r8 z8 k8 k9=>?_⟩;have s8:=sxa.trans (SameX.upd (p:=p) (o:=.lst [.int z8]) (H:=HLa));have el8:(upd HLa p (.lst [.int z8])) la=_:=(Ag nla).trans ela;have aq8:=aqa.sx ep7 (SameX.upd (p:=p) (o:=.lst [.int z8]) (H:=HLa));generalize upd HLa p (.lst [.int z8])=H8 at s8 el8 aq8 |-;refine⟨rfl,_,rfl,AF (λ c=>?_) (λ c=>?_)⟩
  .skip
   refine⟨_,rfl,_,rfl,_,rfl,_,rfl,Ay 4,λ tb0 mb0=>?_⟩;refine nv mb0 λ Hb0 sb0 eb0=>?_;refine⟨_,rfl,_,rfl,_,rfl,_,rfl,Ay 4,λ tb1 mb1=>?_⟩;refine nv mb1 λ Hb1 sb1 eb1=>?_;refine⟨_,rfl,_,rfl,_,rfl,_,rfl,Ay 4,λ tb2 mb2=>?_⟩;refine nv mb2 λ Hb2 sb2 eb2=>?_;refine⟨_,rfl,_,rfl,_,rfl,_,rfl,Ay 4,λ tb3 mb3=>?_⟩;refine nv mb3 λ Hb3 sb3 eb3=>?_;refine⟨Ay 4,λ lb mlb=>?_⟩;refine nv mlb λ HLb slb elb=>?_;have aqb:At HLb [(tb0,⟨u.t,u.l,high,far⟩),(tb1,⟨u.t,far,low,u.r⟩),(tb2,⟨low,near,u.b,u.r⟩),(tb3,⟨high,u.l,u.b,near⟩)]:=λ x hx=>by
    simp only[aO,aU,or_false]at hx;rcases hx with rfl|rfl|rfl|rfl
    .exact(sb1.trans (sb2.trans (sb3.trans (slb)))) _ _ eb0
    .exact(sb2.trans (sb3.trans (slb))) _ _ eb1
    .exact(sb3.trans (slb)) _ _ eb2
    .exact(slb) _ _ eb3
   have sxb:=s8.trans (SameX.of (sb0.trans (sb1.trans (sb2.trans (sb3.trans (slb))))));refine fin D lb [(tb0,⟨u.t,u.l,high,far⟩),(tb1,⟨u.t,far,low,u.r⟩),(tb2,⟨low,near,u.b,u.r⟩),(tb3,⟨high,u.l,u.b,near⟩)] at' high low near far x4 _ _ _ _ HLb (sxb _ _ nlp e1) (a1.sx e3p sxb) elb aqb rfl at0' at1' λ l' ts' H5 s5 e5' a5 hr n5=>rt l' ts' H5 _ (sxb.trans (SameX.of s5)) e5' a5 (.inr rfl) hr n5
  .refine fin D la [(ta0,⟨u.t,u.l,low,near⟩),(ta1,⟨low,u.l,u.b,far⟩),(ta2,⟨high,far,u.b,u.r⟩),(ta3,⟨u.t,near,high,u.r⟩)] at' high low near far x4 _ _ _ _ H8 (s8 _ _ nlp e1) (a1.sx e3p s8) el8 aq8 rfl at0' at1' λ l' ts' H5 s5 e5' a5 hr n5=>rt l' ts' H5 _ (s8.trans (SameX.of s5)) e5' a5 (.inl rfl) hr n5
 refine⟨_,(Ac (Ea rfl (Al (i:=4) S.nd rfl (av rfl)) (BG rfl T.z_range (Aa (A0 A6 rfl T.z_len rfl (Aa (pv 2) Ab)) Ab)) (λ_ _ _ _ _=>pgk (nk ["_law_at","_law_panes"])) (λ_ _ _ _ _=>(Ax KO (A0 (FG rfl) rfl T.z_min rfl (Aa (Aq AB (Aj (Bn (K:=K)) (Aj (Ci (K:=K)) (pv 1) (pv 0) (λ_ _=>rfl)) Ad (λ_ _=>rfl)) (Aj (Bn (K:=K)) (Aj (Ci (K:=K)) (pv 1) (pv 0) (λ_ _=>rfl)) Ad (λ_ _=>rfl))) (Aa (Aq AB (Aj (Bn (K:=K)) (Aj (Ci (K:=K)) (pv 1) (pv 0) (λ_ _=>rfl)) Ad (λ_ _=>rfl)) (Aj (Bn (K:=K)) (Aj (Ci (K:=K)) (pv 1) (pv 0) (λ_ _=>rfl)) Ad (λ_ _=>rfl))) Ab))) Ad (Av _))) (λ_ _ _ _ _=>(pv 0)) (N:=["_law_at","_law_panes"]) (fr:=[none,some 2]))
  (Ac (A7 (Ax BU (A0 A6 rfl T.z_len rfl (Aa (pv 4) Ab)) Ad (Av _)) (Ah (Ap (pv 2))) Az)
  (Ac (Ar (i:=5) S.nd rfl (av rfl) (Aj AX (pv 4) (Aw D__law_take hr (Aa (pv 3) (Aa (A0 A6 rfl T.z_len rfl (Aa (pv 4) Ab)) Ab))) (λ_ _=>rfl)))
  (Ac (Di (Aj AX (pv 2) (pv 5) (λ_ _=>rfl)) (Bz rfl (Au (Al (i:=6) S.nd rfl (av rfl)) (Au (Al (i:=7) S.nd rfl (av rfl)) (Au (Al (i:=8) S.nd rfl (av rfl)) (Au (Al (i:=9) S.nd rfl (av rfl)) AZ))))))
  (Ac (Ar (i:=10) S.nd rfl (av rfl) (Aq A4 (Aq A4 (pv 6) Ad) (Aw D__law_take hr (Aa (pv 3) (Aa (Aq AB (Aq AB (pv 8) (pv 6)) Ad) Ab)))))
  (Ac (Ar (i:=11) S.nd rfl (av rfl) (Aq A4 (Aq A4 (pv 10) Ad) (Aw D__law_take hr (Aa (pv 3) (Aa (Aq AB (Aq AB (pv 8) (pv 10)) Ad) Ab)))))
  (Ac (Ar (i:=12) S.nd rfl (av rfl) (Aq A4 (Aq A4 (pv 7) Ad) (Aw D__law_take hr (Aa (pv 3) (Aa (Aq AB (Aq AB (pv 9) (pv 7)) Ad) Ab)))))
  (Ac (Ar (i:=13) S.nd rfl (av rfl) (Aq A4 (Aq A4 (pv 12) Ad) (Aw D__law_take hr (Aa (pv 3) (Aa (Aq AB (Aq AB (pv 9) (pv 12)) Ad) Ab)))))
  hw8)))))))),?_⟩
 refine⟨_,rfl,l,_,rfl,.inl (SqL.of hl),((Ao ts).length:Int),rfl,by lia,by lia,λ acc hacc=>CM (lo:=0) (n:=((Ao ts).length:Int).toNat) (λ i xs σ H'=>(∃y,σ=[y,some (.ref l)])/\Same H H'/\∃ss:List Int,xs=ss.map V.int/\∀x∈ss,∃(j:Nat)(u:Addr×Rc),x=j/\ts[j]?=some u/\2<u.2.b-u.2.t/\2<u.2.r-u.2.l) ⟨⟨none,rfl⟩,Same.new hacc,[],rfl,λ x h=>absurd h aU⟩ ?_ ?_⟩
 .rintro i xs σ H1 hi hxl hacc' ⟨⟨y,rfl⟩,s1,ss,rfl,hss⟩;rw[dO];have hi':i<ts.length:=by lia
  have hu':ts[i]?=some ts[i]:=aq hi';generalize ts[i]=u at hu';have hum:=ao hu';have gu:atI (Ao ts) (i:Int)=some (.ref u.1):=CO (by rw[aB,hu'];rfl);have hua:=s1 _ _ (hat u hum);have hl1:=s1 _ _ hl;refine⟨_,rfl,_,rfl,l,_,_,_,rfl,rfl,SqL.of hl1,gu,u.1,_,_,_,rfl,rfl,SqT.of hua,at2,_,rfl,_,rfl,l,_,_,_,rfl,rfl,SqL.of hl1,gu,u.1,_,_,_,rfl,rfl,SqT.of hua,at0,_,_,rfl,rfl,?_⟩;refine⟨_,rfl,_,rfl,l,_,_,_,rfl,rfl,SqL.of hl1,gu,u.1,_,_,_,rfl,rfl,SqT.of hua,at3,_,rfl,_,rfl,l,_,_,_,rfl,rfl,SqL.of hl1,gu,u.1,_,_,_,rfl,rfl,SqT.of hua,at1,_,_,rfl,rfl,?_⟩;refine⟨_,_,rfl,_,_,rfl,rfl,_,rfl,?_⟩;cases hc:decide (2<if u.2.r-u.2.l<u.2.b-u.2.t then u.2.r-u.2.l else u.2.b-u.2.t) with
  |true =>
   have hc':=of_decide_eq_true hc;have h2:2<u.2.b-u.2.t/\2<u.2.r-u.2.l:=by split at hc'<;>lia
   refine⟨_,rfl,fNx.mk (aF (Am (by lia))) hi hxl hacc' ⟨⟨_,rfl⟩,λ c o e=>?_,ss++[(i:Int)],by rw[aj];rfl,λ x hx=>?_⟩⟩
   .rw[Ag (Ae e hacc)];exact s1 c o e
   .rcases ai.mp hx with hx|hx
    .exact hss x hx
    .exact⟨i,u,ad.mp hx,hu',h2⟩
  |false=>exact fSk.mk hi hxl hacc' ⟨⟨_,rfl⟩,s1,ss,rfl,hss⟩
 .rintro xs σ H1 hxl hacc' ⟨_,s1,ss,rfl,hss⟩;have hl1:=s1 _ _ hl;have ep:=s1 _ _ hp;have na:acc≠p:=Ne.symm (Ae hp hacc);refine⟨_,rfl,acc,_,rfl,.inl (SqL.of hacc'),rfl,_,rfl,AF (λ c0=>?_) (λ c0=>?_)⟩
  .exact⟨_,rfl,k l ts H1 (SameX.of s1) hl1 (hat.same s1) til (by lia)⟩
  have pos:0<ss.length:=by
   cases ss with
   |nil=>exact absurd rfl (of_decide_eq_false c0)
   |cons a r=>simp
  have sl:(ss.map V.int).length=ss.length:=aa _;have few':ss.length<=41:=by rw[sl]at hxl;lia
  refine⟨_,rfl,_,rfl,_,rfl,acc,_,rfl,.inl (SqL.of hacc'),p,z,_,rfl,ep,by rw[sl];lia,by rw[sl];lia,λ ix z2 i0 i1=>?_⟩;rw[sl]at i1;have s2:=(SameX.of s1).trans (SameX.upd (p:=p) (o:=.lst [.int z2]) (H:=H1));have e2:(upd H1 p (.lst [.int z2])) p=some (.lst [.int z2]):=Af;have ea2:(upd H1 p (.lst [.int z2])) acc=some (.lst (ss.map V.int)):=by rw[Ag na];exact hacc'
  generalize upd H1 p (.lst [.int z2])=H2 at s2 e2 ea2 |-;have i2:ix.toNat<ss.length:=by lia
  obtain⟨j,u,hj,hu',hb,hw'⟩:=hss ss[ix.toNat] (bW i2);have gi:atI (ss.map V.int) ix=some (.int (j:Int)):=by
   have e:=CO (xs:=ss.map V.int) (j:=ix.toNat) (v:=.int ss[ix.toNat]) (by rw[aB,aq i2];rfl);rw[cb i0,hj]at e;exact e
  have hjl:j<ts.length:=(aH.mp hu').1;have hum:=ao hu';have gu:atI (Ao ts) (j:Int)=some (.ref u.1):=CO (by rw[aB,hu'];rfl);obtain⟨b1,b2,b3,b4,b5,b6⟩:=til.ins u.2 (aw.mpr ⟨u,hum,rfl⟩);have lk:∀{Hk:Hp},SameX p H Hk->Hk l=some (.lst (Ao ts)):=λ sx=>sx _ _ (DZ hp hl) hl;have ak:∀{Hk:Hp},SameX p H Hk->At Hk ts:=λ sx=>hat.sx hp sx;refine⟨acc,_,_,_,rfl,rfl,SqL.of ea2,gi,?_⟩;refine⟨_,rfl,_,rfl,l,_,_,_,rfl,rfl,SqL.of (lk s2),gu,u.1,_,rfl,SqT.of (ak s2 u hum),rfl,_,_,rfl,_,_,rfl,_,_,rfl,_,_,rfl,rfl,?_⟩;refine⟨_,rfl,_,_,rfl,rfl,_,rfl,_,rfl,_,rfl,_,_,rfl,rfl,_,_,rfl,rfl,p,z2,u.2.b-u.2.t-2,rfl,e2,by lia,by lia,λ r3 z3 k0 k1=>CG (i:=u.2.t+1) (j:=r3) ?_⟩;have s3:=s2.trans (SameX.upd (o:=.lst [.int z3]) (H:=H2));have e3:(upd H2 p (.lst [.int z3])) p=some (.lst [.int z3]):=Af;generalize upd H2 p (.lst [.int z3])=H3 at s3 e3 |-;have hg:u.2.t<u.2.t+1+r3/\u.2.t+1+r3<u.2.b-1:=by lia
  generalize u.2.t+1+r3=high at hg |-;refine⟨_,rfl,_,_,rfl,rfl,_,rfl,_,rfl,_,rfl,_,_,rfl,rfl,_,_,rfl,rfl,p,z3,u.2.b-high-1,rfl,e3,by lia,by lia,λ r4 z4 k2 k3=>CG (i:=high+1) (j:=r4) ?_⟩;have s4:=s3.trans (SameX.upd (o:=.lst [.int z4]) (H:=H3));have e4:(upd H3 p (.lst [.int z4])) p=some (.lst [.int z4]):=Af;generalize upd H3 p (.lst [.int z4])=H4 at s4 e4 |-;have lo:high<high+1+r4/\high+1+r4<u.2.b:=by lia
  generalize high+1+r4=low at lo |-;refine⟨_,rfl,_,_,rfl,rfl,_,rfl,_,rfl,_,rfl,_,_,rfl,rfl,_,_,rfl,rfl,p,z4,u.2.r-u.2.l-2,rfl,e4,by lia,by lia,λ r5 z5 k4 k5=>CG (i:=u.2.l+1) (j:=r5) ?_⟩;have s5:=s4.trans (SameX.upd (o:=.lst [.int z5]) (H:=H4));have e5:(upd H4 p (.lst [.int z5])) p=some (.lst [.int z5]):=Af;generalize upd H4 p (.lst [.int z5])=H5 at s5 e5 |-;have ne:u.2.l<u.2.l+1+r5/\u.2.l+1+r5<u.2.r-1:=by lia
  generalize u.2.l+1+r5=near at ne |-;refine⟨_,rfl,_,_,rfl,rfl,_,rfl,_,rfl,_,rfl,_,_,rfl,rfl,_,_,rfl,rfl,p,z5,u.2.r-near-1,rfl,e5,by lia,by lia,λ r6 z6 k6 k7=>CG (i:=near+1) (j:=r6) ?_⟩;have s6:=s5.trans (SameX.upd (o:=.lst [.int z6]) (H:=H5));have e6:(upd H5 p (.lst [.int z6])) p=some (.lst [.int z6]):=Af;generalize upd H5 p (.lst [.int z6])=H6 at s6 e6 |-;have fa:near<near+1+r6/\near+1+r6<u.2.r:=by lia
  generalize near+1+r6=far at fa |-;have til':Tiles ww hh (rcs (ts.take j)++u.2::rcs (ts.drop (j+1))):=by
   have:=Jq hu';have e:rcs ts=rcs (ts.take j)++u.2::rcs (ts.drop (j+1)):=by
    conv=>lhs;rw[this]
    simp[rcs]
   rw[<-e];exact til
  refine fin8 _ u.2 j high low near far z6 _ _ H6 e6 (lk s6) (ak s6) (by lia) (by lia) λ l' ts' H7 qs s7 e7 a7 hq hr n7=>?_;refine k l' ts' H7 (s6.trans s7) e7 a7 ?_ (by lia);rw[hr,Int.toNat_natCast];exact RB til' hg.1 lo.1 lo.2 ne.1 fa.1 fa.2 hq
theorem Te{w h:Int}{ps:List Rc}{q:Rc}(h1:q.b<=h)(h2:q.r<=w)(bt:0<=q.t/\q.t<q.b)(bl:0<=q.l/\q.l<q.r):blk w h ps q=okA ps q:=by
 have e1:Nl q=true:=by
  show(decide (0<=q.t)&&decide (q.t<q.b)&&(decide (0<=q.l)&&decide (q.l<q.r)))=true;rw[decide_eq_true bt.1,decide_eq_true bt.2,decide_eq_true bl.1,decide_eq_true bl.2];rfl
 have e2:AA q ⟨0,0,h,w⟩=true:=by
  show(decide (0<=q.t)&&decide (0<=q.l)&&(decide (q.b<=h)&&decide (q.r<=w)))=true;rw[decide_eq_true bt.1,decide_eq_true bl.1,decide_eq_true h1,decide_eq_true h2];rfl
 unfold blk;rw[e1,e2];rfl
theorem Vg{α:Type}{us:List α}(h:us.length=1):∃a,us=[a]:=cu.mp h
theorem Uk{α:Type}{us:List α}(h:us.length=2):∃a b,us=[a,b]:=by
 cases us with
 |nil=>cases h
 |cons a r=>obtain⟨b,rfl⟩:=Vg (Nat.succ.inj h);exact⟨a,b,rfl⟩
theorem Uj{α:Type}{us:List α}(h:us.length=3):∃a b c,us=[a,b,c]:=by
 cases us with
 |nil=>cases h
 |cons a r=>obtain⟨b,c,rfl⟩:=Uk (Nat.succ.inj h);exact⟨a,b,c,rfl⟩
theorem Ui{α:Type}{us:List α}(h:us.length=4):∃a b c d,us=[a,b,c,d]:=by
 cases us with
 |nil=>cases h
 |cons a r=>obtain⟨b,c,d,rfl⟩:=Uj (Nat.succ.inj h);exact⟨a,b,c,d,rfl⟩
theorem KF{α:Type}(ts:List (Addr×α)):(Ao ts).length=ts.length:=aa ..
def wd(u:Bool):Str:=if u=true then "upright" else "level"
theorem Fr(u v:Bool):decide (V.str (wd u)=V.str (wd v))=(u==v):=by cases u<;>cases v<;>decide +kernel
theorem OV(u:Bool):decide (V.str (wd u)=V.str "whole")=false:=by cases u<;>decide +kernel
inductive Tr where
 |whole (m:Option Int)
 |cut (u:Bool) (k:Int) (x y:Tr)
def Tr.sz:Tr->Nat
 |.whole _=>1
 |.cut _ _ x y=>x.sz+y.sz
def GX:Option Int->V
 |none=>.non
 |some i=>.int i
def Fit:Tr->Int->Int->Prop
 |.whole _,_,_=>True
 |.cut u k x y,w,h=>if u=true then (1<=k/\k<w/\Fit x k h/\Fit y (w-k) h) else (1<=k/\k<h/\Fit x w k/\Fit y w (h-k))
theorem Hm:∀{t:Tr}{w h:Int},1<=w->1<=h->Fit t w h->(t.sz:Int)<=w*h
 |.whole _,w,h,hw,hh,_=>by
  show((1:Nat):Int)<=_;have:=Int.mul_le_mul hw hh (by lia) (by lia);lia
 |.cut u k x y,w,h,hw,hh,f=>by
  rw[Fit]at f;show((x.sz+y.sz:Nat):Int)<=_;cases u with
  |true =>
   obtain⟨a,b,c,d⟩:=f;have h1:=Hm a hh c;have h2:=Hm (by lia) hh d;rw[Int.sub_mul]at h2;lia
  |false =>
   obtain⟨a,b,c,d⟩:=f;have h1:=Hm hw a c;have h2:=Hm hw (by lia) d;rw[Int.mul_sub]at h2;lia
theorem LK{x0 x1:V}:atI [x0,x1] 0=some x0:=rfl
theorem NT{x0 x1:V}:atI [x0,x1] 1=some x1:=rfl
theorem RA{f:Addr}{fd:FuncData}{x qual:Str}{st:Stmt}{N ps:LSz}{k:Nat}{sp:Sp}(F:Fun K x qual st f fd)(S:An N ps (Ai st))(h:∀vs H Q E,¬sp vs H Q E):A5 P w K mg base CX0 (k+1) f fd ps sp :=
 F.ok S (λ vs H Q E z=>absurd z (h vs H Q E)) (λ cdv A outer s H vs Q E hr z=>absurd z (h vs H Q E))
def Ia(cU cL:Addr)(u:Bool):Addr:=if u then cU else cL
abbrev wF(m:V):LFz:=Bd "mark" m []
abbrev cF(k:Int)(vx vy:V):LFz:=Bd "other" vy (Bd "first" vx (Bd "at" (.int k) []))
def Obj(cW cU cL:Addr)(H:Hp):Tr->V->Prop
 |.whole m,v=>∃a dx,v=.ref a/\H a=some (.ins cW dx (wF (GX m)))
 |.cut u k x y,v=>∃a dx vx vy,v=.ref a/\H a=some (.ins (Ia cU cL u) dx (cF k vx vy))/\Obj cW cU cL H x vx/\Obj cW cU cL H y vy
theorem Obj.same{H H':Hp}(s:Same H H'):∀{t:Tr}{v:V},Obj cW cU cL H t v->Obj cW cU cL H' t v
 |.whole m,v,h=>by
  rw[Obj]at h |-;obtain⟨a,dx,e,h⟩:=h;exact⟨a,dx,e,s _ _ h⟩
 |.cut u k x y,v,h=>by
  rw[Obj]at h |-;obtain⟨a,dx,vx,vy,e,h,h1,h2⟩:=h;exact⟨a,dx,vx,vy,e,s _ _ h,Obj.same s h1,Obj.same s h2⟩
structure RT(mg:MGz)(K:Frag)(cT cW cU cL:Addr):Prop where
 g_Tree:mg "Tree"=some (.ref cT)
 g_Whole:mg "Whole"=some (.ref cW)
 g_Upright:mg "Upright"=some (.ref cU)
 g_Level:mg "Level"=some (.ref cL)
 iW:MP K cW
 iC:∀u,MP K (Ia cU cL u)
 n_mark:NoAttr K cW "mark"
 n_at:∀u,NoAttr K (Ia cU cL u) "at"
 n_first:∀u,NoAttr K (Ia cU cL u) "first"
 n_other:∀u,NoAttr K (Ia cU cL u) "other"
 kWW:kitOne K (.ref cW) (.ref cW)=some true
 kWC:∀u,kitOne K (.ref cW) (.ref (Ia cU cL u))=some false
 kCW:∀u,kitOne K (.ref (Ia cU cL u)) (.ref cW)=some false
 kCC:∀u v,kitOne K (.ref (Ia cU cL u)) (.ref (Ia cU cL v))=some (u==v)
 kWT:kitOne K (.ref cW) (.ref cT)=some true
 kCT:∀u,kitOne K (.ref (Ia cU cL u)) (.ref cT)=some true
inductive QC(C:Addr)(vs:LUz)(H:Hp)(Q:VK)(E:XK):Prop
 |mk (a dx:Addr) (m:V) (h0:vs=[.ref a,m]) (h1:H a=some (.ins C dx [])) (h2:Q .non (upd H a (.ins C dx (wF m)))):QC C vs H Q E
def Pr(C:Addr) :Sp:=λ vs H Q E=>QC C vs H Q E
inductive QD(C:Addr)(vs:LUz)(H:Hp)(Q:VK)(E:XK):Prop
 |mk (a dx:Addr) (k:Int) (vx vy:V) (h0:vs=[.ref a,.int k,vx,vy]) (h1:H a=some (.ins C dx [])) (h2:∀H',SameX a H H'->H' a=some (.ins C dx (cF k vx vy))->Q .non H'):QD C vs H Q E
def Nd(C:Addr) :Sp:=λ vs H Q E=>QD C vs H Q E
theorem HW{f:Addr}{fd:FuncData}(F:FunD K "__init__" "Whole.__init__" B2 f fd)(R:RT mg K cT cW cU cL):A5 P w K mg base CX0 1 f fd ["self","mark"] (Pr cW):=by
 have S:An ["self","mark"] ["self","mark"] (Ai B2):=fsk;refine F.g S ?_;rintro vs H Q E ⟨a,dx,m,rfl,ha,q⟩;refine⟨rfl,λ cdv A outer s hr=>?_⟩;refine⟨_,(Ah (C9 (pv 0) (pv 1) rfl)),?_⟩;exact⟨_,rfl,_,rfl,a,cW,dx,_,rfl,ha,R.iW.cl,R.n_mark,(by show 0<1000;decide),q⟩
theorem Gb{f:Addr}{fd:FuncData}(F:Fun K "__init__" "Upright.__init__" C6 f fd)(R:RT mg K cT cW cU cL):A5 P w K mg base CX0 1 f fd ["self","at","first","other"] (Nd cU):=by
 have S:An ["self","at","first","other"] ["self","at","first","other"] (Ai C6):=fsk;refine F.g S ?_;rintro vs H Q E ⟨a,dx,k,vx,vy,rfl,ha,q⟩;refine⟨rfl,λ cdv A outer s hr=>?_⟩;refine⟨_,(Ac (C9 (pv 0) (pv 1) rfl)
  (Ac (C9 (pv 0) (pv 2) rfl)
  (Ah (C9 (pv 0) (pv 3) rfl)))),?_⟩
 refine⟨_,rfl,_,rfl,a,cU,dx,_,rfl,ha,(R.iC true).cl,R.n_at true,(by show 0<1000;decide),?_⟩;refine⟨_,rfl,_,rfl,a,cU,dx,_,rfl,Af,(R.iC true).cl,R.n_first true,(by show 1<1000;decide),?_⟩;refine⟨_,rfl,_,rfl,a,cU,dx,_,rfl,Af,(R.iC true).cl,R.n_other true,(by show 2<1000;decide),?_⟩;exact q _ ((SameX.upd.trans SameX.upd).trans SameX.upd) Af
theorem HZ{f:Addr}{fd:FuncData}(F:Fun K "__init__" "Level.__init__" DA f fd)(R:RT mg K cT cW cU cL):A5 P w K mg base CX0 1 f fd ["self","at","first","other"] (Nd cL):=by
 have S:An ["self","at","first","other"] ["self","at","first","other"] (Ai DA):=fsk;refine F.g S ?_;rintro vs H Q E ⟨a,dx,k,vx,vy,rfl,ha,q⟩;refine⟨rfl,λ cdv A outer s hr=>?_⟩;refine⟨_,(Ac (C9 (pv 0) (pv 1) rfl)
  (Ac (C9 (pv 0) (pv 2) rfl)
  (Ah (C9 (pv 0) (pv 3) rfl)))),?_⟩
 refine⟨_,rfl,_,rfl,a,cL,dx,_,rfl,ha,(R.iC false).cl,R.n_at false,(by show 0<1000;decide),?_⟩;refine⟨_,rfl,_,rfl,a,cL,dx,_,rfl,Af,(R.iC false).cl,R.n_first false,(by show 1<1000;decide),?_⟩;refine⟨_,rfl,_,rfl,a,cL,dx,_,rfl,Af,(R.iC false).cl,R.n_other false,(by show 2<1000;decide),?_⟩;exact q _ ((SameX.upd.trans SameX.upd).trans SameX.upd) Af
theorem F9{H:Hp}{x dx:Addr}{o1 o2:HO}(hx:H x=none)(hd:H dx=none):Same H (upd (upd H dx o1) x o2):=λ b o e=>by
 rw[Ag (Ae e hx),Ag (Ae e hd)];exact e
theorem fW(m:V):(wF m).lookup ("mark":Str)=some m:=by rw[A1,if_pos rfl]
theorem Sf(k:Int)(vx vy:V):(cF k vx vy).lookup ("at":Str)=some (.int k):=by rw[A1,if_neg (by decide +kernel),A1,if_neg (by decide +kernel),A1,if_pos rfl]
theorem L7(k:Int)(vx vy:V):(cF k vx vy).lookup ("first":Str)=some vx:=by rw[A1,if_neg (by decide +kernel),A1,if_pos rfl]
theorem L6(k:Int)(vx vy:V):(cF k vx vy).lookup ("other":Str)=some vy:=by rw[A1,if_pos rfl]
theorem S4{C:Addr}:∀u',RelV (.ref C) u'->u'=.ref C:=λ_ z=>z
inductive En where
 |w (m:Option Int)
 |c (u:Bool) (k:Int)
def AY:Tr->List En
 |.whole m=>[.w m]
 |.cut u k x y=>.c u k::(AY x++AY y)
def Tr.nd:Tr->Nat
 |.whole _=>1
 |.cut _ _ x y=>x.nd+y.nd+1
theorem Ee:∀t:Tr,(AY t).length=t.nd
 |.whole _=>rfl
 |.cut _ _ x y=>by rw[AY,aI,af,Ee x,Ee y];rfl
theorem PJ:∀t:Tr,0<t.nd
 |.whole _=>Nat.one_pos
 |.cut _ _ x y=>Nat.succ_pos _
def enV:En->LUz
 |.w m=>[.str "whole",GX m]
 |.c u k=>[.str (wd u),.int k]
def Kp(H H':Hp):Prop:=∀b o,H b=some o->(∀xs,o≠.lst xs)->H' b=some o
theorem FO{H H':Hp}(s:Same H H'):Kp H H':=λ b o e _=>s b o e
theorem Kp.trans{H H1 H2:Hp}(a:Kp H H1)(b:Kp H1 H2):Kp H H2:=λ c o e n=>b c o (a c o e n) n
theorem Kp.put{H:Hp}{l:Addr}{xs ys:LUz}(h:H l=some (.lst xs)):Kp H (upd H l (.lst ys)):=λ b o e n=>by
 rw[Ag (AL e h (n xs))];exact e
theorem Obj.kp{H H':Hp}(s:Kp H H'):∀{t:Tr}{v:V},Obj cW cU cL H t v->Obj cW cU cL H' t v
 |.whole m,v,h=>by
  rw[Obj]at h |-;obtain⟨a,dx,e,h⟩:=h;exact⟨a,dx,e,s _ _ h (by intro xs z;cases z)⟩
 |.cut u k x y,v,h=>by
  rw[Obj]at h |-;obtain⟨a,dx,vx,vy,e,h,h1,h2⟩:=h;exact⟨a,dx,vx,vy,e,s _ _ h (by intro xs z;cases z),Obj.kp s h1,Obj.kp s h2⟩
def EnsAt(H:Hp):LUz->List En->Prop
 |[],[]=>True
 |v::r,e::q=>(∃a,v=.ref a/\H a=some (.tup (enV e)))/\EnsAt H r q
 |_,_=>False
theorem EnsAt.len{H:Hp}:∀{vs:LUz}{es:List En},EnsAt H vs es->vs.length=es.length
 |[],[],_=>rfl
 |v::r,e'::q,h=>by rw[aI,aI,EnsAt.len h.2]
 |[],_::_,h=>h.elim
 |_::_,[],h=>h.elim
theorem EnsAt.get{H:Hp}:∀{vs:LUz}{es:List En}{i:Nat}{v:V},EnsAt H vs es->vs[i]?=some v->∃e a,es[i]?=some e/\v=.ref a/\H a=some (.tup (enV e))
 |v::r,e::q,0,_,h,hv=>by
  cases hv;obtain⟨a,b,c⟩:=h.1;exact⟨e,a,rfl,b,c⟩
 |v::r,e::q,i+1,_,h,hv=>EnsAt.get (i:=i) h.2 hv
 |[],[],_,_,_,hv=>by cases hv
 |[],_::_,_,_,h,_=>h.elim
 |_::_,[],_,_,h,_=>h.elim
def EH(ws:List (V×Tr)):List En:=ws.reverse.flatMap λ p=>AY p.2
theorem Ca(ws:List (V×Tr))(p:V×Tr):EH (ws++[p])=AY p.2++EH ws:=by
 unfold EH;rw[List.reverse_append,List.reverse_singleton,List.singleton_append,dJ]
def cnt(ws:List (V×Tr)):Nat:=(ws.map λ p=>p.2.nd).sum
theorem Ef(ws:List (V×Tr))(p:V×Tr):cnt (ws++[p])=cnt ws+p.2.nd:=by
 unfold cnt;rw[aj,List.sum_append,dF,List.sum_singleton]
theorem Kk:∀ws:List (V×Tr),ws.length<=cnt ws
 |[]=>ah 0
 |p::r=>by
  have:=Kk r;have:=PJ p.2;show r.length+1<=p.2.nd+cnt r;lia
theorem FC(p:V×Tr)(r:List (V×Tr)):EH (p::r)=EH r++AY p.2:=by
 unfold EH;rw[List.reverse_cons,List.flatMap_append,dJ,List.flatMap_nil,aL]
theorem Hl:∀ws:List (V×Tr),(EH ws).length=cnt ws
 |[]=>rfl
 |p::r=>by
  rw[FC,af,Ee,Hl r];show _=p.2.nd+cnt r;lia
theorem E7{α:Type}(ws:List α):ws=[]\/∃ws0 p,ws=ws0++[p]:=by
 by_cases h:ws=[]
 .exact .inl h
 .exact .inr ⟨ws.dropLast,ws.getLast h,(List.dropLast_concat_getLast h).symm⟩
theorem Lo{ws0:List (V×Tr)}{p:V×Tr}:((ws0++[p]).map (·.1))[((ws0++[p]).map (·.1)).length-1]?=some p.1:=by
 rw[aa,af,bF,dG,aB,bD (ah _),c9];rfl
theorem LC{ws0:List (V×Tr)}{p:V×Tr}:((ws0++[p]).map (·.1)).dropLast=ws0.map (·.1):=by rw[aj,dF,dm]
def wt:En->Int
 |.w _=>1
 |.c _ _=>-1
def wts(es:List En):Int:=(es.map wt).sum
theorem Jk(a b:List En):wts (a++b)=wts a+wts b:=by
 unfold wts;rw[aj,List.sum_append]
theorem Ks(e:En)(b:List En):wts (e::b)=wt e+wts b:=by
 unfold wts;rw[aS,List.sum_cons]
theorem Dk:∀t:Tr,wts (AY t)=1
 |.whole _=>rfl
 |.cut u k x y=>by
  rw[AY,Ks,Jk,Dk x,Dk y];rfl
theorem Gr:∀ws:List (V×Tr),wts (EH ws)=ws.length
 |[]=>rfl
 |p::r=>by rw[FC,Jk,Dk,Gr r,aI];lia
theorem Jj:∀(t:Tr)(a b:List En),AY t=a++b->b≠[]->1<=wts b
 |.whole m,a,b,h,hb=>by
  have h:[En.w m]=a++b:=h;cases a with
  |nil=>rw[bN]at h;rw[<-h];exact aE 1
  |cons e r =>
   have:=congrArg List.length h;simp only[af,aI,ce]at this;exact absurd (ek.mp (by lia)) hb
 |.cut u k x y,a,b,h,hb=>by
  cases a with
  |nil =>
   rw[bN]at h;rw[<-h,Dk];decide
  |cons e r =>
   rw[AY,bJ]at h;have h2:=List.cons.inj h |>.2;rcases List.append_eq_append_iff.mp h2 with ⟨c,hc,hd⟩|⟨c,hc,hd⟩
   .exact Jj y c b hd hb
   .rw[hd,Jk,Dk];by_cases e:c=[]
    .rw[e];decide
    .have:=Jj x r c hc e;lia
theorem Hq:∀(t t':Tr)(r r':List En),AY t++r=AY t'++r'->t=t'/\r=r'
 |.whole m,.whole m',r,r',h=>by
  have h:En.w m::r=En.w m'::r':=h;injection h with h1 h2;injection h1 with h1;exact⟨by rw[h1],h2⟩
 |.whole m,.cut u k x y,r,r',h=>by
  have h:En.w m::r=En.c u k::(AY x++AY y++r'):=h;injection h with h1 _;cases h1
 |.cut u k x y,.whole m,r,r',h=>by
  have h:En.c u k::(AY x++AY y++r)=En.w m::r':=h;injection h with h1 _;cases h1
 |.cut u k x y,.cut u' k' x' y',r,r',h=>by
  have h:En.c u k::(AY x++AY y++r)=En.c u' k'::(AY x'++AY y'++r'):=h;injection h with h1 h2;injection h1 with h3 h4;rw[bi,bi]at h2;obtain⟨e1,h5⟩:=Hq x x' _ _ h2;obtain⟨e2,h6⟩:=Hq y y' _ _ h5;exact⟨by rw[h3,h4,e1,e2],h6⟩
inductive FV(cW cU cL:Addr)(vs:LUz)(H:Hp)(Q:VK)(E:XK):Prop
 |mk (u:Bool) (k:Int) (v1 v2:V) (y1 y2:Tr) (h0:vs=[.str (wd u),.int k,v1,v2]) (h1:Obj cW cU cL H y1 v1) (h2:Obj cW cU cL H y2 v2) (h3:∀v' H',Same H H'->Obj cW cU cL H' (.cut u k y1 y2) v'->Q v' H'):FV cW cU cL vs H Q E
def E6(cW cU cL:Addr) :Sp:=λ vs H Q E=>FV cW cU cL vs H Q E
theorem KY{f:Addr}{fd:FuncData}(F:Fun K "cut_from" "cut_from" EB f fd)(T:Txt mg tk)(K_Upright:MO P w K mg base 1 "Upright" cU ["self","at","first","other"] (Nd cU))(K_Level:MO P w K mg base 1 "Level" cL ["self","at","first","other"] (Nd cL)) :
  A5 P w K mg base CX0 3 f fd ["word","at","first","other"] (E6 cW cU cL):=by
 have S:An ["word","at","first","other"] ["word","at","first","other"] (Ai EB):=fsk;refine F.g S ?_;rintro vs H Q E ⟨u,k,v1,v2,y1,y2,rfl,o1,o2,q⟩;refine⟨rfl,λ cdv A outer s hr=>?_⟩;refine⟨_,(Ac (A7 (Ax BU (pv 0) (A9 (v:=.str "upright") rfl T.g_UPRIGHT_cuts ⟨_,rfl⟩) (Av _)) (Ah (Ap (Nx K_Upright hr (Aa (pv 1) (Aa (pv 2) (Aa (pv 3) Ab)))))) Az)
  (Ah (Ap (Nx K_Level hr (Aa (pv 1) (Aa (pv 2) (Aa (pv 3) Ab))))))),?_⟩
 cases u with
 |true =>
  refine⟨_,rfl,rfl,_,rfl,Bt (Fr true true) ⟨_,rfl,_,rfl,_,rfl,λ x dx nx ndx nex=>⟨x,dx,k,v1,v2,rfl,Af,λ H3 s3 e3=>⟨rfl,?_⟩⟩⟩⟩;have s4:Same H H3:=λ b o e=>s3 b o (Ae e nx) (F9 nx ndx b o e);exact q _ _ s4 (by rw[Obj];exact⟨x,dx,v1,v2,rfl,e3,o1.same s4,o2.same s4⟩)
 |false =>
  refine⟨_,rfl,rfl,_,rfl,AG (Fr false true) ⟨_,rfl,_,rfl,_,rfl,λ x dx nx ndx nex=>⟨x,dx,k,v1,v2,rfl,Af,λ H3 s3 e3=>⟨rfl,?_⟩⟩⟩⟩;have s4:Same H H3:=λ b o e=>s3 b o (Ae e nx) (F9 nx ndx b o e);exact q _ _ s4 (by rw[Obj];exact⟨x,dx,v1,v2,rfl,e3,o1.same s4,o2.same s4⟩)
inductive LV(K:Frag)(cW cU cL:Addr)(vs:LUz)(H:Hp)(Q:VK)(E:XK):Prop
 |mk (l:Addr) (xs:LUz) (t:Tr) (h0:vs=[.ref l]) (h1:SqL K H l xs) (h2:EnsAt H xs (AY t)) (h3:t.nd<=400) (h4:∀v' H',Same H H'->Obj cW cU cL H' t v'->Q v' H'):LV K cW cU cL vs H Q E
def Jv(K:Frag)(cW cU cL:Addr) :Sp:=λ vs H Q E=>LV K cW cU cL vs H Q E
theorem OH{es:List En}{i:Nat}{e:En}(hi:i<es.length)(h:es[es.length-1-i]?=some e):es.drop (es.length-(i+1))=e::es.drop (es.length-i):=by
 have hk:es.length-1-i<es.length:=by lia
 rw[show es.length-(i+1)=es.length-1-i by lia,cN hk];rw[aq hk]at h;rw[Option.some.inj h,show es.length-1-i+1=es.length-i by lia]
theorem JH{f:Addr}{fd:FuncData}(F:Fun K "tree_from" "tree_from" DU f fd)(T:Txt mg tk)(R:RT mg K cT cW cU cL)(K_Whole:MO P w K mg base 1 "Whole" cW ["self","mark"] (Pr cW))(D_cut_from:A2 P w K mg base 3 "cut_from" ["word","at","first","other"] (E6 cW cU cL)) :
  A5 P w K mg base CX0 4 f fd ["entries"] (Jv K cW cU cL):=by
 have S:An ["entries","done","word","number","first","other"] ["entries"] (Ai DU):=fsk;refine F.g S ?_;rintro vs H Q E ⟨l,xs,t,rfl,hl,hen,hn,q⟩;refine⟨rfl,λ cdv A outer s hr=>?_⟩;refine⟨_,(Ac (Ar (i:=1) S.nd rfl (av rfl) (AJ Ab))
  (Ac (AN PassesOwn.never rfl (Rg rfl T.z_reversed (Aa (pv 0) Ab)) (Bz rfl (Au (Al (i:=2) S.nd rfl (av rfl)) (Au (Al (i:=3) S.nd rfl (av rfl)) AZ))) (Ah (A7 (Ax BU (pv 2) (A9 (v:=.str "whole") rfl T.g_WHOLE ⟨_,rfl⟩) (Av _)) (Ah (AS (BD (pv 1) (Aa (Nx K_Whole hr (Aa (pv 3) Ab)) Ab)))) (Ac (Ar (i:=4) S.nd rfl (av rfl) (GA br cr cq JT (pv 1)))
  (Ac (Ar (i:=5) S.nd rfl (av rfl) (GA br cr cq JT (pv 1)))
  (Ah (AS (BD (pv 1) (Aa (Aw D_cut_from hr (Aa (pv 2) (Aa (pv 3) (Aa (pv 4) (Aa (pv 5) Ab))))) Ab)))))))))
  (Ah (Ap (GA br cr cq JT (pv 1)))))),?_⟩
 refine⟨Ay 0,λ ld hld=>⟨_,rfl,l,xs,rfl,(Same.new hld).seq hl,?_⟩⟩;have hxl:=hen.len;have hel:=Ee t;refine R8 (K:=K) (a:=l) (xs:=xs) (λ i σ H'=>∃(ws:List (V×Tr))(x2 x3 x4 x5:Option V),σ=[some (.ref l),some (.ref ld),x2,x3,x4,x5]/\Same H H'/\H' ld=some (.lst (ws.map (·.1)))/\(∀p∈ws,Obj cW cU cL H' p.2 p.1)/\(AY t).drop ((AY t).length-i)=EH ws)
  ⟨[],_,_,_,_,rfl,Same.new hld,Af,(λ p hp=>(nomatch hp)),by rw[Nat.sub_zero,List.drop_length];rfl⟩ (λ i σ H' _ hp=>let ⟨_,_,_,_,_,_,s,_⟩:=hp;s.seq hl) ?_ ?_
 .rintro i v σ H' hv hi ⟨ws,x2,x3,x4,x5,rfl,s1,hd,hob,heq⟩;obtain⟨e,a,he,rfl,ha⟩:=hen.get hv;have ha':=s1 _ _ ha;rw[hxl]at he hi;have hdr:=OH hi he;have wl:ws.length<=400:=by
   have h1:=Kk ws;have h2:=Hl ws;rw[<-heq,bp]at h2;lia
  cases e with
  |w m =>
   refine⟨a,_,rfl,SqT.of ha',rfl,_,_,rfl,_,_,rfl,rfl,?_⟩;refine⟨_,rfl,rfl,_,rfl,Bt (decide_eq_true rfl) ?_⟩;refine⟨_,rfl,.inl ⟨rfl,_,SqL.of hd⟩,_,rfl,λ x dx nx ndx nex=>⟨x,dx,_,rfl,Af,rfl,?_⟩⟩;have s2:Same H' (upd (upd (upd H' dx (.own x)) x (.ins cW dx [])) x (.ins cW dx (wF (GX m)))):=λ b o e=>by
    rw[Ag (Ae e nx)];exact F9 nx ndx b o e
   have e2:(upd (upd (upd H' dx (.own x)) x (.ins cW dx [])) x (.ins cW dx (wF (GX m)))) x=some (.ins cW dx (wF (GX m))):=Af;generalize upd (upd (upd H' dx (.own x)) x (.ins cW dx [])) x (.ins cW dx (wF (GX m)))=H2 at s2 e2 |-;have d2:=s2 _ _ hd;refine⟨ld,_,.ref x,rfl,rfl,d2,Am (by rw[aa];lia),?_⟩;have k3:Kp H2 (upd H2 ld (.lst (ws.map (·.1)++[.ref x]))):=Kp.put d2;refine⟨ws++[(.ref x,.whole m)],_,_,_,_,rfl,λ b o e=>?_,?_,λ p hp=>?_,?_⟩
   .rw[Ag (Ae e hld)];exact s2 b o (s1 b o e)
   .rw[Af,aj];rfl
   .rcases ai.mp hp with hp|hp
    .exact((hob p hp).same s2).kp k3
    .rw[ad.mp hp,Obj];exact⟨x,dx,rfl,k3 _ _ e2 (by intro xs z;cases z)⟩
   .rw[hdr,heq,Ca];rfl
  |c u k =>
   have big:2<=ws.length:=by
    have h1:=Jj t ((AY t).take ((AY t).length-(i+1))) ((AY t).drop ((AY t).length-(i+1))) (cw _ _).symm (by rw[hdr];intro z;cases z);rw[hdr,heq,Ks,Gr]at h1;have:wt (.c u k)=-1:=rfl;lia
   obtain rfl|⟨ws1,p1,rfl⟩:=E7 ws
   .exact absurd big (by decide)
   obtain rfl|⟨ws2,p2,rfl⟩:=E7 ws1
   .exact absurd big (by simp)
   refine⟨a,_,rfl,SqT.of ha',rfl,_,_,rfl,_,_,rfl,rfl,?_⟩;refine⟨_,rfl,rfl,_,rfl,AG (OV u) ?_⟩;refine⟨_,rfl,.inl ⟨rfl,_,SqL.of hd⟩,ld,_,p1.1,rfl,rfl,hd,Lo,?_⟩;rw[LC];have k2:Kp H' (upd H' ld (.lst ((ws2++[p2]).map (·.1)))):=Kp.put hd;have s2:Same H (upd H' ld (.lst ((ws2++[p2]).map (·.1)))):=λ b o e=>by rw[Ag (Ae e hld)];exact s1 b o e
   have d2:(upd H' ld (.lst ((ws2++[p2]).map (·.1)))) ld=some (.lst ((ws2++[p2]).map (·.1))):=Af;generalize upd H' ld (.lst ((ws2++[p2]).map (·.1)))=H2 at k2 s2 d2 |-;refine⟨_,rfl,.inl ⟨rfl,_,SqL.of d2⟩,ld,_,p2.1,rfl,rfl,d2,Lo,?_⟩;rw[LC];have k3:Kp H2 (upd H2 ld (.lst (ws2.map (·.1)))):=Kp.put d2;have s3:Same H (upd H2 ld (.lst (ws2.map (·.1)))):=λ b o e=>by rw[Ag (Ae e hld)];exact s2 b o e
   have d3:(upd H2 ld (.lst (ws2.map (·.1)))) ld=some (.lst (ws2.map (·.1))):=Af;generalize upd H2 ld (.lst (ws2.map (·.1)))=H3 at k3 s3 d3 |-;have kk:=k2.trans k3;refine⟨_,rfl,.inl ⟨rfl,_,SqL.of d3⟩,_,rfl,_,rfl,_,rfl,_,rfl,u,k,p1.1,p2.1,p1.2,p2.2,rfl,(hob p1 (by simp)).kp kk,(hob p2 (by simp)).kp kk,λ v' H4 s4 o4=>?_⟩;have d4:=s4 _ _ d3;rw[af,af]at wl;refine⟨ld,_,v',rfl,rfl,d4,Am (by rw[aa];lia),?_⟩;have k5:Kp H4 (upd H4 ld (.lst (ws2.map (·.1)++[v']))):=Kp.put d4;refine⟨ws2++[(v',.cut u k p1.2 p2.2)],_,_,_,_,rfl,λ b o e=>?_,?_,λ p hp=>?_,?_⟩
   .rw[Ag (Ae e hld)];exact s4 b o (s3 b o e)
   .rw[Af,aj];rfl
   .rcases ai.mp hp with hp|hp
    .exact((((hob p (by simp[hp])).kp kk).same s4)).kp k5
    .rw[ad.mp hp];exact o4.kp k5
   .rw[hdr,heq,Ca,Ca,Ca];show .c u k::(AY p1.2++(AY p2.2++EH ws2))=.c u k::(AY p1.2++AY p2.2)++EH ws2;rw[bJ,bi]
 .rintro σ H' ⟨ws,x2,x3,x4,x5,rfl,s1,hd,hob,heq⟩;rw[hxl,c9,List.drop_zero]at heq;have one:ws.length=1:=by
   have h1:=Dk t;rw[heq,Gr]at h1;lia
  obtain⟨p,rfl⟩:∃p,ws=[p]:=by
   match ws,one with
   |[p],_=>exact⟨p,rfl⟩
  have hp:=hob p (by simp);have et:p.2=t:=by
   have h1:AY t++[]=AY p.2++[]:=by
    rw[aL,heq];rfl
   exact(Hq _ _ _ _ h1).1.symm
  refine⟨_,rfl,.inl ⟨rfl,_,SqL.of hd⟩,ld,_,p.1,rfl,rfl,hd,rfl,?_⟩;rw[et]at hp;exact q _ _ (λ b o e=>by rw[Ag (Ae e hld)];exact s1 b o e) (hp.kp (Kp.put hd))
abbrev Rk:=GB.Rc
abbrev Rk.vs(p:Rk):LUz:=[.int p.t,.int p.l,.int p.b,.int p.r]
def Rk.len(p:Rk)(u:Bool):Int:=if u then p.r-p.l else p.b-p.t
def Rk.fst(p:Rk)(u:Bool)(k:Int):Rk:=if u then ⟨p.t,p.l,p.b,p.l+k⟩ else ⟨p.t,p.l,p.t+k,p.r⟩
def Rk.oth(p:Rk)(u:Bool)(k:Int):Rk:=if u then ⟨p.t,p.l+k,p.b,p.r⟩ else ⟨p.t+k,p.l,p.b,p.r⟩
def Ih(p:Rk)(t:Tr):Prop:=Fit t (p.r-p.l) (p.b-p.t)
theorem fitR_cut{p:Rk}{u:Bool}{k:Int}{x y:Tr}:Ih p (.cut u k x y)↔(1<=k/\k<p.len u)/\Ih (p.fst u k) x/\Ih (p.oth u k) y:=by
 unfold Ih Rk.len Rk.fst Rk.oth;rw[Fit];cases u with
 |true =>
  show(1<=k/\k<p.r-p.l/\Fit x k (p.b-p.t)/\Fit y (p.r-p.l-k) (p.b-p.t))↔((1<=k/\k<p.r-p.l)/\Fit x (p.l+k-p.l) (p.b-p.t)/\Fit y (p.r-(p.l+k)) (p.b-p.t));rw[show p.l+k-p.l=k by lia,show p.r-(p.l+k)=p.r-p.l-k by lia];exact⟨λ⟨a,b,c,d⟩=>⟨⟨a,b⟩,c,d⟩,λ⟨⟨a,b⟩,c,d⟩=>⟨a,b,c,d⟩⟩
 |false =>
  show(1<=k/\k<p.b-p.t/\Fit x (p.r-p.l) k/\Fit y (p.r-p.l) (p.b-p.t-k))↔((1<=k/\k<p.b-p.t)/\Fit x (p.r-p.l) (p.t+k-p.t)/\Fit y (p.r-p.l) (p.b-(p.t+k)));rw[show p.t+k-p.t=k by lia,show p.b-(p.t+k)=p.b-p.t-k by lia];exact⟨λ⟨a,b,c,d⟩=>⟨⟨a,b⟩,c,d⟩,λ⟨⟨a,b⟩,c,d⟩=>⟨a,b,c,d⟩⟩
abbrev PT:=Addr×Addr×Rk×Option Int
abbrev pcs(ts:List PT):LUz:=ts.map λ t=>V.ref t.1
abbrev cons(ts:List PT):List (Rk×Option Int):=ts.map λ t=>t.2.2
def PcO(H:Hp)(ts:List PT):Prop:=∀t∈ts,H t.1=some (.tup [.ref t.2.1,GX t.2.2.2])/\H t.2.1=some (.tup t.2.2.1.vs)
theorem PcO.same{H H':Hp}{ts:List PT}(s:Same H H')(h:PcO H ts):PcO H' ts:=λ t ht=>⟨s _ _ (h t ht).1,s _ _ (h t ht).2⟩
inductive Od(vs:LUz)(H:Hp)(Q:VK)(E:XK):Prop
 |mk (a:Addr) (p:Rk) (u:Bool) (k:Int) (h0:vs=[.ref a,.str (wd u),.int k]) (h1:H a=some (.tup p.vs)) (h2:∀x,H x=none->Q (.ref x) (upd H x (.tup (p.fst u k).vs))):Od vs H Q E
def Ps:Sp:=λ vs H Q E=>Od vs H Q E
inductive NZ(vs:LUz)(H:Hp)(Q:VK)(E:XK):Prop
 |mk (a:Addr) (p:Rk) (u:Bool) (k:Int) (h0:vs=[.ref a,.str (wd u),.int k]) (h1:H a=some (.tup p.vs)) (h2:∀x,H x=none->Q (.ref x) (upd H x (.tup (p.oth u k).vs))):NZ vs H Q E
def Po:Sp:=λ vs H Q E=>NZ vs H Q E
theorem GM{f:Addr}{fd:FuncData}(F:Fun K "first_piece" "first_piece" CY f fd)(T:Txt mg tk):A5 P w K mg base CX0 1 f fd ["piece","word","at"] Ps:=by
 have S:An ["piece","word","at"] ["piece","word","at"] (Ai CY):=fsk;refine F.g S ?_;rintro vs H Q E ⟨a,p,u,k,rfl,ha,q⟩;refine⟨rfl,λ cdv A outer s hr=>?_⟩;refine⟨_,(Ac (A7 (Ax BU (pv 1) (A9 (v:=.str "upright") rfl T.g_UPRIGHT_cuts ⟨_,rfl⟩) (Av _)) (Ah (Ap (A3 (Aa (Aj Ak (pv 0) Ad (λ_ _=>rfl)) (Aa (Aj Ak (pv 0) Ad (λ_ _=>rfl)) (Aa (Aj Ak (pv 0) Ad (λ_ _=>rfl)) (Aa (Aq A4 (Aj Ak (pv 0) Ad (λ_ _=>rfl)) (pv 2)) Ab))))))) Az)
  (Ah (Ap (A3 (Aa (Aj Ak (pv 0) Ad (λ_ _=>rfl)) (Aa (Aj Ak (pv 0) Ad (λ_ _=>rfl)) (Aa (Aq A4 (Aj Ak (pv 0) Ad (λ_ _=>rfl)) (pv 2)) (Aa (Aj Ak (pv 0) Ad (λ_ _=>rfl)) Ab)))))))),?_⟩
 cases u with
 |true=>exact⟨_,rfl,rfl,_,rfl,Bt (Fr true true) ⟨_,rfl,a,_,_,_,rfl,rfl,SqT.of ha,at0,_,rfl,a,_,_,_,rfl,rfl,SqT.of ha,at1,_,rfl,a,_,_,_,rfl,rfl,SqT.of ha,at2,_,rfl,a,_,_,_,rfl,rfl,SqT.of ha,at1,_,rfl,_,_,rfl,rfl,Ay 4,q⟩⟩
 |false=>exact⟨_,rfl,rfl,_,rfl,AG (Fr false true) ⟨_,rfl,a,_,_,_,rfl,rfl,SqT.of ha,at0,_,rfl,a,_,_,_,rfl,rfl,SqT.of ha,at1,_,rfl,a,_,_,_,rfl,rfl,SqT.of ha,at0,_,rfl,_,_,rfl,rfl,_,rfl,a,_,_,_,rfl,rfl,SqT.of ha,at3,Ay 4,q⟩⟩
theorem GH{f:Addr}{fd:FuncData}(F:Fun K "other_piece" "other_piece" CU f fd)(T:Txt mg tk):A5 P w K mg base CX0 1 f fd ["piece","word","at"] Po:=by
 have S:An ["piece","word","at"] ["piece","word","at"] (Ai CU):=fsk;refine F.g S ?_;rintro vs H Q E ⟨a,p,u,k,rfl,ha,q⟩;refine⟨rfl,λ cdv A outer s hr=>?_⟩;refine⟨_,(Ac (A7 (Ax BU (pv 1) (A9 (v:=.str "upright") rfl T.g_UPRIGHT_cuts ⟨_,rfl⟩) (Av _)) (Ah (Ap (A3 (Aa (Aj Ak (pv 0) Ad (λ_ _=>rfl)) (Aa (Aq A4 (Aj Ak (pv 0) Ad (λ_ _=>rfl)) (pv 2)) (Aa (Aj Ak (pv 0) Ad (λ_ _=>rfl)) (Aa (Aj Ak (pv 0) Ad (λ_ _=>rfl)) Ab))))))) Az)
  (Ah (Ap (A3 (Aa (Aq A4 (Aj Ak (pv 0) Ad (λ_ _=>rfl)) (pv 2)) (Aa (Aj Ak (pv 0) Ad (λ_ _=>rfl)) (Aa (Aj Ak (pv 0) Ad (λ_ _=>rfl)) (Aa (Aj Ak (pv 0) Ad (λ_ _=>rfl)) Ab)))))))),?_⟩
 cases u with
 |true=>exact⟨_,rfl,rfl,_,rfl,Bt (Fr true true) ⟨_,rfl,a,_,_,_,rfl,rfl,SqT.of ha,at0,_,rfl,a,_,_,_,rfl,rfl,SqT.of ha,at1,_,rfl,_,_,rfl,rfl,_,rfl,a,_,_,_,rfl,rfl,SqT.of ha,at2,_,rfl,a,_,_,_,rfl,rfl,SqT.of ha,at3,Ay 4,q⟩⟩
 |false=>exact⟨_,rfl,rfl,_,rfl,AG (Fr false true) ⟨_,rfl,a,_,_,_,rfl,rfl,SqT.of ha,at0,_,rfl,_,_,rfl,rfl,_,rfl,a,_,_,_,rfl,rfl,SqT.of ha,at1,_,rfl,a,_,_,_,rfl,rfl,SqT.of ha,at2,_,rfl,a,_,_,_,rfl,rfl,SqT.of ha,at3,Ay 4,q⟩⟩
def PsAt(H:Hp)(ws:List (Addr×Rk×Tr)):Prop:=∀p∈ws,H p.1=some (.tup p.2.1.vs)
abbrev trs(ws:List (Addr×Rk×Tr)):List (V×Tr):=ws.map λ p=>(V.ref p.1,p.2.2)
abbrev B8(ws:List (Addr×Rk×Tr)):LUz:=ws.map λ p=>V.ref p.1
theorem PsAt.kp{H H':Hp}{ws:List (Addr×Rk×Tr)}(h:PsAt H ws)(k:Kp H H'):PsAt H' ws:=λ p hp=>k _ _ (h p hp) (by intro xs z;cases z)
theorem O7{ws0:List (Addr×Rk×Tr)}{p:Addr×Rk×Tr}:(B8 (ws0++[p]))[(B8 (ws0++[p])).length-1]?=some (.ref p.1):=by
 rw[aa,af,bF,dG,aB,bD (ah _),c9];rfl
theorem OG{ws0:List (Addr×Rk×Tr)}{p:Addr×Rk×Tr}:(B8 (ws0++[p])).dropLast=B8 ws0:=by
 show(List.map (λ p=>V.ref p.1) (ws0++[p])).dropLast=_;rw[aj,dF,dm]
theorem Cf(ws:List (Addr×Rk×Tr))(p:Addr×Rk×Tr):trs (ws++[p])=trs ws++[(V.ref p.1,p.2.2)]:=by
 show List.map (λ p=>(V.ref p.1,p.2.2)) (ws++[p])=_;rw[aj];rfl
theorem I0(ws:List (Addr×Rk×Tr))(p:Addr×Rk×Tr):B8 (ws++[p])=B8 ws++[V.ref p.1]:=by
 show List.map (λ p=>V.ref p.1) (ws++[p])=_;rw[aj];rfl
theorem P8(ts:List PT)(t:PT):pcs (ts++[t])=pcs ts++[V.ref t.1]:=by
 show List.map (λ p=>V.ref p.1) (ts++[t])=_;rw[aj];rfl
theorem OK(ts:List PT)(t:PT):cons (ts++[t])=cons ts++[t.2.2]:=by
 show List.map (λ p=>p.2.2) (ts++[t])=_;rw[aj];rfl
def RP(H:Hp)(l:Addr):Prop:=∀o,H l=some o->∃ps,o=.tbl ps
theorem Vf{H H':Hp}{l:Addr}(s:SameN H H')(h:H' l=none):RP H l:=λ o e=>aZ λ z=>by
 have:=s l o e (λ ps e'=>z ⟨ps,e'⟩);rw[h]at this;cases this
theorem TabOk.upd{pos:Pos}{qual:Str}{T l:Addr}{H:Hp}{xs ys:LUz}(h:TabOk pos qual T H)(hl:H l=some (.lst xs)):TabOk pos qual T (upd H l (.lst ys)):=by
 obtain⟨ps,e,t,c⟩:=h;refine⟨ps,by rw[Ag (λ z=>by rw[z,hl]at e;cases e)];exact e,t,?_⟩;rcases c with c|⟨c',c1,c2⟩
 .exact .inl c
 .exact .inr ⟨c',c1,by rw[Ag (λ z=>by rw[z,hl]at c2;cases c2)];exact c2⟩
def Rk.lo(p:Rk)(u:Bool):Int:=if u then p.l else p.t
def Rk.hi(p:Rk)(u:Bool):Int:=if u then p.r else p.b
theorem DY{p:Rk}{u:Bool}:p.len u=p.hi u-p.lo u:=by cases u<;>rfl
abbrev Rk.ok(p:Rk):Prop:=p.t<p.b/\p.l<p.r
theorem PH:∀t:Tr,t.nd+1=2*t.sz
 |.whole _=>by rw[Tr.nd,Tr.sz]
 |.cut _ _ x y=>by have:=PH x;have:=PH y;rw[Tr.nd,Tr.sz];lia
theorem none_of{H H':Hp}{l:Addr}(s:Same H H')(h:H' l=none):H l=none:=by
 cases e:H l with
 |none=>rfl
 |some o=>rw[s _ _ e]at h;cases h
def sd(u:Bool):Int:=if u then 1 else 0
theorem Hv{p:Rk}{u:Bool}:atI p.vs (sd u)=some (.int (p.lo u)):=by cases u<;>rfl
theorem LJ{p:Rk}{u:Bool}:atI p.vs (sd u+2)=some (.int (p.hi u)):=by cases u<;>rfl
theorem Dg{p:Rk}(h:p.ok)(u:Bool):p.lo u<p.hi u:=by
 cases u
 .exact h.1
 .exact h.2
theorem Nz{ts:List PT}{i:Nat}{x:V}(h:(pcs ts)[i]?=some x):∃u,ts[i]?=some u/\x=.ref u.1:=by
 rw[aB]at h;cases e:ts[i]? with
 |none=>rw[e]at h;cases h
 |some u=>rw[e]at h;exact⟨u,rfl,(Option.some.inj h).symm⟩
theorem RY{p:Rk}{u:Bool}{a:Int}(h:∀v,0<=p.lo v/\p.hi v<=12)(a1:1<=a)(a2:a<p.len u):(∀v,0<=(p.fst u a).lo v/\(p.fst u a).hi v<=12)/\(∀v,0<=(p.oth u a).lo v/\(p.oth u a).hi v<=12)/\(p.fst u a).len true+(p.fst u a).len false<p.len true+p.len false/\(p.oth u a).len true+(p.oth u a).len false<p.len true+p.len false:=by
 obtain⟨x1,x2⟩:=h true;obtain⟨y1,y2⟩:=h false;have x1:0<=p.l:=x1;have x2:p.r<=12:=x2;have y1:0<=p.t:=y1;have y2:p.b<=12:=y2;cases u with
 |true =>
  have a2:a<p.r-p.l:=a2;refine⟨λ v=>?_,λ v=>?_,?_,?_⟩
  .cases v
   .exact⟨y1,y2⟩
   .exact⟨x1,show p.l+a<=12 by lia⟩
  .cases v
   .exact⟨y1,y2⟩
   .exact⟨show 0<=p.l+a by lia,x2⟩
  .show p.l+a-p.l+(p.b-p.t)<p.r-p.l+(p.b-p.t);lia
  .show p.r-(p.l+a)+(p.b-p.t)<p.r-p.l+(p.b-p.t);lia
 |false =>
  have a2:a<p.b-p.t:=a2;refine⟨λ v=>?_,λ v=>?_,?_,?_⟩
  .cases v
   .exact⟨y1,show p.t+a<=12 by lia⟩
   .exact⟨x1,x2⟩
  .cases v
   .exact⟨show 0<=p.t+a by lia,y2⟩
   .exact⟨x1,x2⟩
  .show p.r-p.l+(p.t+a-p.t)<p.r-p.l+(p.b-p.t);lia
  .show p.r-p.l+(p.b-(p.t+a))<p.r-p.l+(p.b-p.t);lia
def OR(en:Rk->En)(D:Rk->Prop):Tr->Rk->Prop
 |.whole m,p=>D p/\en p=.w m
 |.cut u k x y,p=>D p/\en p=.c u k/\OR en D x (p.fst u k)/\OR en D y (p.oth u k)
def Bi(u:Bool)(a:Int)(r:Rk):Bool:=decide (r.lo u<a)&&decide (a<r.hi u)
theorem brkR_iff{u:Bool}{a:Int}{r:Rk}:Bi u a r=true↔r.lo u<a/\a<r.hi u:=by
 unfold Bi;rw[aK,decide_eq_true_iff,decide_eq_true_iff]
def DE(rs:List Rk)(u:Bool)(lo:Int):Nat->List Int
 |0=>[]
 |n+1=>DE rs u lo n++if rs.any (Bi u (lo+1+n))=true then [] else [lo+1+n]
def lns(rs:List Rk)(p:Rk)(u:Bool):List Int:=DE rs u (p.lo u) (p.hi u-(p.lo u+1)).toNat
theorem Ll{rs:List Rk}{u:Bool}{lo:Int}:∀{n:Nat}{a:Int},a∈DE rs u lo n↔lo<a/\a<lo+1+n/\∀r∈rs,¬(r.lo u<a/\a<r.hi u)
 |0,a=>by
  rw[DE];exact⟨λ h=>absurd h aU,λ h=>by lia⟩
 |n+1,a=>by
  rw[DE,ai,Ll]
  constructor
  .rintro(⟨h1,h2,h3⟩|h)
   .exact⟨h1,by lia,h3⟩
   .split at h
    .cases h
    .rename_i hn;cases ad.mp h;refine⟨by lia,by lia,λ r hr z=>hn ?_⟩;exact cy.mpr ⟨r,hr,brkR_iff.mpr z⟩
  .rintro⟨h1,h2,h3⟩;by_cases e:a=lo+1+n
   .right
    subst e;rw[if_neg (λ z=>by obtain⟨r,hr,hz⟩:=cy.mp z;exact h3 r hr (brkR_iff.mp hz))];exact ad.mpr rfl
   .exact .inl ⟨h1,by lia,h3⟩
theorem JV{rs:List Rk}{p:Rk}{u:Bool}{a:Int}(h:p.ok):a∈lns rs p u↔p.lo u<a/\a<p.hi u/\∀r∈rs,¬(r.lo u<a/\a<r.hi u):=by
 have:p.lo u<p.hi u:=Dg h u;unfold lns;rw[Ll]
 constructor
 .rintro⟨a1,a2,a3⟩;exact⟨a1,by lia,a3⟩
 .rintro⟨a1,a2,a3⟩;exact⟨a1,by lia,a3⟩
def DP(rs:List Rk)(p:Rk):List (Bool×Int):=(lns rs p true).map (λ a=>(true,a))++(lns rs p false).map (λ a=>(false,a))
theorem GV{rs:List Rk}{p:Rk}{c:Bool×Int}(h:p.ok):c∈DP rs p↔p.lo c.1<c.2/\c.2<p.hi c.1/\∀r∈rs,¬(r.lo c.1<c.2/\c.2<r.hi c.1):=by
 obtain⟨u,a⟩:=c;unfold DP;rw[ai,aw,aw]
 constructor
 .rintro(⟨b,hb,e⟩|⟨b,hb,e⟩)<;>cases e<;>exact(JV h).mp hb
 .intro z;cases u
  .exact .inr ⟨a,(JV h).mpr z,rfl⟩
  .exact .inl ⟨a,(JV h).mpr z,rfl⟩
def Ins(r p:Rk):Prop:=p.t<=r.t/\p.l<=r.l/\r.b<=p.b/\r.r<=p.r
instance (r p:Rk):Decidable (Ins r p):=inferInstanceAs (Decidable (_/\_/\_/\_))
def inP(L:List (Rk×Option Int))(p:Rk):List (Rk×Option Int):=L.filter λ g=>decide (Ins g.1 p)
def PnO(H:Hp)(ts:List (Addr×Rk)):Prop:=∀t∈ts,H t.1=some (.tup t.2.vs)
theorem PnO.same{H H':Hp}{ts:List (Addr×Rk)}(h:PnO H ts)(s:Same H H'):PnO H' ts:=λ t ht=>s _ _ (h t ht)
inductive Of(vs:LUz)(H:Hp)(Q:VK)(E:XK):Prop
 |mk (a:Int) (b:Addr) (r:Rk) (u:Bool) (h0:vs=[.int a,.ref b,.int (sd u)]) (h1:H b=some (.tup r.vs)) (h2:Q (.bl (Bi u a r)) H):Of vs H Q E
def Mh:Sp:=λ vs H Q E=>Of vs H Q E
theorem GI{f:Addr}{fd:FuncData}(F:Fun K "line_breaks" "line_breaks" CV f fd):A5 P w K mg base CX0 1 f fd ["line","pane","side"] Mh:=by
 have S:An ["line","pane","side"] ["line","pane","side"] (Ai CV):=fsk;refine F.g S ?_;rintro vs H Q E ⟨a,b,r,u,rfl,hb,q⟩;refine⟨rfl,λ cdv A outer s hr=>?_⟩;refine⟨_,(Ah (Ap (BP AR AR (Aj Ak (pv 1) (pv 2) (λ_ _=>rfl)) (pv 0) (Aj Ak (pv 1) (Aq A4 (pv 2) Ad) (λ_ _=>rfl))))),?_⟩;unfold Bi at q;refine⟨_,rfl,_,rfl,b,_,_,_,rfl,rfl,SqT.of hb,Hv,_,rfl,_,_,rfl,rfl,_,rfl,AF (λ h1=>?_) (λ h1=>?_)⟩
 .rw[h1,d9]at q;exact⟨_,rfl,_,rfl,_,_,rfl,rfl,b,_,_,_,rfl,rfl,SqT.of hb,LJ,_,_,rfl,rfl,q⟩
 .rw[h1]at q;exact q
inductive LU(vs:LUz)(H:Hp)(Q:VK)(E:XK):Prop
 |mk (a:Int) (l:Addr) (ts:List (Addr×Rk)) (u:Bool) (h0:vs=[.int a,.ref l,.int (sd u)]) (h1:H l=some (.lst (Ao ts))) (h2:PnO H ts) (h3:ts.length<=150) (h4:∀H',Same H H'->Q (.bl (!(rcs ts).any (Bi u a))) H'):LU vs H Q E
def Nf:Sp:=λ vs H Q E=>LU vs H Q E
theorem Ga{f:Addr}{fd:FuncData}(F:Fun K "goes_through" "goes_through" C3 f fd)(T:Txt mg tk)(D_line_breaks:A2 P w K mg base 1 "line_breaks" ["line","pane","side"] Mh):A5 P w K mg base CX0 2 f fd ["line","panes","side"] Nf:=by
 have S:An ["line","panes","side"] ["line","panes","side"] (Ai C3):=fsk;refine F.g S ?_;rintro vs H Q E ⟨a,l,ts,u,rfl,hl,hat,few,q⟩;refine⟨rfl,λ cdv A outer s hr=>?_⟩;refine⟨_,(Ah (Ap (JC (A0 Hu rfl T.z_any rfl (Aa (BO rfl (AC (pv 1)) (λ_ _ _ _ _=>pgk (nk ["pane","line","side"])) (λ_ _ _ _ _=>(Aw D_line_breaks hr (Aa (pv 1) (Aa (pv 0) (Aa (pv 2) Ab))))) (N:=["pane","line","side"]) (fr:=[none,some 0,some 2])) Ab))))),?_⟩;refine⟨_,rfl,l,rfl,⟨_,SqL.of hl⟩,λ acc hacc=>B6 (K:=K) (a:=l) (ys:=Ao ts) (λ i xs σ H'=>(∃y,σ=[y,some (.int a),some (.int (sd u))])/\Same H H'/\xs=((rcs ts).take i).map λ p=>V.bl (Bi u a p)) ⟨⟨none,rfl⟩,Same.new hacc,rfl⟩ (λ i xs σ H' _ _ hp=>SqL.of (hp.2.1 _ _ hl)) ?_ ?_⟩
 .rintro i x xs σ H' hx hi hl' hacc' ⟨⟨y,rfl⟩,s4,rfl⟩;obtain⟨t,ht,rfl⟩:=AU hx;have hta:=s4 _ _ (hat t (ao ht));have er:(rcs ts)[i]?=some t.2:=by rw[aB,ht];rfl
  refine⟨_,rfl,_,rfl,_,rfl,a,t.1,t.2,u,rfl,hta,?_⟩;refine cNx.mk (aF (Am (by rw[KF];lia))) hi hl' hacc' ⟨⟨_,rfl⟩,λ c o e=>?_,?_⟩
  .rw[Ag (Ae e hacc)];exact s4 c o e
  .rw[aV,er,aj];rfl
 .rintro xs σ H' hl' hacc' ⟨_,s4,rfl⟩;have e:(Ao ts).length=(rcs ts).length:=by rw[KF,aa]
  rw[e,aN]at hacc';have e2:List.map V.bl ((rcs ts).map (Bi u a))=(rcs ts).map λ p=>V.bl (Bi u a p):=by rw[be (l:=rcs ts)];rfl
  refine⟨acc,(rcs ts).map (Bi u a),rfl,SqL.of (by rw[hacc',e2]),rfl,?_⟩;have:=q H' s4;have e3:((rcs ts).map (Bi u a)).any id=(rcs ts).any (Bi u a):=by rw[eF];rfl
  rw[<-e3]at this;exact⟨_,rfl,this⟩
inductive Ob(vs:LUz)(H:Hp)(Q:VK)(E:XK):Prop
 |mk (b l:Addr) (p:Rk) (ts:List (Addr×Rk)) (u:Bool) (h0:vs=[.ref b,.ref l,.int (sd u)]) (h1:H b=some (.tup p.vs)) (h2:H l=some (.lst (Ao ts))) (h3:PnO H ts) (h4:ts.length<=150) (h5:p.ok) (h6:(∀u,0<=p.lo u/\p.hi u<=12)) (h7:∀c H',Same H H'->H' c=some (.lst ((lns (rcs ts) p u).map V.int))->Q (.ref c) H'):Ob vs H Q E
def Pq:Sp:=λ vs H Q E=>Ob vs H Q E
theorem F5{f:Addr}{fd:FuncData}(F:Fun K "lines_through" "lines_through" Cl f fd)(T:Txt mg tk)(D_goes_through:A2 P w K mg base 2 "goes_through" ["line","panes","side"] Nf):A5 P w K mg base CX0 3 f fd ["block","panes","side"] Pq:=by
 have S:An ["block","panes","side"] ["block","panes","side"] (Ai Cl):=fsk;refine F.g S ?_;rintro vs H Q E ⟨b,l,p,ts,u,rfl,hb,hl,hat,few,pk,pb,q⟩;refine⟨rfl,λ cdv A outer s hr=>?_⟩;refine⟨_,(Ah (Ap (Ch rfl (AT rfl T.z_range (Aa (Aq A4 (Aj Ak (pv 0) (pv 2) (λ_ _=>rfl)) Ad) (Aa (Aj Ak (pv 0) (Aq A4 (pv 2) Ad) (λ_ _=>rfl)) Ab))) (λ_ _ _ _ _=>pgk (nk ["line","panes","side"])) (λ_ _ _ _ _=>(AI (Aw D_goes_through hr (Aa (pv 0) (Aa (pv 1) (Aa (pv 2) Ab)))))) (λ_ _ _ _ _=>(pv 0)) (N:=["line","panes","side"]) (fr:=[none,some 1,some 2])))),?_⟩;obtain⟨b0,b1⟩:=pb u;have hlt:=Dg pk u;refine⟨_,rfl,_,rfl,b,_,_,_,rfl,rfl,SqT.of hb,Hv,_,_,rfl,rfl,_,rfl,_,rfl,_,_,rfl,rfl,b,_,_,_,rfl,rfl,SqT.of hb,LJ,p.lo u+1,p.hi u,rfl,⟨by lia,by lia,by lia,by lia⟩,λ acc hacc=>CM (lo:=p.lo u+1) (n:=(p.hi u-(p.lo u+1)).toNat) (λ i xs σ H'=>(∃y,σ=[y,some (.ref l),some (.int (sd u))])/\Same H H'/\xs=(DE (rcs ts) u (p.lo u) i).map V.int) ⟨⟨none,rfl⟩,Same.new hacc,rfl⟩ ?_ ?_⟩
 .rintro i xs σ H' hi' hxl hacc' ⟨⟨y,rfl⟩,s1,rfl⟩;refine⟨_,rfl,_,rfl,_,rfl,p.lo u+1+i,l,ts,u,rfl,s1 _ _ hl,hat.same s1,few,λ H2 s2=>⟨_,rfl,?_⟩⟩;cases hb':(rcs ts).any (Bi u (p.lo u+1+i)) with
  |true =>
   refine fSk.mk hi' hxl (s2 _ _ hacc') ⟨⟨_,rfl⟩,s1.trans s2,?_⟩;rw[DE,hb',if_pos rfl,aL]
  |false =>
   refine⟨_,rfl,fNx.mk (aF (Am (by lia))) hi' hxl (s2 _ _ hacc') ⟨⟨_,rfl⟩,λ c o e=>?_,?_⟩⟩
   .rw[Ag (Ae e hacc)];exact(s1.trans s2) c o e
   .rw[DE,hb',if_neg ae,aj];rfl
 .rintro xs σ H' hxl hacc' ⟨_,s1,rfl⟩;exact q acc H' s1 hacc'
abbrev pns(ts:List PT):List (Addr×Rk):=ts.map λ t=>(t.2.1,t.2.2.1)
theorem Nu(ts:List PT):rcs (pns ts)=(cons ts).map (·.1):=by
 show List.map _ (List.map _ ts)=List.map _ (List.map _ ts);rw[be,be];rfl
def loQ(q:Rc)(u:Bool):Int:=if u then q.t else q.l
def hiQ(q:Rc)(u:Bool):Int:=if u then q.b else q.r
def On(d o:LD):Prop:=d.1≠o.1/\(o.2.1=d.2.2.1\/o.2.1=d.2.2.2)/\o.2.2.1<d.2.1/\d.2.1<o.2.2.2
def ML(ps:List Rc)(q:Rc):Prop:=∀r c,q.has r c->(own ps r c).has r c/\(∀r' c',(own ps r c).has r' c'->q.has r' c'/\own ps r' c'=own ps r c)
theorem Nm{p:Rc}{r c r' c':Int}(h:p.has r c)(h':p.has r' c'):p.has r c':=⟨h.1,h.2.1,h'.2.2.1,h'.2.2.2⟩
theorem Qv{ps:List Rc}{q:Rc}(ow:ML ps q){r c r' c':Int}(h1:q.has r c)(h2:q.has r' c)(h3:q.has r c')(h4:q.has r' c')(e:own ps r c=own ps r' c)(n:own ps r c'≠own ps r' c'):own ps r c'≠own ps r c/\own ps r' c'≠own ps r' c:=by
 have a:=(ow r c h1).1;have b:(own ps r c).has r' c:=by rw[e];exact(ow r' c h2).1
 constructor
 .intro z;have d:(own ps r c).has r c':=by rw[<-z];exact(ow r c' h3).1
  exact n (z.trans ((ow r c h1).2 r' c' (Nm b d)).2.symm)
 .intro z;have d:(own ps r c).has r' c':=by rw[e,<-z];exact(ow r' c' h4).1
  exact n (((ow r c h1).2 r c' (Nm a d)).2.trans (e.trans z.symm))
theorem NL{ps:List Rc}{q:Rc}(ow:ML ps q){r c r' c':Int}(h1:q.has r c)(h2:q.has r c')(h3:q.has r' c)(h4:q.has r' c')(e:own ps r c=own ps r c')(n:own ps r' c≠own ps r' c'):own ps r' c≠own ps r c/\own ps r' c'≠own ps r c':=by
 have a:=(ow r c h1).1;have b:(own ps r c).has r c':=by rw[e];exact(ow r c' h2).1
 constructor
 .intro z;have d:(own ps r c).has r' c:=by rw[<-z];exact(ow r' c h3).1
  exact n (z.trans ((ow r c h1).2 r' c' (Nm d b)).2.symm)
 .intro z;have d:(own ps r c).has r' c':=by rw[e,<-z];exact(ow r' c' h4).1
  exact n (((ow r c h1).2 r' c (Nm d a)).2.trans (e.trans z.symm))
theorem FA{ps:List Rc}{q:Rc}{r c:Int}(h1:q.t<r)(h2:r<q.b)(h3:q.l<=c)(h4:c<q.r):lvB ps q r c=true↔own ps (r-1) c≠own ps r c:=by
 rw[Ka h1 h2 h3 h4];simp
theorem Ft{ps:List Rc}{q:Rc}{r c:Int}(h1:q.t<=r)(h2:r<q.b)(h3:q.l<c)(h4:c<q.r):upB ps q r c=true↔own ps r (c-1)≠own ps r c:=by
 rw[Jn h1 h2 h3 h4];simp
theorem Kb{ps:List Rc}{q:Rc}{r c:Int}(h1:q.t<r)(h2:r<q.b)(h3:q.l<=c)(h4:c<q.r):lvB ps q r c=false↔own ps (r-1) c=own ps r c:=by
 rw[Ka h1 h2 h3 h4];simp
theorem Jo{ps:List Rc}{q:Rc}{r c:Int}(h1:q.t<=r)(h2:r<q.b)(h3:q.l<c)(h4:c<q.r):upB ps q r c=false↔own ps r (c-1)=own ps r c:=by
 rw[Jn h1 h2 h3 h4];simp
theorem Py(f g:Int->Bool)(lo:Int)(h0:∀x,x<lo->f x=false):∀(n:Nat)(x:Int),f x=true->x<lo+n->∃s,s<=x/\(f (s-1)=false\/g s=true)/\(∀y,s<=y->y<=x->f y=true)/\∀y,s<y->y<=x->g y=false
 |0,x,h,b=>by rw[h0 x (by lia)]at h;cases h
 |n+1,x,h,b=>by
  by_cases z:f (x-1)=false\/g x=true
  .exact⟨x,aE _,z,λ y a b=>by rw[show y=x by lia];exact h,λ y a b=>by lia⟩
  .have z1:f (x-1)=true:=by
    cases e:f (x-1) with
    |false=>exact absurd (.inl e) z
    |true=>rfl
   have z2:g x=false:=by
    cases e:g x with
    |true=>exact absurd (.inr e) z
    |false=>rfl
   obtain⟨s,s1,s2,s3,s4⟩:=Py f g lo h0 n (x-1) z1 (by lia);refine⟨s,by lia,s2,λ y a b=>?_,λ y a b=>?_⟩
   .by_cases e:y=x
    .rw[e];exact h
    .exact s3 y a (by lia)
   .by_cases e:y=x
    .rw[e];exact z2
    .exact s4 y a (by lia)
theorem Pz(f g:Int->Bool)(hi:Int)(h1:∀x,hi<=x->f x=false):∀(n:Nat)(x:Int),f x=true->hi<=x+n->∃e,x<e/\(f e=false\/g e=true)/\(∀y,x<=y->y<e->f y=true)/\∀y,x<y->y<e->g y=false
 |0,x,h,b=>by rw[h1 x (by lia)]at h;cases h
 |n+1,x,h,b=>by
  by_cases z:f (x+1)=false\/g (x+1)=true
  .exact⟨x+1,by lia,z,λ y a b=>by rw[show y=x by lia];exact h,λ y a b=>by lia⟩
  .have z1:f (x+1)=true:=by
    cases e:f (x+1) with
    |false=>exact absurd (.inl e) z
    |true=>rfl
   have z2:g (x+1)=false:=by
    cases e:g (x+1) with
    |true=>exact absurd (.inr e) z
    |false=>rfl
   obtain⟨s,s1,s2,s3,s4⟩:=Pz f g hi h1 n (x+1) z1 (by lia);refine⟨s,by lia,s2,λ y a b=>?_,λ y a b=>?_⟩
   .by_cases e:y=x
    .rw[e];exact h
    .exact s3 y (by lia) b
   .by_cases e:y=x+1
    .rw[e];exact z2
    .exact s4 y (by lia) b
theorem P0{f g:Int->Bool}{lo hi:Int}(h0:∀x,x<lo->f x=false)(h1:∀x,hi<=x->f x=false){x:Int}(h:f x=true):∃s e,Cc f g s e/\s<=x/\x<e:=by
 obtain⟨s,s1,s2,s3,s4⟩:=Py f g lo h0 (x+1-lo).toNat x h (by lia);obtain⟨e,e1,e2,e3,e4⟩:=Pz f g hi h1 (hi-x).toNat x h (by lia);refine⟨s,e,⟨⟨by lia,λ y a b=>?_,λ y a b=>?_,s2⟩,e2⟩,s1,e1⟩
 .by_cases z:y<=x
  .exact s3 y a z
  .exact e3 y (by lia) b
 .by_cases z:y<=x
  .exact s4 y a z
  .exact e4 y (by lia) b
theorem Nj{f g:Int->Bool}{lo hi:Int}(h0:∀x,x<lo->f x=false)(h1:∀x,hi<=x->f x=false){x:Int}(a:f (x-1)=true)(b:f x=true)(c:g x=false):∃s e,Cc f g s e/\s<x/\x<e:=by
 obtain⟨s,e,i,s1,e1⟩:=P0 (g:=g) h0 h1 a;refine⟨s,e,i,by lia,?_⟩;by_cases z:e=x
 .rcases i.en with y|y
  .rw[z,b]at y;cases y
  .rw[z,c]at y;cases y
 .lia
theorem Sr{ps:List Rc}{q:Rc}{x y:Int}(a:upB ps q (y-1) x=true)(b:upB ps q y x=true)(c:psB ps q y x=false):∃s e,AQ ps q (true,x,s,e)/\s<y/\y<e :=
 Nj (lo:=q.t) (hi:=q.b) (λ z hz=>by
  cases h:upB ps q z x with
  |false=>rfl
  |true=>have:=Cj h;lia) (λ z hz=>by
  cases h:upB ps q z x with
  |false=>rfl
  |true=>have:=Cj h;lia) a b c
theorem SJ{ps:List Rc}{q:Rc}{x y:Int}(h:psB ps q y x=true):∃s e,AQ ps q (false,y,s,e)/\s<x/\x<e:=by
 unfold psB at h;simp only[aK]at h;exact Nj (lo:=q.l) (hi:=q.r) (λ z hz=>by
  cases h:lvB ps q y z with
  |false=>rfl
  |true=>have:=BE h;lia) (λ z hz=>by
  cases h:lvB ps q y z with
  |false=>rfl
  |true=>have:=BE h;lia) h.1 h.2 rfl
theorem B4{ps:List Rc}{q:Rc}{d:LD}(i:AQ ps q d):loQ q (!d.1)<d.2.1/\d.2.1<hiQ q (!d.1)/\loQ q d.1<=d.2.2.1/\d.2.2.1<d.2.2.2/\d.2.2.2<=hiQ q d.1:=by
 obtain⟨u,n,s,e⟩:=d;cases u with
 |false =>
  have i:Cc (λ c=>lvB ps q n c) (λ_=>false) s e:=i;have lt:=i.lt;have a:=BE (i.on s (aE _) lt);have b:=BE (i.on (e-1) (by lia) (by lia));exact⟨a.1,a.2.1,a.2.2.1,lt,by show e<=q.r;lia⟩
 |true =>
  have i:Cc (λ r=>upB ps q r n) (λ r=>psB ps q r n) s e:=i;have lt:=i.lt;have a:=Cj (i.on s (aE _) lt);have b:=Cj (i.on (e-1) (by lia) (by lia));exact⟨a.2.2.1,a.2.2.2,a.1,lt,by show e<=q.b;lia⟩
theorem Lf{ps:List Rc}{q:Rc}{d o:LD}(i:AQ ps q d)(j:AQ ps q o)(n:d.1≠o.1)(h1:o.2.2.1<d.2.1)(h2:d.2.1<o.2.2.2)(h3:d.2.2.1<o.2.1)(h4:o.2.1<d.2.2.2):False:=by
 have key:∀{x y s e s' e':Int},AQ ps q (false,y,s,e)->AQ ps q (true,x,s',e')->s<x->x<e->s'<y->y<e'->False:=by
  intro x y s e s' e' i j a b c d;have i:Cc (λ c=>lvB ps q y c) (λ_=>false) s e:=i;have j:Cc (λ r=>upB ps q r x) (λ r=>psB ps q r x) s' e':=j;have z:=j.no y c d;have z:(lvB ps q y (x-1)&&lvB ps q y x)=false:=z;have z1:lvB ps q y (x-1)=true:=i.on (x-1) (by lia) (by lia);have z2:lvB ps q y x=true:=i.on x (by lia) b;rw[z1,z2]at z;cases z
 obtain⟨u,m,s,e⟩:=d;obtain⟨u',m',s',e'⟩:=o;cases u<;>cases u'
 .exact n rfl
 .exact key i j h3 h4 h1 h2
 .exact key j i h1 h2 h3 h4
 .exact n rfl
theorem Ec{ps:List Rc}{q:Rc}(ow:ML ps q){d:LD}(i:AQ ps q d){v:Int}(hv:v=d.2.2.1\/v=d.2.2.2)(h1:loQ q d.1<v)(h2:v<hiQ q d.1):∃o,AQ ps q o/\On d o/\o.2.1=v:=by
 have L:=B4 i;obtain⟨u,n,s,e⟩:=d;cases u with
 |false =>
  have i:Cc (λ c=>lvB ps q n c) (λ_=>false) s e:=i;have L1:q.t<n:=L.1;have L2:n<q.b:=L.2.1;have L3:q.l<=s:=L.2.2.1;have L4:s<e:=L.2.2.2.1;have L5:e<=q.r:=L.2.2.2.2;have h1:q.l<v:=h1;have h2:v<q.r:=h2;have fin:upB ps q (n-1) v=true->upB ps q n v=true->psB ps q n v=false->∃o,AQ ps q o/\On (false,n,s,e) o/\o.2.1=v:=λ a b c=>by
   obtain⟨s',e',j,p1,p2⟩:=Sr a b c;exact⟨_,j,⟨(by intro z;cases z),hv,p1,p2⟩,rfl⟩
  have H:∀r c,q.t<=r->r<q.b->q.l<=c->c<q.r->q.has r c:=λ r c a b d f=>⟨a,b,d,f⟩;rcases hv with rfl|rfl
  ·-- its begin
   have o1:=(FA L1 L2 (by lia) (by lia)).mp (i.on v (aE _) L4);have o2:lvB ps q n (v-1)=false:=by
    rcases i.st with z|z
    .exact z
    .cases z
   have e2:=(Kb L1 L2 (by lia) (by lia)).mp o2;obtain⟨z1,z2⟩:=Qv ow (H (n-1) (v-1) (by lia) (by lia) (by lia) (by lia)) (H n (v-1) (by lia) (by lia) (by lia) (by lia)) (H (n-1) v (by lia) (by lia) (by lia) (by lia)) (H n v (by lia) (by lia) (by lia) (by lia)) e2 o1;refine fin ((Ft (by lia) (by lia) h1 h2).mpr (Ne.symm z1)) ((Ft (by lia) (by lia) h1 h2).mpr (Ne.symm z2)) ?_;unfold psB;rw[o2];rfl
  .have o1:=(FA L1 L2 (by lia) (by lia)).mp (i.on (v-1) (by lia) (by lia));have o2:lvB ps q n v=false:=by
    rcases i.en with z|z
    .exact z
    .cases z
   have e2:=(Kb L1 L2 (by lia) (by lia)).mp o2;obtain⟨z1,z2⟩:=Qv ow (H (n-1) v (by lia) (by lia) (by lia) (by lia)) (H n v (by lia) (by lia) (by lia) (by lia)) (H (n-1) (v-1) (by lia) (by lia) (by lia) (by lia)) (H n (v-1) (by lia) (by lia) (by lia) (by lia)) e2 o1;refine fin ((Ft (by lia) (by lia) h1 h2).mpr z1) ((Ft (by lia) (by lia) h1 h2).mpr z2) ?_;unfold psB;rw[o2,dq]
 |true =>
  have i:Cc (λ r=>upB ps q r n) (λ r=>psB ps q r n) s e:=i;have L1:q.l<n:=L.1;have L2:n<q.r:=L.2.1;have L3:q.t<=s:=L.2.2.1;have L4:s<e:=L.2.2.2.1;have L5:e<=q.b:=L.2.2.2.2;have h1:q.t<v:=h1;have h2:v<q.b:=h2;have fin:psB ps q v n=true->∃o,AQ ps q o/\On (true,n,s,e) o/\o.2.1=v:=λ a=>by
   obtain⟨s',e',j,p1,p2⟩:=SJ a;exact⟨_,j,⟨(by intro z;cases z),hv,p1,p2⟩,rfl⟩
  have H:∀r c,q.t<=r->r<q.b->q.l<=c->c<q.r->q.has r c:=λ r c a b d f=>⟨a,b,d,f⟩;rcases hv with rfl|rfl
  .have o1:=(Ft (by lia) (by lia) L1 L2).mp (i.on v (aE _) L4);rcases i.st with z|z
   .have e2:=(Jo (by lia) (by lia) L1 L2).mp z;obtain⟨z1,z2⟩:=NL ow (H (v-1) (n-1) (by lia) (by lia) (by lia) (by lia)) (H (v-1) n (by lia) (by lia) (by lia) (by lia)) (H v (n-1) (by lia) (by lia) (by lia) (by lia)) (H v n (by lia) (by lia) (by lia) (by lia)) e2 o1;refine fin ?_;unfold psB;rw[(FA h1 h2 (by lia) (by lia)).mpr (Ne.symm z1),(FA h1 h2 (by lia) (by lia)).mpr (Ne.symm z2)];rfl
   .exact fin z
  .have o1:=(Ft (by lia) (by lia) L1 L2).mp (i.on (v-1) (by lia) (by lia));rcases i.en with z|z
   .have e2:=(Jo (by lia) (by lia) L1 L2).mp z;obtain⟨z1,z2⟩:=NL ow (H v (n-1) (by lia) (by lia) (by lia) (by lia)) (H v n (by lia) (by lia) (by lia) (by lia)) (H (v-1) (n-1) (by lia) (by lia) (by lia) (by lia)) (H (v-1) n (by lia) (by lia) (by lia) (by lia)) e2 o1;refine fin ?_;unfold psB;rw[(FA h1 h2 (by lia) (by lia)).mpr z1,(FA h1 h2 (by lia) (by lia)).mpr z2];rfl
   .exact fin z
def Whl(ps:List Rc)(q:Rc):Prop:=∃a b c d,AQ ps q a/\AQ ps q b/\AQ ps q c/\AQ ps q d/\On a b/\On b c/\On c d/\On d a
theorem Ux{a b c:Bool}(h:a≠b)(g:b≠c):a=c:=by cases a<;>cases b<;>cases c<;>first|rfl|exact absurd rfl h|exact absurd rfl g
theorem Me{ps:List Rc}{q:Rc}(ow:ML ps q):∀(n:Nat)(a b c d:LD),AQ ps q a->AQ ps q b->AQ ps q c->AQ ps q d->On a b->On b c->On c d->a.2.2.1<d.2.1->d.2.1<a.2.2.2->(a.2.1-c.2.1).natAbs+(b.2.1-d.2.1).natAbs<=n->Whl ps q
 |0,a,b,c,d,ia,ib,ic,id',ab,bc,cd,h1,h2,m=>by
  obtain⟨_,b2,b3,b4⟩:=ab;obtain⟨_,c2,c3,c4⟩:=bc;rcases c2 with z|z<;>lia
 |n+1,a,b,c,d,ia,ib,ic,id',ab,bc,cd,h1,h2,m=>by
  have ab':=ab;have bc':=bc;have cd':=cd;obtain⟨n1,b2,b3,b4⟩:=ab;obtain⟨n2,c2,c3,c4⟩:=bc;obtain⟨n3,d2,d3,d4⟩:=cd;have eac:=Ux n1 n2;have nda:d.1≠a.1:=λ z=>n3 (eac.symm.trans z.symm);have La:=B4 ia;have Lc:=B4 ic;have ed:(!a.1)=d.1:=by
   cases h:a.1<;>cases h':d.1<;>first|rfl|exact absurd (h'.trans h.symm) nda
  have ec:(!c.1)=d.1:=by rw[<-eac];exact ed
  rw[ed]at La;rw[ec]at Lc;have Ld:=B4 id';by_cases lt:a.2.1<c.2.1
  .have e1:c.2.1=b.2.2.2:=by
    rcases c2 with z|z
    .lia
    .exact z
   have ge:a.2.1<=d.2.2.1:=by
    apply aZ;intro z;exact Lf ia id' (Ne.symm nda) (by lia) (by lia) h1 h2
   by_cases eq:a.2.1=d.2.2.1
   .exact⟨a,b,c,d,ia,ib,ic,id',ab',bc',cd',nda,.inl eq,h1,h2⟩
   .obtain⟨e,ie,de,ev⟩:=Ec ow id' (v:=d.2.2.1) (.inl rfl) (by lia) (by lia);exact Me ow n b c d e ib ic id' ie bc' cd' de (by lia) (by lia) (by lia)
  .have e1:c.2.1=b.2.2.1:=by
    rcases c2 with z|z
    .exact z
    .lia
   have ge:d.2.2.2<=a.2.1:=by
    apply aZ;intro z;exact Lf ia id' (Ne.symm nda) (by lia) (by lia) h1 h2
   by_cases eq:a.2.1=d.2.2.2
   .exact⟨a,b,c,d,ia,ib,ic,id',ab',bc',cd',nda,.inr eq,h1,h2⟩
   .obtain⟨e,ie,de,ev⟩:=Ec ow id' (v:=d.2.2.2) (.inr rfl) (by lia) (by lia);exact Me ow n b c d e ib ic id' ie bc' cd' de (by lia) (by lia) (by lia)
structure Si(ps:List Rc)(q:Rc):Prop where
 lv:∀y,q.t<y->y<q.b->∃c,q.l<=c/\c<q.r/\lvB ps q y c=false
 up:∀x,q.l<x->x<q.r->∃r,q.t<=r/\r<q.b/\upB ps q r x=false
theorem Lw{ps:List Rc}{q:Rc}(ow:ML ps q)(no:Si ps q):∀(n:Nat)(x e:Int),AQ ps q (true,x,q.t,e)->(q.b-e).toNat<=n->Whl ps q
 |0,x,e,i,m=>by
  have L:=B4 i;have L1:q.l<x:=L.1;have L2:x<q.r:=L.2.1;have L5:e<=q.b:=L.2.2.2.2;obtain⟨r,r1,r2,r3⟩:=no.up x L1 L2;have i:Cc (λ r=>upB ps q r x) (λ r=>psB ps q r x) q.t e:=i;have z:upB ps q r x=true:=i.on r r1 (by lia);rw[z]at r3;cases r3
 |n+1,x,e,i,m=>by
  have L:=B4 i;have L1:q.l<x:=L.1;have L2:x<q.r:=L.2.1;have L4:q.t<e:=L.2.2.2.1;have L5:e<=q.b:=L.2.2.2.2;by_cases eb:e=q.b
  .obtain⟨r,r1,r2,r3⟩:=no.up x L1 L2;have i:Cc (λ r=>upB ps q r x) (λ r=>psB ps q r x) q.t e:=i;have z:upB ps q r x=true:=i.on r r1 (by lia);rw[z]at r3;cases r3
  .obtain⟨b,ib,ab,bl⟩:=Ec ow i (v:=e) (.inr rfl) (show q.t<e from L4) (show e<q.b by lia);obtain⟨n1,_,b3,b4⟩:=id ab;obtain⟨ub,yb,sb,fb⟩:=b;have ub0:ub=false:=by
    cases ub with
    |false=>rfl
    |true=>exact absurd rfl n1
   subst ub0;obtain rfl:yb=e:=bl;have b3:sb<x:=b3;have b4:x<fb:=b4;have Lb:=B4 ib;have Lb3:q.l<=sb:=Lb.2.2.1;have Lb5:fb<=q.r:=Lb.2.2.2.2;obtain⟨c0,c1,c2,c3⟩:=no.lv yb L4 (by lia);have ib':Cc (λ c=>lvB ps q yb c) (λ_=>false) sb fb:=ib;obtain⟨v,hv,v1,v2⟩:∃v,(v=sb\/v=fb)/\q.l<v/\v<q.r:=by
    by_cases z1:q.l<sb
    .exact⟨sb,.inl rfl,z1,by lia⟩
    .by_cases z2:fb<q.r
     .exact⟨fb,.inr rfl,by lia,z2⟩
     .have z:lvB ps q yb c0=true:=ib'.on c0 (by lia) (by lia);rw[z]at c3;cases c3
   obtain⟨c,ic,bc,cl⟩:=Ec ow ib (v:=v) hv v1 v2;obtain⟨n2,_,g3,g4⟩:=id bc;obtain⟨uc,xc,sc,fc⟩:=c;have uc0:uc=true:=by
    cases uc with
    |true=>rfl
    |false=>exact absurd rfl n2
   subst uc0;have g3:sc<yb:=g3;have g4:yb<fc:=g4;have Lc:=B4 ic;have Lc3:q.t<=sc:=Lc.2.2.1;by_cases et:sc=q.t
   .subst et;exact Lw ow no n xc fc ic (by lia)
   .obtain⟨d,id',cd,dl⟩:=Ec ow ic (v:=sc) (.inl rfl) (show q.t<sc by lia) (show sc<q.b by lia);refine Me ow _ (true,x,q.t,yb) (false,yb,sb,fb) (true,xc,sc,fc) d i ib ic id' ab bc cd ?_ ?_ (ah _)
    .show q.t<d.2.1;lia
    .show d.2.1<yb;lia
theorem OU{ps:List Rc}{q:Rc}(ow:ML ps q)(no:Si ps q)(hb:q.t<q.b)(hr:q.l<q.r)(two:∃r c,q.has r c/\own ps r c≠own ps q.t q.l):Whl ps q:=by
 have h0:q.has q.t q.l:=⟨aE _,hb,aE _,hr⟩;by_cases ex:∃x,q.l<x/\x<q.r/\upB ps q q.t x=true
 .obtain⟨x,x1,x2,ux⟩:=ex;obtain⟨s,e,i,s1,e1⟩:=P0 (f:=λ r=>upB ps q r x) (g:=λ r=>psB ps q r x) (lo:=q.t) (hi:=q.b) (λ z hz=>by
   cases h:upB ps q z x with
   |false=>rfl
   |true=>have:=Cj h;lia) (λ z hz=>by
   cases h:upB ps q z x with
   |false=>rfl
   |true=>have:=Cj h;lia) ux
  have L:=B4 (d:=(true,x,s,e)) i;have L3:q.t<=s:=L.2.2.1;have es:s=q.t:=by lia
  subst es;exact Lw ow no _ x e i (ah _)
 .exfalso;have all:∀(n:Nat),q.l+n<q.r->own ps q.t (q.l+n)=own ps q.t q.l:=by
   intro n
   induction n with
   |zero=>intro _;rw[Int.natCast_zero,Int.add_zero]
   |succ n ih =>
    intro h;have h':q.l+((n:Int)+1)<q.r:=by lia
    cases z:upB ps q q.t (q.l+(n+1)) with
    |true=>exact absurd ⟨_,by lia,h',z⟩ ex
    |false =>
     have:=(Jo (aE _) hb (by lia) h').mp z;rw[show q.l+((n:Int)+1)-1=q.l+n by lia]at this;have e:(q.l+((n+1:Nat):Int))=q.l+((n:Int)+1):=by lia
     rw[e,<-this];exact ih (by lia)
  have all:∀c,q.l<=c->c<q.r->own ps q.t c=own ps q.t q.l:=λ c a b=>by
   have:=all (c-q.l).toNat (by lia);rw[show q.l+((c-q.l).toNat:Int)=c by lia]at this;exact this
  obtain⟨p0,pin⟩:=ow q.t q.l h0;have hasc:∀c,q.l<=c->c<q.r->(own ps q.t q.l).has q.t c:=λ c a b=>by
   have:=(ow q.t c ⟨aE _,hb,a,b⟩).1;rw[all c a b]at this;exact this
  generalize hP:own ps q.t q.l=P at *;have Pb:P.b<=q.b:=by
   have:=(pin (P.b-1) q.l ⟨by have:=p0.2.1;have:=p0.1;lia,by lia,p0.2.2.1,p0.2.2.2⟩).1.2.1;lia
  have down:∀r c,q.t<=r->r<P.b->q.l<=c->c<q.r->P.has r c:=λ r c a b d e=>⟨by have:=p0.1;lia,b,(hasc c d e).2.2.1,(hasc c d e).2.2.2⟩;by_cases eb:P.b=q.b
  .obtain⟨r,c,hrc,ne⟩:=two;exact ne (pin r c (down r c hrc.1 (by rw[eb];exact hrc.2.1) hrc.2.2.1 hrc.2.2.2)).2
  .have p1:=p0.2.1;obtain⟨c,c1,c2,c3⟩:=no.lv P.b (by lia) (by lia);have e:=(Kb (by lia) (by lia) c1 c2).mp c3;have o1:=(pin (P.b-1) c (down (P.b-1) c (by lia) (by lia) c1 c2)).2;have o2:=(ow P.b c ⟨by lia,by lia,c1,c2⟩).1;rw[<-e,o1]at o2;have:=o2.2.1;lia
theorem OS{ps:List Rc}{q:Rc}(w:Whl ps q):2<q.r-q.l/\2<q.b-q.t:=by
 obtain⟨a,b,c,d,ia,ib,ic,id',⟨n1,a2,a3,a4⟩,⟨n2,b2,b3,b4⟩,⟨n3,c2,c3,c4⟩,n4,d2,d3,d4⟩:=w;have La:=B4 ia;have Lb:=B4 ib;have Lc:=B4 ic;have Ld:=B4 id';obtain⟨ua,xa,sa,ea⟩:=a;obtain⟨ub,xb,sb,eb⟩:=b;obtain⟨uc,xc,sc,ec⟩:=c;obtain⟨ud,xd,sd,ed⟩:=d;simp only at *;cases ua<;>cases ub<;>cases uc<;>cases ud<;>first|exact absurd rfl n1|exact absurd rfl n2|exact absurd rfl n3|exact absurd rfl n4|skip
 all_goals
  simp only[loQ,hiQ,Bool.not_true,Bool.not_false,if_true,if_false,aW]at La Lb Lc Ld
  constructor<;>lia
theorem okA_iff{ps:List Rc}{p:Rk}:okA ps p=true↔∀r∈ps,Ins r p\/(r.r<=p.l\/p.r<=r.l\/r.b<=p.t\/p.b<=r.t):=by
 unfold okA;rw[bC];refine forall₂_congr λ r _=>?_;unfold AA Fi apR Ins;simp only[bO,aK,decide_eq_true_eq];lia
def DB(w h:Int)(ps:List Rc)(p:Rk):Prop:=p.In w h/\okA ps p=true
theorem DB.blk{w h:Int}{ps:List Rc}{p:Rk}(d:DB w h ps p):blk w h ps p=true:=by
 obtain⟨⟨a,b,c,d',e,f⟩,o⟩:=d;rw[Te c f ⟨a,b⟩ ⟨d',e⟩];exact o
theorem DB.ok{w h:Int}{ps:List Rc}{p:Rk}(d:DB w h ps p):p.ok:=⟨d.1.2.1,d.1.2.2.2.2.1⟩
theorem DB.bd{w h:Int}{ps:List Rc}{p:Rk}(d:DB w h ps p)(w2:w<=12)(h2:h<=12):∀u,0<=p.lo u/\p.hi u<=12:=λ u=>by
 obtain⟨⟨a,b,c,d',e,f⟩,o⟩:=d;cases u
 .show 0<=p.t/\p.b<=12;lia
 .show 0<=p.l/\p.r<=12;lia
theorem DB.parts{w h:Int}{ps:List Rc}{p:Rk}(d:DB w h ps p)(hp:∀r∈ps,r.In w h){u:Bool}{k:Int}(k1:1<=k)(k2:k<p.len u)(nb:∀r∈ps,Ins r p->¬(Rk.lo r u<p.lo u+k/\p.lo u+k<Rk.hi r u)):DB w h ps (p.fst u k)/\DB w h ps (p.oth u k):=by
 obtain⟨⟨a,b,c,d',e,f⟩,o⟩:=d;have o:=okA_iff.mp o;cases u
 .have k2:k<p.b-p.t:=k2;have nb:∀r∈ps,Ins r p->¬(r.t<p.t+k/\p.t+k<r.b):=nb;refine⟨⟨⟨a,by show p.t<p.t+k;lia,by show p.t+k<=h;lia,d',e,f⟩,okA_iff.mpr λ r hr=>?_⟩,⟨⟨by show 0<=p.t+k;lia,by show p.t+k<p.b;lia,c,d',e,f⟩,okA_iff.mpr λ r hr=>?_⟩⟩
  .have i:=hp r hr;have n:=nb r hr;have q:=o r hr;unfold Ins at q n |-;unfold GB.Rc.In at i;show(p.t<=r.t/\p.l<=r.l/\r.b<=p.t+k/\r.r<=p.r)\/(r.r<=p.l\/p.r<=r.l\/r.b<=p.t\/p.t+k<=r.t);lia
  .have i:=hp r hr;have n:=nb r hr;have q:=o r hr;unfold Ins at q n |-;unfold GB.Rc.In at i;show(p.t+k<=r.t/\p.l<=r.l/\r.b<=p.b/\r.r<=p.r)\/(r.r<=p.l\/p.r<=r.l\/r.b<=p.t+k\/p.b<=r.t);lia
 .have k2:k<p.r-p.l:=k2;have nb:∀r∈ps,Ins r p->¬(r.l<p.l+k/\p.l+k<r.r):=nb;refine⟨⟨⟨a,b,c,d',by show p.l<p.l+k;lia,by show p.l+k<=w;lia⟩,okA_iff.mpr λ r hr=>?_⟩,⟨⟨a,b,c,by show 0<=p.l+k;lia,by show p.l+k<p.r;lia,f⟩,okA_iff.mpr λ r hr=>?_⟩⟩
  .have i:=hp r hr;have n:=nb r hr;have q:=o r hr;unfold Ins at q n |-;unfold GB.Rc.In at i;show(p.t<=r.t/\p.l<=r.l/\r.b<=p.b/\r.r<=p.l+k)\/(r.r<=p.l\/p.l+k<=r.l\/r.b<=p.t\/p.b<=r.t);lia
  .have i:=hp r hr;have n:=nb r hr;have q:=o r hr;unfold Ins at q n |-;unfold GB.Rc.In at i;show(p.t<=r.t/\p.l+k<=r.l/\r.b<=p.b/\r.r<=p.r)\/(r.r<=p.l+k\/p.r<=r.l\/r.b<=p.t\/p.b<=r.t);lia
theorem DB.cov{w h:Int}{ps:List Rc}{p:Rk}(T:GB.Tiles w h ps)(d:DB w h ps p){r c:Int}(hh:p.has r c):∃q∈ps,q.has r c/\Ins q p:=by
 obtain⟨⟨a,b,c',d',e,f⟩,o⟩:=d;obtain⟨h1,h2,h3,h4⟩:=hh;obtain⟨q,hq,hz⟩:=T.cov r c (by lia) (by lia) (by lia) (by lia);refine⟨q,hq,hz,?_⟩;rcases okA_iff.mp o q hq with z|z
 .exact z
 .obtain⟨z1,z2,z3,z4⟩:=hz;lia
theorem DB.owns{w h:Int}{ps:List Rc}{p:Rk}(T:GB.Tiles w h ps)(d:DB w h ps p):ML ps p:=λ r c hh=>by
 obtain⟨q,hq,hz,i⟩:=d.cov T hh;rw[Dj T.dis hq hz];refine⟨hz,λ r' c' z=>⟨?_,Dj T.dis hq z⟩⟩;obtain⟨z1,z2,z3,z4⟩:=z;unfold Ins at i;exact⟨by lia,by lia,by lia,by lia⟩
abbrev mks(ps:List Rc):List (Rk×Option Int):=ps.map λ r=>(r,none)
theorem mem_in{ps:List Rc}{p:Rk}{g:Rk×Option Int}:g∈inP (mks ps) p↔(g.1∈ps/\g.2=none)/\Ins g.1 p:=by
 unfold inP;rw[aP,decide_eq_true_iff,aw]
 constructor
 .rintro⟨⟨r,hr,rfl⟩,i⟩;exact⟨⟨hr,rfl⟩,i⟩
 .rintro⟨⟨a,b⟩,i⟩;obtain⟨r,m⟩:=g;cases b;exact⟨⟨r,a,rfl⟩,i⟩
theorem DB.one{w h:Int}{ps:List Rc}{p:Rk}(T:GB.Tiles w h ps)(d:DB w h ps p){g:Rk×Option Int}(e:inP (mks ps) p=[g]):g=(p,none):=by
 have hp:=d.ok;have mem:∀{q:Rk},q∈ps->Ins q p->q=g.1:=λ{q} hq i=>by
  have:=(mem_in (g:=(q,none))).mpr ⟨⟨hq,rfl⟩,i⟩;rw[e]at this;rw[<-ad.mp this]
 have hg:=mem_in.mp (e ▸ ad.mpr rfl:g∈inP (mks ps) p);obtain⟨q,hq,hz,i⟩:=d.cov T (r:=p.t) (c:=p.l) ⟨aE _,hp.1,aE _,hp.2⟩;obtain⟨q',hq',hz',i'⟩:=d.cov T (r:=p.b-1) (c:=p.r-1) ⟨by have:=hp.1;lia,by lia,by have:=hp.2;lia,by lia⟩;rw[mem hq i]at hz;rw[mem hq' i']at hz';obtain⟨gr,gm⟩:=g;have e2:gm=none:=hg.1.2;have i:Ins gr p:=hg.2;rw[e2];obtain⟨t,l,b,r⟩:=gr;obtain⟨pt,pl,pb,pr⟩:=p;unfold Ins at i;unfold GB.Rc.has at hz hz';simp only[]at hz hz' i;have e1:pt=t:=by lia
 have e2:pl=l:=by lia
 have e3:pb=b:=by lia
 have e4:pr=r:=by lia
 rw[e1,e2,e3,e4]
theorem Jp{w h:Int}{ps:List Rc}(T:GB.Tiles w h ps):ps.Nodup:=by
 refine(List.Pairwise.and_mem.mp T.dis).imp λ{a b} h e=>?_;obtain⟨_,a2,_,_,a5,_⟩:=T.ins a h.1;subst e;exact h.2.2 a.t a.l ⟨aE _,a2,aE _,a5⟩ ⟨aE _,a2,aE _,a5⟩
structure Rm(w h:Int)(ps:List Rc)(p:Rk):Prop where
 db:DB w h ps p
 no:DP ((inP (mks ps) p).map (·.1)) p=[]
 ne:(inP (mks ps) p).length≠1
theorem Rm.brk{w h:Int}{ps:List Rc}{p:Rk}(m:Rm w h ps p){u:Bool}{a:Int}(h1:p.lo u<a)(h2:a<p.hi u):∃r∈ps,Ins r p/\Rk.lo r u<a/\a<Rk.hi r u:=by
 refine aZ λ z=>?_;have:=(GV (rs:=(inP (mks ps) p).map (·.1)) (c:=(u,a)) m.db.ok).mpr ⟨h1,h2,λ r hr y=>by
  obtain⟨g,hg,rfl⟩:=aw.mp hr;have:=mem_in.mp hg;exact z ⟨g.1,this.1.1,this.2,y⟩⟩
 rw[m.no]at this;cases this
theorem Rm.whl{w h:Int}{ps:List Rc}{p:Rk}(T:GB.Tiles w h ps)(m:Rm w h ps p):Whl ps p:=by
 have ok:=m.db.ok;refine OU (m.db.owns T) ⟨λ y y1 y2=>?_,λ x x1 x2=>?_⟩ ok.1 ok.2 ?_
 .obtain⟨r,hr,i,b1,b2⟩:=m.brk (u:=false) (a:=y) y1 y2;have b1:r.t<y:=b1;have b2:y<r.b:=b2;obtain⟨i1,i2,i3,i4⟩:=i;obtain⟨_,_,_,_,r5,_⟩:=T.ins r hr;refine⟨r.l,i2,by lia,(Kb y1 y2 i2 (by lia)).mpr ?_⟩;rw[Dj T.dis hr (r:=y-1) (c:=r.l) ⟨by lia,by lia,aE _,r5⟩,Dj T.dis hr (r:=y) (c:=r.l) ⟨by lia,b2,aE _,r5⟩]
 .obtain⟨r,hr,i,b1,b2⟩:=m.brk (u:=true) (a:=x) x1 x2;have b1:r.l<x:=b1;have b2:x<r.r:=b2;obtain⟨i1,i2,i3,i4⟩:=i;obtain⟨_,r5,_,_,_,_⟩:=T.ins r hr;refine⟨r.t,i1,by lia,(Jo i1 (by lia) x1 x2).mpr ?_⟩;rw[Dj T.dis hr (r:=r.t) (c:=x-1) ⟨aE _,r5,by lia,by lia⟩,Dj T.dis hr (r:=r.t) (c:=x) ⟨aE _,r5,by lia,b2⟩]
 .refine aZ λ z=>m.ne ?_;obtain⟨q,hq,hz,iq⟩:=m.db.cov T (r:=p.t) (c:=p.l) ⟨aE _,ok.1,aE _,ok.2⟩;have oq:=Dj T.dis hq hz;have all:∀g∈inP (mks ps) p,g=(q,none):=λ g hg=>by
   obtain⟨⟨g1,g2⟩,gi⟩:=mem_in.mp hg;obtain⟨_,a2,_,_,a5,_⟩:=T.ins g.1 g1;obtain⟨i1,i2,i3,i4⟩:=gi;have e:=Dj T.dis g1 (r:=g.1.t) (c:=g.1.l) ⟨aE _,a2,aE _,a5⟩;have:own ps g.1.t g.1.l=own ps p.t p.l:=aZ λ y=>z ⟨g.1.t,g.1.l,⟨i1,by lia,i2,by lia⟩,y⟩;rw[e,oq]at this;obtain⟨gr,gm⟩:=g;cases g2;exact bM this rfl
  have nd:(inP (mks ps) p).Nodup:=List.Nodup.sublist cA ((Jp T).map _ λ a b ne e=>ne (congrArg eS e));have mem:(q,none)∈inP (mks ps) p:=mem_in.mpr ⟨⟨hq,rfl⟩,iq⟩;generalize inP (mks ps) p=L at all nd mem
  match L,all,nd,mem with
  |[_],_,_,_=>rfl
  |a::b::r,all,nd,_ =>
   have e1:=all a (by simp);have e2:=all b (by simp);rw[e1,e2]at nd;exact absurd (aD) (bv.mp nd).1
def cdR(p:Rk):Int:=p.t+16*(p.l+16*(p.b+16*p.r))
theorem d16{a b x y:Int}(h:x+16*a=y+16*b)(x0:0<=x)(x1:x<=12)(y0:0<=y)(y1:y<=12):x=y/\a=b:=by lia
theorem Td{w h:Int}{ps:List Rc}{p q:Rk}(a:DB w h ps p)(b:DB w h ps q)(w2:w<=12)(h2:h<=12)(e:cdR p=cdR q):p=q:=by
 obtain⟨⟨a1,a2,a3,a4,a5,a6⟩,_⟩:=a;obtain⟨⟨b1,b2,b3,b4,b5,b6⟩,_⟩:=b;obtain⟨t,l,b,r⟩:=p;obtain⟨t',l',b',r'⟩:=q;unfold cdR at e;simp only[]at *;obtain⟨e1,e2⟩:=d16 e a1 (by lia) b1 (by lia);obtain⟨e3,e4⟩:=d16 e2 a4 (by lia) b4 (by lia);obtain⟨e5,e6⟩:=d16 e4 (by lia) (by lia) (by lia) (by lia);rw[e1,e3,e5,e6]
def thG(p:Rk):List (Bool×Int)->En
 |c::_=>.c c.1 (c.2-p.lo c.1)
 |[]=>.w (some (cdR p))
def enG(L:List (Rk×Option Int))(p:Rk):En:=if L.length=1 then .w none else thG p (DP (L.map (·.1)) p)
def GrS(w h:Int)(ps:List Rc)(G:Tr)(p:Rk):Prop:=OR (λ p=>enG (inP (mks ps) p) p) (DB w h ps) G p
theorem OD{w h:Int}{ps:List Rc}(T:GB.Tiles w h ps)(w2:w<=12)(h2:h<=12):∀(n:Nat)(p:Rk),(p.len true+p.len false).toNat=n->DB w h ps p->∃F,GrS w h ps F p/\Ih p F:=by
 intro n
 induction n using Nat.strongRecOn with
 |ind n ih =>
  intro p hn db;have ok:=db.ok;by_cases h1:(inP (mks ps) p).length=1
  .exact⟨.whole none,⟨db,by show enG _ _=_;unfold enG;rw[if_pos h1]⟩,(by unfold Ih;rw[Fit];trivial)⟩
  .cases hc:DP ((inP (mks ps) p).map (·.1)) p with
   |nil=>exact⟨.whole (some (cdR p)),⟨db,by show enG _ _=_;unfold enG;rw[if_neg h1,hc];rfl⟩,(by unfold Ih;rw[Fit];trivial)⟩
   |cons c rest =>
    obtain⟨u,a⟩:=c;obtain⟨a1,a2,nb⟩:=(GV ok).mp (hc ▸ aD:(u,a)∈DP ((inP (mks ps) p).map (·.1)) p);have a1:p.lo u<a:=a1;have a2:a<p.hi u:=a2;obtain⟨k,rfl⟩:∃k,a=p.lo u+k:=⟨a-p.lo u,by lia⟩;have k1:1<=k:=by lia
    have k2:k<p.len u:=by rw[DY];lia
    obtain⟨l1,l2,lt1,lt2⟩:=RY (u:=u) (a:=k) (db.bd w2 h2) k1 k2;obtain⟨d1,d2⟩:=db.parts T.ins k1 k2 λ r hr i z=>nb r (aw.mpr ⟨(r,none),mem_in.mpr ⟨⟨hr,rfl⟩,i⟩,rfl⟩) z;have pos1:0<=(p.fst u k).len true+(p.fst u k).len false:=by
     have:=Dg d1.ok true;have:=Dg d1.ok false;rw[DY,DY];lia
    have pos2:0<=(p.oth u k).len true+(p.oth u k).len false:=by
     have:=Dg d2.ok true;have:=Dg d2.ok false;rw[DY,DY];lia
    obtain⟨X,gx,fx⟩:=ih _ (by lia) (p.fst u k) rfl d1;obtain⟨Y,gy,fy⟩:=ih _ (by lia) (p.oth u k) rfl d2;refine⟨.cut u k X Y,⟨db,?_,gx,gy⟩,fitR_cut.mpr ⟨⟨k1,k2⟩,fx,fy⟩⟩;show enG (inP (mks ps) p) p=_;unfold enG;rw[if_neg h1,hc];show En.c u (p.lo u+k-p.lo u)=_;rw[show p.lo u+k-p.lo u=k by lia]
def EnR(R:Rk->Prop)(H:Hp)(a:Addr):En->Prop
 |.w (some n)=>∃b p,H a=some (.tup [.str "room",.ref b])/\H b=some (.tup p.vs)/\R p/\n=cdR p
 |.w none=>H a=some (.tup [.str "whole",.non])
 |.c u k=>H a=some (.tup [.str (wd u),.int k])
theorem EnR.tups{R:Rk->Prop}{H H':Hp}{a:Addr}(s:∀a xs,H a=some (.tup xs)->H' a=some (.tup xs)):∀{e:En},EnR R H a e->EnR R H' a e
 |.w (some _),⟨b,p,x,y,z⟩=>⟨b,p,s _ _ x,s _ _ y,z⟩
 |.w none,h=>s _ _ h
 |.c _ _,h=>s _ _ h
theorem EnR.kp{R:Rk->Prop}{H H':Hp}{a:Addr}{e:En}(h:EnR R H a e)(s:Kp H H'):EnR R H' a e:=h.tups λ_ _ x=>s _ _ x (by intro xs z;cases z)
theorem EnR.imp{R R':Rk->Prop}{H:Hp}{a:Addr}:∀{e:En},(∀n p,e=.w (some n)->R p->R' p)->EnR R H a e->EnR R' H a e
 |.w (some n),i,⟨b,p,x,y,z⟩=>⟨b,p,x,y,i n p rfl z.1,z.2⟩
 |.w none,_,h=>h
 |.c _ _,_,h=>h
theorem EnR.wd{R:Rk->Prop}{H:Hp}{a:Addr}:∀{m:Option Int},EnR R H a (.w m)->∃(wo:Str)(wx:V),H a=some (.tup [.str wo,wx])/\inV (.str wo) [V.str "upright",V.str "level"]=false
 |some _,⟨b,p,x,_,_⟩=>⟨_,_,x,by decide +kernel⟩
 |none,h=>⟨_,_,h,by decide +kernel⟩
def EnsR(R:Rk->Prop)(H:Hp):LUz->List En->Prop
 |[],[]=>True
 |v::r,e::q=>(∃a,v=.ref a/\EnR R H a e)/\EnsR R H r q
 |_,_=>False
theorem EnsR.tups{R:Rk->Prop}{H H':Hp}(s:∀a xs,H a=some (.tup xs)->H' a=some (.tup xs)):∀{vs:LUz}{es:List En},EnsR R H vs es->EnsR R H' vs es
 |[],[],_=>trivial
 |v::r,e::q,h=>⟨let ⟨a,b,c⟩:=h.1;⟨a,b,c.tups s⟩,EnsR.tups s h.2⟩
 |[],_::_,h=>h
 |_::_,[],h=>h
theorem EnsR.kp{R:Rk->Prop}{H H':Hp}(s:Kp H H'){vs:LUz}{es:List En}(h:EnsR R H vs es):EnsR R H' vs es:=h.tups λ_ _ x=>s _ _ x (by intro xs z;cases z)
theorem EnsR.snoc{R:Rk->Prop}{H:Hp}{a:Addr}{e:En}(ha:EnR R H a e):∀{vs:LUz}{es:List En},EnsR R H vs es->EnsR R H (vs++[.ref a]) (es++[e])
 |[],[],_=>⟨⟨a,rfl,ha⟩,trivial⟩
 |v::r,e'::q,h=>⟨h.1,EnsR.snoc ha h.2⟩
 |[],_::_,h=>h.elim
 |_::_,[],h=>h.elim
theorem EnsR.len{R:Rk->Prop}{H:Hp}:∀{vs:LUz}{es:List En},EnsR R H vs es->vs.length=es.length
 |[],[],_=>rfl
 |v::r,e'::q,h=>by rw[aI,aI,EnsR.len h.2]
 |[],_::_,h=>h.elim
 |_::_,[],h=>h.elim
theorem EnsR.get{R:Rk->Prop}{H:Hp}:∀{vs:LUz}{es:List En}{i:Nat}{v:V},EnsR R H vs es->vs[i]?=some v->∃e a,es[i]?=some e/\v=.ref a/\EnR R H a e
 |v::r,e::q,0,_,h,hv=>by
  cases hv;obtain⟨a,b,c⟩:=h.1;exact⟨e,a,rfl,b,c⟩
 |v::r,e::q,i+1,_,h,hv=>EnsR.get (i:=i) h.2 hv
 |[],[],_,_,_,hv=>by cases hv
 |[],_::_,_,_,h,_=>h.elim
 |_::_,[],_,_,h,_=>h.elim
def rmE:En->Bool
 |.w (some _)=>true
 |_=>false
theorem EnsR.ens{R:Rk->Prop}{H:Hp}:∀{vs:LUz}{es:List En},EnsR R H vs es->(∀e∈es,rmE e=false)->EnsAt H vs es
 |[],[],_,_=>trivial
 |v::r,e::q,h,n=>by
  refine⟨?_,EnsR.ens h.2 λ x hx=>n x (aJ _ hx)⟩;obtain⟨a,b,c⟩:=h.1;have ne:=n e aD;refine⟨a,b,?_⟩
  match e,ne,c with
  |.w none,_,c=>exact c
  |.c _ _,_,c=>exact c
 |[],_::_,h,_=>h.elim
 |_::_,[],h,_=>h.elim
inductive HK(vs:LUz)(H:Hp)(Q:VK)(E:XK):Prop
 |mk (b l:Addr) (p:Rk) (ts:List PT) (h0:vs=[.ref b,.ref l]) (h1:H b=some (.tup p.vs)) (h2:H l=some (.lst (pcs ts))) (h3:PcO H ts) (h4:ts.length<=150) (h5:p.ok) (h6:(∀u,0<=p.lo u/\p.hi u<=12)) (h7:(∀u∈ts,u.2.2.2=none)) (h8:∀e H',Same H H'->EnR (λ q=>q=p) H' e (enG (cons ts) p)->Q (.ref e) H'):HK vs H Q E
def Iq:Sp:=λ vs H Q E=>HK vs H Q E
theorem Kn{x:V}{r:LUz}:atI (x::r) 0=some x:=CO (xs:=x::r) (j:=0) (v:=x) rfl
theorem JQ{f:Addr}{fd:FuncData}(F:Fun K "entry_for" "entry_for" DV f fd)(T:Txt mg tk)(D_lines_through:A2 P w K mg base 3 "lines_through" ["block","panes","side"] Pq):A5 P w K mg base CX0 4 f fd ["block","some"] Iq:=by
 have S:An ["block","some","panes","uprights","levels"] ["block","some"] (Ai DV):=fsk;refine F.g S ?_;rintro vs H Q E ⟨b,l,p,ts,rfl,hb,hl,pc,few,pk,pb,nn,q⟩;refine⟨rfl,λ cdv A outer s hr=>?_⟩;refine⟨_,(Ac (A7 (Ax BU (A0 A6 rfl T.z_len rfl (Aa (pv 1) Ab)) Ad (Av _)) (Ah (Ap (A3 (Aa (A9 (v:=.str "whole") rfl T.g_WHOLE ⟨_,rfl⟩) (Aa (Aj Ak (Aj AX (pv 1) Ad (λ_ _=>rfl)) Ad (λ_ _=>rfl)) Ab))))) Az)
  (Ac (C8 rfl (Al (i:=2) S.nd rfl (av rfl)) (AC (pv 1)) (λ_ _ _ _ _=>(Nw (K:=K) (n:=2) rfl (Au (Al (i:=0) (nk ["pane","mark"]) rfl (av rfl)) (Au (Al (i:=1) (nk ["pane","mark"]) rfl (av rfl)) AZ)))) (λ_ _ _ _ _=>(pv 0)) (N:=["pane","mark"]) (fr:=[none,none]))
  (Ac (Ar (i:=3) S.nd rfl (av rfl) (Aw D_lines_through hr (Aa (pv 0) (Aa (pv 2) (Aa (A9 (v:=.int 1) rfl T.g_LEFT ⟨_,rfl⟩) Ab)))))
  (Ac (A7 (Fa (pv 3) (λ_=>rfl)) (Ah (Ap (A3 (Aa (A9 (v:=.str "upright") rfl T.g_UPRIGHT_cuts ⟨_,rfl⟩) (Aa (Aq AB (Aj AX (pv 3) Ad (λ_ _=>rfl)) (Aj Ak (pv 0) (A9 (v:=.int 1) rfl T.g_LEFT ⟨_,rfl⟩) (λ_ _=>rfl))) Ab))))) Az)
  (Ac (Ar (i:=4) S.nd rfl (av rfl) (Aw D_lines_through hr (Aa (pv 0) (Aa (pv 2) (Aa (A9 (v:=.int 0) rfl T.g_TOP ⟨_,rfl⟩) Ab)))))
  (Ac (A7 (Fa (pv 4) (λ_=>rfl)) (Ah (Ap (A3 (Aa (A9 (v:=.str "level") rfl T.g_LEVEL_cuts ⟨_,rfl⟩) (Aa (Aq AB (Aj AX (pv 4) Ad (λ_ _=>rfl)) (Aj Ak (pv 0) (A9 (v:=.int 0) rfl T.g_TOP ⟨_,rfl⟩) (λ_ _=>rfl))) Ab))))) Az)
  (Ah (Ap (A3 (Aa (A9 (v:=.str "room") rfl T.g_ROOM ⟨_,rfl⟩) (Aa (pv 0) Ab))))))))))),?_⟩
 refine⟨_,rfl,l,_,rfl,.inl (SqL.of hl),rfl,_,rfl,AF (λ c=>?_) (λ c=>?_)⟩
 .have c:=V.int.inj (of_decide_eq_true c);have c:ts.length=1:=by rw[aa]at c;lia
  obtain⟨x,rfl⟩:=cu.mp c;have hx:=pc x (ad.mpr rfl);have hx1:=hx.1;rw[nn x (ad.mpr rfl)]at hx1;exact⟨_,rfl,l,_,_,_,rfl,rfl,SqL.of hl,rfl,x.1,_,_,_,rfl,rfl,SqT.of hx1,NT,Ay 2,λ e he=>q e _ (Same.new he) (by show EnR _ _ e (if _ then _ else _);rw[if_pos (show(cons [x]).length=1 from rfl)];exact Af)⟩
 .have c1:(cons ts).length≠1:=λ z=>of_decide_eq_false c (by rw[aa]at z |-;rw[z];rfl);have eG:enG (cons ts) p=thG p (DP ((cons ts).map (·.1)) p):=if_neg c1;rw[eG]at q;refine⟨_,rfl,l,rfl,⟨_,SqL.of hl⟩,λ acc hacc=>B6 (K:=K) (a:=l) (ys:=pcs ts) (λ i zs σ H'=>(∃y z,σ=[y,z])/\Same H H'/\zs=Ao ((pns ts).take i)) ⟨⟨none,none,rfl⟩,Same.new hacc,rfl⟩ (λ i zs σ H' _ _ hp=>SqL.of (hp.2.1 _ _ hl)) ?_ ?_⟩
  .rintro i x zs σ H' hx hi hl' hacc' ⟨⟨y,z,rfl⟩,hs,rfl⟩;obtain⟨u,hu,rfl⟩:=Nz hx;obtain⟨g1,g2⟩:=(pc.same hs) u (ao hu);refine⟨u.1,_,rfl,SqT.of g1,rfl,_,_,rfl,_,_,rfl,rfl,_,rfl,?_⟩;refine cNx.mk (aF (Am (by rw[aa];lia))) hi hl' hacc' ⟨⟨_,_,rfl⟩,λ c o e=>?_,?_⟩
   .rw[Ag (Ae e hacc)];exact hs c o e
   .unfold Ao;rw[aV,aB,hu,aj];rfl
  rintro zs σ H1 hzl ac1 ⟨_,s1,rfl⟩;have e1:(pcs ts).length=(pns ts).length:=by rw[aa,aa]
  rw[e1,aN]at ac1;have pn1:PnO H1 (pns ts):=λ z hz=>by
   obtain⟨u,hu,rfl⟩:=aw.mp hz;exact s1 _ _ (pc u hu).2
  have few':(pns ts).length<=150:=by rw[aa];exact few
  refine⟨_,rfl,_,rfl,b,acc,p,pns ts,true,rfl,s1 _ _ hb,ac1,pn1,few',pk,pb,λ c2 H2 s2 hc2=>?_⟩;rw[Nu]at hc2;have s12:=s1.trans s2;cases q1:lns ((cons ts).map (·.1)) p true with
  |cons x r =>
   rw[q1]at hc2;have eT:DP ((cons ts).map (·.1)) p=(true,x)::(r.map (λ a=>(true,a))++(lns ((cons ts).map (·.1)) p false).map (λ a=>(false,a))):=by unfold DP;rw[q1];rfl
   rw[eT]at q;refine⟨_,rfl,_,.inl ⟨_,SqL.of hc2,rfl⟩,Bt rfl ?_⟩;exact⟨_,rfl,c2,_,_,_,rfl,rfl,SqL.of hc2,Kn,_,rfl,b,_,_,_,rfl,rfl,SqT.of (s12 _ _ hb),Hv (u:=true),_,_,rfl,rfl,Ay 2,λ e he=>q e _ (s12.trans (Same.new he)) Af⟩
  |nil =>
   rw[q1]at hc2;refine⟨_,rfl,_,.inl ⟨_,SqL.of hc2,rfl⟩,AG rfl ?_⟩;refine⟨_,rfl,_,rfl,b,acc,p,pns ts,false,rfl,s12 _ _ hb,s2 _ _ ac1,pn1.same s2,few',pk,pb,λ c3 H3 s3 hc3=>?_⟩;rw[Nu]at hc3;have s13:=s12.trans s3;cases q2:lns ((cons ts).map (·.1)) p false with
   |cons x r =>
    rw[q2]at hc3;have eT:DP ((cons ts).map (·.1)) p=(false,x)::r.map (λ a=>(false,a)):=by unfold DP;rw[q1,q2];rfl
    rw[eT]at q;refine⟨_,rfl,_,.inl ⟨_,SqL.of hc3,rfl⟩,Bt rfl ?_⟩;exact⟨_,rfl,c3,_,_,_,rfl,rfl,SqL.of hc3,Kn,_,rfl,b,_,_,_,rfl,rfl,SqT.of (s13 _ _ hb),Hv (u:=false),_,_,rfl,rfl,Ay 2,λ e he=>q e _ (s13.trans (Same.new he)) Af⟩
   |nil =>
    rw[q2]at hc3;have eT:DP ((cons ts).map (·.1)) p=[]:=by unfold DP;rw[q1,q2];rfl
    rw[eT]at q;refine⟨_,rfl,_,.inl ⟨_,SqL.of hc3,rfl⟩,AG rfl ?_⟩;exact⟨_,rfl,Ay 2,λ e he=>q e _ (s13.trans (Same.new he)) ⟨b,p,Af,(s13.trans (Same.new he)) _ _ hb,rfl,rfl⟩⟩
def spE(R:Rk->Prop)(en:Rk->En)(D:Rk->Prop):Sp:=λ vs H Q _=>∃(a:Addr)(p:Rk),vs=[.ref a]/\H a=some (.tup p.vs)/\D p/\∀e H',Same H H'->EnR R H' e (en p)->Q (.ref e) H'
inductive QE(P:Program)(w:World)(K:Frag)(mg:MGz)(base:Heap)(vs:LUz)(H:Hp)(Q:VK)(E:XK):Prop
 |mk (a f:Addr) (p:Rk) (t:Tr) (en:Rk->En) (D R:Rk->Prop) (h0:vs=[.ref a,.ref f]) (h1:H a=some (.tup p.vs)) (h2:FvOk P w K mg base 6 H f (spE R en D)) (h3:OR en D t p) (h4:t.nd<=400) (h5:∀l xs H',Same H H'->H l=none->H' l=some (.lst xs)->EnsR R H' xs (AY t)->Q (.ref l) H'):QE P w K mg base vs H Q E
def RW(P:Program)(w:World)(K:Frag)(mg:MGz)(base:Heap) :Sp:=λ vs H Q E=>QE P w K mg base vs H Q E
abbrev UH(R:Rk->Prop)(en:Rk->En)(D:Rk->Prop)(H:Hp)(a f:Addr)(t:Tr)(le lw:Addr)(m:Nat)(σ:St)(H':Hp):Prop:=∃(xs:LUz)(es:List En)(ws:List (Addr×Rk×Tr))(x4 x5:Option V),σ=[some (.ref a),some (.ref f),some (.ref le),some (.ref lw),x4,x5]/\Same H H'/\H' le=some (.lst xs)/\EnsR R H' xs es/\H' lw=some (.lst (B8 ws))/\PsAt H' ws/\(∀p∈ws,OR en D p.2.2 p.2.1)/\es++EH (trs ws)=AY t/\m=cnt (trs ws)
theorem Qa(e:En):inV ((enV e).headD .non) [V.str "upright",V.str "level"]=match e with
  |.w _=>false
  |.c _ _=>true:=by
 cases e with
 |w m =>
  show(eqV (V.str "upright") (V.str "whole")||(eqV (V.str "level") (V.str "whole")||false))=false;decide +kernel
 |c u k =>
  cases u
  .show(eqV (V.str "upright") (V.str "level")||(eqV (V.str "level") (V.str "level")||false))=true;decide +kernel
  .show(eqV (V.str "upright") (V.str "upright")||(eqV (V.str "level") (V.str "upright")||false))=true;decide +kernel
theorem HV{f:Addr}{fd:FuncData}(F:Fun K "entries_by" "entries_by" Dx f fd)(T:Txt mg tk)(D_first_piece:A2 P w K mg base 1 "first_piece" ["piece","word","at"] Ps)(D_other_piece:A2 P w K mg base 1 "other_piece" ["piece","word","at"] Po):A5 P w K mg base CX0 7 f fd ["sheet","entry_at"] (RW P w K mg base):=by
 have S:An ["sheet","entry_at","entries","waiting","piece","entry"] ["sheet","entry_at"] (Ai Dx):=fsk;refine F.g S ?_;rintro vs H Q E ⟨a,fv,p,t,en,D,R,rfl,ha,hfv,gr,hn,q⟩;refine⟨rfl,λ cdv A outer s hr=>?_⟩;refine⟨_,(Ac (Ar (i:=2) S.nd rfl (av rfl) (AJ Ab))
  (Ac (Ar (i:=3) S.nd rfl (av rfl) (AJ (Aa (pv 0) Ab)))
  (Ac (KL PassesOwn.never (Fa (pv 3) (λ_=>rfl)) (Ac (Ar (i:=4) S.nd rfl (av rfl) (GA br cr cq JT (pv 3)))
  (Ac (Ar (i:=5) S.nd rfl (av rfl) (Ua (k:=6) hr (pv 1) (Aa (pv 4) Ab)))
  (Ac (AS (BD (pv 2) (Aa (pv 5) Ab)))
  (Ah (A7 (Ax F3 (Aj Ak (pv 5) Ad (λ_ _=>rfl)) (A3 (Aa (A9 (v:=.str "upright") rfl T.g_UPRIGHT_cuts ⟨_,rfl⟩) (Aa (A9 (v:=.str "level") rfl T.g_LEVEL_cuts ⟨_,rfl⟩) Ab))) rfl) (Ac (AS (BD (pv 3) (Aa (Aw D_other_piece hr (Aa (pv 4) (Aa (Aj Ak (pv 5) Ad (λ_ _=>rfl)) (Aa (Aj Ak (pv 5) Ad (λ_ _=>rfl)) Ab)))) Ab)))
  (Ah (AS (BD (pv 3) (Aa (Aw D_first_piece hr (Aa (pv 4) (Aa (Aj Ak (pv 5) Ad (λ_ _=>rfl)) (Aa (Aj Ak (pv 5) Ad (λ_ _=>rfl)) Ab)))) Ab))))) Az))))))
  (Ah (Ap (pv 2)))))),?_⟩
 refine⟨Ay 0,λ le hle=>⟨_,rfl,Ay 1,λ lw hlw=>?_⟩⟩;have nel:le≠lw:=Ae Af hlw;have s0:Same H (upd (upd H le (.lst [])) lw (.lst [.ref a])):=(Same.new hle).trans (Same.new hlw);have hlw0:H lw=none:=none_of (Same.new hle) hlw;refine⟨UH R en D H a fv t le lw,
  ⟨_,[],[],[(a,p,t)],none,none,rfl,s0,by rw[Ag nel];exact Af,trivial,Af,λ r hr=>?_,λ r hr=>?_,?_,rfl⟩,?_⟩
 .rw[ad.mp hr];exact s0 _ _ ha
 .rw[ad.mp hr];exact gr
 .show[]++EH [(V.ref a,t)]=AY t;rw[FC];rfl
 rintro m σ H' ⟨xs,es,ws,x4,x5,rfl,s1,hl,hen,hw,hps,hgr,heq,rfl⟩;have tot:es.length+cnt (trs ws)=t.nd:=by rw[<-Ee,<-heq,af,Hl]
 rcases E7 ws with rfl|⟨ws0,r,rfl⟩
 .refine⟨_,rfl,_,.inl ⟨_,SqL.of hw,rfl⟩,AG rfl ⟨_,rfl,q le xs H' s1 hle hl ?_⟩⟩;rw[<-heq];show EnsR R H' xs (es++[]);rw[aL];exact hen
 .refine⟨_,rfl,_,.inl ⟨_,SqL.of hw,rfl⟩,Bt (by simp) ⟨λ σ' H''=>∃m',m'<cnt (trs (ws0++[r]))/\UH R en D H a fv t le lw m' σ' H'',λ σ' H'' z=>z,?_⟩⟩;obtain⟨pa,pk,pt⟩:=r;have hp0:=hps (pa,pk,pt) (by simp);have hg0:=hgr (pa,pk,pt) (by simp);refine⟨_,rfl,.inl ⟨rfl,_,SqL.of hw⟩,lw,_,_,rfl,rfl,hw,O7,?_⟩;rw[OG];have k2:Kp H' (upd H' lw (.lst (B8 ws0))):=Kp.put hw;have s2:Same H (upd H' lw (.lst (B8 ws0))):=λ b o e=>by rw[Ag (Ae e hlw0)];exact s1 b o e
  have l2:(upd H' lw (.lst (B8 ws0))) le=some (.lst xs):=by rw[Ag nel];exact hl
  have w2:(upd H' lw (.lst (B8 ws0))) lw=some (.lst (B8 ws0)):=Af;generalize upd H' lw (.lst (B8 ws0))=H2 at k2 s2 l2 w2 |-;have hp2:=k2 _ _ hp0 (by intro xs z;cases z);have ps2:PsAt H2 ws0:=λ r hr=>k2 _ _ (hps r (a9 _ hr)) (by intro xs z;cases z);have gr2:∀r∈ws0,OR en D r.2.2 r.2.1:=λ r hr=>hgr r (a9 _ hr);have hen2:=hen.kp k2;rw[Cf,Ca]at heq;rw[Cf,Ef]at tot;have hxl:=hen.len;have np:=PJ pt;have hDp:D pk:=by cases pt<;>exact hg0.1
  refine⟨_,rfl,fv,spE R en D,rfl,hfv.same s2,_,rfl,Same.refl H2,pa,pk,rfl,hp2,hDp,λ ea H3 s3 e3=>?_⟩;have l3:=s3 _ _ l2;refine⟨_,rfl,.inl ⟨rfl,_,SqL.of l3⟩,_,rfl,le,xs,.ref ea,rfl,rfl,l3,Am (by lia),?_⟩;have k4:Kp H3 (upd H3 le (.lst (xs++[.ref ea]))):=Kp.put l3;have s4:Same H (upd H3 le (.lst (xs++[.ref ea]))):=λ b o e=>by rw[Ag (Ae e hle)];exact s3 b o (s2 b o e)
  have l4:(upd H3 le (.lst (xs++[.ref ea]))) le=some (.lst (xs++[.ref ea])):=Af;have w4:(upd H3 le (.lst (xs++[.ref ea]))) lw=some (.lst (B8 ws0)):=by rw[Ag (Ne.symm nel)];exact s3 _ _ w2
  have en4:EnsR R (upd H3 le (.lst (xs++[.ref ea]))) (xs++[.ref ea]) (es++[en pk]):=((hen2.kp (FO s3)).kp k4).snoc (e3.kp k4);have kk:=(FO s3).trans k4;have e4:=e3.kp k4;generalize upd H3 le (.lst (xs++[.ref ea]))=H4 at k4 s4 l4 w4 en4 kk e4 |-;have hp4:=kk _ _ hp2 (by intro xs z;cases z);have ps4:PsAt H4 ws0:=ps2.kp kk;cases pt with
  |whole m =>
   have een:en pk=.w m:=hg0.2;rw[een]at e4 en4;obtain⟨wv,wx,e4,nq⟩:=e4.wd;refine⟨_,rfl,ea,_,_,_,rfl,rfl,SqT.of e4,LK,Ay 2,λ tt ntt=>?_⟩;obtain⟨H5,g,s5,e5⟩:=nw (.tup [.str "upright",.str "level"]) ntt;rw[g];refine⟨tt,_,rfl,.inr (SqT.of e5),rfl,rfl,_,rfl,AG (by rw[if_neg ae];exact nq) ?_⟩;refine⟨cnt (trs ws0),by rw[Cf,Ef];exact cZ _,_,_,ws0,_,_,rfl,s4.trans s5,s5 _ _ l4,en4.kp (FO s5),s5 _ _ w4,ps4.kp (FO s5),gr2,?_,rfl⟩;rw[<-heq,bi];rfl
  |cut u k y1 y2 =>
   obtain⟨_,een,g1,g2⟩:=hg0;have een:en pk=.c u k:=een;rw[een]at e4 en4;have e4:H4 ea=some (.tup (enV (.c u k))):=e4;refine⟨_,rfl,ea,_,_,_,rfl,rfl,SqT.of e4,LK,Ay 2,λ tt ntt=>?_⟩;obtain⟨H5,g,s5,e5⟩:=nw (.tup [.str "upright",.str "level"]) ntt;rw[g];refine⟨tt,_,rfl,.inr (SqT.of e5),rfl,rfl,_,rfl,Bt (by rw[if_neg ae];exact Qa (.c u k)) ?_⟩;have e55:=s5 _ _ e4;have w5:=s5 _ _ w4;have hp5:=s5 _ _ hp4;refine⟨_,rfl,.inl ⟨rfl,_,SqL.of w5⟩,_,rfl,_,rfl,ea,_,_,_,rfl,rfl,SqT.of e55,LK,_,rfl,ea,_,_,_,rfl,rfl,SqT.of e55,NT,pa,pk,u,k,rfl,hp5,λ t6 n6=>?_⟩;obtain⟨H6,g,s6,e6⟩:=nw (.tup (pk.oth u k).vs) n6;rw[g];have w6:=s6 _ _ w5;have cl:=Kk (trs ws0);rw[aa]at cl;have ndp:(Tr.cut u k y1 y2).nd=y1.nd+y2.nd+1:=rfl;refine⟨lw,_,_,rfl,rfl,w6,Am (by rw[aa];lia),?_⟩;have k7:Kp H6 (upd H6 lw (.lst (B8 ws0++[.ref t6]))):=Kp.put w6;have s7:Same H (upd H6 lw (.lst (B8 ws0++[.ref t6]))):=λ b o e=>by rw[Ag (Ae e hlw0)];exact s6 _ _ (s5 _ _ (s4 b o e))
   have l7:(upd H6 lw (.lst (B8 ws0++[.ref t6]))) le=some (.lst (xs++[.ref ea])):=by rw[Ag nel];exact s6 _ _ (s5 _ _ l4)
   have w7:(upd H6 lw (.lst (B8 ws0++[.ref t6]))) lw=some (.lst (B8 ws0++[.ref t6])):=Af;have kk7:=((FO s5).trans (FO s6)).trans k7;have e7:=k7 _ _ e6 (by intro xs z;cases z);generalize upd H6 lw (.lst (B8 ws0++[.ref t6]))=H7 at k7 s7 l7 w7 kk7 e7 |-;have ea7:=kk7 _ _ e4 (by intro xs z;cases z);have hp7:=kk7 _ _ hp4 (by intro xs z;cases z);refine⟨_,rfl,.inl ⟨rfl,_,SqL.of w7⟩,_,rfl,_,rfl,ea,_,_,_,rfl,rfl,SqT.of ea7,LK,_,rfl,ea,_,_,_,rfl,rfl,SqT.of ea7,NT,pa,pk,u,k,rfl,hp7,λ t8 n8=>?_⟩;obtain⟨H8,g,s8,e8⟩:=nw (.tup (pk.fst u k).vs) n8;rw[g];have w8:=s8 _ _ w7;refine⟨lw,_,_,rfl,rfl,w8,Am (by rw[af,aa,bF];lia),?_⟩;have k9:Kp H8 (upd H8 lw (.lst (B8 ws0++[.ref t6]++[.ref t8]))):=Kp.put w8;have kk9:=(FO s8).trans k9;have kall:=kk7.trans kk9;refine⟨cnt (trs (ws0++[(t6,pk.oth u k,y2)]++[(t8,pk.fst u k,y1)])),?_,xs++[.ref ea],es++[.c u k],ws0++[(t6,pk.oth u k,y2)]++[(t8,pk.fst u k,y1)],_,_,rfl,λ b o e=>?_,?_,en4.kp kall,?_,λ r hr=>?_,λ r hr=>?_,?_,rfl⟩
   .rw[Cf,Cf,Ef,Ef,Cf,Ef];show cnt (trs ws0)+y2.nd+y1.nd<cnt (trs ws0)+(y1.nd+y2.nd+1);lia
   .rw[Ag (Ae e hlw0)];exact s8 b o (s7 b o e)
   .rw[Ag nel];exact s8 _ _ l7
   .rw[Af,I0,I0]
   .rcases ai.mp hr with hr|hr
    .rcases ai.mp hr with hr|hr
     .exact kall _ _ (ps4 r hr) (by intro xs z;cases z)
     .rw[ad.mp hr];exact kk9 _ _ e7 (by intro xs z;cases z)
    .rw[ad.mp hr];exact k9 _ _ e8 (by intro xs z;cases z)
   .rcases ai.mp hr with hr|hr
    .rcases ai.mp hr with hr|hr
     .exact gr2 r hr
     .rw[ad.mp hr];exact g2
    .rw[ad.mp hr];exact g1
   .rw[Cf,Cf,Ca,Ca,<-heq];show es++[.c u k]++(AY y1++(AY y2++EH (trs ws0)))=es++(.c u k::(AY y1++AY y2)++EH (trs ws0));simp[bi]
def N6:Expr:=match (A8 Bo).getD 0 (.Pass ⟨0,0,0,0⟩) with
 |.Return (some (.Call _ [_,k] _ _)) _=>k
 |_=>.Constant .none 0 ⟨0,0,0,0⟩
def Sb:Arguments:=match N6 with|.Lambda p _ _ _=>p|_=>B5 Bo
def Sc:Expr:=match N6 with|.Lambda _ b _ _=>b|e=>e
def lamS3:Scope:=match N6 with|.Lambda _ _ s _=>s|_=>Ai Bo
def N5:Pos:=match N6 with|.Lambda _ _ _ q=>q|_=>⟨0,0,0,0⟩
def Lp:Str:="cut_up.<locals>.<lambda>"
theorem Tj:IV "block" ["some"] lamS3:=⟨rfl,rfl,rfl,rfl,λ_ _=>rfl,λ_=>rfl,λ y hy=>(by decide +kernel:∀p∈lamS3.names,p.2=.cell->p.1=("block":Str)) _ (PySem.mem_of_lookup hy) rfl,λ y hy=>(by decide +kernel:∀p∈lamS3.names,p.2=.free->p.1∈(["some"]:LSz)) _ (PySem.mem_of_lookup hy) rfl,by decide +kernel⟩
abbrev NM(L:Nat):List (Str×Addr):=[("some",L+1)]
theorem Ly{α:Type}(p:α->Bool){L:List α}{i:Nat}{x:α}(h:L[i]?=some x):(L.take (i+1)).filter p=(L.take i).filter p++if p x=true then [x] else []:=by
 rw[aV,h,cH];show _=_;cases hx:p x with
 |true=>simp[hx]
 |false=>simp[hx]
theorem FX{ts:List PT}{i:Nat}{t:PT}(q:PT->Bool)(h:ts[i]?=some t):pcs ((ts.take (i+1)).filter q)=pcs ((ts.take i).filter q)++if q t=true then [.ref t.1] else []:=by
 rw[Ly q h];show List.map _ _=_;rw[aj];split<;>rfl
theorem Ta{w h:Int}{ps:List Rc}{p:Rk}{n:Int}(db:DB w h ps p)(e:enG (inP (mks ps) p) p=.w (some n)):Rm w h ps p:=by
 unfold enG at e;by_cases h1:(inP (mks ps) p).length=1
 .rw[if_pos h1]at e;cases e
 .rw[if_neg h1]at e;cases hc:DP ((inP (mks ps) p).map (·.1)) p with
  |nil=>exact⟨db,hc,h1⟩
  |cons c r=>rw[hc]at e;cases e
theorem Uf{ps:List Rc}{ts:List PT}(e:cons ts=mks ps){x:PT}(hx:x∈ts):x.2.2.2=none:=by
 have:x.2.2∈cons ts:=aw.mpr ⟨x,hx,rfl⟩;rw[e]at this;obtain⟨r,_,z⟩:=aw.mp this;rw[<-z]
theorem Hf{r p:Rk}:Fi r.t r.l r.b r.r p.t p.l p.b p.r=decide (Ins r p):=by
 rw[bg,decide_eq_true_iff];unfold Fi Ins;simp only[aK,decide_eq_true_eq];lia
inductive HL(tb3:Addr)(vs:LUz)(H:Hp)(Q:VK)(E:XK):Prop
 |mk (a l:Addr) (p:Rk) (ts:List PT) (w h:Int) (ps:List Rc) (G:Tr) (h0:vs=[.ref a,.ref l]) (h1:H a=some (.tup p.vs)) (h2:H l=some (.lst (pcs ts))) (h3:PcO H ts) (h4:ts.length<=150) (h5:cons ts=mks ps) (h6:GB.Tiles w h ps) (h7:w<=12) (h8:h<=12) (h9:DB w h ps p) (h10:GrS w h ps G p) (h11:Ih p G) (h12:TabOk N5 Lp tb3 H) (h13:∀le xs H',SameX tb3 H H'->TabOk N5 Lp tb3 H'->H' le=some (.lst xs)->EnsR (Rm w h ps) H' xs (AY G)->G.nd<=400->Q (.ref le) H'):HL tb3 vs H Q E
def Fw(tb3:Addr) :Sp:=λ vs H Q E=>HL tb3 vs H Q E
theorem O0{f:Addr}{fd:FuncData}{c tb3:Addr}(F:FunC K "cut_up" "cut_up" Bo f fd c)(hC:Kj K c tb3=true)(hB:Tm K mg)(D_inside:A2 P w K mg base 1 "inside" ["one","other"] Dm)(D_entry_for:A2 P w K mg base 4 "entry_for" ["block","some"] Iq)(D_entries_by:A2 P w K mg base 7 "entries_by" ["sheet","entry_at"] (RW P w K mg base)) :
  A5 P w K mg base CX0 8 f fd ["sheet","some"] (Fw tb3):=by
 have S:An ["sheet","some"] ["sheet","some"] (Ai Bo):=fsk;refine F.g S ?_;rintro vs H Q E ⟨a,l,p,ts,wi,hi,ps,G,rfl,ha,hl,pc,few,ecs,T0,w2,h2,db,gr,gfit,tb,q⟩;refine⟨rfl,λ A outer s hr=>?_⟩;have hlam:=S9 (X:=(BA CX0 P w K mg base ["sheet","some"] "cut_up" (Ai Bo) f (.ref c) A outer s H E).nox) (params:=Sb) (body:=Sc) (scope:=lamS3) (pos:=N5) (qual:=Lp) (clos:=NM s.heap.objs.size) rfl (codeTB_of hC) hB rfl rfl rfl;have hcl:∀p∈NM s.heap.objs.size,(BA CX0 P w K mg base ["sheet","some"] "cut_up" (Ai Bo) f (.ref c) A outer s H E).nox.env.cells.lookup p.1=some p.2/\(BA CX0 P w K mg base ["sheet","some"] "cut_up" (Ai Bo) f (.ref c) A outer s H E).nox.env.kindOf p.1=some .cell:=λ p hp=>by
  rw[ad.mp hp];exact⟨rfl,rfl⟩
 refine⟨_,(Ah (Ap (SA (clos:=NM s.heap.objs.size) D_entries_by hr (Aa (pv 0) (Aa hlam Ab)) hcl (λ_=>rfl) rfl))),?_⟩;have pk:=db.ok;have pb:=db.bd w2 h2;have Gnd:G.nd<=400:=by
  have w1:1<=p.r-p.l:=by have:=pk.2;lia
  have h1:1<=p.b-p.t:=by have:=pk.1;lia
  have z1:=Hm w1 h1 gfit;have b1:=pb true;have b2:=pb false;have z2:(p.r-p.l)*(p.b-p.t)<=12*12:=Int.mul_le_mul (by have:0<=p.l:=b1.1;have:p.r<=12:=b1.2;lia) (by have:0<=p.t:=b2.1;have:p.b<=12:=b2.2;lia) (by lia) (by lia);have z3:=PH G;lia
 have tbl:=tb.tbl;refine⟨_,rfl,TabOk.lamC tb λ c' fl ctv H1 s1 tab1 hf hc hnew=>?_⟩;have ne1:∀{x:Addr}{u:HO},H x=some u->(∀ps,u≠.tbl ps)->x≠tb3:=λ{x u} e n z=>by obtain⟨ps,e'⟩:=tbl;rw[z,e']at e;cases e;exact n _ rfl
 intro Lc CA;have tup1:∀{x:Addr}{xs:LUz},H x=some (.tup xs)->H1 x=some (.tup xs):=λ e=>s1 _ _ (ne1 e (by intro ps z;cases z)) e;have hl1:H1 l=some (.lst (pcs ts)):=s1 _ _ (ne1 hl (by intro ps z;cases z)) hl;have up:∀{x:Addr}{u:HO},H1 x=some u->(tkd H1 Lc) x=some u:=λ e=>by rw[AV (ED CA.new e)];exact e
 have fv:=R4 (P:=P) (w:=w) (K:=K) (mg:=mg) (base:=base) (k:=5) (H:=tkd H1 Lc) (f:=fl) (c':=c') (params:=Sb) (body:=Sc) (scope:=lamS3) (qual:=Lp) (pn:="block") (ctv:=ctv) (fs:=["some"]) (clos:=NM s.heap.objs.size) (cv:=[.ref l]) (L:=Lc)
  (sp:=spE (Rm wi hi ps) (λ p=>enG (inP (mks ps) p) p) (DB wi hi ps))
  (up hf) (up hc) Tj rfl (λ y=>?_) (λ x y cc h1 h2=>?_) (λ a o e=>Gw e) CA.has (λ p hp i v hi hv=>?_) (λ_ _=>.of_eq rfl) (λ vs H' Q' E' hsp=>by obtain⟨a',p',rfl,_⟩:=hsp;exact⟨_,rfl⟩)
  (λ A' outer' s' H' E' v Q' sm' hr' hsp=>?_)
 .refine⟨a,fl,p,G,_,_,_,rfl,up (tup1 ha),fv,gr,Gnd,λ le xs H2 s2 nl hle hens=>?_⟩;obtain⟨sU,hk⟩:=Pw CA.new s2;exact⟨hk,q le xs _ (s1.trans sU.x) (tab1.same sU) (Jl hk hle (by intro o z;cases z)) (hens.tups (λ a xs e=>Jl hk e (by intro o z;cases z))) Gnd⟩
 .constructor
  .rintro⟨cc,h⟩;have:=PySem.mem_of_lookup h;cases ad.mp this;simp
  .intro hy;rw[ad.mp hy];exact⟨_,rfl⟩
 .have m1:=ad.mp (PySem.mem_of_lookup h1);have m2:=ad.mp (PySem.mem_of_lookup h2);exact(congrArg eS m1).trans (congrArg eS m2).symm
 .have hp':=ad.mp hp;subst hp'
  match i,hi with
  |0,_ =>
   cases hv;exact CA.val _ hp 1 _ rfl rfl
 .obtain⟨a',p',ev,ha',db',q'⟩:=hsp;cases ev;refine⟨_,(Aw D_entry_for hr' (Aa (pv 0) (Aa (Ch rfl (AC (pv 1)) (λ_ _ _ _ _=>pgk (nk ["piece","block"])) (λ_ _ _ _ _=>(AI (Aw D_inside hr' (Aa (Aj (Bn (K:=K)) (pv 0) Ad (λ_ _=>rfl)) (Aa (pv 1) Ab))))) (λ_ _ _ _ _=>(pv 0)) (N:=["piece","block"]) (fr:=[none,some 0])) Ab))),?_⟩;have hL':∀a o,Lc.lookup a=some o->H' a=some (BS a o):=λ a o e=>sm' _ _ (Gw e);have kp:∀{x:Addr}{u:HO},H1 x=some u->(∀o,u≠BS x o)->(utk H' Lc) x=some u:=λ e n=>Jl hL' (sm' _ _ (up e)) n;have hau:=Jl hL' ha' (by intro o z;cases z);have hlu:=kp hl1 (by intro o z;cases z);have pcu:PcO (utk H' Lc) ts:=λ x hx=>⟨kp (tup1 (pc x hx).1) (by intro o z;cases z),kp (tup1 (pc x hx).2) (by intro o z;cases z)⟩;have sm2:∀{H2:Hp},Same (utk H' Lc) H2->Same H' (tkd H2 Lc):=λ{H2} s3 x o e=>by
   cases q:Lc.lookup x with
   |some o'=>rw[hL' x o' q]at e;cases e;exact Gw q
   |none=>rw[AV q];exact s3 _ _ (by rw[Bu q];exact e)
  refine⟨_,rfl,_,rfl,l,rfl,⟨_,SqL.of hlu⟩,λ acc hacc=>BF (K:=K) (a:=l) (ys:=pcs ts) (λ i zs σ H2=>(∃y,σ=[y,some (.ref a')])/\Same (utk H' Lc) H2/\zs=pcs ((ts.take i).filter λ t=>decide (Ins t.2.2.1 p'))) ⟨⟨none,rfl⟩,Same.new hacc,rfl⟩ (λ i zs σ H2 _ _ hp=>SqL.of (hp.2.1 _ _ hlu)) ?_ ?_⟩
  .rintro i x zs σ H2 hx hi hl' hacc' ⟨⟨y,rfl⟩,hs,rfl⟩;obtain⟨z,hz,rfl⟩:=Nz hx;obtain⟨g1,g2⟩:=(pcu.same hs) z (ao hz);have ft:=FX (λ t:PT=>decide (Ins t.2.2.1 p')) hz;refine⟨_,rfl,z.1,_,_,_,rfl,rfl,SqT.of g1,LK,_,rfl,z.2.1,a',_,_,_,_,_,_,_,_,rfl,g2,hs _ _ hau,_,rfl,?_⟩;rw[Hf];cases h3:decide (Ins z.2.2.1 p') with
   |true =>
    refine⟨_,rfl,fNx.mk (aF (Am (by rw[aa];lia))) hi hl' hacc' ⟨⟨_,rfl⟩,λ c o e=>by rw[Ag (Ae e hacc)];exact hs c o e,?_⟩⟩;rw[ft,h3,if_pos rfl]
   |false=>exact fSk.mk hi hl' hacc' ⟨⟨_,rfl⟩,hs,by rw[ft,h3,if_neg ae,aL]⟩
  rintro zs σ H2 hzl ac2 ⟨_,s2,rfl⟩;rw[aa,aN]at ac2;have ec:cons (ts.filter λ t=>decide (Ins t.2.2.1 p'))=inP (cons ts) p':=by
   unfold inP;show List.map _ _=List.filter _ (List.map _ ts);rw[cg];rfl
  have fl:(ts.filter λ t=>decide (Ins t.2.2.1 p')).length<=ts.length:=bQ _ _;refine⟨a',acc,p',ts.filter λ t=>decide (Ins t.2.2.1 p'),rfl,s2 _ _ hau,ac2,λ x hx=>(pcu.same s2) x (aP.mp hx).1,by lia,db'.ok,db'.bd w2 h2,λ x hx=>Uf ecs (aP.mp hx).1,λ e H3 s3 e3 hno=>?_⟩;rw[ec,ecs]at e3;refine q' e _ (sm2 (s2.trans s3)) (EnR.imp (R:=λ z=>z=p') (λ n p2 en e2=>by rw[e2];exact Ta db' en) (e3.tups λ x xs ex=>?_));cases qo:Lc.lookup x with
  |some o=>rw[hno x o qo]at ex;cases ex
  |none=>rw[AV qo];exact ex
def onB(x y:LD):Bool:=(x.1 != y.1)&&((decide (y.2.1=x.2.2.1)||decide (y.2.1=x.2.2.2))&&(decide (y.2.2.1<x.2.1)&&decide (x.2.1<y.2.2.2)))
theorem onB_iff{x y:LD}:onB x y=true↔On x y:=by
 unfold onB On;simp only[aK,bO,decide_eq_true_eq,bne_iff_ne]
def Cs:List LD->Bool
 |[x0,x1,x2,x3]=>onB x3 x0&&(onB x0 x1&&(onB x1 x2&&(onB x2 x3&&true)))
 |_=>false
theorem MV:∀{xs:List LD},xs.length≠4->Cs xs=false
 |[],_=>rfl
 |[_],_=>rfl
 |[_,_],_=>rfl
 |[_,_,_],_=>rfl
 |[_,_,_,_],h=>absurd rfl h
 |_::_::_::_::_::_,_=>rfl
theorem Kl(u v:Bool):decide (V.str (cond u "upright" "level")=V.str (cond v "upright" "level"))=(u==v):=by cases u<;>cases v<;>decide +kernel
theorem in2(k b e:Int):inV (.int k) [.int b,.int e]=(decide (k=b)||decide (k=e)):=by
 show((b==k)||((e==k)||false))=_;have f:∀i j:Int,(i==j)=decide (j=i):=λ i j=>by rw[bg];simp only[beq_iff_eq,decide_eq_true_eq];exact⟨Eq.symm,Eq.symm⟩
 rw[f,f,Bool.or_false]
theorem atM{x0 x1 x2 x3:V}:atI [x0,x1,x2,x3] (-1)=some x3:=rfl
inductive QB(vs:LUz)(H:Hp)(Q:VK)(E:XK):Prop
 |mk (a b:Addr) (x y:LD) (h0:vs=[.ref a,.ref b]) (h1:H a=some (.tup ((Rv x).map kV))) (h2:H b=some (.tup ((Rv y).map kV))) (h3:∀H',Same H H'->Q (.bl (onB x y)) H'):QB vs H Q E
def Ky:Sp:=λ vs H Q E=>QB vs H Q E
inductive LM(vs:LUz)(H:Hp)(Q:VK)(E:XK):Prop
 |mk (l:Addr) (us:List (Addr×LD)) (h0:vs=[.ref l]) (h1:H l=some (.lst (Bc us))) (h2:AtL H us) (h3:∀H',Same H H'->Q (.bl (Cs (us.map (·.2)))) H'):LM vs H Q E
def MY:Sp:=λ vs H Q E=>LM vs H Q E
theorem Mw{f:Addr}{fd:FuncData}(F:Fun K "lies_on" "lies_on" Fy f fd):A5 P w K mg base CX0 1 f fd ["lead","other"] Ky:=by
 have S:An ["lead","other"] ["lead","other"] (Ai Fy):=fsk;refine F.g S ?_;rintro vs H Q E ⟨a,b,x,y,rfl,ha,hb,q⟩;refine⟨rfl,λ cdv A outer s hr=>?_⟩;have ha:H a=some (.tup [.str (cond x.1 "upright" "level"),.int x.2.1,.int x.2.2.1,.int x.2.2.2]):=ha;have hb:H b=some (.tup [.str (cond y.1 "upright" "level"),.int y.2.1,.int y.2.2.1,.int y.2.2.2]):=hb;refine⟨_,(Ac (A7 (Ax BU (Aj Ak (pv 0) Ad (λ_ _=>rfl)) (Aj Ak (pv 1) Ad (λ_ _=>rfl)) (Av _)) (Ah (Ap Bq)) Az)
  (Ah (Ap (Bm (AH F3 (Aj Ak (pv 1) Ad (λ_ _=>rfl)) (A3 (Aa (Aj Ak (pv 0) Ad (λ_ _=>rfl)) (Aa (Aj Ak (pv 0) Ad (λ_ _=>rfl)) Ab))) rfl) (Bg (BP AR AR (Aj Ak (pv 1) Ad (λ_ _=>rfl)) (Aj Ak (pv 0) Ad (λ_ _=>rfl)) (Aj Ak (pv 1) Ad (λ_ _=>rfl)))))))),?_⟩
 refine⟨_,rfl,a,_,_,_,rfl,rfl,SqT.of ha,at0,_,rfl,b,_,_,_,rfl,rfl,SqT.of hb,at0,rfl,_,rfl,AF (λ h=>?_) (λ h=>?_)⟩
 .rw[Kl]at h;have e:onB x y=false:=by unfold onB;rw[show(x.1 != y.1)=false by rw[bne,h];rfl];rfl
  show Q (.bl false) H;rw[<-e];exact q H (Same.refl H)
 .rw[Kl]at h;have h0:(x.1 != y.1)=true:=by rw[bne,h];rfl
  refine⟨_,rfl,b,_,_,_,rfl,rfl,SqT.of hb,at1,_,rfl,a,_,_,_,rfl,rfl,SqT.of ha,at2,_,rfl,a,_,_,_,rfl,rfl,SqT.of ha,at3,Ay 2,λ t ht=>?_⟩;have s1:Same H (upd H t (.tup [.int x.2.2.1,.int x.2.2.2])):=Same.new ht;have key:=q _ s1;unfold onB at key;refine⟨t,_,rfl,.inr (SqT.of Af),rfl,rfl,_,rfl,AF (λ h1=>?_) (λ h1=>?_)⟩
  .rw[if_neg ae,in2]at h1;refine⟨_,rfl,b,_,_,_,rfl,rfl,SqT.of (s1 _ _ hb),at2,_,rfl,a,_,_,_,rfl,rfl,SqT.of (s1 _ _ ha),at1,_,_,rfl,rfl,_,rfl,AF (λ h2=>?_) (λ h2=>?_)⟩
   .refine⟨_,rfl,b,_,_,_,rfl,rfl,SqT.of (s1 _ _ hb),at3,_,_,rfl,rfl,?_⟩;rw[h0,h1,h2]at key;exact key
   .show Q (.bl false) _;rw[h0,h1,h2]at key;exact key
  .rw[if_neg ae,in2]at h1;show Q (.bl false) _;rw[h0,h1]at key;exact key
theorem Rp{f:Addr}{fd:FuncData}(F:Fun K "turn" "turn" Ml f fd)(T:Txt mg tk)(D_lies_on:A2 P w K mg base 1 "lies_on" ["lead","other"] Ky):A5 P w K mg base CX0 2 f fd ["some"] MY:=by
 have S:An ["some"] ["some"] (Ai Ml):=fsk;refine F.g S ?_;rintro vs H Q E ⟨l,us,rfl,hl,ha,q⟩;refine⟨rfl,λ cdv A outer s hr=>?_⟩;refine⟨_,(Ac (A7 (Ax Fc (A0 A6 rfl T.z_len rfl (Aa (pv 0) Ab)) Ad (Av _)) (Ah (Ap Bq)) Az)
  (Ah (Ap (A0 Dt rfl T.z_all rfl (Aa (BO rfl (BG rfl T.z_range (Aa Ad Ab)) (λ_ _ _ _ _=>pgk (nk ["place","some"])) (λ_ _ _ _ _=>(Aw D_lies_on hr (Aa (Aj (Ci (K:=K)) (pv 1) (Aq AB (pv 0) Ad) (λ_ _=>rfl)) (Aa (Aj (Ci (K:=K)) (pv 1) (pv 0) (λ_ _=>rfl)) Ab)))) (N:=["place","some"]) (fr:=[none,some 0])) Ab))))),?_⟩
 refine⟨_,rfl,l,_,rfl,.inl (SqL.of hl),rfl,_,rfl,AF (λ h=>?_) (λ h=>?_)⟩
 .have e:Cs (us.map (·.2))=false:=MV λ z=>Uv h (by rw[aa];rw[aa]at z;exact z);show Q (.bl false) H;rw[<-e];exact q H (Same.refl H)
 .have h4:=Sh h;rw[aa]at h4;obtain⟨u0,u1,u2,u3,rfl⟩:=Ui h4;have a0:=ha u0 (by simp);have a1:=ha u1 (by simp);have a2:=ha u2 (by simp);have a3:=ha u3 (by simp);refine⟨4,rfl,by decide,by decide,λ acc hacc=>Cb (lo:=0) (n:=(4:Int).toNat)
   (λ i zs σ H'=>(∃y,σ=[y,some (.ref l)])/\Same H H'/\zs=([onB u3.2 u0.2,onB u0.2 u1.2,onB u1.2 u2.2,onB u2.2 u3.2].take i).map V.bl) ⟨⟨none,rfl⟩,Same.new hacc,rfl⟩ ?_ ?_⟩
  .rintro i zs σ H' hi hl' hacc' ⟨⟨y,rfl⟩,hs,rfl⟩;have hi4:i<4:=hi;have key:∀{H2:Hp},Same H' H2->Same H (upd H2 acc (.lst (([onB u3.2 u0.2,onB u0.2 u1.2,onB u1.2 u2.2,onB u2.2 u3.2].take (i+1)).map V.bl))):=λ s2 b o e=>by
    rw[Ag (Ae e hacc)];exact s2 b o (hs b o e)
   obtain rfl|rfl|rfl|rfl:i=0\/i=1\/i=2\/i=3:=by lia
   .exact⟨_,rfl,_,rfl,_,_,rfl,rfl,l,_,_,_,rfl,rfl,SqL.of (hs _ _ hl),atM,_,rfl,_,rfl,l,_,_,_,rfl,rfl,SqL.of (hs _ _ hl),at0,u3.1,u0.1,u3.2,u0.2,rfl,hs _ _ a3,hs _ _ a0,λ H2 s2=>cNx.mk (by decide) hi hl' (s2 _ _ hacc') ⟨⟨_,rfl⟩,key s2,rfl⟩⟩
   .exact⟨_,rfl,_,rfl,_,_,rfl,rfl,l,_,_,_,rfl,rfl,SqL.of (hs _ _ hl),at0,_,rfl,_,rfl,l,_,_,_,rfl,rfl,SqL.of (hs _ _ hl),at1,u0.1,u1.1,u0.2,u1.2,rfl,hs _ _ a0,hs _ _ a1,λ H2 s2=>cNx.mk (by decide) hi hl' (s2 _ _ hacc') ⟨⟨_,rfl⟩,key s2,rfl⟩⟩
   .exact⟨_,rfl,_,rfl,_,_,rfl,rfl,l,_,_,_,rfl,rfl,SqL.of (hs _ _ hl),at1,_,rfl,_,rfl,l,_,_,_,rfl,rfl,SqL.of (hs _ _ hl),at2,u1.1,u2.1,u1.2,u2.2,rfl,hs _ _ a1,hs _ _ a2,λ H2 s2=>cNx.mk (by decide) hi hl' (s2 _ _ hacc') ⟨⟨_,rfl⟩,key s2,rfl⟩⟩
   .exact⟨_,rfl,_,rfl,_,_,rfl,rfl,l,_,_,_,rfl,rfl,SqL.of (hs _ _ hl),at2,_,rfl,_,rfl,l,_,_,_,rfl,rfl,SqL.of (hs _ _ hl),at3,u2.1,u3.1,u2.2,u3.2,rfl,hs _ _ a2,hs _ _ a3,λ H2 s2=>cNx.mk (by decide) hi hl' (s2 _ _ hacc') ⟨⟨_,rfl⟩,key s2,rfl⟩⟩
  .rintro zs σ H' hl' hacc' ⟨_,hs,rfl⟩;exact⟨acc,[onB u3.2 u0.2,onB u0.2 u1.2,onB u1.2 u2.2,onB u2.2 u3.2],rfl,SqL.of hacc',rfl,q H' hs⟩
inductive NX(C:Addr)(vs:LUz)(H:Hp)(Q:VK)(E:XK):Prop
 |mk (a dx ls ld b:Addr) (w h:Int) (ts:List (Addr×Rc)) (kvs:LKz) (q:Rc) (h0:vs=[.ref a,.ref b]) (h1:PanelAt C H a w h ts dx ls ld kvs) (h2:H b=some (.tup (AK q.t q.l q.b q.r))) (h3:blk w h (rcs ts) q=true) (h4:∀l H',Same H H'->H' l=some (.lst (Ao (ts.filter λ t=>AA t.2 q)))->Q (.ref l) H'):NX C vs H Q E
def Pm(C:Addr) :Sp:=λ vs H Q E=>NX C vs H Q E
theorem KQ{f:Addr}{fd:FuncData}(F:Fun K "panes_in" "panes_in" E8 f fd)(D_check_block:A2 P w K mg base 4 "check_block" ["panel","block"] (Mg C))(D_inside:A2 P w K mg base 1 "inside" ["one","other"] Dm)(M_Panel_panes:LL P w K mg base 1 C "panes" ["self"] (EV C)):A5 P w K mg base CX0 5 f fd ["panel","block"] (Pm C):=by
 have S:An ["panel","block"] ["panel","block"] (Ai E8):=fsk;refine F.g S ?_;rintro vs H Q E ⟨a,dx,ls,ld,b,ww,hh,ts,kvs,q,rfl,pn,hb,hk,k⟩;refine⟨rfl,λ cdv A outer s hr=>?_⟩;refine⟨_,(Ac (AS (Aw D_check_block hr (Aa (pv 0) (Aa (pv 1) Ab))))
  (Ah (Ap (Ch rfl (AC (Mu M_Panel_panes hr (pv 0))) (λ_ _ _ _ _=>pgk (nk ["pane","block"])) (λ_ _ _ _ _=>(AI (Aw D_inside hr (Aa (pv 0) (Aa (pv 1) Ab))))) (λ_ _ _ _ _=>(pv 0)) (N:=["pane","block"]) (fr:=[none,some 1]))))),?_⟩
 refine⟨_,rfl,_,rfl,a,dx,ls,ld,b,ww,hh,ts,kvs,q,rfl,pn,hb,hk,λ H1 s1=>?_⟩;have pn1:=pn.same s1;refine⟨_,rfl,a,dx,_,rfl,pn1.ob,GU,a,dx,ls,ld,ww,hh,ts,kvs,rfl,pn1,λ l hl=>?_⟩;refine nv hl λ H3 sz el=>?_;have s3:=s1.trans sz;have hb3:=s3 _ _ hb;refine⟨l,rfl,⟨_,SqL.of el⟩,λ acc hacc=>BF (K:=K) (a:=l) (ys:=Ao ts) (λ i xs σ H'=>(∃y,σ=[y,some (.ref b)])/\Same H3 H'/\xs=Ao ((ts.take i).filter λ t=>AA t.2 q)) ⟨⟨none,rfl⟩,Same.new hacc,rfl⟩ (λ i xs σ H' _ _ hp=>SqL.of (hp.2.1 _ _ el)) ?_ ?_⟩
 .rintro i x xs σ H' hx hi hl' hacc' ⟨⟨y,rfl⟩,s4,rfl⟩;obtain⟨u,hu',rfl⟩:=AU hx;have hua:=(s3.trans s4) _ _ (pn.ats u (ao hu'));have hb4:=s4 _ _ hb3;have ef:=Hn (λ t:Addr×Rc=>AA t.2 q) hu';refine⟨_,rfl,_,rfl,u.1,b,_,_,_,_,_,_,_,_,rfl,hua,hb4,_,rfl,?_⟩;cases h3:AA u.2 q with
  |true =>
   have h3':Fi u.2.t u.2.l u.2.b u.2.r q.t q.l q.b q.r=true:=h3;rw[h3'];refine⟨_,rfl,fNx.mk (aF (Am (by rw[aa];have:=pn.few;lia))) hi hl' hacc' ⟨⟨_,rfl⟩,λ c o e=>?_,?_⟩⟩
   .rw[Ag (Ae e hacc)];exact s4 c o e
   .rw[ef,h3,if_pos rfl,F0]
  |false =>
   have h3':Fi u.2.t u.2.l u.2.b u.2.r q.t q.l q.b q.r=false:=h3;rw[h3'];exact fSk.mk hi hl' hacc' ⟨⟨_,rfl⟩,s4,by rw[ef,h3,if_neg ae,aL]⟩
 .rintro xs σ H' hl' hacc' ⟨_,s4,rfl⟩;have e:(Ao ts).length=ts.length:=aa _;rw[e,aN]at hacc';exact k acc H' (s3.trans s4) hacc'
inductive NY(vs:LUz)(H:Hp)(Q:VK)(E:XK):Prop
 |mk (a:Int) (l:Addr) (ts:List (Addr×Rk)) (u:Bool) (h0:vs=[.int a,.ref l,.int (sd u)]) (h1:H l=some (.lst (Ao ts))) (h2:PnO H ts) (h3:ts.length<=150) (h4:(∃t∈ts,Bi u a t.2=true)) (h5:∀t H',Same H H'->(ts.filter λ t=>Bi u a t.2).head?=some t->Q (.ref t.1) H'):NY vs H Q E
def Pn:Sp:=λ vs H Q E=>NY vs H Q E
theorem EY{α:Type}{ts:List (Addr×α)}{i:Nat}{t:Addr×α}(q:Addr×α->Bool)(h:ts[i]?=some t):Ao ((ts.take (i+1)).filter q)=Ao ((ts.take i).filter q)++if q t=true then [V.ref t.1] else []:=by
 rw[aV,h,cH];show List.map _ (_++List.filter q [t])=_;rw[cx,List.filter_nil];cases q t<;>simp
theorem GG{f:Addr}{fd:FuncData}(F:Fun K "pane_broken" "pane_broken" CT f fd)(D_line_breaks:A2 P w K mg base 1 "line_breaks" ["line","pane","side"] Mh):A5 P w K mg base CX0 2 f fd ["line","panes","side"] Pn:=by
 have S:An ["line","panes","side"] ["line","panes","side"] (Ai CT):=fsk;refine F.g S ?_;rintro vs H Q E ⟨a,l,ts,u,rfl,hl,hat,few,⟨t0,ht0,hb0⟩,q⟩;refine⟨rfl,λ cdv A outer s hr=>?_⟩;refine⟨_,(Ah (Ap (Aj AX (Ch rfl (AC (pv 1)) (λ_ _ _ _ _=>pgk (nk ["pane","line","side"])) (λ_ _ _ _ _=>(AI (Aw D_line_breaks hr (Aa (pv 1) (Aa (pv 0) (Aa (pv 2) Ab)))))) (λ_ _ _ _ _=>(pv 0)) (N:=["pane","line","side"]) (fr:=[none,some 0,some 2])) Ad (λ_ _=>rfl)))),?_⟩;refine⟨_,rfl,l,rfl,⟨_,SqL.of hl⟩,λ acc hacc=>BF (K:=K) (a:=l) (ys:=Ao ts) (λ i xs σ H'=>(∃y,σ=[y,some (.int a),some (.int (sd u))])/\Same H H'/\xs=Ao ((ts.take i).filter λ t=>Bi u a t.2)) ⟨⟨none,rfl⟩,Same.new hacc,rfl⟩ (λ i xs σ H' _ _ hp=>SqL.of (hp.2.1 _ _ hl)) ?_ ?_⟩
 .rintro i x xs σ H' hx hi hl' hacc' ⟨⟨y,rfl⟩,s4,rfl⟩;obtain⟨t,ht,rfl⟩:=AU hx;have hta:=s4 _ _ (hat t (ao ht));have ef:=EY (λ t:Addr×Rk=>Bi u a t.2) ht;refine⟨_,rfl,_,rfl,_,rfl,a,t.1,t.2,u,rfl,hta,_,rfl,?_⟩;cases h3:Bi u a t.2 with
  |true =>
   refine⟨_,rfl,fNx.mk (aF (Am (by rw[aa];lia))) hi hl' hacc' ⟨⟨_,rfl⟩,λ c o e=>?_,?_⟩⟩
   .rw[Ag (Ae e hacc)];exact s4 c o e
   .rw[ef,h3,if_pos rfl]
  |false=>exact fSk.mk hi hl' hacc' ⟨⟨_,rfl⟩,s4,by rw[ef,h3,if_neg ae,aL]⟩
 .rintro xs σ H' hl' hacc' ⟨_,s4,rfl⟩;have e:(Ao ts).length=ts.length:=aa _;rw[e,aN]at hacc';have mem:t0∈ts.filter λ t=>Bi u a t.2:=aP.mpr ⟨ht0,hb0⟩;cases hf:ts.filter λ t=>Bi u a t.2 with
  |nil=>rw[hf]at mem;cases mem
  |cons x r =>
   rw[hf]at hacc';exact⟨acc,_,_,_,rfl,rfl,SqL.of hacc',Kn,q x H' s4 (by rw[hf];rfl)⟩
abbrev BK:Type:=Addr×Addr×Bool×Int×Rk
def BkO(H:Hp)(bs:List BK):Prop:=∀b∈bs,H b.1=some (.tup [.str (wd b.2.2.1),.int b.2.2.2.1,.ref b.2.1])/\H b.2.1=some (.tup (AK b.2.2.2.2.t b.2.2.2.2.l b.2.2.2.2.b b.2.2.2.2.r))
def bk1(rs:List Rk)(u:Bool)(a:Int):Bool×Int×Rk:=(u,a,((rs.filter (Bi u a)).head?).getD ⟨0,0,0,0⟩)
def bkN(rs:List Rk)(u:Bool)(lo:Int):Nat->List (Bool×Int×Rk)
 |0=>[]
 |n+1=>bkN rs u lo n++[bk1 rs u (lo+1+n)]
def bkP(rs:List Rk)(p:Rk):Nat->List (Bool×Int×Rk)
 |0=>[]
 |1=>bkN rs true (p.lo true) (p.hi true-(p.lo true+1)).toNat
 |_=>bkN rs true (p.lo true) (p.hi true-(p.lo true+1)).toNat++bkN rs false (p.lo false) (p.hi false-(p.lo false+1)).toNat
theorem SV{L:List (Addr×Rc)}{f:Rc->Bool}{t:Addr×Rc}(h:(L.filter λ t=>f t.2).head?=some t):((rcs L).filter f).head?=some t.2:=by
 rw[cg,List.head?_map];show Option.map _ ((L.filter λ t=>f t.2).head?)=_;rw[h];rfl
theorem Uz{L:List (Addr×Rc)}{u:Bool}{a:Int}{t:Addr×Rc}(h:(L.filter λ t=>Bi u a t.2).head?=some t):bk1 (rcs L) u a=(u,a,t.2):=by
 unfold bk1;rw[SV (f:=Bi u a) h];rfl
inductive LY(C:Addr)(vs:LUz)(H:Hp)(Q:VK)(E:XK):Prop
 |mk (a dx ls ld b:Addr) (w h:Int) (ts:List (Addr×Rc)) (kvs:LKz) (q:Rc) (h0:vs=[.ref a,.ref b]) (h1:PanelAt C H a w h ts dx ls ld kvs) (h2:H b=some (.tup (AK q.t q.l q.b q.r))) (h3:Rm w h (rcs ts) q) (h4:∀l bs H',Same H H'->H' l=some (.lst (Ao bs))->BkO H' bs->bs.map (·.2.2)=bkP (rcs (ts.filter λ t=>AA t.2 q)) q 2->Q (.ref l) H'):LY C vs H Q E
def Ni(C:Addr) :Sp:=λ vs H Q E=>LY C vs H Q E
theorem JR{f:Addr}{fd:FuncData}(F:Fun K "breaks_of" "breaks_of" DW f fd)(T:Txt mg tk)(D_panes_in:A2 P w K mg base 5 "panes_in" ["panel","block"] (Pm C))(D_pane_broken:A2 P w K mg base 2 "pane_broken" ["line","panes","side"] Pn):A5 P w K mg base CX0 6 f fd ["panel","room"] (Ni C):=by
 have S:An ["panel","room","panes","found","word","side","line"] ["panel","room"] (Ai DW):=fsk;refine F.g S ?_;rintro vs H Q E ⟨a,dx,ls,ld,b,ww,hh,ts,kvs,q,rfl,pn,hb,rm,k⟩;refine⟨rfl,λ cdv A outer s hr=>?_⟩;have gw:=pn.sw;have gh:=pn.sh;have bd:=rm.db.bd gw.2 gh.2;have few:=pn.few;obtain⟨rs,ers⟩:∃rs,rs=rcs (ts.filter λ t=>AA t.2 q):=⟨_,rfl⟩;rw[<-ers]at k;refine⟨_,(Ac (Ar (i:=2) S.nd rfl (av rfl) (Aw D_panes_in hr (Aa (pv 0) (Aa (pv 1) Ab))))
  (Ac (Ar (i:=3) S.nd rfl (av rfl) (AJ Ab))
  (Ac (AN PassesOwn.never rfl (Mt (A3 (Aa (A3 (Aa (A9 (v:=.str "upright") rfl T.g_UPRIGHT_cuts ⟨_,rfl⟩) (Aa (A9 (v:=.int 1) rfl T.g_LEFT ⟨_,rfl⟩) Ab))) (Aa (A3 (Aa (A9 (v:=.str "level") rfl T.g_LEVEL_cuts ⟨_,rfl⟩) (Aa (A9 (v:=.int 0) rfl T.g_TOP ⟨_,rfl⟩) Ab))) Ab)))) (Bz rfl (Au (Al (i:=4) S.nd rfl (av rfl)) (Au (Al (i:=5) S.nd rfl (av rfl)) AZ))) (Ah (AN PassesOwn.never rfl (AT rfl T.z_range (Aa (Aq A4 (Aj Ak (pv 1) (pv 5) (λ_ _=>rfl)) Ad) (Aa (Aj Ak (pv 1) (Aq A4 (pv 5) Ad) (λ_ _=>rfl)) Ab))) (Al (i:=6) S.nd rfl (av rfl)) (Ah (AS (BD (pv 3) (Aa (A3 (Aa (pv 4) (Aa (pv 6) (Aa (Aw D_pane_broken hr (Aa (pv 6) (Aa (pv 2) (Aa (pv 5) Ab)))) Ab)))) Ab)))))))
  (Ah (Ap (pv 3)))))),?_⟩
 refine⟨_,rfl,_,rfl,a,dx,ls,ld,b,ww,hh,ts,kvs,q,rfl,pn,hb,rm.db.blk,λ lp H1 s1 e1=>?_⟩;refine⟨Ay 0,λ lf hlf=>?_⟩;have hlf0:H lf=none:=none_of s1 hlf;have s2:=s1.trans (Same.new (o:=.lst []) hlf);have e2:(upd H1 lf (.lst [])) lf=some (.lst []):=Af;have n2:lp≠lf:=Ae e1 hlf;have p2:(upd H1 lf (.lst [])) lp=some (.lst (Ao (ts.filter λ t=>AA t.2 q))):=by rw[Ag n2];exact e1
 generalize upd H1 lf (.lst [])=H2 at s2 e2 p2 |-;refine⟨Ay 2,λ t1 h1=>?_⟩;refine nv h1 λ H3 s3 e3=>?_;refine⟨Ay 2,λ t2 h2=>?_⟩;refine nv h2 λ H4 s4 e4=>?_;refine⟨Ay 2,λ t3 h3=>?_⟩;refine nv h3 λ H5 s5 e5=>?_;have s35:=s4.trans s5;have s25:=s3.trans s35;have kp:Kp H1 H1:=FO (Same.refl H1);have e3':=s35 _ _ e3;have e4':=s5 _ _ e4;have p5:=s25 _ _ p2;have f5:=s25 _ _ e2;have sB:=s2.trans s25;have pnO:∀{Hk:Hp},Same H Hk->PnO Hk (ts.filter λ t=>AA t.2 q):=λ sx t ht=>sx _ _ (pn.ats t (aP.mp ht).1);refine⟨t3,rfl,⟨_,SqT.of e5⟩,ND (K:=K) (a:=t3) (xs:=[.ref t1,.ref t2]) (λ i σ H'=>∃(xs:LUz)(x4 x5 x6:Option V),σ=[some (.ref a),some (.ref b),some (.ref lp),some (.ref lf),x4,x5,x6]/\Same H H'/\H' lf=some (.lst xs)/\H' lp=some (.lst (Ao (ts.filter λ t=>AA t.2 q)))/\H' t1=some (.tup [.str "upright",.int 1])/\H' t2=some (.tup [.str "level",.int 0])/\H' t3=some (.tup [.ref t1,.ref t2])/\xs.length<=20*i/\∃bs:List BK,xs=Ao bs/\BkO H' bs/\bs.map (·.2.2)=bkP rs q i)
  ⟨[],_,_,_,rfl,sB,f5,p5,e3',e4',e5,ah _,[],rfl,λ b hb=>(nomatch hb),rfl⟩ (λ i σ H' _ hp=>by obtain⟨_,_,_,_,_,_,_,_,_,_,h,_⟩:=hp;exact SqT.of h) ?_ ?_⟩
 .rintro i x σ H' hx ⟨xs,x4,x5,x6,rfl,s6,f6,p6,a6,b6,c6,n6,bs,rfl,bo6,bm6⟩;have hi2:i<2:=(aH.mp hx).1;obtain⟨u,t,rfl,ht,hP⟩:∃(u:Bool)(t:Addr),x=.ref t/\H' t=some (.tup [.str (wd u),.int (sd u)])/\bkP rs q (i+1)=bkP rs q i++bkN rs u (Rk.lo q u) (Rk.hi q u-(Rk.lo q u+1)).toNat:=by
   obtain rfl|rfl:i=0\/i=1:=by lia
   .cases hx;exact⟨true,_,rfl,a6,rfl⟩
   .cases hx;exact⟨false,_,rfl,b6,rfl⟩
  refine⟨t,_,rfl,SqT.of ht,rfl,_,_,rfl,_,_,rfl,rfl,?_⟩;have bu:=bd u;have lh:Rk.lo q u<Rk.hi q u:=Dg rm.db.ok u;have hb6:=s6 _ _ hb;refine⟨_,rfl,_,rfl,b,_,_,_,rfl,rfl,SqT.of hb6,Hv,_,_,rfl,rfl,_,rfl,_,rfl,_,_,rfl,rfl,b,_,_,_,rfl,rfl,SqT.of hb6,LJ,Rk.lo q u+1,Rk.hi q u,rfl,⟨by lia,by lia,by lia,by lia⟩,Ba (lo:=Rk.lo q u+1) (n:=(Rk.hi q u-(Rk.lo q u+1)).toNat) (λ j σ H'=>∃(xs:LUz)(x6:Option V),σ=[some (.ref a),some (.ref b),some (.ref lp),some (.ref lf),some (.str (wd u)),some (.int (sd u)),x6]/\Same H H'/\H' lf=some (.lst xs)/\H' lp=some (.lst (Ao (ts.filter λ t=>AA t.2 q)))/\H' t1=some (.tup [.str "upright",.int 1])/\H' t2=some (.tup [.str "level",.int 0])/\H' t3=some (.tup [.ref t1,.ref t2])/\xs.length<=20*i+j/\∃bs:List BK,xs=Ao bs/\BkO H' bs/\bs.map (·.2.2)=bkP rs q i++bkN rs u (Rk.lo q u) j)
   ⟨_,_,rfl,s6,f6,p6,a6,b6,c6,by lia,bs,rfl,bo6,by rw[bm6,bkN,aL]⟩ ?_ ?_⟩
  .rintro j σ H7 hj ⟨ys,y6,rfl,s7,f7,p7,a7,b7,c7,n7,cs,rfl,bo7,bm7⟩;obtain⟨r,hr,ir,b1,b2⟩:=rm.brk (u:=u) (a:=Rk.lo q u+1+j) (by lia) (by lia);obtain⟨t0,ht0,rfl⟩:=aw.mp hr;refine⟨_,rfl,.inl ⟨rfl,_,SqL.of f7⟩,_,rfl,_,rfl,_,rfl,_,rfl,_,rfl,Rk.lo q u+1+j,lp,ts.filter λ t=>AA t.2 q,u,rfl,p7,pnO s7,ba (bQ _ _) (by lia),⟨t0,aP.mpr ⟨ht0,by show Fi _ _ _ _ _ _ _ _=true;rw[Hf];exact decide_eq_true ir⟩,brkR_iff.mpr ⟨b1,b2⟩⟩,λ tv H8 s8 htv=>?_⟩;refine⟨Ay 3,λ t9 h9=>?_⟩;refine nv h9 λ H9 sz e9=>?_;have s9:=s8.trans sz;have htm:=List.mem_of_mem_head? htv;have tva:=(s7.trans s9) _ _ (pn.ats tv (aP.mp (aP.mp htm).1).1);have f9:=s9 _ _ f7;refine⟨lf,_,_,rfl,rfl,f9,Am (by lia),_,_,rfl,λ c o e=>?_,Af,?_,?_,?_,?_,by rw[af,bF];lia,cs++[(t9,tv.1,u,Rk.lo q u+1+j,tv.2)],by simp,λ x hx=>?_,?_⟩
   .rw[Ag (Ae e hlf0)];exact(s7.trans s9) c o e
   .rw[Ag n2];exact s9 _ _ p7
   .rw[Ag (AL (s9 _ _ a7) f9 (by intro z;cases z))];exact s9 _ _ a7
   .rw[Ag (AL (s9 _ _ b7) f9 (by intro z;cases z))];exact s9 _ _ b7
   .rw[Ag (AL (s9 _ _ c7) f9 (by intro z;cases z))];exact s9 _ _ c7
   .have up:∀{b:Addr}{vs:LUz}{o:LUz},H9 b=some (.tup vs)->(upd H9 lf (.lst o)) b=some (.tup vs):=λ h=>by rw[Ag (AL h f9 (by intro z;cases z))];exact h
    rcases ai.mp hx with hx|hx
    .exact⟨up (s9 _ _ (bo7 x hx).1),up (s9 _ _ (bo7 x hx).2)⟩
    .rw[ad.mp hx];exact⟨up e9,up tva⟩
   .rw[aj,bm7,bkN,bi];show _++(_++[(u,Rk.lo q u+1+(j:Int),tv.2)])=_;rw[ers,Uz htv]
  .rintro σ H7 ⟨ys,y6,rfl,s7,f7,p7,a7,b7,c7,n7,cs,rfl,bo7,bm7⟩;exact⟨_,_,_,_,rfl,s7,f7,p7,a7,b7,c7,by lia,cs,rfl,bo7,by rw[hP];exact bm7⟩
 .rintro σ H' ⟨xs,x4,x5,x6,rfl,s6,f6,p6,a6,b6,c6,n6,bs,rfl,bo6,bm6⟩;exact⟨_,rfl,k lf bs H' s6 f6 bo6 bm6⟩
def CB(r:List LD)(d:LD):Bool:=match r.getLast? with
 |some z=>onB z d
 |none=>false
def CC(S:List LD)(r:List LD):List (List LD):=(S.filter (CB r)).map λ d=>r++[d]
def ext(S:List LD)(rs:List (List LD)):List (List LD):=rs.flatMap (CC S)
def Ge(S:List LD):Nat->List (List LD)
 |0=>S.map λ d=>[d]
 |n+1=>ext S (Ge S n)
theorem GZ{r:List LD}{z d:LD}:CB (r++[z]) d=onB z d:=by
 unfold CB;rw[List.getLast?_append];rfl
theorem mem_ext{S:List LD}{rs:List (List LD)}{x:List LD}:x∈ext S rs↔∃r∈rs,∃d∈S,CB r d=true/\r++[d]=x:=by
 unfold ext CC;rw[List.mem_flatMap]
 constructor
 .rintro⟨r,hr,h⟩;obtain⟨d,hd,e⟩:=aw.mp h;obtain⟨d1,d2⟩:=aP.mp hd;exact⟨r,hr,d,d1,d2,e⟩
 .rintro⟨r,hr,d,d1,d2,e⟩;exact⟨r,hr,aw.mpr ⟨d,aP.mpr ⟨d1,d2⟩,e⟩⟩
theorem Ke{S:List LD}:∀{rs:List (List LD)},(∀r∈rs,(S.filter (CB r)).length<=2)->(ext S rs).length<=2*rs.length
 |[],_=>ah _
 |r::q,h=>by
  have ih:=Ke (rs:=q) λ x hx=>h x (aJ _ hx);have h0:=h r aD;show(CC S r++ext S q).length<=_;rw[af,aI];have:(CC S r).length=(S.filter (CB r)).length:=aa _;lia
theorem LA{S:List LD}(h:∀d∈S,(S.filter (onB d)).length<=2):∀(n:Nat),(∀r∈Ge S n,r.length=n+1/\(S.filter (CB r)).length<=2)/\(Ge S n).length<=2^n*S.length
 |0=>by
  refine⟨λ r hr=>?_,by rw[Ge,aa];lia⟩;obtain⟨d,hd,rfl⟩:=aw.mp hr;exact⟨rfl,h d hd⟩
 |n+1=>by
  obtain⟨a,b⟩:=LA h n;refine⟨λ r hr=>?_,?_⟩
  .obtain⟨r0,hr0,d,hd,_,rfl⟩:=mem_ext.mp hr;refine⟨by rw[af,(a r0 hr0).1];rfl,?_⟩;have:CB (r0++[d])=onB d:=funext λ x=>GZ;rw[this];exact h d hd
  .have:=Ke (S:=S) (rs:=Ge S n) λ r hr=>(a r hr).2;rw[Ge,Nat.pow_succ];have e:2^n*2*S.length=2*(2^n*S.length):=by rw[Nat.mul_comm (2^n) 2,Nat.mul_assoc]
   lia
theorem Su{l:List LD}{f:LD->Int}{a b:Int}(nd:l.Nodup)(h:∀x∈l,f x=a\/f x=b)(inj:∀x∈l,∀y∈l,f x=f y->x=y):l.length<=2:=by
 match l,nd,h,inj with
 |[],_,_,_=>exact bb _
 |[_],_,_,_=>exact bI 1
 |[_,_],_,_,_=>exact ah _
 |x::y::z::r,nd,h,inj =>
  have n1:=bv.mp nd;have n2:=bv.mp n1.2;have xy:x≠y:=λ e=>n1.1 (e ▸ aD);have xz:x≠z:=λ e=>n1.1 (e ▸ aJ _ aD);have yz:y≠z:=λ e=>n2.1 (e ▸ aD);have mx:x∈x::y::z::r:=by simp
  have my:y∈x::y::z::r:=by simp
  have mz:z∈x::y::z::r:=by simp
  have ix:=inj x mx y my;have iy:=inj x mx z mz;have iz:=inj y my z mz;rcases h x mx with e1|e1<;>rcases h y my with e2|e2<;>rcases h z mz with e3|e3
  .exact absurd (ix (e1.trans e2.symm)) xy
  .exact absurd (ix (e1.trans e2.symm)) xy
  .exact absurd (iy (e1.trans e3.symm)) xz
  .exact absurd (iz (e2.trans e3.symm)) yz
  .exact absurd (iz (e2.trans e3.symm)) yz
  .exact absurd (iy (e1.trans e3.symm)) xz
  .exact absurd (ix (e1.trans e2.symm)) xy
  .exact absurd (ix (e1.trans e2.symm)) xy
theorem KA{f g:Int->Bool}{s e s' e' n:Int}(i:Cc f g s e)(j:Cc f g s' e')(a:s<n)(b:n<e)(a':s'<n)(b':n<e'):s=s'/\e=e':=by
 have st:∀{s e s' e':Int},Cc f g s e->Cc f g s' e'->n<e->s'<n->¬s<s':=λ{s e s' e'} i j b a' z=>by
  rcases j.st with y|y
  .rw[i.on (s'-1) (by lia) (by lia)]at y;cases y
  .rw[i.no s' z (by lia)]at y;cases y
 have en:∀{s e s' e':Int},Cc f g s e->Cc f g s' e'->s'<n->n<e->¬e<e':=λ{s e s' e'} i j a' b z=>by
  rcases i.en with y|y
  .rw[j.on e (by lia) z]at y;cases y
  .rw[j.no e (by lia) z]at y;cases y
 have:=st i j b a';have:=st j i b' a;have:=en i j a' b;have:=en j i a b';lia
theorem SE{ps:List Rc}{q:Rc}(h1:q.l<=q.r)(h2:q.t<=q.b)(d:LD):((BV ps q++CD ps q).filter (onB d)).length<=2:=by
 refine Su (f:=λ x=>x.2.1) (a:=d.2.2.1) (b:=d.2.2.2) (List.Nodup.sublist cA (Ln h1 h2)) (λ x hx=>?_) (λ x hx y hy e=>?_)
 .exact(onB_iff.mp (aP.mp hx).2).2.1
 .obtain⟨x1,x2⟩:=aP.mp hx;obtain⟨y1,y2⟩:=aP.mp hy;have ix:=(Ep h1 h2 x).mp x1;have iy:=(Ep h1 h2 y).mp y1;obtain⟨nx,_,ax,bx⟩:=onB_iff.mp x2;obtain⟨ny,_,ay,b_y⟩:=onB_iff.mp y2;obtain⟨u,m,s,t⟩:=x;obtain⟨u',m',s',t'⟩:=y;have e:m=m':=e;subst e;cases u<;>cases u'
  .obtain⟨r1,r2⟩:=KA ix iy ax bx ay b_y;rw[r1,r2]
  .cases hd:d.1
   .exact absurd hd nx
   .exact absurd hd ny
  .cases hd:d.1
   .exact absurd hd ny
   .exact absurd hd nx
  .obtain⟨r1,r2⟩:=KA ix iy ax bx ay b_y;rw[r1,r2]
abbrev RT2:=Addr×List (Addr×LD)
abbrev ldr(r:RT2):List LD:=r.2.map (·.2)
def RowsAt(H:Hp)(rs:List RT2):Prop:=∀r∈rs,H r.1=some (.lst (Bc r.2))/\AtL H r.2
theorem RowsAt.same{H H':Hp}{rs:List RT2}(h:RowsAt H rs)(s:Same H H'):RowsAt H' rs:=λ r hr=>⟨s _ _ (h r hr).1,(h r hr).2.same s⟩
theorem Iu{n:Nat}(h:n<=3000):n<sizeLine:=cj h (by decide)
inductive HH(vs:LUz)(H:Hp)(Q:VK)(E:XK):Prop
 |mk (l m:Addr) (rs:List RT2) (us:List (Addr×LD)) (h0:vs=[.ref l,.ref m]) (h1:H l=some (.lst (Ao rs))) (h2:RowsAt H rs) (h3:(∀r∈rs,r.2≠[]/\r.2.length<=10)) (h4:rs.length<=1200) (h5:H m=some (.lst (Bc us))) (h6:AtL H us) (h7:(∀r∈rs,((us.map (·.2)).filter (CB (ldr r))).length<=2)) (h8:∀l' nrs H',Same H H'->H' l'=some (.lst (Ao nrs))->RowsAt H' nrs->nrs.map ldr=ext (us.map (·.2)) (rs.map ldr)->Q (.ref l') H'):HH vs H Q E
def Io:Sp:=λ vs H Q E=>HH vs H Q E
theorem Qm{S:List LD}{rs:List (List LD)}{r:List LD}:ext S (rs++[r])=ext S rs++CC S r:=by
 unfold ext;rw[List.flatMap_append,dJ,List.flatMap_nil,aL]
theorem FQ{S:List LD}{r:List LD}{d:LD}:CC (S++[d]) r=CC S r++if CB r d=true then [r++[d]] else []:=by
 unfold CC;rw[cH,aj,cx,List.filter_nil];cases CB r d<;>rfl
theorem L8{S:List LD}{r:List LD}{j:Nat}(h:(S.filter (CB r)).length<=2):(CC (S.take j) r).length<=2:=by
 unfold CC;rw[aa];exact ba ((List.take_sublist j S).filter _).length_le h
theorem HQ{f:Addr}{fd:FuncData}(F:Fun K "one_longer" "one_longer" Dw f fd)(D_lies_on:A2 P w K mg base 1 "lies_on" ["lead","other"] Ky):A5 P w K mg base CX0 2 f fd ["rows","some"] Io:=by
 have S:An ["rows","some","found","row","lead"] ["rows","some"] (Ai Dw):=fsk;refine F.g S ?_;rintro vs H Q E ⟨l,m,rs,us,rfl,hl,hrs,ne,few,hm,ha,two,k⟩;refine⟨rfl,λ cdv A outer s hr=>?_⟩;have two':∀i,(ext (us.map (·.2)) ((rs.map ldr).take i)).length<=2*i:=λ i=>by
  have:=Ke (S:=us.map (·.2)) (rs:=(rs.map ldr).take i) λ r hr=>by
   obtain⟨x,hx,rfl⟩:=aw.mp (dh hr);exact two x hx
  rw[aY]at this;lia
 refine⟨_,(Ac (Ar (i:=2) S.nd rfl (av rfl) (AJ Ab))
  (Ac (AN PassesOwn.never rfl (AC (pv 0)) (Al (i:=3) S.nd rfl (av rfl)) (Ah (AN PassesOwn.never rfl (AC (pv 1)) (Al (i:=4) S.nd rfl (av rfl)) (Ah (A7 (AI (Aw D_lies_on hr (Aa (Aj AX (pv 3) (I8 Fu Ad) (λ_ _=>rfl)) (Aa (pv 4) Ab)))) (Ah (AS (BD (pv 2) (Aa (Aq Cq (pv 3) (AJ (Aa (pv 4) Ab))) Ab)))) Az)))))
  (Ah (Ap (pv 2))))),?_⟩
 refine⟨Ay 0,λ lf hlf=>?_⟩;refine nv hlf λ H1 s1 e1=>?_;refine⟨_,rfl,l,rfl,⟨_,SqL.of (s1 _ _ hl)⟩,B9 (K:=K) (a:=l) (xs:=Ao rs) (λ i σ H'=>∃(ns:List RT2)(x3 x4:Option V),σ=[some (.ref l),some (.ref m),some (.ref lf),x3,x4]/\Same H H'/\H' lf=some (.lst (Ao ns))/\RowsAt H' ns/\(∀r∈ns,r.1≠lf)/\ns.map ldr=ext (us.map (·.2)) ((rs.map ldr).take i))
  ⟨[],_,_,rfl,s1,e1,λ r hr=>(nomatch hr),λ r hr=>(nomatch hr),rfl⟩ (λ i σ H' _ hp=>by obtain⟨_,_,_,_,h,_⟩:=hp;exact SqL.of (h _ _ hl)) ?_ ?_⟩
 .rintro i x σ H' hx ⟨ns,x3,x4,rfl,s2,f2,r2,g2,m2⟩;obtain⟨r,hr',rfl⟩:=AU hx;have hrm:=ao hr';have hi:i<rs.length:=(aH.mp hr').1;have nl:ns.length<=2*i:=by have:=two' i;rw[<-m2,aa]at this;exact this
  obtain⟨nr,lr⟩:=ne r hrm;obtain⟨r0,z,er⟩:∃r0 z,r.2=r0++[z]:=by
   rcases eO r.2 with e|⟨r0,z,e⟩
   .exact absurd e nr
   .exact⟨r0,z,by rw[e,eP]⟩
  have tk:(rs.map ldr).take (i+1)=(rs.map ldr).take i++[ldr r]:=by rw[aV,aB,hr'];rfl
  refine⟨_,rfl,m,rfl,⟨_,SqL.of (s2 _ _ hm)⟩,B9 (K:=K) (a:=m) (xs:=Bc us) (λ j σ H'=>∃(ns:List RT2)(x4:Option V),σ=[some (.ref l),some (.ref m),some (.ref lf),some (.ref r.1),x4]/\Same H H'/\H' lf=some (.lst (Ao ns))/\RowsAt H' ns/\(∀r∈ns,r.1≠lf)/\ns.map ldr=ext (us.map (·.2)) ((rs.map ldr).take i)++CC ((us.map (·.2)).take j) (ldr r))
   ⟨ns,_,rfl,s2,f2,r2,g2,by rw[m2];exact(aL _).symm⟩ (λ i σ H' _ hp=>by obtain⟨_,_,_,h,_⟩:=hp;exact SqL.of (h _ _ hm)) ?_ ?_⟩
  .rintro j x σ H3 hx ⟨ns3,y4,rfl,s3,f3,r3,g3,m3⟩;obtain⟨u,hu',rfl⟩:=Ek hx;have hum:=ao hu';have tku:(us.map (·.2)).take (j+1)=(us.map (·.2)).take j++[u.2]:=by rw[aV,aB,hu'];rfl
   have n3:ns3.length<=2*i+2:=by
    have:=congrArg List.length m3;have e:=L8 (j:=j) (two r hrm);have e2:=two' i;rw[aa,af]at this;lia
   have hr3:=s3 _ _ (hrs r hrm).1;have hz3:=s3 _ _ ((hrs r hrm).2 z (by rw[er];simp));have hu3:=s3 _ _ (ha u hum);have lz:atI (Bc r.2) (-1)=some (.ref z.1):=by rw[er];show atI (List.map _ _) _=_;rw[aj];exact Hw _ _
   have lb:CB (ldr r) u.2=onB z.2 u.2:=by show CB (List.map _ r.2) _=_;rw[er,aj];exact GZ
   refine⟨_,rfl,_,rfl,r.1,_,_,_,rfl,rfl,SqL.of hr3,lz,_,rfl,z.1,u.1,z.2,u.2,rfl,hz3,hu3,λ H4 s4=>⟨_,rfl,?_⟩⟩;have s34:=s3.trans s4;have f4:=s4 _ _ f3;cases hb:onB z.2 u.2 with
   |false =>
    refine AG rfl ⟨ns3,_,rfl,s34,f4,r3.same s4,g3,?_⟩;rw[tku,FQ,lb,hb,if_neg ae,aL];exact m3
   |true =>
    refine Bt rfl ?_;refine⟨_,rfl,.inl ⟨rfl,_,SqL.of f4⟩,_,rfl,_,rfl,Ay 1,λ l5 h5=>?_⟩;refine nv h5 λ H5 s5 e5=>?_;refine⟨r.1,l5,_,_,rfl,rfl,s5 _ _ (s4 _ _ hr3),e5,aF (Am (by rw[aa];show _+1<=_;lia)),λ l6 h6=>?_⟩;refine nv h6 λ H6 s6 e6=>?_;have f6:=s6 _ _ (s5 _ _ f4);have n6:l6≠lf:=Ne.symm (Ae (s5 _ _ f4) h6);have s36:=s4.trans (s5.trans s6);refine⟨lf,_,_,rfl,rfl,f6,Iu (by rw[aa];lia),ns3++[(l6,r.2++[u])],_,rfl,λ c o e=>?_,by rw[Af];simp,λ x hx=>?_,λ x hx=>?_,?_⟩
    .rw[Ag (Ae e hlf)];exact(s3.trans s36) c o e
    .have up:∀{vs:List (Addr×LD)},AtL H6 vs->AtL (upd H6 lf (.lst (Ao ns3++[.ref l6]))) vs:=λ a v hv=>by rw[Ag (AL (a v hv) f6 (by intro z;cases z))];exact a v hv
     rcases ai.mp hx with hx|hx
     .obtain⟨x1,x2⟩:=(r3.same s36) x hx;exact⟨by rw[Ag (g3 x hx)];exact x1,up x2⟩
     .rw[ad.mp hx];refine⟨by rw[Ag n6,e6];simp,up λ v hv=>?_⟩;rcases ai.mp hv with hv|hv
      .exact(s3.trans s36) _ _ ((hrs r hrm).2 v hv)
      .rw[ad.mp hv];exact s36 _ _ hu3
    .rcases ai.mp hx with hx|hx
     .exact g3 x hx
     .rw[ad.mp hx];exact n6
    .rw[aj,m3,tku,FQ,lb,hb,if_pos rfl,bi];simp[ldr]
  .rintro σ H3 ⟨ns3,y4,rfl,s3,f3,r3,g3,m3⟩;refine⟨ns3,_,_,rfl,s3,f3,r3,g3,?_⟩;have e:(Bc us).length=(us.map (·.2)).length:=by rw[aa,aa]
   rw[e,aN]at m3;rw[tk,Qm];exact m3
 .rintro σ H' ⟨ns,x3,x4,rfl,s2,f2,r2,g2,m2⟩;refine⟨_,rfl,k lf ns H' s2 f2 r2 ?_⟩;have e:(Ao rs).length=(rs.map ldr).length:=by rw[aa,aa]
  rw[e,aN]at m2;exact m2
inductive LW(vs:LUz)(H:Hp)(Q:VK)(E:XK):Prop
 |mk (m:Addr) (us:List (Addr×LD)) (ps:List Rc) (q:Rc) (h0:vs=[.ref m]) (h1:H m=some (.lst (Bc us))) (h2:AtL H us) (h3:us.length<=288) (h4:us.map (·.2)=BV ps q++CD ps q) (h5:q.l<=q.r) (h6:q.t<=q.b) (h7:Whl ps q) (h8:∀l vs H',Same H H'->H' l=some (.lst (Bc vs))->AtL H' vs->(Ge (BV ps q++CD ps q) 3).find? Cs=some (vs.map (·.2))->Q (.ref l) H'):LW vs H Q E
def Ng:Sp:=λ vs H Q E=>LW vs H Q E
theorem QH{ps:List Rc}{q:Rc}(h1:q.l<=q.r)(h2:q.t<=q.b)(w:Whl ps q):∃r∈Ge (BV ps q++CD ps q) 3,Cs r=true:=by
 obtain⟨a,b,c,d,ia,ib,ic,id',ab,bc,cd,da⟩:=w;have m:=λ x=>(Ep (ps:=ps) h1 h2 x).mpr;generalize BV ps q++CD ps q=S at m;refine⟨[a,b,c,d],?_,?_⟩
 .refine mem_ext.mpr ⟨[a,b,c],mem_ext.mpr ⟨[a,b],mem_ext.mpr ⟨[a],aw.mpr ⟨a,m a ia,rfl⟩,b,m b ib,onB_iff.mpr ab,rfl⟩,c,m c ic,onB_iff.mpr bc,rfl⟩,d,m d id',onB_iff.mpr cd,rfl⟩
 .show(onB d a&&(onB a b&&(onB b c&&(onB c d&&true))))=true;rw[onB_iff.mpr da,onB_iff.mpr ab,onB_iff.mpr bc,onB_iff.mpr cd];rfl
theorem R9{α β:Type}{l r:List α}{g:α->β}{f:β->Bool}{x:α}(h:(l.filter λ r=>f (g r))=x::r):(l.map g).find? f=some (g x):=by
 rw[List.find?_map,<-List.head?_filter];show Option.map g ((l.filter λ r=>f (g r)).head?)=_;rw[h];rfl
theorem Fe{f:Addr}{fd:FuncData}(F:Fun K "four_that_turn" "four_that_turn" BW f fd)(T:Txt mg tk)(D_one_longer:A2 P w K mg base 2 "one_longer" ["rows","some"] Io)(D_turn:A2 P w K mg base 2 "turn" ["some"] MY):A5 P w K mg base CX0 3 f fd ["some"] Ng:=by
 have S:An ["some","rows","more"] ["some"] (Ai BW):=fsk;refine F.g S ?_;rintro vs H Q E ⟨m,us,ps,q,rfl,hm,ha,few,eu,h1,h2,wh,k⟩;refine⟨rfl,λ cdv A outer s hr=>?_⟩;have row:=LA (S:=us.map (·.2)) λ d _=>by rw[eu];exact SE h1 h2 d
 obtain⟨r9,hr9,ht9⟩:=QH h1 h2 wh;rw[<-eu]at hr9;refine⟨_,(Ac (C8 rfl (Al (i:=1) S.nd rfl (av rfl)) (AC (pv 0)) (λ_ _ _ _ _=>pgk (nk ["lead"])) (λ_ _ _ _ _=>(AJ (Aa (pv 0) Ab))) (N:=["lead"]) (fr:=[none]))
  (Ac (AN PassesOwn.never rfl (BG rfl T.z_range (Aa Ad Ab)) (Al (i:=2) S.nd rfl (av rfl)) (Ah (Ar (i:=1) S.nd rfl (av rfl) (Aw D_one_longer hr (Aa (pv 1) (Aa (pv 0) Ab))))))
  (Ah (Ap (Aj AX (Ch rfl (AC (pv 1)) (λ_ _ _ _ _=>pgk (nk ["row"])) (λ_ _ _ _ _=>(AI (Aw D_turn hr (Aa (pv 0) Ab)))) (λ_ _ _ _ _=>(pv 0)) (N:=["row"]) (fr:=[none])) Ad (λ_ _=>rfl)))))),?_⟩
 refine⟨_,rfl,m,rfl,⟨_,SqL.of hm⟩,λ acc hacc=>B6 (K:=K) (a:=m) (ys:=Bc us) (λ i zs σ H'=>(∃y,σ=[y])/\Same H H'/\H' acc=some (.lst zs)/\∃rs:List RT2,zs=Ao rs/\RowsAt H' rs/\(∀r∈rs,r.1≠acc)/\rs.map ldr=((us.map (·.2)).take i).map λ d=>[d]) ⟨⟨none,rfl⟩,Same.new hacc,Af,[],rfl,λ r hr=>(nomatch hr),λ r hr=>(nomatch hr),rfl⟩ (λ i zs σ H' _ _ hp=>SqL.of (hp.2.1 _ _ hm)) ?_ ?_⟩
 .rintro i x zs σ H' hx hi hl' hacc' ⟨⟨y,rfl⟩,hs,_,rs,rfl,hrs,na,em⟩;obtain⟨u,hu',rfl⟩:=Ek hx;refine⟨_,rfl,Ay 1,λ t ht=>?_⟩;have nat:acc≠t:=Ae hacc' ht;refine nv ht λ H1 s1 e1=>?_;have ac1:=s1 _ _ hacc';have ul:us.length=(Bc us).length:=(aa _).symm;refine cNx.mk (aF (Am (by lia))) hi hl' ac1 ⟨⟨_,rfl⟩,λ c o e=>?_,Af,rs++[(t,[u])],by simp,λ x hx=>?_,λ x hx=>?_,?_⟩
  .rw[Ag (Ae e hacc)];exact(hs.trans s1) c o e
  .have up:∀{vs:List (Addr×LD)}{o:LUz},AtL H1 vs->AtL (upd H1 acc (.lst o)) vs:=λ a v hv=>by rw[Ag (AL (a v hv) ac1 (by intro z;cases z))];exact a v hv
   rcases ai.mp hx with hx|hx
   .obtain⟨x1,x2⟩:=(hrs.same s1) x hx;exact⟨by rw[Ag (na x hx)];exact x1,up x2⟩
   .rw[ad.mp hx];refine⟨by rw[Ag (Ne.symm nat)];exact e1,up λ v hv=>?_⟩;rw[ad.mp hv];exact(hs.trans s1) _ _ (ha u (ao hu'))
  .rcases ai.mp hx with hx|hx
   .exact na x hx
   .rw[ad.mp hx];exact Ne.symm nat
  .have:(us.map (·.2))[i]?=some u.2:=by rw[aB,hu'];rfl
   rw[aj,em,aV,this,aj];rfl
 .rintro zs σ H' hl' hacc' ⟨_,s1,_,rs,rfl,hrs,na,em⟩;have e:(Bc us).length=(us.map (·.2)).length:=by rw[aa,aa]
  rw[e,aN]at em;refine⟨3,rfl,by decide,by decide,Ba (lo:=0) (n:=(3:Int).toNat) (λ i σ H'=>∃(l:Addr)(rs:List RT2)(x2:Option V),σ=[some (.ref m),some (.ref l),x2]/\Same H H'/\H' l=some (.lst (Ao rs))/\RowsAt H' rs/\rs.map ldr=Ge (us.map (·.2)) i)
   ⟨acc,rs,_,rfl,s1,hacc',hrs,em⟩ ?_ ?_⟩
  .rintro i σ H2 hi ⟨l,rs2,x2,rfl,s2,e2,r2,m2⟩;have hi3:i<3:=hi;have rl:∀r∈rs2,r.2.length=i+1/\((us.map (·.2)).filter (CB (ldr r))).length<=2:=λ r hr=>by
    obtain⟨a,b⟩:=(row i).1 (ldr r) (by rw[<-m2];exact aw.mpr ⟨r,hr,rfl⟩);exact⟨by rw[aa]at a;exact a,b⟩
   have n2:rs2.length<=2^i*us.length:=by
    have:=(row i).2;rw[<-m2,aa,aa]at this;exact this
   have p2:2^i<=4:=by
    obtain rfl|rfl|rfl:i=0\/i=1\/i=2:=by lia
    all_goals decide
   have p3:2^i*us.length<=4*288:=Nat.mul_le_mul p2 few;refine⟨_,rfl,_,rfl,l,m,rs2,us,rfl,e2,r2,λ r hr=>⟨λ z=>?_,by have:=(rl r hr).1;lia⟩,by lia,s2 _ _ hm,ha.same s2,λ r hr=>(rl r hr).2,λ l' nrs H3 s3 e3 r3 m3=>⟨l',nrs,_,rfl,s2.trans s3,e3,r3,by rw[m3,m2];rfl⟩⟩;have:=(rl r hr).1;rw[z]at this;cases this
  .rintro σ H2 ⟨l,rs2,x2,rfl,s2,e2,r2,m2⟩;have m2:rs2.map ldr=Ge (us.map (·.2)) 3:=m2;have n2:rs2.length<=2^3*us.length:=by
    have:=(row 3).2;rw[<-m2,aa,aa]at this;exact this
   obtain⟨r0,hr0,er0⟩:=aw.mp (m2 ▸ hr9:r9∈rs2.map ldr);refine⟨_,rfl,l,rfl,⟨_,SqL.of e2⟩,λ acc3 hacc3=>BF (K:=K) (a:=l) (ys:=Ao rs2) (λ i xs σ H'=>(∃y,σ=[y])/\Same H2 H'/\xs=Ao ((rs2.take i).filter λ r=>Cs (ldr r))) ⟨⟨none,rfl⟩,Same.new hacc3,rfl⟩ (λ i xs σ H' _ _ hp=>SqL.of (hp.2.1 _ _ e2)) ?_ ?_⟩
   .rintro i x xs σ H3 hx hi hl3 hacc' ⟨⟨y,rfl⟩,s3,rfl⟩;obtain⟨t,ht,rfl⟩:=AU hx;obtain⟨g1,g2⟩:=(r2.same s3) t (ao ht);have ef:=EY (λ r:RT2=>Cs (ldr r)) ht;refine⟨_,rfl,t.1,t.2,rfl,g1,g2,λ H4 s4=>⟨_,rfl,?_⟩⟩;have ac4:=s4 _ _ hacc';have rl:(Ao rs2).length=rs2.length:=aa _;cases h3:Cs (t.2.map (·.2)) with
    |true =>
     refine⟨_,rfl,fNx.mk (aF (Iu (by lia))) hi hl3 ac4 ⟨⟨_,rfl⟩,λ c o e=>?_,?_⟩⟩
     .rw[Ag (Ae e hacc3)];exact(s3.trans s4) c o e
     .rw[ef];show _=_++(if Cs (t.2.map (·.2))=true then _ else _);rw[h3,if_pos rfl]
    |false=>exact fSk.mk hi hl3 ac4 ⟨⟨_,rfl⟩,s3.trans s4,by rw[ef];show _=_++(if Cs (t.2.map (·.2))=true then _ else _);rw[h3,if_neg ae,aL]⟩
   .rintro xs σ H3 hl3 hacc' ⟨_,s3,rfl⟩;have e:(Ao rs2).length=rs2.length:=aa _;rw[e,aN]at hacc';have mem:r0∈rs2.filter λ r=>Cs (ldr r):=aP.mpr ⟨hr0,by show Cs (ldr r0)=true;rw[er0];exact ht9⟩;cases hf:rs2.filter λ r=>Cs (ldr r) with
    |nil=>rw[hf]at mem;cases mem
    |cons x r =>
     have xm:=(aP.mp (hf ▸ aD:x∈rs2.filter λ r=>Cs (ldr r))).1;rw[hf]at hacc';exact⟨acc3,_,_,_,rfl,rfl,SqL.of hacc',Kn,k x.1 x.2 H3 (s2.trans s3) ((r2.same s3) x xm).1 ((r2.same s3) x xm).2 (by rw[<-eu,<-m2];exact R9 hf)⟩
def XG(H:Hp)(x C:Addr)(d:Option Addr)(fs:LFz):Prop:=((d=none/\fs=[])\/∃dx,d=some dx/\dx≠x/\H dx=some (Cw dx fs))/\∃T,H x=some (Fp C d x T)
def RfN(H:Hp)(E:XK)(C:Addr)(P:LFz->Hp->Prop):Prop:=∀x d fs H',RP H x->SameN H H'->XG H' x C d fs->P fs H'->E (.ref x) d H'
def XEN(H:Hp)(R:Addr->LFz->Hp->Prop):XK:=λ v d H'=>∃x C fs,v=.ref x/\RP H x/\SameN H H'/\XG H' x C d fs/\R C fs H'
theorem XEN.rf{H:Hp}{R:Addr->LFz->Hp->Prop}{C:Addr}{P:LFz->Hp->Prop}(h:∀fs H',P fs H'->R C fs H'):RfN H (XEN H R) C P:=λ x _ fs H' hx s r p=>⟨x,C,fs,rfl,hx,s,r,h fs H' p⟩
def Vq(P:LFz->Hp->Prop):Prop:=∀fs H' x C d T2,P fs H'->XG H' x C d fs->H' T2=none->P fs (thrown H' x C d T2)
theorem Sq{H H1:Hp}{x C C':Addr}{d:Option Addr}{T T2:Addr}{fs:LFz}(hx:RP H1 x)(s:SameN H1 H)(r:XG H x C d fs)(fl:Fo H x C' d T)(hT:H T2=none) :
  C=C'/\XG (thrown H x C' d T2) x C d fs/\SameN H1 (thrown H x C' d T2):=by
 obtain⟨alt,T',e⟩:=r;have q:C=C':=by
  have:=fl.1;rw[e]at this;exact(Qn (Option.some.inj this)).1
 subst q;refine⟨rfl,⟨alt.imp id λ⟨dx,ed,nd,hd⟩=>⟨dx,ed,nd,by rw[AM nd (Ae hd hT)];exact hd⟩,T2,DR⟩,λ a o ho no=>?_⟩;rw[AM (λ z=>by subst z;obtain⟨ps,rfl⟩:=hx o ho;exact no ps rfl) (Ae (s a o ho no) hT)];exact s a o ho no
theorem RI{C x T:Addr}{d:Option Addr}{q:Str}:Fp C d x T≠DO x q:=λ h=>by
 have h:(HO.ext λ h=>∃vs sl,h.get? x=some ⟨.ref C,d,.fields vs,sl⟩/\vs[1]?=some (.ref T))=HO.ext λ h=>∃o vs t,h.get? x=some o/\o.data=.fields vs/\vs[1]?=some (.str q t):=h;injection h with h;have e:=congrFun h ((DJ x).push ⟨.ref C,d,.fields #[.none,.ref T],#[]⟩);have g:((DJ x).push ⟨.ref C,d,.fields #[.none,.ref T],#[]⟩).get? x=some ⟨.ref C,d,.fields #[.none,.ref T],#[]⟩:=dL (DI x).symm rfl;obtain⟨o,vs,t,e1,e2,e3⟩:=e.mp ⟨_,_,g,rfl⟩;rw[g]at e1;cases e1;cases e2;cases e3
theorem TabOk.thrown{pos:Pos}{qual:Str}{T x C T2:Addr}{d:Option Addr}{H:Hp}{fs:LFz}(h:TabOk pos qual T H)(r:XG H x C d fs)(hT:H T2=none):TabOk pos qual T (L2.thrown H x C d T2):=by
 obtain⟨ps,e,t,c⟩:=h;obtain⟨_,T',ex⟩:=r;refine⟨ps,by rw[AM (λ z=>by rw[z,ex]at e;cases e) (Ae e hT)];exact e,t,?_⟩;rcases c with c|⟨c',c1,c2⟩
 .exact .inl c
 .exact .inr ⟨c',c1,by rw[AM (λ z=>by rw[z,ex]at c2;exact RI (Option.some.inj c2)) (Ae c2 hT)];exact c2⟩
theorem UI{H:Hp}{x d:Addr}{o1 o2:HO}{E1:HO}(hx:H x=some E1)(hd:H d=none):(upd (upd H d o1) x o2) x=some o2/\(upd (upd H d o1) x o2) d=some o1/\∀a o,a≠x->H a=some o->(upd (upd H d o1) x o2) a=some o :=
 ⟨Af,by rw[Ag (Ne.symm (Ae hx hd)),Af],λ a o ne e=>by rw[Ag ne,Ag (Ae e hd)];exact e⟩
theorem RU{H H1:Hp}{x d:Addr}{o1 o2:HO}(hd:H d=none)(ne:d≠x)(h1:H1 x=some o1)(hs:∀a o,a≠x->H a=some o->H1 a=some o):(upd H1 d o2) x=some o1/\(upd H1 d o2) d=some o2/\∀a o,a≠x->H a=some o->(upd H1 d o2) a=some o :=
 ⟨by rw[Ag (Ne.symm ne)];exact h1,Af,λ a o na e=>by rw[Ag (Ae e hd)];exact hs a o na e⟩
theorem RfN.raise{H H1 H2:Hp}{E:XK}{C y dx T:Addr}{P:LFz->Hp->Prop}{fs:LFz}(r:RfN H E C P)(sN:SameN H H1)(hy:H1 y=none)(s:Same H1 H2)(e:H2 y=some (Eu C dx y))(ed:H2 dx=some (Cw dx fs))(nd:dx≠y)(hT:H2 T=none)(p:∀H',Same H1 H'->P fs H'):E (.ref y) (some dx) (thrown H2 y C (some dx) T):=by
 have s3:Same H1 (thrown H2 y C (some dx) T):=λ a o ho=>by rw[AM (Ae ho hy) (Ae (s a o ho) hT)];exact s a o ho
 exact r y (some dx) fs _ (Vf sN hy) (sN.trans s3.n) ⟨.inr ⟨dx,rfl,nd,by rw[AM nd (Ae ed hT)];exact ed⟩,T,DR⟩ (p _ s3)
theorem HX{f C:Addr}{fd:FuncData}(F:Fun K "__init__" "Stuck.__init__" D8 f fd)(R:XCls K C)(n1:NoAttr K C "room")(n2:NoAttr K C "breaks")(n3:NoAttr K C "leads"):A5 P w K mg base CX0 1 f fd ["self","room","breaks","leads"] (S1 C ["room","breaks","leads"]):=by
 have S:An ["self","room","breaks","leads"] ["self","room","breaks","leads"] (Ai D8):=fsk;refine F.ok S (λ vs H Q E h=>?_) (λ cdv A outer s H vs Q E hr h=>?_)
 .obtain⟨x,ws,rfl,hl,_⟩:=h;rw[aI,hl];rfl
 .obtain⟨x,ws,rfl,hl,hx,q⟩:=h;obtain⟨v0,v1,v2,rfl⟩:=Uj hl;refine⟨_,(Ac (J9 (pv 0) (pv 1) rfl)
   (Ac (J9 (pv 0) (pv 2) rfl)
   (Ah (J9 (pv 0) (pv 3) rfl)))),?_⟩
  refine⟨_,rfl,_,rfl,x,C,rfl,R,n1,.inl ⟨hx,λ d hd=>?_⟩⟩;obtain⟨e1,e2,e3⟩:=UI (o1:=Cw d [("room",v0)]) (o2:=Eu C d x) hx hd;generalize upd (upd H d (Cw d [("room",v0)])) x (Eu C d x)=H1 at e1 e2 e3 |-;have nd:d≠x:=Ne.symm (Ae hx hd);have p1:Bd "breaks" v1 [(("room":Str),v0)]=[(("room":Str),v0),(("breaks":Str),v1)]:=by
   rw[Bd,if_neg (by decide +kernel)];rfl
  have p2:Bd "leads" v2 [(("room":Str),v0),(("breaks":Str),v1)]=[(("room":Str),v0),(("breaks":Str),v1),(("leads":Str),v2)]:=by
   rw[Bd,if_neg (by decide +kernel),Bd,if_neg (by decide +kernel)];rfl
  refine⟨_,rfl,_,rfl,x,C,rfl,R,n2,.inr ⟨d,_,e1,e2,by show 1<1000;decide,?_⟩⟩;rw[p1];obtain⟨f1,f2,f3⟩:=RU (o2:=Cw d [(("room":Str),v0),(("breaks":Str),v1)]) hd nd e1 e3;generalize upd H1 d (Cw d [(("room":Str),v0),(("breaks":Str),v1)])=H2 at f1 f2 f3 |-;refine⟨_,rfl,_,rfl,x,C,rfl,R,n3,.inr ⟨d,_,f1,f2,by show 2<1000;decide,?_⟩⟩;rw[p2];obtain⟨g1,g2,g3⟩:=RU (o2:=Cw d [(("room":Str),v0),(("breaks":Str),v1),(("leads":Str),v2)]) hd nd f1 f3;exact q d _ hd g1 g2 g3
abbrev Tq(tb3:Addr)(H:Hp):Prop:=TabOk N5 Lp tb3 H
structure Sk(w h:Int)(ps:List Rc)(n:Int)(H:Hp)(b y z:Addr)(p:Rk)(bs:List BK)(vs:List (Addr×LD)):Prop where
 hb:H b=some (.tup p.vs)
 hy:H y=some (.lst (Ao bs))
 bo:BkO H bs
 bm:bs.map (·.2.2)=bkP (ps.filter λ r=>AA r p) p 2
 hz:H z=some (.lst (Bc vs))
 lo:AtL H vs
 lm:(Ge (BV ps p++CD ps p) 3).find? Cs=some (vs.map (·.2))
 rm:Rm w h ps p
 cd:n=cdR p
theorem Sk.kp{w h:Int}{ps:List Rc}{n:Int}{H H':Hp}{b y z:Addr}{p:Rk}{bs:List BK}{vs:List (Addr×LD)}(k:Sk w h ps n H b y z p bs vs)(s:∀a xs,H a=some (.tup xs)->H' a=some (.tup xs))(s1:∀a xs,H a=some (.lst xs)->H' a=some (.lst xs)):Sk w h ps n H' b y z p bs vs :=
 ⟨s _ _ k.hb,s1 _ _ k.hy,λ x hx=>⟨s _ _ (k.bo x hx).1,s _ _ (k.bo x hx).2⟩,k.bm,s1 _ _ k.hz,λ x hx=>s _ _ (k.lo x hx),k.lm,k.rm,k.cd⟩
theorem Sk.same{w h:Int}{ps:List Rc}{n:Int}{H H':Hp}{b y z:Addr}{p:Rk}{bs:List BK}{vs:List (Addr×LD)}(k:Sk w h ps n H b y z p bs vs)(s:Same H H'):Sk w h ps n H' b y z p bs vs:=k.kp (λ_ _ e=>s _ _ e) λ_ _ e=>s _ _ e
def SkF(b y z:Addr):LFz:=[(("room":Str),.ref b),(("breaks":Str),.ref y),(("leads":Str),.ref z)]
def PSt(w h:Int)(ps:List Rc)(tb3:Addr)(n:Int):LFz->Hp->Prop:=λ fs H'=>Tq tb3 H'/\∃b y z p bs vs,fs=SkF b y z/\Sk w h ps n H' b y z p bs vs
theorem QN{w h:Int}{ps:List Rc}{tb3:Addr}{n:Int}:Vq (PSt w h ps tb3 n):=λ fs H' x C d T2 ⟨t,b,y,z,p,bs,vs,e,k⟩ r hT=>⟨TabOk.thrown t r hT,b,y,z,p,bs,vs,e,by
 obtain⟨_,T',ex⟩:=r;refine k.kp (λ a xs h=>?_) λ a xs h=>?_
 .rw[AM (λ q=>by rw[q,ex]at h;cases h) (Ae h hT)];exact h
 .rw[AM (λ q=>by rw[q,ex]at h;cases h) (Ae h hT)];exact h⟩
def fsR:Tr->Option Int
 |.whole m=>m
 |.cut _ _ x y=>(fsR x).or (fsR y)
def rmN:En->Option Int
 |.w m=>m
 |_=>none
theorem rmN_no{e:En}:rmN e=none↔rmE e=false:=by
 match e with
 |.w none=>exact⟨λ_=>rfl,λ_=>rfl⟩
 |.w (some n)=>exact⟨λ h=>(nomatch h),λ h=>(nomatch h)⟩
 |.c _ _=>exact⟨λ_=>rfl,λ_=>rfl⟩
theorem Fj:∀t:Tr,(AY t).findSome? rmN=fsR t
 |.whole none=>rfl
 |.whole (some _)=>rfl
 |.cut u k x y=>by
  rw[AY,List.findSome?_cons_of_isNone rfl,eN,Fj x,Fj y];rfl
theorem NB{es:List En}(h:∀e∈es,rmE e=false):es.findSome? rmN=none:=List.findSome?_eq_none_iff.mpr λ e he=>rmN_no.mpr (h e he)
theorem R6{es:List En}{i:Nat}{n:Int}(h:∀e∈es.take i,rmE e=false)(e:es[i]?=some (.w (some n))):es.findSome? rmN=some n:=by
 obtain⟨hi,ei⟩:=aH.mp e;rw[<-cw i es,eN,NB h,cN hi,ei];rfl
inductive HG(tb3 cW cU cL C cX:Addr)(vs:LUz)(H:Hp)(Q:VK)(E:XK):Prop
 |mk (a dx ls ld:Addr) (w h:Int) (ts:List (Addr×Rc)) (kvs:LKz) (G:Tr) (h0:vs=[.ref a]) (h1:PanelAt C H a w h ts dx ls ld kvs) (h2:Tq tb3 H) (h3:GrS w h (rcs ts) G ⟨0,0,h,w⟩) (h4:Ih ⟨0,0,h,w⟩ G) (h5:(fsR G=none->∀v H',SameN H H'->Tq tb3 H'->Obj cW cU cL H' G v->Q v H')) (h6:∀n,fsR G=some n->RfN H E cX (PSt w h (rcs ts) tb3 n)):HG tb3 cW cU cL C cX vs H Q E
def Fv(tb3 cW cU cL C cX:Addr) :Sp:=λ vs H Q E=>HG tb3 cW cU cL C cX vs H Q E
theorem PanelAt.n{C:Addr}{H H':Hp}{a:Addr}{w h:Int}{ts:List (Addr×Rc)}{dx ls ld:Addr}{kvs:LKz}(pn:PanelAt C H a w h ts dx ls ld kvs)(s:SameN H H'):PanelAt C H' a w h ts dx ls ld kvs :=
 ⟨s _ _ pn.ob (by intro ps z;cases z),s _ _ pn.lst (by intro ps z;cases z),s _ _ pn.dic (by intro ps z;cases z),λ t ht=>s _ _ (pn.ats t ht) (by intro ps z;cases z),pn.til,pn.few,pn.srt,pn.look,pn.sw,pn.sh⟩
theorem K7{w h:Int}{ps:List Rc}(T:GB.Tiles w h ps)(w1:1<=w)(h1:1<=h):DB w h ps ⟨0,0,h,w⟩:=by
 refine⟨⟨aE _,by show(0:Int)<h;lia,aE _,aE _,by show(0:Int)<w;lia,aE _⟩,okA_iff.mpr λ r hr=>.inl ?_⟩;obtain⟨a,b,c,d,e,f⟩:=T.ins r hr;exact⟨a,d,c,f⟩
theorem Mv{f cX tb3:Addr}{fd:FuncData}(F:Fun K "tree_of" "tree_of" Fx f fd)(T:Txt mg tk)(PC:OQ K C)(X_Stuck:Q7 P w K mg base 1 "Stuck" cX ["self","room","breaks","leads"] ["room","breaks","leads"])
  (M_Panel_panes:LL P w K mg base 1 C "panes" ["self"] (EV C)) (D_cut_up:A2 P w K mg base 8 "cut_up" ["sheet","some"] (Fw tb3)) (D_breaks_of:A2 P w K mg base 6 "breaks_of" ["panel","room"] (Ni C)) (D_leads:A2 P w K mg base 5 "leads" ["panel","block"] (K0 C)) (D_four_that_turn:A2 P w K mg base 3 "four_that_turn" ["some"] Ng) (D_tree_from:A2 P w K mg base 4 "tree_from" ["entries"] (Jv K cW cU cL)) :
  A5 P w K mg base (CX1 P w) 9 f fd ["panel"] (Fv tb3 cW cU cL C cX):=by
 have S:An ["panel","entries","word","number"] ["panel"] (Ai Fx):=fsk;refine F.gx S ?_;rintro vs H Q E ⟨a,dx,ls,ld,ww,hh,ts,kvs,G,rfl,pn,tab,gr,fit,q,hR⟩;refine⟨rfl,λ cdv A outer s hr=>?_⟩;have gw:=pn.sw;have gh:=pn.sh;have few:=pn.few;refine⟨_,(Ac (Ar (i:=1) S.nd rfl (av rfl) (Aw D_cut_up hr (Aa (A3 (Aa Ad (Aa Ad (Aa (BZ (pv 0) rfl) (Aa (BZ (pv 0) rfl) Ab))))) (Aa (BO rfl (AC (Mu M_Panel_panes hr (pv 0))) (λ_ _ _ _ _=>pgk (nk ["pane"])) (λ_ _ _ _ _=>(A3 (Aa (pv 0) (Aa BY Ab)))) (N:=["pane"]) (fr:=[none])) Ab))))
  (Ac (AN SB rfl (AC (pv 1)) (Bz rfl (Au (Al (i:=2) S.nd rfl (av rfl)) (Au (Al (i:=3) S.nd rfl (av rfl)) AZ))) (Ah (A7 (Ax BU (pv 2) (A9 (v:=.str "room") rfl T.g_ROOM ⟨_,rfl⟩) (Av _)) (Ah (P2 QG X_Stuck hr (Aa (pv 3) (Aa (Aw D_breaks_of hr (Aa (pv 0) (Aa (pv 3) Ab))) (Aa (Aw D_four_that_turn hr (Aa (Aw D_leads hr (Aa (pv 0) (Aa (pv 3) Ab))) Ab)) Ab))))) Az)))
  (Ah (Ap (Aw D_tree_from hr (Aa (pv 1) Ab)))))),?_⟩
 refine⟨_,rfl,a,C,dx,_,_,rfl,pn.ob,PC.cl,PC.n_height,Qi _ _ _ _,_,rfl,a,C,dx,_,_,rfl,pn.ob,PC.cl,PC.n_width,Qh _ _ _ _,Ay 4,λ ta hta=>?_⟩;refine nv hta λ H0 s0 e0=>?_;have pn0:=pn.same s0;refine⟨_,rfl,a,dx,_,rfl,pn0.ob,GU,a,dx,ls,ld,ww,hh,ts,kvs,rfl,pn0,λ l hl=>?_⟩;refine nv hl λ H1 s1 e1=>?_;have at1':=(pn0.same s1).ats;refine⟨l,rfl,⟨_,SqL.of e1⟩,λ acc hacc=>B6 (K:=K) (a:=l) (ys:=Ao ts) (λ i zs σ H'=>(∃y,σ=[y])/\Same H1 H'/\∃us:List PT,zs=pcs us/\PcO H' us/\cons us=(mks (rcs ts)).take i) ⟨⟨none,rfl⟩,Same.new hacc,[],rfl,λ x hx=>(nomatch hx),rfl⟩ (λ i zs σ H' _ _ hp=>SqL.of (hp.2.1 _ _ e1)) ?_ ?_⟩
 .rintro i x zs σ H' hx hi hl' hacc' ⟨⟨y,rfl⟩,hs,us,rfl,hus,em⟩;obtain⟨u,hu',rfl⟩:=AU hx;refine⟨_,rfl,Ay 2,λ t ht=>?_⟩;have nat:acc≠t:=Ae hacc' ht;refine nv ht λ H2 s2 e2=>?_;have ac2:=s2 _ _ hacc';have rl:(Ao ts).length=ts.length:=aa _;have up:∀{b:Addr}{vs:LUz}{o:LUz},H2 b=some (.tup vs)->(upd H2 acc (.lst o)) b=some (.tup vs):=λ h=>by rw[Ag (AL h ac2 (by intro z;cases z))];exact h
  refine cNx.mk (aF (Am (by lia))) hi hl' ac2 ⟨⟨_,rfl⟩,λ c o e=>?_,us++[(t,u.1,u.2,none)],by rw[P8],λ x hx=>?_,?_⟩
  .rw[Ag (Ae e hacc)];exact(hs.trans s2) c o e
  .rcases ai.mp hx with hx|hx
   .exact⟨up ((hus.same s2) x hx).1,up ((hus.same s2) x hx).2⟩
   .rw[ad.mp hx];exact⟨up e2,up ((hs.trans s2) _ _ (at1' u (ao hu')))⟩
  .have:(mks (rcs ts))[i]?=some (u.2,none):=by rw[aB,aB,hu'];rfl
   rw[OK,em,aV,this];rfl
 rintro zs σ H2 hzl ac2 ⟨_,s2,us,rfl,hus,em⟩;have rl:(Ao ts).length=(mks (rcs ts)).length:=by rw[aa,aa,aa]
 rw[rl,aN]at em;have ul:us.length=ts.length:=by
  have:=congrArg List.length em;rw[aa,aa,aa]at this;exact this
 have s02:=s0.trans (s1.trans s2);have db:=K7 pn.til gw.1 gh.1;refine⟨ta,acc,⟨0,0,hh,ww⟩,us,ww,hh,rcs ts,G,rfl,(s1.trans s2) _ _ e0,ac2,hus,by lia,em,pn.til,gw.2,gh.2,db,gr,fit,tab.same s02,λ le xs H3 sx tab3 hle hens nd=>?_⟩;have sN:SameN H H3:=s02.n.trans (sx.toN (tab.same s02).tbl);have pn3:=pn.n sN;refine⟨_,rfl,le,rfl,⟨_,SqL.of hle⟩,B9 (K:=K) (a:=le) (xs:=xs) (λ i σ H'=>(∃x2 x3,σ=[some (.ref a),some (.ref le),x2,x3])/\H'=H3/\∀e∈(AY G).take i,rmE e=false) ⟨⟨_,_,rfl⟩,rfl,λ e he=>(nomatch he)⟩ (λ i σ H' _ hp=>by rw[hp.2.1];exact SqL.of hle) ?_ ?_⟩
 .rintro i x σ H' hx ⟨⟨x2,x3,rfl⟩,rfl,nr⟩;obtain⟨e,ea,he,rfl,hen⟩:=hens.get hx;have tk:(AY G).take (i+1)=(AY G).take i++[e]:=by rw[aV,he];rfl
  have more:rmE e=false->∀e'∈(AY G).take (i+1),rmE e'=false:=λ h e' he'=>by
   rw[tk]at he';rcases ai.mp he' with he'|he'
   .exact nr e' he'
   .rw[ad.mp he'];exact h
  match e,hen,he,more with
  |.w none,hen,_,more=>exact⟨ea,_,rfl,SqT.of hen,rfl,_,_,rfl,_,_,rfl,rfl,_,rfl,rfl,_,rfl,AG (by decide +kernel) ⟨⟨_,_,rfl⟩,rfl,more rfl⟩⟩
  |.c true k,hen,_,more=>exact⟨ea,_,rfl,SqT.of hen,rfl,_,_,rfl,_,_,rfl,rfl,_,rfl,rfl,_,rfl,AG (by decide +kernel) ⟨⟨_,_,rfl⟩,rfl,more rfl⟩⟩
  |.c false k,hen,_,more=>exact⟨ea,_,rfl,SqT.of hen,rfl,_,_,rfl,_,_,rfl,rfl,_,rfl,rfl,_,rfl,AG (by decide +kernel) ⟨⟨_,_,rfl⟩,rfl,more rfl⟩⟩
  |.w (some n),⟨b,p,h1,hb,rm,cd⟩,he,_ =>
   refine⟨ea,_,rfl,SqT.of h1,rfl,_,_,rfl,_,_,rfl,rfl,_,rfl,rfl,_,rfl,Bt (by decide +kernel) ?_⟩;have nc:=(Fj G).symm.trans (R6 nr he);have ok:=rm.db.ok;obtain⟨n1,n2⟩:=IG (ps:=rcs ts) rm.db.1 gw.2 gh.2;refine⟨_,rfl,_,rfl,_,rfl,a,dx,ls,ld,b,ww,hh,ts,kvs,p,rfl,pn3,hb,rm,λ l4 bs H4 s4 e4 bo4 bm4=>?_⟩;refine⟨_,rfl,_,rfl,a,dx,ls,ld,b,ww,hh,ts,kvs,p,rfl,pn3.same s4,s4 _ _ hb,rm.db.1,rm.db.blk,λ l5 us5 H5 s5 _ e5 a5 m5=>?_⟩;refine⟨l5,us5,rcs ts,p,rfl,e5,a5,by have:=congrArg List.length m5;rw[aa,af]at this;lia,m5,by have:=ok.2;lia,by have:=ok.1;lia,rm.whl pn.til,λ l6 vs6 H6 s6 e6 a6 m6=>⟨rfl,λ y dx' T' H7 hy s7 ey ed nd' hT nT=>?_⟩⟩;have s36:=s4.trans (s5.trans s6);have ef:rcs (ts.filter λ t=>AA t.2 p)=(rcs ts).filter λ r=>AA r p:=by rw[cg];rfl
   rw[ef]at bm4;have s46:=s5.trans s6;have sk:Sk ww hh (rcs ts) n H6 b l4 l6 p bs vs6:=⟨s36 _ _ hb,s46 _ _ e4,λ x hx=>⟨s46 _ _ (bo4 x hx).1,s46 _ _ (bo4 x hx).2⟩,bm4,e6,a6,m6,rm,cd⟩;exact(hR n nc).raise (sN.trans s36.n) hy s7 ey ed nd' hT λ H8 s8=>⟨tab3.same (s36.trans s8),b,l4,l6,p,bs,vs6,rfl,sk.same s8⟩
 .rintro σ H' ⟨⟨x2,x3,rfl⟩,rfl,nr⟩;rw[hens.len,aN]at nr;exact⟨_,rfl,le,xs,G,rfl,SqL.of hle,hens.ens nr,nd,λ v H4 s4 ob=>q ((Fj G).symm.trans (NB nr)) v H4 (sN.trans s4.n) (tab3.same s4) ob⟩
inductive Je(K:Frag)(vs:LUz)(H:Hp)(Q:VK)(E:XK):Prop
 |mk (a:Addr) (ns:List Int) (h0:vs=[.ref a]) (h1:SqL K H a (ns.map V.int)) (h2:∀(t l:Addr)(w h:Int)(ts:List (Addr×Rc))(H':Hp),Same H H'->H' t=some (.tup [.int w,.int h,.ref l])->H' l=some (.lst (Ao ts))->At H' ts->Tiles w h (rcs ts)->ts.length<=52->(1<=w/\w<=12)->(1<=h/\h<=12)->Q (.ref t) H'):Je K vs H Q E
def K1(K:Frag) :Sp:=λ vs H Q E=>Je K vs H Q E
abbrev RQ:LSz:=["_law_script","_law_purse_here","_law_width","_law_height","_law_panes"]
theorem JO{f:Addr}{fd:FuncData}(F:Fun K "_law_drawn" "_law_drawn" BJ f fd)(D__law_purse:A2 P w K mg base 1 "_law_purse" ["_law_script","_law_k"] (EU K))(D__law_take:A2 P w K mg base 1 "_law_take" ["_law_purse_here","_law_many"] ET)
  (D__law_cut_up:A2 P w K mg base 2 "_law_cut_up" ["_law_script","_law_k","_law_width","_law_height","_law_many"] (K2 K)) (D__law_tiled:A2 P w K mg base 2 "_law_tiled" ["_law_script","_law_k","_law_width","_law_height"] (Kx K)) (D__law_wheel:A2 P w K mg base 2 "_law_wheel" ["_law_script","_law_k","_law_panes","_law_purse_here"] Kw):A5 P w K mg base CX0 3 f fd ["_law_script"] (K1 K):=by
 have S:An ["_law_script","_law_purse_here","_law_width","_law_height","_law_panes"] ["_law_script"] (Ai BJ):=fsk;refine F.g S ?_;rintro vs H Q E ⟨a,ns,rfl,hS,k⟩;refine⟨rfl,λ cdv A outer s hr=>?_⟩;obtain⟨tr,hdr,fin⟩:∃rd,PSs (BA CX0 P w K mg base RQ "_law_drawn" (Ai BJ) f cdv A outer s H E).nox ((A8 BJ).drop 5) rd /\
   ∀(D:Cd)(lp:Addr)(ts:List (Addr×Rc))(ww hh:Int)(x1:Option V)(H3:Hp),D.rt=Q->Same H H3->H3 lp=some (.lst (Ao ts))->At H3 ts->Tiles ww hh (rcs ts)->ts.length<=52->(1<=ww/\ww<=12)->(1<=hh/\hh<=12)->rd D [some (.ref a),x1,some (.int ww),some (.int hh),some (.ref lp)] H3:=by
  refine⟨_,(Ah (Ap (A3 (Aa (pv 2) (Aa (pv 3) (Aa (pv 4) Ab)))))),?_⟩;intro D lp ts ww hh x1 H3 hD s3 el at3 til few gw gh;refine⟨_,rfl,_,rfl,_,rfl,Ay 3,λ t ht=>?_⟩;rw[hD];have s4:=Same.new (o:=.tup [.int ww,.int hh,.ref lp]) ht;exact k t lp ww hh ts _ (s3.trans s4) Af (s4 _ _ el) (at3.same s4) til few gw gh
 refine⟨_,(Ac (Ar (i:=1) S.nd rfl (av rfl) (Aw D__law_purse hr (Aa (pv 0) (Aa Ad Ab))))
  (Ac (Ar (i:=2) S.nd rfl (av rfl) (Aq A4 Ad (Aw D__law_take hr (Aa (pv 1) (Aa Ad Ab)))))
  (Ac (Ar (i:=3) S.nd rfl (av rfl) (Aq A4 Ad (Aw D__law_take hr (Aa (pv 1) (Aa Ad Ab)))))
  (Ac (Ar (i:=4) S.nd rfl (av rfl) (Aw D__law_tiled hr (Aa (pv 0) (Aa Ad (Aa (pv 2) (Aa (pv 3) Ab))))))
  (Ac (A7 (Ax BU (Aw D__law_take hr (Aa (pv 1) (Aa Ad Ab))) Ad (Av _)) (Ac (Ar (i:=4) S.nd rfl (av rfl) (Aw D__law_cut_up hr (Aa (pv 0) (Aa Ad (Aa (pv 2) (Aa (pv 3) (Aa (Aw D__law_take hr (Aa (pv 1) (Aa Ad Ab))) Ab)))))))
  (Ah (A7 (Ax BU (Aw D__law_take hr (Aa (pv 1) (Aa Ad Ab))) Ad (Av _)) (Ah (Ar (i:=4) S.nd rfl (av rfl) (Aw D__law_wheel hr (Aa (pv 0) (Aa Ad (Aa (pv 4) (Aa (pv 1) Ab))))))) Az))) Az)
  hdr))))),?_⟩
 refine⟨_,rfl,a,ns,0,rfl,hS,by lia,by lia,λ p z hp=>?_⟩;refine nv hp λ H1 sp ep=>?_;refine⟨_,rfl,p,z,12,rfl,ep,by decide,by decide,λ r1 z1 a1 b1=>CG (i:=1) (j:=r1) ?_⟩;have s1:=SameX.drop sp hp (SameX.upd (o:=.lst [.int z1]) (H:=H1));have e1:(upd H1 p (.lst [.int z1])) p=some (.lst [.int z1]):=Af;generalize upd H1 p (.lst [.int z1])=H2 at s1 e1 |-;have gw:1<=1+r1/\1+r1<=12:=by lia
 generalize 1+r1=ww at gw |-;refine⟨_,rfl,p,z1,12,rfl,e1,by decide,by decide,λ r2 z2 a2 b2=>CG (i:=1) (j:=r2) ?_⟩;have s2:=SameX.drop s1 hp (SameX.upd (o:=.lst [.int z2]) (H:=H2));have e2:(upd H2 p (.lst [.int z2])) p=some (.lst [.int z2]):=Af;generalize upd H2 p (.lst [.int z2])=H3 at s2 e2 |-;have gh:1<=1+r2/\1+r2<=12:=by lia
 generalize 1+r2=hh at gh |-;refine⟨_,rfl,_,rfl,_,rfl,a,ns,2,ww,hh,rfl,s2.seq hS,by decide,by decide,gw,gh,λ l ts H4 s4 _ hl hat til few=>?_⟩;have e4:=s4 _ _ e2;have s04:=s2.trans s4;refine⟨_,rfl,p,z2,2,rfl,e4,by decide,by decide,λ r5 z5 a5 b5=>?_⟩;have s5:=SameX.drop s04 hp (SameX.upd (o:=.lst [.int z5]) (H:=H4));have e5:(upd H4 p (.lst [.int z5])) p=some (.lst [.int z5]):=Af;have sx5:=SameX.upd (p:=p) (o:=.lst [.int z5]) (H:=H4);have l5:=sx5 _ _ (DZ e4 hl) hl;have at5:=hat.sx e4 sx5;generalize upd H4 p (.lst [.int z5])=H5 at s5 e5 l5 at5 |-;refine⟨rfl,_,rfl,AF (λ c=>?_) (λ c=>?_)⟩
 .refine⟨_,rfl,_,rfl,_,rfl,_,rfl,p,z5,41,rfl,e5,by decide,by decide,λ r6 z6 a6 b6=>?_⟩;have s6:=SameX.drop s5 hp (SameX.upd (o:=.lst [.int z6]) (H:=H5));have e6:(upd H5 p (.lst [.int z6])) p=some (.lst [.int z6]):=Af;generalize upd H5 p (.lst [.int z6])=H6 at s6 e6 |-;refine⟨a,ns,2,ww,hh,r6,rfl,s6.seq hS,by decide,by decide,gw,gh,by lia,by lia,λ l7 ts7 H7 s7 hl7 hat7 til7 few7=>?_⟩;have e7:=s7 _ _ e6;have s07:=s6.trans s7;refine⟨_,rfl,p,z6,2,rfl,e7,by decide,by decide,λ r8 z8 a8 b8=>?_⟩;have s8:=SameX.drop s07 hp (SameX.upd (o:=.lst [.int z8]) (H:=H7));have e8:(upd H7 p (.lst [.int z8])) p=some (.lst [.int z8]):=Af;have sx8:=SameX.upd (p:=p) (o:=.lst [.int z8]) (H:=H7);have l8:=sx8 _ _ (DZ e7 hl7) hl7;have at8:=hat7.sx e7 sx8;generalize upd H7 p (.lst [.int z8])=H8 at s8 e8 l8 at8 |-;refine⟨rfl,_,rfl,AF (λ c=>?_) (λ c=>?_)⟩
  .refine⟨_,rfl,_,rfl,_,rfl,l7,p,.ref a,2,z8,ww,hh,ts7,rfl,e8,l8,at8,til7,by lia,gw,gh,λ l9 ts9 H9 sx9 hl9 hat9 til9 few9=>?_⟩;exact fin _ l9 ts9 ww hh _ H9 rfl (SameX.drop s8 hp sx9) hl9 hat9 til9 few9 gw gh
  .exact fin _ l7 ts7 ww hh _ H8 rfl s8 l8 at8 til7 (by lia) gw gh
 .exact fin _ l ts ww hh _ H5 rfl s5 l5 at5 til few gw gh
structure Inn(w h:Int)(ps:List Rc)(p:Rk)(us:List (Addr×Rc)):Prop where
 til:GB.Tiles w h ps
 db:DB w h ps p
 nd:(rcs us).Nodup
 mem:∀r,r∈rcs us↔r∈ps/\Ins r p
structure Inp(ps:List Rc)(p:Rk)(us:List (Addr×Rc)):Prop where
 nd:(rcs us).Nodup
 sub:∀r∈rcs us,r∈ps
 all:∀r∈ps,Ins r p->r∈rcs us
theorem insR_iff{r p:Rk}:AA r p=true↔Ins r p:=by
 show Fi _ _ _ _ _ _ _ _=true↔_;rw[Hf,decide_eq_true_iff]
theorem Inp.inn{w h:Int}{ps:List Rc}{p:Rk}{us us':List (Addr×Rc)}(i:Inp ps p us)(pm:us'.Perm us)(T:GB.Tiles w h ps)(db:DB w h ps p):okA (rcs us') p=true/\Inn w h ps p (us'.filter λ t=>AA t.2 p):=by
 have pr:(rcs us').Perm (rcs us):=pm.map _;have ef:rcs (us'.filter λ t=>AA t.2 p)=(rcs us').filter λ r=>AA r p:=by rw[cg];rfl
 refine⟨okA_iff.mpr λ r hr=>okA_iff.mp db.2 r (i.sub r (pr.mem_iff.mp hr)),T,db,?_,λ r=>?_⟩
 .rw[ef];exact(pr.nodup_iff.mpr i.nd).sublist cA
 .rw[ef,aP,insR_iff,pr.mem_iff];exact⟨λ z=>⟨i.sub r z.1,z.2⟩,λ z=>⟨i.all r z.1 z.2,z.2⟩⟩
theorem Inn.inp{w h:Int}{ps:List Rc}{p q:Rk}{us:List (Addr×Rc)}(i:Inn w h ps p us)(hq:∀r,Ins r q->Ins r p):Inp ps q us :=
 ⟨i.nd,λ r hr=>((i.mem r).mp hr).1,λ r hr z=>(i.mem r).mpr ⟨hr,hq r z⟩⟩
theorem SU{ps:List Rc}{p:Rk}(nd:ps.Nodup):((inP (mks ps) p).map (·.1)).Nodup:=by
 have e:(inP (mks ps) p).map (·.1)=ps.filter λ r=>decide (Ins r p):=by
  unfold inP;show List.map _ (List.filter _ (List.map _ ps))=_;rw[cg,be];exact List.map_id _
 rw[e];exact nd.sublist cA
theorem JW{ps:List Rc}{p r:Rk}:r∈(inP (mks ps) p).map (·.1)↔r∈ps/\Ins r p:=by
 rw[aw]
 constructor
 .rintro⟨g,hg,rfl⟩;have:=mem_in.mp hg;exact⟨this.1.1,this.2⟩
 .rintro⟨h1,h2⟩;exact⟨(r,none),mem_in.mpr ⟨⟨h1,rfl⟩,h2⟩,rfl⟩
theorem Inn.len{w h:Int}{ps:List Rc}{p:Rk}{us:List (Addr×Rc)}(i:Inn w h ps p us):us.length=(inP (mks ps) p).length:=by
 have pm:(rcs us).Perm ((inP (mks ps) p).map (·.1)):=(List.perm_ext_iff_of_nodup i.nd (SU (Jp i.til))).mpr λ r=>by rw[i.mem,JW]
 have:=pm.length_eq;rwa [aa,aa]at this
theorem IF{A B:List Rk}{u:Bool}{lo:Int}(h:∀r,r∈A↔r∈B):∀n,DE A u lo n=DE B u lo n
 |0=>rfl
 |n+1=>by
  have e:A.any (Bi u (lo+1+n))=B.any (Bi u (lo+1+n)):=by
   rw[bg,cy,cy];exact⟨λ⟨r,a,b⟩=>⟨r,(h r).mp a,b⟩,λ⟨r,a,b⟩=>⟨r,(h r).mpr a,b⟩⟩
  rw[DE,DE,IF h n,e]
theorem Inn.lns{w h:Int}{ps:List Rc}{p:Rk}{us:List (Addr×Rc)}(i:Inn w h ps p us)(u:Bool):lns (rcs us) p u=lns ((inP (mks ps) p).map (·.1)) p u:=IF (λ r=>by rw[i.mem,JW]) _
def hdV:List Int->V
 |[]=>.non
 |a::_=>.int a
theorem N4{rs:List Rk}{u:Bool}{lo:Int}{i:Nat}(h:DE rs u lo i=[])(hb:rs.any (Bi u (lo+1+i))=false):∀n,hdV (DE rs u lo (i+1+n))=.int (lo+1+i)
 |0=>by rw[Nat.add_zero,DE,h,hb];rfl
 |n+1=>by
  have ih:=N4 h hb n;rw[<-Nat.add_assoc,DE];cases e:DE rs u lo (i+1+n) with
  |nil=>rw[e]at ih;cases ih
  |cons a r=>rw[e]at ih;exact ih
inductive Jc(vs:LUz)(H:Hp)(Q:VK)(E:XK):Prop
 |mk (l:Addr) (us:List (Addr×Rc)) (p:Rk) (u:Bool) (h0:vs=[.ref l,.int (p.lo u),.int (p.hi u),.int (sd u)]) (h1:H l=some (.lst (Ao us))) (h2:At H us) (h3:us.length<=52) (h4:p.ok) (h5:(∀u,0<=p.lo u/\p.hi u<=12)) (h6:∀H',Same H H'->Q (hdV (lns (rcs us) p u)) H'):Jc vs H Q E
def Kz:Sp:=λ vs H Q E=>Jc vs H Q E
theorem JN{f:Addr}{fd:FuncData}(F:Fun K "_law_least" "_law_least" D6 f fd)(T:Txt mg tk):A5 P w K mg base CX0 1 f fd ["_law_panes","_law_low","_law_high","_law_side"] Kz:=by
 have S:An ["_law_panes","_law_low","_law_high","_law_side","_law_line"] ["_law_panes","_law_low","_law_high","_law_side"] (Ai D6):=fsk;refine F.g S ?_;rintro vs H Q E ⟨l,us,p,u,rfl,hl,hat,few,pk,pb,q⟩;refine⟨rfl,λ cdv A outer s hr=>?_⟩;refine⟨_,(Ac (AN PassesOwn.never rfl (AT rfl T.z_range (Aa (Aq A4 (pv 1) Ad) (Aa (pv 2) Ab))) (Al (i:=4) S.nd rfl (cK rfl)) (Ah (A7 (AW (AI (A0 Hu rfl T.z_any rfl (Aa (BO rfl (AC (pv 0)) (λ_ _ _ _ _=>pgk (nk ["_law_one","_law_line","_law_side"])) (λ_ _ _ _ _=>(BP AR AR (Aj (Bn (K:=K)) (pv 0) (pv 2) (λ_ _=>rfl)) (pv 1) (Aj (Bn (K:=K)) (pv 0) (Aq A4 (pv 2) Ad) (λ_ _=>rfl)))) (N:=["_law_one","_law_line","_law_side"]) (fr:=[none,some 4,some 3])) Ab)))) (Ah (Ap (pv 4))) Az)))
  (Ah (Ap BY))),?_⟩
 obtain⟨b0,b1⟩:=pb u;have hlt:=Dg pk u;refine⟨_,rfl,_,_,rfl,rfl,_,rfl,p.lo u+1,p.hi u,rfl,⟨by lia,by lia,by lia,by lia⟩,Ba (lo:=p.lo u+1) (n:=(p.hi u-(p.lo u+1)).toNat) (λ i σ H'=>∃x4:Option V,σ=[some (.ref l),some (.int (p.lo u)),some (.int (p.hi u)),some (.int (sd u)),x4]/\Same H H'/\DE (rcs us) u (p.lo u) i=[])
  ⟨_,rfl,Same.refl H,rfl⟩ ?_ ?_⟩
 .rintro i σ H1 hi ⟨x4,rfl,s1,no⟩;have hl1:=s1 _ _ hl;refine⟨_,rfl,l,rfl,⟨_,SqL.of hl1⟩,λ acc hacc=>B6 (K:=K) (a:=l) (ys:=Ao us) (λ j xs σ H'=>(∃y,σ=[y,some (.int (p.lo u+1+i)),some (.int (sd u))])/\Same H1 H'/\xs=((rcs us).take j).map λ r=>V.bl (Bi u (p.lo u+1+i) r)) ⟨⟨none,rfl⟩,Same.new hacc,rfl⟩ (λ j xs σ H' _ _ hp=>SqL.of (hp.2.1 _ _ hl1)) ?_ ?_⟩
  .rintro j x xs σ H' hx hj hl' hacc' ⟨⟨y,rfl⟩,s4,rfl⟩;obtain⟨t,ht,rfl⟩:=AU hx;have hta:=(s1.trans s4) _ _ (hat t (ao ht));have hta:H' t.1=some (.tup (Rk.vs t.2)):=hta;have er:(rcs us)[j]?=some t.2:=by rw[aB,ht];rfl
   have fin:∀b,b=Bi u (p.lo u+1+i) t.2->cNx acc (Ao us).length (λ j xs σ H'=>(∃y,σ=[y,some (.int (p.lo u+1+i)),some (.int (sd u))])/\Same H1 H'/\xs=((rcs us).take j).map λ r=>V.bl (Bi u (p.lo u+1+i) r)) j [some (.ref t.1),some (.int (p.lo u+1+i)),some (.int (sd u))] (.bl b) H':=λ b hb=>by
    refine cNx.mk (aF (Am (by rw[aa];lia))) hj hl' hacc' ⟨⟨_,rfl⟩,λ c o e=>?_,?_⟩
    .rw[Ag (Ae e hacc)];exact s4 c o e
    .rw[aV,er,aj,hb];rfl
   refine⟨_,rfl,_,rfl,t.1,_,_,_,rfl,rfl,SqT.of hta,Hv,_,rfl,_,_,rfl,rfl,_,rfl,AF (λ h1=>?_) (λ h1=>?_)⟩
   .refine⟨_,rfl,_,rfl,_,_,rfl,rfl,t.1,_,_,_,rfl,rfl,SqT.of hta,LJ,_,_,rfl,rfl,fin _ ?_⟩;unfold Bi;rw[h1];rfl
   .refine fin false ?_;unfold Bi;rw[h1];rfl
  .rintro xs σ H' hl' hacc' ⟨_,s4,rfl⟩;have e:(Ao us).length=(rcs us).length:=by rw[aa,aa]
   rw[e,aN]at hacc';have e2:List.map V.bl ((rcs us).map (Bi u (p.lo u+1+i)))=(rcs us).map λ r=>V.bl (Bi u (p.lo u+1+i) r):=by rw[be (l:=rcs us)];rfl
   have e3:((rcs us).map (Bi u (p.lo u+1+i))).any id=(rcs us).any (Bi u (p.lo u+1+i)):=by rw[eF];rfl
   refine⟨acc,(rcs us).map (Bi u (p.lo u+1+i)),rfl,SqL.of (by rw[hacc',e2]),rfl,_,rfl,?_⟩;rw[e3];cases hb:(rcs us).any (Bi u (p.lo u+1+i)) with
   |true=>exact⟨_,rfl,s1.trans s4,by rw[DE,no,hb];rfl⟩
   |false =>
    refine⟨_,rfl,?_⟩;have key:=q H' (s1.trans s4);unfold lns at key;rw[show(p.hi u-(p.lo u+1)).toNat=i+1+((p.hi u-(p.lo u+1)).toNat-(i+1)) by lia,N4 no hb]at key;exact key
 .rintro σ H' ⟨x4,rfl,s1,no⟩;have key:=q H' s1;unfold lns at key;rw[no]at key;exact key
theorem GrS.db{w h:Int}{ps:List Rc}:∀{t:Tr}{p:Rk},GrS w h ps t p->DB w h ps p
 |.whole _,_,g=>g.1
 |.cut _ _ _ _,_,g=>g.1
theorem Inn.pos{w h:Int}{ps:List Rc}{p:Rk}{us:List (Addr×Rc)}(i:Inn w h ps p us):0<us.length:=by
 obtain⟨a,b⟩:=i.db.ok;obtain⟨q,hq,_,iq⟩:=i.db.cov i.til (r:=p.t) (c:=p.l) ⟨aE _,a,aE _,b⟩;have:=eE ((i.mem q).mpr ⟨hq,iq⟩);rwa [aa]at this
theorem Inn.one{w h:Int}{ps:List Rc}{p:Rk}{us:List (Addr×Rc)}(i:Inn w h ps p us)(e:(inP (mks ps) p).length=1):rcs us=[p]:=by
 obtain⟨g,hg⟩:=cu.mp e;have eg:=i.db.one i.til hg;have m:p∈rcs us:=by rw[i.mem,<-JW,hg,eg];exact ad.mpr rfl
 have l:(rcs us).length=1:=by rw[aa,i.len,e]
 obtain⟨r,hr⟩:=cu.mp l;rw[hr]at m |-;rw[ad.mp m]
theorem SY{L:List (Rk×Option Int)}{p:Rk}(e:enG L p=.w none):L.length=1:=by
 unfold enG at e;by_cases h:L.length=1
 .exact h
 .rw[if_neg h]at e;cases hc:DP (L.map (·.1)) p with
  |nil=>rw[hc]at e;cases e
  |cons c r=>rw[hc]at e;cases e
theorem SZ{L:List (Rk×Option Int)}{p:Rk}{u:Bool}{k:Int}(pk:p.ok)(e:enG L p=.c u k):L.length≠1/\1<=k/\k<p.len u/\(if u=true then hdV (lns (L.map (·.1)) p true)=.int (p.lo true+k) else hdV (lns (L.map (·.1)) p true)=.non/\hdV (lns (L.map (·.1)) p false)=.int (p.lo false+k)):=by
 unfold enG at e;by_cases h:L.length=1
 .rw[if_pos h]at e;cases e
 .rw[if_neg h]at e;cases hc:DP (L.map (·.1)) p with
  |nil=>rw[hc]at e;cases e
  |cons c r =>
   rw[hc]at e;obtain⟨v,a⟩:=c;have e:En.c v (a-p.lo v)=.c u k:=e;injection e with e1 e2;subst e1;obtain⟨a1,a2,_⟩:=(GV pk).mp (hc ▸ aD:(v,a)∈DP (L.map (·.1)) p);have a1:p.lo v<a:=a1;have a2:a<p.hi v:=a2;refine⟨h,by lia,by rw[DY];lia,?_⟩;unfold DP at hc;have ea:p.lo v+k=a:=by lia
   cases v with
   |true =>
    rw[if_pos rfl,ea];cases hl:lns (L.map (·.1)) p true with
    |nil =>
     rw[hl]at hc;cases hl2:lns (L.map (·.1)) p false with
     |nil=>rw[hl2]at hc;cases hc
     |cons b s=>rw[hl2]at hc;cases hc
    |cons b s=>rw[hl]at hc;cases hc;rfl
   |false =>
    rw[if_neg ae,ea];cases hl:lns (L.map (·.1)) p true with
    |nil =>
     rw[hl]at hc;cases hl2:lns (L.map (·.1)) p false with
     |nil=>rw[hl2]at hc;cases hc
     |cons b s=>rw[hl2]at hc;cases hc;exact⟨rfl,rfl⟩
    |cons b s=>rw[hl]at hc;cases hc
theorem Lu{p r:Rk}{u:Bool}{k:Int}(k1:1<=k)(k2:k<p.len u):(Ins r (p.fst u k)->Ins r p)/\(Ins r (p.oth u k)->Ins r p):=by
 unfold Ins;cases u
 .have k2:k<p.b-p.t:=k2;exact⟨λ⟨a,b,c,d⟩=>⟨a,b,by have:r.b<=p.t+k:=c;lia,d⟩,λ⟨a,b,c,d⟩=>⟨by have:p.t+k<=r.t:=a;lia,b,c,d⟩⟩
 .have k2:k<p.r-p.l:=k2;exact⟨λ⟨a,b,c,d⟩=>⟨a,b,c,by have:r.r<=p.l+k:=d;lia⟩,λ⟨a,b,c,d⟩=>⟨a,by have:p.l+k<=r.l:=b;lia,c,d⟩⟩
inductive HI(cW cU cL:Addr)(n:Nat)(vs:LUz)(H:Hp)(Q:VK)(E:XK):Prop
 |mk (v:V) (t:Tr) (l b:Addr) (us:List (Addr×Rc)) (p:Rk) (w h:Int) (ps:List Rc) (h0:vs=[v,.ref l,.ref b]) (h1:Obj cW cU cL H t v) (h2:GrS w h ps t p) (h3:fsR t=none) (h4:H b=some (.tup p.vs)) (h5:H l=some (.lst (Ao us))) (h6:At H us) (h7:us.length<=52) (h8:Inp ps p us) (h9:GB.Tiles w h ps) (h10:w<=12) (h11:h<=12) (h12:p.len true+p.len false<=n) (h13:∀H',Same H H'->Q (.bl true) H'):HI cW cU cL n vs H Q E
def Dl(cW cU cL:Addr)(n:Nat) :Sp:=λ vs H Q E=>HI cW cU cL n vs H Q E
theorem Rw{cW cU cL:Addr}{vs:LUz}{H:Hp}{Q:VK}{E:XK}:¬Dl cW cU cL 0 vs H Q E:=by
 rintro⟨v,t,l,b,us,p,w,h,ps,_,_,gr,_,_,_,_,_,_,_,_,_,hn,_⟩;have:=Dg gr.db.ok true;have:=Dg gr.db.ok false;rw[DY,DY]at hn;lia
abbrev U9:LSz:=["_law_tree","_law_panes","_law_block","_law_inner","_law_top","_law_left","_law_bottom","_law_right","_law_upright","_law_level_here"]
theorem E2:An U9 ["_law_tree","_law_panes","_law_block"] (Ai C4):=fsk
theorem SR{i:Int}:(!decide (V.int i=V.non))=true:=by rw[decide_eq_false (by intro z;cases z)];rfl
theorem Uc{a b:Option Int}(h:a.or b=none):a=none/\b=none:=by
 cases a with
 |none=>exact⟨rfl,h⟩
 |some x=>cases h
theorem GK{f:Addr}{fd:FuncData}{n:Nat}(F:Fun K "_law_is_tree" "_law_is_tree" C4 f fd)(T:Txt mg tk)(R:RT mg K cT cW cU cL)(D__law_panes_in:A2 P w K mg base 1 "_law_panes_in" ["_law_panes","_law_block"] (Ju K))(D__law_least:A2 P w K mg base 1 "_law_least" ["_law_panes","_law_low","_law_high","_law_side"] Kz)
  (D__law_is_tree:A2 P w K mg base (n+1) "_law_is_tree" ["_law_tree","_law_panes","_law_block"] (Dl cW cU cL n)):A5 P w K mg base CX0 (n+2) f fd ["_law_tree","_law_panes","_law_block"] (Dl cW cU cL (n+1)):=by
 have S:=E2;refine F.g S ?_;rintro vs H Q E ⟨v,t,l,b,us,p,ww,hh,ps,rfl,ho,gr,nr,hb,hl,hat,few,ip,T0,w2,h2,hn,q⟩;refine⟨rfl,λ cdv A outer s hr=>?_⟩;have db:=gr.db;have pk:=db.ok;have pb:=db.bd w2 h2;refine⟨_,(Ac (Ar (i:=3) S.nd rfl (av rfl) (Aw D__law_panes_in hr (Aa (pv 1) (Aa (pv 2) Ab)) (by lia)))
  (Ac (A7 (PW.pt (BL (Ax F2 (pv 3) BY (Av _)) (BC (Ax AR (A0 A6 rfl T.z_len rfl (Aa (pv 3) Ab)) Ad (Av _))))) (Ah (Ap Bq)) Az)
  (Ac (Di (pv 2) (Bz rfl (Au (Al (i:=4) S.nd rfl (av rfl)) (Au (Al (i:=5) S.nd rfl (av rfl)) (Au (Al (i:=6) S.nd rfl (av rfl)) (Au (Al (i:=7) S.nd rfl (av rfl)) AZ))))))
  (Ac (Ar (i:=8) S.nd rfl (av rfl) (Aw D__law_least hr (Aa (pv 3) (Aa (pv 5) (Aa (pv 7) (Aa Ad Ab)))) (by lia)))
  (Ac (Ar (i:=9) S.nd rfl (av rfl) (Aw D__law_least hr (Aa (pv 3) (Aa (pv 4) (Aa (pv 6) (Aa Ad Ab)))) (by lia)))
  (Ac (A7 (Ax BU (A0 A6 rfl T.z_len rfl (Aa (pv 3) Ab)) Ad (Av _)) (Ah (Ap (Bm (A0 EK rfl T.z_isinstance rfl (Aa (pv 0) (Aa (A9 (v:=.ref (cW)) rfl R.g_Whole rfl) Ab))) (Bm (AH F2 (BZ (pv 0) rfl) BY (Av _)) (Bg (AH (JG hr) (pv 3) (AJ (Aa (pv 2) Ab)) (Av _))))))) Az)
  (Ac (A7 (Ax Ro (pv 8) BY (Av _)) (Ac (A7 (PW.pt (BL (AW (AI (A0 EK rfl T.z_isinstance rfl (Aa (pv 0) (Aa (A9 (v:=.ref (cU)) rfl R.g_Upright rfl) Ab))))) (BC (Ax Fc (BZ (pv 0) rfl) (Aq AB (pv 8) (pv 5)) (Av _))))) (Ah (Ap Bq)) Az)
  (Ac (A7 (AW (AI (Aw D__law_is_tree hr (Aa (BZ (pv 0) rfl) (Aa (pv 3) (Aa (A3 (Aa (pv 4) (Aa (pv 5) (Aa (pv 6) (Aa (pv 8) Ab))))) Ab))) (by lia)))) (Ah (Ap Bq)) Az)
  (Ah (Ap (Aw D__law_is_tree hr (Aa (BZ (pv 0) rfl) (Aa (pv 3) (Aa (A3 (Aa (pv 4) (Aa (pv 8) (Aa (pv 6) (Aa (pv 7) Ab))))) Ab))) (by lia)))))) Az)
  (Ac (A7 (PW.pt (BL (Ax F2 (pv 9) BY (Av _)) (BL (AW (AI (A0 EK rfl T.z_isinstance rfl (Aa (pv 0) (Aa (A9 (v:=.ref (cL)) rfl R.g_Level rfl) Ab))))) (BC (Ax Fc (BZ (pv 0) rfl) (Aq AB (pv 9) (pv 4)) (Av _)))))) (Ah (Ap Bq)) Az)
  (Ac (A7 (AW (AI (Aw D__law_is_tree hr (Aa (BZ (pv 0) rfl) (Aa (pv 3) (Aa (A3 (Aa (pv 4) (Aa (pv 5) (Aa (pv 9) (Aa (pv 7) Ab))))) Ab))) (by lia)))) (Ah (Ap Bq)) Az)
  (Ah (Ap (Aw D__law_is_tree hr (Aa (BZ (pv 0) rfl) (Aa (pv 3) (Aa (A3 (Aa (pv 9) (Aa (pv 5) (Aa (pv 6) (Aa (pv 7) Ab))))) Ab))) (by lia))))))))))))),?_⟩
 refine⟨_,rfl,_,rfl,l,b,us,p,ww,hh,rfl,SqL.of hl,hat,λ r hr=>T0.ins r (ip.sub r hr),few,w2,h2,hb,λ us' pm srt=>?_⟩;obtain⟨ok',inn⟩:=ip.inn pm T0 db;refine⟨λ z=>(by rw[ok']at z;cases z),λ_ l1 H1 s1 _ e1=>?_⟩;have at1:At H1 (us'.filter λ t=>AA t.2 p):=λ t ht=>s1 _ _ (hat t (pm.mem_iff.mp (aP.mp ht).1));have vl:(us'.filter λ t=>AA t.2 p).length<=52:=ba (bQ _ _) (by rw[pm.length_eq];exact few);generalize (us'.filter λ t=>AA t.2 p)=vs at inn e1 at1 vl;have vp:=inn.pos;refine⟨_,rfl,rfl,_,rfl,AG (decide_eq_false (by intro z;cases z)) ?_⟩;refine⟨_,rfl,l1,_,rfl,.inl (SqL.of e1),_,_,rfl,rfl,_,rfl,AG (decide_eq_false (by rw[aa];lia)) ?_⟩;refine⟨_,rfl,b,_,rfl,SqT.of (s1 _ _ hb),rfl,_,_,rfl,_,_,rfl,_,_,rfl,_,_,rfl,rfl,?_⟩;refine⟨_,rfl,_,rfl,_,rfl,l1,vs,p,true,rfl,e1,at1,vl,pk,pb,λ H2 s2=>?_⟩;obtain⟨x8,h8⟩:∃x8,hdV (lns (rcs vs) p true)=x8:=⟨_,rfl⟩;rw[h8];refine⟨_,rfl,_,rfl,_,rfl,l1,vs,p,false,rfl,s2 _ _ e1,at1.same s2,vl,pk,pb,λ H3 s3=>?_⟩;obtain⟨x9,h9⟩:∃x9,hdV (lns (rcs vs) p false)=x9:=⟨_,rfl⟩;rw[h9];rw[inn.lns]at h8 h9;have s13:=s2.trans s3;have e3:=s13 _ _ e1;have at3:=at1.same s13;have s03:=s1.trans s13;have ho3:=ho.same s03;have q:=λ H' sx=>q H' (s03.trans sx);have hb3:=s03 _ _ hb;refine⟨_,rfl,l1,_,rfl,.inl (SqL.of e3),rfl,_,rfl,?_⟩
 match t,nr,gr,ho3 with
 |.whole m,nr,gr,ho3 =>
  have nr:m=none:=nr;subst nr;have h1:=SY gr.2;rw[Obj]at ho3;obtain⟨x,dx,rfl,hx⟩:=ho3;refine Bt (decide_eq_true (by rw[aa,inn.len,h1];rfl)) ?_;refine⟨_,rfl,x,cW,dx,_,_,.ref cW,true,rfl,hx,R.iW,rfl,S4,R.kWW,_,rfl,Bt rfl ?_⟩;refine⟨_,rfl,x,cW,dx,_,_,rfl,hx,R.iW.cl,R.n_mark,fW _,rfl,_,rfl,Bt (decide_eq_true rfl) ?_⟩;refine⟨_,rfl,_,rfl,Ay 1,λ lb hlb=>?_⟩;refine nv hlb λ H4 s4 e4=>?_;have a4:At H4 [(b,p)]:=λ t ht=>by rw[ad.mp ht];exact s4 _ _ hb3
  have D1:DIs K H4 (.lst (Et (rcs vs))) (.ref l1):=Fh (SqL.of (s4 _ _ e3)) (at3.same s4);have D2:DIs K H4 (.lst (Et (rcs [(b,p)]))) (.ref lb):=Fh (SqL.of e4) a4;refine⟨_,_,D1,D2,⟨_,rfl⟩,⟨_,rfl⟩,by have:=G6 (rcs vs);rw[dep];lia,?_⟩;rw[if_neg ae];have er:rcs vs=rcs [(b,p)]:=inn.one h1;rw[er]at D1 |-;rw[BR _ D1];exact q H4 s4
 |.cut u k y1 y2,nr,gr,ho3 =>
  obtain⟨h1,k1,k2,hd⟩:=SZ pk gr.2.1;obtain⟨n1,n2⟩:=Uc nr;obtain⟨gx,gy⟩:=gr.2.2;obtain⟨_,_,lt1,lt2⟩:=RY (u:=u) (a:=k) pb k1 k2;have i1:=inn.inp λ r=>(Lu (r:=r) k1 k2).1;have i2:=inn.inp λ r=>(Lu (r:=r) k1 k2).2;rw[Obj]at ho3;obtain⟨x,dx,v1,v2,rfl,hx,o1,o2⟩:=ho3;refine AG (decide_eq_false (by rw[aa,inn.len];intro z;injection z with z;lia)) ?_;cases u with
  |true =>
   rw[if_pos rfl,h8]at hd;subst hd;refine⟨_,rfl,rfl,_,rfl,Bt SR ?_⟩;refine⟨_,rfl,x,_,dx,_,_,.ref cU,true,rfl,hx,R.iC true,rfl,S4,R.kCC true true,_,rfl,AG rfl ?_⟩;refine⟨_,rfl,x,_,dx,_,_,rfl,hx,(R.iC true).cl,R.n_at true,Sf _ _ _,_,rfl,_,rfl,_,_,rfl,rfl,rfl,_,rfl,AG (by rw[decide_eq_true (by show V.int k=V.int (p.l+k-p.l);rw[show p.l+k-p.l=k by lia])];rfl) ?_⟩;refine⟨_,rfl,x,_,dx,_,_,rfl,hx,(R.iC true).cl,R.n_first true,L7 _ _ _,_,rfl,_,rfl,_,rfl,_,rfl,_,rfl,Ay 4,λ c1 hc1=>?_⟩;refine nv hc1 λ H4 s4 e4=>?_;refine⟨v1,y1,l1,c1,vs,p.fst true k,ww,hh,ps,rfl,o1.same s4,gx,n1,e4,s4 _ _ e3,at3.same s4,vl,i1,T0,w2,h2,by lia,λ H5 s5=>⟨_,rfl,AG rfl ?_⟩⟩;have s35:=s4.trans s5;refine⟨_,rfl,x,_,dx,_,_,rfl,s35 _ _ hx,(R.iC true).cl,R.n_other true,L6 _ _ _,_,rfl,_,rfl,_,rfl,_,rfl,_,rfl,Ay 4,λ c2 hc2=>?_⟩;refine nv hc2 λ H6 s6 e6=>?_;have s36:=s35.trans s6;exact⟨v2,y2,l1,c2,vs,p.oth true k,ww,hh,ps,rfl,o2.same s36,gy,n2,e6,s36 _ _ e3,at3.same s36,vl,i2,T0,w2,h2,by lia,λ H7 s7=>q H7 (s36.trans s7)⟩
  |false =>
   rw[if_neg ae,h8,h9]at hd;obtain⟨rfl,rfl⟩:=hd;refine⟨_,rfl,rfl,_,rfl,AG rfl ?_⟩;refine⟨_,rfl,rfl,_,rfl,AG (decide_eq_false (by intro z;cases z)) ?_⟩;refine⟨_,rfl,x,_,dx,_,_,.ref cL,true,rfl,hx,R.iC false,rfl,S4,R.kCC false false,_,rfl,AG rfl ?_⟩;refine⟨_,rfl,x,_,dx,_,_,rfl,hx,(R.iC false).cl,R.n_at false,Sf _ _ _,_,rfl,_,rfl,_,_,rfl,rfl,rfl,_,rfl,AG (by rw[decide_eq_true (by show V.int k=V.int (p.t+k-p.t);rw[show p.t+k-p.t=k by lia])];rfl) ?_⟩;refine⟨_,rfl,x,_,dx,_,_,rfl,hx,(R.iC false).cl,R.n_first false,L7 _ _ _,_,rfl,_,rfl,_,rfl,_,rfl,_,rfl,Ay 4,λ c1 hc1=>?_⟩;refine nv hc1 λ H4 s4 e4=>?_;refine⟨v1,y1,l1,c1,vs,p.fst false k,ww,hh,ps,rfl,o1.same s4,gx,n1,e4,s4 _ _ e3,at3.same s4,vl,i1,T0,w2,h2,by lia,λ H5 s5=>⟨_,rfl,AG rfl ?_⟩⟩;have s35:=s4.trans s5;refine⟨_,rfl,x,_,dx,_,_,rfl,s35 _ _ hx,(R.iC false).cl,R.n_other false,L6 _ _ _,_,rfl,_,rfl,_,rfl,_,rfl,_,rfl,Ay 4,λ c2 hc2=>?_⟩;refine nv hc2 λ H6 s6 e6=>?_;have s36:=s35.trans s6;exact⟨v2,y2,l1,c2,vs,p.oth false k,ww,hh,ps,rfl,o2.same s36,gy,n2,e6,s36 _ _ e3,at3.same s36,vl,i2,T0,w2,h2,by lia,λ H7 s7=>q H7 (s36.trans s7)⟩
def hsF(rs:List Rc)(r c:Int):List Rc:=rs.filter λ p=>DG p r c
def unB(rs:List Rc)(u:Bool)(r c:Int):Bool:=!decide (hsF rs r c=hsF rs (r-if u then 0 else 1) (c-if u then 1 else 0))
theorem Lz{f:Rc->Bool}{p:Rc}:∀{l:List Rc},l.Nodup->p∈l->(∀x∈l,f x=true↔x=p)->l.filter f=[p]
 |x::r,nd,h,g=>by
  obtain⟨n1,n2⟩:=bv.mp nd;rw[cx];by_cases e:x=p
  .subst e;rw[if_pos ((g x aD).mpr rfl),List.filter_eq_nil_iff.mpr λ y hy z=>n1 ((g y (aJ _ hy)).mp z ▸ hy)]
  .rw[if_neg λ z=>e ((g x aD).mp z)];exact Lz n2 ((aO.mp h).resolve_left λ z=>e z.symm) λ y hy=>g y (aJ _ hy)
theorem Inn.has{w h:Int}{ps:List Rc}{q:Rk}{us:List (Addr×Rc)}(i:Inn w h ps q us){r c:Int}(hh:q.has r c):hsF (rcs us) r c=[own ps r c]:=by
 obtain⟨p,hp,hz,ip⟩:=i.db.cov i.til hh;rw[Dj i.til.dis hp hz];exact Lz i.nd ((i.mem p).mpr ⟨hp,ip⟩) λ x hx=>⟨λ z=>Hy i.til.dis ((i.mem x).mp hx).1 hp (hasB_iff.mp z) hz,λ z=>by rw[z];exact hasB_iff.mpr hz⟩
theorem Inn.un{w h:Int}{ps:List Rc}{q:Rk}{us:List (Addr×Rc)}(i:Inn w h ps q us){r c r' c':Int}(h1:q.has r c)(h2:q.has r' c'):(!decide (hsF (rcs us) r c=hsF (rcs us) r' c'))=!decide (own ps r' c'=own ps r c):=by
 rw[i.has h1,i.has h2];congr 1;rw[bg,decide_eq_true_iff,decide_eq_true_iff];exact⟨λ z=>by injection z with z;exact z.symm,λ z=>by rw[z]⟩
theorem Inn.up{w h:Int}{ps:List Rc}{q:Rk}{us:List (Addr×Rc)}(i:Inn w h ps q us){r c:Int}(h1:q.t<=r)(h2:r<q.b)(h3:q.l<c)(h4:c<q.r):unB (rcs us) true r c=upB ps q r c:=by
 rw[Jn h1 h2 h3 h4];show(!decide (hsF _ r c=hsF _ (r-0) (c-1)))=_;rw[Int.sub_zero];exact i.un ⟨h1,h2,by lia,h4⟩ ⟨h1,h2,by lia,by lia⟩
theorem Inn.lv{w h:Int}{ps:List Rc}{q:Rk}{us:List (Addr×Rc)}(i:Inn w h ps q us){r c:Int}(h1:q.t<r)(h2:r<q.b)(h3:q.l<=c)(h4:c<q.r):unB (rcs us) false r c=lvB ps q r c:=by
 rw[Ka h1 h2 h3 h4];show(!decide (hsF _ r c=hsF _ (r-1) (c-0)))=_;rw[Int.sub_zero];exact i.un ⟨by lia,h2,h3,h4⟩ ⟨by lia,by lia,h3,h4⟩
inductive NW(vs:LUz)(H:Hp)(Q:VK)(E:XK):Prop
 |mk (l:Addr) (us:List (Addr×Rc)) (r c:Int) (u:Bool) (h0:vs=[.ref l,.int r,.int c,.int (sd u)]) (h1:H l=some (.lst (Ao us))) (h2:At H us) (h3:us.length<=52) (h4:∀H',Same H H'->Q (.bl (unB (rcs us) u r c)) H'):NW vs H Q E
def Mf:Sp:=λ vs H Q E=>NW vs H Q E
abbrev U7:LSz:=["_law_panes","_law_row","_law_column","_law_side","_law_one"]
theorem Nn{L:List (Addr×Rc)}{f:Rc->Bool}:rcs (L.filter λ t=>f t.2)=(rcs L).filter f:=by rw[cg];rfl
theorem KG:∀(A B:List Rc),EI (Et A) (Et B)=decide (A=B)
 |[],[]=>rfl
 |[],_::_=>rfl
 |_::_,[]=>rfl
 |a::A,b::B=>by
  show(deq (rcD a) (rcD b)&&EI (Et A) (Et B))=_;rw[Gg,KG A B,bg];simp
theorem HR{f:Addr}{fd:FuncData}(F:Fun K "_law_unlike" "_law_unlike" Dc f fd)(T:Txt mg tk):A5 P w K mg base CX0 1 f fd ["_law_panes","_law_row","_law_column","_law_side"] Mf:=by
 have S:An U7 ["_law_panes","_law_row","_law_column","_law_side"] (Ai Dc):=fsk;refine F.g S ?_;rintro vs H Q E ⟨l,us,r,c,u,rfl,hl,hat,few,q⟩;refine⟨rfl,λ cdv A outer s hr=>?_⟩;refine⟨_,(Ac (Ea rfl (Al (i:=4) S.nd rfl (av rfl)) (AC (pv 0)) (λ_ _ _ _ _=>pgk (nk ["_law_pane","_law_row","_law_column"])) (λ_ _ _ _ _=>(PW.pt (Cp (C7 B0 AR (Aj (Bn (K:=K)) (pv 0) Ad (λ_ _=>rfl)) (pv 1) (Aj (Bn (K:=K)) (pv 0) Ad (λ_ _=>rfl))) (DC (C7 B0 AR (Aj (Bn (K:=K)) (pv 0) Ad (λ_ _=>rfl)) (pv 2) (Aj (Bn (K:=K)) (pv 0) Ad (λ_ _=>rfl))))))) (λ_ _ _ _ _=>(pv 0)) (N:=["_law_pane","_law_row","_law_column"]) (fr:=[none,some 1,some 2]))
  (Ac (Ar (i:=1) S.nd rfl (cK rfl) (Aq AB (pv 1) (BH FH rfl T.z_int rfl (Aa (AH BU (pv 3) Ad (Av _)) Ab))))
  (Ac (Ar (i:=2) S.nd rfl (cK rfl) (Aq AB (pv 2) (BH FH rfl T.z_int rfl (Aa (AH BU (pv 3) Ad (Av _)) Ab))))
  (Ah (Ap (AH (JF hr) (pv 4) (Ch rfl (AC (pv 0)) (λ_ _ _ _ _=>pgk (nk ["_law_pane","_law_row","_law_column"])) (λ_ _ _ _ _=>(PW.pt (Cp (C7 B0 AR (Aj (Bn (K:=K)) (pv 0) Ad (λ_ _=>rfl)) (pv 1) (Aj (Bn (K:=K)) (pv 0) Ad (λ_ _=>rfl))) (DC (C7 B0 AR (Aj (Bn (K:=K)) (pv 0) Ad (λ_ _=>rfl)) (pv 2) (Aj (Bn (K:=K)) (pv 0) Ad (λ_ _=>rfl))))))) (λ_ _ _ _ _=>(pv 0)) (N:=["_law_pane","_law_row","_law_column"]) (fr:=[none,some 1,some 2])) (Av _))))))),?_⟩
 have rl:(Ao us).length=us.length:=aa _;refine⟨_,rfl,l,rfl,⟨_,SqL.of hl⟩,λ acc hacc=>BF (K:=K) (a:=l) (ys:=Ao us) (λ i xs σ H'=>(∃y,σ=[y,some (.int r),some (.int c)])/\Same H H'/\xs=Ao ((us.take i).filter λ t=>DG t.2 r c)) ⟨⟨none,rfl⟩,Same.new hacc,rfl⟩ (λ i xs σ H' _ _ hp=>SqL.of (hp.2.1 _ _ hl)) ?_ ?_⟩
 .rintro i x xs σ H' hx hi hl' hacc' ⟨⟨y,rfl⟩,s4,rfl⟩;obtain⟨t,ht,rfl⟩:=AU hx;have hta:=s4 _ _ (hat t (ao ht));have ef:=EY (λ t:Addr×Rc=>DG t.2 r c) ht;cases h3:DG t.2 r c with
  |true =>
   obtain⟨a1,a2,a3,a4⟩:=hasB_iff.mp h3;refine⟨_,rfl,t.1,_,_,_,rfl,rfl,SqT.of hta,at0,_,rfl,_,_,rfl,rfl,_,rfl,Bt (decide_eq_true a1) ⟨_,rfl,t.1,_,_,_,rfl,rfl,SqT.of hta,at2,_,_,rfl,rfl,_,rfl,Bt (decide_eq_true a2) ?_⟩⟩;refine⟨_,rfl,t.1,_,_,_,rfl,rfl,SqT.of hta,at1,_,rfl,_,_,rfl,rfl,_,rfl,Bt (decide_eq_true a3) ⟨_,rfl,t.1,_,_,_,rfl,rfl,SqT.of hta,at3,_,_,rfl,rfl,_,rfl,?_⟩⟩;rw[decide_eq_true a4];refine⟨_,rfl,fNx.mk (aF (Am (by lia))) hi hl' hacc' ⟨⟨_,rfl⟩,λ c o e=>?_,?_⟩⟩
   .rw[Ag (Ae e hacc)];exact s4 c o e
   .rw[ef,h3,if_pos rfl]
  |false =>
   have no:¬t.2.has r c:=λ z=>by rw[hasB_iff.mpr z]at h3;cases h3
   have sk:fSk acc (Ao us).length (λ i xs σ H'=>(∃y,σ=[y,some (.int r),some (.int c)])/\Same H H'/\xs=Ao ((us.take i).filter λ t=>DG t.2 r c)) i [some (.ref t.1),some (.int r),some (.int c)] H':=fSk.mk hi hl' hacc' ⟨⟨_,rfl⟩,s4,by rw[ef,h3,if_neg ae,aL]⟩;refine⟨_,rfl,t.1,_,_,_,rfl,rfl,SqT.of hta,at0,_,rfl,_,_,rfl,rfl,_,rfl,AF (λ a1=>⟨_,rfl,t.1,_,_,_,rfl,rfl,SqT.of hta,at2,_,_,rfl,rfl,_,rfl,AF (λ a2=>?_) (λ_=>sk)⟩) (λ_=>⟨_,rfl,sk⟩)⟩;refine⟨_,rfl,t.1,_,_,_,rfl,rfl,SqT.of hta,at1,_,rfl,_,_,rfl,rfl,_,rfl,AF (λ a3=>⟨_,rfl,t.1,_,_,_,rfl,rfl,SqT.of hta,at3,_,_,rfl,rfl,_,rfl,?_⟩) (λ_=>⟨_,rfl,sk⟩)⟩;rw[decide_eq_false (λ a4=>no ⟨of_decide_eq_true a1,of_decide_eq_true a2,of_decide_eq_true a3,a4⟩)];exact sk
 .rintro xs σ H1 hl' hacc' ⟨_,s1,rfl⟩;rw[rl,aN]at hacc';have hl1:=s1 _ _ hl;have hat1:=hat.same s1;have e0:(if decide (V.int (sd u)=V.int 0)=true then (1:Int) else 0)=if u then 0 else 1:=by
   cases u
   .rw[decide_eq_true (by rfl)];rfl
   .rw[decide_eq_false (by intro z;cases z)];rfl
  have e1:(if decide (V.int (sd u)=V.int 1)=true then (1:Int) else 0)=if u then 1 else 0:=by
   cases u
   .rw[decide_eq_false (by intro z;cases z)]
   .rw[decide_eq_true (by rfl)]
  refine⟨_,rfl,_,rfl,rfl,.inr ⟨_,rfl,_,_,rfl,rfl,?_⟩⟩;rw[e0];refine⟨_,rfl,_,rfl,rfl,.inr ⟨_,rfl,_,_,rfl,rfl,?_⟩⟩;rw[e1];have q:=λ H' s=>q H' (s1.trans s);unfold unB at q;generalize (r-if u then 0 else 1)=r' at q |-;generalize (c-if u then 1 else 0)=c' at q |-;refine⟨_,rfl,_,rfl,l,rfl,⟨_,SqL.of hl1⟩,λ acc2 hacc2=>BF (K:=K) (a:=l) (ys:=Ao us) (λ i xs σ H'=>(∃y,σ=[y,some (.int r'),some (.int c')])/\Same H1 H'/\xs=Ao ((us.take i).filter λ t=>DG t.2 r' c')) ⟨⟨none,rfl⟩,Same.new hacc2,rfl⟩ (λ i xs σ H' _ _ hp=>SqL.of (hp.2.1 _ _ hl1)) ?_ ?_⟩
  .rintro i x xs σ H' hx hi hl' hacc' ⟨⟨y,rfl⟩,s4,rfl⟩;obtain⟨t,ht,rfl⟩:=AU hx;have hta:=s4 _ _ (hat1 t (ao ht));have ef:=EY (λ t:Addr×Rc=>DG t.2 r' c') ht;cases h3:DG t.2 r' c' with
   |true =>
    obtain⟨a1,a2,a3,a4⟩:=hasB_iff.mp h3;refine⟨_,rfl,t.1,_,_,_,rfl,rfl,SqT.of hta,at0,_,rfl,_,_,rfl,rfl,_,rfl,Bt (decide_eq_true a1) ⟨_,rfl,t.1,_,_,_,rfl,rfl,SqT.of hta,at2,_,_,rfl,rfl,_,rfl,Bt (decide_eq_true a2) ?_⟩⟩;refine⟨_,rfl,t.1,_,_,_,rfl,rfl,SqT.of hta,at1,_,rfl,_,_,rfl,rfl,_,rfl,Bt (decide_eq_true a3) ⟨_,rfl,t.1,_,_,_,rfl,rfl,SqT.of hta,at3,_,_,rfl,rfl,_,rfl,?_⟩⟩;rw[decide_eq_true a4];refine⟨_,rfl,fNx.mk (aF (Am (by lia))) hi hl' hacc' ⟨⟨_,rfl⟩,λ c o e=>?_,?_⟩⟩
    .rw[Ag (Ae e hacc2)];exact s4 c o e
    .rw[ef,h3,if_pos rfl]
   |false =>
    have no:¬t.2.has r' c':=λ z=>by rw[hasB_iff.mpr z]at h3;cases h3
    have sk:fSk acc2 (Ao us).length (λ i xs σ H'=>(∃y,σ=[y,some (.int r'),some (.int c')])/\Same H1 H'/\xs=Ao ((us.take i).filter λ t=>DG t.2 r' c')) i [some (.ref t.1),some (.int r'),some (.int c')] H':=fSk.mk hi hl' hacc' ⟨⟨_,rfl⟩,s4,by rw[ef,h3,if_neg ae,aL]⟩;refine⟨_,rfl,t.1,_,_,_,rfl,rfl,SqT.of hta,at0,_,rfl,_,_,rfl,rfl,_,rfl,AF (λ a1=>⟨_,rfl,t.1,_,_,_,rfl,rfl,SqT.of hta,at2,_,_,rfl,rfl,_,rfl,AF (λ a2=>?_) (λ_=>sk)⟩) (λ_=>⟨_,rfl,sk⟩)⟩;refine⟨_,rfl,t.1,_,_,_,rfl,rfl,SqT.of hta,at1,_,rfl,_,_,rfl,rfl,_,rfl,AF (λ a3=>⟨_,rfl,t.1,_,_,_,rfl,rfl,SqT.of hta,at3,_,_,rfl,rfl,_,rfl,?_⟩) (λ_=>⟨_,rfl,sk⟩)⟩;rw[decide_eq_false (λ a4=>no ⟨of_decide_eq_true a1,of_decide_eq_true a2,of_decide_eq_true a3,a4⟩)];exact sk
  .rintro xs σ H2 _ ac2 ⟨_,s2,rfl⟩;rw[rl,aN]at ac2;have at2':=hat1.same s2;have D1:DIs K H2 (.lst (Et (rcs (us.filter λ t=>DG t.2 r c)))) (.ref acc):=Fh (SqL.of (s2 _ _ hacc')) λ t ht=>at2' t (aP.mp ht).1;have D2:DIs K H2 (.lst (Et (rcs (us.filter λ t=>DG t.2 r' c')))) (.ref acc2):=Fh (SqL.of ac2) λ t ht=>at2' t (aP.mp ht).1;refine⟨_,_,D1,D2,⟨_,rfl⟩,⟨_,rfl⟩,by have:=G6 (rcs (us.filter λ t=>DG t.2 r c));rw[dep];lia,?_⟩;rw[if_pos rfl,deq,KG,Nn (f:=λ p=>DG p r c),Nn (f:=λ p=>DG p r' c')];exact q H2 s2
inductive LP(vs:LUz)(H:Hp)(Q:VK)(E:XK):Prop
 |mk (l b:Addr) (us:List (Addr×Rc)) (ps:List Rc) (q:Rk) (w h r c:Int) (h0:vs=[.ref l,.ref b,.int r,.int c]) (h1:H l=some (.lst (Ao us))) (h2:At H us) (h3:us.length<=52) (h4:H b=some (.tup (AK q.t q.l q.b q.r))) (h5:Inn w h ps q us) (h6:∀H',Same H H'->Q (.bl (lvB ps q r c)) H'):LP vs H Q E
def Nb:Sp:=λ vs H Q E=>LP vs H Q E
theorem SK{ps:List Rc}{q:Rc}{r c:Int}(h:¬(q.t<r/\r<q.b/\q.l<=c/\c<q.r)):lvB ps q r c=false:=by
 cases e:lvB ps q r c with
 |false=>rfl
 |true=>exact absurd (BE e) h
theorem JM{f:Addr}{fd:FuncData}(F:Fun K "_law_level" "_law_level" D5 f fd)(D__law_unlike:A2 P w K mg base 1 "_law_unlike" ["_law_panes","_law_row","_law_column","_law_side"] Mf):A5 P w K mg base CX0 2 f fd ["_law_inner","_law_room","_law_row","_law_column"] Nb:=by
 have S:An ["_law_inner","_law_room","_law_row","_law_column","_law_within"] ["_law_inner","_law_room","_law_row","_law_column"] (Ai D5):=fsk;refine F.g S ?_;rintro vs H Q E ⟨l,b,us,ps,q,ww,hh,r,c,rfl,hl,hat,few,hb,inn,k⟩;refine⟨rfl,λ cdv A outer s hr=>?_⟩;refine⟨_,(Ac (Ar (i:=4) S.nd rfl (av rfl) (Bm (BP AR AR (Aj Ak (pv 1) Ad (λ_ _=>rfl)) (pv 2) (Aj Ak (pv 1) Ad (λ_ _=>rfl))) (Bg (BP B0 AR (Aj Ak (pv 1) Ad (λ_ _=>rfl)) (pv 3) (Aj Ak (pv 1) Ad (λ_ _=>rfl))))))
  (Ah (Ap (Bm (pv 4) (Bg (Aw D__law_unlike hr (Aa (pv 0) (Aa (pv 2) (Aa (pv 3) (Aa Ad Ab)))))))))),?_⟩
 have no:¬(q.t<r/\r<q.b/\q.l<=c/\c<q.r)->Q (.bl false) H:=λ z=>by rw[<-SK (ps:=ps) z];exact k H (Same.refl H)
 refine⟨_,rfl,b,_,_,_,rfl,rfl,SqT.of hb,at0,_,rfl,_,_,rfl,rfl,_,rfl,AF (λ a1=>⟨_,rfl,b,_,_,_,rfl,rfl,SqT.of hb,at2,_,_,rfl,rfl,_,rfl,AF (λ a2=>?_) (λ a2=>?_)⟩) (λ a1=>⟨_,rfl,AG rfl ?_⟩)⟩
 .refine⟨_,rfl,b,_,_,_,rfl,rfl,SqT.of hb,at1,_,rfl,_,_,rfl,rfl,_,rfl,AF (λ a3=>⟨_,rfl,b,_,_,_,rfl,rfl,SqT.of hb,at3,_,_,rfl,rfl,?_⟩) (λ a3=>?_)⟩
  .refine⟨_,rfl,_,rfl,AF (λ a4=>?_) (λ a4=>no λ z=>of_decide_eq_false a4 z.2.2.2)⟩;refine⟨_,rfl,_,rfl,_,rfl,l,us,r,c,false,rfl,hl,hat,few,λ H1 s1=>?_⟩;rw[inn.lv (of_decide_eq_true a1) (of_decide_eq_true a2) (of_decide_eq_true a3) (of_decide_eq_true a4)];exact k H1 s1
  .exact⟨_,rfl,_,rfl,AG rfl (no λ z=>of_decide_eq_false a3 z.2.2.1)⟩
 .exact⟨_,rfl,_,rfl,AG rfl (no λ z=>of_decide_eq_false a2 z.2.1)⟩
 .exact⟨_,rfl,_,rfl,AG rfl (no λ z=>of_decide_eq_false a1 z.1)⟩
theorem JL{f:Addr}{fd:FuncData}(F:Fun K "_law_meets" "_law_meets" Dz f fd):A5 P w K mg base CX0 1 f fd ["_law_lead_here","_law_other"] Ky:=by
 have S:An ["_law_lead_here","_law_other"] ["_law_lead_here","_law_other"] (Ai Dz):=fsk;refine F.g S ?_;rintro vs H Q E ⟨a,b,x,y,rfl,ha,hb,q⟩;refine⟨rfl,λ cdv A outer s hr=>?_⟩;have ha:H a=some (.tup [.str (cond x.1 "upright" "level"),.int x.2.1,.int x.2.2.1,.int x.2.2.2]):=ha;have hb:H b=some (.tup [.str (cond y.1 "upright" "level"),.int y.2.1,.int y.2.2.1,.int y.2.2.2]):=hb;refine⟨_,(Ah (Ap (Bm (AH Fc (Aj Ak (pv 0) Ad (λ_ _=>rfl)) (Aj Ak (pv 1) Ad (λ_ _=>rfl)) (Av _)) (Bm (AH F3 (Aj Ak (pv 1) Ad (λ_ _=>rfl)) (BN Pt (pv 0) (Ce Ad) CI) rfl) (Bg (BP AR AR (Aj Ak (pv 1) Ad (λ_ _=>rfl)) (Aj Ak (pv 0) Ad (λ_ _=>rfl)) (Aj Ak (pv 1) Ad (λ_ _=>rfl)))))))),?_⟩;refine⟨_,rfl,a,_,_,_,rfl,rfl,SqT.of ha,at0,_,rfl,b,_,_,_,rfl,rfl,SqT.of hb,at0,rfl,_,rfl,AF (λ h=>?_) (λ h=>?_)⟩
 .rw[Kl]at h;have h0:(x.1 != y.1)=true:=h;refine⟨_,rfl,b,_,_,_,rfl,rfl,SqT.of hb,at1,_,rfl,_,rfl,a,_,rfl,SqT.of ha,(λ z=>nomatch (show(2:Nat)=0 from z.1)),λ t ht=>?_⟩;have s1:Same H (upd H t (.tup [.int x.2.2.1,.int x.2.2.2])):=Same.new ht;have key:=q _ s1;unfold onB at key;refine⟨t,[.int x.2.2.1,.int x.2.2.2],rfl,.inr (SqT.of Af),rfl,rfl,_,rfl,AF (λ h1=>?_) (λ h1=>?_)⟩
  .rw[if_neg ae,in2]at h1;refine⟨_,rfl,b,_,_,_,rfl,rfl,SqT.of (s1 _ _ hb),at2,_,rfl,a,_,_,_,rfl,rfl,SqT.of (s1 _ _ ha),at1,_,_,rfl,rfl,_,rfl,AF (λ h2=>?_) (λ h2=>?_)⟩
   .refine⟨_,rfl,b,_,_,_,rfl,rfl,SqT.of (s1 _ _ hb),at3,_,_,rfl,rfl,?_⟩;rw[h0,h1,h2]at key;exact key
   .show Q (.bl false) _;rw[h0,h1,h2]at key;exact key
  .rw[if_neg ae,in2]at h1;show Q (.bl false) _;rw[h0,h1]at key;exact key
 .rw[Kl]at h;have e:onB x y=false:=by unfold onB;rw[show(x.1 != y.1)=false from h];rfl
  show Q (.bl false) H;rw[<-e];exact q H (Same.refl H)
def IN(m:Nat):List Bool:=false::(List.replicate m true++[false])
theorem RM{f:Int->Bool}{s e:Int}(R:Cc f (λ_=>false) s e){i:Nat}(hi:i<(e+1-(s-1)).toNat):(IN (e-s).toNat)[i]?=some (f (s-1+i)):=by
 have lt:=R.lt;cases i with
 |zero =>
  have:=R.st.resolve_right ae;rw[show s-1+((0:Nat):Int)=s-1 by lia,this];rfl
 |succ j =>
  show(List.replicate (e-s).toNat true++[false])[j]?=_;by_cases h:j<(e-s).toNat
  .rw[cM (by rw[bG];exact h),ez,if_pos h,R.on _ (by lia) (by lia)]
  .have hj:j=(e-s).toNat:=by lia
   have:=R.en.resolve_right ae;rw[bD (by rw[bG];lia),bG,hj,c9,show s-1+(((e-s).toNat+1:Nat):Int)=e by lia,this];rfl
theorem Q3(m:Nat):(IN m).length=m+2:=by
 show(List.replicate m true++[false]).length+1=_;rw[af,bG];rfl
theorem RL(m:Nat):([V.bl false]++(List.replicate m [V.bl true]).flatten)++[V.bl false]=(IN m).map V.bl:=by
 rw[dI];unfold IN;simp
def bsD:List Bool->Ds
 |[]=>.nil
 |b::r=>.cons (.at (.bl b)) (bsD r)
theorem Qy{K:Frag}{H:Hp}:∀bs:List Bool,DIss K H (bsD bs) (bs.map V.bl)
 |[]=>by rw[bsD,DIss];rfl
 |b::r=>by
  rw[bsD,DIss];exact⟨_,_,rfl,by rw[DIs];exact⟨rfl,rfl⟩,Qy r⟩
theorem NO:∀bs:List Bool,Cu (bsD bs)=0
 |[]=>rfl
 |b::r=>by
  show max (dep (.at (.bl b))) (Cu (bsD r))=0;rw[NO r];rfl
theorem bsL{K:Frag}{H:Hp}{l:Addr}{bs:List Bool}(h:H l=some (.lst (bs.map V.bl))):DIs K H (.lst (bsD bs)) (.ref l):=by
 rw[DIs];exact⟨l,_,rfl,SqL.of h,Qy bs⟩
theorem OB{bs:List Bool}(h:2<=bs.length):Fl (bs.map V.bl) (some 1) (some (-1))=((bs.drop 1).take (bs.length-2)).map V.bl:=by
 have e1:HT.sIx bs.length 0 (some 1)=1:=by unfold HT.sIx;simp only[];rw[if_neg (by decide)];show min 1 _=1;lia
 have e2:HT.sIx bs.length bs.length (some (-1))=bs.length-1:=by unfold HT.sIx;simp only[];rw[if_pos (by decide)];lia
 unfold Fl;rw[aa,e1,e2,d0,d7,Nat.sub_sub]
def psL(ps:List Rc)(q:Rc)(s n:Int):Nat->List Bool
 |0=>[]
 |i+1=>psL ps q s n i++[psB ps q (s+i) n]
theorem CH{ps:List Rc}{q:Rc}{s n:Int}:∀i,(psL ps q s n i).length=i
 |0=>rfl
 |i+1=>by rw[psL,af,CH i];rfl
theorem JA{ps:List Rc}{q:Rc}{s n:Int}:∀{m i:Nat},i<m->(psL ps q s n m)[i]?=some (psB ps q (s+i) n)
 |m+1,i,h=>by
  rw[psL];by_cases e:i<m
  .rw[cM (by rw[CH];exact e),JA e]
  .obtain rfl:i=m:=by lia
   rw[bD (by rw[CH];exact ah _),CH,c9];rfl
theorem Rf{ps:List Rc}{q:Rc}{s n:Int}{m:Nat}(h:∀x,s<x->x<s+m+1->psB ps q x n=false):(((psL ps q s n (m+2)).drop 1).take m).any id=false:=by
 rw[List.any_eq_false];intro b hb;obtain⟨i,hi,e⟩:=b9 hb;rw[aY]at hi;have hi:i<m:=by lia
 have e:=aH.mpr ⟨_,e⟩;rw[d8 hi,List.getElem?_drop,JA (by lia)]at e;rw[<-Option.some.inj e,h _ (by lia) (by lia)];exact ae
inductive LR(vs:LUz)(H:Hp)(Q:VK)(E:XK):Prop
 |mk (a l b:Addr) (d:LD) (us:List (Addr×Rc)) (ps:List Rc) (q:Rk) (w h:Int) (h0:vs=[.ref a,.ref l,.ref b]) (h1:H a=some (.tup ((Rv d).map kV))) (h2:H l=some (.lst (Ao us))) (h3:At H us) (h4:us.length<=52) (h5:H b=some (.tup (AK q.t q.l q.b q.r))) (h6:Inn w h ps q us) (h7:w<=12) (h8:h<=12) (h9:AQ ps q d) (h10:∀H',Same H H'->Q (.bl true) H'):LR vs H Q E
def Nc:Sp:=λ vs H Q E=>LR vs H Q E
abbrev MN:LSz:=["_law_lead_here","_law_inner","_law_room","_law_word","_law_line","_law_low","_law_high","_law_bits","_law_passing","_law_row","_law_near","_law_above","_law_below"]
theorem KS{f:Addr}{fd:FuncData}(F:Fun K "_law_lead" "_law_lead" By f fd)(T:Txt mg tk)(D__law_unlike:A2 P w K mg base 1 "_law_unlike" ["_law_panes","_law_row","_law_column","_law_side"] Mf)(D__law_level:A2 P w K mg base 2 "_law_level" ["_law_inner","_law_room","_law_row","_law_column"] Nb):A5 P w K mg base CX0 3 f fd ["_law_lead_here","_law_inner","_law_room"] Nc:=by
 have S:An MN ["_law_lead_here","_law_inner","_law_room"] (Ai By):=fsk;refine F.g S ?_;rintro vs H Q E ⟨a,l,b,d,us,ps,q,ww,hh,rfl,ha,hl,hat,few,hb,inn,w2,h2,il,k⟩;refine⟨rfl,λ cdv A outer s hr=>?_⟩;obtain⟨⟨q1,q2,q3,q4,q5,q6⟩,_⟩:=inn.db;obtain⟨v,n,st,en⟩:=d;have ha:H a=some (.tup [.str (cond v "upright" "level"),.int n,.int st,.int en]):=ha;obtain⟨t9,h9,fin9⟩:∃rd,PSs (BA CX0 P w K mg base MN "_law_lead" (Ai By) f cdv A outer s H E).nox ((A8 By).drop 9) rd /\
   ∀(D:Cd)(lf:Addr)(bs:List Bool)(x3 x4 x5 x6 x7 x9 x10:Option V)(g1 g2 a1 a2:Bool)(H':Hp),D.rt=Q->Same H H'->H' lf=some (.lst (bs.map V.bl))->atI bs 0=some g1->atI bs (-1)=some g2->(a1=false\/g1=true)->(a2=false\/g2=true) ->
    rd D [some (.ref a),some (.ref l),some (.ref b),x3,x4,x5,x6,x7,some (.ref lf),x9,x10,some (.bl a1),some (.bl a2)] H':=by
  refine⟨_,(Ah (Ap (Bm (I9 (Aj AX (pv 8) Ad (λ_ _=>rfl)) (Bg (JC (pv 11)))) (Bg (I9 (Aj AX (pv 8) (I8 Fu Ad) (λ_ _=>rfl)) (Bg (JC (pv 12)))))))),?_⟩;intro D lf bs x3 x4 x5 x6 x7 x9 x10 g1 g2 a1 a2 H' hD s1 e1 i1 i2 c1 c2;have ix:∀{i:Int}{g:Bool},atI bs i=some g->atI (bs.map V.bl) i=some (.bl g):=λ{i g} e=>by
   unfold atI at e |-;rw[aa];obtain⟨j,ej,e⟩:=Option.bind_eq_some_iff.mp e;rw[ej];show(bs.map V.bl)[j]?=_;rw[aB,e];rfl
  have kk:D.rt (.bl true) H':=by rw[hD];exact k H' s1
  refine⟨_,rfl,lf,_,_,_,rfl,rfl,SqL.of e1,ix i1,_,rfl,AF (λ z=>⟨_,rfl,Bt rfl ?_⟩) (λ z=>⟨_,rfl,_,rfl,_,rfl,Bt (by rw[c1.resolve_right (by rw[z];exact ae)];rfl) ?_⟩)⟩
  all_goals
   refine⟨_,rfl,_,rfl,lf,_,_,_,rfl,rfl,SqL.of e1,ix i2,_,rfl,AF (λ z=>kk) (λ z=>⟨_,rfl,_,rfl,?_⟩)⟩;rw[c2.resolve_right (by rw[z];exact ae)];exact kk
 obtain⟨t8,h8,fin8⟩:∃rd,PSs (BA CX0 P w K mg base MN "_law_lead" (Ai By) f cdv A outer s H E).nox ((A8 By).drop 8) rd /\
   ∀(D:Cd)(lf:Addr)(bs:List Bool)(x3 x7 x9 x10 x12:Option V)(g1 g2 a1:Bool)(H':Hp),D.rt=Q->Same H H'->H' lf=some (.lst (bs.map V.bl))->atI bs 0=some g1->atI bs (-1)=some g2->(a1=false\/g1=true)->(upB ps q en n=false\/g2=true)->q.t<=en->en<=q.b->q.l<n->n<q.r ->
    rd D [some (.ref a),some (.ref l),some (.ref b),x3,some (.int n),some (.int st),some (.int en),x7,some (.ref lf),x9,x10,some (.bl a1),x12] H':=by
  refine⟨_,(Ac (Ar (i:=12) S.nd rfl (av rfl) (Bm (AH AR (pv 6) (Aj Ak (pv 2) Ad (λ_ _=>rfl)) (Av _)) (Bg (Aw D__law_unlike hr (Aa (pv 1) (Aa (pv 6) (Aa (pv 4) (Aa Ad Ab))))))))
  h9),?_⟩
  intro D lf bs x3 x7 x9 x10 x12 g1 g2 a1 H' hD s1 e1 i1 i2 c1 c2 b1 b2 b3 b4;refine⟨_,rfl,_,rfl,b,_,_,_,rfl,rfl,SqT.of (s1 _ _ hb),at2,_,_,rfl,rfl,_,rfl,AF (λ z=>?_) (λ z=>fin9 D lf bs _ _ _ _ _ _ _ g1 g2 a1 false H' hD s1 e1 i1 i2 c1 (.inl rfl))⟩;refine⟨_,rfl,_,rfl,_,rfl,l,us,en,n,true,rfl,s1 _ _ hl,hat.same s1,few,λ H2 s2=>?_⟩;rw[inn.up b1 (of_decide_eq_true z) b3 b4];exact fin9 D lf bs _ _ _ _ _ _ _ g1 g2 a1 _ H2 hD (s1.trans s2) (s2 _ _ e1) i1 i2 c1 c2
 refine⟨_,(Ac (Di (pv 0) (Bz rfl (Au (Al (i:=3) S.nd rfl (av rfl)) (Au (Al (i:=4) S.nd rfl (cK rfl)) (Au (Al (i:=5) S.nd rfl (av rfl)) (Au (Al (i:=6) S.nd rfl (av rfl)) AZ))))))
  (Ac (A7 (Ax BU (pv 3) G9 (Av _)) (Ac (C8 rfl (Al (i:=7) S.nd rfl (av rfl)) (AT rfl T.z_range (Aa (Aq AB (pv 5) Ad) (Aa (Aq A4 (pv 6) Ad) Ab))) (λ_ _ _ _ _=>pgk (nk ["_law_column","_law_inner","_law_room","_law_line"])) (λ_ _ _ _ _=>(Aw D__law_level hr (Aa (pv 1) (Aa (pv 2) (Aa (pv 3) (Aa (pv 0) Ab)))))) (N:=["_law_column","_law_inner","_law_room","_law_line"]) (fr:=[none,some 1,some 2,some 4]))
  (Ah (Ap (Bm (AH AR (pv 5) (pv 6) (Av _)) (Bg (AH (JG hr) (pv 7) (Aq Cq (Aq Cq (AJ (Aa Bq Ab)) (Aq SC (AJ (Aa Bq Ab)) (Aq AB (pv 6) (pv 5)))) (AJ (Aa Bq Ab))) (Av _))))))) Az)
  (Ac (A7 (PW.pt (BL (Ax Fc (pv 3) G9 (Av _)) (BL (AW (C7 AR AR (Aj Ak (pv 2) Ad (λ_ _=>rfl)) (pv 4) (Aj Ak (pv 2) Ad (λ_ _=>rfl)))) (BC (AW (Ov B0 AR B0 (Aj Ak (pv 2) Ad (λ_ _=>rfl)) (pv 5) (pv 6) (Aj Ak (pv 2) Ad (λ_ _=>rfl)))))))) (Ah (Ap Bq)) Az)
  (Ac (A7 (AW (AI (A0 Dt rfl T.z_all rfl (Aa (BO rfl (AT rfl T.z_range (Aa (pv 5) (Aa (pv 6) Ab))) (λ_ _ _ _ _=>pgk (nk ["_law_row","_law_inner","_law_line"])) (λ_ _ _ _ _=>(Aw D__law_unlike hr (Aa (pv 1) (Aa (pv 0) (Aa (pv 2) (Aa Ad Ab)))))) (N:=["_law_row","_law_inner","_law_line"]) (fr:=[none,some 1,some 4])) Ab)))) (Ah (Ap Bq)) Az)
  (Ac (Ar (i:=8) S.nd rfl (av rfl) (AJ Ab))
  (Ac (AN PassesOwn.never rfl (AT rfl T.z_range (Aa (pv 5) (Aa (Aq A4 (pv 6) Ad) Ab))) (Al (i:=9) S.nd rfl (av rfl)) (Ac (Ar (i:=10) S.nd rfl (av rfl) (Aw D__law_level hr (Aa (pv 1) (Aa (pv 2) (Aa (pv 9) (Aa (Aq AB (pv 4) Ad) Ab))))))
  (Ah (AS (BD (pv 8) (Aa (Bm (pv 10) (Bg (Aw D__law_level hr (Aa (pv 1) (Aa (pv 2) (Aa (pv 9) (Aa (pv 4) Ab))))))) Ab))))))
  (Ac (A7 (AI (A0 Hu rfl T.z_any rfl (Aa (BN Du (pv 8) (Ce Ad) (Ce (I8 Fu Ad))) Ab))) (Ah (Ap Bq)) Az)
  (Ac (Ar (i:=11) S.nd rfl (av rfl) (Bm (AH AR (Aj Ak (pv 2) Ad (λ_ _=>rfl)) (pv 5) (Av _)) (Bg (Aw D__law_unlike hr (Aa (pv 1) (Aa (Aq AB (pv 5) Ad) (Aa (pv 4) (Aa Ad Ab))))))))
  h8)))))))),?_⟩
 refine⟨_,rfl,a,_,rfl,SqT.of ha,rfl,_,_,rfl,_,_,rfl,_,_,rfl,_,_,rfl,rfl,?_⟩;cases v with
 |false =>
  have il:Cc (λ c=>lvB ps q n c) (λ_=>false) st en:=il;have lt:=il.lt;have z1:=BE (il.on st (aE _) lt);have z2:=BE (il.on (en-1) (by lia) (by lia));refine⟨_,rfl,rfl,_,rfl,Bt (decide_eq_true rfl) ?_⟩;refine⟨_,rfl,_,_,rfl,rfl,_,rfl,_,_,rfl,rfl,st-1,en+1,rfl,⟨by lia,by lia,by lia,by lia⟩,λ acc hacc=>Cb (lo:=st-1) (n:=(en+1-(st-1)).toNat) (λ i zs σ H'=>(∃y,σ=[y,some (.ref l),some (.ref b),some (.int n)])/\Same H H'/\zs=((IN (en-st).toNat).take i).map V.bl) ⟨⟨none,rfl⟩,Same.new hacc,rfl⟩ ?_ ?_⟩
  .rintro i zs σ H' hi hl' hacc' ⟨⟨y,rfl⟩,s4,rfl⟩;refine⟨_,rfl,_,rfl,_,rfl,_,rfl,l,b,us,ps,q,ww,hh,n,st-1+i,rfl,s4 _ _ hl,hat.same s4,few,s4 _ _ hb,inn,λ H2 s2=>cNx.mk (aF (Am (by lia))) hi hl' (s2 _ _ hacc') ⟨⟨_,rfl⟩,λ c o e=>?_,?_⟩⟩
   .rw[Ag (Ae e hacc)];exact(s4.trans s2) c o e
   .rw[aV,RM il hi,aj];rfl
  .rintro zs σ H1 _ ac1 ⟨_,s1,rfl⟩;rw[eD (by rw[Q3];lia)]at ac1;refine⟨_,rfl,_,rfl,_,_,rfl,rfl,_,rfl,Bt (decide_eq_true lt) ?_⟩;refine⟨_,rfl,Ay 1,λ l1 n1=>?_⟩;refine nv n1 λ H2 s2 e2=>?_;refine⟨Ay 1,λ l2 n2=>?_⟩;refine nv n2 λ H3 s3 e3=>?_;refine⟨_,rfl,_,rfl,_,_,rfl,rfl,l2,en-st,_,rfl,rfl,e3,by lia,by lia,aF (Am (by show 1*_<=_;lia)),λ l3 n3=>?_⟩;refine nv n3 λ H4 s4 e4=>?_;have rl:(List.replicate (en-st).toNat [V.bl true]).flatten.length=(en-st).toNat:=by rw[dI,bG]
   refine⟨l1,l3,_,_,rfl,rfl,(s3.trans s4) _ _ e2,e4,aF (Am (by rw[rl];show 1+_<=_;lia)),λ l4 n4=>?_⟩;refine nv n4 λ H5 s5 e5=>?_;refine⟨Ay 1,λ l5 n5=>?_⟩;refine nv n5 λ H6 s6 e6=>?_;refine⟨l4,l5,_,_,rfl,rfl,s6 _ _ e5,e6,aF (Am (by rw[af,rl];show 1+_+1<=_;lia)),λ l6 n6=>?_⟩;rw[RL];refine nv n6 λ H7 s7 e7=>?_;have s17:=s2.trans (s3.trans (s4.trans (s5.trans (s6.trans s7))));have D1:DIs K H7 (.lst (bsD (IN (en-st).toNat))) (.ref acc):=bsL (s17 _ _ ac1);refine⟨_,_,D1,bsL e7,⟨_,rfl⟩,⟨_,rfl⟩,by rw[dep,NO];decide,?_⟩;rw[if_neg ae,BR _ D1];exact k H7 (s1.trans s17)
 |true =>
  have il:Cc (λ r=>upB ps q r n) (λ r=>psB ps q r n) st en:=il;have lt:=il.lt;have z1:=Cj (il.on st (aE _) lt);have z2:=Cj (il.on (en-1) (by lia) (by lia));refine⟨_,rfl,rfl,_,rfl,AG (by decide +kernel) ?_⟩;refine⟨_,rfl,rfl,_,rfl,AG (by decide +kernel) ?_⟩;refine⟨_,rfl,b,_,_,_,rfl,rfl,SqT.of hb,at1,_,rfl,_,_,rfl,rfl,_,rfl,Bt (decide_eq_true z1.2.2.1) ⟨_,rfl,b,_,_,_,rfl,rfl,SqT.of hb,at3,_,_,rfl,rfl,_,rfl,AG (by rw[decide_eq_true z1.2.2.2];rfl) ?_⟩⟩;refine⟨_,rfl,b,_,_,_,rfl,rfl,SqT.of hb,at0,_,rfl,_,_,rfl,rfl,_,rfl,Bt (decide_eq_true z1.1) ⟨_,rfl,_,_,rfl,rfl,_,rfl,Bt (decide_eq_true lt) ⟨_,rfl,b,_,_,_,rfl,rfl,SqT.of hb,at2,_,_,rfl,rfl,_,rfl,AG (by rw[decide_eq_true (show en<=q.b by lia)];rfl) ?_⟩⟩⟩;refine⟨_,rfl,_,rfl,st,en,rfl,⟨by lia,by lia,by lia,by lia⟩,λ acc hacc=>Cb (lo:=st) (n:=(en-st).toNat) (λ i zs σ H'=>(∃y,σ=[y,some (.ref l),some (.int n)])/\Same H H'/\zs=(List.replicate i true).map V.bl) ⟨⟨none,rfl⟩,Same.new hacc,rfl⟩ ?_ ?_⟩
  .rintro i zs σ H' hi hl' hacc' ⟨⟨y,rfl⟩,s4,rfl⟩;refine⟨_,rfl,_,rfl,_,rfl,l,us,st+i,n,true,rfl,s4 _ _ hl,hat.same s4,few,λ H2 s2=>cNx.mk (aF (Am (by lia))) hi hl' (s2 _ _ hacc') ⟨⟨_,rfl⟩,λ c o e=>?_,?_⟩⟩
   .rw[Ag (Ae e hacc)];exact(s4.trans s2) c o e
   .rw[inn.up (by lia) (by lia) z1.2.2.1 z1.2.2.2,il.on (st+i) (by lia) (by lia),eU,aj];rfl
  .rintro zs σ H1 _ ac1 ⟨_,s1,rfl⟩;refine⟨acc,_,rfl,SqL.of ac1,rfl,_,rfl,AG (by rw[show(List.replicate (en-st).toNat true).all id=true by rw[bC];intro x hx;exact(List.mem_replicate.mp hx).2];rfl) ?_⟩;refine⟨Ay 0,λ lf hlf=>?_⟩;have hlf0:H lf=none:=none_of s1 hlf;refine nv hlf λ H2 s2 e2=>?_;refine⟨_,rfl,_,rfl,_,_,rfl,rfl,st,en+1,rfl,⟨by lia,by lia,by lia,by lia⟩,Ba (lo:=st) (n:=(en+1-st).toNat) (λ i σ H'=>∃x9 x10:Option V,σ=[some (.ref a),some (.ref l),some (.ref b),some (.str (cond true "upright" "level")),some (.int n),some (.int st),some (.int en),none,some (.ref lf),x9,x10,none,none]/\Same H H'/\H' lf=some (.lst ((psL ps q st n i).map V.bl)))
    ⟨_,_,rfl,s1.trans s2,e2⟩ ?_ ?_⟩
   .rintro i σ H3 hi ⟨x9,x10,rfl,s3,e3⟩;have hi:i<(en+1-st).toNat:=hi;refine⟨_,rfl,_,rfl,_,rfl,_,rfl,_,_,rfl,rfl,l,b,us,ps,q,ww,hh,st+i,n-1,rfl,s3 _ _ hl,hat.same s3,few,s3 _ _ hb,inn,λ H4 s4=>?_⟩;have s34:=s3.trans s4;have e4:=s4 _ _ e3;refine⟨_,rfl,.inl ⟨rfl,_,SqL.of e4⟩,_,rfl,_,rfl,AF (λ z=>?_) (λ z=>?_)⟩
    .refine⟨_,rfl,_,rfl,_,rfl,_,rfl,l,b,us,ps,q,ww,hh,st+i,n,rfl,s34 _ _ hl,hat.same s34,few,s34 _ _ hb,inn,λ H5 s5=>?_⟩;have ep:psB ps q (st+i) n=lvB ps q (st+i) n:=by unfold psB;rw[z];rfl
     refine⟨lf,_,_,rfl,rfl,s5 _ _ e4,Am (by rw[aa,CH];lia),_,_,rfl,λ c o e=>?_,?_⟩
     .rw[Ag (Ae e hlf0)];exact(s34.trans s5) c o e
     .rw[Af,psL,aj,ep];rfl
    .have ep:psB ps q (st+i) n=false:=by unfold psB;rw[z];rfl
     refine⟨lf,_,_,rfl,rfl,e4,Am (by rw[aa,CH];lia),_,_,rfl,λ c o e=>?_,?_⟩
     .rw[Ag (Ae e hlf0)];exact s34 c o e
     .rw[Af,psL,aj,ep];rfl
   .rintro σ H3 ⟨x9,x10,rfl,s3,e3⟩;obtain⟨m,hm⟩:∃m:Nat,(en+1-st).toNat=m+2/\en=st+m+1:=⟨(en-st-1).toNat,by lia,by lia⟩;rw[hm.1]at e3;refine⟨_,rfl,_,rfl,_,rfl,_,rfl,lf,_,rfl,SqL.of e3,λ l2 n2=>?_⟩;rw[OB (by rw[CH];lia),CH,dG];refine nv n2 λ H4 s4 e4=>?_;refine⟨l2,_,rfl,SqL.of e4,rfl,_,rfl,AG (Rf λ x h1 h2=>il.no x h1 (by lia)) ?_⟩;have e5:=s4 _ _ e3;have s5:=s3.trans s4;have i1:atI (psL ps q st n (m+2)) 0=some (psB ps q st n):=by
     have:=CO (JA (ps:=ps) (q:=q) (s:=st) (n:=n) (m:=m+2) (i:=0) (by lia));rwa [show st+((0:Nat):Int)=st by lia]at this
    have i2:atI (psL ps q st n (m+2)) (-1)=some (psB ps q en n):=by
     rw[psL,show st+((m+1:Nat):Int)=en by lia];exact Hw _ _
    refine⟨_,rfl,b,_,_,_,rfl,rfl,SqT.of (s5 _ _ hb),at0,_,rfl,_,_,rfl,rfl,_,rfl,AF (λ z=>?_) (λ z=>fin8 _ lf _ _ _ _ _ _ _ _ false H4 rfl s5 e5 i1 i2 (.inl rfl) il.en (by lia) (by lia) z1.2.2.1 z1.2.2.2)⟩;refine⟨_,rfl,_,rfl,_,_,rfl,rfl,_,rfl,l,us,st-1,n,true,rfl,s5 _ _ hl,hat.same s5,few,λ H6 s6=>?_⟩;have z:=of_decide_eq_true z;rw[inn.up (by lia) (by lia) z1.2.2.1 z1.2.2.2];exact fin8 _ lf _ _ _ _ _ _ _ _ _ H6 rfl (s5.trans s6) (s6 _ _ e5) i1 i2 il.st il.en (by lia) (by lia) z1.2.2.1 z1.2.2.2
theorem JX{rs:List Rk}{u:Bool}{lo:Int}{x:Bool×Int×Rk}:∀{n:Nat},x∈bkN rs u lo n->∃i:Nat,i<n/\x=bk1 rs u (lo+1+i)
 |n+1,h=>by
  rw[bkN]at h;rcases ai.mp h with h|h
  .obtain⟨i,a,b⟩:=JX h;exact⟨i,by lia,b⟩
  .exact⟨n,by lia,ad.mp h⟩
theorem Tf{w h:Int}{ps:List Rc}{q:Rk}(m:Rm w h ps q){x:Bool×Int×Rk}(hx:x∈bkP (ps.filter λ r=>AA r q) q 2):x.2.2∈ps/\Ins x.2.2 q/\Bi x.1 x.2.1 x.2.2=true:=by
 have key:∀(u:Bool)(i:Nat),i<(q.hi u-(q.lo u+1)).toNat->x=bk1 (ps.filter λ r=>AA r q) u (q.lo u+1+i)->x.2.2∈ps/\Ins x.2.2 q/\Bi x.1 x.2.1 x.2.2=true:=λ u i hi e=>by
  obtain⟨r,hr,ir,b1,b2⟩:=m.brk (u:=u) (a:=q.lo u+1+i) (by lia) (by lia);have mem:r∈(ps.filter λ r=>AA r q).filter (Bi u (q.lo u+1+i)):=aP.mpr ⟨aP.mpr ⟨hr,insR_iff.mpr ir⟩,brkR_iff.mpr ⟨b1,b2⟩⟩;unfold bk1 at e;cases hf:(ps.filter λ r=>AA r q).filter (Bi u (q.lo u+1+i)) with
  |nil=>rw[hf]at mem;cases mem
  |cons y l =>
   have hy:y∈(ps.filter λ r=>AA r q).filter (Bi u (q.lo u+1+i)):=by rw[hf];exact aD
   rw[hf]at e;obtain⟨y1,y2⟩:=aP.mp hy;obtain⟨y3,y4⟩:=aP.mp y1;subst e;exact⟨y3,insR_iff.mp y4,y2⟩
 rcases ai.mp hx with hx|hx
 .obtain⟨i,a,b⟩:=JX hx;exact key true i a b
 .obtain⟨i,a,b⟩:=JX hx;exact key false i a b
theorem RK(rs:List Rk)(p:Rk):bkP rs p 2=bkN rs true (p.lo true) (p.hi true-(p.lo true+1)).toNat++bkN rs false (p.lo false) (p.hi false-(p.lo false+1)).toNat:=rfl
def lnP(u:Bool)(lo:Int):Nat->List (Bool×Int)
 |0=>[]
 |n+1=>lnP u lo n++[(u,lo+1+n)]
theorem CN{rs:List Rk}{u:Bool}{lo:Int}:∀n,(bkN rs u lo n).map (λ x=>(x.1,x.2.1))=lnP u lo n
 |0=>rfl
 |n+1=>by rw[bkN,lnP,aj,CN n];rfl
theorem Fg{u:Bool}{lo:Int}:∀n,(lnP u lo n).length=n
 |0=>rfl
 |n+1=>by rw[lnP,af,Fg n];rfl
abbrev PR2:Type:=Addr×Bool×Int
def PrO(H:Hp)(ts:List PR2):Prop:=∀t∈ts,H t.1=some (.tup [.str (wd t.2.1),.int t.2.2])
theorem PrO.same{H H':Hp}{ts:List PR2}(h:PrO H ts)(s:Same H H'):PrO H' ts:=λ t ht=>s _ _ (h t ht)
theorem PrO.add{H:Hp}{acc t:Addr}{x:Bool×Int}{ts:List PR2}{o o':LUz}(h:PrO H ts)(ht:H t=some (.tup [.str (wd x.1),.int x.2]))(ac:H acc=some (.lst o)):PrO (upd H acc (.lst o')) (ts++[(t,x)]):=λ y hy=>by
 have up:∀{b:Addr}{vs:LUz},H b=some (.tup vs)->(upd H acc (.lst o')) b=some (.tup vs):=λ h=>by rw[Ag (AL h ac (by intro z;cases z))];exact h
 rcases ai.mp hy with hy|hy
 .exact up (h y hy)
 .rw[ad.mp hy];exact up ht
def prD:List (Bool×Int)->Ds
 |[]=>.nil
 |x::r=>.cons (.tup (.cons (.at (.str (wd x.1))) (.cons (.at (.int x.2)) .nil))) (prD r)
theorem P3{K:Frag}{H:Hp}:∀{ts:List PR2},PrO H ts->DIss K H (prD (ts.map (·.2))) (Ao ts)
 |[],_=>by rw[bV,prD,DIss];rfl
 |t::r,h=>by
  rw[aS,prD,DIss];refine⟨_,_,rfl,?_,P3 λ x hx=>h x (aJ _ hx)⟩;rw[DIs];refine⟨t.1,_,rfl,SqT.of (h t aD),?_⟩;rw[DIss];refine⟨_,_,rfl,by rw[DIs];exact⟨rfl,rfl⟩,?_⟩;rw[DIss];refine⟨_,_,rfl,by rw[DIs];exact⟨rfl,rfl⟩,?_⟩;rw[DIss]
theorem Nr:∀xs,Cu (prD xs)<=1
 |[]=>by rw[prD,Cu];exact bb _
 |x::r=>by
  rw[prD,Cu];exact Nat.max_le.mpr ⟨ah _,Nr r⟩
theorem prL{K:Frag}{H:Hp}{l:Addr}{ts:List PR2}(h:H l=some (.lst (Ao ts)))(a:PrO H ts):DIs K H (.lst (prD (ts.map (·.2)))) (.ref l):=by
 rw[DIs];exact⟨l,_,rfl,SqL.of h,P3 a⟩
theorem Qg{p q:Rc}(h:AK p.t p.l p.b p.r=AK q.t q.l q.b q.r):p=q:=by
 obtain⟨a,b,c,d⟩:=p;obtain⟨a',b',c',d'⟩:=q;cases h;rfl
noncomputable def isQ(H:Hp)(r:Rc)(a:Addr):Bool:=@decide (H a=some (.tup (AK r.t r.l r.b r.r))) (dW _)
theorem isQ_iff{H:Hp}{r:Rc}{a:Addr}:isQ H r a=true↔H a=some (.tup (AK r.t r.l r.b r.r)):=by unfold isQ;exact @decide_eq_true_iff _ (dW _)
theorem Rx{H:Hp}{t:Addr×Rc}{r:Rc}(h:H t.1=some (.tup (AK t.2.t t.2.l t.2.b t.2.r))):deq (rcD t.2) (rcD r)=isQ H r t.1:=by
 rw[Gg,bg,decide_eq_true_iff,isQ_iff,h];exact⟨λ z=>by rw[z],λ z=>Qg (HO.tup.inj (Option.some.inj z))⟩
inductive HM(vs:LUz)(H:Hp)(Q:VK)(E:XK):Prop
 |mk (y l b:Addr) (us:List (Addr×Rc)) (ps:List Rc) (q:Rk) (w h:Int) (bs:List BK) (h0:vs=[.ref y,.ref l,.ref b]) (h1:H y=some (.lst (Ao bs))) (h2:BkO H bs) (h3:bs.map (·.2.2)=bkP (ps.filter λ r=>AA r q) q 2) (h4:H l=some (.lst (Ao us))) (h5:At H us) (h6:us.length<=52) (h7:H b=some (.tup (AK q.t q.l q.b q.r))) (h8:Inn w h ps q us) (h9:Rm w h ps q) (h10:w<=12) (h11:h<=12) (h12:∀H',Same H H'->Q (.bl true) H'):HM vs H Q E
def Ir:Sp:=λ vs H Q E=>HM vs H Q E
abbrev UB:LSz:=["_law_told","_law_inner","_law_room","_law_top","_law_left","_law_bottom","_law_right","_law_due","_law_word","_law_line","_law_pane","_law_side"]
theorem PZ:isB "list" "list"=true:=by decide
theorem TC(u:Bool):(if decide (V.str (wd u)=V.str "upright")=true then (1:Int) else 0)=sd u:=by cases u<;>decide +kernel
theorem HU{f:Addr}{fd:FuncData}(F:Fun K "_law_broken" "_law_broken" De f fd)(T:Txt mg tk):A5 P w K mg base CX0 1 f fd ["_law_told","_law_inner","_law_room"] Ir:=by
 have S:An UB ["_law_told","_law_inner","_law_room"] (Ai De):=fsk;refine F.g S ?_;rintro vs H Q E ⟨y,l,b,us,ps,q,ww,hh,bs,rfl,hy,bo,bm,hl,hat,few,hb,inn,rm,w2,h2,k⟩;refine⟨rfl,λ cdv A outer s hr=>?_⟩;obtain⟨⟨q1,q2,q3,q4,q5,q6⟩,_⟩:=inn.db;have bl:bs.length<=100:=by
  have:=congrArg List.length bm;rw[aa,RK,af]at this;have l1:=congrArg List.length (CN (rs:=ps.filter λ r=>AA r q) (u:=true) (lo:=q.lo true) (q.hi true-(q.lo true+1)).toNat);have l2:=congrArg List.length (CN (rs:=ps.filter λ r=>AA r q) (u:=false) (lo:=q.lo false) (q.hi false-(q.lo false+1)).toNat);rw[aa,Fg]at l1 l2;have:q.hi true<=12:=(by show q.r<=12;lia);have:0<=q.lo true:=q4;have:q.hi false<=12:=(by show q.b<=12;lia);have:0<=q.lo false:=q1;lia
 refine⟨_,(Ac (Di (pv 2) (Bz rfl (Au (Al (i:=3) S.nd rfl (av rfl)) (Au (Al (i:=4) S.nd rfl (av rfl)) (Au (Al (i:=5) S.nd rfl (av rfl)) (Au (Al (i:=6) S.nd rfl (av rfl)) AZ))))))
  (Ac (C8 rfl (Al (i:=7) S.nd rfl (av rfl)) (AT rfl T.z_range (Aa (Aq A4 (pv 4) Ad) (Aa (pv 6) Ab))) (λ_ _ _ _ _=>pgk (nk ["_law_line"])) (λ_ _ _ _ _=>(A3 (Aa G9 (Aa (pv 0) Ab)))) (N:=["_law_line"]) (fr:=[none]))
  (Ac (Ar (i:=7) S.nd rfl (av rfl) (Aq Cq (pv 7) (BO rfl (AT rfl T.z_range (Aa (Aq A4 (pv 3) Ad) (Aa (pv 5) Ab))) (λ_ _ _ _ _=>pgk (nk ["_law_line"])) (λ_ _ _ _ _=>(A3 (Aa G9 (Aa (pv 0) Ab)))) (N:=["_law_line"]) (fr:=[none]))))
  (Ac (A7 (PW.pt (BL (AW (AI (A0 Cy rfl T.z_isinstance rfl (Aa (pv 0) (Aa (El (v:=.ty "list") rfl T.z_list rfl rfl) Ab))))) (BC (Ax (JF hr) (BO rfl (AC (pv 0)) (λ_ _ _ _ _=>pgk (nk ["_law_one"])) (λ_ _ _ _ _=>(BN QT (pv 0) CI (Ce Ad))) (N:=["_law_one"]) (fr:=[none])) (pv 7) (Av _))))) (Ah (Ap Bq)) Az)
  (Ac (AN PassesOwn.never rfl (AC (pv 0)) (Bz rfl (Au (Al (i:=8) S.nd rfl (av rfl)) (Au (Al (i:=9) S.nd rfl (av rfl)) (Au (Al (i:=10) S.nd rfl (av rfl)) AZ)))) (Ac (Ar (i:=11) S.nd rfl (av rfl) (BH FH rfl T.z_int rfl (Aa (AH BU (pv 8) G9 (Av _)) Ab)))
  (Ah (A7 (PW.pt (BL (Ax (Oy hr) (pv 10) (pv 1) rfl) (BC (AW (C7 AR AR (Aj Ak (pv 10) (pv 11) (λ_ _=>rfl)) (pv 9) (Aj Ak (pv 10) (Aq A4 (pv 11) Ad) (λ_ _=>rfl))))))) (Ah (Ap Bq)) Az))))
  (Ah (Ap Bq))))))),?_⟩
 refine⟨_,rfl,b,_,rfl,SqT.of hb,rfl,_,_,rfl,_,_,rfl,_,_,rfl,_,_,rfl,rfl,?_⟩;have stp:∀{u:Bool}{lo:Int}{i:Nat}{H0 H':Hp}{acc t:Addr}{ts:List PR2},H0 acc=none->Same H0 H'->H' acc=some (.lst (Ao ts))->PrO H' ts->ts.map (·.2)=lnP u lo i->H' t=none->(Same H0 (upd (upd H' t (.tup [.str (wd u),.int (lo+1+i)])) acc (.lst (Ao ts++[.ref t]))))/\∃ts',Ao ts++[.ref t]=Ao ts'/\PrO (upd (upd H' t (.tup [.str (wd u),.int (lo+1+i)])) acc (.lst (Ao ts++[.ref t]))) ts'/\ts'.map (·.2)=lnP u lo (i+1):=λ{u lo i H0 H' acc t ts} hacc s4 ac po em ht=>by
  obtain⟨H2,e',s5,e5⟩:=nw (.tup [.str (wd u),.int (lo+1+i)]) ht;rw[e'];clear e';exact⟨λ c o e=>by rw[Ag (Ae e hacc)];exact(s4.trans s5) c o e,ts++[(t,u,lo+1+i)],by simp,(po.same s5).add (x:=(u,lo+1+i)) e5 (s5 _ _ ac),by rw[aj,em,lnP];rfl⟩
 refine⟨_,rfl,_,_,rfl,rfl,_,rfl,q.l+1,q.r,rfl,⟨by lia,by lia,by lia,by lia⟩,λ acc hacc=>Cb (lo:=q.l+1) (n:=(q.r-(q.l+1)).toNat) (λ i zs σ H'=>(∃y,σ=[y])/\Same H H'/\∃ts:List PR2,zs=Ao ts/\PrO H' ts/\ts.map (·.2)=lnP true q.l i) ⟨⟨none,rfl⟩,Same.new hacc,[],rfl,λ t ht=>(nomatch ht),rfl⟩ ?_ ?_⟩
 .rintro i zs σ H' hi hl' hacc' ⟨⟨y,rfl⟩,s4,ts,rfl,po,em⟩;refine⟨_,rfl,Ay 2,λ t ht=>?_⟩;obtain⟨g1,ts',g2,g3,g4⟩:=stp hacc s4 hacc' po em ht;exact cNx.mk (aF (Am (by lia))) hi hl' (by rw[Ag (Ae hacc' ht)];exact hacc') ⟨⟨_,rfl⟩,g1,ts',g2,g3,g4⟩
 rintro zs σ H1 _ ac1 ⟨_,s1,t1,rfl,po1,em1⟩;refine⟨_,rfl,_,rfl,_,_,rfl,rfl,_,rfl,q.t+1,q.b,rfl,⟨by lia,by lia,by lia,by lia⟩,λ acc2 hacc2=>Cb (lo:=q.t+1) (n:=(q.b-(q.t+1)).toNat) (λ i zs σ H'=>(∃y,σ=[y])/\Same H1 H'/\∃ts:List PR2,zs=Ao ts/\PrO H' ts/\ts.map (·.2)=lnP false q.t i) ⟨⟨none,rfl⟩,Same.new hacc2,[],rfl,λ t ht=>(nomatch ht),rfl⟩ ?_ ?_⟩
 .rintro i zs σ H' hi hl' hacc' ⟨⟨y,rfl⟩,s4,ts,rfl,po,em⟩;refine⟨_,rfl,Ay 2,λ t ht=>?_⟩;obtain⟨g1,ts',g2,g3,g4⟩:=stp hacc2 s4 hacc' po em ht;exact cNx.mk (aF (Am (by lia))) hi hl' (by rw[Ag (Ae hacc' ht)];exact hacc') ⟨⟨_,rfl⟩,g1,ts',g2,g3,g4⟩
 rintro zs σ H2 zl2 ac2 ⟨_,s2,t2,rfl,po2,em2⟩;have n1:=congrArg List.length em1;have n2:=congrArg List.length em2;rw[aa,Fg]at n1 n2;refine⟨acc,acc2,_,_,rfl,rfl,s2 _ _ ac1,ac2,aF (Am (by rw[aa,aa];lia)),λ l3 n3=>?_⟩;rw[show Ao t1++Ao t2=Ao (t1++t2) by simp];refine nv n3 λ H3 s3 e3=>?_;have s03:=s1.trans (s2.trans s3);have po3:PrO H3 (t1++t2):=λ t ht=>(ai.mp ht).elim (λ h=>(s2.trans s3) _ _ (po1 t h)) λ h=>s3 _ _ (po2 t h);have em3:(t1++t2).map (·.2)=bs.map λ x=>(x.2.2.1,x.2.2.2.1):=by
  have e1:(bs.map λ x:BK=>(x.2.2.1,x.2.2.2.1))=(bs.map (·.2.2)).map λ x=>(x.1,x.2.1):=by rw[be];rfl
  rw[aj,em1,em2,e1,bm,RK,aj,CN,CN];rfl
 generalize t1++t2=ts at e3 po3 em3;have hy3:=s03 _ _ hy;have rl:(Ao bs).length=bs.length:=aa _;refine⟨_,rfl,_,"list","list",rfl,OX hy3,.inr (.inr (.inr (.inl rfl))),_,rfl,AG (by rw[PZ];rfl) ?_⟩;refine⟨_,rfl,y,rfl,⟨_,SqL.of hy3⟩,λ acc4 hacc4=>B6 (K:=K) (a:=y) (ys:=Ao bs) (λ i zs σ H'=>(∃y,σ=[y])/\Same H3 H'/\∃us:List PR2,zs=Ao us/\PrO H' us/\us.map (·.2)=(bs.take i).map λ x=>(x.2.2.1,x.2.2.2.1)) ⟨⟨none,rfl⟩,Same.new hacc4,[],rfl,λ t ht=>(nomatch ht),rfl⟩ (λ i zs σ H' _ _ hp=>SqL.of (hp.2.1 _ _ hy3)) ?_ ?_⟩
 .rintro i x zs σ H' hx hi hl' hacc' ⟨⟨y,rfl⟩,s4,us',rfl,po,em⟩;obtain⟨t,ht,rfl⟩:=AU hx;refine⟨_,rfl,_,rfl,t.1,_,rfl,(s03.trans s4) _ _ (bo t (ao ht)).1,λ p H5 s5 e5=>?_⟩;have e5:H5 p=some (.tup [.str (wd t.2.2.1),.int t.2.2.2.1]):=e5;refine cNx.mk (aF (Am (by lia))) hi hl' (s5 _ _ hacc') ⟨⟨_,rfl⟩,λ c o e=>?_,us'++[(p,t.2.2.1,t.2.2.2.1)],by simp,(po.same s5).add (x:=(t.2.2.1,t.2.2.2.1)) e5 (s5 _ _ hacc'),?_⟩
  .rw[Ag (Ae e hacc4)];exact(s4.trans s5) c o e
  .rw[aj,em,aV,ht,aj];rfl
 rintro zs σ H4 _ ac4 ⟨_,s4,us',rfl,po4,em4⟩;rw[rl,aN,<-em3]at em4;have D1:DIs K H4 (.lst (prD (us'.map (·.2)))) (.ref acc4):=prL ac4 po4;refine⟨_,rfl,_,_,D1,prL (s4 _ _ e3) (po3.same s4),⟨_,rfl⟩,⟨_,rfl⟩,by have:=Nr (us'.map (·.2));rw[dep];lia,_,rfl,?_⟩;rw[em4]at D1 |-;rw[if_pos rfl,BR _ D1];refine AG rfl ?_;have s04:=s03.trans s4;refine⟨_,rfl,y,rfl,⟨_,SqL.of (s04 _ _ hy)⟩,B9 (K:=K) (a:=y) (xs:=Ao bs) (λ i σ H'=>∃x7 x8 x9 x10 x11:Option V,σ=[some (.ref y),some (.ref l),some (.ref b),some (.int q.t),some (.int q.l),some (.int q.b),some (.int q.r),x7,x8,x9,x10,x11]/\Same H H') ⟨_,_,_,_,_,rfl,s04⟩ (λ i σ H' _ hp=>by obtain⟨_,_,_,_,_,_,h⟩:=hp;exact SqL.of (h _ _ hy)) ?_ ?_⟩
 .rintro i x σ H5 hx ⟨x7,x8,x9,x10,x11,rfl,s5⟩;obtain⟨t,ht,rfl⟩:=AU hx;have htm:=ao ht;obtain⟨m1,m2,m3⟩:=Tf rm (by rw[<-bm];exact aw.mpr ⟨t,htm,rfl⟩:t.2.2∈bkP (ps.filter λ r=>AA r q) q 2);obtain⟨m4,m5⟩:=brkR_iff.mp m3;have b5:=s5 _ _ (bo t htm).1;have p5:=s5 _ _ (bo t htm).2;have p5':H5 t.2.1=some (.tup (Rk.vs t.2.2.2.2)):=p5;refine⟨t.1,_,rfl,SqT.of b5,rfl,_,_,rfl,_,_,rfl,_,_,rfl,rfl,?_⟩;refine⟨_,rfl,rfl,.inr ⟨_,rfl,?_⟩⟩;rw[TC];refine⟨_,rfl,_,rfl,l,us.map (·.1),isQ H5 t.2.2.2.2,rcD t.2.2.2.2,rfl,by rw[be];exact SqL.of (s5 _ _ hl),Dh p5,λ a ha=>?_,_,rfl,AG ?_ ?_⟩
  .obtain⟨v,hv,rfl⟩:=aw.mp ha;have hv5:=s5 _ _ (hat v hv);exact⟨rcD v.2,Dh hv5,by rw[EZ];decide,Rx hv5⟩
  .obtain⟨v,hv,ev⟩:=aw.mp ((inn.mem t.2.2.2.2).mpr ⟨m1,m2⟩);have:(us.map (·.1)).any (isQ H5 t.2.2.2.2)=true:=cy.mpr ⟨v.1,aw.mpr ⟨v,hv,rfl⟩,isQ_iff.mpr (by rw[<-ev];exact s5 _ _ (hat v hv))⟩;rw[this];rfl
  .refine⟨_,rfl,_,rfl,t.2.1,_,_,_,rfl,rfl,SqT.of p5',Hv,_,rfl,_,_,rfl,rfl,_,rfl,Bt (decide_eq_true m4) ⟨_,rfl,_,rfl,_,_,rfl,rfl,t.2.1,_,_,_,rfl,rfl,SqT.of p5',LJ,_,_,rfl,rfl,_,rfl,AG (by rw[decide_eq_true m5];rfl) ?_⟩⟩;exact⟨_,_,_,_,_,rfl,s5⟩
 .rintro σ H5 ⟨x7,x8,x9,x10,x11,rfl,s5⟩;exact k H5 s5
structure RX(mg:MGz)(K:Frag)(cX cG:Addr):Prop where
 g_GlassError:mg "GlassError"=some (.ref cG)
 g_Stuck:mg "Stuck"=some (.ref cX)
 x_GlassError:So K cG
 m:mroIn K cX (.ref cG)=some true
 cl:XCls K cX
 n_room:NoAttr K cX "room"
 n_breaks:NoAttr K cX "breaks"
 n_leads:NoAttr K cX "leads"
 kX:kitOne K (.ref cX) (.ref cX)=some true
theorem lkS{f g:Str}{v:V}{r:LFz}(h:(f==g)=false):((g,v)::r).lookup f=r.lookup f:=by rw[aX,h]
theorem lk0{f:Str}{v:V}{r:LFz}:((f,v)::r).lookup f=some v:=by rw[aX,beq_self_eq_true]
theorem lkR{b y z:Addr}:(SkF b y z).lookup ("room":Str)=some (.ref b):=lk0
theorem lkB{b y z:Addr}:(SkF b y z).lookup ("breaks":Str)=some (.ref y):=(lkS (by decide +kernel)).trans lk0
theorem lkL{b y z:Addr}:(SkF b y z).lookup ("leads":Str)=some (.ref z):=(lkS (by decide +kernel)).trans ((lkS (by decide +kernel)).trans lk0)
theorem L9{S:List LD}:∀{n:Nat}{r:List LD},r∈Ge S n->∀d∈r,d∈S
 |0,r,h,d,hd=>by
  obtain⟨x,hx,rfl⟩:=aw.mp h;rw[ad.mp hd];exact hx
 |n+1,r,h,d,hd=>by
  obtain⟨r0,hr0,x,hx,_,rfl⟩:=mem_ext.mp h;rcases ai.mp hd with hd|hd
  .exact L9 hr0 d hd
  .rw[ad.mp hd];exact hx
theorem Sk.lead{w h:Int}{ps:List Rc}{n:Int}{H:Hp}{b y z:Addr}{p:Rk}{bs:List BK}{vs:List (Addr×LD)}(k:Sk w h ps n H b y z p bs vs):Cs (vs.map (·.2))=true/\∀v∈vs,AQ ps p v.2:=by
 refine⟨List.find?_some k.lm,λ v hv=>?_⟩;have ok:=k.rm.db.ok;exact(Ep (eR ok.2) (eR ok.1) v.2).mp (L9 (dY k.lm) _ (aw.mpr ⟨v,hv,rfl⟩))
inductive HJ(cX:Addr)(vs:LUz)(H:Hp)(Q:VK)(E:XK):Prop
 |mk (x dx l b y z:Addr) (us:List (Addr×Rc)) (ps:List Rc) (w h n:Int) (p:Rk) (bs:List BK) (ls:List (Addr×LD)) (h0:vs=[.ref x,.ref l]) (h1:XAt H cX dx x) (h2:H dx=some (Cw dx (SkF b y z))) (h3:Sk w h ps n H b y z p bs ls) (h4:H l=some (.lst (Ao us))) (h5:At H us) (h6:us.length<=52) (h7:(rcs us).Perm ps) (h8:GB.Tiles w h ps) (h9:w<=12) (h10:h<=12) (h11:∀H',Same H H'->Q (.bl true) H'):HJ cX vs H Q E
def Ip(cX:Addr) :Sp:=λ vs H Q E=>HJ cX vs H Q E
abbrev UA:LSz:=["_law_caught","_law_panes","_law_room","_law_inner","_law_four"]
theorem GL{f cX cG:Addr}{fd:FuncData}(F:Fun K "_law_is_room" "_law_is_room" C5 f fd)(T:Txt mg tk)(R:RX mg K cX cG)(D__law_panes_in:A2 P w K mg base 1 "_law_panes_in" ["_law_panes","_law_block"] (Ju K))(D__law_broken:A2 P w K mg base 1 "_law_broken" ["_law_told","_law_inner","_law_room"] Ir)(D__law_lead:A2 P w K mg base 3 "_law_lead" ["_law_lead_here","_law_inner","_law_room"] Nc)(D__law_meets:A2 P w K mg base 1 "_law_meets" ["_law_lead_here","_law_other"] Ky) :
  A5 P w K mg base CX0 4 f fd ["_law_caught","_law_panes"] (Ip cX):=by
 have S:An UA ["_law_caught","_law_panes"] (Ai C5):=fsk;refine F.g S ?_;rintro vs H Q E ⟨x,dx,l,b,y,z,us,ps,ww,hh,n,p,bs,ls,rfl,hx,hd,sk,hl,hat,few,pm0,T0,w2,h2,q⟩;refine⟨rfl,λ cdv A outer s hr=>?_⟩;have db:=sk.rm.db;obtain⟨tn,il⟩:=sk.lead;have h4:ls.length=4:=by
  refine aZ λ z=>?_;rw[MV (by rw[aa];exact z)]at tn;cases tn
 refine⟨_,(Ac (Ar (i:=2) S.nd rfl (cK rfl) (BM (pv 0) rfl))
  (Ac (A7 (PW.pt (BL (AW (AI (A0 Cy rfl T.z_isinstance rfl (Aa (pv 2) (Aa (El (v:=.ty "tuple") rfl T.z_tuple rfl rfl) Ab))))) (BC (Ax Fc (A0 A6 rfl T.z_len rfl (Aa (pv 2) Ab)) Ad (Av _))))) (Ah (Ap Bq)) Az)
  (Ac (Ar (i:=3) S.nd rfl (cK rfl) (Aw D__law_panes_in hr (Aa (pv 1) (Aa (pv 2) Ab))))
  (Ac (A7 (PW.pt (BL (Ax F2 (pv 3) BY (Av _)) (BL (Ax AR (A0 A6 rfl T.z_len rfl (Aa (pv 3) Ab)) Ad (Av _)) (BC (AW (AI (Aw D__law_broken hr (Aa (BM (pv 0) rfl) (Aa (pv 3) (Aa (pv 2) Ab)))))))))) (Ah (Ap Bq)) Az)
  (Ac (Ar (i:=4) S.nd rfl (cK rfl) (BM (pv 0) rfl))
  (Ac (A7 (PW.pt (BL (AW (AI (A0 Cy rfl T.z_isinstance rfl (Aa (pv 4) (Aa (El (v:=.ty "list") rfl T.z_list rfl rfl) Ab))))) (BL (Ax Fc (A0 A6 rfl T.z_len rfl (Aa (pv 4) Ab)) Ad (Av _)) (BC (AW (AI (A0 Dt rfl T.z_all rfl (Aa (BO rfl (AC (pv 4)) (λ_ _ _ _ _=>pgk (nk ["_law_lead_here","_law_inner","_law_room"])) (λ_ _ _ _ _=>(Aw D__law_lead hr (Aa (pv 0) (Aa (pv 1) (Aa (pv 2) Ab))))) (N:=["_law_lead_here","_law_inner","_law_room"]) (fr:=[none,some 3,some 2])) Ab)))))))) (Ah (Ap Bq)) Az)
  (Ah (Ap (A0 Dt rfl T.z_all rfl (Aa (BO rfl (BG rfl T.z_range (Aa Ad Ab)) (λ_ _ _ _ _=>pgk (nk ["_law_k","_law_four"])) (λ_ _ _ _ _=>(Aw D__law_meets hr (Aa (Aj (Ci (K:=K)) (pv 1) (Aq AB (pv 0) Ad) (λ_ _=>rfl)) (Aa (Aj (Ci (K:=K)) (pv 1) (pv 0) (λ_ _=>rfl)) Ab)))) (N:=["_law_k","_law_four"]) (fr:=[none,some 4])) Ab)))))))))),?_⟩
 refine⟨_,rfl,x,cX,dx,_,_,rfl,hx,hd,R.cl,R.n_room,lkR,?_⟩;refine⟨_,rfl,_,"tuple","tuple",rfl,OW sk.hb,.inr (.inr (.inl rfl)),_,rfl,AG (by rw[PY];rfl) ?_⟩;refine⟨_,rfl,b,_,rfl,.inr (SqT.of sk.hb),rfl,_,rfl,AG (by rw[decide_eq_true (by rfl)];rfl) ?_⟩;have ip:Inp ps p us:=⟨pm0.nodup_iff.mpr (Jp T0),λ r hr=>pm0.mem_iff.mp hr,λ r hr _=>pm0.mem_iff.mpr hr⟩;refine⟨_,rfl,_,rfl,l,b,us,p,ww,hh,rfl,SqL.of hl,hat,λ r hr=>T0.ins r (ip.sub r hr),few,w2,h2,sk.hb,λ us' pm srt=>?_⟩;obtain⟨ok',inn⟩:=ip.inn pm T0 db;refine⟨λ z=>(by rw[ok']at z;cases z),λ_ l1 H1 s1 _ e1=>?_⟩;have at1':At H1 (us'.filter λ t=>AA t.2 p):=λ t ht=>s1 _ _ (hat t (pm.mem_iff.mp (aP.mp ht).1));have vl:(us'.filter λ t=>AA t.2 p).length<=52:=ba (bQ _ _) (by rw[pm.length_eq];exact few);generalize (us'.filter λ t=>AA t.2 p)=vs at inn e1 at1' vl;have vp:=inn.pos;have v2:vs.length≠1:=by rw[inn.len];exact sk.rm.ne
 have sk1:=sk.same s1;have hd1:=s1 _ _ hd;refine⟨_,rfl,rfl,_,rfl,AG (decide_eq_false (by intro z;cases z)) ?_⟩;refine⟨_,rfl,l1,_,rfl,.inl (SqL.of e1),_,_,rfl,rfl,_,rfl,AG (decide_eq_false (by rw[aa];lia)) ?_⟩;refine⟨_,rfl,x,cX,dx,_,_,rfl,hx.same s1,hd1,R.cl,R.n_breaks,lkB,_,rfl,_,rfl,y,l1,b,vs,ps,p,ww,hh,bs,rfl,sk1.hy,sk1.bo,sk1.bm,e1,at1',vl,sk1.hb,inn,sk.rm,w2,h2,λ H2 s2=>⟨_,rfl,AG rfl ?_⟩⟩;have s02:=s1.trans s2;have sk2:=sk1.same s2;refine⟨_,rfl,x,cX,dx,_,_,rfl,hx.same s02,s02 _ _ hd,R.cl,R.n_leads,lkL,?_⟩;refine⟨_,rfl,_,"list","list",rfl,OX sk2.hz,.inr (.inr (.inr (.inl rfl))),_,rfl,AG (by rw[PZ];rfl) ?_⟩;refine⟨_,rfl,z,_,rfl,.inl (SqL.of sk2.hz),rfl,_,rfl,AG (by rw[decide_eq_true (by rw[aa,h4];rfl)];rfl) ?_⟩;have e2:=s2 _ _ e1;have at2':=at1'.same s2;refine⟨_,rfl,z,rfl,⟨_,SqL.of sk2.hz⟩,λ acc hacc=>B6 (K:=K) (a:=z) (ys:=Bc ls) (λ i zs σ H'=>(∃y,σ=[y,some (.ref l1),some (.ref b)])/\Same H2 H'/\zs=(List.replicate i true).map V.bl) ⟨⟨none,rfl⟩,Same.new hacc,rfl⟩ (λ i zs σ H' _ _ hp=>SqL.of (hp.2.1 _ _ sk2.hz)) ?_ ?_⟩
 .rintro i x zs σ H' hx hi hl' hacc' ⟨⟨y,rfl⟩,s4,rfl⟩;obtain⟨v,hv,rfl⟩:=Ek hx;have hvm:=ao hv;refine⟨_,rfl,_,rfl,_,rfl,v.1,l1,b,v.2,vs,ps,p,ww,hh,rfl,s4 _ _ (sk2.lo v hvm),s4 _ _ e2,at2'.same s4,vl,s4 _ _ sk2.hb,inn,w2,h2,il v hvm,λ H5 s5=>cNx.mk (aF (Am (by rw[aa];lia))) hi hl' (s5 _ _ hacc') ⟨⟨_,rfl⟩,λ c o e=>?_,?_⟩⟩
  .rw[Ag (Ae e hacc)];exact(s4.trans s5) c o e
  .rw[eU,aj];rfl
 rintro zs σ H3 _ ac3 ⟨_,s3,rfl⟩;refine⟨acc,_,rfl,SqL.of ac3,rfl,_,rfl,AG (by rw[show(List.replicate (Bc ls).length true).all id=true by rw[bC];intro x hx;exact(List.mem_replicate.mp hx).2];rfl) ?_⟩;have hz3:=s3 _ _ sk2.hz;have q:=λ H' sx=>q H' ((s02.trans s3).trans sx);have ha:AtL H3 ls:=λ v hv=>s3 _ _ (sk2.lo v hv);obtain⟨u0,u1,u2,u3,rfl⟩:=Ui h4;have a0:=ha u0 (by simp);have a1:=ha u1 (by simp);have a2:=ha u2 (by simp);have a3:=ha u3 (by simp);refine⟨4,rfl,by decide,by decide,λ acc5 hacc5=>Cb (lo:=0) (n:=(4:Int).toNat)
  (λ i zs σ H'=>(∃y,σ=[y,some (.ref z)])/\Same H3 H'/\zs=([onB u3.2 u0.2,onB u0.2 u1.2,onB u1.2 u2.2,onB u2.2 u3.2].take i).map V.bl) ⟨⟨none,rfl⟩,Same.new hacc5,rfl⟩ ?_ ?_⟩
 .rintro i zs σ H' hi hl' hacc' ⟨⟨y,rfl⟩,hs,rfl⟩;have hi4:i<4:=hi;have key:∀{H2:Hp},Same H' H2->Same H3 (upd H2 acc5 (.lst (([onB u3.2 u0.2,onB u0.2 u1.2,onB u1.2 u2.2,onB u2.2 u3.2].take (i+1)).map V.bl))):=λ s2 b o e=>by
   rw[Ag (Ae e hacc5)];exact s2 b o (hs b o e)
  have hzq:=SqL.of (K:=K) (hs _ _ hz3);obtain rfl|rfl|rfl|rfl:i=0\/i=1\/i=2\/i=3:=by lia
  .exact⟨_,rfl,_,rfl,_,_,rfl,rfl,z,_,_,_,rfl,rfl,hzq,atM,_,rfl,_,rfl,z,_,_,_,rfl,rfl,hzq,at0,u3.1,u0.1,u3.2,u0.2,rfl,hs _ _ a3,hs _ _ a0,λ H2 s2=>cNx.mk (by decide) hi hl' (s2 _ _ hacc') ⟨⟨_,rfl⟩,key s2,rfl⟩⟩
  .exact⟨_,rfl,_,rfl,_,_,rfl,rfl,z,_,_,_,rfl,rfl,hzq,at0,_,rfl,_,rfl,z,_,_,_,rfl,rfl,hzq,at1,u0.1,u1.1,u0.2,u1.2,rfl,hs _ _ a0,hs _ _ a1,λ H2 s2=>cNx.mk (by decide) hi hl' (s2 _ _ hacc') ⟨⟨_,rfl⟩,key s2,rfl⟩⟩
  .exact⟨_,rfl,_,rfl,_,_,rfl,rfl,z,_,_,_,rfl,rfl,hzq,at1,_,rfl,_,rfl,z,_,_,_,rfl,rfl,hzq,at2,u1.1,u2.1,u1.2,u2.2,rfl,hs _ _ a1,hs _ _ a2,λ H2 s2=>cNx.mk (by decide) hi hl' (s2 _ _ hacc') ⟨⟨_,rfl⟩,key s2,rfl⟩⟩
  .exact⟨_,rfl,_,rfl,_,_,rfl,rfl,z,_,_,_,rfl,rfl,hzq,at2,_,rfl,_,rfl,z,_,_,_,rfl,rfl,hzq,at3,u2.1,u3.1,u2.2,u3.2,rfl,hs _ _ a2,hs _ _ a3,λ H2 s2=>cNx.mk (by decide) hi hl' (s2 _ _ hacc') ⟨⟨_,rfl⟩,key s2,rfl⟩⟩
 .rintro zs σ H' hl' hacc' ⟨_,hs,rfl⟩;have tn:([onB u3.2 u0.2,onB u0.2 u1.2,onB u1.2 u2.2,onB u2.2 u3.2]:List Bool).all id=true:=tn;have kk:=q H' hs;rw[<-tn]at kk;exact⟨acc5,[onB u3.2 u0.2,onB u0.2 u1.2,onB u1.2 u2.2,onB u2.2 u3.2],rfl,SqL.of hacc',rfl,kk⟩
inductive Jh(tb3 cW cU cL C cX:Addr)(vs:LUz)(H:Hp)(Q:VK)(E:XK):Prop
 |mk (a dx ls ld:Addr) (w h:Int) (ts:List (Addr×Rc)) (kvs:LKz) (G:Tr) (h0:vs=[.ref a]) (h1:PanelAt C H a w h ts dx ls ld kvs) (h2:Tq tb3 H) (h3:GrS w h (rcs ts) G ⟨0,0,h,w⟩) (h4:Ih ⟨0,0,h,w⟩ G) (h5:(fsR G=none->∀r v H',SameN H H'->Tq tb3 H'->H' r=some (.tup [v,.non])->Obj cW cU cL H' G v->Q (.ref r) H')) (h6:∀n,fsR G=some n->∀r x dx b y z p bs ls H',SameN H H'->Tq tb3 H'->H' r=some (.tup [.non,.ref x])->XAt H' cX dx x->H' dx=some (Cw dx (SkF b y z))->Sk w h (rcs ts) n H' b y z p bs ls->Q (.ref r) H'):Jh tb3 cW cU cL C cX vs H Q E
def G0(tb3 cW cU cL C cX:Addr) :Sp:=λ vs H Q E=>Jh tb3 cW cU cL C cX vs H Q E
theorem JP{f cX cG tb3:Addr}{fd:FuncData}(F:Fun K "_law_asked" "_law_asked" D7 f fd)(R:RX mg K cX cG)(D_tree_of:MR P w K mg base 9 "tree_of" ["panel"] (Fv tb3 cW cU cL C cX)):A5 P w K mg base CX0 10 f fd ["_law_panel"] (G0 tb3 cW cU cL C cX):=by
 have S:An ["_law_panel","_law_kept","_law_tree","e"] ["_law_panel"] (Ai D7):=fsk;refine F.g S ?_;rintro vs H Q E ⟨a,dx,ls,ld,ww,hh,ts,kvs,G,rfl,pn,tab,gr,fit,q1,q2⟩;refine⟨rfl,λ cdv A outer s hr=>?_⟩;refine⟨_,(Ac (Ar (i:=1) S.nd rfl (av rfl) BY)
  (Ac (Ar (i:=2) S.nd rfl (av rfl) BY)
  (Ac (Re (Rb (i:=2) S.nd rfl (av rfl) (λ_=>TY D_tree_of hr (Aa (pv 0) Ab))) (Ox (im:=3) S.nd rfl rfl rfl R.g_GlassError R.x_GlassError (λ_=>(Ah (Ar (i:=1) S.nd rfl (av rfl) (pv 3)))) Rh) rfl rfl (by intro z;cases z))
  (Ah (Ap (A3 (Aa (pv 2) (Aa (pv 1) Ab)))))))),?_⟩
 refine⟨XEN H λ C fs H'=>C=cX/\∃n,fsR G=some n/\PSt ww hh (rcs ts) tb3 n fs H',⟨_,rfl,a,dx,ls,ld,ww,hh,ts,kvs,G,rfl,pn,tab,gr,fit,λ no v H1 sN tb1 ob=>?_,λ n en=>XEN.rf λ fs H' z=>⟨rfl,n,en,z⟩⟩,?_⟩
 .refine⟨_,rfl,_,rfl,Ay 2,λ r nr=>?_⟩;have s2:=Same.new (o:=.tup [v,.non]) nr;exact q1 no r v _ (sN.trans s2.n) (tb1.same s2) Af (ob.same s2)
 .rintro x C' d T T2 H' ⟨x',C2,fs,ev,hx,s1,r,rfl,n,en,ps⟩ fl hT2 nT2;obtain rfl:x=x':=Value.ref.inj ev;have ps2:=QN fs H' x C2 d T2 ps r hT2;obtain⟨rfl,r2,s2⟩:=Sq hx s1 r fl hT2;obtain⟨t2,b,y,z,p,bs,vs,rfl,sk⟩:=ps2;obtain⟨alt,T3,hxT⟩:=r2;rcases alt with ⟨_,e⟩|⟨dx',rfl,nd,hd⟩
  .cases e
  .refine⟨true,R.m,λ_=>?_,λ z=>(nomatch z)⟩;generalize thrown H' x C2 (some dx') T2=H5 at t2 sk hxT hd s2 |-;refine⟨_,rfl,_,rfl,_,rfl,Ay 2,λ r nr=>?_⟩;have s6:=Same.new (o:=.tup [.non,.ref x]) nr;exact q2 n en r x dx' b y z p bs vs _ (s2.trans s6.n) (t2.same s6) Af (.inr ⟨T3,s6 _ _ hxT⟩) (s6 _ _ hd) (sk.same s6)
def bkD:List (Bool×Int×Rk)->Ds
 |[]=>.nil
 |x::r=>.cons (.tup (.cons (.at (.str (wd x.1))) (.cons (.at (.int x.2.1)) (.cons (rcD x.2.2) .nil)))) (bkD r)
theorem Q0{K:Frag}{H:Hp}:∀{bs:List BK},BkO H bs->DIss K H (bkD (bs.map (·.2.2))) (Ao bs)
 |[],_=>by rw[bV,bkD,DIss];rfl
 |t::r,h=>by
  rw[aS,bkD,DIss];refine⟨_,_,rfl,?_,Q0 λ x hx=>h x (aJ _ hx)⟩;obtain⟨h1,h2⟩:=h t aD;rw[DIs];refine⟨t.1,_,rfl,SqT.of h1,?_⟩;rw[DIss];refine⟨_,_,rfl,by rw[DIs];exact⟨rfl,rfl⟩,?_⟩;rw[DIss];refine⟨_,_,rfl,by rw[DIs];exact⟨rfl,rfl⟩,?_⟩;rw[DIss];refine⟨_,_,rfl,Dh h2,?_⟩;rw[DIss]
theorem NP:∀xs,Cu (bkD xs)<=2
 |[]=>by rw[bkD,Cu];exact bb _
 |x::r=>by
  rw[bkD,Cu];refine Nat.max_le.mpr ⟨?_,NP r⟩;simp[dep,Cu,EZ]
def lsD:List LD->Ds
 |[]=>.nil
 |x::r=>.cons (.tup (.cons (.at (.str (cond x.1 "upright" "level"))) (.cons (.at (.int x.2.1)) (.cons (.at (.int x.2.2.1)) (.cons (.at (.int x.2.2.2)) .nil))))) (lsD r)
theorem PN{K:Frag}{H:Hp}:∀{us:List (Addr×LD)},AtL H us->DIss K H (lsD (us.map (·.2))) (Bc us)
 |[],_=>by rw[bV,lsD,DIss];rfl
 |t::r,h=>by
  rw[aS,lsD,DIss];refine⟨_,_,rfl,?_,PN λ x hx=>h x (aJ _ hx)⟩;have h1:=h t aD;rw[DIs];refine⟨t.1,_,rfl,SqT.of h1,?_⟩;rw[DIss];refine⟨_,_,rfl,by rw[DIs];exact⟨rfl,rfl⟩,?_⟩;rw[DIss];refine⟨_,_,rfl,by rw[DIs];exact⟨rfl,rfl⟩,?_⟩;rw[DIss];refine⟨_,_,rfl,by rw[DIs];exact⟨rfl,rfl⟩,?_⟩;rw[DIss];refine⟨_,_,rfl,by rw[DIs];exact⟨rfl,rfl⟩,?_⟩;rw[DIss];rfl
theorem N3:∀xs,Cu (lsD xs)<=1
 |[]=>by rw[lsD,Cu];exact bb _
 |x::r=>by
  rw[lsD,Cu];exact Nat.max_le.mpr ⟨ah _,N3 r⟩
theorem bkL{K:Frag}{H:Hp}{l:Addr}{bs:List BK}(h:H l=some (.lst (Ao bs)))(a:BkO H bs):DIs K H (.lst (bkD (bs.map (·.2.2)))) (.ref l):=by
 rw[DIs];exact⟨l,_,rfl,SqL.of h,Q0 a⟩
theorem ldL{K:Frag}{H:Hp}{l:Addr}{us:List (Addr×LD)}(h:H l=some (.lst (Bc us)))(a:AtL H us):DIs K H (.lst (lsD (us.map (·.2)))) (.ref l):=by
 rw[DIs];exact⟨l,_,rfl,SqL.of h,PN a⟩
theorem Sk.ne{w h:Int}{ps:List Rc}{n:Int}{H:Hp}{b y z:Addr}{p:Rk}{bs:List BK}{vs:List (Addr×LD)}(k:Sk w h ps n H b y z p bs vs)(T:GB.Tiles w h ps){l:Addr}{ts:List (Addr×Rc)}(hl:H l=some (.lst (Ao ts)))(hat:At H ts):l≠y/\l≠z/\y≠z:=by
 obtain⟨d1,d2⟩:=OS (k.rm.whl T);obtain⟨tn,_⟩:=k.lead;have nb:∃c cs,bs=c::cs:=by
  cases bs with
  |cons c cs=>exact⟨c,cs,rfl⟩
  |nil =>
   have e:=congrArg List.length k.bm;rw[bV,RK,af]at e;have l1:=congrArg List.length (CN (rs:=ps.filter λ r=>AA r p) (u:=true) (lo:=p.lo true) (p.hi true-(p.lo true+1)).toNat);rw[aa,Fg]at l1;have e1:p.hi true=p.r:=rfl;have e2:p.lo true=p.l:=rfl;rw[ce]at e;lia
 have nv:∃c cs,vs=c::cs:=by
  cases vs with
  |cons c cs=>exact⟨c,cs,rfl⟩
  |nil=>cases tn
 obtain⟨c,cs,rfl⟩:=nb;obtain⟨d,ds,rfl⟩:=nv;have hc:=(k.bo c aD).1;have hd:=k.lo d aD;refine⟨λ e=>?_,λ e=>?_,λ e=>?_⟩
 .have:=k.hy;rw[<-e,hl]at this;have:=HO.lst.inj (Option.some.inj this);cases ts with
  |nil=>cases this
  |cons t r =>
   have ht:=hat t aD;injection this with e1 _;injection e1 with e1;rw[e1,hc]at ht;cases ht
 .have:=k.hz;rw[<-e,hl]at this;have:=HO.lst.inj (Option.some.inj this);cases ts with
  |nil=>cases this
  |cons t r =>
   have ht:=hat t aD;injection this with e1 _;injection e1 with e1;rw[e1,hd]at ht;cases ht
 .have:=k.hy;rw[e,k.hz]at this;have:=HO.lst.inj (Option.some.inj this);injection this with e1 _;injection e1 with e1;rw[e1,hc]at hd;exact nomatch (show(3:Nat)=4 from congrArg List.length (HO.tup.inj (Option.some.inj hd)))
abbrev U8:LSz:=["_law_script","_law_width","_law_height","_law_panes","_law_panel","_law_tree","_law_kept","_law_some","_law_again"]
inductive Oc(tb3:Addr)(K:Frag)(vs:LUz)(H:Hp)(Q:VK)(E:XK):Prop
 |mk (a:Addr) (ns:List Int) (h0:vs=[.ref a]) (h1:SqL K H a (ns.map V.int)) (h2:ns.length<=63) (h3:H tb3=some (.tbl #[])) (h4:∀H',Q (.bl true) H'):Oc tb3 K vs H Q E
def sp_law(tb3:Addr)(K:Frag) :Sp:=λ vs H Q E=>Oc tb3 K vs H Q E
theorem SG{f cX cG tb3:Addr}{fd:FuncData}(F:Fun K "law" "law" Iv f fd)(T:Txt mg tk)(R:RX mg K cX cG)(D__law_drawn:A2 P w K mg base 3 "_law_drawn" ["_law_script"] (K1 K))(K_Panel:MO P w K mg base 4 "Panel" C ["self","width","height","panes"] (K5 K C))(D__law_asked:A2 P w K mg base 10 "_law_asked" ["_law_panel"] (G0 tb3 cW cU cL C cX))(D__law_is_tree:A2 P w K mg base 25 "_law_is_tree" ["_law_tree","_law_panes","_law_block"] (Dl cW cU cL 24))(D__law_is_room:A2 P w K mg base 4 "_law_is_room" ["_law_caught","_law_panes"] (Ip cX)) :
  A5 P w K mg base CX0 26 f fd ["_law_script"] (sp_law tb3 K):=by
 have S:An U8 ["_law_script"] (Ai Iv):=fsk;refine F.g S ?_;rintro vs H Q E ⟨a,ns,rfl,hS,hlen,htb,k⟩;refine⟨rfl,λ cdv A outer s hr=>?_⟩;refine⟨_,(Ac (Di (Aw D__law_drawn hr (Aa (pv 0) Ab)) (Bz rfl (Au (Al (i:=1) S.nd rfl (av rfl)) (Au (Al (i:=2) S.nd rfl (av rfl)) (Au (Al (i:=3) S.nd rfl (av rfl)) AZ)))))
  (Ac (Ar (i:=4) S.nd rfl (av rfl) (Nx K_Panel hr (Aa (pv 1) (Aa (pv 2) (Aa (BH Cv rfl T.z_list rfl (Aa (pv 3) Ab)) Ab)))))
  (Ac (Di (Aw D__law_asked hr (Aa (pv 4) Ab)) (Bz rfl (Au (Al (i:=5) S.nd rfl (av rfl)) (Au (Al (i:=6) S.nd rfl (av rfl)) AZ))))
  (Ac (A7 (Ax F2 (pv 6) BY (Av _)) (Ah (Ap (Aw D__law_is_tree hr (Aa (pv 5) (Aa (pv 3) (Aa (A3 (Aa Ad (Aa Ad (Aa (pv 2) (Aa (pv 1) Ab))))) Ab)))))) Az)
  (Ac (A7 (PW.pt (BL (AW (AI (A0 MG rfl T.z_isinstance rfl (Aa (pv 6) (Aa (A9 (v:=.ref (cX)) rfl R.g_Stuck rfl) Ab))))) (BC (AW (AI (Aw D__law_is_room hr (Aa (pv 6) (Aa (pv 3) Ab)))))))) (Ah (Ap Bq)) Az)
  (Ac (Ar (i:=7) S.nd rfl (av rfl) (A3 (Aa (BM (pv 6) rfl) (Aa (BH Cv rfl T.z_list rfl (Aa (BM (pv 6) rfl) Ab)) (Aa (BH Cv rfl T.z_list rfl (Aa (BM (pv 6) rfl) Ab)) Ab)))))
  (Ac (AS (BD (BM (pv 6) rfl) (Aa BY Ab)))
  (Ac (AS (GA br PySem.F.slot_list_clear PySem.F.type_list_clear PL (BM (pv 6) rfl)))
  (Ac (Ar (i:=8) S.nd rfl (av rfl) (Aj Ak (Aw D__law_asked hr (Aa (pv 4) Ab)) Ad (λ_ _=>rfl)))
  (Ac (A7 (PW.pt (BL (Ax F2 (pv 8) BY (Av _)) (BC (Ax (JF hr) (BM (pv 8) rfl) (Aj Ak (pv 7) Ad (λ_ _=>rfl)) (Av _))))) (Ah (Ap Bq)) Az)
  (Ah (Ap (Bm (AH (JG hr) (BM (pv 8) rfl) (Aj Ak (pv 7) Ad (λ_ _=>rfl)) (Av _)) (Bg (AH (JG hr) (BM (pv 8) rfl) (Aj Ak (pv 7) Ad (λ_ _=>rfl)) (Av _)))))))))))))))),?_⟩
 have tab0:Tq tb3 H:=TabOk.new htb;refine⟨_,rfl,a,ns,rfl,hS,λ t lp ww hh ts H1 s1 ht hlp hat til few gw gh=>⟨t,_,rfl,SqT.of ht,rfl,_,_,rfl,_,_,rfl,_,_,rfl,rfl,?_⟩⟩;refine⟨_,rfl,_,rfl,_,rfl,lp,_,rfl,.inl (SqL.of hlp),λ l2 hl2=>?_⟩;refine nv hl2 λ H2 s2 e2=>?_;intro x dx nx ndx ne;have sn:Same H2 (upd (upd H2 dx (.own x)) x (.ins C dx [])):=λ b o e=>by rw[Ag (Ae e nx),Ag (Ae e ndx)];exact e
 refine⟨x,dx,l2,ww,hh,ts,rfl,Af,SqL.of (sn _ _ e2),(hat.same s2).same sn,til,few,gw,gh,λ ts1 ls ld kvs H3 sx3 pm pn=>⟨rfl,?_⟩⟩;have s23:Same H2 H3:=λ b o e=>sx3 b o (Ae e nx) (sn _ _ e);have s13:=s2.trans s23;have tab3:=tab0.same (s1.trans s13);have lp3:=s13 _ _ hlp;have at3':=hat.same s13;have pmr:(rcs ts).Perm (rcs ts1):=(pm.map _).symm;obtain⟨G,gr,fit⟩:=OD pn.til gw.2 gh.2 _ _ rfl (K7 pn.til gw.1 gh.1);refine⟨_,rfl,x,dx,ls,ld,ww,hh,ts1,kvs,G,rfl,pn,tab3,gr,fit,λ no r v H4 sN tab4 hr4 ob=>?_,λ n en r y' dy b y z p bs vs H4 sN tab4 hr4 hx hd sk=>?_⟩
 .refine⟨r,_,rfl,SqT.of hr4,rfl,_,_,rfl,_,_,rfl,rfl,?_⟩;refine⟨_,rfl,rfl,_,rfl,Bt (decide_eq_true rfl) ?_⟩;refine⟨_,rfl,_,rfl,_,rfl,_,rfl,Ay 4,λ tb ntb=>?_⟩;refine nv ntb λ H5 s5 e5=>?_;refine⟨v,G,lp,tb,ts,⟨0,0,hh,ww⟩,ww,hh,rcs ts1,rfl,ob.same s5,gr,no,e5,s5 _ _ (sN.lst lp3),λ t ht=>s5 _ _ (sN.tup (at3' t ht)),few,⟨pmr.nodup_iff.mpr (Jp pn.til),λ r hr=>pmr.mem_iff.mp hr,λ r hr _=>pmr.mem_iff.mpr hr⟩,pn.til,gw.2,gh.2,?_,λ H6 _=>k H6⟩;show ww-0+(hh-0)<=24;lia
 .refine⟨r,_,rfl,SqT.of hr4,rfl,_,_,rfl,_,_,rfl,rfl,?_⟩;refine⟨_,rfl,rfl,_,rfl,AG (decide_eq_false (by intro z;cases z)) ?_⟩;have he:QF H4 y' cX:=.inl ⟨dy,_,hx,hd⟩;refine⟨_,rfl,y',cX,.ref cX,.ref cX,true,rfl,he,R.cl,rfl,(λ_ z=>z),R.kX,_,rfl,AG rfl ?_⟩;have lp4:=sN.lst lp3;have at4:At H4 ts:=λ t ht=>sN.tup (at3' t ht);have pn4:=pn.n sN;refine⟨_,rfl,_,rfl,y',dy,lp,b,y,z,ts,rcs ts1,ww,hh,n,p,bs,vs,rfl,hx,hd,sk,lp4,at4,few,pmr,pn.til,gw.2,gh.2,λ H5 s5=>⟨_,rfl,AG rfl ?_⟩⟩;have sk5:=sk.same s5;have hx5:=hx.same s5;have hd5:=s5 _ _ hd;refine⟨_,rfl,y',cX,dy,_,_,rfl,hx5,hd5,R.cl,R.n_room,lkR,_,rfl,y',cX,dy,_,_,rfl,hx5,hd5,R.cl,R.n_breaks,lkB,y,_,rfl,.inl (SqL.of sk5.hy),λ l6 n6=>?_⟩;refine nv n6 λ H6 s6 e6=>?_;refine⟨_,rfl,y',cX,dy,_,_,rfl,hx5.same s6,s6 _ _ hd5,R.cl,R.n_leads,lkL,z,_,rfl,.inl (SqL.of (s6 _ _ sk5.hz)),λ l7 n7=>?_⟩;refine nv n7 λ H7 s7 e7=>?_;refine⟨Ay 3,λ t8 n8=>?_⟩;refine nv n8 λ H8 s8 e8=>?_;have s58:=s6.trans (s7.trans s8);have sk8:=sk5.same s58;have hx8:=hx5.same s58;have hd8:=s58 _ _ hd5;have pn8:=(pn4.same s5).same s58;have tab8:=(tab4.same s5).same s58;have l68:=(s7.trans s8) _ _ e6;have l78:=s8 _ _ e7;obtain⟨n1,n2,n3⟩:=sk8.ne pn.til pn8.lst pn8.ats;have y6:l6≠y:=Ne.symm (Ae sk5.hy n6);have z6:l6≠z:=Ne.symm (Ae sk5.hz n6);have y7:l7≠y:=Ne.symm (Ae (s6 _ _ sk5.hy) n7);have z7:l7≠z:=Ne.symm (Ae (s6 _ _ sk5.hz) n7);have bl:bs.length<=1000:=by
   have e:=congrArg List.length sk.bm;obtain⟨⟨q1,q2,q3,q4,q5,q6⟩,_⟩:=sk.rm.db;rw[aa,RK,af]at e;have l1:=congrArg List.length (CN (rs:=(rcs ts1).filter λ r=>AA r p) (u:=true) (lo:=p.lo true) (p.hi true-(p.lo true+1)).toNat);have l2:=congrArg List.length (CN (rs:=(rcs ts1).filter λ r=>AA r p) (u:=false) (lo:=p.lo false) (p.hi false-(p.lo false+1)).toNat);rw[aa,Fg]at l1 l2;have:p.hi true<=12:=(by show p.r<=12;lia);have:0<=p.lo true:=q4;have:p.hi false<=12:=(by show p.b<=12;lia);have:0<=p.lo false:=q1;lia
  refine⟨_,rfl,y',cX,dy,_,_,rfl,hx8,hd8,R.cl,R.n_breaks,lkB,.inl ⟨rfl,_,SqL.of sk8.hy⟩,y,_,_,rfl,rfl,sk8.hy,Am (by rw[aa];exact bl),?_⟩;have up9:∀{c:Addr}{o:HO},c≠y->H8 c=some o->(upd H8 y (.lst (Ao bs++[.non]))) c=some o:=λ h e=>by rw[Ag h];exact e
  have ny:∀{c:Addr}{o:HO},H8 c=some o->(∀xs,o≠.lst xs)->c≠y:=λ h e=>AL h sk8.hy (e _);have nz:∀{c:Addr}{o:HO},H8 c=some o->(∀xs,o≠.lst xs)->c≠z:=λ h e=>AL h sk8.hz (e _);have hx9:XAt (upd H8 y (.lst (Ao bs++[.non]))) cX dy y':=by
   rcases hx8 with h|⟨T,h⟩
   .exact .inl (up9 (ny h (by intro xs z;cases z)) h)
   .exact .inr ⟨T,up9 (ny h (by intro xs z;cases z)) h⟩
  have hd9:=up9 (ny hd8 (by intro xs z;cases z)) hd8;have hz9:=up9 (Ne.symm n3) sk8.hz;have tab9:Tq tb3 (upd H8 y (.lst (Ao bs++[.non]))):=TabOk.upd tab8 sk8.hy;have up10:∀{c:Addr}{o:HO},c≠y->c≠z->H8 c=some o->(upd (upd H8 y (.lst (Ao bs++[.non]))) z (.lst [])) c=some o:=λ h h' e=>by rw[Ag h'];exact up9 h e
  have upT:∀{c:Addr}{xs:LUz},H8 c=some (.tup xs)->(upd (upd H8 y (.lst (Ao bs++[.non]))) z (.lst [])) c=some (.tup xs):=λ e=>up10 (ny e (by intro xs z;cases z)) (nz e (by intro xs z;cases z)) e;refine⟨_,rfl,y',cX,dy,_,_,rfl,hx9,hd9,R.cl,R.n_leads,lkL,.inl ⟨rfl,_,SqL.of hz9⟩,z,_,rfl,rfl,hz9,?_⟩;have tab10:Tq tb3 (upd (upd H8 y (.lst (Ao bs++[.non]))) z (.lst [])):=TabOk.upd tab9 hz9;have pn10:PanelAt C (upd (upd H8 y (.lst (Ao bs++[.non]))) z (.lst [])) x ww hh ts1 dx ls ld kvs:=⟨up10 (ny pn8.ob (by intro xs z;cases z)) (nz pn8.ob (by intro xs z;cases z)) pn8.ob,up10 n1 n2 pn8.lst,up10 (ny pn8.dic (by intro xs z;cases z)) (nz pn8.dic (by intro xs z;cases z)) pn8.dic,λ t ht=>upT (pn8.ats t ht),pn8.til,pn8.few,pn8.srt,pn8.look,pn8.sw,pn8.sh⟩;have t10:=upT e8;have l610:=up10 y6 z6 l68;have l710:=up10 y7 z7 l78;have b10:=upT sk8.hb;have bo10:BkO (upd (upd H8 y (.lst (Ao bs++[.non]))) z (.lst [])) bs:=λ c hc=>⟨upT (sk8.bo c hc).1,upT (sk8.bo c hc).2⟩;have lo10:AtL (upd (upd H8 y (.lst (Ao bs++[.non]))) z (.lst [])) vs:=λ c hc=>upT (sk8.lo c hc);generalize upd (upd H8 y (.lst (Ao bs++[.non]))) z (.lst [])=HA at tab10 pn10 t10 l610 l710 b10 bo10 lo10 |-;refine⟨_,rfl,x,dx,ls,ld,ww,hh,ts1,kvs,G,rfl,pn10,tab10,gr,fit,(λ no=>by rw[en]at no;cases no),λ m em r2 x2 dx2 b2 y2 z2 p2 bs2 vs2 HB sB tabB hrB hxB hdB skB=>?_⟩;obtain rfl:n=m:=Option.some.inj (en.symm.trans em);obtain rfl:p=p2:=Td sk.rm.db skB.rm.db gw.2 gh.2 (sk.cd.symm.trans skB.cd);refine⟨r2,_,_,_,rfl,rfl,SqT.of hrB,NT,?_⟩;refine⟨_,rfl,rfl,_,rfl,AG (decide_eq_false (by intro z;cases z)) ?_⟩;have tB:=sB.tup t10;have bB:=sB.tup b10;have bB:HB b=some (.tup (AK p.t p.l p.b p.r)):=bB;have b2B:HB b2=some (.tup (AK p.t p.l p.b p.r)):=skB.hb;have D0:DIs K HB (rcD p) (.ref b2):=Dh b2B;refine⟨_,rfl,x2,cX,dx2,_,_,rfl,hxB,hdB,R.cl,R.n_room,lkR,_,rfl,t8,_,_,_,rfl,rfl,SqT.of tB,rfl,rcD p,rcD p,D0,Dh bB,⟨_,rfl⟩,⟨_,rfl⟩,by rw[EZ];decide,_,rfl,AG (by rw[if_pos rfl,BR _ D0];rfl) ?_⟩;have D1:DIs K HB (.lst (bkD (bs2.map (·.2.2)))) (.ref y2):=bkL skB.hy skB.bo;have D2:DIs K HB (.lst (bkD (bs.map (·.2.2)))) (.ref l6):=bkL (sB.lst l610) λ c hc=>⟨sB.tup (bo10 c hc).1,sB.tup (bo10 c hc).2⟩;rw[sk.bm,<-skB.bm]at D2;refine⟨_,rfl,x2,cX,dx2,_,_,rfl,hxB,hdB,R.cl,R.n_breaks,lkB,_,rfl,t8,_,_,_,rfl,rfl,SqT.of tB,rfl,_,_,D1,D2,⟨_,rfl⟩,⟨_,rfl⟩,by have:=NP (bs2.map (·.2.2));rw[dep];lia,_,rfl,Bt (by rw[if_neg ae,BR _ D1]) ?_⟩;have D3:DIs K HB (.lst (lsD (vs2.map (·.2)))) (.ref z2):=ldL skB.hz skB.lo;have D4:DIs K HB (.lst (lsD (vs.map (·.2)))) (.ref l7):=ldL (sB.lst l710) λ c hc=>sB.tup (lo10 c hc);rw[Option.some.inj (sk.lm.symm.trans skB.lm)]at D4;refine⟨_,rfl,x2,cX,dx2,_,_,rfl,hxB,hdB,R.cl,R.n_leads,lkL,_,rfl,t8,_,_,_,rfl,rfl,SqT.of tB,rfl,_,_,D3,D4,⟨_,rfl⟩,⟨_,rfl⟩,by have:=N3 (vs2.map (·.2));rw[dep];lia,?_⟩;rw[if_neg ae,BR _ D3];exact k HB
def icB(K:Frag)(C:Addr):Bool:=plainGet K C Str.empty&&(hasDictIn K C&&(plainOver K C&&((findIn K (.ref C) "__setattr__"==some (some (.builtin "object.__setattr__")))&&((findIn K (.ref C) "__class__"==some (some (.builtin "object.__class__"))) &&
 ((specialIn K (.builtin "object.__class__") "__get__"==some (some (.builtin "getset_descriptor.__get__")))&&((takesIn K (.builtin "object.__class__")==some true)&&((mroIn K C (.type "object")==some true)&&(makesIn K C&&keepIn K (.ref C)))))))))
theorem M9{C:Addr}(h:icB K C=true):MP K C/\makesIn K C=true/\keepIn K (.ref C)=true:=by
 unfold icB at h;simp only[aK,beq_iff_eq]at h;obtain⟨a,b,c,d,e,f,g,i,j,l⟩:=h;exact⟨⟨⟨a,b,c,d⟩,e,f,g,i⟩,j,l⟩
def SL(K:Frag)(cT cW cU cL:Addr):Bool:=([(cW,"mark"),(cU,"at"),(cU,"first"),(cU,"other"),(cL,"at"),(cL,"first"),(cL,"other")]:List (Addr×Str)).all (λ p=>findIn K (.ref p.1) p.2==some none) &&
 ([(cW,cW,true),(cW,cU,false),(cW,cL,false),(cU,cW,false),(cL,cW,false),(cU,cU,true),(cU,cL,false),(cL,cU,false),(cL,cL,true),(cW,cT,true),(cU,cT,true),(cL,cT,true)]:List (Addr×Addr×Bool)).all (λ p=>kitOne K (.ref p.1) (.ref p.2.1)==some p.2.2)
theorem TL(h:SL K cT cW cU cL=true)(iW:MP K cW)(iU:MP K cU)(iL:MP K cL)(gT:mg "Tree"=some (.ref cT))(gW:mg "Whole"=some (.ref cW))(gU:mg "Upright"=some (.ref cU))(gL:mg "Level"=some (.ref cL)):RT mg K cT cW cU cL:=by
 unfold SL at h;rw[aK,bC,bC]at h;obtain⟨h1,h2⟩:=h;have f1:∀p∈([(cW,"mark"),(cU,"at"),(cU,"first"),(cU,"other"),(cL,"at"),(cL,"first"),(cL,"other")]:List (Addr×Str)),findIn K (.ref p.1) p.2=some none:=λ p hp=>beq_iff_eq.mp (h1 p hp);have f2:∀p∈([(cW,cW,true),(cW,cU,false),(cW,cL,false),(cU,cW,false),(cL,cW,false),(cU,cU,true),(cU,cL,false),(cL,cU,false),(cL,cL,true),(cW,cT,true),(cU,cT,true),(cL,cT,true)]:List (Addr×Addr×Bool)),kitOne K (.ref p.1) (.ref p.2.1)=some p.2.2:=λ p hp=>beq_iff_eq.mp (h2 p hp);simp only[bT,aU,false_implies,implies_true,and_true]at f1 f2;obtain⟨a1,a2,a3,a4,a5,a6,a7⟩:=f1;obtain⟨k1,k2,k3,k4,k5,k6,k7,k8,k9,k10,k11,k12⟩:=f2;refine⟨gT,gW,gU,gL,iW,?_,a1,?_,?_,?_,k1,?_,?_,?_,k10,?_⟩
 .intro u;cases u;exact iL;exact iU
 .intro u;cases u;exact a5;exact a2
 .intro u;cases u;exact a6;exact a3
 .intro u;cases u;exact a7;exact a4
 .intro u;cases u;exact k3;exact k2
 .intro u;cases u;exact k5;exact k4
 .intro u v;cases u<;>cases v;exact k9;exact k8;exact k7;exact k6
 .intro u;cases u;exact k12;exact k11
end
theorem O4{α β:Type}{us:List α}{p:β}{ps:List β}(h:us.length=(p::ps).length):∃u vs,us=u::vs/\vs.length=ps.length:=by
 cases us with
 |nil=>cases h
 |cons u vs=>exact⟨u,vs,rfl,Nat.succ.inj h⟩
theorem O3{α β:Type}{us:List α}(h:us.length=([]:List β).length):us=[]:=ek.mp h
abbrev FB(K:Frag)(x qual:Str)(st:Stmt)(f:Addr):Prop:=∃fd,Fun K x qual st f fd
abbrev FI(K:Frag)(x:Str)(st:Stmt)(f:Addr):Prop:=nsIn K mainGlobals x=some (some (.ref f))/\FB K x x st f
abbrev MI(K:Frag)(C:Addr)(x qual:Str)(st:Stmt)(f:Addr):Prop:=findIn K (.ref C) x=some (some (.ref f))/\isFn K (.ref f)=true/\FB K x qual st f
structure HC(P:Program)(w:World)(K:Frag)(mg:MGz)(base:Heap):Prop where
 ex:∃h:Heap,K.In h/\h.Ns mainGlobals mg
abbrev BOk(x qual:Str)(st:Stmt)(ps:LSz):Prop:=∀(kV doc pm:Value)(an:Option Addr)(cdv ct:Value)(us:LWz),us.length=ps.length->bindArgs (fnOf x qual (B5 st) (A8 st) (Ai st) .none kV doc pm an cdv ct) ⟨us,[]⟩=pure (ps.zip us)
section
variable{P:Program}{w:World}{K:Frag}{mg:MGz}{base:Heap}{x qual:Str}{st:Stmt}{f C:Addr}{n:Nat}{ps:LSz}{sp:Sp}{v:Value}
theorem HC.g(c:HC P w K mg base)(a:nsIn K mainGlobals x=some (some v)):mg x=some v:=let ⟨_,X,G⟩:=c.ex;mg_of X G a
theorem HC.d(c:HC P w K mg base)(i:FI K x st f)(ok:∀fd,Fun K x x st f fd->A5 P w K mg base CX0 n f fd ps sp)(hb:BOk x x st ps:=by intro _ _ _ _ _ _ us hl;(repeat (obtain⟨_,_,e,h⟩:=O4 hl;clear hl;subst e;have hl:=h;clear h));cases O3 hl;rfl):A2 P w K mg base n x ps sp:=let ⟨a,_,F⟩:=i;⟨_,_,ok _ F,c.g a,F.kp,F.binds hb⟩
theorem HC.dx(c:HC P w K mg base)(i:FI K x st f)(ok:∀fd,Fun K x x st f fd->A5 P w K mg base (CX1 P w) n f fd ps sp)(hb:BOk x x st ps:=by intro _ _ _ _ _ _ us hl;(repeat (obtain⟨_,_,e,h⟩:=O4 hl;clear hl;subst e;have hl:=h;clear h));cases O3 hl;rfl):MR P w K mg base n x ps sp:=let ⟨a,_,F⟩:=i;⟨_,_,ok _ F,c.g a,F.kp,F.binds hb⟩
theorem HC.m(_:HC P w K mg base)(l:Cls K C)(i:MI K C x qual st f)(ok:∀fd,Fun K x qual st f fd->A5 P w K mg base CX0 n f fd ps sp)(hb:BOk x qual st ps:=by intro _ _ _ _ _ _ us hl;(repeat (obtain⟨_,_,e,h⟩:=O4 hl;clear hl;subst e;have hl:=h;clear h));cases O3 hl;rfl):LL P w K mg base n C x ps sp:=let ⟨a,b,_,F⟩:=i;⟨l,_,_,⟨a,b,F.kp⟩,ok _ F,F.binds hb⟩
theorem HC.k{cn:Str}(c:HC P w K mg base)(m:makesIn K C=true)(k:keepIn K (.ref C)=true)(ac:nsIn K mainGlobals cn=some (some (.ref C)))(i:MI K C "__init__" qual st f)(ok:∀fd,Fun K "__init__" qual st f fd->A5 P w K mg base CX0 n f fd ps sp)(hb:BOk "__init__" qual st ps:=by intro _ _ _ _ _ _ us hl;(repeat (obtain⟨_,_,e,h⟩:=O4 hl;clear hl;subst e;have hl:=h;clear h));cases O3 hl;rfl):MO P w K mg base n cn C ps sp:=let ⟨a,b,_,F⟩:=i;⟨_,_,⟨m,a,b,k⟩,ok _ F,c.g ac,F.binds hb⟩
theorem HC.xm{cn:Str}{ns:LSz}(c:HC P w K mg base)(l:MS K C=true)(e:Ed K C f=true)(k:keepIn K (.ref C)=true)(ac:nsIn K mainGlobals cn=some (some (.ref C)))(i:MI K C "__init__" qual st f)(ok:∀fd,Fun K "__init__" qual st f fd->XCls K C->A5 P w K mg base CX0 n f fd ps (S1 C ns))(fw:ns.length<=1000:=by decide)(hb:BOk "__init__" qual st ps:=by intro _ _ _ _ _ _ us hl;(repeat (obtain⟨_,_,e,h⟩:=O4 hl;clear hl;subst e;have hl:=h;clear h));cases O3 hl;rfl):Q7 P w K mg base n cn C ps ns:=let ⟨a,b,_,F⟩:=i;⟨fw,_,_,⟨XCls.of l,e,k,b⟩,ok _ F (XCls.of l),c.g ac,F.binds hb⟩
end
theorem all_mk{l:OpenLaw}{w:World}{K:Frag}{h:Heap}{mg:MGz}{fa:Addr}(X:K.In h)(G:h.Ns mainGlobals mg)(hfa:mg "law"=some (.ref fa))
  {C:Addr} (aC:nsIn K mainGlobals "Panel"=some (some (.ref C)))
  (pg_C:plainGet K C Str.empty=true)
  (hd_C:hasDictIn K C=true)
  (po_C:plainOver K C=true)
  (sa_C:findIn K (.ref C) "__setattr__"=some (some (.builtin "object.__setattr__")))
  (mk_C:makesIn K C=true)
  (kc_C:keepIn K (.ref C)=true)
  (n_C_width:findIn K (.ref C) "width"=some none)
  (n_C_height:findIn K (.ref C) "height"=some none)
  (n_C_sorted_panes:findIn K (.ref C) "sorted_panes"=some none)
  (n_C_by_square:findIn K (.ref C) "by_square"=some none)
  {cT:Addr} (aT:nsIn K mainGlobals "Tree"=some (some (.ref cT)))
  {cW:Addr} (aC_cW:nsIn K mainGlobals "Whole"=some (some (.ref cW))) (ic_cW:icB K cW=true)
  {f_cW:Addr} {od_cW an_cW:Option Addr} {sl_cW:AOz} {oc_cW kV_cW dc_cW pm_cW cd_cW ct_cW:Value} {T_cW:Addr} {to_cW:Value} {td_cW:Option Addr} {ts_cW:AOz} {ti_cW:Array Value} {tn_cW:Nat} (a_cWcW:findIn K (.ref cW) "__init__"=some (some (.ref f_cW))) (i_cW:isFn K (.ref f_cW)=true) (l_cW:K.lookup f_cW=some ⟨oc_cW,od_cW,.func (fnOf "__init__" "Whole.__init__" (B5 B2) (A8 B2) (Ai B2) (.ref T_cW) kV_cW dc_cW pm_cW an_cW cd_cW ct_cW),sl_cW⟩) (cc_cW:codeIn K cd_cW "Whole.__init__"=true) (k_cW:keepIn K (.ref f_cW)=true) (lT_cW:K.lookup T_cW=some ⟨to_cW,td_cW,.seq ti_cW tn_cW,ts_cW⟩) (eT_cW:ti_cW=#[.none])
  {cU:Addr} (aC_cU:nsIn K mainGlobals "Upright"=some (some (.ref cU))) (ic_cU:icB K cU=true)
  {f_cU:Addr} (h_cUcU:MI K cU "__init__" "Upright.__init__" C6 f_cU)
  {cL:Addr} (aC_cL:nsIn K mainGlobals "Level"=some (some (.ref cL))) (ic_cL:icB K cL=true)
  {f_cL:Addr} (h_cLcL:MI K cL "__init__" "Level.__init__" DA f_cL)
  (kit:SL K cT cW cU cL=true)
  {cG:Addr} (aG:nsIn K mainGlobals "GlassError"=some (some (.ref cG))) (eG:PySem.W.excIn K cG vErr "ValueError.__new__"=true)
  {cX:Addr} (aC_cX:nsIn K mainGlobals "Stuck"=some (some (.ref cX))) (kC_cX:keepIn K (.ref cX)=true) (nC_cX:findIn K (.ref cX) "room"=some none) (nC2_cX:findIn K (.ref cX) "breaks"=some none) (nC3_cX:findIn K (.ref cX) "leads"=some none)
  {f_cX:Addr} (h_cXcX:MI K cX "__init__" "Stuck.__init__" D8 f_cX)
  (ei_cX:Ed K cX f_cX=true) (xc_cX:MS K cX=true) (xm_cX:mroIn K cX (.ref cG)=some true)
  (kt0:(kitOne K (.ref cX) (.ref cX)==some true)=true)
  {f0:Addr} (h0:FI K "is_whole" E9 f0)
  {f1:Addr} (h1:FI K "is_side" Fz f1)
  {f2:Addr} (h2:FI K "is_rectangle" C1 f2)
  {f3:Addr} (h3:FI K "inside" G2 f3)
  {f4:Addr} (h4:FI K "squares_of" Dv f4)
  {f5:Addr} (h5:FI K "check_sides" CZ f5)
  {f6:Addr} (h6:FI K "check_panes" Da f6)
  {f7:Addr} (h7:FI K "panes_by_square" BI f7)
  {f8:Addr} (h8:FI K "check_covered" Cm f8)
  {f9:Addr} (h9C:MI K C "__init__" "Panel.__init__" D9 f9)
  {f10:Addr} (h10C:MI K C "panes" "Panel.panes" Df f10)
  {f11:Addr} (h11C:MI K C "pane_at" "Panel.pane_at" Cn f11)
  {f12:Addr} (h12:FI K "apart" Jy f12)
  {f13:Addr} (h13:FI K "is_block" EA f13)
  {f14:Addr} (h14:FI K "check_block" Db f14)
  {f15:Addr} (h15:FI K "panes_in" E8 f15)
  {f16:Addr} (h16:FI K "line_breaks" CV f16)
  {f17:Addr} (h17:FI K "goes_through" C3 f17)
  {f18:Addr} (h18:FI K "lines_through" Cl f18)
  {f19:Addr} (h19:FI K "cut_from" EB f19)
  {f20:Addr} (h20:FI K "tree_from" DU f20)
  {f21:Addr} (h21:FI K "first_piece" CY f21)
  {f22:Addr} (h22:FI K "other_piece" CU f22)
  {f23:Addr} (h23:FI K "entries_by" Dx f23)
  {f24:Addr} (h24:FI K "runs" Mm f24)
  {f25:Addr} (h25:FI K "columns_parted" BX f25)
  {f26:Addr} (h26:FI K "rows_parted" CS f26)
  {f27:Addr} (h27:FI K "level_leads" CW f27)
  {f28:Addr} (h28:FI K "upright_leads" Ck f28)
  {f29:Addr} (h29:FI K "leads" Jx f29)
  {f30:Addr} (h30:FI K "lies_on" Fy f30)
  {f31:Addr} (h31:FI K "turn" Ml f31)
  {f32:Addr} (h32:FI K "entry_for" DV f32)
  {f33:Addr} {od33 an33:Option Addr} {sl33:AOz} {oc33 kV33 dc33 pm33 cd33 ct33:Value} (a33:nsIn K mainGlobals "cut_up"=some (some (.ref f33))) (l33:K.lookup f33=some ⟨oc33,od33,.func (fnOf "cut_up" "cut_up" (B5 Bo) (A8 Bo) (Ai Bo) .none kV33 dc33 pm33 an33 cd33 ct33),sl33⟩) (cc33:codeIn K cd33 "cut_up"=true) (k33:keepIn K (.ref f33)=true) {c33 tb3:Addr} (ec33:cd33=.ref c33) (hC33:Kj K c33 tb3=true)
  {f34:Addr} (h34:FI K "pane_broken" CT f34)
  {f35:Addr} (h35:FI K "breaks_of" DW f35)
  {f36:Addr} (h36:FI K "one_longer" Dw f36)
  {f37:Addr} (h37:FI K "four_that_turn" BW f37)
  {f38:Addr} (h38:FI K "tree_of" Fx f38)
  {f39:Addr} (h39:FI K "_law_purse" Dy f39)
  {f40:Addr} (h40:FI K "_law_take" DX f40)
  {f41:Addr} (h41:FI K "_law_tiled" Bk f41)
  {f42:Addr} (h42:FI K "_law_wheel" Bj f42)
  {f43:Addr} (h43:FI K "_law_cut_up" Bf f43)
  {f44:Addr} (h44:FI K "_law_panes_in" Bp f44)
  {f45:Addr} (h45:FI K "_law_drawn" BJ f45)
  {f46:Addr} (h46:FI K "_law_least" D6 f46)
  {f47:Addr} (h47:FI K "_law_is_tree" C4 f47)
  {f48:Addr} (h48:FI K "_law_unlike" Dc f48)
  {f49:Addr} (h49:FI K "_law_level" D5 f49)
  {f50:Addr} (h50:FI K "_law_lead" By f50)
  {f51:Addr} (h51:FI K "_law_meets" Dz f51)
  {f52:Addr} (h52:FI K "_law_broken" De f52)
  {f53:Addr} (h53:FI K "_law_is_room" C5 f53)
  {f54:Addr} (h54:FI K "_law_asked" D7 f54)
  {f55:Addr} (h55:FI K "law" Iv f55)
  {bm:Addr} {bsl:AOz} (abm:nsIn K mainGlobals "__builtins__"=some (some (.ref bm))) (lbm:K.lookup bm=some ⟨.type "module",some builtinsNs,.plain,bsl⟩) (nbm1:bm≠builtinsNs) (nbm2:bm≠mainGlobals)
  (z0:nsIn K mainGlobals "isinstance"=some none)
  (z1:nsIn K mainGlobals "int"=some none)
  (z2:nsIn K mainGlobals "bool"=some none)
  (z3:nsIn K mainGlobals "tuple"=some none)
  (z4:nsIn K mainGlobals "list"=some none)
  (z5:nsIn K mainGlobals "len"=some none)
  (z6:nsIn K mainGlobals "range"=some none)
  (z7:nsIn K mainGlobals "all"=some none)
  (z8:nsIn K mainGlobals "any"=some none)
  (z9:nsIn K mainGlobals "sorted"=some none)
  (z10:nsIn K mainGlobals "str"=some none)
  (z11:nsIn K mainGlobals "reversed"=some none)
  (z12:nsIn K mainGlobals "min"=some none)
  (z13:nsIn K mainGlobals "max"=some none)
  (z14:nsIn K mainGlobals "enumerate"=some none)
  (z15:nsIn K mainGlobals "ValueError"=some none)
  {tk0:Tok} (g0:nsIn K mainGlobals "LONGEST_SIDE"=some (some (.int 12 tk0)))
  {tk1:Tok} (g1:nsIn K mainGlobals "MOST_PANES"=some (some (.int 52 tk1)))
  {tk2:Tok} (g2:nsIn K mainGlobals "WHOLE"=some (some (.str "whole" tk2)))
  {tk3:Tok} (g3:nsIn K mainGlobals "UPRIGHT_cuts"=some (some (.str "upright" tk3)))
  {tk4:Tok} (g4:nsIn K mainGlobals "LEVEL_cuts"=some (some (.str "level" tk4)))
  {tk5:Tok} (g5:nsIn K mainGlobals "TOP"=some (some (.int 0 tk5)))
  {tk6:Tok} (g6:nsIn K mainGlobals "LEFT"=some (some (.int 1 tk6)))
  {tk7:Tok} (g7:nsIn K mainGlobals "ROOM"=some (some (.str "room" tk7)))
  {tk8:Tok} (g8:nsIn K mainGlobals "LEVEL_leads"=some (some (.str "level" tk8)))
  {tk9:Tok} (g9:nsIn K mainGlobals "UPRIGHT_leads"=some (some (.str "upright" tk9)))
  : ∃fd:FuncData,(∀(s:Shared)(v:Value),BindsTo s fd ⟨[v],[]⟩ [("_law_script",v)])/\∀base:Heap,K.In base->base.Ns mainGlobals mg->A5 l.prog w K mg base CX0 26 fa fd ["_law_script"] (sp_law tb3 K):=by
 have e:=hfa.symm.trans (mg_of X G h55.1);cases e;have T:Txt mg (tk0,tk1,tk2,tk3,tk4,tk5,tk6,tk7,tk8,tk9):=⟨mg_none_of X G z0,mg_none_of X G z1,mg_none_of X G z2,mg_none_of X G z3,mg_none_of X G z4,mg_none_of X G z5,mg_none_of X G z6,mg_none_of X G z7,mg_none_of X G z8,mg_none_of X G z9,mg_none_of X G z10,mg_none_of X G z11,mg_none_of X G z12,mg_none_of X G z13,mg_none_of X G z14,mg_none_of X G z15,mg_of X G g0,mg_of X G g1,mg_of X G g2,mg_of X G g3,mg_of X G g4,mg_of X G g5,mg_of X G g6,mg_of X G g7,mg_of X G g8,mg_of X G g9⟩;have PC:OQ K C:=⟨⟨pg_C,hd_C,po_C,sa_C⟩,n_C_width,n_C_height,n_C_sorted_panes,n_C_by_square⟩;obtain⟨I_cW,mk_cW,kc_cW⟩:=M9 ic_cW;obtain⟨I_cU,mk_cU,kc_cU⟩:=M9 ic_cU;obtain⟨I_cL,mk_cL,kc_cL⟩:=M9 ic_cL;have R0:RT mg K cT cW cU cL:=TL kit I_cW I_cU I_cL (mg_of X G aT) (mg_of X G aC_cW) (mg_of X G aC_cU) (mg_of X G aC_cL);have kq0:=beq_iff_eq.mp kt0;have hB0:Tm K mg:=⟨bm,bsl,mg_of X G abm,nbm1,nbm2,lbm⟩;have RX0:RX mg K cX cG:=⟨mg_of X G aG,mg_of X G aC_cX,.inr eG,xm_cX,XCls.of xc_cX,nC_cX,nC2_cX,nC3_cX,kq0⟩;have F_cW:FunD K "__init__" "Whole.__init__" B2 f_cW _:=⟨⟨_,_,_,_,_,_,_,_,_,_,_,tn_cW,rfl,l_cW,cc_cW,lT_cW,by rw[eT_cW]⟩,k_cW⟩;have b_cW:=F_cW.binds (ps:=["self","mark"]) (ds:=[]) λ_ _ _ _ _ _ _ us hl=>by obtain⟨u0,u1,rfl⟩:=Uk ((aL us) ▸ hl);exact⟨_,rfl,rfl⟩
 have F33:=R5 (st:=Bo) l33 cc33 k33 ec33;have b33:=F33.fn.binds (ps:=["sheet","some"]) λ_ _ _ _ _ _ us hl=>by (repeat (obtain⟨_,_,e,h⟩:=O4 hl;clear hl;subst e;have hl:=h;clear h));cases O3 hl;rfl
 obtain⟨ha55,fd,F55⟩:=h55;obtain⟨oc,od,kV,doc,pm,an,cdv,ct,osl,rfl,lk,hcd⟩:=id F55.ex;refine⟨fnOf "law" "law" (B5 Iv) (A8 Iv) (Ai Iv) .none kV doc pm an cdv ct,λ s v=>.of_eq rfl,λ base _ _=>?_⟩;have c:HC l.prog w K mg base:=⟨h,X,G⟩;have K_Whole:MO l.prog w K mg base 1 "Whole" cW ["self","mark"] (Pr cW):=⟨_,_,⟨mk_cW,a_cWcW,i_cW,kc_cW⟩,HW F_cW R0,mg_of X G aC_cW,b_cW⟩;have K_Upright:=c.k mk_cU kc_cU aC_cU h_cUcU λ_ F=>Gb F R0;have K_Level:=c.k mk_cL kc_cL aC_cL h_cLcL λ_ F=>HZ F R0;have X_Stuck:=c.xm xc_cX ei_cX kC_cX aC_cX h_cXcX λ_ F x=>HX F x nC_cX nC2_cX nC3_cX;have D_is_whole:=c.d h0 λ_ F=>KU F T;have D_is_side:=c.d h1 λ_ F=>Mx F T D_is_whole;have D_is_rectangle:=c.d h2 λ_ F=>FZ F T D_is_whole;have D_inside:=c.d h3 λ_ F=>Oz F;have D_squares_of:=c.d h4 λ_ F=>HP F T;have D_check_sides:=c.d h5 λ_ F=>GN F D_is_side;have D_check_panes:=c.d h6 λ_ F=>GO F T D_is_rectangle D_inside;have D_panes_by_square:=c.d h7 λ_ F=>EE F T D_squares_of;have D_check_covered:=c.d h8 λ_ F=>F6 F D_squares_of;have K_Panel:=c.k mk_C kc_C aC h9C λ_ F=>HY F T PC D_check_sides D_check_panes D_panes_by_square D_check_covered;have M_Panel_panes:=c.m ⟨pg_C,hd_C,po_C,sa_C⟩ h10C λ_ F=>GQ F T PC;have M_Panel_pane_at:=c.m ⟨pg_C,hd_C,po_C,sa_C⟩ h11C λ_ F=>F7 F PC;have D_apart:=c.d h12 λ_ F=>PD F;have D_is_block:=c.d h13 λ_ F=>KW F T PC D_is_rectangle D_inside D_apart M_Panel_panes;have D_check_block:=c.d h14 λ_ F=>GP F D_is_block;have D_panes_in:=c.d h15 λ_ F=>KQ F D_check_block D_inside M_Panel_panes;have D_line_breaks:=c.d h16 λ_ F=>GI F;have D_goes_through:=c.d h17 λ_ F=>Ga F T D_line_breaks;have D_lines_through:=c.d h18 λ_ F=>F5 F T D_goes_through;have D_cut_from:=c.d (sp:=E6 cW cU cL) h19 λ_ F=>KY F T K_Upright K_Level;have D_tree_from:=c.d (sp:=Jv K cW cU cL) h20 λ_ F=>JH F T R0 K_Whole D_cut_from;have D_first_piece:=c.d h21 λ_ F=>GM F T;have D_other_piece:=c.d h22 λ_ F=>GH F T;have D_entries_by:=c.d h23 λ_ F=>HV F T D_first_piece D_other_piece;have D_runs:=c.d h24 λ_ F=>Rq F;have D_columns_parted:=c.d h25 λ_ F=>Ff F T M_Panel_pane_at;have D_rows_parted:=c.d h26 λ_ F=>GF F T M_Panel_pane_at;have D_level_leads:=c.d h27 λ_ F=>GJ F T D_runs D_columns_parted;have D_upright_leads:=c.d h28 λ_ F=>F4 F T D_runs D_rows_parted;have D_leads:=c.d h29 λ_ F=>PB F D_check_block D_level_leads D_upright_leads;have D_lies_on:=c.d h30 λ_ F=>Mw F;have D_turn:=c.d h31 λ_ F=>Rp F T D_lies_on;have D_entry_for:=c.d h32 λ_ F=>JQ F T D_lines_through;have D_cut_up:A2 l.prog w K mg base 8 "cut_up" ["sheet","some"] (Fw tb3):=⟨_,_,O0 F33 hC33 hB0 D_inside D_entry_for D_entries_by,mg_of X G a33,k33,b33⟩;have D_pane_broken:=c.d h34 λ_ F=>GG F D_line_breaks;have D_breaks_of:=c.d h35 λ_ F=>JR F T D_panes_in D_pane_broken;have D_one_longer:=c.d h36 λ_ F=>HQ F D_lies_on;have D_four_that_turn:=c.d h37 λ_ F=>Fe F T D_one_longer D_turn;have D_tree_of:=c.dx (sp:=Fv tb3 cW cU cL C cX) h38 λ_ F=>Mv F T PC X_Stuck M_Panel_panes D_cut_up D_breaks_of D_leads D_four_that_turn D_tree_from;have D__law_purse:=c.d h39 λ_ F=>JK F T;have D__law_take:=c.d h40 λ_ F=>KR F;have D__law_tiled:=c.d h41 λ_ F=>JJ F T D__law_purse D__law_take;have D__law_wheel:=c.d h42 λ_ F=>JI F T D__law_take;have D__law_cut_up:=c.d h43 λ_ F=>HS F T D__law_purse D__law_take;have D__law_panes_in:=c.d h44 λ_ F=>FY F T;have D__law_drawn:=c.d h45 λ_ F=>JO F D__law_purse D__law_take D__law_cut_up D__law_tiled D__law_wheel;have D__law_least:=c.d h46 λ_ F=>JN F T;have A__law_is_tree:∀n:Nat,A2 l.prog w K mg base (n+1) "_law_is_tree" ["_law_tree","_law_panes","_law_block"] (Dl cW cU cL n):=λ n=>by
  induction n with
  |zero=>exact c.d h47 λ_ F=>RA F E2 λ_ _ _ _=>Rw
  |succ n ih=>exact c.d h47 λ_ F=>GK F T R0 D__law_panes_in D__law_least ih
 have D__law_is_tree:=A__law_is_tree 24;have D__law_unlike:=c.d h48 λ_ F=>HR F T;have D__law_level:=c.d h49 λ_ F=>JM F D__law_unlike;have D__law_lead:=c.d h50 λ_ F=>KS F T D__law_unlike D__law_level;have D__law_meets:=c.d h51 λ_ F=>JL F;have D__law_broken:=c.d h52 λ_ F=>HU F T;have D__law_is_room:=c.d h53 λ_ F=>GL F T RX0 D__law_panes_in D__law_broken D__law_lead D__law_meets;have D__law_asked:=c.d (sp:=G0 tb3 cW cU cL C cX) h54 λ_ F=>JP F RX0 D_tree_of;exact SG F55 T RX0 D__law_drawn K_Panel D__law_asked D__law_is_tree D__law_is_room
theorem walk(tb3:Addr){l:OpenLaw}{q:Program}{loose:LSz}{XP:(MGz)->Heap->Prop}{YP:World->Heap->Prop}{d:DefRec}{K:Params->Frag}{Ts:List Addr}(hm_tb3:tb3∈Ts)(hn:l.most=some 63)(hdf:d.params.defaults=[])
  (hY:∀(w:World)(h:Heap),YP w h->(K w.params).In h) (hT:∀(w:World)(h:Heap),YP w h->∀T∈Ts,h.get? T=some (tabObj #[])/\(K w.params).lookup T=none/\∃c,CodeHd h c T)
  (F:∀(w:World)(mg:MGz)(fa:Addr)(h:Heap),(K w.params).In h->h.Ns mainGlobals mg->mg d.name=some (.ref fa) ->
   ∃fd:FuncData,(∀(s:Shared)(u:Value),BindsTo s fd ⟨[u],[]⟩ [("_law_script",u)])/\∀base:Heap,(K w.params).In base->base.Ns mainGlobals mg->A5 l.prog w (K w.params) mg base CX0 26 fa fd ["_law_script"] (sp_law tb3 (K w.params))) :
  WalkO q loose XP YP l.row.toRowW d [] (λ f vs=>PySem.call f vs) :=
 L2.walk_ofT (n:=63) (k:=26) (x:="_law_script") (CX:=λ_=>CX0) (sp:=λ w=>sp_law tb3 (K w.params)) hn (by decide) hdf ⟨rfl,by decide,by decide⟩ hY hT F (λ_ _ a ns hl hO hS=>⟨a,ns,rfl,hS,hl,hO.2 tb3 hm_tb3,λ_=>rfl⟩) λ_ _ _ _ _ z=>z
end K23
open PySem PySem.W PyProof.Rows
set_option maxRecDepth 100000 in
set_option maxHeartbeats 0 in
theorem PySem.Challenge.cw_glazebench_k23_whole_tree_or_room_holds : PySem.Challenge.rw_glazebench_k23_whole_tree_or_room.Holds := by
 refine KH.prep fun said => ?_
 have fx : ∀ s, KH.Xp PySem.Challenge.pw_glazebench_k23_whole_tree_or_room s = true → XL (KH.qv PySem.Challenge.pw_glazebench_k23_whole_tree_or_room) [] (s.heap.nsMap mainGlobals) s.heap := fun s e => xl_of s (eY.mp e).1
 have fr : ∀ s, KH.Xp PySem.Challenge.pw_glazebench_k23_whole_tree_or_room s = true → RecFacts (RowW.records (OpenRow.toRowW PySem.Challenge.rw_glazebench_k23_whole_tree_or_room.row)) s.heap := fun s e => recFacts_of (eY.mp e).2
 refine holds_open (XP := XL (KH.qv PySem.Challenge.pw_glazebench_k23_whole_tree_or_room) []) KH.left (L2.hookT (kHook KH.KK KH.kas KH.kas_is) KH.Ts).of (L2.hookT (kHook KH.KK KH.kas KH.kas_is) KH.Ts).keeps fx XL.keeps (by rfl) (by rfl) (by rfl) fr (by rfl) said (by decide +kernel) ?hb ?hw ?hc
 case hb => exact ⟨rfl,rfl, rfl,rfl, rfl, by decide +kernel⟩
 case hw => w_witness2
 case hc =>
  k_fill
  refine K23.walk (l := PySem.Challenge.rw_glazebench_k23_whole_tree_or_room) (Ts := KH.Ts) 525 (by simp [KH.Ts]) rfl rfl (fun w h Y => PySem.W.kIn_of Y.1) ?HT ?F
  case HT =>
   intro w h Y T hT
   refine ⟨Y.2 T hT, ?_⟩
   have hT : T ∈ [525] := hT
   simp only [aO, aU, or_false] at hT
   subst hT
   ·exact ⟨by kernel_rfl, 529, L2.codeTB_of (c := 529) (T := 525) (by kernel_rfl) h (PySem.W.kIn_of Y.1)⟩
  case F =>
   intro w mg fa h KX G hmg
   refine' K23.all_mk (tb3 := 525) KX G hmg ?my_aC ?my_pg_C ?my_hd_C ?my_po_C ?my_sa_C ?my_mk_C ?my_kc_C ?my_n_C_width ?my_n_C_height ?my_n_C_sorted_panes ?my_n_C_by_square ?my_aT ?my_aC_cW ?my_ic_cW ?my_a_cWcW ?my_i_cW ?my_l_cW ?my_cc_cW ?my_k_cW ?my_lT_cW ?my_eT_cW ?my_aC_cU ?my_ic_cU ?my_h_cUcU ?my_aC_cL ?my_ic_cL ?my_h_cLcL ?my_kit ?my_aG ?my_eG ?my_aC_cX ?my_kC_cX ?my_nC_cX ?my_nC2_cX ?my_nC3_cX ?my_h_cXcX ?my_ei_cX ?my_xc_cX ?my_xm_cX ?my_kt0 ?my_h0 ?my_h1 ?my_h2 ?my_h3 ?my_h4 ?my_h5 ?my_h6 ?my_h7 ?my_h8 ?my_h9C ?my_h10C ?my_h11C ?my_h12 ?my_h13 ?my_h14 ?my_h15 ?my_h16 ?my_h17 ?my_h18 ?my_h19 ?my_h20 ?my_h21 ?my_h22 ?my_h23 ?my_h24 ?my_h25 ?my_h26 ?my_h27 ?my_h28 ?my_h29 ?my_h30 ?my_h31 ?my_h32 ?my_a33 ?my_l33 ?my_cc33 ?my_k33 ?my_ec33 ?my_hC33 ?my_h34 ?my_h35 ?my_h36 ?my_h37 ?my_h38 ?my_h39 ?my_h40 ?my_h41 ?my_h42 ?my_h43 ?my_h44 ?my_h45 ?my_h46 ?my_h47 ?my_h48 ?my_h49 ?my_h50 ?my_h51 ?my_h52 ?my_h53 ?my_h54 ?my_h55 ?my_abm ?my_lbm ?my_nbm1 ?my_nbm2 ?my_z0 ?my_z1 ?my_z2 ?my_z3 ?my_z4 ?my_z5 ?my_z6 ?my_z7 ?my_z8 ?my_z9 ?my_z10 ?my_z11 ?my_z12 ?my_z13 ?my_z14 ?my_z15 ?my_g0 ?my_g1 ?my_g2 ?my_g3 ?my_g4 ?my_g5 ?my_g6 ?my_g7 ?my_g8 ?my_g9
   (case my_aC => k_is); (case my_pg_C => k_is); (case my_hd_C => k_is); (case my_po_C => k_is); (case my_sa_C => k_is); (case my_mk_C => k_is); (case my_kc_C => k_is); (case my_n_C_width => k_is)
   (case my_n_C_height => k_is); (case my_n_C_sorted_panes => k_is); (case my_n_C_by_square => k_is); (case my_aT => k_is); (case my_aC_cW => k_is); (case my_a_cWcW => k_is); (case my_i_cW => k_is); (case my_l_cW => k_is)
   (case my_cc_cW => k_is); (case my_k_cW => k_is); (case my_lT_cW => k_is); (case my_aC_cU => k_is); (case my_aC_cL => k_is); (case my_aG => k_is); (case my_aC_cX => k_is); (case my_kC_cX => k_is)
   (case my_nC_cX => k_is); (case my_nC2_cX => k_is); (case my_nC3_cX => k_is); (case my_xm_cX => k_is); (case my_a33 => k_is); (case my_l33 => k_is); (case my_cc33 => k_is); (case my_k33 => k_is)
   (case my_abm => k_is); (case my_lbm => k_is); (case my_z0 => k_is); (case my_z1 => k_is); (case my_z2 => k_is); (case my_z3 => k_is); (case my_z4 => k_is); (case my_z5 => k_is)
   (case my_z6 => k_is); (case my_z7 => k_is); (case my_z8 => k_is); (case my_z9 => k_is); (case my_z10 => k_is); (case my_z11 => k_is); (case my_z12 => k_is); (case my_z13 => k_is)
   (case my_z14 => k_is); (case my_z15 => k_is); (case my_g0 => k_is); (case my_g1 => k_is); (case my_g2 => k_is); (case my_g3 => k_is); (case my_g4 => k_is); (case my_g5 => k_is)
   (case my_g6 => k_is); (case my_g7 => k_is); (case my_g8 => k_is); (case my_g9 => k_is); (case my_eT_cW => rfl); (case my_ec33 => rfl); (case my_ic_cW => kernel_rfl); (case my_ic_cU => kernel_rfl)
   (case my_ic_cL => kernel_rfl); (case my_kit => kernel_rfl); (case my_eG => kernel_rfl); (case my_ei_cX => kernel_rfl); (case my_xc_cX => kernel_rfl); (case my_kt0 => kernel_rfl); (case my_hC33 => kernel_rfl); (case my_nbm1 => decide)
   (case my_nbm2 => decide)
   case my_h_cUcU | my_h_cLcL | my_h_cXcX | my_h9C | my_h10C | my_h11C => exact ⟨by k_is, by k_is, _, ⟨⟨_,_,_,_,_,_,_,_,_,rfl, by k_is, by k_is⟩, by k_is⟩⟩
   case my_h0 | my_h1 | my_h2 | my_h3 | my_h4 | my_h5 | my_h6 | my_h7 | my_h8 | my_h12 | my_h13 | my_h14 | my_h15 | my_h16 | my_h17 | my_h18 | my_h19 | my_h20 | my_h21 | my_h22 | my_h23 | my_h24 | my_h25 | my_h26 | my_h27 | my_h28 | my_h29 | my_h30 | my_h31 | my_h32 | my_h34 | my_h35 | my_h36 | my_h37 | my_h38 | my_h39 | my_h40 | my_h41 | my_h42 | my_h43 | my_h44 | my_h45 | my_h46 | my_h47 | my_h48 | my_h49 | my_h50 | my_h51 | my_h52 | my_h53 | my_h54 | my_h55 => exact ⟨by k_is, _, ⟨⟨_,_,_,_,_,_,_,_,_,rfl, by k_is, by k_is⟩, by k_is⟩⟩
