import PyProof.Rows.All
import Wide.All
import OpenK.AllK
import Wide.FinOn
import Lean
import PyProof.EqAt
import PyProof.EqKinds
import PyProof.TupleCall
import PyProof.Rows.SortRuns
import PyProof.NeKinds
import PyProof.ExcAttrAll.ValueError
import PyProof.StationsW
import PyProof.PassesOwn
import PyProof.RulesAs
import PyProof.NsDelKeeps
import PyProof.CompMap
import PyProof.DictItems
import KE.KPairComp
import KE.KMinKey
import KE.KDictList
import KE.KDictOf
import KE.KEqDict
import PyProof.DictIter
import PyProof.DictWalks
import PyProof.Rows.DictUnroll
import KE.KRevIter
import KE.KLam
import KE.KSortKey
import KE.KSortTup
import PyProof.Rows.StrJoin2
import PyProof.Rows.StrNews
import PyProof.StrLawsTight
import PyProof.StrWalks
import PyProof.StrBlockH
import KE.KIntText
import KE.LcSums
import KE.KNest
import PyProof.ZipIter
import KE.KItemsList
import KE.KDictSum
import PyProof.Rows.SetFrom
import PyProof.Draws
import KE.KDictLaws
import PyProof.SumWalkG
import PyProof.Rows.TupIter
import PyProof.WalksMore
import PySem.Challenge.RW_glazebench_k44_whole_all_panels_of_a_siz
set_option Elab.async false
set_option linter.all false
set_option maxRecDepth 100000
open List renaming length_map→aa,getElem?_eq_getElem→ag,mem_singleton→ai,map_append→aj,size_toArray→ak,length_append→av,mem_append_right→aw,mem_of_getElem?→ax,getElem?_map→ay,mem_map→az,map_cons→aA,mem_cons_self→aD,mem_append→aF,getElem?_eq_some_iff→aG,take_length→aH,mem_cons_of_mem→aI,map_map→aJ,take_succ→aK,length_cons→aN,mem_cons→aP,getD_eq_getElem?_getD→aS,all_eq_true→aU,append_assoc→aW,length_singleton→aX,append_nil→aY,lookup_cons→a9,filter_append→ba,mem_range→bi,getElem?_eq_none→bj,length_filter_le→br,find?_cons→bu,not_mem_nil→bx,length_take→bB,filter_cons→bC,drop_length→bD,range_succ→bF,getElem_mem→bH,filter_nil→bK,drop_eq_getElem_cons→bM,dropLast_concat→bN,length_eq_zero_iff→bT,nodup_cons→bZ,length_nil→b5,dropLast_concat_getLast→b6,getElem?_append_right→ci,map_nil→cj,pairwise_iff_getElem→cq,mem_filter→cw,nodup_nil→cy,length_range→cz,foldl_append→cA,ext_getElem?→cB,drop_zero→cC,mem_append_left→cH,sum_append→cI,getElem?_range→cJ,filter_eq_self→cK,pairwise_cons→cQ,any_cons→cX,any_eq_true→cY,length_eq_one_iff→c9,any_map→da,nil_append→dc,map_eq_cons_iff→dj,getD→dq,map_congr_left→du,getElem_of_mem→dv,flatMap_append→dw,filterMap_cons→dy,all_cons→dz,zip_cons_cons→dC,map_singleton→dD,length_drop→dM,cons_append→dN,of_mem_zip→dP,forIn_cons→dQ,foldl_cons→dR,nodup_iff_pairwise_ne→dY,filter_cons_of_pos→eF,filter_cons_of_neg→eG,take_of_length_le→eI,getElem?_set_self→eJ,filter_eq_nil_iff→eK,take_append_drop→eQ,mem_iff_getElem?→eR,getElem?_toArray→eS,contains_iff_mem→eU,mem_of_mem_drop→eZ,getElem?_set_ne→fc
open PySem.Heap renaming get?_push_of_some→ae,lt_size→aq,get?_push_size→au,size_push→bt,get?_update_self→ce,get?_push_ne→cf,get?_update_ne→cu,size_update→cZ,get?_update_other→eL
open Nat renaming le_refl→ah,ne_of_lt→aB,le_of_lt→aM,lt_of_lt_of_le→aO,zero_le→aQ,le_trans→aR,lt_succ_of_lt→bc,lt_succ_self→bg,lt_irrefl→bE,le_succ→bI,le_antisymm→b8,sub_self→cN,lt_or_ge→cO,lt_of_le_of_lt→cS,mul_le_mul→dm,add_assoc→dB,add_sub_cancel→dE,ne_of_gt→dG,lt_of_succ_lt→dH,le_of_eq→dI,not_lt→d8,succ_mul→eM,sub_zero→eN,min_self→eP,le_of_ble_eq_true→eY
open Bool renaming false_ne_true→ao,and_eq_true→aE,false_eq_true→aL,eq_iff_iff→b7,not_true→cE,or_eq_true→de,and_false→dk,and_true→ez,and_eq_true_iff→ff
open Or renaming inl→ar,inr→di
open Array renaming length_toList→aV,getElem?_eq_getElem→bq,getElem?_eq_none→bV,getElem?_toList→b9,forIn_toList→cx,getD_eq_getD_getElem?→cM,getElem?_eq_some_iff→cP,toArray_toList→eX,toList_append→fh
open Option renaming map_eq_some_iff→aZ,map_some→bJ,bind_eq_some_iff→bS,toList→bY,isSome_iff_exists→cr,isSome_map→dA
open Int renaming le_refl→bf,emod_lt_of_pos→bL,emod_nonneg→bO,toNat_natCast→bQ,toNat_of_nonneg→bU,fdiv_eq_ediv_of_nonneg→cV,zero_add→dJ,le_trans→dL,mul_le_mul→d9,fmod_eq_emod_of_nonneg→ee,add_zero→eW
open PySem.F renaming plainAttrs_list→bn,slot_dict_valueiterator_next→bp,called_set→bG,plainAttrs_dict→bR,type_list_pop→bW,slot_list_pop→bX,slot_dict_values→cm,type_dict_values→cR,slot_dict_get→c7,args_dict_valueiterator_next_1→db,entry_dict_valueiterator_next→dh,slot_dict_values_iter→dF,type_list_extend→dS,slot_list_extend→dU,slot_dict_items→dW,args_dict_get_3→dX,entry_dict_get→dZ,slot_set_iter→ef,slot_dict_len→eh
open List.Perm renaming refl→bP
open Prod renaming ext→cG,mk→c8
open Classical renaming byContradiction→dO
abbrev VPz:=PySem.Value→PySem.Shared→Prop
abbrev PNz:=List (PySem.Addr × PySem.Obj)
abbrev MGz:=PySem.Str→Option PySem.Value
abbrev AOz:=Array (Option PySem.Value)
abbrev LSz:=List PySem.Str
abbrev LWz:=List PySem.Value
namespace L2
open PySem.W
open PySem PySem.Spec PyProof.Rows
abbrev Key:=Sum Int Str
def Hr:Key->Value->Bool
 |.inl k,v=>Value.isInt k v
 |.inr x,v=>Value.isStrOf x v
def UG(w:World):Key->Int
 |.inl k=>hashInt k
 |.inr x=>hashStr w x
theorem AM:∀{k:Key}{v:Value},Hr k v=true->(∃i t,k=Sum.inl i/\v=Value.int i t)\/(∃x t,k=Sum.inr x/\v=Value.str x t)
 |.inl i,v,h=>by
  obtain⟨t,e⟩:=Value.isInt_shape (k:=i) (v:=v) h;exact .inl ⟨i,t,rfl,e⟩
 |.inr x,v,h=>by
  obtain⟨t,e⟩:=Value.isStrOf_shape (x:=x) (v:=v) h;exact .inr ⟨x,t,rfl,e⟩
theorem NQ(i:Int)(t:Tok):Hr (.inl i) (.int i t)=true:=by simp[Hr,Value.isInt]
theorem NP(x:Str)(t:Tok):Hr (.inr x) (.str x t)=true:=by simp[Hr,Value.isStrOf]
theorem Sz(a b:Int):decide ((Sum.inl a:Key)=Sum.inl b)=(a==b):=by
 by_cases e:a=b
 .subst e;simp
 .have h:¬(Sum.inl a:Key)=Sum.inl b:=λ q=>e (Sum.inl.inj q);rw[decide_eq_false h];exact(beq_eq_false_iff_ne.mpr e).symm
theorem Sw(a b:Str):decide ((Sum.inr a:Key)=Sum.inr b)=decide (a=b):=by
 by_cases e:a=b
 .subst e;simp
 .have h:¬(Sum.inr a:Key)=Sum.inr b:=λ q=>e (Sum.inr.inj q);rw[decide_eq_false h,decide_eq_false e]
theorem Sy(a:Int)(b:Str):decide ((Sum.inl a:Key)=Sum.inr b)=false:=decide_eq_false (λ q=>nomatch q)
theorem Sx(a:Str)(b:Int):decide ((Sum.inr a:Key)=Sum.inl b)=false:=decide_eq_false (λ q=>nomatch q)
def Ay(prog:Program)(w:World):PySem.KeyKind prog w Key where
 is:=Hr
 hash:=UG w
 inj:=λ v a b ha hb=>by
  rcases AM ha with ⟨i,t,rfl,rfl⟩|⟨x,t,rfl,rfl⟩
  .rcases AM hb with ⟨j,u,rfl,e⟩|⟨y,u,rfl,e⟩
   .injection e with e1 _;rw[e1]
   .exact nomatch e
  .rcases AM hb with ⟨j,u,rfl,e⟩|⟨y,u,rfl,e⟩
   .exact nomatch e
   .injection e with e1 _;rw[e1]
 byValue:=λ k v h=>by
  rcases AM h with ⟨i,t,rfl,rfl⟩|⟨x,t,rfl,rfl⟩<;>rfl
 pyHash:=λ hv h=>by
  rcases AM hv with ⟨i,t,rfl,rfl⟩|⟨x,t,rfl,rfl⟩
  .exact wpAny_pyHash_int h
  .exact wpAny_pyHash_str h
 eqBool:=λ hu hv h=>by
  rcases AM hu with ⟨i,t,rfl,rfl⟩|⟨x,t,rfl,rfl⟩
  .rcases AM hv with ⟨j,u,rfl,rfl⟩|⟨y,u,rfl,rfl⟩
   .rw[Sz]at h;exact wpAny_eqBool_int h
   .rw[Sy]at h;exact SeqAt.EqAt.int_str i t y u _ _ _ _ h
  .rcases AM hv with ⟨j,u,rfl,rfl⟩|⟨y,u,rfl,rfl⟩
   .rw[Sx]at h;exact SeqAt.EqAt.str_int x t j u _ _ _ _ h
   .rw[Sw]at h;exact wpAny_eqBool_str h
 «strs»:=λ k x t v h=>by
  rcases AM h with ⟨i,u,rfl,e⟩|⟨y,u,rfl,e⟩
  .exact nomatch e
  .injection e with e1 _;subst e1;cases v<;>rfl
theorem KO(prog:Program)(w:World)(i:Int)(t:Tok):(Ay prog w).is (.inl i) (.int i t)=true:=NQ i t
theorem KN(prog:Program)(w:World)(x:Str)(t:Tok):(Ay prog w).is (.inr x) (.str x t)=true:=NP x t
inductive V where
 |non|bl (b:Bool)|int (i:Int)|str (x:Str)|byt (b:Array UInt8)|flt (b:UInt64)|ref (a:Addr)|ty (n:String)
 deriving DecidableEq
abbrev LKz:=List (List Key×V)
abbrev LFz:=List (Str×V)
abbrev LUz:=List V
def RelV:V->Value->Prop
 |.non,u=>u=Value.none
 |.bl b,u=>u=Value.bool b
 |.int i,u=>∃t,u=Value.int i t
 |.str x,u=>∃t,u=Value.str x t
 |.byt b,u=>∃t,u=Value.bytes b t
 |.flt b,u=>∃t,u=Value.float b t
 |.ref a,u=>u=Value.ref a
 |.ty n,u=>u=Value.type n
abbrev Vals:LUz->LWz->Prop:=Paired RelV
theorem Vals.length{xs:LUz}{us:LWz}(r:Vals xs us):xs.length=us.length:=Paired.length r
theorem Vals.get:∀{xs:LUz}{us:LWz}{i:Nat}{x:V},Vals xs us->xs[i]?=some x->∃u,us[i]?=some u/\RelV x u
 |_,_,_,_,.nil,e=>by simp at e
 |_,_,0,_,.cons r _,e=>by simp at e;subst e;exact⟨_,rfl,r⟩
 |_,_,i+1,x,.cons _ t,e=>by
  obtain⟨u,h1,h2⟩:=Vals.get (i:=i) (x:=x) t (by simpa using e);exact⟨u,by simpa using h1,h2⟩
theorem Vals.set{x:V}{u:Value}(r:RelV x u):∀{xs:LUz}{us:LWz}(i:Nat),Vals xs us->Vals (xs.set i x) (us.set i u)
 |_,_,_,.nil=>.nil
 |_,_,0,.cons _ t=>.cons r t
 |_,_,i+1,.cons q t=>.cons q (Vals.set r i t)
theorem Vals.append:∀{xs ys:LUz}{us ws:LWz},Vals xs us->Vals ys ws->Vals (xs++ys) (us++ws)
 |_,_,_,_,.nil,s=>s
 |_,_,_,_,.cons r t,s=>.cons r (Vals.append t s)
theorem Vals.take:∀{xs:LUz}{us:LWz}(n:Nat),Vals xs us->Vals (xs.take n) (us.take n)
 |_,_,0,_=>.nil
 |_,_,_+1,.nil=>.nil
 |_,_,n+1,.cons r t=>.cons r (Vals.take n t)
theorem Vals.drop:∀{xs:LUz}{us:LWz}(n:Nat),Vals xs us->Vals (xs.drop n) (us.drop n)
 |_,_,0,r=>r
 |_,_,_+1,.nil=>.nil
 |_,_,n+1,.cons _ t=>Vals.drop n t
def RelO:Option V->Option Value->Prop
 |some v,some u=>RelV v u
 |none,none=>True
 |_,_=>False
def KV{κ:Type}:List (κ×V)->List (κ×Value)->Prop:=Paired λ(p:κ×V)(q:κ×Value)=>p.1=q.1/\RelV p.2 q.2
def kV:Key->V
 |.inl i=>.int i
 |.inr x=>.str x
inductive HO where
 |lst (xs:LUz)
 |tup (xs:LUz)
 |dK (kvs:List (Key×V))|dT (kvs:LKz)
 |set (S:Int->Bool) (n:Nat)
 |ins (C dx:Addr) (fs:LFz)
 |own (x:Addr)
 |xd (fs:LFz)
 |met (f x:Addr)
 |rng (lo hi:Int)
 |frz (o:Obj) (u:HO)
 |tbl (ps:Array Value)
 |ext (φ:Heap->Prop)
abbrev Hp:=Addr->Option HO
def upd(H:Hp)(a:Addr)(o:HO):Hp:=λ b=>if b=a then some o else H b
theorem Ad{H:Hp}{a:Addr}{o:HO}:upd H a o a=some o:=by unfold upd;rw[if_pos rfl]
theorem Af{H:Hp}{a b:Addr}{o:HO}(h:b≠a):upd H a o b=H b:=by unfold upd;rw[if_neg h]
theorem Jv{H:Hp}{a:Addr}{o u:HO}:upd (upd H a o) a u=upd H a u:=by
 funext b;unfold upd;split<;>rfl
theorem AR{H:Hp}{a b:Addr}{o u:HO}(h:H a=some o)(h':H b=some u)(d:o≠u):a≠b:=by
 intro e;subst e;rw[h]at h';exact d (Option.some.inj h')
theorem Ag{H:Hp}{a b:Addr}{o:HO}(h:H a=some o)(h':H b=none):a≠b:=by
 intro e;subst e;rw[h]at h';cases h'
section
variable(P:Program)(w:World)
def ObjOk(H:Hp)(h:Heap)(a:Addr):HO->Prop
 |.lst xs=>xs.length<=sizeLine/\∃(its:LWz)(n:Nat),Vals xs its/\h.get? a=some { cls:=.type "list",data:=.seq its.toArray n }
 |.tup xs=>xs.length<=sizeLine/\∃its:LWz,Vals xs its/\IsTup h a its.toArray
 |.dK kvs=>kvs.length<=sizeLine/\(a==sysModules)=false/\∃vs,KV kvs vs/\h.DictOf (Ay P w) a vs
 |.dT kvs=>kvs.length<=sizeLine/\(a==sysModules)=false/\∃xs:List (List Key×Addr×Value),
   Paired (λ(p:List Key×V)(q:List Key×Addr×Value)=>p.1=q.1/\H q.2.1=some (.tup (p.1.map kV))/\RelV p.2 q.2.2) kvs xs /\
   ∃o es ep,h.get? a=some o/\o.ExactDict/\o.data=.dict es ep/\es.toList=xs.map (entryOfKey (tupleKind (Ay P w)))/\(xs.map (·.1)).Nodup
 |.set S n=>h.SetOf (intKind P w) a S n
 |.ins C dx fs=>H dx=some (.own a)/\fs.length<=1000/\dx≠a/\h.get? a=some (instObj C dx) /\
   ∃mA,h.Ns1 dx mA/\(∀f,RelO (fs.lookup f) (mA f))/\PySem.Within mA (fs.map (·.1))
 |.own _=>∃o,h.get? a=some o
 |.xd fs=>∃mA,h.Ns1 a mA/\∀f,RelO (fs.lookup f) (mA f)
 |.rng lo hi=>∃t u v,h.get? a=some { cls:=.type "range",data:=.fields #[.int lo t,.int hi u,.int 1 v] }
 |.frz o u=>h.get? a=some o/\ObjOk H h a u
 |.tbl ps=>h.get? a=some { cls:=.none,data:=.fields ps }
 |.met f x=>h.get? a=some (methodObj (.ref f) (.ref x))
 |.ext φ=>φ h/\(∃o,h.get? a=some o)/\∀h1 h2:Heap,φ h1->(∀o,h1.get? a=some o->h2.get? a=some o)->φ h2
def HOk(H:Hp)(h:Heap):Prop:=∀a o,H a=some o->ObjOk P w H h a o
end
section
variable{P:Program}{w:World}{H H':Hp}{h h':Heap}{a:Addr}{o:HO}
theorem ObjOk.lt(x:ObjOk P w H h a o):a<h.objs.size:=by
 cases o with
 |lst xs=>obtain⟨_,_,_,_,e⟩:=x;exact aq e
 |tup xs=>obtain⟨_,_,_,p⟩:=x;exact p.lt
 |dK kvs=>obtain⟨_,_,_,_,o,_,_,e,_⟩:=x;exact aq e
 |dT kvs=>obtain⟨_,_,_,_,o,_,_,e,_⟩:=x;exact aq e
 |set S n=>obtain⟨o,_,_,_,e,_⟩:=x;exact aq e
 |ins C dx fs=>obtain⟨_,_,_,e,_⟩:=x;exact aq e
 |own y=>obtain⟨_,e⟩:=x;exact aq e
 |xd fs=>obtain⟨_,⟨_,_,_,e,_⟩,_⟩:=x;exact aq e
 |rng lo hi=>obtain⟨_,_,_,e⟩:=x;exact aq e
 |frz ob u=>obtain⟨e,_⟩:=x;exact aq e
 |tbl ps=>exact aq (show h.get? a=some _ from x)
 |met f y=>exact aq (show h.get? a=some _ from x)
 |ext φ=>obtain⟨_,⟨_,e⟩,_⟩:=x;exact aq e
theorem Paired.mapP{α β:Type}{F G:α->β->Prop}:∀{l₁:List α}{l₂:List β},Paired F l₁ l₂->(∀a b,F a b->G a b)->Paired G l₁ l₂
 |_,_,.nil,_=>.nil
 |_,_,.cons r t,f=>.cons (f _ _ r) (Paired.mapP t f)
theorem ObjOk.stay(x:ObjOk P w H h a o)(k:∀b u,(b=a\/H b=some (.own a))->h.get? b=some u->h'.get? b=some u)
  (ho:∀b,H b=some (.own a)->H' b=some (.own a)) (ht:∀b xs,H b=some (.tup xs)->H' b=some (.tup xs)):ObjOk P w H' h' a o:=by
 induction o with
 |lst xs=>obtain⟨z,its,n,r,e⟩:=x;exact⟨z,its,n,r,k _ _ (.inl rfl) e⟩
 |tup xs=>obtain⟨z,its,r,ob,e,c⟩:=x;exact⟨z,its,r,ob,k _ _ (.inl rfl) e,c⟩
 |dK kvs=>obtain⟨z,y,vs,r,ob,es,ep,e,c⟩:=x;exact⟨z,y,vs,r,ob,es,ep,k _ _ (.inl rfl) e,c⟩
 |dT kvs =>
  obtain⟨z,y,xs,r,ob,es,ep,e,c⟩:=x;exact⟨z,y,xs,Paired.mapP r λ p q z=>⟨z.1,ht _ _ z.2.1,z.2.2⟩,ob,es,ep,k _ _ (.inl rfl) e,c⟩
 |set S n=>obtain⟨ob,es,ep,t,e,c⟩:=x;exact⟨ob,es,ep,t,k _ _ (.inl rfl) e,c⟩
 |ins C dx fs =>
  obtain⟨d,z,ne,e,mA,⟨od,es,ep,e2,c⟩,r⟩:=x;exact⟨ho _ d,z,ne,k _ _ (.inl rfl) e,mA,⟨od,es,ep,k _ _ (.inr d) e2,c⟩,r⟩
 |own y=>obtain⟨ob,e⟩:=x;exact⟨ob,k _ _ (.inl rfl) e⟩
 |xd fs=>obtain⟨mA,⟨od,es,ep,e,c⟩,r⟩:=x;exact⟨mA,⟨od,es,ep,k _ _ (.inl rfl) e,c⟩,r⟩
 |rng lo hi=>obtain⟨t,u,v,e⟩:=x;exact⟨t,u,v,k _ _ (.inl rfl) e⟩
 |frz ob u ih=>obtain⟨e,q⟩:=x;exact⟨k _ _ (.inl rfl) e,ih q⟩
 |tbl ps =>
  have e:h.get? a=some { cls:=.none,data:=.fields ps }:=x;show h'.get? a=some { cls:=.none,data:=.fields ps };exact k a _ (.inl rfl) e
 |met f y =>
  have e:h.get? a=some (methodObj (.ref f) (.ref y)):=x;show h'.get? a=some (methodObj (.ref f) (.ref y));exact k a _ (.inl rfl) e
 |ext φ=>obtain⟨p,⟨o,e⟩,st⟩:=x;exact⟨st _ _ p λ o q=>k _ _ (.inl rfl) q,⟨o,k _ _ (.inl rfl) e⟩,st⟩
theorem HOk.lt(x:HOk P w H h)(e:H a=some o):a<h.objs.size:=(x a o e).lt
theorem HOk.fresh(x:HOk P w H h)(e:h.objs.size<=a):H a=none:=by
 cases q:H a with
 |none=>rfl
 |some u=>exact absurd (aO (x.lt q) e) (bE _)
theorem HOk.kept(x:HOk P w H h)(k:∀b u,h.get? b=some u->h'.get? b=some u):HOk P w H h':=λ a o e =>
 (x a o e).stay (λ b u _ q=>k b u q) (λ_ q=>q) λ_ _ q=>q
theorem HOk.laid(x:HOk P w H h)(k:∀b u,h.get? b=some u->h'.get? b=some u)(hp:h.objs.size<=a)(new:ObjOk P w (upd H a o) h' a o):HOk P w (upd H a o) h':=λ b u e=>by
 have hn:=x.fresh hp;by_cases hb:b=a
 .subst hb;rw[Ad]at e;cases e;exact new
 .rw[Af hb]at e;exact(x b u e).stay (λ c v _ q=>k c v q) (λ c q=>by rw[Af (Ag q hn)];exact q) λ c xs q=>by rw[Af (Ag q hn)];exact q
end
def Rd(H:Hp)(a:Addr)(u:HO):Prop:=H a=some u\/∃o,H a=some (.frz o u)
theorem Rd.ok{P:Program}{w:World}{H:Hp}{h:Heap}{a:Addr}{u:HO}(r:Rd H a u)(x:HOk P w H h):ObjOk P w H h a u:=by
 rcases r with r|⟨o,r⟩
 .exact x a u r
 .obtain⟨_,q⟩:=x a _ r;exact q
def Mut:Option HO->Prop
 |some (.lst _)=>True
 |some (.dK _)=>True
 |some (.dT _)=>True
 |some (.set _ _)=>True
 |some (.ins _ _ _)=>True
 |some (.ext _)=>True
 |_=>False
section
variable{P:Program}{w:World}{H:Hp}{h h':Heap}{x e:Addr}{o':HO}
theorem HOk.write(ok:HOk P w H h)(mu:Mut (H x))(he:e=x\/H e=some (.own x))(k:∀b u,b≠e->h.get? b=some u->h'.get? b=some u)(heo:∃u,h'.get? e=some u)
  (new:ObjOk P w (upd H x o') h' x o'):HOk P w (upd H x o') h':=λ b u q=>by
 have nown:∀c y,H c=some (.own y)->c≠x:=λ c y r z=>by subst z;rw[r]at mu;exact mu
 have ntup:∀c xs,H c=some (.tup xs)->c≠x:=λ c xs r z=>by subst z;rw[r]at mu;exact mu
 by_cases hb:b=x
 .subst hb;rw[Ad]at q;cases q;exact new
 .rw[Af hb]at q;by_cases hbe:b=e
  .have q':H b=some (.own x):=by
    rcases he with z|z
    .exact absurd (hbe.trans z) hb
    .rw[hbe];exact z
   rw[q]at q';cases q';obtain⟨v,hv⟩:=heo;exact⟨v,by rw[hbe];exact hv⟩
  .refine(ok b u q).stay (λ c v hc r=>k c v ?_ r) (λ c r=>by rw[Af (nown c b r)];exact r) λ c xs r=>by rw[Af (ntup c xs r)];exact r
   rcases hc with rfl|hc
   .exact hbe
   .rintro rfl;rcases he with z|z
    .exact nown c b hc z
    .rw[hc]at z;cases z;exact hb rfl
end
structure Un(fs ex:List Addr)(H H':Hp)(h h':Heap):Prop where
 keep:∀b o,h.get? b=some o->H b=none->b∉fs->b∉ex->h'.get? b=some o
 slot:∀b o,h.get? b=some o->H b=none->b∈fs->b∉ex->∃sl,h'.get? b=some { o with slots:=sl }
 free:∀b o,h.get? b=some o->H b=none->b∉ex->H' b=none
 there:∀b o,h.get? b=some o->b∉ex->∃o',h'.get? b=some o'
 tups:∀b xs,H b=some (.tup xs)->H' b=some (.tup xs)
 frzs:∀b o u,H b=some (.frz o u)->H' b=some (.frz o u)
 tbls:∀b ps,H b=some (.tbl ps)->∃more,H' b=some (.tbl (ps++more))
section
variable{fs fs' ex ex':List Addr}{H H1 H2:Hp}{h h1 h2 h':Heap}{a x e:Addr}{o:HO}
theorem Un.any(u:Un fs ex H H1 h h1){b:Addr}{ob:Obj}(q:h.get? b=some ob)(n:H b=none)(hx:b∉ex):∃sl,h1.get? b=some { ob with slots:=sl }:=by
 by_cases hb:b∈fs
 .exact u.slot b ob q n hb hx
 .exact⟨ob.slots,u.keep b ob q n hb hx⟩
theorem Un.kept(k:∀b u,h.get? b=some u->h'.get? b=some u):Un fs ex H H h h' :=
 ⟨λ b ob q _ _ _=>k b ob q,λ b ob q _ _ _=>⟨ob.slots,k b ob q⟩,λ_ _ _ n _=>n,λ b ob q _=>⟨ob,k b ob q⟩,λ_ _ q=>q,λ_ _ _ q=>q,λ_ ps q=>⟨#[],by rw[q];simp⟩⟩
theorem Un.refl:Un fs ex H H h h:=Un.kept λ_ _ q=>q
theorem Un.laid(k:∀b u,h.get? b=some u->h'.get? b=some u)(hp:h.objs.size<=a)(hn:H a=none):Un fs ex H (upd H a o) h h' where
 keep:=λ b u q _ _ _=>k b u q
 slot:=λ b u q _ _ _=>⟨u.slots,k b u q⟩
 free:=λ b u q n _=>by rw[Af (aB (aO (aq q) hp))];exact n
 there:=λ b u q _=>⟨u,k b u q⟩
 tups:=λ b xs q=>by rw[Af (Ag q hn)];exact q
 frzs:=λ b u xs q=>by rw[Af (Ag q hn)];exact q
 tbls:=λ b ps q=>⟨#[],by rw[Af (Ag q hn),q];simp⟩
theorem Un.write(mu:Mut (H x))(he:e=x\/H e=some (.own x))(k:∀b u,b≠e->h.get? b=some u->h'.get? b=some u)(heo:∃u,h'.get? e=some u):Un fs ex H (upd H x o) h h':=by
 have hx:∀b,H b=none->b≠x:=λ b n z=>by subst z;rw[n]at mu;exact mu
 have hb:∀b,H b=none->b≠e:=λ b n z=>by
  subst z;rcases he with r|r
  .exact hx b n r
  .rw[n]at r;cases r
 have hm:∀b u,H b=some u->¬Mut (some u)->b≠x:=λ b u q nm z=>by subst z;rw[q]at mu;exact nm mu
 refine⟨λ b u q n _ _=>k b u (hb b n) q,λ b u q n _ _=>⟨u.slots,k b u (hb b n) q⟩,λ b u q n _=>by rw[Af (hx b n)];exact n,λ b u q _=>?_,
  λ b xs q=>by rw[Af (hm b _ q λ z=>z)];exact q,λ b u xs q=>by rw[Af (hm b _ q λ z=>z)];exact q,λ b ps q=>⟨#[],by rw[Af (hm b _ q λ z=>z),q];simp⟩⟩
 by_cases hbe:b=e
 .subst hbe;exact heo
 .exact⟨u,k b u hbe q⟩
end
def trk(h:Heap)(H:Hp):List Addr:=(List.range h.objs.size).filter λ a=>(H a).isSome
def JS(h:Heap)(H:Hp):Heap:=hideAll h (trk h H)
theorem NX(h:Heap)(H:Hp):(JS h H).objs.size=h.objs.size:=hideAll_size _ _
theorem P3{h:Heap}{H:Hp}{b:Addr}{o:Obj}(e:h.get? b=some o)(n:H b=none):(JS h H).get? b=some o :=
 hideAll_get _ e λ hm=>by
  have q:(H b).isSome=true:=(cw.mp hm).2;rw[n]at q;simp at q
theorem QG{h:Heap}{H:Hp}{b:Addr}{o:Obj}(e:(JS h H).get? b=some o):h.get? b=some o/\H b=none:=by
 have e':h.get? b=some o:=of_hideAll (trk h H) e;refine⟨e',?_⟩;cases q:H b with
 |none=>rfl
 |some x =>
  have hm:b∈trk h H:=cw.mpr ⟨bi.mpr (aq e'),by simp[q]⟩;have z:(JS h H).get? b=none:=hideAll_none (trk h H) hm;rw[z]at e;cases e
def Rn(g h:Heap)(L:Addr):PNz:=(List.range h.objs.size).filterMap λ a=>if a=L\/(g.get? a).isSome=true then none else (h.get? a).map λ o=>(a,o)
def rest(g h:Heap)(L d:Addr):PNz:=(Rn g h L).filter λ p=>decide (p.1≠d)
structure Mod(K:Frag)(mg:MGz)(base:Heap):Prop where
 kin:K.In base
 glob:base.Ns mainGlobals mg
 blt:∃mb,base.Ns builtinsNs mb/\∀x:Str,x≠"__name__"->mb x=bootBuiltins x
 nolimit:base.NoLimit
structure Cx where
 prog:Program
 w:World
 K:Frag
 mg:MGz
 base:Heap
 A:Around
 N:LSz
 s₀:Shared
 H₀:Hp
 env:Env
 outer:List Env
 stack:List Env
 ex:List Addr
 fn:Str->Bool
 calm:Bool
 pn:PNz
 xe:VPz
def frs(l:List Env):List Addr:=l.filterMap (·.frame)
abbrev Cx.fs(X:Cx):List Addr:=frs X.outer
def Vis(sc:Scope)(x:Str):Prop:=sc.names.lookup x=some .local\/sc.names.lookup x=some .cell\/sc.names.lookup x=some .free
def Loc(sc:Scope)(x:Str):Prop:=sc.names.lookup x=some .local\/sc.names.lookup x=some .cell
def UT(env:Env)(h:Heap)(m:MGz)(x:Str)(u:Value):Prop :=
 (env.kindOf x=some .local/\m x=some u)\/((env.kindOf x=some .cell\/env.kindOf x=some .free)/\∃c,env.cells.lookup x=some c/\h.IsCell c (some u))
structure Cx.Ok(X:Cx):Prop where
 mod:Mod X.K X.mg X.base
 kind:X.env.scope.kind=.function
 glob:X.env.globals=mainGlobals
 blt:X.env.builtins=builtinsNs
 above:X.s₀.heap.objs.size<=X.env.locals
 inj:∀x y c,X.env.cells.lookup x=some c->X.env.cells.lookup y=some c->x=y
 has:∀x,(X.env.kindOf x=some .cell\/X.env.kindOf x=some .free)->∃c,X.env.cells.lookup x=some c
 cab:∀x c,X.fn x=true->X.env.cells.lookup x=some c->X.s₀.heap.objs.size<=c
 hd:X.calm=true->X.A.handled=none
 frames:X.A.frames=some X.stack
 stk:X.stack=X.outer\/(X.stack=X.env::X.outer/\X.env.frame=some X.env.locals)
 exf:∀b∈X.ex,b≠X.env.locals/\∀x c,X.env.cells.lookup x=some c->c≠b
 bs:∀b o,X.base.get? b=some o->X.s₀.heap.get? b=some o/\X.H₀ b=none
 bsz:X.base.objs.size<=X.s₀.heap.objs.size
 noex:∀b o,X.base.get? b=some o->b∉X.ex
 exfs:∀b∈X.ex,b∉X.fs
 funs:X.s₀.heap.FunFrames X.base X.outer
 frf:∀b∈X.fs,X.H₀ b=none
structure Inv(X:Cx)(pins:PNz)(σ:List (Option V))(H:Hp)(s:Shared):Prop where
 ok:X.Ok
 os:s.os=X.s₀.os
 bare:AllBare s.gens
 base:Un X.fs X.ex X.H₀ H X.s₀.heap s.heap
 loc:∃m,s.heap.Ns X.env.locals m/\∀(i:Nat)(x:Str)(v:V),X.N[i]?=some x->σ[i]?=some (some v)->Vis X.env.scope x->∃u,RelV v u/\UT X.env s.heap m x u
 cell:∀x c,X.env.cells.lookup x=some c->∃v,s.heap.IsCell c v
 free:H X.env.locals=none
 freeC:∀x c,X.env.cells.lookup x=some c->H c=none
 pin:∀p∈X.pn++pins,s.heap.get? p.1=some p.2/\H p.1=none/\p.1≠X.env.locals/\p.1∉X.fs/\∀v,p.2.data≠.cell v
 hok:HOk X.prog X.w H s.heap
 len:σ.length=X.N.length
section
variable{X:Cx}{pins:PNz}{σ:List (Option V)}{H H':Hp}{s:Shared}{h':Heap}
theorem Cx.Ok.nofr(ok:X.Ok){b:Addr}{o:Obj}(e:X.base.get? b=some o):b∉X.fs:=λ hb=>by
 have:=(ok.funs.mem hb).1;rw[e]at this;cases this
theorem Inv.bs(I:Inv X pins σ H s):∀b o,X.base.get? b=some o->s.heap.get? b=some o/\H b=none:=λ b o e =>
 ⟨I.base.keep b o (I.ok.bs b o e).1 (I.ok.bs b o e).2 (I.ok.nofr e) (I.ok.noex b o e),I.base.free b o (I.ok.bs b o e).1 (I.ok.bs b o e).2 (I.ok.noex b o e)⟩
theorem Inv.bk(I:Inv X pins σ H s):∀b o,X.base.get? b=some o->s.heap.get? b=some o:=λ b o e=>(I.bs b o e).1
theorem Inv.mod(I:Inv X pins σ H s):Mod X.K X.mg X.base:=I.ok.mod
theorem Inv.kIn(I:Inv X pins σ H s):X.K.In s.heap:=I.ok.mod.kin.keeps I.bk
theorem Inv.lt(I:Inv X pins σ H s):X.env.locals<s.heap.objs.size:=let ⟨_,hn,_⟩:=I.loc;hn.lt
theorem Inv.sz(I:Inv X pins σ H s):X.s₀.heap.objs.size<=s.heap.objs.size:=aR I.ok.above (aM I.lt)
theorem Inv.nofs(I:Inv X pins σ H s){a:Addr}(h:s.heap.objs.size<=a):a∉X.fs:=λ hb=>by
 obtain⟨_,o,ho,_⟩:=I.ok.funs.mem hb;exact absurd (aO (aq ho) (aR I.sz h)) (bE _)
theorem Inv.cne(I:Inv X pins σ H s):∀x c,X.env.cells.lookup x=some c->c≠X.env.locals:=λ x c e z=>by
 obtain⟨v,o,ho,hd⟩:=I.cell x c e;obtain⟨m,⟨o',es,ep,ho',hd',_⟩,_⟩:=I.loc;rw[z,ho']at ho;cases ho;rw[hd']at hd;cases hd
theorem Inv.funs(I:Inv X pins σ H s):s.heap.FunFrames X.base X.outer:=by
 have all:∀(l:List Env),(∀b∈frs l,b∈X.fs)->X.s₀.heap.FunFrames X.base l->s.heap.FunFrames X.base l:=by
  intro l
  induction l with
  |nil=>intro _ _;trivial
  |cons env r ih =>
   intro hs hl;obtain⟨hk,⟨L,o,hf,hn,ho,hd⟩,hr⟩:=hl;have hL:L∈X.fs:=hs L (by unfold frs;rw[dy,hf];exact aD);obtain⟨sl,e⟩:=I.base.slot L o ho (I.ok.frf L hL) hL λ z=>I.ok.exfs L z hL;exact⟨hk,⟨L,_,hf,hn,e,hd⟩,ih (λ b hb=>hs b (by unfold frs;rw[dy,hf];exact aI _ hb)) hr⟩
 exact all X.outer (λ_ hb=>hb) I.ok.funs
theorem Inv.stack(I:Inv X pins σ H s):s.heap.FunFrames X.base X.stack:=by
 rcases I.ok.stk with e|⟨e,hf⟩
 .rw[e];exact I.funs
 .rw[e];obtain⟨m,hn,_⟩:=I.loc;refine .cons (by rw[I.ok.kind];decide) hf hn ?_ I.funs;exact Heap.get?_none_of_le (aR I.ok.bsz I.ok.above)
theorem Inv.stkSub(I:Inv X pins σ H s):∀b∈frs X.stack,b∈X.env.locals::X.fs:=λ b hb=>by
 rcases I.ok.stk with e|⟨e,hf⟩
 .rw[e]at hb;exact aI _ hb
 .rw[e]at hb;unfold frs at hb;rw[dy,hf]at hb;exact hb
theorem Inv.stkFree(I:Inv X pins σ H s):∀b∈frs X.stack,H b=none:=λ b hb=>by
 rcases aP.mp (I.stkSub b hb) with e|hb
 .rw[e];exact I.free
 .obtain⟨_,o,ho,_⟩:=I.ok.funs.mem hb;exact I.base.free b o ho (I.ok.frf b hb) λ z=>I.ok.exfs b z hb
theorem Inv.step{g':Array GenState}{t':Nat}{d':Drawn}{ch:List Addr}(I:Inv X pins σ H s)
  (hch:∀b∈ch,(b∈X.ex\/X.s₀.heap.objs.size<=b)/\b≠X.env.locals/\(∀x c,X.env.cells.lookup x=some c->c≠b)/\∀p∈X.pn++pins,p.1≠b)
  (keep:∀b o,b≠X.env.locals->b∉X.fs->b∉ch->s.heap.get? b=some o->H b=none->h'.get? b=some o)
  (slot:∀b o,b≠X.env.locals->b∈X.fs->b∉ch->s.heap.get? b=some o->H b=none->∃sl,h'.get? b=some { o with slots:=sl }) (free:∀b o,b∉ch->s.heap.get? b=some o->H b=none->H' b=none)
  (there:∀b o,b∉ch->s.heap.get? b=some o->∃o',h'.get? b=some o')
  (tups:∀b xs,H b=some (.tup xs)->H' b=some (.tup xs)) (frzs:∀b o u,H b=some (.frz o u)->H' b=some (.frz o u)) (tbls:∀b ps,H b=some (.tbl ps)->∃more,H' b=some (.tbl (ps++more)))
  (ns:∀m,s.heap.Ns X.env.locals m->h'.Ns X.env.locals m) (hok:HOk X.prog X.w H' h') (hg:AllBare g') :
  Inv X pins σ H' { s with heap:=h',gens:=g',drawn:=d',toks:=t' }:=by
 have neL:∀b o,X.s₀.heap.get? b=some o->b≠X.env.locals:=λ b o e=>aB (aO (aq e) I.ok.above);have neC:∀b o,X.s₀.heap.get? b=some o->b∉X.ex->b∉ch:=λ b o e hx hb=>by
  rcases(hch b hb).1 with z|z
  .exact hx z
  .exact absurd (aO (aq e) z) (bE _)
 have cellK:∀x c,X.env.cells.lookup x=some c->∀v,s.heap.IsCell c v->h'.IsCell c v:=λ x c e v ⟨o,ho,hd⟩=>by
  have nch:c∉ch:=λ z=>(hch c z).2.2.1 x c e rfl;by_cases hc:c∈X.fs
  .obtain⟨sl,q⟩:=slot c o (I.cne x c e) hc nch ho (I.freeC x c e);exact⟨_,q,hd⟩
  .exact⟨o,keep c o (I.cne x c e) hc nch ho (I.freeC x c e),hd⟩
 refine⟨I.ok,I.os,hg,⟨λ b o e n hb hx=>?_,λ b o e n hb hx=>?_,λ b o e n hx=>?_,λ b o e hx=>?_,λ b xs e=>tups b xs (I.base.tups b xs e),λ b o xs e=>frzs b o xs (I.base.frzs b o xs e),λ b ps e=>?_⟩,?_,λ x c e=>?_,?_,λ x c e=>?_,λ p hp=>?_,hok,I.len⟩
 .exact keep b o (neL b o e) hb (neC b o e hx) (I.base.keep b o e n hb hx) (I.base.free b o e n hx)
 .obtain⟨sl,e1⟩:=I.base.slot b o e n hb hx;obtain⟨sl',e2⟩:=slot b _ (neL b o e) hb (neC b o e hx) e1 (I.base.free b o e n hx);exact⟨sl',e2⟩
 .obtain⟨o',e1⟩:=I.base.there b o e hx;exact free b o' (neC b o e hx) e1 (I.base.free b o e n hx)
 .obtain⟨o',e1⟩:=I.base.there b o e hx;exact there b o' (neC b o e hx) e1
 .obtain⟨m1,e1⟩:=I.base.tbls b ps e;obtain⟨m2,e2⟩:=tbls b _ e1;exact⟨m1++m2,by rw[e2,Array.append_assoc]⟩
 .obtain⟨m,hn,hl⟩:=I.loc;refine⟨m,ns m hn,λ i x v e1 e2 e3=>?_⟩;obtain⟨u,r,l⟩:=hl i x v e1 e2 e3;refine⟨u,r,?_⟩;rcases l with l|⟨k,c,e,z⟩
  .exact .inl l
  .exact .inr ⟨k,c,e,cellK x c e _ z⟩
 .obtain⟨v,z⟩:=I.cell x c e;exact⟨v,cellK x c e v z⟩
 .obtain⟨m,⟨o,_,_,ho,_⟩,_⟩:=I.loc;exact free _ o (λ z=>(hch _ z).2.1 rfl) ho I.free
 .obtain⟨v,o,ho,hd⟩:=I.cell x c e;exact free c o (λ z=>(hch c z).2.2.1 x c e rfl) ho (I.freeC x c e)
 .obtain⟨e,n,ne,nf,d⟩:=I.pin p hp;have nch:p.1∉ch:=λ z=>(hch p.1 z).2.2.2 p hp rfl;exact⟨keep p.1 p.2 ne nf nch e n,free p.1 p.2 nch e n,ne,nf,d⟩
theorem Inv.un{t':Nat}(I:Inv X pins σ H s)(u:Un X.fs [] H H' s.heap h')(hok:HOk X.prog X.w H' h'):Inv X pins σ H' { s with heap:=h',toks:=t' }:=by
 obtain⟨m,⟨o,es,ep,ho,r⟩,_⟩:=id I.loc;obtain⟨sl,hL⟩:=u.any ho I.free (by simp);exact I.step (g':=s.gens) (d':=s.drawn) (ch:=[]) (λ_ z=>nomatch z) (λ b o _ hb _ e n=>u.keep b o e n hb (by simp)) (λ b o _ hb _ e n=>u.slot b o e n hb (by simp)) (λ b o _ e n=>u.free b o e n (by simp)) (λ b o _ e=>u.there b o e (by simp)) u.tups u.frzs u.tbls (λ m' hm=>by
  obtain⟨o',es',ep',ho',r'⟩:=hm;rw[ho]at ho';cases ho';exact⟨_,es',ep',hL,r'⟩) hok I.bare
theorem Inv.call{g':Array GenState}{t':Nat}{d':Drawn}{ch:List Addr}(I:Inv X pins σ H s)(u:Un (frs X.stack) ch H H' s.heap h')(hok:HOk X.prog X.w H' h')(hg:AllBare g')
  (hch:∀b∈ch,(b∈X.ex\/X.s₀.heap.objs.size<=b)/\b≠X.env.locals/\(∀x c,X.env.cells.lookup x=some c->c≠b)/\∀p∈X.pn++pins,p.1≠b) :
  Inv X pins σ H' { s with heap:=h',gens:=g',drawn:=d',toks:=t' }:=by
 obtain⟨m,⟨o,es,ep,ho,r⟩,_⟩:=id I.loc;obtain⟨sl,hL⟩:=u.any ho I.free λ z=>(hch _ z).2.1 rfl;exact I.step (ch:=ch) hch (λ b o hL hb hc e n=>u.keep b o e n (λ z=>(aP.mp (I.stkSub b z)).elim hL hb) hc) (λ b o _ _ hc e n=>u.any e n hc) (λ b o hc e n=>u.free b o e n hc) (λ b o hc e=>u.there b o e hc) u.tups u.frzs u.tbls (λ m' hm=>by
  obtain⟨o',es',ep',ho',r'⟩:=hm;rw[ho]at ho';cases ho';exact⟨_,es',ep',hL,r'⟩) hok hg
theorem Inv.turned{t':Nat}{it:Addr}(I:Inv X pins σ H s)(k:∀b o,b≠it->s.heap.get? b=some o->h'.get? b=some o)(hn:H it=none)(hL:it≠X.env.locals)
  (h1:it∈X.ex\/X.s₀.heap.objs.size<=it) (h2:∀x c,X.env.cells.lookup x=some c->c≠it) (h3:∀p∈X.pn++pins,p.1≠it):Inv X pins σ H { s with heap:=h',toks:=t' }:=by
 have nit:∀b u,H b=some u->b≠it:=λ b u e z=>by rw[z,hn]at e;cases e
 refine I.step (g':=s.gens) (d':=s.drawn) (ch:=[it]) (λ b hb=>?_) (λ b o _ _ hc e _=>k b o (λ z=>hc (by simp[z])) e) (λ b o _ _ hc e _=>⟨o.slots,k b o (λ z=>hc (by simp[z])) e⟩) (λ_ _ _ _ n=>n)
  (λ b o hc e=>⟨o,k b o (λ z=>hc (by simp[z])) e⟩) (λ_ _ e=>e) (λ_ _ _ e=>e) (λ b ps e=>⟨#[],by rw[e];simp⟩) (λ m hm=>?_) (λ b u e=>?_) I.bare
 .have e:b=it:=by simpa using hb
  subst e;exact⟨h1,hL,h2,h3⟩
 .obtain⟨o,es,ep,ho,r⟩:=hm;exact⟨o,es,ep,k _ o (Ne.symm hL) ho,r⟩
 .refine(I.hok b u e).stay (λ c v hc q=>k c v ?_ q) (λ_ q=>q) λ_ _ q=>q;rcases hc with z|z
  .rw[z];exact nit b u e
  .exact nit c _ z
theorem Inv.tok(I:Inv X pins σ H s)(t:Nat):Inv X pins σ H { s with toks:=t }:=I.un (h':=s.heap) (t':=t) Un.refl I.hok
theorem Inv.kept{t':Nat}(I:Inv X pins σ H s)(k:∀b u,s.heap.get? b=some u->h'.get? b=some u):Inv X pins σ H { s with heap:=h',toks:=t' }:=I.un (Un.kept k) (I.hok.kept k)
theorem Inv.laid{a:Addr}{o:HO}{t':Nat}(I:Inv X pins σ H s)(k:∀b u,s.heap.get? b=some u->h'.get? b=some u)(hp:s.heap.objs.size<=a)(new:ObjOk X.prog X.w (upd H a o) h' a o) :
  Inv X pins σ (upd H a o) { s with heap:=h',toks:=t' }:=I.un (Un.laid k hp (I.hok.fresh hp)) (I.hok.laid k hp new)
theorem Inv.write{x e:Addr}{o:HO}{t':Nat}(I:Inv X pins σ H s)(mu:Mut (H x))(he:e=x\/H e=some (.own x))(k:∀b u,b≠e->s.heap.get? b=some u->h'.get? b=some u)(heo:∃u,h'.get? e=some u)
  (new:ObjOk X.prog X.w (upd H x o) h' x o):Inv X pins σ (upd H x o) { s with heap:=h',toks:=t' }:=I.un (Un.write mu he k heo) (I.hok.write mu he k heo new)
theorem Inv.pins_of{pins':PNz}(I:Inv X pins σ H s)(h:∀p∈pins',s.heap.get? p.1=some p.2/\H p.1=none/\p.1≠X.env.locals/\p.1∉X.fs/\∀v,p.2.data≠.cell v):Inv X pins' σ H s :=
 ⟨I.ok,I.os,I.bare,I.base,I.loc,I.cell,I.free,I.freeC,λ p hp=>(aF.mp hp).elim (λ z=>I.pin p (cH _ z)) (h p),I.hok,I.len⟩
theorem KJ{N:LSz}(hN:N.Nodup){i j:Nat}{x:Str}(a:N[i]?=some x)(b:N[j]?=some x):i=j:=by
 obtain⟨h1,e1⟩:=aG.mp a;obtain⟨h2,e2⟩:=aG.mp b;exact(List.getElem_inj hN).mp (e1.trans e2.symm)
theorem Nx{M:Model}{A:Around}{E:VPz}{i:Nat}{x:Str}{v:V}{u:Value}{Q:Unit->Shared->Prop}(I:Inv X pins σ H s)(hN:X.N.Nodup)(hi:X.N[i]?=some x)(hx:Loc X.env.scope x)(r:RelV v u)
  (h:∀s',Inv X pins (σ.set i (some v)) H s'->(∃a,Heap.SameBut a s.heap s'.heap/\(a=X.env.locals\/X.env.cells.lookup x=some a))->Q () s') (hf:X.fn x=true\/X.env.scope.names.lookup x=some .local:=by first|exact .inl rfl|exact .inr rfl|assumption):wpAny M A (storeName X.env x u) Q E s:=by
 obtain⟨m,hn,hl⟩:=id I.loc;have hcls:(X.env.scope.kind==.class||(X.env.scope.kind==.module&&X.env.locals != X.env.globals))=false:=by rw[I.ok.kind];rfl
 have hiσ:i<σ.length:=by rw[I.len];exact(aG.mp hi).1
 have cne:=I.cne;have tracked:∀{a:Addr}{h':Heap},(∃o,s.heap.get? a=some o/\H a=none)->Heap.SameBut a s.heap h'->HOk X.prog X.w H h':=λ{a h'} ha hs b ob e=>by
  obtain⟨_,_,hfree⟩:=ha;refine(I.hok b ob e).stay (λ c w' hc q=>(hs.2 c ?_).trans q) (λ_ q=>q) λ_ _ q=>q;rintro rfl;rcases hc with rfl|hc
  .rw[hfree]at e;cases e
  .rw[hfree]at hc;cases hc
 rcases hx with hk|hk
 .refine wpAny_storeName_local hk hn (λ h' hn' hs=>?_) hcls;obtain⟨oL,_,_,hoL,_⟩:=id hn;refine h _ ⟨I.ok,I.os,I.bare,⟨λ b o e n hb hx=>?_,λ b o e n hb hx=>?_,I.base.free,λ b o e hx=>?_,I.base.tups,I.base.frzs,I.base.tbls⟩,⟨_,hn',λ j y v' e1 e2 e3=>?_⟩,λ y c e=>?_,I.free,I.freeC,λ p hp=>?_,tracked ⟨oL,hoL,I.free⟩ hs,by simpa using I.len⟩ ⟨_,hs,.inl rfl⟩
  .exact(hs.2 b (aB (aO (aq e) I.ok.above))).trans (I.base.keep b o e n hb hx)
  .obtain⟨sl,e1⟩:=I.base.slot b o e n hb hx;exact⟨sl,(hs.2 b (aB (aO (aq e) I.ok.above))).trans e1⟩
  .obtain⟨o',e1⟩:=I.base.there b o e hx;exact⟨o',(hs.2 b (aB (aO (aq e) I.ok.above))).trans e1⟩
  .by_cases hj:j=i
   .subst hj;rw[hi]at e1;cases e1;rw[eJ hiσ]at e2;cases e2;exact⟨u,r,.inl ⟨hk,by simp⟩⟩
   .rw[fc (Ne.symm hj)]at e2;obtain⟨u',r',q⟩:=hl j y v' e1 e2 e3;refine⟨u',r',?_⟩;rcases q with ⟨k,e⟩|⟨k,c,e,z⟩
    .refine .inl ⟨k,?_⟩;have:y≠x:=λ e=>hj (KJ hN e1 (e ▸ hi));simp[this,e]
    .exact .inr ⟨k,c,e,z.sameBut hs (cne y c e)⟩
  .obtain⟨w',z⟩:=I.cell y c e;exact⟨w',z.sameBut hs (cne y c e)⟩
  .obtain⟨e,n,ne,nf,d⟩:=I.pin p hp;exact⟨(hs.2 p.1 ne).trans e,n,ne,nf,d⟩
 .have hfn:X.fn x=true:=by
   rcases hf with z|z
   .exact z
   .rw[z]at hk;cases hk
  obtain⟨c,hc⟩:=I.ok.has x (.inl hk);obtain⟨w',z⟩:=I.cell x c hc;refine wpAny_storeName_cell I.ok.kind hk hc z (λ h' hc' hs=>?_);obtain⟨oc,hoc,hocd⟩:=id z;refine h { s with heap:=h' } ⟨I.ok,I.os,I.bare,⟨λ b o e n hb hx=>?_,λ b o e n hb hx=>?_,I.base.free,λ b o e hx=>?_,I.base.tups,I.base.frzs,I.base.tbls⟩,⟨m,hn.sameBut hs (Ne.symm (cne x c hc)),λ j y v' e1 e2 e3=>?_⟩,λ y c' e=>?_,I.free,I.freeC,λ p hp=>?_,tracked ⟨oc,hoc,I.freeC x c hc⟩ hs,by simpa using I.len⟩ ⟨c,hs,.inr hc⟩
  .exact(hs.2 b (aB (aO (aq e) (I.ok.cab x c hfn hc)))).trans (I.base.keep b o e n hb hx)
  .obtain⟨sl,e1⟩:=I.base.slot b o e n hb hx;exact⟨sl,(hs.2 b (aB (aO (aq e) (I.ok.cab x c hfn hc)))).trans e1⟩
  .obtain⟨o',e1⟩:=I.base.there b o e hx;exact⟨o',(hs.2 b (aB (aO (aq e) (I.ok.cab x c hfn hc)))).trans e1⟩
  .by_cases hj:j=i
   .subst hj;rw[hi]at e1;cases e1;rw[eJ hiσ]at e2;cases e2;exact⟨u,r,.inr ⟨.inl hk,c,hc,hc'⟩⟩
   .rw[fc (Ne.symm hj)]at e2;obtain⟨u',r',q⟩:=hl j y v' e1 e2 e3;refine⟨u',r',?_⟩;rcases q with q|⟨k,c',e,z'⟩
    .exact .inl q
    .refine .inr ⟨k,c',e,z'.sameBut hs ?_⟩;rintro rfl;exact hj (KJ hN e1 (I.ok.inj _ _ _ e hc ▸ hi))
  .by_cases hcc:c'=c
   .subst hcc;exact⟨_,hc'⟩
   .obtain⟨w2,z2⟩:=I.cell y c' e;exact⟨w2,z2.sameBut hs hcc⟩
  .obtain⟨e,n,ne,nf,d⟩:=I.pin p hp;refine⟨(hs.2 p.1 ?_).trans e,n,ne,nf,d⟩;intro q;rw[q,hoc]at e;have q':oc=p.2:=Option.some.inj e;exact d w' (by rw[<-q'];exact hocd)
theorem G7{M:Model}{A:Around}{E:VPz}{i:Nat}{x:Str}{v:V}{u:Value}{Q:Unit->Shared->Prop}(I:Inv X pins σ H s)(hN:X.N.Nodup)(hi:X.N[i]?=some x)(hx:Loc X.env.scope x)(r:RelV v u)
  (h:∀s',Inv X pins (σ.set i (some v)) H s'->Q () s') (hf:X.fn x=true\/X.env.scope.names.lookup x=some .local:=by first|exact .inl rfl|exact .inr rfl|assumption):wpAny M A (storeName X.env x u) Q E s :=
 Nx I hN hi hx r (λ s' I' _=>h s' I') hf
theorem Inv.call'{s':Shared}{ch:List Addr}(I:Inv X pins σ H s)(ho:s'.os=s.os)(u:Un (frs X.stack) ch H H' s.heap s'.heap)(hok:HOk X.prog X.w H' s'.heap)(hg:AllBare s'.gens)
  (hch:∀b∈ch,(b∈X.ex\/X.s₀.heap.objs.size<=b)/\b≠X.env.locals/\(∀x c,X.env.cells.lookup x=some c->c≠b)/\∀p∈X.pn++pins,p.1≠b):Inv X pins σ H' s':=by
 obtain⟨h',g',d',t',o'⟩:=s';have e:o'=s.os:=ho;subst e;exact I.call (g':=g') (t':=t') (d':=d') u hok hg hch
end
abbrev XK:=Value->Option Addr->Hp->Prop
abbrev St:=List (Option V)
abbrev VK:=V->Hp->Prop
abbrev TE:=St->Hp->VK->Prop
abbrev TT:=St->Hp->(Bool->Hp->Prop)->Prop
abbrev TA:=St->Hp->(LUz->Hp->Prop)->Prop
structure Dj where
 nx:St->Hp->Prop
 rt:VK
 bk:St->Hp->Prop:=λ_ _=>False
 ct:St->Hp->Prop:=λ_ _=>False
abbrev TS:=Dj->St->Hp->Prop
def EP(X:Cx)(pins:PNz)(σ:St)(Q:VK)(u:Value)(s':Shared):Prop:=∃v H',Inv X pins σ H' s'/\RelV v u/\Q v H'
def TP(X:Cx)(pins:PNz)(σ:St)(Q:Bool->Hp->Prop)(b:Bool)(s':Shared):Prop:=∃H',Inv X pins σ H' s'/\Q b H'
def AP(X:Cx)(pins:PNz)(σ:St)(Q:LUz->Hp->Prop)(us:LWz)(s':Shared):Prop:=∃vs H',Inv X pins σ H' s'/\Vals vs us/\Q vs H'
def SP(X:Cx)(pins:PNz)(D:Dj)(f:Flow)(s':Shared):Prop :=
 match f with
 |.next=>∃σ' H',Inv X pins σ' H' s'/\D.nx σ' H'
 |.brk=>∃σ' H',Inv X pins σ' H' s'/\D.bk σ' H'
 |.cont=>∃σ' H',Inv X pins σ' H' s'/\D.ct σ' H'
 |.ret u=>∃v σ' H',Inv X pins σ' H' s'/\RelV v u/\D.rt v H'
def PE(X:Cx)(e:Expr)(t:TE):Prop :=
 ∀(pins:PNz)(s:Shared)(σ:St)(H:Hp)(Q:VK),Inv X pins σ H s->t σ H Q->wpAny (model X.prog X.w) X.A (eval e X.env) (EP X pins σ Q) X.xe s
def PT(X:Cx)(e:Expr)(t:TT):Prop :=
 ∀(pins:PNz)(s:Shared)(σ:St)(H:Hp)(Q:Bool->Hp->Prop),Inv X pins σ H s->t σ H Q->wpAny (model X.prog X.w) X.A (isTrue e X.env (eval e X.env)) (TP X pins σ Q) X.xe s
def PW(X:Cx)(e:Expr)(t:TT):Prop :=
 ∀(whole:Sem Value)(pins:PNz)(s:Shared)(σ:St)(H:Hp)(Q:Bool->Hp->Prop),Inv X pins σ H s->t σ H Q->wpAny (model X.prog X.w) X.A (isTrue e X.env whole) (TP X pins σ Q) X.xe s
theorem PW.pt{X:Cx}{e:Expr}{t:TT}(h:PW X e t):PT X e t:=h _
def PA(X:Cx)(es:List Expr)(t:TA):Prop :=
 ∀(pos:Pos)(pins:PNz)(s:Shared)(σ:St)(H:Hp)(Q:LUz->Hp->Prop),Inv X pins σ H s->t σ H Q->wpAny (model X.prog X.w) X.A (spliced (backTo pos (starEach es X.env))) (AP X pins σ Q) X.xe s
def PS(X:Cx)(st:Stmt)(t:TS):Prop :=
 ∀(pins:PNz)(s:Shared)(σ:St)(H:Hp)(D:Dj),Inv X pins σ H s->t D σ H->wpAny (model X.prog X.w) X.A (exec st X.env) (SP X pins D) X.xe s
def PSs(X:Cx)(st:List Stmt)(t:TS):Prop :=
 ∀(pins:PNz)(s:Shared)(σ:St)(H:Hp)(D:Dj),Inv X pins σ H s->t D σ H->wpAny (model X.prog X.w) X.A (execs st X.env) (SP X pins D) X.xe s
theorem thn{α:Type}{t:Sem α}{Q Q':α->Shared->Prop}{M:Model}{A:Around}{E:VPz}{s:Shared}(h:wpAny M A t Q E s)(hQ:∀a s,Q a s->Q' a s):wpAny M A t Q' E s:=wpAny_mono h hQ λ_ _ x=>x
section
variable{X:Cx}
inductive Um(i:Nat)(σ:St)(H:Hp)(Q:VK):Prop
 |mk (v:V) (e:σ[i]?=some (some v)) (q:Q v H):Um i σ H Q
def SU(i:Nat):TE:=λ σ H Q=>Um i σ H Q
inductive IBl(x:V)(Q:Bool->Prop):Prop
 |mk (c:Bool) (e:x=.bl c) (q:Q c):IBl x Q
def tC(v:V):TE:=λ_ H Q=>Q v H
theorem Se{i:Nat}{x:Str}{pos:Pos}(hN:X.N[i]?=some x)(hv:Vis X.env.scope x)(hd:(x==("__debug__":Str))=false:=by decide)(hcd:(x==("__classdict__":Str))=false:=by decide):PE X (.Name x pos) (SU i):=by
 intro pins s σ H Q I h;obtain⟨v,e,h⟩:=h;obtain⟨m,hn,hl⟩:=I.loc;obtain⟨u,r,l⟩:=hl i x v hN e hv;have fin:EP X pins σ Q u s:=⟨v,H,I,r,h⟩;rcases l with ⟨hk,hm⟩|⟨hk,c,hc,hcell⟩
 .exact wpAny_Name (wpAny_loadName_local I.ok.kind hk hn hm fin) hd
 .rcases hk with hk|hk
  .exact wpAny_Name (wpAny_loadName_cell I.ok.kind hk hc hcell fin) hd
  .exact wpAny_Name (wpAny_loadName_free I.ok.kind hk hc hcell fin hcd) hd
theorem Ae{i j pos}:PE X (.Constant (.int i) j pos) (tC (.int i)):=λ_ _ _ H _ I h=>wpAny_Constant_int ⟨.int i,H,I.tok _,⟨_,rfl⟩,h⟩
theorem FJ{b j pos}:PE X (.Constant (.bool b) j pos) (tC (.bl b)):=λ_ _ _ H _ I h=>Constant_bool ⟨.bl b,H,I,rfl,h⟩
theorem Sf{j pos}:PE X (.Constant .none j pos) (tC .non):=λ_ _ _ H _ I h=>Constant_none ⟨.non,H,I,rfl,h⟩
def Gl(X:Cx)(x:Str):Prop:=X.env.kindOf x=some .globalImplicit
theorem Gu{E:VPz}{pins:PNz}{s:Shared}{σ:St}{H:Hp}{x:Str}{u:Value}{pos:Pos}{Q:VPz}(I:Inv X pins σ H s)(hg:Gl X x)(hm:X.mg x=some u)(h:Q u s)
  (hd:(x==("__debug__":Str))=false:=by decide):wpAny (model X.prog X.w) X.A (eval (.Name x pos) X.env) Q E s :=
 Calls.Name_function_global I.ok.kind hg (Calls.loadGlobal_global (by rw[I.ok.glob];exact I.mod.glob.keeps I.bk) hm h) hd
theorem Cm{E:VPz}{pins:PNz}{s:Shared}{σ:St}{H:Hp}{x:Str}{u:Value}{pos:Pos}{Q:VPz}(I:Inv X pins σ H s)(hg:Gl X x)(hm:X.mg x=none)(hv:bootBuiltins x=some u)(h:Q u s)
  (hn:x≠"__name__":=by decide) (hd:(x==("__debug__":Str))=false:=by decide):wpAny (model X.prog X.w) X.A (eval (.Name x pos) X.env) Q E s:=by
 obtain⟨mb,h1,h2⟩:=I.mod.blt;exact Calls.Name_function_global I.ok.kind hg (Calls.loadGlobal_builtin (by rw[I.ok.glob];exact I.mod.glob.keeps I.bk) hm (by rw[I.ok.blt];exact h1.keeps I.bk) ((h2 x hn).trans hv) h) hd
theorem AI{x:Str}{v:V}{u:Value}{pos:Pos}(hg:Gl X x)(hm:X.mg x=some u)(r:RelV v u)(hd:(x==("__debug__":Str))=false:=by decide):PE X (.Name x pos) (tC v) :=
 λ_ _ _ H _ I h=>Gu I hg hm ⟨v,H,I,r,h⟩ hd
theorem JA{x:Str}{v:V}{u:Value}{pos:Pos}(hg:Gl X x)(hm:X.mg x=none)(hv:bootBuiltins x=some u)(r:RelV v u)(hn:x≠"__name__":=by decide)(hd:(x==("__debug__":Str))=false:=by decide):PE X (.Name x pos) (tC v) :=
 λ_ _ _ H _ I h=>Cm I hg hm hv ⟨v,H,I,r,h⟩ hn hd
variable{a b:Expr}{ta tb:TE}{pos:Pos}
def PC(X:Cx)(op:CmpOp)(a b:Expr)(t:TE):Prop :=
 ∀(pins:PNz)(s:Shared)(σ:St)(H:Hp)(Q:VK),Inv X pins σ H s->t σ H Q ->
  wpAny (model X.prog X.w) X.A (eval a X.env) (λ v s₁=>wpAny (model X.prog X.w) X.A (eval b X.env) (λ u s₂=>wpAny (model X.prog X.w) X.A (compareOp op v u) (EP X pins σ Q) X.xe s₂) X.xe s₁) X.xe s
theorem Pj(b:Expr){op:CmpOp}(h:op≠.In)(h2:op≠.NotIn):behindInMarks op b=false:=by
 have e1:(op==CmpOp.In)=false:=by cases op<;>first|rfl|exact absurd rfl h
 have e2:(op==CmpOp.NotIn)=false:=by cases op<;>first|rfl|exact absurd rfl h2
 cases b<;>simp[behindInMarks,e1,e2]
def tB(t:TE):TT:=λ σ H Q=>t σ H λ x H1=>IBl x λ c=>Q c H1
theorem OM{op:CmpOp}{t:TE}(h:PC X op a b t)(h1:behindInMarks op b=false:=by first|exact Pj _ (by decide) (by decide)|rfl):PT X (.Compare a [op] [b] pos) (tB t):=by
 intro pins s σ H Q I hw;refine wpAny_isTrue_Compare1 (thn (h pins s σ H _ I hw) λ v s1 h1=>thn h1 λ u s2 h2=>thn h2 λ c s3 hz_=>?_) h1;obtain⟨x,H1,I1,r1,q1⟩:=hz_;obtain⟨d,rfl,q⟩:=q1;cases r1;exact wpAny_truthy_bool ⟨H1,I1,q⟩
theorem BK{e:Expr}{t:TE}(h:PE X e t)(he:∀whole,isTrue e X.env whole=(do let v <-whole;standAt e.pos;holding [v] (truthy v)):=by intro _;rfl):PT X e (tB t):=by
  intro pins s σ H Q I hw;refine isTrue_plain (thn (h pins s σ H _ I hw) λ v s1 hz_=>?_) (he _);obtain⟨x,H1,I1,r1,q1⟩:=hz_;obtain⟨d,rfl,q⟩:=q1;cases r1;exact wpAny_truthy_bool ⟨H1,I1,q⟩
variable{tA tB':TT}{rest:List Expr}
def tOr(t u:TT):TT:=λ σ H Q=>t σ H λ c H1=>if c=true then Q true H1 else u σ H1 Q
def Uw(t:TT):TT:=λ σ H Q=>t σ H λ c H1=>Q (!c) H1
theorem Fn(ha:PT X a tA):PW X (.BoolOp .Or [a] pos) tA:=by
 intro wh pins s σ H Q I h;refine isTrue_or (thn (ha pins s σ H Q I h) λ c s1 e=>?_);cases c with
 |false=>exact isTrue_or_nil e
 |true=>exact e
theorem GP(ha:PT X a tA)(hb:PW X (.BoolOp .Or (b::rest) pos) tB'):PW X (.BoolOp .Or (a::b::rest) pos) (tOr tA tB'):=by
 intro wh pins s σ H Q I h;refine isTrue_or (thn (ha pins s σ H _ I h) λ c s1 hz_=>?_);obtain⟨H1,I1,q1⟩:=hz_;cases c with
 |true=>exact⟨H1,I1,q1⟩
 |false=>exact hb wh pins s1 σ H1 Q I1 q1
theorem Cg(ha:PT X a tA):PT X (.UnaryOp .Not a pos) (Uw tA):=by
 intro pins s σ H Q I h;exact isTrue_not (ha pins s σ H (λ c H1=>Q (!c) H1) I h)
def Th(ta tb:TE):TE:=λ σ H Q=>ta σ H λ x H1=>IBl x λ c=>if c=true then tb σ H1 Q else Q (.bl false) H1
def SX(ta:TE):TE:=λ σ H Q=>ta σ H λ x H1=>IBl x λ c=>Q (.bl (!c)) H1
theorem CV{op}{t:TE}(h:PE X a t):PE X (.BoolOp op [a] pos) t:=λ pins s σ H Q I hw=>BoolOp_one (h pins s σ H Q I hw)
theorem C5(ha:PE X a ta)(hb:PE X (.BoolOp .And (b::rest) pos) tb):PE X (.BoolOp .And (a::b::rest) pos) (Th ta tb):=by
 intro pins s σ H Q I h;refine BoolOp_and (thn (ha pins s σ H _ I h) λ v s1 hz_=>?_);obtain⟨x,H1,I1,r1,q1⟩:=hz_;obtain⟨c,rfl,q1⟩:=q1;cases r1;refine wpAny_truthy_bool ?_;cases c with
 |true=>exact hb pins s1 σ H1 Q I1 q1
 |false=>exact⟨.bl false,H1,I1,rfl,q1⟩
theorem OQ(ha:PE X a ta):PE X (.UnaryOp .Not a pos) (SX ta):=by
 intro pins s σ H Q I h;refine UnaryOp_ (thn (ha pins s σ H _ I h) λ v s1 hz_=>?_);obtain⟨x,H1,I1,r1,q1⟩:=hz_;obtain⟨c,rfl,q1⟩:=q1;cases r1;exact not_of (wpAny_truthy_bool ⟨.bl (!c),H1,I1,rfl,q1⟩)
end
def SqL(K:Frag)(H:Hp)(a:Addr)(xs:LUz):Prop :=
 Rd H a (.lst xs) \/
  ∃(o:Obj)(its:Array Value)(n:Nat),K.lookup a=some o/\o.cls=.type "list"/\o.dict=none/\o.data=.seq its n/\its.size<=sizeLine/\Vals xs its.toList
def SqT(K:Frag)(H:Hp)(a:Addr)(xs:LUz):Prop :=
 Rd H a (.tup xs) \/
  ∃(o:Obj)(its:Array Value)(n:Nat),K.lookup a=some o/\o.cls=.type "tuple"/\o.data=.seq its n/\its.size<=sizeLine/\Vals xs its.toList
def UQ:Value->Option V
 |.none=>some .non
 |.bool b=>some (.bl b)
 |.int i _=>some (.int i)
 |.str x _=>some (.str x)
 |.bytes b _=>some (.byt b)
 |.float b _=>some (.flt b)
 |.ref a=>some (.ref a)
 |.type n=>some (.ty n)
 |_=>none
theorem RelV.abs{x:V}{u:Value}(r:RelV x u):UQ u=some x:=by
 cases x with
 |non=>cases r;rfl
 |bl _=>cases r;rfl
 |int _=>obtain⟨t,rfl⟩:=r;rfl
 |str _=>obtain⟨t,rfl⟩:=r;rfl
 |byt _=>obtain⟨t,rfl⟩:=r;rfl
 |flt _=>obtain⟨t,rfl⟩:=r;rfl
 |ref _=>cases r;rfl
 |ty _=>cases r;rfl
theorem RelV.inj{x y:V}{u:Value}(r:RelV x u)(q:RelV y u):x=y:=Option.some.inj (r.abs.symm.trans q.abs)
theorem Vals.inj:∀{xs ys:LUz}{us:LWz},Vals xs us->Vals ys us->xs=ys
 |_,_,_,.nil,.nil=>rfl
 |_,_,_,.cons r t,.cons r' t'=>by rw[r.inj r',Vals.inj t t']
section
variable{X:Cx}{pins:PNz}{σ:St}{H:Hp}{s:Shared}{a:Addr}{xs ys:LUz}
theorem SqL.of{K:Frag}(h:H a=some (.lst xs)):SqL K H a xs:=.inl (.inl h)
theorem SqT.of{K:Frag}(h:H a=some (.tup xs)):SqT K H a xs:=.inl (.inl h)
theorem Inv.list(I:Inv X pins σ H s)(h:SqL X.K H a xs):∃its:LWz,Vals xs its/\PlainL s.heap a its.toArray/\xs.length<=sizeLine:=by
 rcases h with h|⟨o,its,n,hk,hc,hd,hs,hz,r⟩
 .obtain⟨z,its,n,r,e⟩:=h.ok I.hok;exact⟨its,r,⟨_,n,e,rfl,rfl,rfl⟩,z⟩
 .refine⟨its.toList,r,⟨o,n,I.kIn a o hk,hc,hd,by simpa using hs⟩,?_⟩;have e:=r.length;simp only[aV]at e;lia
theorem Inv.tuple(I:Inv X pins σ H s)(h:SqT X.K H a xs):∃its:LWz,Vals xs its/\IsTup s.heap a its.toArray/\xs.length<=sizeLine:=by
 rcases h with h|⟨o,its,n,hk,hc,hs,hz,r⟩
 .obtain⟨z,its,r,p⟩:=h.ok I.hok;exact⟨its,r,p,z⟩
 .refine⟨its.toList,r,⟨o,I.kIn a o hk,hc,n,by simpa using hs⟩,?_⟩;have e:=r.length;simp only[aV]at e;lia
theorem Inv.list_inj(I:Inv X pins σ H s)(h:SqL X.K H a xs)(h':SqL X.K H a ys):xs=ys:=by
 obtain⟨its,r,⟨o,n,e,_,_,d⟩,_⟩:=I.list h;obtain⟨its',r',⟨o',n',e',_,_,d'⟩,_⟩:=I.list h';rw[e]at e';cases e';rw[d]at d';injection d' with d1 _;have:its=its':=by simpa using congrArg Array.toList d1
 subst this;exact r.inj r'
theorem Inv.tuple_inj(I:Inv X pins σ H s)(h:SqT X.K H a xs)(h':SqT X.K H a ys):xs=ys:=by
 obtain⟨its,r,⟨o,e,_,n,d⟩,_⟩:=I.tuple h;obtain⟨its',r',⟨o',e',_,n',d'⟩,_⟩:=I.tuple h';rw[e]at e';cases e';rw[d]at d';injection d' with d1 _;have:its=its':=by simpa using congrArg Array.toList d1
 subst this;exact r.inj r'
end
abbrev Cx.wish(X:Cx)(E:VPz):Cx:={ X with xe:=E }
abbrev Cx.nox(X:Cx):Cx:=X.wish λ_ _=>False
theorem Cx.Ok.wish{X:Cx}(ok:X.Ok)(E:VPz):(X.wish E).Ok :=
 ⟨ok.mod,ok.kind,ok.glob,ok.blt,ok.above,ok.inj,ok.has,ok.cab,ok.hd,ok.frames,ok.stk,ok.exf,ok.bs,ok.bsz,ok.noex,ok.exfs,ok.funs,ok.frf⟩
theorem Cx.Ok.unwish{X:Cx}{E:VPz}(ok:(X.wish E).Ok):X.Ok :=
 ⟨ok.mod,ok.kind,ok.glob,ok.blt,ok.above,ok.inj,ok.has,ok.cab,ok.hd,ok.frames,ok.stk,ok.exf,ok.bs,ok.bsz,ok.noex,ok.exfs,ok.funs,ok.frf⟩
section
variable{X:Cx}{pins:PNz}{σ:St}{H:Hp}{s:Shared}{E:VPz}
theorem Inv.wish(I:Inv X pins σ H s)(E:VPz):Inv (X.wish E) pins σ H s:=⟨I.ok.wish E,I.os,I.bare,I.base,I.loc,I.cell,I.free,I.freeC,I.pin,I.hok,I.len⟩
theorem Inv.unwish(I:Inv (X.wish E) pins σ H s):Inv X pins σ H s:=⟨I.ok.unwish,I.os,I.bare,I.base,I.loc,I.cell,I.free,I.freeC,I.pin,I.hok,I.len⟩
theorem SP.unwish{D:Dj}{f:Flow}{s':Shared}(h:SP (X.wish E) pins D f s'):SP X pins D f s':=by
 cases f with
 |next=>obtain⟨σ',H',I,q⟩:=h;exact⟨σ',H',I.unwish,q⟩
 |brk=>obtain⟨σ',H',I,q⟩:=h;exact⟨σ',H',I.unwish,q⟩
 |cont=>obtain⟨σ',H',I,q⟩:=h;exact⟨σ',H',I.unwish,q⟩
 |ret u=>obtain⟨v,σ',H',I,r,q⟩:=h;exact⟨v,σ',H',I.unwish,r,q⟩
theorem PSs.nox{st:List Stmt}{t:TS}(h:PSs X.nox st t):PSs X st t:=λ pins s σ H D I hw =>
 wpAny_mono (h pins s σ H D (I.wish _) hw) (λ_ _ q=>q.unwish) λ_ _ z=>False.elim z
end
section
variable{X:Cx}{st:Stmt}{rest:List Stmt}{t u:TS}{e:Expr}{te:TE}{pos:Pos}
def SY:TS:=λ D σ H=>D.nx σ H
def Uu(t u:TS):TS:=λ D σ H=>t { D with nx:=u D } σ H
theorem Ax:PSs X [] SY:=λ_ _ σ H _ I h=>wpAny_execs_nil ⟨σ,H,I,h⟩
theorem Ab(h1:PS X st t)(h2:PSs X rest u):PSs X (st::rest) (Uu t u):=by
 intro pins s σ H D I h;refine wpAny_execs_cons (thn (h1 pins s σ H { D with nx:=u D } I h) λ f s1 q=>?_);cases f with
 |next =>
  obtain⟨σ',H',I',q⟩:=q;exact h2 pins s1 σ' H' D I' q
 |ret v=>exact q
 |brk=>exact q
 |cont=>exact q
theorem Ah(h1:PS X st t):PSs X [st] t:=by
 intro pins s σ H D I h;refine wpAny_execs_cons (thn (h1 pins s σ H D I h) λ f s1 q=>?_);cases f with
 |next=>exact wpAny_execs_nil q
 |ret v=>exact q
 |brk=>exact q
 |cont=>exact q
def RY:TS:=λ D σ H=>D.bk σ H
def Te:TS:=λ D σ H=>D.ct σ H
theorem ON:PS X (.Break pos) RY:=λ_ _ σ H _ I h=>wpAny_Break ⟨σ,H,I,h⟩
theorem Kw:PS X (.Continue pos) Te:=λ_ _ σ H _ I h=>wpAny_Continue ⟨σ,H,I,h⟩
theorem Inv.quiet{pins:PNz}{σ:St}{H:Hp}{s:Shared}(I:Inv X pins σ H s):interactive X.env=false:=by simp[interactive,I.ok.kind]
def Tb(te:TE):TS:=λ D σ H=>te σ H λ_ H1=>D.nx σ H1
theorem AQ(he:PE X e te)(hs:swapsWith e none pos.line X.env=pure false:=by rfl):PS X (.Expr e pos) (Tb te):=by
 intro pins s σ H D I h;exact wpAny_Expr_any (thn (he pins s σ H _ I h) λ v s1 ⟨x,H1,I1,r1,q1⟩=>⟨σ,H1,I1,q1⟩) I.quiet hs
def Uv(te:TE):TS:=λ D σ H=>te σ H D.rt
theorem Aq(he:PE X e te):PS X (.Return (some e) pos) (Uv te):=by
 intro pins s σ H D I h;exact wpAny_Return_some (thn (he pins s σ H _ I h) λ v s1 ⟨x,H1,I1,r1,q1⟩=>⟨x,σ,H1,I1,r1,q1⟩)
def Ux(c:TT)(t u:TS):TS:=λ D σ H=>c σ H λ b H1=>if b=true then t D σ H1 else u D σ H1
theorem AG{c:Expr}{a b:List Stmt}{tc:TT}(hc:PT X c tc)(ha:PSs X a t)(hb:PSs X b u):PS X (.If c a b pos) (Ux tc t u):=by
 intro pins s σ H D I h;refine wpAny_If (thn (hc pins s σ H _ I h) λ d s1 hz_=>?_);obtain⟨H1,I1,q1⟩:=hz_;cases d with
 |true=>exact ha pins s1 σ H1 D I1 q1
 |false=>exact hb pins s1 σ H1 D I1 q1
def RQ:TS:=λ_ _ _=>False
theorem BB:PS X st RQ:=λ_ _ _ _ _ _ h=>h.elim
end
abbrev TG:=V->St->Hp->(St->Hp->Prop)->Prop
abbrev TGs:=LUz->St->Hp->(St->Hp->Prop)->Prop
def PG(X:Cx)(target:Expr)(t:TG):Prop :=
 ∀(pins:PNz)(s:Shared)(σ:St)(H:Hp)(v:V)(u:Value)(Q:St->Hp->Prop),Inv X pins σ H s->RelV v u->t v σ H Q ->
  wpAny (model X.prog X.w) X.A (assign target X.env u) (λ_ s'=>∃σ' H',Inv X pins σ' H' s'/\Q σ' H') X.xe s
def PGs(X:Cx)(ts:List Expr)(t:TGs):Prop :=
 ∀(pins:PNz)(s:Shared)(σ:St)(H:Hp)(vs:LUz)(us:LWz)(Q:St->Hp->Prop),Inv X pins σ H s->Vals vs us->t vs σ H Q ->
  wpAny (model X.prog X.w) X.A (assignInOrder ((assignEach ts X.env).map (·.2)) us) (λ_ s'=>∃σ' H',Inv X pins σ' H' s'/\Q σ' H') X.xe s
abbrev SK:=V->V->V->Hp->(Hp->Prop)->Prop
def Ug(X:Cx)(t:SK):Prop :=
 ∀(pins:PNz)(s:Shared)(σ:St)(H:Hp)(o i v:V)(ov iv u:Value)(Q:Hp->Prop),Inv X pins σ H s->RelV o ov->RelV i iv->RelV v u->t o i v H Q ->
  wpAny (model X.prog X.w) X.A (setItem ov iv u) (λ_ s'=>∃H',Inv X pins σ H' s'/\Q H') X.xe s
abbrev TIp:=V->V->Hp->VK->Prop
def PIp(X:Cx)(op:Operator)(t:TIp):Prop :=
 ∀(pins:PNz)(s:Shared)(σ:St)(H:Hp)(x y:V)(v u:Value)(Q:VK),Inv X pins σ H s->RelV x v->RelV y u->t x y H Q ->
  wpAny (model X.prog X.w) X.A (inplaceOp op v u) (EP X pins σ Q) X.xe s
section
variable{X:Cx}{pos:Pos}
def P8(i:Nat):TG:=λ v σ H Q=>Q (σ.set i (some v)) H
theorem Aj{i:Nat}{x:Str}(hN:X.N.Nodup)(hi:X.N[i]?=some x)(hx:Loc X.env.scope x)(hf:X.fn x=true\/X.env.scope.names.lookup x=some .local:=by first|exact .inl rfl|exact .inr rfl|assumption):PG X (.Name x pos) (P8 i):=by
 intro pins s σ H v u Q I r h;exact wpAny_assign_Name (G7 I hN hi hx r (λ s' I'=>⟨_,H,I',h⟩) hf)
def UJ:TGs:=λ vs σ H Q=>vs=[]/\Q σ H
def TQ(t:TG)(u:TGs):TGs:=λ vs σ H Q=>∃v r,vs=v::r/\t v σ H λ σ' H'=>u r σ' H' Q
theorem AU:PGs X [] UJ:=by
 intro pins s σ H vs us Q I r h;obtain⟨e,h⟩:=h;subst e;cases r;exact assignInOrder_nil ⟨σ,H,I,h⟩
theorem Au{e:Expr}{es:List Expr}{t:TG}{u:TGs}(h1:PG X e t)(h2:PGs X es u)
  (hs:(assignEach (e::es) X.env).map (·.2)=assign e X.env::(assignEach es X.env).map (·.2):=by rfl):PGs X (e::es) (TQ t u):=by
 intro pins s σ H vs us Q I r h;obtain⟨v,vr,e1,h⟩:=h;subst e1;cases r with
 |cons r rr =>
  rw[hs];refine assignInOrder_cons (thn (h1 pins s σ H _ _ _ I r h) λ_ s1 hz_=>?_);obtain⟨σ1,H1,I1,q1⟩:=hz_;exact h2 pins s1 σ1 H1 _ _ Q I1 rr q1
inductive RC(K:Frag)(n:Nat)(t:TGs)(v:V)(σ:St)(H:Hp)(Q:St->Hp->Prop):Prop
 |mk (a:Addr) (xs:LUz) (e:v=.ref a) (s:SqT K H a xs) (l:xs.length=n) (q:t xs σ H Q):RC K n t v σ H Q
def TN(K:Frag)(n:Nat)(t:TGs):TG:=λ v σ H Q=>RC K n t v σ H Q
theorem B4{es:List Expr}{k:Nat}{t:TGs}{n:Nat}(hc:X.calm=true)(h:PGs X es t)
  (hn:(assignEach es X.env).length=n:=by rfl) (hst:(assignEach es X.env).findIdx? (·.1)=none:=by rfl):PG X (.Tuple es k pos) (TN X.K n t):=by
 intro pins s σ H v u Q I r hw;obtain⟨a,xs,e1,hq,hl,hw⟩:=hw;subst e1;cases r;obtain⟨its,rv,ht,hz⟩:=I.tuple hq;refine assign_Tuple_tuple (I.ok.hd hc) ht (by simp[hn,<-hl,rv.length]) hst λ h' hx=>?_;have I1:Inv X pins σ H { s with heap:=h' }:=I.kept (t':=s.toks) λ b o e=>hx b o (aB (aq e)) e;exact h pins _ σ H xs _ Q I1 (by simpa using rv) hw
def Qu(te:TE)(g:TG):TS:=λ D σ H=>te σ H λ x H1=>g x σ H1 D.nx
theorem LL{tg e:Expr}{te:TE}{g:TG}(he:PE X e te)(hg:PG X tg g)(hs:swapsWithSole [tg] e pos.line X.env=pure false:=by rfl)(hw:swappedStores [tg] e X.env=pure none:=by rfl)
  (h1:(assignEach [tg] X.env).map (·.2)=[assign tg X.env]:=by rfl):PS X (.Assign [tg] e pos) (Qu te g):=by
 intro pins s σ H D I h;refine wpAny_Assign_stores (thn (he pins s σ H _ I h) λ v s1 hz_=>?_) hs hw;obtain⟨x,H1,I1,r1,q1⟩:=hz_;rw[h1];exact thn (hg pins s1 σ H1 x v _ I1 r1 q1) λ_ s2 q=>q
theorem Am{i:Nat}{x:Str}{e:Expr}{te:TE}{pos':Pos}(hN:X.N.Nodup)(hi:X.N[i]?=some x)(hx:Loc X.env.scope x)(he:PE X e te)(hs:swapsWith e (some (.Name x pos')) pos.line X.env=pure false:=by rfl)(hf:X.fn x=true\/X.env.scope.names.lookup x=some .local:=by first|exact .inl rfl|exact .inr rfl|assumption) :
  PS X (.Assign [.Name x pos'] e pos) (Qu te (P8 i)):=by
 intro pins s σ H D I h;refine wpAny_Assign_Name (thn (he pins s σ H _ I h) λ v s1 hz_=>?_) hs;obtain⟨y,H1,I1,r1,q1⟩:=hz_;exact G7 I1 hN hi hx r1 (λ s2 I2=>⟨_,H1,I2,q1⟩) hf
def U2(i:Nat)(te:TE)(ti:TIp):TS:=λ D σ H=>∃x,σ[i]?=some (some x)/\te σ H λ y H1=>ti x y H1 λ z H2=>D.nx (σ.set i (some z)) H2
theorem Ci{i:Nat}{x:Str}{e:Expr}{te:TE}{op:Operator}{ti:TIp}{pos':Pos}(hN:X.N.Nodup)(hi:X.N[i]?=some x)(hx:Loc X.env.scope x)(he:PE X e te)(ho:PIp X op ti)(hf:X.fn x=true\/X.env.scope.names.lookup x=some .local:=by first|exact .inl rfl|exact .inr rfl|assumption) :
  PS X (.AugAssign (.Name x pos') op e pos) (U2 i te ti):=by
 intro pins s σ H D I h;obtain⟨v,e1,h⟩:=h;obtain⟨m,hn,hl⟩:=I.loc;have vis:Vis X.env.scope x:=by rcases hx with k|k;exact .inl k;exact .inr (.inl k)
 obtain⟨u,r,l⟩:=hl i x v hi e1 vis;refine wpAny_AugAssign_Name ?_;have go:wpAny (model X.prog X.w) X.A (eval e X.env) (λ w s₂=>wpAny (model X.prog X.w) X.A (inplaceOp op u w) (λ r s₃=>wpAny (model X.prog X.w) X.A (storeName X.env x r) (λ_=>SP X pins D .next) X.xe s₃) X.xe s₂) X.xe s:=by
  refine thn (he pins s σ H _ I h) λ w s1 hz_=>?_;obtain⟨y,H1,I1,r1,q1⟩:=hz_;refine thn (ho pins s1 σ H1 v y u w _ I1 r r1 q1) λ z s2 hz_=>?_;obtain⟨zv,H2,I2,r2,q2⟩:=hz_;exact G7 I2 hN hi hx r2 (λ s3 I3=>⟨_,H2,I3,q2⟩) hf
 rcases l with ⟨hk,hm⟩|⟨hk,c,hc,hcell⟩
 .exact wpAny_loadName_local I.ok.kind hk hn hm go
 .rcases hk with hk|hk
  .exact wpAny_loadName_cell I.ok.kind hk hc hcell go
  .rcases hx with k|k
   .have:X.env.scope.names.lookup x=some .free:=hk;rw[k]at this;cases this
   .have:X.env.scope.names.lookup x=some .free:=hk;rw[k]at this;cases this
def Tg(to ti te:TE)(tget:V->V->Hp->VK->Prop)(tip:TIp)(tset:SK):TS:=λ D σ H=>to σ H λ o H1=>ti σ H1 λ i H2=>tget o i H2 λ x H3=>te σ H3 λ y H4=>tip x y H4 λ z H5=>tset o i z H5 λ H6=>D.nx σ H6
def Uh(X:Cx)(t:V->V->Hp->VK->Prop):Prop :=
 ∀(pins:PNz)(s:Shared)(σ:St)(H:Hp)(o i:V)(ov iv:Value)(Q:VK),Inv X pins σ H s->RelV o ov->RelV i iv->t o i H Q ->
  wpAny (model X.prog X.w) X.A (getItem ov iv) (EP X pins σ Q) X.xe s
theorem Q9{o i e:Expr}{to ti te:TE}{tget:V->V->Hp->VK->Prop}{tip:TIp}{tset:SK}{op:Operator}{tpos:Pos}(ho:PE X o to)(hi:PE X i ti)(hg:Uh X tget)(he:PE X e te)(hp:PIp X op tip)(hs:Ug X tset)
    (ha:∀ov iv new,augStore i ov iv new=(do holding [new,ov,iv] (setItem ov iv new);release [new,ov,iv] [];pure .next):=by intros;rfl):PS X (.AugAssign (.Subscript o i tpos) op e pos) (Tg to ti te tget tip tset):=by
  intro pins s σ H D I h;refine wpAny_AugAssign_SubscriptAny (thn (ho pins s σ H _ I h) λ ov s1 hz_=>?_) ha;obtain⟨x1,H1,I1,r1,q1⟩:=hz_;refine thn (hi pins s1 σ H1 _ I1 q1) λ iv s2 hz_=>?_;obtain⟨x2,H2,I2,r2,q2⟩:=hz_;refine thn (hg pins s2 σ H2 x1 x2 ov iv _ I2 r1 r2 q2) λ old s3 hz_=>?_;obtain⟨x3,H3,I3,r3,q3⟩:=hz_;refine thn (he pins s3 σ H3 _ I3 q3) λ v s4 hz_=>?_;obtain⟨x4,H4,I4,r4,q4⟩:=hz_;refine thn (hp pins s4 σ H4 x3 x4 old v _ I4 r3 r4 q4) λ new s5 hz_=>?_;obtain⟨x5,H5,I5,r5,q5⟩:=hz_;exact thn (hs pins s5 σ H5 x1 x2 x5 ov iv new _ I5 r1 r2 r5 q5) λ_ s6 ⟨H6,I6,q6⟩=>⟨σ,H6,I6,q6⟩
def ipI(f:Int->Int->Int):TIp:=λ x y H Q=>∃i j,x=.int i/\y=.int j/\Q (.int (f i j)) H
theorem Da:PIp X .Add (ipI λ i j=>i+j):=by
 intro pins s σ H x y v u Q I r1 r2 h;obtain⟨i,j,e1,e2,q⟩:=h;subst e1;subst e2;obtain⟨t,rfl⟩:=r1;obtain⟨t',rfl⟩:=r2;exact iadd_int ⟨.int _,H,I.tok _,⟨_,rfl⟩,q⟩
theorem LY:PIp X .Sub (ipI λ i j=>i-j):=by
 intro pins s σ H x y v u Q I r1 r2 h;obtain⟨i,j,e1,e2,q⟩:=h;subst e1;subst e2;obtain⟨t,rfl⟩:=r1;obtain⟨t',rfl⟩:=r2;exact isub_int ⟨.int _,H,I.tok _,⟨_,rfl⟩,q⟩
def RN(c:TT)(tb:TS):TS:=λ D σ H=>∃W:Nat->St->Hp->Prop,(∃m,W m σ H)/\∀m σ H,W m σ H ->
 c σ H λ b H1=>if b=true then ∃N:St->Hp->Prop,(∀σ' H',N σ' H'->∃m',m'<m/\W m' σ' H')/\tb { D with nx:=N,ct:=N,bk:=D.nx } σ H1 else D.nx σ H1
theorem Dz{c:Expr}{body:List Stmt}{tc:TT}{tb:TS}(hp:PassesOwn (model X.prog X.w) X.A X.env X.xe)(hc:PT X c tc)(hb:PSs X body tb):PS X (.While c body [] pos) (RN tc tb):=by
 intro pins s σ H D I h;obtain⟨W,⟨m0,w0⟩,turn⟩:=h;refine wpAny_While (codeAny_whileLoop (λ n s'=>∃σ' H',Inv X pins σ' H' s'/\W n σ' H') ?_ m0 ⟨σ,H,I,w0⟩);rintro n s1 ⟨σ1,H1,I1,w1⟩;refine wpAny_passesOwn hp (thn (hc pins s1 σ1 H1 _ I1 (turn n σ1 H1 w1)) λ b s2 hz_=>?_);obtain⟨H2,I2,q2⟩:=hz_;cases b with
 |true =>
  obtain⟨N,hN,q2⟩:=q2;rw[if_pos rfl];refine wpAny_passesOwn hp (thn (hb pins s2 σ1 H2 _ I2 q2) λ f s3 q3=>?_);cases f with
  |next =>
   obtain⟨σ3,H3,I3,n3⟩:=q3;obtain⟨m',hm,w3⟩:=hN σ3 H3 n3;exact⟨m',hm,σ3,H3,I3,w3⟩
  |cont =>
   obtain⟨σ3,H3,I3,n3⟩:=q3;obtain⟨m',hm,w3⟩:=hN σ3 H3 n3;exact⟨m',hm,σ3,H3,I3,w3⟩
  |brk=>exact q3
  |ret v=>exact q3
 |false =>
  rw[if_neg ao];exact wpAny_execs_nil ⟨σ1,H2,I2,q2⟩
end
structure It where
 go:Nat->Hp->Prop
 yld:Nat->Hp->V->Hp->Prop
 stop:Nat->Hp->Prop
def E2(X:Cx)(pins:PNz)(H:Hp)(b:Addr):Prop :=
 H b=none/\b≠X.env.locals/\b∉X.fs/\(b∈X.ex\/X.s₀.heap.objs.size<=b)/\(∀x c,X.env.cells.lookup x=some c->c≠b)/\∀p∈X.pn++pins,p.1≠b
theorem Inv.fpOk{X:Cx}{pins:PNz}{σ:St}{H H':Hp}{s:Shared}{b:Addr}(I:Inv X pins σ H s)(hb:s.heap.objs.size<=b)(hn:H' b=none):E2 X pins H' b:=by
 refine⟨hn,dG (aO I.lt hb),I.nofs hb,.inr (aR I.sz hb),λ x c e z=>?_,λ p hp z=>?_⟩
 .obtain⟨v,q⟩:=I.cell x c e;exact absurd (aO q.lt (by rw[z];exact hb)) (bE _)
 .exact absurd (aO (aq (I.pin p hp).1) (by rw[z];exact hb)) (bE _)
structure Mi(P:Program)(w:World)(K:Frag)(tg:Expr)(J:It)(fp:List Addr)(it:Addr)(tn:Nat->Heap->Prop):Prop where
 mem:it∈fp
 obj:∀i h,tn i h->∀b∈fp,∃o,h.get? b=some o/\∀v,o.data≠.cell v
 keep:∀i h h',tn i h->(∀b∈fp,∀o,h.get? b=some o->h'.get? b=some o)->tn i h'
 item:∀(X:Cx),X.prog=P->X.w=w->X.K=K->X.calm=true->∀(i:Nat)(pins:PNz)(s:Shared)(σ:St)(H:Hp)(E:VPz),Inv X pins σ H s->(∀b∈fp,E2 X pins H b)->tn i s.heap->J.go i H ->
  wpAny (model P w) X.A (pyNext (.ref it)) (λ r s1=>∃u,r=some u /\
   wpAny (model P w) X.A (letOwnedTupleGo tg (.ref it) u) (λ_ s2=>∃x H',Inv X pins σ H' s2/\RelV x u/\J.yld i H x H'/\tn (i+1) s2.heap/\∀b∈fp,H' b=none) E s1) E s
 done:∀(X:Cx),X.prog=P->X.w=w->X.K=K->X.calm=true->∀(i:Nat)(pins:PNz)(s:Shared)(σ:St)(H:Hp)(E:VPz),Inv X pins σ H s->(∀b∈fp,E2 X pins H b)->tn i s.heap->J.stop i H ->
  wpAny (model P w) X.A (pyNext (.ref it)) (λ r s1=>r=none/\Inv X pins σ H s1) E s
 self:∀(A:Around)(i:Nat)(s:Shared)(Q:VPz)(E:VPz),tn i s.heap->Q (.ref it) s->wpAny (model P w) A (pyIter (.ref it)) Q E s
abbrev TI:=St->Hp->(It->Hp->Prop)->Prop
def PIE(X:Cx)(pins:PNz)(σ:St)(tg:Expr)(R:It->Hp->Prop)(itv:Value)(s2:Shared):Prop :=
 ∃(it:Addr)(fp:List Addr)(tn:Nat->Heap->Prop)(J:It)(H':Hp),itv=.ref it/\Inv X pins σ H' s2/\Mi X.prog X.w X.K tg J fp it tn/\tn 0 s2.heap/\(∀b∈fp,E2 X pins H' b)/\R J H'
def PI(X:Cx)(tg iter:Expr)(wi:TI):Prop :=
 ∀(pins:PNz)(s:Shared)(σ:St)(H:Hp)(R:It->Hp->Prop),Inv X pins σ H s->wi σ H R ->
  wpAny (model X.prog X.w) X.A (eval iter X.env) (λ v s1=>wpAny (model X.prog X.w) X.A (pyIter v) (PIE X pins σ tg R) X.xe s1) X.xe s
theorem MM{M:Model}{A:Around}{E:VPz}{s:Shared}{tg:Expr}{it:Addr}{u:Value}{o:Obj}{n:String}{vs:Array Value}{Q:Unit->Shared->Prop}(ho:s.heap.get? it=some o)(hc:o.cls=.type n)(hd:o.data=.fields vs)
    (hn:["enumerate","zip","dict_itemiterator","dict_reverseitemiterator","odict_iterator","itertools.zip_longest","itertools.pairwise"].contains n=false) (hQ:Q () s):wpAny M A (letOwnedTupleGo tg (.ref it) u) Q E s:=by
  unfold letOwnedTupleGo;cases tg<;>first
    |exact wpAny_pure hQ
    | (cases u<;>first
        |exact wpAny_pure hQ
        | (refine wpAny_bind (wpAny_load ho ?_)
           rw[hc,hd];show wpAny M A (if (["enumerate","zip","dict_itemiterator","dict_reverseitemiterator","odict_iterator","itertools.zip_longest","itertools.pairwise"].contains n&&vs[0]?==some (rawInt _))=true then _ else _) Q E s;rw[if_neg (by intro h;rw[hn,Bool.false_and]at h;cases h)];exact wpAny_pure hQ))
def Itl(K:Frag)(a:Addr):It :=
 ⟨λ i H=>∃xs x,SqL K H a xs/\xs[i]?=some x,λ i H x H'=>H'=H/\∀xs,SqL K H a xs->xs[i]?=some x,λ i H=>∃xs,SqL K H a xs/\xs.length<=i⟩
def Itt(K:Frag)(a:Addr):It :=
 ⟨λ i H=>∃xs x,SqT K H a xs/\xs[i]?=some x,λ i H x H'=>H'=H/\∀xs,SqT K H a xs->xs[i]?=some x,λ i H=>∃xs,SqT K H a xs/\xs.length<=i⟩
def Itr(lo:Int)(n:Nat):It:=⟨λ i _=>i<n,λ i H x H'=>H'=H/\x=.int (lo+i),λ i _=>n<=i⟩
theorem Nq{P:Program}{w:World}{K:Frag}{tg:Expr}(a it:Addr):Mi P w K tg (Itl K a) [it] it (λ i h=>h.IsListIter it a i) where
 mem:=by simp
 obj:=λ i h st b hb=>by
  have e:b=it:=by simpa using hb
  subst e;obtain⟨o,e,c,d⟩:=st;exact⟨o,e,λ v z=>by rw[d]at z;cases z⟩
 keep:=λ i h h' st k=>st.at λ o e=>k it (by simp) o e
 item:=by
  intro X hP hw hK hc i pins s σ H E I hf st hg;subst hP hw hK;obtain⟨xs,x,hq,hx⟩:=hg;obtain⟨its,rv,p,hz⟩:=I.list hq;obtain⟨u,hu,ru⟩:=rv.get hx;obtain⟨f0,f1,f2,f3,f4,f5⟩:=hf it (by simp);refine wpAny_pyNext_list_item st p.isList (x:=u) (by simpa using hu) λ h' st' sb=>?_;have I1:Inv X pins σ H { s with heap:=h' }:=I.turned (t':=s.toks) (λ b o hb e=>(sb.2 b hb).trans e) f0 f1 f3 f4 f5;obtain⟨o,e,c,d⟩:=id st';exact⟨u,rfl,MM (s:={ s with heap:=h' }) e c d (by decide) ⟨x,H,I1,ru,⟨rfl,λ ys hy=>by rw[I.list_inj hy hq];exact hx⟩,st',λ b hb=>(hf b hb).1⟩⟩
 done:=by
  intro X hP hw hK hc i pins s σ H E I hf st hg;subst hP hw hK;obtain⟨xs,hq,hx⟩:=hg;obtain⟨its,rv,p,hz⟩:=I.list hq;obtain⟨f0,f1,f2,f3,f4,f5⟩:=hf it (by simp);have hl:=rv.length;exact wpAny_pyNext_list_end (I.ok.hd hc) st p.isList (by simp;lia) λ h' eb=>⟨rfl,I.turned (t':=s.toks) (λ b o hb e=>eb b o hb e) f0 f1 f3 f4 f5⟩
 self:=λ_ _ _ _ _ st h=>wpAny_pyIter_listiter st h
theorem L4{P:Program}{w:World}{K:Frag}{tg:Expr}(a it:Addr):Mi P w K tg (Itt K a) [it] it (λ i h=>h.IsTupleIter it a i) where
 mem:=by simp
 obj:=λ i h st b hb=>by
  have e:b=it:=by simpa using hb
  subst e;obtain⟨o,e,c,d⟩:=st;exact⟨o,e,λ v z=>by rw[d]at z;cases z⟩
 keep:=λ i h h' st k=>st.at λ o e=>k it (by simp) o e
 item:=by
  intro X hP hw hK hc i pins s σ H E I hf st hg;subst hP hw hK;obtain⟨xs,x,hq,hx⟩:=hg;obtain⟨its,rv,p,hz⟩:=I.tuple hq;obtain⟨u,hu,ru⟩:=rv.get hx;obtain⟨f0,f1,f2,f3,f4,f5⟩:=hf it (by simp);refine wpAny_pyNext_tuple_item st (show s.heap.IsTuple a its.toArray from p) (x:=u) (by simpa using hu) λ h' st' sb=>?_;have I1:Inv X pins σ H { s with heap:=h' }:=I.turned (t':=s.toks) (λ b o hb e=>(sb.2 b hb).trans e) f0 f1 f3 f4 f5;obtain⟨o,e,c,d⟩:=id st';exact⟨u,rfl,MM (s:={ s with heap:=h' }) e c d (by decide) ⟨x,H,I1,ru,⟨rfl,λ ys hy=>by rw[I.tuple_inj hy hq];exact hx⟩,st',λ b hb=>(hf b hb).1⟩⟩
 done:=by
  intro X hP hw hK hc i pins s σ H E I hf st hg;subst hP hw hK;obtain⟨xs,hq,hx⟩:=hg;obtain⟨its,rv,p,hz⟩:=I.tuple hq;obtain⟨f0,f1,f2,f3,f4,f5⟩:=hf it (by simp);have hl:=rv.length;exact wpAny_pyNext_tuple_end (I.ok.hd hc) st (show s.heap.IsTuple a its.toArray from p) (by simp;lia) λ h' eb=>⟨rfl,I.turned (t':=s.toks) (λ b o hb e=>eb b o hb e) f0 f1 f3 f4 f5⟩
 self:=λ_ _ _ _ _ st h=>wpAny_pyIter_tupleiter st h
theorem L5{P:Program}{w:World}{K:Frag}{tg:Expr}(it:Addr)(lo:Int)(n:Nat):Mi P w K tg (Itr lo n) [it] it (λ i h=>IsRangeIter h it (lo+(i:Nat)*1) ((n:Int)-(i:Nat)) 1) where
 mem:=by simp
 obj:=λ i h st b hb=>by
  have e:b=it:=by simpa using hb
  subst e;exact⟨_,st,λ v z=>by
   have z':Data.fields _=Data.cell v:=z;cases z'⟩
 keep:=λ i h h' st k=>k it (by simp) _ st
 item:=by
  intro X hP hw hK hc i pins s σ H E I hf st hg;subst hP hw hK;obtain⟨f0,f1,f2,f3,f4,f5⟩:=hf it (by simp);have W:=Walks.range (prog:=X.prog) (w:=X.w) (I.ok.hd hc) it lo 1 n;refine W.item i s _ _ hg st λ v h' tk hv st' kk=>?_;obtain⟨t,rfl⟩:=hv;have I1:Inv X pins σ H { s with heap:=h',toks:=tk }:=I.turned (λ b o hb e=>kk b o (by simpa using hb) e) f0 f1 f3 f4 f5;refine⟨_,rfl,MM (s:={ s with heap:=h',toks:=tk }) (n:="range_iterator") st' rfl rfl (by decide) ⟨.int (lo+i),H,I1,⟨t,?_⟩,⟨rfl,rfl⟩,st',λ b hb=>(hf b hb).1⟩⟩;rw[Int.mul_one]
 done:=by
  intro X hP hw hK hc i pins s σ H E I hf st hg;subst hP hw hK;obtain⟨f0,f1,f2,f3,f4,f5⟩:=hf it (by simp);exact wpAny_pyNext_range_end (I.ok.hd hc) st (by have:n<=i:=hg;lia) λ h' eb=>⟨rfl,I.turned (t':=s.toks) (λ b o hb e=>eb b o hb e) f0 f1 f3 f4 f5⟩
 self:=λ_ _ _ _ _ st h=>wpAny_pyIter_rangeiter st h
section
variable{X:Cx}{tg:Expr}
inductive SO(x:V)(S Q:Addr->Prop):Prop
 |mk (a:Addr) (e:x=.ref a) (s:S a) (q:Q a):SO x S Q
def TK(K:Frag)(tl:TE):TI:=λ σ H R=>tl σ H λ x H1=>SO x (λ a=>∃xs,SqL K H1 a xs) λ a=>R (Itl K a) H1
def UH(K:Frag)(tl:TE):TI:=λ σ H R=>tl σ H λ x H1=>SO x (λ a=>∃xs,SqT K H1 a xs) λ a=>R (Itt K a) H1
theorem A0{l:Expr}{tl:TE}(hl:PE X l tl):PI X tg l (TK X.K tl):=by
 intro pins s σ H R I h;refine thn (hl pins s σ H _ I h) λ v s1 hz_=>?_;obtain⟨x,H1,I1,r1,q1⟩:=hz_;obtain⟨a,e,⟨xs,hq⟩,q⟩:=q1;subst e;cases r1;obtain⟨its,rv,p,hz⟩:=I1.list hq;refine wpAny_pyIter_list p.isList ?_;refine⟨s1.heap.objs.size,[s1.heap.objs.size],_,_,H1,rfl,I1.kept (t':=s1.toks) λ b o e=>ae _ e,Nq a _,⟨_,au _ rfl,rfl,rfl⟩,λ b hb=>?_,q⟩;have e:b=s1.heap.objs.size:=by simpa using hb
 subst e;exact I1.fpOk (ah _) (I1.hok.fresh (ah _))
theorem LM{l:Expr}{tl:TE}(hl:PE X l tl):PI X tg l (UH X.K tl):=by
 intro pins s σ H R I h;refine thn (hl pins s σ H _ I h) λ v s1 hz_=>?_;obtain⟨x,H1,I1,r1,q1⟩:=hz_;obtain⟨a,e,⟨xs,hq⟩,q⟩:=q1;subst e;cases r1;obtain⟨its,rv,p,hz⟩:=I1.tuple hq;refine wpAny_pyIter_tuple (show s1.heap.IsTuple a its.toArray from p) ?_;refine⟨s1.heap.objs.size,[s1.heap.objs.size],_,_,H1,rfl,I1.kept (t':=s1.toks) λ b o e=>ae _ e,L4 a _,⟨_,au _ rfl,rfl,rfl⟩,λ b hb=>?_,q⟩;have e:b=s1.heap.objs.size:=by simpa using hb
 subst e;exact I1.fpOk (ah _) (I1.hok.fresh (ah _))
theorem Ku{pins:PNz}{σ:St}{H:Hp}{s:Shared}{R:It->Hp->Prop}{E:VPz}{lo hi:Int}{t u v:Tok}{tk:Nat}(I:Inv X pins σ H s)(h1:-(2^62)<=lo)(h2:lo<2^62)(h3:-(2^62)<=hi)(h4:hi<2^62)
  (q:R (Itr lo (hi-lo).toNat) H):wpAny (model X.prog X.w) X.A (pyIter (.ref s.heap.objs.size)) (PIE X pins σ tg R) E { s with heap:=s.heap.push { cls:=.type "range",data:=.fields #[.int lo t,.int hi u,.int 1 v] },toks:=tk }:=by
 refine wpAny_pyIter_range (IsRange.new ..) (small_one h1 h2 h3 h4) ?_;have I1:Inv X pins σ H { s with heap:=s.heap.push { cls:=.type "range",data:=.fields #[.int lo t,.int hi u,.int 1 v] },toks:=tk }:=I.kept λ b o e=>ae _ e;refine⟨(s.heap.push { cls:=.type "range",data:=.fields #[.int lo t,.int hi u,.int 1 v] }).objs.size,[(s.heap.push { cls:=.type "range",data:=.fields #[.int lo t,.int hi u,.int 1 v] }).objs.size],_,_,H,rfl,
  I1.kept (t':=tk) λ b o e=>ae _ e,L5 _ lo (hi-lo).toNat,?_,λ b hb=>?_,q⟩
 .have e1:lo+((0:Nat):Int)*1=lo:=by simp
  have e2:(((hi-lo).toNat:Nat):Int)-((0:Nat):Int)=Builtin.Range.rangeSize lo hi 1:=by rw[rangeSize_one];split<;>lia
  show IsRangeIter _ _ (lo+((0:Nat):Int)*1) ((((hi-lo).toNat:Nat):Int)-((0:Nat):Int)) 1;rw[e1,e2];exact au _ rfl
 .have e:b=(s.heap.push { cls:=.type "range",data:=.fields #[.int lo t,.int hi u,.int 1 v] }).objs.size:=by simpa using hb
  subst e;exact I1.fpOk (ah _) (I1.hok.fresh (ah _))
inductive RD(vs:LUz)(R:Int->Prop):Prop
 |mk (j:Int) (e:vs=[.int j]) (l:-(2^62)<=j) (h:j<2^62) (q:R j):RD vs R
def TJ(ta:TA):TI:=λ σ H R=>ta σ H λ vs H1=>RD vs λ j=>R (Itr 0 j.toNat) H1
def TF(ta:TA):TI:=λ σ H R=>ta σ H λ vs H1=>∃i j:Int,vs=[.int i,.int j]/\(-(2^62)<=i/\i<2^62/\-(2^62)<=j/\j<2^62)/\R (Itr i (j-i).toNat) H1
theorem CG{a:Expr}{ta:TA}{p pos:Pos}(hg:Gl X "range")(hm:X.mg "range"=none)(ha:PA X [a] ta)(hs:starEach [a] X.env=[(false,eval a X.env)]:=by rfl):PI X tg (.Call (.Name "range" p) [a] [] pos) (TJ ta):=by
 intro pins s σ H R I h;refine Call_ (Cm I hg hm boot_range (PyProof.Rows.callWith_type1 (thn (ha pos pins s σ H _ I h) λ us s1 hz_=>?_) hs rfl));obtain⟨vs,H1,I1,r1,q1⟩:=hz_;obtain⟨j,e,q1,q2,q⟩:=q1;subst e;cases r1 with
 |cons r rr =>
  cases rr;obtain⟨t,rfl⟩:=r;exact call_range_1 (Ku I1 (by lia) (by lia) q1 q2 (by simpa using q))
theorem AH{a b:Expr}{ta:TA}{p pos:Pos}(hg:Gl X "range")(hm:X.mg "range"=none)(ha:PA X [a,b] ta)(hs:starEach [a,b] X.env=[(false,eval a X.env),(false,eval b X.env)]:=by rfl)(hs2:starEach [b] X.env=[(false,eval b X.env)]:=by rfl) :
  PI X tg (.Call (.Name "range" p) [a,b] [] pos) (TF ta):=by
 intro pins s σ H R I h;refine Call_ (Cm I hg hm boot_range (PyProof.Rows.callWith_type1 (thn (ha pos pins s σ H _ I h) λ us s1 hz_=>?_) (by rw[hs,hs2]) (by rw[hs2];rfl)));obtain⟨vs,H1,I1,r1,q1⟩:=hz_;obtain⟨i,j,e,⟨q1,q2,q3,q4⟩,q⟩:=q1;subst e;cases r1 with
 |cons r rr =>
  cases rr with
  |cons r' rr =>
   cases rr;obtain⟨t,rfl⟩:=r;obtain⟨t',rfl⟩:=r';exact call_range_2 (Ku I1 q1 q2 q3 q4 q)
def Uy(wi:TI)(g:TG)(tb:TS):TS:=λ D σ H=>wi σ H λ J H1=>∃W:Nat->Nat->St->Hp->Prop,(∃m,W 0 m σ H1)/\∀i m σ H,W i m σ H ->
 (J.stop i H/\D.nx σ H)\/(J.go i H/\∃N:St->Hp->Prop,(∀σ' H',N σ' H'->∃m',m'<m/\W (i+1) m' σ' H')/\∀x H',J.yld i H x H'->g x σ H' λ σ2 H2=>tb { D with nx:=N,ct:=N,bk:=D.nx } σ2 H2)
def J1(fp:List Addr)(h:Heap):PNz:=fp.filterMap λ b=>(h.get? b).map λ o=>(b,o)
theorem AT{fp:List Addr}{h:Heap}{b:Addr}{o:Obj}(hb:b∈fp)(e:h.get? b=some o):(b,o)∈J1 fp h:=List.mem_filterMap.mpr ⟨b,hb,by rw[e];rfl⟩
theorem NF{fp:List Addr}{h:Heap}{p:Addr×Obj}(hp:p∈J1 fp h):p.1∈fp/\h.get? p.1=some p.2:=by
 obtain⟨b,hb,e⟩:=List.mem_filterMap.mp hp;cases q:h.get? b with
 |none=>rw[q]at e;cases e
 |some o =>
  rw[q]at e;have e':(b,o)=p:=Option.some.inj e;subst e';exact⟨hb,q⟩
theorem Inv.pinned{pins:PNz}{σ:St}{H:Hp}{s:Shared}{fp:List Addr}(I:Inv X pins σ H s)(hf:∀b∈fp,E2 X pins H b)(ho:∀b∈fp,∃o,s.heap.get? b=some o/\∀v,o.data≠.cell v):Inv X (pins++J1 fp s.heap) σ H s :=
 I.pins_of λ p hp=>(aF.mp hp).elim (λ z=>I.pin p (aw _ z)) λ z=>by
  obtain⟨hb,e⟩:=NF z;obtain⟨f0,f1,f2,_⟩:=hf p.1 hb;obtain⟨o,e',d⟩:=ho p.1 hb;rw[e]at e';cases e';exact⟨e,f0,f1,f2,d⟩
theorem Inv.unpinned{pins pl:PNz}{σ:St}{H:Hp}{s:Shared}(I:Inv X (pins++pl) σ H s):Inv X pins σ H s:=I.pins_of λ p hp=>I.pin p (aw _ (cH _ hp))
theorem A4{iter:Expr}{body:List Stmt}{wi:TI}{g:TG}{tb:TS}{pos:Pos}(hp:PassesOwn (model X.prog X.w) X.A X.env X.xe)(hc:X.calm=true)(hi:PI X tg iter wi)(hg:PG X tg g)(hb:PSs X body tb)
  (hs:∀x,foldedSetIterable iter X.env x=pure x:=by intro _;rfl):PS X (.For tg iter body [] pos) (Uy wi g tb):=by
 intro pins s σ H D I h;refine wpAny_For (thn (hi pins s σ H _ I h) λ v s1 h1=>thn h1 λ itv s2 h2=>?_) hs;obtain⟨it,fp,tn,J,H2,e,I2,T,st2,f2,W,⟨m0,w0⟩,turn⟩:=h2;subst e;have stat:∀{H':Hp},(∀b∈fp,H' b=none)->∀b∈fp,E2 X pins H' b:=λ hn b hb=>⟨hn b hb,(f2 b hb).2⟩;refine codeAny_forLoop_any (λ n s'=>∃i σ' H',Inv X pins σ' H' s'/\tn i s'.heap/\(∀b∈fp,H' b=none)/\W i n σ' H') ?_ m0 ⟨0,σ,H2,I2,st2,λ b hb=>(f2 b hb).1,w0⟩;rintro n s3 ⟨i,σ3,H3,I3,st3,fr3,w3⟩;rcases turn i n σ3 H3 w3 with ⟨stop,qn⟩|⟨go,N,hN,step⟩
 .refine wpAny_passesOwn hp (thn (T.done X rfl rfl rfl hc i pins s3 σ3 H3 X.xe I3 (stat fr3) st3 stop) λ r s4 hz_=>?_);obtain⟨hr,I4⟩:=hz_;subst hr;exact wpAny_execs_nil ⟨σ3,H3,I4,qn⟩
 .refine wpAny_passesOwn hp (thn (T.item X rfl rfl rfl hc i pins s3 σ3 H3 X.xe I3 (stat fr3) st3 go) λ r s4 hz_=>?_);obtain⟨u,hr,h4⟩:=hz_;subst hr;refine wpAny_passesOwn hp (thn h4 λ_ s5 hz_=>?_);obtain⟨x,H5,I5,r5,y5,st5,fr5⟩:=hz_;have I5':=I5.pinned (stat fr5) (T.obj _ _ st5);refine wpAny_passesOwn hp (thn (hg _ s5 σ3 H5 x u _ I5' r5 (step x H5 y5)) λ_ s6 hz_=>?_);obtain⟨σ6,H6,I6,q6⟩:=hz_;refine wpAny_passesOwn hp (thn (hb _ s6 σ6 H6 _ I6 q6) λ f s7 q7=>?_);have again:∀{σ7:St}{H7:Hp},Inv X (pins++J1 fp s5.heap) σ7 H7 s7->N σ7 H7->∃m,m<n/\∃i σ' H',Inv X pins σ' H' s7/\tn i s7.heap/\(∀b∈fp,H' b=none)/\W i m σ' H':=λ{σ7 H7} I7 n7=>by
   obtain⟨m',hm,w7⟩:=hN σ7 H7 n7;refine⟨m',hm,i+1,σ7,H7,I7.unpinned,T.keep _ _ _ st5 λ b hb o e=>(I7.pin (b,o) (aw _ (aw _ (AT hb e)))).1,λ b hb=>?_,w7⟩;obtain⟨o,e,d⟩:=T.obj _ _ st5 b hb;exact(I7.pin (b,o) (aw _ (aw _ (AT hb e)))).2.1
  cases f with
  |next=>obtain⟨σ7,H7,I7,n7⟩:=q7;exact again I7 n7
  |cont=>obtain⟨σ7,H7,I7,n7⟩:=q7;exact again I7 n7
  |brk=>obtain⟨σ7,H7,I7,q7⟩:=q7;exact⟨σ7,H7,I7.unpinned,q7⟩
  |ret v=>obtain⟨x7,σ7,H7,I7,r7,q7⟩:=q7;exact⟨x7,σ7,H7,I7.unpinned,r7,q7⟩
end
theorem Bc{K:Frag}{a:Addr}{xs:LUz}{g:TG}{tb:TS}{D:Dj}{σ:St}{H:Hp}(Pv:Nat->St->Hp->Prop)(h0:Pv 0 σ H)(hl:∀i σ H,i<=xs.length->Pv i σ H->SqL K H a xs)
  (hs:∀i x σ H,xs[i]?=some x->Pv i σ H->g x σ H λ σ2 H2=>tb { D with nx:=Pv (i+1),ct:=Pv (i+1),bk:=D.nx } σ2 H2) (hd:∀σ H,Pv xs.length σ H->D.nx σ H) :
  ∃W:Nat->Nat->St->Hp->Prop,(∃m,W 0 m σ H)/\∀i m σ H,W i m σ H ->
   ((Itl K a).stop i H/\D.nx σ H)\/((Itl K a).go i H/\∃N:St->Hp->Prop,(∀σ' H',N σ' H'->∃m',m'<m/\W (i+1) m' σ' H')/\∀x H',(Itl K a).yld i H x H'->g x σ H' λ σ2 H2=>tb { D with nx:=N,ct:=N,bk:=D.nx } σ2 H2):=by
 refine⟨λ i m σ H=>m=xs.length-i/\i<=xs.length/\Pv i σ H,⟨xs.length,by simp,aQ _,h0⟩,?_⟩;rintro i m σ H ⟨rfl,hi,p⟩;have q:=hl i σ H hi p;by_cases hlt:i<xs.length
 .refine .inr ⟨⟨xs,xs[i],q,by simp[hlt]⟩,Pv (i+1),λ σ' H' p'=>⟨xs.length-(i+1),by lia,rfl,hlt,p'⟩,λ x H' y=>?_⟩;obtain⟨e,y⟩:=y;subst e;exact hs i x σ _ (y xs q) p
 .have e:i=xs.length:=by lia
  subst e;exact .inl ⟨⟨xs,q,ah _⟩,hd σ H p⟩
theorem MN{K:Frag}{a:Addr}{xs:LUz}{g:TG}{tb:TS}{D:Dj}{σ:St}{H:Hp}(Pv:Nat->St->Hp->Prop)(h0:Pv 0 σ H)(hl:∀i σ H,i<=xs.length->Pv i σ H->SqT K H a xs)
  (hs:∀i x σ H,xs[i]?=some x->Pv i σ H->g x σ H λ σ2 H2=>tb { D with nx:=Pv (i+1),ct:=Pv (i+1),bk:=D.nx } σ2 H2) (hd:∀σ H,Pv xs.length σ H->D.nx σ H) :
  ∃W:Nat->Nat->St->Hp->Prop,(∃m,W 0 m σ H)/\∀i m σ H,W i m σ H ->
   ((Itt K a).stop i H/\D.nx σ H)\/((Itt K a).go i H/\∃N:St->Hp->Prop,(∀σ' H',N σ' H'->∃m',m'<m/\W (i+1) m' σ' H')/\∀x H',(Itt K a).yld i H x H'->g x σ H' λ σ2 H2=>tb { D with nx:=N,ct:=N,bk:=D.nx } σ2 H2):=by
 refine⟨λ i m σ H=>m=xs.length-i/\i<=xs.length/\Pv i σ H,⟨xs.length,by simp,aQ _,h0⟩,?_⟩;rintro i m σ H ⟨rfl,hi,p⟩;have q:=hl i σ H hi p;by_cases hlt:i<xs.length
 .refine .inr ⟨⟨xs,xs[i],q,by simp[hlt]⟩,Pv (i+1),λ σ' H' p'=>⟨xs.length-(i+1),by lia,rfl,hlt,p'⟩,λ x H' y=>?_⟩;obtain⟨e,y⟩:=y;subst e;exact hs i x σ _ (y xs q) p
 .have e:i=xs.length:=by lia
  subst e;exact .inl ⟨⟨xs,q,ah _⟩,hd σ H p⟩
theorem AD{lo:Int}{n:Nat}{g:TG}{tb:TS}{D:Dj}{σ:St}{H:Hp}(Pv:Nat->St->Hp->Prop)(h0:Pv 0 σ H)
  (hs:∀i σ H,i<n->Pv i σ H->g (.int (lo+i)) σ H λ σ2 H2=>tb { D with nx:=Pv (i+1),ct:=Pv (i+1),bk:=D.nx } σ2 H2) (hd:∀σ H,Pv n σ H->D.nx σ H) :
  ∃W:Nat->Nat->St->Hp->Prop,(∃m,W 0 m σ H)/\∀i m σ H,W i m σ H ->
   ((Itr lo n).stop i H/\D.nx σ H)\/((Itr lo n).go i H/\∃N:St->Hp->Prop,(∀σ' H',N σ' H'->∃m',m'<m/\W (i+1) m' σ' H')/\∀x H',(Itr lo n).yld i H x H'->g x σ H' λ σ2 H2=>tb { D with nx:=N,ct:=N,bk:=D.nx } σ2 H2):=by
 refine⟨λ i m σ H=>m=n-i/\i<=n/\Pv i σ H,⟨n,by simp,aQ _,h0⟩,?_⟩;rintro i m σ H ⟨rfl,hi,p⟩;by_cases hlt:i<n
 .refine .inr ⟨hlt,Pv (i+1),λ σ' H' p'=>⟨n-(i+1),by lia,rfl,hlt,p'⟩,λ x H' y=>?_⟩;obtain⟨e,y⟩:=y;subst e y;exact hs i σ _ hlt p
 .have e:i=n:=by lia
  subst e;exact .inl ⟨ah _,hd σ H p⟩
abbrev R2:=V->V->Hp->VK->Prop
def OpR(X:Cx)(f:Value->Value->Sem Value)(r:R2):Prop :=
 ∀(pins:PNz)(s:Shared)(σ:St)(H:Hp)(x y:V)(v u:Value)(Q:VK),Inv X pins σ H s->RelV x v->RelV y u->r x y H Q ->
  wpAny (model X.prog X.w) X.A (f v u) (EP X pins σ Q) X.xe s
def UnR(X:Cx)(f:Value->Sem Value)(r:V->Hp->VK->Prop):Prop :=
 ∀(pins:PNz)(s:Shared)(σ:St)(H:Hp)(x:V)(v:Value)(Q:VK),Inv X pins σ H s->RelV x v->r x H Q ->
  wpAny (model X.prog X.w) X.A (f v) (EP X pins σ Q) X.xe s
def BP(X:Cx)(f:Value)(r:LUz->Hp->VK->Prop):Prop :=
 ∀(pins:PNz)(s:Shared)(σ:St)(H:Hp)(xs:LUz)(us:LWz)(Q:VK),Inv X pins σ H s->Vals xs us->r xs H Q ->
  wpAny (model X.prog X.w) X.A (call f us) (EP X pins σ Q) X.xe s
def UR(X:Cx)(r:V->Hp->(Bool->Hp->Prop)->Prop):Prop :=
 ∀(pins:PNz)(s:Shared)(σ:St)(H:Hp)(x:V)(v:Value)(Q:Bool->Hp->Prop),Inv X pins σ H s->RelV x v->r x H Q ->
  wpAny (model X.prog X.w) X.A (truthy v) (TP X pins σ Q) X.xe s
def tOp(r:R2)(ta tb:TE):TE:=λ σ H Q=>ta σ H λ x H1=>tb σ H1 λ y H2=>r x y H2 Q
def tUn(r:V->Hp->VK->Prop)(ta:TE):TE:=λ σ H Q=>ta σ H λ x H1=>r x H1 Q
inductive II1(C:Int->Int->Prop)(g:Int->Int->V)(x y:V)(H:Hp)(Q:VK):Prop
 |mk (i j:Int) (e1:x=.int i) (e2:y=.int j) (c:C i j) (q:Q (g i j) H):II1 C g x y H Q
inductive II0(g:Int->Int->V)(x y:V)(H:Hp)(Q:VK):Prop
 |mk (i j:Int) (e1:x=.int i) (e2:y=.int j) (q:Q (g i j) H):II0 g x y H Q
inductive IU(g:Int->V)(x:V)(H:Hp)(Q:VK):Prop
 |mk (i:Int) (e:x=.int i) (q:Q (g i) H):IU g x H Q
def rI(C:Int->Int->Prop)(g:Int->Int->V):R2:=λ x y H Q=>II1 C g x y H Q
def rI0(g:Int->Int->V):R2:=λ x y H Q=>II0 g x y H Q
def rU(g:Int->V):V->Hp->VK->Prop:=λ x H Q=>IU g x H Q
section
variable{X:Cx}{a b c:Expr}{ta tb tc:TE}{pos:Pos}
theorem SG(ha:PE X a ta)(hb:PE X b tb){pins:PNz}{s:Shared}{σ:St}{H:Hp}{R:V->V->Hp->Prop}(I:Inv X pins σ H s)
  (h:ta σ H λ x H1=>tb σ H1 λ y H2=>R x y H2) {Q:VPz} {f:Value->Value->Sem Value}
  (hf:∀v u s2 x y H2,Inv X pins σ H2 s2->RelV x v->RelV y u->R x y H2->wpAny (model X.prog X.w) X.A (f v u) Q X.xe s2) :
  wpAny (model X.prog X.w) X.A (eval a X.env) (λ v s₁=>wpAny (model X.prog X.w) X.A (eval b X.env) (λ u s₂=>wpAny (model X.prog X.w) X.A (f v u) Q X.xe s₂) X.xe s₁) X.xe s:=by
 refine thn (ha pins s σ H _ I h) λ v s1 hz_=>?_;obtain⟨x,H1,I1,r1,q1⟩:=hz_;refine thn (hb pins s1 σ H1 _ I1 q1) λ u s2 hz_=>?_;obtain⟨y,H2,I2,r2,q2⟩:=hz_;exact hf v u s2 x y H2 I2 r1 r2 q2
theorem An{op:Operator}{r:R2}(ho:OpR X (binaryOp op) r)(ha:PE X a ta)(hb:PE X b tb):PE X (.BinOp a op b pos) (tOp r ta tb):=by
 intro pins s σ H Q I h;exact wpAny_BinOp (SG ha hb I h λ v u s2 x y H2 I2 rx ry q=>ho pins s2 σ H2 x y v u Q I2 rx ry q)
theorem Kz{op:UnaryOp}{r:V->Hp->VK->Prop}(ho:UnR X (unaryOp op) r)(ha:PE X a ta):PE X (.UnaryOp op a pos) (tUn r ta):=by
 intro pins s σ H Q I h;exact UnaryOp_ (thn (ha pins s σ H _ I h) λ v s1 ⟨x,H1,I1,r1,q1⟩=>ho pins s1 σ H1 x v Q I1 r1 q1)
theorem opI{f:Value->Value->Sem Value}{C:Int->Int->Prop}{g:Int->Int->Int}
  (rule:∀(i j:Int)(t u:Tok)(s:Shared)(Q:VPz)(E:VPz),C i j->Q (.int (g i j) s.toks) { s with toks:=s.toks+1 }->wpAny (model X.prog X.w) X.A (f (.int i t) (.int j u)) Q E s) :
  OpR X f (rI C λ i j=>.int (g i j)):=by
 intro pins s σ H x y v u Q I rx ry h;obtain⟨i,j,rfl,rfl,hc,q⟩:=h;obtain⟨t,rfl⟩:=rx;obtain⟨t',rfl⟩:=ry;exact rule i j t t' s _ _ hc ⟨.int (g i j),H,I.tok _,⟨_,rfl⟩,q⟩
theorem QE{f:Value->Value->Sem Value}{g:Int->Int->Int}
  (rule:∀(i j:Int)(t u:Tok)(s:Shared)(Q:VPz)(E:VPz),Q (.int (g i j) s.toks) { s with toks:=s.toks+1 }->wpAny (model X.prog X.w) X.A (f (.int i t) (.int j u)) Q E s) :
  OpR X f (rI0 λ i j=>.int (g i j)):=by
 intro pins s σ H x y v u Q I rx ry h;obtain⟨i,j,rfl,rfl,q⟩:=h;obtain⟨t,rfl⟩:=rx;obtain⟨t',rfl⟩:=ry;exact rule i j t t' s _ _ ⟨.int (g i j),H,I.tok _,⟨_,rfl⟩,q⟩
theorem QF{f:Value->Value->Sem Value}{g:Int->Int->Bool}
  (rule:∀(i j:Int)(t u:Tok)(s:Shared)(Q:VPz)(E:VPz),Q (.bool (g i j)) s->wpAny (model X.prog X.w) X.A (f (.int i t) (.int j u)) Q E s) :
  OpR X f (rI0 λ i j=>.bl (g i j)):=by
 intro pins s σ H x y v u Q I rx ry h;obtain⟨i,j,rfl,rfl,q⟩:=h;obtain⟨t,rfl⟩:=rx;obtain⟨t',rfl⟩:=ry;exact rule i j t t' s _ _ ⟨.bl (g i j),H,I,rfl,q⟩
def UV(i j:Int):Prop:=0<j/\j<1073741824
def SQ(i j:Int):Prop:=0<=j/\j<=1000000/\i.natAbs<2^64
theorem L3(k:Nat):(0:Int)<=2^k:=by
 rw[two_pow_cast];exact Int.natCast_nonneg _
theorem A7:OpR X (binaryOp .Add) (rI0 λ i j=>.int (i+j)):=QE λ_ _ _ _ _ _ _ q=>add_int q
theorem C6:OpR X (binaryOp .Sub) (rI0 λ i j=>.int (i-j)):=QE λ_ _ _ _ _ _ _ q=>sub_int q
theorem Cj:OpR X (binaryOp .Mod) (rI (λ_ j=>0<j) λ i j=>.int (i % j)):=opI λ i j _ _ _ _ _ hc q=>by
 have h1:(0:Int)<j:=hc;exact mod_int' (by lia) (by rw[ee i (by lia)];exact q)
theorem Sk:OpR X (binaryOp .Pow) (rI SQ λ i j=>.int (i^j.toNat)):=opI λ_ _ _ _ _ _ _ hc q=>pow_int_small hc.1 hc.2.1 hc.2.2 q
theorem JB:OpR X (binaryOp .LShift) (rI SQ λ i j=>.int (i*2^j.toNat)):=opI λ_ _ _ _ _ _ _ hc q=>lshift_int_small hc.1 hc.2.1 hc.2.2 q
theorem OZ:OpR X (binaryOp .RShift) (rI (λ_ j=>0<=j) λ i j=>.int (i / 2^j.toNat)):=opI λ i j _ _ _ _ _ hc q =>
 rshift_int hc (by rw[cV i (L3 _)];exact q)
theorem D5:OpR X (binaryOp .BitAnd) (rI0 λ i j=>.int (Builtin.bitAnd i j)):=QE λ_ _ _ _ _ _ _ q=>and_int q
theorem R1:OpR X (binaryOp .BitOr) (rI0 λ i j=>.int (Builtin.bitOr i j)):=QE λ_ _ _ _ _ _ _ q=>or_int q
theorem unI{f:Value->Sem Value}{g:Int->Int}
  (rule:∀(i:Int)(t:Tok)(s:Shared)(Q:VPz)(E:VPz),Q (.int (g i) s.toks) { s with toks:=s.toks+1 }->wpAny (model X.prog X.w) X.A (f (.int i t)) Q E s) :
  UnR X f (rU λ i=>.int (g i)):=by
 intro pins s σ H x v Q I rx h;obtain⟨i,rfl,q⟩:=h;obtain⟨t,rfl⟩:=rx;exact rule i t s _ _ ⟨.int (g i),H,I.tok _,⟨_,rfl⟩,q⟩
theorem G2:UnR X (unaryOp .USub) (rU λ i=>.int (-i)):=unI λ_ _ _ _ _ q=>neg_int q
end
def Tj:V->V->Bool
 |.non,.non=>true|.non,.int _=>true|.int _,.non=>true|.non,.bl _=>true|.bl _,.non=>true|.non,.str _=>true|.str _,.non=>true
 |.int _,.int _=>true|.bl _,.bl _=>true|.str _,.str _=>true|.byt _,.byt _=>true
 |.int _,.str _=>true|.str _,.int _=>true|.bl _,.str _=>true|.str _,.bl _=>true
 |_,_=>false
def rEq:R2:=λ x y H Q=>Tj x y=true/\Q (.bl (decide (x=y))) H
def rNe:R2:=λ x y H Q=>Tj x y=true/\Q (.bl (!decide (x=y))) H
theorem MR{i j:Int}:decide (V.int i=V.int j)=(i==j):=by
 rw[b7];simp
theorem PM{i j:Bool}:decide (V.bl i=V.bl j)=(i==j):=by
 rw[b7];simp
theorem MQ{i j:Str}:decide (V.str i=V.str j)=(i==j):=by
 rw[b7];simp
theorem MS{i j:Array UInt8}:decide (V.byt i=V.byt j)=(i.toList==j.toList):=by
 rw[b7];cases i;cases j;simp
section
variable{X:Cx}{a b c:Expr}{ta tb tc:TE}{pos:Pos}
theorem AE{pins:PNz}{σ:St}{H:Hp}{s:Shared}{Q:VK}{k k':Bool}(I:Inv X pins σ H s)(q:Q (.bl k) H)(e:k=k'):EP X pins σ Q (.bool k') s:=by
 subst e;exact⟨.bl k,H,I,rfl,q⟩
theorem Ck:OpR X (compareOp .Eq) rEq:=by
 intro pins s σ H x y v u Q I rx ry h;obtain⟨hs,q⟩:=h;cases x with
 |non =>
  cases rx;cases y with
  |non=>cases ry;exact PySem.EqNone.eq_none_none (AE I q (by simp))
  |bl j=>cases ry;exact PySem.EqNone.eq_none_bool (AE I q (by simp))
  |int j=>obtain⟨t',rfl⟩:=ry;exact PySem.EqNone.eq_none_int (AE I q (by simp))
  |str j=>obtain⟨t',rfl⟩:=ry;exact PySem.EqNone.eq_none_str (AE I q (by simp))
  |_=>exact absurd (show false=true from hs) ao
 |bl i =>
  cases rx;cases y with
  |non=>cases ry;exact PySem.EqNone.eq_bool_none (AE I q (by simp))
  |bl j=>cases ry;exact eq_bool (AE I q PM)
  |str j=>obtain⟨t',rfl⟩:=ry;exact PySem.EqMixed.eq_bool_str (AE I q (by simp))
  |_=>exact absurd (show false=true from hs) ao
 |int i =>
  obtain⟨t,rfl⟩:=rx;cases y with
  |non=>cases ry;exact PySem.EqNone.eq_int_none (AE I q (by simp))
  |int j=>obtain⟨t',rfl⟩:=ry;exact eq_int (AE I q MR)
  |str j=>obtain⟨t',rfl⟩:=ry;exact PySem.EqMixed.eq_int_str (AE I q (by simp))
  |_=>exact absurd (show false=true from hs) ao
 |str i =>
  obtain⟨t,rfl⟩:=rx;cases y with
  |non=>cases ry;exact PySem.EqNone.eq_str_none (AE I q (by simp))
  |bl j=>cases ry;exact PySem.EqMixed.eq_str_bool (AE I q (by simp))
  |int j=>obtain⟨t',rfl⟩:=ry;exact PySem.EqMixed.eq_str_int (AE I q (by simp))
  |str j=>obtain⟨t',rfl⟩:=ry;exact eq_str (AE I q MQ)
  |_=>exact absurd (show false=true from hs) ao
 |byt i =>
  obtain⟨t,rfl⟩:=rx;cases y with
  |byt j=>obtain⟨t',rfl⟩:=ry;exact eq_bytes (AE I q MS)
  |_=>exact absurd (show false=true from hs) ao
 |_=>cases y<;>exact absurd (show false=true from hs) ao
theorem Pb:OpR X (compareOp .NotEq) rNe:=by
 intro pins s σ H x y v u Q I rx ry h;obtain⟨hs,q⟩:=h;cases x with
 |non =>
  cases rx;cases y with
  |non=>cases ry;exact PySem.EqNone.ne_none_none (AE I q (by simp))
  |bl j=>cases ry;exact PySem.EqNone.ne_none_bool (AE I q (by simp))
  |int j=>obtain⟨t',rfl⟩:=ry;exact PySem.EqNone.ne_none_int (AE I q (by simp))
  |str j=>obtain⟨t',rfl⟩:=ry;exact PySem.EqNone.ne_none_str (AE I q (by simp))
  |_=>exact absurd (show false=true from hs) ao
 |bl i =>
  cases rx;cases y with
  |non=>cases ry;exact PySem.EqNone.ne_bool_none (AE I q (by simp))
  |bl j=>cases ry;exact ne_bool (AE I q (congrArg not PM))
  |str j=>obtain⟨t',rfl⟩:=ry;exact PySem.EqMixed.ne_bool_str (AE I q (by simp))
  |_=>exact absurd (show false=true from hs) ao
 |int i =>
  obtain⟨t,rfl⟩:=rx;cases y with
  |non=>cases ry;exact PySem.EqNone.ne_int_none (AE I q (by simp))
  |int j=>obtain⟨t',rfl⟩:=ry;exact ne_int (AE I q (congrArg not MR))
  |str j=>obtain⟨t',rfl⟩:=ry;exact PySem.EqMixed.ne_int_str (AE I q (by simp))
  |_=>exact absurd (show false=true from hs) ao
 |str i =>
  obtain⟨t,rfl⟩:=rx;cases y with
  |non=>cases ry;exact PySem.EqNone.ne_str_none (AE I q (by simp))
  |bl j=>cases ry;exact PySem.EqMixed.ne_str_bool (AE I q (by simp))
  |int j=>obtain⟨t',rfl⟩:=ry;exact PySem.EqMixed.ne_str_int (AE I q (by simp))
  |str j=>obtain⟨t',rfl⟩:=ry;exact ne_str (AE I q (congrArg not MQ))
  |_=>exact absurd (show false=true from hs) ao
 |byt i =>
  obtain⟨t,rfl⟩:=rx;cases y with
  |byt j=>obtain⟨t',rfl⟩:=ry;exact ne_bytes (AE I q (congrArg not MS))
  |_=>exact absurd (show false=true from hs) ao
 |_=>cases y<;>exact absurd (show false=true from hs) ao
theorem Df:OpR X (compareOp .Lt) (rI0 λ i j=>.bl (decide (i<j))):=QF λ_ _ _ _ _ _ _ q=>lt_int q
theorem BN:OpR X (compareOp .LtE) (rI0 λ i j=>.bl (decide (i<=j))):=QF λ_ _ _ _ _ _ _ q=>le_int q
theorem Pc:OpR X (compareOp .Gt) (rI0 λ i j=>.bl (decide (j<i))):=QF λ_ _ _ _ _ _ _ q=>gt_int q
theorem Pd:OpR X (compareOp .GtE) (rI0 λ i j=>.bl (decide (j<=i))):=QF λ_ _ _ _ _ _ _ q=>ge_int q
theorem Az(b:Expr){op:CmpOp}(h:op≠.In:=by decide)(h2:op≠.NotIn:=by decide):behindInMarks op b=false:=by
 have e1:(op==CmpOp.In)=false:=by cases op<;>first|rfl|exact absurd rfl h
 have e2:(op==CmpOp.NotIn)=false:=by cases op<;>first|rfl|exact absurd rfl h2
 cases b<;>simp[behindInMarks,e1,e2]
theorem BR{op:CmpOp}{r:R2}(ho:OpR X (compareOp op) r)(ha:PE X a ta)(hb:PE X b tb)(hm:behindInMarks op b=false):PE X (.Compare a [op] [b] pos) (tOp r ta tb):=by
 intro pins s σ H Q I h;exact wpAny_Compare1 (SG ha hb I h λ v u s2 x y H2 I2 rx ry q=>ho pins s2 σ H2 x y v u Q I2 rx ry q) hm
def Rt(t:TE):TT:=λ σ H Q=>t σ H λ x H'=>IBl x λ k=>Q k H'
theorem Aw{op:CmpOp}{r:R2}(ho:OpR X (compareOp op) r)(ha:PE X a ta)(hb:PE X b tb)(hm:behindInMarks op b=false):PT X (.Compare a [op] [b] pos) (Rt (tOp r ta tb)):=by
 intro pins s σ H Q I h;refine wpAny_isTrue_Compare1 (thn (ha pins s σ H _ I h) λ v s1 ⟨x,H1,I1,r1,q1⟩=>thn (hb pins s1 σ H1 _ I1 q1) λ u s2 ⟨y,H2,I2,r2,q2⟩ =>
  thn (ho pins s2 σ H2 x y v u _ I2 r1 r2 q2) λ c s3 ⟨z,H3,I3,r3,k,e,q3⟩=>?_) hm
 subst e;cases r3;exact wpAny_truthy_bool ⟨H3,I3,q3⟩
def O3(r r':R2)(ta tb tc:TE):TE:=λ σ H Q=>ta σ H λ x H1=>tb σ H1 λ y H2=>r x y H2 λ z H3=>IBl z λ k =>
 (if k=true then tc σ H3 λ w' H4=>r' y w' H4 Q else Q (.bl false) H3)
theorem EJ{op op':CmpOp}{r r':R2}(ho:OpR X (compareOp op) r)(ho':OpR X (compareOp op') r')(ha:PE X a ta)(hb:PE X b tb)(hc:PE X c tc)
  (hm:lastMarks [op,op'] [b,c]=false:=by with_unfolding_all rfl):PE X (.Compare a [op,op'] [b,c] pos) (O3 r r' ta tb tc):=by
 intro pins s σ H Q I h;refine Compare_chain (thn (ha pins s σ H _ I h) λ v s1 ⟨x,H1,I1,r1,q1⟩=>chain_link (thn (hb pins s1 σ H1 _ I1 q1) λ u s2 ⟨y,H2,I2,r2,q2⟩ =>
  thn (ho pins s2 σ H2 x y v u _ I2 r1 r2 q2) λ d s3 ⟨z,H3,I3,r3,k,e,q3⟩=>?_)) hm
 subst e;cases r3;refine wpAny_truthy_bool ?_;cases k with
 |false=>exact ite_ff ⟨.bl false,H3,I3,rfl,q3⟩
 |true=>exact ite_tt (chain_last (thn (hc pins s3 σ H3 _ I3 q3) λ w' s4 ⟨z',H4,I4,r4,q4⟩=>ho' pins s4 σ H4 y z' u w' Q I4 r2 r4 q4))
theorem GQ{op op':CmpOp}{r r':R2}(ho:OpR X (compareOp op) r)(ho':OpR X (compareOp op') r')(ha:PE X a ta)(hb:PE X b tb)(hc:PE X c tc)
  (hm:lastMarks [op,op'] [b,c]=false:=by with_unfolding_all rfl):PT X (.Compare a [op,op'] [b,c] pos) (Rt (O3 r r' ta tb tc)):=by
 intro pins s σ H Q I h;refine isTrue_chain (thn (ha pins s σ H _ I h) λ v s1 ⟨x,H1,I1,r1,q1⟩=>test_link (thn (hb pins s1 σ H1 _ I1 q1) λ u s2 ⟨y,H2,I2,r2,q2⟩ =>
  thn (ho pins s2 σ H2 x y v u _ I2 r1 r2 q2) λ d s3 ⟨z,H3,I3,r3,k,e,q3⟩=>?_)) hm
 subst e;cases r3;refine wpAny_truthy_bool ?_;cases k with
 |false =>
  obtain⟨k',e',q'⟩:=q3;cases e';exact ite_ff ⟨H3,I3,q'⟩
 |true =>
  refine ite_tt (test_last (thn (hc pins s3 σ H3 _ I3 q3) λ w' s4 ⟨z',H4,I4,r4,q4⟩=>thn (ho' pins s4 σ H4 y z' u w' _ I4 r2 r4 q4) λ d' s5 ⟨z2,H5,I5,r5,k2,e2,q5⟩=>?_));subst e2;cases r5;exact wpAny_truthy_bool ⟨H5,I5,q5⟩
def Ub(K:Frag)(x:V)(H:Hp)(k:Bool):Prop :=
 match x with
 |.non=>k=false
 |.bl b=>k=b
 |.int i=>k=(i != 0)
 |.str y=>y.length<=sizeLine/\k=((y.length:Int) != 0)
 |.byt y=>y.size<=sizeLine/\k=((y.size:Int) != 0)
 |.ref p=>(∃xs,SqL K H p xs/\k=!xs.isEmpty)\/(∃xs,SqT K H p xs/\k=!xs.isEmpty)\/∃kvs,H p=some (.dK kvs)/\k=!kvs.isEmpty
 |_=>False
theorem LX{κ:Type}{kvs:List (κ×V)}{vs:List (κ×Value)}(r:KV kvs vs):(!vs.isEmpty)=!kvs.isEmpty:=by
 cases r<;>rfl
theorem Hw{xs:LUz}{its:LWz}(r:Vals xs its):(!its.toArray.isEmpty)=!xs.isEmpty:=by
 cases r<;>simp
theorem Fy:(sizeLine:Nat)<2^63:=by rw[sizeLine_eq];decide
theorem RK:UR X (λ x H Q=>∃k,Ub X.K x H k/\Q k H):=by
 intro pins s σ H x v Q I rx h;obtain⟨k,e,q⟩:=h;have hl:=Fy;have hs:sizeLine=16777216:=sizeLine_eq;cases x with
 |non =>
  cases rx;have e':k=false:=e;subst e';exact truthy_none ⟨H,I,q⟩
 |bl b =>
  cases rx;have e':k=b:=e;subst e';exact wpAny_truthy_bool ⟨H,I,q⟩
 |int i =>
  obtain⟨t,rfl⟩:=rx;have e':k=(i != 0):=e;subst e';exact PySem.P.truthy_int ⟨H,I,q⟩
 |str y =>
  obtain⟨t,rfl⟩:=rx;obtain⟨hy,e'⟩:y.length<=sizeLine/\k=((y.length:Int) != 0):=e;subst e';exact PySem.P.truthy_str (by lia) ⟨H,I.tok _,q⟩
 |byt y =>
  obtain⟨t,rfl⟩:=rx;obtain⟨hy,e'⟩:y.size<=sizeLine/\k=((y.size:Int) != 0):=e;subst e';exact truthy_bytes (by lia) ⟨H,I.tok _,q⟩
 |ref p =>
  cases rx;have e':(∃xs,SqL X.K H p xs/\k=!xs.isEmpty)\/(∃xs,SqT X.K H p xs/\k=!xs.isEmpty)\/∃kvs,H p=some (.dK kvs)/\k=!kvs.isEmpty:=e;rcases e' with ⟨xs,hx,e'⟩|⟨xs,hx,e'⟩|⟨kvs,hx,e'⟩
  .subst e';obtain⟨its,r,pl,hz⟩:=I.list hx;have hlen:=r.length;exact wpAny_truthy_list pl.isList (by simp only[ak];lia) ⟨H,I.tok _,by rw[Hw r];exact q⟩
  .subst e';obtain⟨its,r,pl,hz⟩:=I.tuple hx;have hlen:=r.length;exact truthy_tuple pl (by simp only[ak];lia) ⟨H,I.tok _,by rw[Hw r];exact q⟩
  .subst e';obtain⟨hz,hS,vs,r,m⟩:kvs.length<=sizeLine/\(p==sysModules)=false/\∃vs,KV kvs vs/\s.heap.DictOf (Ay X.prog X.w) p vs:=I.hok p _ hx;have hlen:kvs.length=vs.length:=Paired.length r;exact wpAny_truthy_dict hS m (by lia) ⟨H,I.tok _,by rw[LX r];exact q⟩
 |_=>exact(show False from e).elim
theorem EE(ha:PE X a ta)(he:∀whole,isTrue a X.env whole=(do let v <-whole;standAt a.pos;holding [v] (truthy v))) :
    PT X a (λ σ H Q=>ta σ H λ x H'=>∃k,Ub X.K x H' k/\Q k H'):=by
  intro pins s σ H Q I h;exact isTrue_plain (thn (ha pins s σ H _ I h) λ v s1 ⟨x,H1,I1,r1,q1⟩=>RK pins s1 σ H1 x v Q I1 r1 q1) (he _)
theorem Dl{x:V}{us:LWz}(r:Vals [x] us):∃u,us=[u]/\RelV x u:=by
 cases r with
 |cons r1 r2=>cases r2;exact⟨_,rfl,r1⟩
theorem Ot{x y:V}{us:LWz}(r:Vals [x,y] us):∃u w',us=[u,w']/\RelV x u/\RelV y w':=by
 cases r with
 |cons r1 r2 =>
  cases r2 with
  |cons r3 r4=>cases r4;exact⟨_,_,rfl,r1,r3⟩
theorem PY:BP X (.builtin "abs") (λ xs H Q=>∃i,xs=[.int i]/\Q (.int (if i<0 then -i else i)) H):=by
 intro pins s σ H xs us Q I r h;obtain⟨i,rfl,q⟩:=h;obtain⟨u,rfl,t,rfl⟩:=Dl r;exact call_abs_int λ u tk=>⟨.int (if i<0 then -i else i),H,I.tok _,⟨_,rfl⟩,q⟩
theorem Ja(hc:X.calm=true):BP X (.builtin "max") (λ xs H Q=>∃i j,xs=[.int i,.int j]/\Q (.int (if j>i then j else i)) H):=by
 intro pins s σ H xs us Q I r h;obtain⟨i,j,rfl,q⟩:=h;obtain⟨u,w',rfl,⟨t,rfl⟩,⟨t',rfl⟩⟩:=Ot r;refine max_two_ints (I.ok.hd hc) λ h' tk k=>⟨_,H,I.kept k,?_,q⟩;by_cases hj:j>i
 .rw[if_pos hj,if_pos hj];exact⟨_,rfl⟩
 .rw[if_neg hj,if_neg hj];exact⟨_,rfl⟩
theorem Lp:BP X (.builtin "divmod") (λ xs H Q=>∃i j,xs=[.int i,.int j]/\UV i j/\∀p,H p=none->Q (.ref p) (upd H p (.tup [.int (i / j),.int (i % j)]))):=by
 intro pins s σ H xs us Q I r h;obtain⟨i,j,rfl,⟨h1,h2⟩,q⟩:=h;obtain⟨u,w',rfl,⟨t,rfl⟩,⟨t',rfl⟩⟩:=Ot r;refine divmod_int (by lia) ?_ (.inl (PyProof.noPylong_small (by lia)));rw[cV i (by lia),ee i (by lia)];have hn:H s.heap.objs.size=none:=I.hok.fresh (ah _);refine⟨.ref s.heap.objs.size,_,?_,rfl,q _ hn⟩;refine I.laid (λ b o e=>ae _ e) (ah _) ⟨by simp only[aN,b5];rw[sizeLine_eq];decide,[.int (i / j) s.toks,.int (i % j) (s.toks+1)],.cons ⟨_,rfl⟩ (.cons ⟨_,rfl⟩ .nil),?_⟩;exact⟨_,au s.heap rfl,rfl,0,rfl⟩
end
structure ObjM(h:Heap)(x dx C:Addr)(mA:MGz):Prop where
 obj:h.get? x=some (instObj C dx)
 ns:h.Ns1 dx mA
 ne:dx≠x
theorem NI{h:Heap}{dx:Addr}{mA:MGz}(n:h.Ns1 dx mA):∃od,h.get? dx=some od/\∀name,lookIn name od=some (mA name):=by
 obtain⟨o,es,ep,ho,hd,hk,_,hm⟩:=n;refine⟨o,ho,λ name=>?_⟩;have e:=hm name;unfold nsFind findBy at e;rw[<-Array.find?_toList]at e;unfold lookIn;rw[hd];dsimp only;split
 .rename_i y q;rw[q]at e;exact congrArg some e
 .rename_i q;rw[q]at e;have a:es.toList.any (·.refKey)=false:=by
   rw[List.any_eq_false];intro y hy;obtain⟨z,t,hkey⟩:=hk y (Array.mem_toList_iff.mp hy);simp[DictEntry.refKey,hkey]
  have a':¬es.toList.any (·.refKey)=true:=by rw[a];exact ao
  rw[if_neg a'];exact congrArg some e
theorem ObjM.look{h:Heap}{x dx C:Addr}{mA:MGz}(I:ObjM h x dx C mA):∃od,InstAt h x (instObj C dx) C (some od)/\∀name,lookIn name od=some (mA name) :=
 let ⟨od,ho,hl⟩:=NI I.ns
 ⟨od,⟨I.obj,rfl,rfl,ho⟩,hl⟩
section
variable{prog:Program}{w:World}{A:Around}{E:VPz}{s:Shared}{K:Frag}{x dx C f:Addr}{mA:MGz}{name:Str}{v:Value}
theorem QW{expr:Bool}{Q:VPz}(X:K.In s.heap)(I:ObjM s.heap x dx C mA)(hg:plainGet K C name=true)(hh:hasDictIn K C=true)
  (ha:findIn K (.ref C) name=some none) (hv:mA name=some v) (hv':handedIn v=true) (h:Q v { s with toks:=s.toks+1 }) :
  wpAny (model prog w) A (getAttr (.ref x) name expr) Q E s:=by
 obtain⟨od,J,hl⟩:=I.look;exact get_value X J (plainGet_of hg).1 (findObj_own hh ha rfl (by rw[hl,hv])) hv' h
theorem P5{pl:Sem Bool}{Q:Value×LWz->Shared->Prop}(X:K.In s.heap)(I:ObjM s.heap x dx C mA)(hg:plainGet K C name=true)
  (hf:findIn K (.ref C) name=some (some (.ref f))) (ht:isFn K (.ref f)=true) (hv:mA name=none) (h:Q (.ref f,[.ref x]) s) :
  wpAny (model prog w) A (getMethod (.ref x) name pl) Q E s:=by
 obtain⟨od,J,hl⟩:=I.look;exact method_fn X J (plainGet_of hg).1 (plainGet_of hg).2 hf (beq_iff_eq.mp ht) (by show(lookIn name od).map (·.isSome)=some false;rw[hl,hv];rfl) h
theorem Q4{ns:LSz}{Q:Unit->Shared->Prop}(X:K.In s.heap)(I:ObjM s.heap x dx C mA)
  (hs:findIn K (.ref C) "__setattr__"=some (some (.builtin "object.__setattr__"))) (hp:plainOver K C=true) (ht:takerIn K C name=some none) (hh:hasDictIn K C=true)
  (hw:PySem.Within mA ns) (hsz:ns.length<=sizeLine)
  (h:∀h',ObjM h' x dx C (λ y=>if y=name then some v else mA y)->Heap.SameBut dx s.heap h'->Q () { s with heap:=h',toks:=s.toks+2 }) :
  wpAny (model prog w) A (setAttr (.ref x) name v) Q E s:=by
 obtain⟨od,J,hl⟩:=I.look;refine set_plain X J hs (osa_open (s:={ s with toks:=s.toks+1 }) (r:=none) X J hp ht λ b=>?_);obtain⟨cd,hc,hd'⟩:=any_some hh;have hx:s.heap.get? x=some ⟨.ref C,some dx,.plain,#[]⟩:=I.obj;refine wpAny_bind (wpAny_pure (wpAny_bind (wpAny_bind (wpAny_loadPart hx (wpAny_bind (Looks.here (s:={ s with toks:=s.toks+1 }) (looks_clsIn X hc) ?_))))));rw[hd'];refine wpAny_pure (a:=some dx) (wpAny_bind (wpAny_pure (wpAny_bind ?_)));refine wpAny_nsSet1 (s:={ s with toks:=s.toks+1 }) I.ns λ h' hn2 hs2=>?_;obtain⟨oD,esD,epD,hoD,hdD,hcD⟩:=hn2.count (PySem.Within.cons name v hw);refine wpAny_bind (wpAny_lookBehind hoD (by rw[hdD];exact pastItsLine_dict (aR hcD (by rw[aN];lia))) ?_);exact wpAny_pure (h _ ⟨(hs2.2 _ (Ne.symm I.ne)).trans I.obj,hn2,I.ne⟩ hs2)
theorem Pq{R:Result->Shared->Prop}{vs:LWz}{kw:List (Str×Value)}(X:K.In s.heap)(hm:makesIn K C=true)
  (hi:findIn K (.ref C) "__init__"=some (some (.ref f))) (hf:typeIn K (.ref f)=some (.type "function"))
  (h:codeAny (model prog w) (A.under (.builtin "type.__call__" ⟨.ref C::vs,kw⟩)) (.call (.ref f) ⟨.ref (s.heap.objs.size+1)::vs,kw⟩) (InitBack (s.heap.objs.size+1) R)
   { s with heap:=(s.heap.push emptyDict).push (instObj C s.heap.objs.size) }) :
  codeAny (model prog w) A (.call (.ref C) ⟨vs,kw⟩) R s:=by
 obtain⟨hh,g,d,t,os⟩:=s;exact make_core (makes_of X hm) (looks_findIn X hi) (λ self=>bind_fn X self hf) (.inl rfl) h
end
def AZ(f:Str)(v:V):LFz->LFz
 |[]=>[(f,v)]
 | (g,x)::r=>if g=f then (g,v)::r else (g,x)::AZ f v r
theorem A3(f g:Str)(v:V):∀fs:LFz,(AZ f v fs).lookup g=if g=f then some v else fs.lookup g
 |[]=>by
  show List.lookup g [(f,v)]=_;by_cases h:g=f
  .have hb:(g==f)=true:=beq_iff_eq.mpr h;simp only[List.lookup,hb,if_pos h]
  .have hb:(g==f)=false:=beq_eq_false_iff_ne.mpr h;simp only[List.lookup,hb,if_neg h]
 | (k,x)::r=>by
  have ih:=A3 f g v r;rw[show AZ f v ((k,x)::r)=(if k=f then (k,v)::r else (k,x)::AZ f v r) from rfl];by_cases hk:k=f
  .rw[if_pos hk];by_cases h:g=k
   .have hb:(g==k)=true:=beq_iff_eq.mpr h;simp only[List.lookup,hb,if_pos (h.trans hk)]
   .have hb:(g==k)=false:=beq_eq_false_iff_ne.mpr h;simp only[List.lookup,hb,if_neg (λ e:g=f=>h (e.trans hk.symm))]
  .rw[if_neg hk];by_cases h:g=k
   .have hb:(g==k)=true:=beq_iff_eq.mpr h;simp only[List.lookup,hb,if_neg (λ e:g=f=>hk (h.symm.trans e))]
   .have hb:(g==k)=false:=beq_eq_false_iff_ne.mpr h;simp only[List.lookup,hb];exact ih
theorem Fz(f:Str)(v:V):∀fs:LFz,f∈(AZ f v fs).map (·.1)/\∀g,g∈fs.map (·.1)->g∈(AZ f v fs).map (·.1)
 |[]=>⟨by simp[AZ],λ g h=>by simp at h⟩
 | (k,x)::r=>by
  obtain⟨i1,i2⟩:=Fz f v r;rw[show AZ f v ((k,x)::r)=(if k=f then (k,v)::r else (k,x)::AZ f v r) from rfl];by_cases hk:k=f
  .rw[if_pos hk];subst hk;exact⟨by simp,λ g h=>by simpa using h⟩
  .rw[if_neg hk];refine⟨?_,λ g h=>?_⟩
   .rw[aA];exact aI _ i1
   .rw[aA]at h |-;rcases aP.mp h with e|e
    .exact aP.mpr (.inl e)
    .exact aI _ (i2 g e)
theorem FM(f:Str)(v:V):∀fs:LFz,(AZ f v fs).length<=fs.length+1
 |[]=>by simp[AZ]
 | (k,x)::r=>by
  have ih:=FM f v r;rw[show AZ f v ((k,x)::r)=(if k=f then (k,v)::r else (k,x)::AZ f v r) from rfl];by_cases hk:k=f
  .rw[if_pos hk,aN,aN];lia
  .rw[if_neg hk,aN,aN];lia
theorem RelO.some_of{v:V}{o:Option Value}(r:RelO (some v) o):∃u,o=some u/\RelV v u:=by
 cases o with
 |none=>exact(show False from r).elim
 |some u=>exact⟨u,rfl,r⟩
theorem RelO.none_of{o:Option Value}(r:RelO none o):o=none:=by
 cases o with
 |none=>rfl
 |some u=>exact(show False from r).elim
theorem NY{v:V}{u:Value}(r:RelV v u):handedIn u=true:=by
 cases v with
 |non=>cases(show u=Value.none from r);rfl
 |bl b=>cases(show u=Value.bool b from r);rfl
 |int i=>obtain⟨t,e⟩:=(show ∃t,u=Value.int i t from r);cases e;rfl
 |str x=>obtain⟨t,e⟩:=(show ∃t,u=Value.str x t from r);cases e;rfl
 |byt b=>obtain⟨t,e⟩:=(show ∃t,u=Value.bytes b t from r);cases e;rfl
 |flt b=>obtain⟨t,e⟩:=(show ∃t,u=Value.float b t from r);cases e;rfl
 |ref a=>cases(show u=Value.ref a from r);rfl
 |ty n=>cases(show u=Value.type n from r);rfl
section
variable{P:Program}{w:World}{H H':Hp}{h h':Heap}{a C dx:Addr}{fs fs':LFz}
theorem Gv(hok:HOk P w H h)(e:H a=some (.ins C dx fs)):∃mA,ObjM h a dx C mA/\(∀f,RelO (fs.lookup f) (mA f))/\PySem.Within mA (fs.map (·.1))/\fs.length<=1000/\H dx=some (.own a):=by
 obtain⟨d,z,ne,ob,mA,n,r,q⟩:=(show ObjOk P w H h a (.ins C dx fs) from hok a _ e);exact⟨mA,⟨ob,n,ne⟩,r,q,z,d⟩
end
structure Cls(K:Frag)(C:Addr):Prop where
 pg:plainGet K C Str.empty=true
 hd:hasDictIn K C=true
 po:plainOver K C=true
 sa:findIn K (.ref C) "__setattr__"=some (some (.builtin "object.__setattr__"))
theorem Cls.get{K:Frag}{C:Addr}(c:Cls K C)(f:Str):plainGet K C f=true:=c.pg
def NoAttr(K:Frag)(C:Addr)(f:Str):Prop:=findIn K (.ref C) f=some none
theorem NoAttr.taker{K:Frag}{C:Addr}{f:Str}(n:NoAttr K C f):takerIn K C f=some none:=by
 unfold takerIn;rw[show findIn K (.ref C) f=some none from n];rfl
structure SN(K:Frag)(C:Addr)(m:Str)(f:Addr):Prop where
 at_:findIn K (.ref C) m=some (some (.ref f))
 fn:isFn K (.ref f)=true
 kp:keepIn K (.ref f)=true
section
variable{X:Cx}{pins:PNz}{σ:St}{H:Hp}{s:Shared}{a C dx:Addr}{fs:LFz}{f:Str}{v:V}{A:Around}{E:VPz}
theorem Mc{b:Bool}{Q:VPz}(I:Inv X pins σ H s)(e:H a=some (.ins C dx fs))(c:Cls X.K C)(n:NoAttr X.K C f)(l:fs.lookup f=some v)
  (h:∀u s',Inv X pins σ H s'->RelV v u->Q u s'):wpAny (model X.prog X.w) A (getAttr (.ref a) f b) Q E s:=by
 obtain⟨mA,O,r,_,_,_⟩:=Gv I.hok e;obtain⟨u,hu,ru⟩:=RelO.some_of (v:=v) (o:=mA f) (by rw[<-l];exact r f);exact QW I.kIn O (c.get f) c.hd n hu (NY ru) (h u _ (I.tok _) ru)
theorem Mb{m:Str}{g:Addr}{pl:Sem Bool}{Q:Value×LWz->Shared->Prop}(I:Inv X pins σ H s)(e:H a=some (.ins C dx fs))(c:Cls X.K C)(k:SN X.K C m g)(l:fs.lookup m=none)
  (h:Q (.ref g,[.ref a]) s):wpAny (model X.prog X.w) A (getMethod (.ref a) m pl) Q E s:=by
 obtain⟨mA,O,r,_,_,_⟩:=Gv I.hok e;have hn:mA m=none:=RelO.none_of (by rw[<-l];exact r m);exact P5 I.kIn O (c.get m) k.at_ k.fn hn h
theorem LG{y:V}{u:Value}{Q:Unit->Shared->Prop}(I:Inv X pins σ H s)(e:H a=some (.ins C dx fs))(c:Cls X.K C)(n:NoAttr X.K C f)(hl:fs.length<1000)(ry:RelV y u)
  (h:∀s',Inv X pins σ (upd H a (.ins C dx (AZ f y fs))) s'->Q () s'):wpAny (model X.prog X.w) A (setAttr (.ref a) f u) Q E s:=by
 obtain⟨mA,O,r,wi,_,ho⟩:=Gv I.hok e;have hz:(fs.map (·.1)).length<=sizeLine:=by rw[aa,sizeLine_eq];lia
 refine Q4 I.kIn O c.sa c.po n.taker c.hd wi hz λ h' O' sb=>h _ ?_;have hd:∃o,h'.get? dx=some o:=let ⟨o,_,_,e',_⟩:=O'.ns;⟨o,e'⟩;refine I.write (x:=a) (e:=dx) (by rw[e];exact True.intro) (.inr ho) (λ b q hb z=>(sb.2 b hb).trans z) hd ?_;refine⟨by rw[Af O.ne];exact ho,?_,O.ne,O'.obj,_,O'.ns,λ g=>?_,λ g hg=>?_⟩
 .have:=FM f y fs;lia
 .show RelO ((AZ f y fs).lookup g) (if g=f then some u else mA g);rw[A3];by_cases q:g=f
  .rw[if_pos q,if_pos q];exact ry
  .rw[if_neg q,if_neg q];exact r g
 .by_cases q:g=f
  .rw[q];exact(Fz f y fs).1
  .refine(Fz f y fs).2 g (wi g λ z=>hg ?_);show(if g=f then some u else mA g)=none;rw[if_neg q];exact z
theorem Inv.made(I:Inv X pins σ H s):Inv X pins σ (upd (upd H s.heap.objs.size (.own (s.heap.objs.size+1))) (s.heap.objs.size+1) (.ins C s.heap.objs.size []))
  { s with heap:=(s.heap.push emptyDict).push (instObj C s.heap.objs.size) }:=by
 have e1:(s.heap.push emptyDict).get? s.heap.objs.size=some emptyDict:=au s.heap rfl;have e2:((s.heap.push emptyDict).push (instObj C s.heap.objs.size)).get? (s.heap.objs.size+1)=some (instObj C s.heap.objs.size):=by
  have:=au (s.heap.push emptyDict) (o:=instObj C s.heap.objs.size) rfl;rwa [bt]at this
 have e3:(s.heap.push emptyDict).Ns s.heap.objs.size (λ_=>none):=⟨emptyDict,#[],_,e1,rfl,(λ e he=>absurd he (by simp)),λ_=>rfl⟩;have I1:=I.laid (a:=s.heap.objs.size) (o:=.own (s.heap.objs.size+1)) (h':=s.heap.push emptyDict) (t':=s.toks) (λ b u q=>ae _ q) (ah _) ⟨_,e1⟩;refine I1.laid (a:=s.heap.objs.size+1) (o:=.ins C s.heap.objs.size []) (t':=s.toks) (λ b u q=>ae _ q) (dI (bt _ _)) ?_;have ne:s.heap.objs.size≠s.heap.objs.size+1:=aB (bg _);refine⟨by rw[Af ne,Ad],aQ _,ne,e2,λ_=>none,(Heap.Ns1.of_empty e3).at λ o q=>ae _ q,λ_=>True.intro,λ y hy=>absurd rfl hy⟩
theorem Rl{prog:Program}{w:World}{env:Env}{e:Expr}{f:Str}{pos:Pos}{s:Shared}{Q:VPz}(hb:attributeBase e f env (eval e env)=eval e env)
  (h:wpAny (model prog w) A (eval e env) (λ o s₁=>wpAny (model prog w) A (getAttr o f true) Q E s₁) E s):wpAny (model prog w) A (eval (.Attribute e f pos) env) Q E s :=
 Attribute_any_ h (by rw[arm_eval_Attribute,hb])
end
inductive Uq(K:Frag)(f:Str)(x:V)(H:Hp)(Q:VK):Prop
 |mk (a C dx:Addr) (fs:LFz) (v:V) (e:x=.ref a) (h:H a=some (.ins C dx fs)) (c:Cls K C) (n:NoAttr K C f) (l:fs.lookup f=some v) (q:Q v H):Uq K f x H Q
def Uz(K:Frag)(ta:TE)(f:Str):TE:=λ σ H Q=>ta σ H λ x H1=>Uq K f x H1 Q
def U4(K:Frag)(ta tv:TE)(f:Str):TS:=λ D σ H=>tv σ H λ y H1=>ta σ H1 λ x H2=>∃a C dx fs,x=.ref a/\H2 a=some (.ins C dx fs)/\Cls K C/\NoAttr K C f/\fs.length<1000 /\
 D.nx σ (upd H2 a (.ins C dx (AZ f y fs)))
section
variable{X:Cx}{o e value:Expr}{f:Str}{pos pos' tpos:Pos}{ta tv:TE}
theorem B5(he:PE X e ta)(hb:attributeBase e f X.env (eval e X.env)=eval e X.env):PE X (.Attribute e f pos) (Uz X.K ta f):=by
 intro pins s σ H Q I h;refine Rl hb (thn (he pins s σ H _ I h) λ u s1 hz_=>?_);obtain⟨x,H1,I1,rx,a,C,dx,fs,v,ex,ea,c,n,l,q⟩:=hz_;subst ex;obtain rfl:u=Value.ref a:=rx;exact Mc I1 ea c n l λ u' s2 I2 ru=>⟨v,H1,I2,ru,q⟩
theorem Ch(ha:PE X o ta)(hv:PE X value tv)(hs:swapsWith value (some (.Attribute o f pos')) pos.line X.env=pure false):PS X (.Assign [.Attribute o f pos'] value pos) (U4 X.K ta tv f):=by
 intro pins s σ H D I h;refine plainObj_wpAny_Assign_Attribute (thn (hv pins s σ H _ I h) λ u s1 hz_=>?_) hs;obtain⟨y,H1,I1,ry,q⟩:=hz_;refine thn (ha pins s1 σ H1 _ I1 q) λ ov s2 hz_=>?_;obtain⟨x,H2,I2,rx,a,C,dx,fs,ex,ea,c,n,l,q2⟩:=hz_;subst ex;obtain rfl:ov=Value.ref a:=rx;exact LG I2 ea c n l ry λ s3 I3=>⟨σ,_,I3,q2⟩
end
section
variable{X:Cx}{pins:PNz}{σ:St}{H:Hp}{s:Shared}{A:Around}{E:VPz}{Q:VPz}{c:Value}{b:Bool}
inductive FC(K:Frag)(H:Hp):V->Value->Prop where
 |non:FC K H .non (.type "NoneType")
 |bl (x:Bool):FC K H (.bl x) (.type "bool")
 |int (i:Int):FC K H (.int i) (.type "int")
 |str (x:Str):FC K H (.str x) (.type "str")
 |flt (x:UInt64):FC K H (.flt x) (.type "float")
 |lst {a:Addr} {xs:LUz} (e:H a=some (.lst xs)):FC K H (.ref a) (.type "list")
 |frz {a:Addr} {o:Obj} {xs:LUz} (e:H a=some (.frz o (.lst xs))):FC K H (.ref a) (.type "list")
 |tup {a:Addr} {xs:LUz} (e:H a=some (.tup xs)):FC K H (.ref a) (.type "tuple")
 |dK {a:Addr} {kvs:List (Key×V)} (e:H a=some (.dK kvs)):FC K H (.ref a) (.type "dict")
 |dT {a:Addr} {kvs:LKz} (e:H a=some (.dT kvs)):FC K H (.ref a) (.type "dict")
 |ins {a C dx:Addr} {fs:LFz} (e:H a=some (.ins C dx fs)) (cl:Cls K C) (ha:findIn K (.ref C) "__class__"=some (some (.builtin "object.__class__")))
   (hn:specialIn K (.builtin "object.__class__") "__get__"=some (some (.builtin "getset_descriptor.__get__"))) (htk:takesIn K (.builtin "object.__class__")=some true)
   (hm:mroIn K C (.type "object")=some true):FC K H (.ref a) (.ref C)
theorem NR{x:V}{u t:Value}(I:Inv X pins σ H s)(rx:RelV x u)(ty:FC X.K H x t)(e:kitOne X.K t c=some b)(h:∀tk,Q (.bool b) { s with toks:=tk }) :
  wpAny (model X.prog X.w) A (call (.builtin "isinstance") [u,c]) Q E s:=by
 cases ty with
 |non=>cases(show u=Value.none from rx);exact kia_one kitx_none I.kIn True.intro e (λ z=>nomatch z) h
 |bl y=>cases(show u=Value.bool y from rx);exact kia_one kitx_bool I.kIn True.intro e (λ z=>nomatch z) h
 |int i=>obtain⟨t,q⟩:=(show ∃t,u=Value.int i t from rx);cases q;exact kia_one kitx_int I.kIn True.intro e (λ z=>nomatch z) h
 |str y=>obtain⟨t,q⟩:=(show ∃t,u=Value.str y t from rx);cases q;exact kia_one kitx_str I.kIn True.intro e (λ z=>nomatch z) h
 |flt y=>obtain⟨t,q⟩:=(show ∃t,u=Value.float y t from rx);cases q;exact kia_one kitx_float I.kIn True.intro e (λ z=>nomatch z) h
 |@lst a xs ea =>
  cases(show u=Value.ref a from rx);obtain⟨_,_,n,_,h1⟩:=(show ObjOk X.prog X.w H s.heap a (.lst xs) from I.hok a _ ea);exact kia_one kitx_list I.kIn ⟨_,h1,rfl⟩ e (λ z=>nomatch z) h
 |@frz a ob xs ea =>
  cases(show u=Value.ref a from rx);obtain⟨_,_,_,n,_,h1⟩:=(show ObjOk X.prog X.w H s.heap a (.frz ob (.lst xs)) from I.hok a _ ea);exact kia_one kitx_list I.kIn ⟨_,h1,rfl⟩ e (λ z=>nomatch z) h
 |@tup a xs ea =>
  cases(show u=Value.ref a from rx);obtain⟨_,_,_,p⟩:=(show ObjOk X.prog X.w H s.heap a (.tup xs) from I.hok a _ ea);obtain⟨o,h1,h2,_⟩:=p;exact kia_one kitx_tuple I.kIn ⟨o,h1,h2⟩ e (λ z=>nomatch z) h
 |@dK a kvs ea =>
  cases(show u=Value.ref a from rx);obtain⟨_,_,vs,_,p⟩:=(show ObjOk X.prog X.w H s.heap a (.dK kvs) from I.hok a _ ea);obtain⟨o,es,ep,h1,h2,_⟩:=p;exact kia_one kitx_dict I.kIn ⟨o,h1,h2.1⟩ e (λ z=>nomatch z) h
 |@dT a kvs ea =>
  cases(show u=Value.ref a from rx);obtain⟨_,_,xs,_,o,es,ep,h1,h2,_⟩:=(show ObjOk X.prog X.w H s.heap a (.dT kvs) from I.hok a _ ea);exact kia_one kitx_dict I.kIn ⟨o,h1,h2.1⟩ e (λ z=>nomatch z) h
 |@ins a C dx fs ea cl ha hn htk hm =>
  cases(show u=Value.ref a from rx);obtain⟨mA,O,_⟩:=Gv I.hok ea;obtain⟨od,J,_⟩:=O.look;exact kia_one (kitx_own (cl.get _) cl.hd ha hn htk hm) I.kIn J e (λ z=>nomatch z) h
end
structure Room(k:Nat)(A:Around):Prop where
 hd:A.handled=none
 dp:A.depth+3*k+5<recursionLimit
 un:A.units+16*k+200<cLine
theorem Room.mono{j k:Nat}{A:Around}(r:Room k A)(h:j<=k):Room j A:=⟨r.hd,by have:=r.dp;lia,by have:=r.un;lia⟩
theorem Room.deeper{k:Nat}{A:Around}(r:Room (k+1) A)(env:Env):Room k (A.deeper env) :=
 ⟨r.hd,by have:=r.dp;show A.depth+1+3*k+5<_;lia,by have:=r.un;show A.units+3+16*k+200<_;lia⟩
theorem LV{A:Around}{C:Addr}{us:LWz}{kw:List (Str×Value)}:(A.under (.builtin "type.__call__" ⟨.ref C::us,kw⟩)).depth=A.depth+1:=by
 first|rfl|simp[Around.under,Code.weight,Code.isCreation,Code.isGuard,Code.isCaller,Code.frames,Code.isFrame,guardIds]
theorem LU{A:Around}{C:Addr}{us:LWz}{kw:List (Str×Value)}:(A.under (.builtin "type.__call__" ⟨.ref C::us,kw⟩)).units=A.units+1:=by
 first|rfl|simp[Around.under,Code.cUnits,Code.frames,Code.isFrame]
theorem Room.make{k:Nat}{A:Around}(r:Room (k+1) A)(C:Addr)(us:LWz)(kw:List (Str×Value)):Room k (A.under (.builtin "type.__call__" ⟨.ref C::us,kw⟩)) :=
 ⟨r.hd,by have:=r.dp;rw[LV];lia,by have:=r.un;rw[LU];lia⟩
theorem Room.depth{k:Nat}{A:Around}(r:Room k A):A.depth<recursionLimit:=by have:=r.dp;lia
theorem Room.units{k:Nat}{A:Around}(r:Room k A):A.units+64<cLine:=by have:=r.un;lia
def RP:TA:=λ_ H Q=>Q [] H
def Tf(ta:TE)(tr:TA):TA:=λ σ H Q=>ta σ H λ x H1=>tr σ H1 λ xs H2=>Q (x::xs) H2
section
variable{X:Cx}{e:Expr}{es:List Expr}{te:TE}{t:TA}{pos:Pos}
theorem Ac:PA X [] RP:=λ_ _ _ _ H Q I h=>Calls.spliced_nil ⟨[],H,I,.nil,h⟩
theorem Aa(ha:PE X e te)(hr:PA X es t)(hs:starEach (e::es) X.env=(false,eval e X.env)::starEach es X.env:=by rfl):PA X (e::es) (Tf te t):=by
 intro pos pins s σ H Q I h;rw[hs];show wpAny _ _ (spliced ((false,eval e X.env)::backTo pos (starEach es X.env))) _ _ s;refine Calls.spliced_cons (thn (ha pins s σ H _ I h) λ u s1 hz_=>?_);obtain⟨x,H1,I1,r1,q1⟩:=hz_;exact thn (hr pos pins s1 σ H1 _ I1 q1) λ us s2 ⟨xs,H2,I2,r2,q2⟩=>⟨x::xs,H2,I2,.cons r1 r2,q2⟩
def Ut(t:TA):TE:=λ σ H Q=>t σ H λ xs H1=>xs.length<=sizeLine/\∀p,H1 p=none->Q (.ref p) (upd H1 p (.tup xs))
def SZ(t:TA):TE:=λ σ H Q=>t σ H λ xs H1=>xs.length<=sizeLine/\∀p,H1 p=none->Q (.ref p) (upd H1 p (.lst xs))
theorem AB{x1}(h:PA X es t):PE X (.Tuple es x1 pos) (Ut t):=by
 intro pins s σ H Q I hq;refine wpAny_Tuple_spliced (thn (h pos pins s σ H _ I hq) λ us s1 ⟨xs,H1,I1,r,z,q⟩=>⟨by rw[<-r.length];exact z,?_⟩);have hf:H1 s1.heap.objs.size=none:=I1.hok.fresh (ah _);refine⟨.ref s1.heap.objs.size,upd H1 s1.heap.objs.size (.tup xs),I1.laid (t':=s1.toks) (λ b u e=>ae _ e) (ah _) ?_,rfl,q _ hf⟩;exact⟨z,us,r,⟨_,au _ rfl,rfl,_,rfl⟩⟩
theorem AY(h:PA X es t):PE X (.List es pos) (SZ t):=by
 intro pins s σ H Q I hq;refine wpAny_List_spliced (thn (h pos pins s σ H _ I hq) λ us s1 ⟨xs,H1,I1,r,z,q⟩=>⟨by rw[<-r.length];exact z,?_⟩);have hf:H1 s1.heap.objs.size=none:=I1.hok.fresh (ah _);refine⟨.ref s1.heap.objs.size,upd H1 s1.heap.objs.size (.lst xs),I1.laid (t':=s1.toks) (λ b u e=>ae _ e) (ah _) ?_,rfl,q _ hf⟩;exact⟨z,us,0,r,au _ rfl⟩
end
abbrev Sp:=LUz->Hp->VK->XK->Prop
abbrev CXT:=List Env->Hp->Shared->XK->Value->Shared->Prop
structure Env0(P:Program)(w:World)(K:Frag)(mg:MGz)(base:Heap)(A:Around)(outer:List Env)(s:Shared)(H:Hp):Prop where
 frames:A.frames=some outer
 mod:Mod K mg base
 bs:∀b o,base.get? b=some o->s.heap.get? b=some o/\H b=none
 bsz:base.objs.size<=s.heap.objs.size
 funs:s.heap.FunFrames base outer
 frf:∀b∈frs outer,H b=none
 hok:HOk P w H s.heap
 bare:AllBare s.gens
def CE(outer:List Env)(P:Program)(w:World)(H:Hp)(s:Shared)(Q:VK)(u:Value)(s':Shared):Prop :=
 ∃v H',s'.os=s.os/\AllBare s'.gens/\Un (frs outer) [] H H' s.heap s'.heap/\HOk P w H' s'.heap/\RelV v u/\Q v H'
def CR(CX:CXT)(outer:List Env)(P:Program)(w:World)(H:Hp)(s:Shared)(Q:VK)(E:XK)(r:Result)(s':Shared):Prop :=
 match r with
 |.ok (.ret u)=>CE outer P w H s Q u s'
 |.ok _=>False
 |.error e=>CX outer H s E e s'
structure A2(P:Program)(w:World)(K:Frag)(mg:MGz)(base:Heap)(CX:CXT)(k:Nat)(f:Addr)(fd:FuncData)(ps:LSz)(sp:Sp):Prop where
 len:∀vs H Q E,sp vs H Q E->vs.length=ps.length
 run:∀(A:Around)(outer:List Env)(s:Shared)(H:Hp)(args:Args)(us:LWz)(vs:LUz)(Q:VK)(E:XK),Room k A->Env0 P w K mg base A outer s H->BindsTo s fd args (ps.zip us)->Vals vs us->sp vs H Q E ->
  codeAny (model P w) A (.call (.ref f) args) (CR CX outer P w H s Q E) s
theorem Env0.make{P:Program}{w:World}{K:Frag}{mg:MGz}{base:Heap}{A:Around}{outer:List Env}{s:Shared}{H:Hp}(e:Env0 P w K mg base A outer s H)(C:Addr)(us:LWz)(kw:List (Str×Value)) :
  Env0 P w K mg base (A.under (.builtin "type.__call__" ⟨.ref C::us,kw⟩)) outer s H:=⟨by first|exact e.frames|(simpa [Around.under,Code.envs,Code.isFrame,pushEnvs] using e.frames),e.mod,e.bs,e.bsz,e.funs,e.frf,e.hok,e.bare⟩
section
variable{X:Cx}{pins:PNz}{σ:St}{H:Hp}{s s':Shared}
theorem Inv.env0(I:Inv X pins σ H s):Env0 X.prog X.w X.K X.mg X.base X.A X.stack s H :=
 ⟨I.ok.frames,I.ok.mod,I.bs,aR I.ok.bsz I.sz,I.stack,I.stkFree,I.hok,I.bare⟩
theorem Inv.after{Q:VK}{u:Value}(I:Inv X pins σ H s)(h:CE X.stack X.prog X.w H s Q u s'):EP X pins σ Q u s':=by
 obtain⟨v,H',os,bare,un,hok,r,q⟩:=h;obtain⟨hh,g,d,t,os'⟩:=s';obtain rfl:os'=s.os:=os;exact⟨v,H',I.call (h':=hh) (g':=g) (d':=d) (t':=t) (ch:=[]) un hok bare (λ b z=>absurd z (by simp)),r,q⟩
end
def Rw(sp:Sp)(dvs:LUz)(E:XK)(t:TA):TE:=λ σ H Q=>t σ H λ vs H1=>sp (vs++dvs) H1 Q E
def Ru(C:Addr)(m:Str)(sp:Sp)(dvs:LUz)(E:XK)(ta:TE)(t:TA):TE:=λ σ H Q=>ta σ H λ x H1=>∃a dx fs,x=.ref a/\H1 a=some (.ins C dx fs)/\fs.lookup m=none /\
 t σ H1 λ vs H2=>sp (x::(vs++dvs)) H2 Q E
def Rv(C:Addr)(sp:Sp)(dvs:LUz)(E:XK)(t:TA):TE:=λ σ H Q=>t σ H λ vs H1=>∀x dx,H1 x=none->H1 dx=none->dx≠x ->
 sp (.ref x::(vs++dvs)) (upd (upd H1 dx (.own x)) x (.ins C dx [])) (λ v H2=>v=.non/\Q (.ref x) H2) E
def Binds(K:Frag)(fd:FuncData)(ps:LSz)(ds:LWz):Prop :=
 ∀(s:Shared)(us:LWz),K.In s.heap->(us++ds).length=ps.length->BindsTo s fd ⟨us,[]⟩ (ps.zip (us++ds))
theorem Binds.all{K:Frag}{fd:FuncData}{ps:LSz}(h:∀us:LWz,us.length=ps.length->bindArgs fd ⟨us,[]⟩=pure (ps.zip us)):Binds K fd ps []:=λ s us _ hl=>by
 rw[aY]at hl |-;exact .of_eq (h us hl)
def FD(CX:CXT)(X:Cx)(E:XK):Prop:=∀(pins:PNz)(σ:St)(H:Hp)(s:Shared)(e:Value)(s':Shared),Inv X pins σ H s->CX X.stack H s E e s'->X.xe e s'
section
variable{X:Cx}{CX:CXT}{k:Nat}{f C:Addr}{fd:FuncData}{ps:LSz}{sp:Sp}{dvs:LUz}{ds:LWz}{E:XK}{x m:Str}{p pos apos:Pos}{e o:Expr}{es:List Expr}{ta:TE}{t:TA}
theorem OG{pins:PNz}{σ:St}{H:Hp}{s:Shared}{Q:VK}{us:LWz}{vs:LUz}(F:A2 X.prog X.w X.K X.mg X.base CX k f fd ps sp)(hr:Room k X.A)(hb:Binds X.K fd ps ds)(hd:Vals dvs ds)(hx:FD CX X E)
  (I:Inv X pins σ H s) (r:Vals vs us) (h:sp (vs++dvs) H Q E):wpAny (model X.prog X.w) X.A (call (.ref f) us) (EP X pins σ Q) X.xe s:=by
 have r2:Vals (vs++dvs) (us++ds):=r.append hd;have hl:(us++ds).length=ps.length:=by rw[<-r2.length];exact F.len _ _ _ _ h
 refine wpAny_call (codeAny_mono (F.run X.A X.stack s H ⟨us,[]⟩ (us++ds) (vs++dvs) Q E hr I.env0 (hb s us I.kIn hl) r2 h) λ r s' hq=>?_);cases r with
 |error e=>exact hx pins σ H s e s' I hq
 |ok fl =>
  cases fl with
  |ret u=>exact I.after hq
  |next=>exact False.elim hq
  |brk=>exact False.elim hq
  |cont=>exact False.elim hq
theorem QD(F:A2 X.prog X.w X.K X.mg X.base CX k f fd ps sp)(hr:Room k X.A)(hg:Gl X x)(hm:X.mg x=some (.ref f))(hk:keepIn X.K (.ref f)=true)(hb:Binds X.K fd ps ds)(hd:Vals dvs ds)(hx:FD CX X E)
  (ha:PA X (e::es) t) (hdb:(x==("__debug__":Str))=false:=by decide) (he:starEach (e::es) X.env=(false,eval e X.env)::starEach es X.env:=by rfl) (hpl:(backTo pos (starEach es X.env)).any (·.1)=false:=by rfl) :
  PE X (.Call (.Name x p) (e::es) [] pos) (Rw sp dvs E t):=by
 intro pins s σ H Q I h;refine wpAny_Call_Name_kw (Gu I hg hm ?_ hdb);refine callWith_K (h₀:=X.base) I.ok.mod.kin hk (thn (ha pos pins s σ H _ I h) λ us s1 ⟨vs,H1,I1,r,q⟩=>⟨I1.kIn,?_⟩) he hpl;exact OG F hr hb hd hx I1 r q
theorem OR{pl:Sem Bool}(he:PE X o ta)(c:Cls X.K C)(hm:SN X.K C m f)(F:A2 X.prog X.w X.K X.mg X.base CX k f fd ps sp)(hr:Room k X.A)(hb:Binds X.K fd ps ds)(hd:Vals dvs ds)(hx:FD CX X E)
    (ht:eval (.Call (.Attribute o m apos) [] [] pos) X.env=(do
      let ov <-eval o X.env
      standAt apos.atName
      let (f,first) <-holding [ov] (getMethod ov m pl)
      callWith pos f first (backTo pos (starEach [] X.env)) (backToKw pos (keywordEach [] X.env))):=by rfl) :
    PE X (.Call (.Attribute o m apos) [] [] pos) (Ru C m sp dvs E ta RP):=by
  intro pins s σ H Q I h;refine methodCall_KW (pl:=pl) (thn (he pins s σ H _ I h) λ u s1 hz_=>?_) ht;obtain⟨x,H1,I1,rx,a,dx,fs,ex,ea,l,q⟩:=hz_;subst ex;obtain rfl:u=Value.ref a:=rx;refine Mb I1 ea c hm l ?_;exact callWith_K0 (first:=[.ref a]) I1.kIn hm.kp (OG (us:=[.ref a]) (vs:=[.ref a]) F hr hb hd hx I1 (.cons rfl .nil) q)
structure Mk(K:Frag)(C f:Addr):Prop where
 makes:makesIn K C=true
 init:findIn K (.ref C) "__init__"=some (some (.ref f))
 fn:isFn K (.ref f)=true
 kp:keepIn K (.ref C)=true
theorem OF{pins:PNz}{σ:St}{H:Hp}{s:Shared}{Q:VK}{us:LWz}{vs:LUz}(M:Mk X.K C f)(F:A2 X.prog X.w X.K X.mg X.base CX k f fd ps sp)(hr:Room (k+1) X.A)(hb:Binds X.K fd ps ds)(hd:Vals dvs ds)
  (hx:FD CX X E) (I:Inv X pins σ H s) (r:Vals vs us)
  (h:∀x dx,H x=none->H dx=none->dx≠x->sp (.ref x::(vs++dvs)) (upd (upd H dx (.own x)) x (.ins C dx [])) (λ v H2=>v=.non/\Q (.ref x) H2) E) :
  wpAny (model X.prog X.w) X.A (call (.ref C) us) (EP X pins σ Q) X.xe s:=by
 have hq:=h (s.heap.objs.size+1) s.heap.objs.size (I.hok.fresh (bI _)) (I.hok.fresh (ah _)) (aB (bg _));have I2:=Inv.made (C:=C) I;have r2:Vals (V.ref (s.heap.objs.size+1)::(vs++dvs)) (Value.ref (s.heap.objs.size+1)::(us++ds)):=.cons rfl (r.append hd);have hl:(Value.ref (s.heap.objs.size+1)::us++ds).length=ps.length:=by
  have e:=r2.length;rw[F.len _ _ _ _ hq]at e;exact e.symm
 refine wpAny_call (Pq (f:=f) I.kIn M.makes M.init (beq_iff_eq.mp M.fn) (codeAny_mono (F.run _ X.stack _ _ ⟨Value.ref (s.heap.objs.size+1)::us,[]⟩ (Value.ref (s.heap.objs.size+1)::(us++ds)) _ _ E (hr.make C us [])
  (I2.env0.make C us []) (hb _ (Value.ref (s.heap.objs.size+1)::us) I2.kIn hl) r2 hq) λ r s' hq'=>?_))
 cases r with
 |error e=>exact hx pins σ _ _ e s' I2 hq'
 |ok fl =>
  cases fl with
  |ret u =>
   obtain⟨v,H',I3,rv,ev,q3⟩:=I2.after hq';subst ev;exact⟨rv,⟨V.ref (s.heap.objs.size+1),H',I3,rfl,q3⟩⟩
  |next=>exact False.elim hq'
  |brk=>exact False.elim hq'
  |cont=>exact False.elim hq'
theorem QB(M:Mk X.K C f)(F:A2 X.prog X.w X.K X.mg X.base CX k f fd ps sp)(hr:Room (k+1) X.A)(hg:Gl X x)(hm:X.mg x=some (.ref C))(hb:Binds X.K fd ps ds)(hd:Vals dvs ds)(hx:FD CX X E)
  (ha:PA X (e::es) t) (hdb:(x==("__debug__":Str))=false:=by decide) (he:starEach (e::es) X.env=(false,eval e X.env)::starEach es X.env:=by rfl) (hpl:(backTo pos (starEach es X.env)).any (·.1)=false:=by rfl) :
  PE X (.Call (.Name x p) (e::es) [] pos) (Rv C sp dvs E t):=by
 intro pins s σ H Q I h;refine wpAny_Call_Name_kw (Gu I hg hm ?_ hdb);refine callWith_K (h₀:=X.base) I.ok.mod.kin M.kp (thn (ha pos pins s σ H _ I h) λ us s1 ⟨vs,H1,I1,r,q⟩=>⟨I1.kIn,?_⟩) he hpl;exact OF M F hr hb hd hx I1 r q
end
structure Ak(N P:LSz)(sc:Scope):Prop where
 kind:sc.kind=.function
 co:sc.isCoroutine=false
 gen:sc.isGenerator=false
 nd:N.Nodup
 pre:N.take P.length=P
 par:∀x∈P,sc.names.lookup x=some .local\/sc.names.lookup x=some .cell
 nofree:∀y∈sc.names,y.2≠.free
theorem fsc{N P:List Str}{sc:Scope}(a:sc.kind=.function:=by rfl)(b:sc.isCoroutine=false:=by rfl)(c:sc.isGenerator=false:=by rfl)(d:N.Nodup:=by decide +kernel)(e:N.take P.length=P:=by rfl)(f:∀x∈P,sc.names.lookup x=some .local\/sc.names.lookup x=some .cell:=by decide +kernel)(g:∀y∈sc.names,y.2≠.free:=by decide +kernel):Ak N P sc:=⟨a,b,c,d,e,f,g⟩
theorem Jc{kindOf:Str->Option NameKind}{x:Str}:∀{binds:List (Str×Value)}{m:MGz},(∀v,(x,v)∉binds)->bindL kindOf binds m x=m x
 |[],_,_=>rfl
 | (n,v)::r,m,h=>by
  unfold bindL;rw[Jc λ w hw=>h w (aI _ hw)];split
  .have:x≠n:=by rintro rfl;exact h v aD
   simp[this]
  .rfl
theorem Je{kindOf:Str->Option NameKind}{x:Str}:∀{binds:List (Str×Value)}{m:MGz},(∀v,(x,v)∉binds)->bindC kindOf binds m x=m x
 |[],_,_=>rfl
 | (n,v)::r,m,h=>by
  unfold bindC;rw[Je λ w hw=>h w (aI _ hw)];split
  .rfl
  .have:x≠n:=by rintro rfl;exact h v aD
   simp[this]
theorem Jd{kindOf:Str->Option NameKind}{x:Str}{v:Value}:∀{P:LSz}{vs:LWz}{i:Nat}{m:MGz},P.Nodup->P[i]?=some x->vs[i]?=some v->kindOf x=some .local ->
  bindL kindOf (P.zip vs) m x=some v
 |[],_,_,_,_,h,_,_=>by simp at h
 |_::_,[],_,_,_,_,h,_=>by simp at h
 |p::P,w::vs,0,m,nd,h1,h2,hk=>by
  simp at h1 h2;subst h1;subst h2;show bindL kindOf ((p,w)::P.zip vs) m p=_;unfold bindL;rw[Jc λ v hv=>(bZ.mp nd).1 (dP hv).1,if_pos hk];simp
 |p::P,w::vs,i+1,m,nd,h1,h2,hk=>by
  show bindL kindOf ((p,w)::P.zip vs) m x=_;unfold bindL;exact Jd (i:=i) (bZ.mp nd).2 (by simpa using h1) (by simpa using h2) hk
theorem Jf{kindOf:Str->Option NameKind}{x:Str}{v:Value}:∀{P:LSz}{vs:LWz}{i:Nat}{m:MGz},P.Nodup->P[i]?=some x->vs[i]?=some v->kindOf x≠some .local ->
  bindC kindOf (P.zip vs) m x=some v
 |[],_,_,_,_,h,_,_=>by simp at h
 |_::_,[],_,_,_,_,h,_=>by simp at h
 |p::P,w::vs,0,m,nd,h1,h2,hk=>by
  simp at h1 h2;subst h1;subst h2;show bindC kindOf ((p,w)::P.zip vs) m p=_;unfold bindC;rw[Je λ v hv=>(bZ.mp nd).1 (dP hv).1,if_neg hk];simp
 |p::P,w::vs,i+1,m,nd,h1,h2,hk=>by
  show bindC kindOf ((p,w)::P.zip vs) m x=_;unfold bindC;exact Jf (i:=i) (bZ.mp nd).2 (by simpa using h1) (by simpa using h2) hk
def start(N:LSz)(vs:LUz):St:=vs.map some++List.replicate (N.length-vs.length) none
def Cs(CX:CXT)(P:Program)(w:World)(K:Frag)(mg:MGz)(base:Heap)(N:LSz)(qual:Str)(scope:Scope)(f:Addr)(cd:Value)(A:Around)(outer:List Env)(s:Shared)(H:Hp)(E:XK):Cx where
 prog:=P
 w:=w
 K:=K
 mg:=mg
 base:=base
 A:=A.deeper (envOfC qual scope s.heap.objs.size f cd)
 N:=N
 s₀:=s
 H₀:=H
 env:=envOfC qual scope s.heap.objs.size f cd
 outer:=outer
 stack:=envOfC qual scope s.heap.objs.size f cd::outer
 ex:=[]
 calm:=true
 fn:=λ_=>true
 pn:=[]
 xe:=λ e s'=>wpAny (model P w) (A.deeper (envOfC qual scope s.heap.objs.size f cd)) (leaving (envOfC qual scope s.heap.objs.size f cd) e) (λ_ s''=>CX outer H s E e s'') (λ e' s''=>CX outer H s E e' s'') s'
theorem Lo{sc:Scope}{n:Nat}{x:Str}(h:sc.names.lookup x=some .cell):∃c,(cellsFrom n sc.names []).lookup x=some c:=by
 have q:=cellsFrom_some sc.names n [] (.inl h);exact cr.mp q
theorem NS{CX:CXT}{P:Program}{w:World}{K:Frag}{mg:MGz}{base:Heap}{N ps:LSz}{qual:Str}{scope:Scope}{f:Addr}{cd:Value}{A:Around}{outer:List Env}{s s1:Shared}{H:Hp}{E:XK}{us:LWz}{vs:LUz}
  (S:Ak N ps scope) (hd:A.handled=none) (e0:Env0 P w K mg base A outer s H) (hl:vs.length=ps.length) (r:Vals vs us)
  (x:InCallC s s.heap.objs.size (bindL (envOfC qual scope s.heap.objs.size f cd).kindOf (ps.zip us) λ_=>none) (cellsFrom (s.heap.objs.size+1) scope.names []) (bindC (envOfC qual scope s.heap.objs.size f cd).kindOf (ps.zip us) λ_=>none) s1) :
  Inv (Cs CX P w K mg base N qual scope f cd A outer s H E) [] (start N vs) H s1:=by
 have hpl:ps.length<=N.length:=by have:=congrArg List.length S.pre;rw[bB]at this;lia
 obtain⟨h1,tk,rfl,hk⟩:=x.done;have noA:∀b:Addr,b∉(Cs CX P w K mg base N qual scope f cd A outer s H E).ex:=λ b z=>absurd (show b∈([]:List Addr) from z) (by simp);refine⟨⟨e0.mod,S.kind,rfl,rfl,ah _,λ y z c h1 h2=>?_,λ y hy=>?_,λ y c _ h=>?_,λ_=>hd,Around.frames_deeper e0.frames,.inr ⟨rfl,rfl⟩,λ b z=>absurd z (noA b),e0.bs,e0.bsz,λ b _ _=>noA b,λ b z=>absurd z (noA b),e0.funs,e0.frf⟩,
  rfl,e0.bare,Un.kept hk,⟨_,x.toInCall.ns,λ i y v h1 h2 h3=>?_⟩,λ y c h=>⟨_,x.cell y c h⟩,e0.hok.fresh (ah _),λ y c h=>?_,λ p hp=>absurd (show p∈([]:PNz) from hp) (by simp),e0.hok.kept hk,?_⟩
 .exact name_of_addr x.apart (PySem.mem_of_lookup h1) (PySem.mem_of_lookup h2)
 .have hy:scope.names.lookup y=some .cell\/scope.names.lookup y=some .free:=hy;rcases hy with hy|hy
  .exact Lo hy
  .exact absurd rfl (S.nofree _ (PySem.mem_of_lookup hy))
 .exact aM (x.above y c (PySem.mem_of_lookup h))
 .have hi:i<vs.length:=by
   unfold start at h2;by_cases hi:i<vs.length
   .exact hi
   .rw[ci (by simpa using hi)]at h2;rw[List.getElem?_replicate]at h2;split at h2<;>cases h2
  have ha:vs[i]?=some v:=by
   unfold start at h2;rw[List.getElem?_append_left (by simpa using hi),ay]at h2;cases e:vs[i]? with
   |none=>rw[e]at h2;cases h2
   |some a=>rw[e]at h2;cases h2;rfl
  obtain⟨u,hu,rv⟩:=r.get ha;have hp:ps[i]?=some y:=by
   rw[<-S.pre,List.getElem?_take_of_lt (by lia)];exact h1
  have ndP:ps.Nodup:=by rw[<-S.pre];exact S.nd.sublist (List.take_sublist _ _)
  refine⟨u,rv,?_⟩;rcases S.par y (ax hp) with k|k
  .exact .inl ⟨k,Jd ndP hp hu k⟩
  .obtain⟨c,e⟩:=Lo (n:=s.heap.objs.size+1) k;refine .inr ⟨.inl k,c,e,?_⟩;have q:=x.cell y c e;rw[Jf ndP hp hu (by show scope.names.lookup y≠_;rw[k];decide)]at q;exact q
 .exact e0.hok.fresh (aM (x.above y c (PySem.mem_of_lookup h)))
 .unfold start;show _=N.length;rw[av,aa,List.length_replicate];lia
theorem PB{CX:CXT}{P:Program}{w:World}{K:Frag}{mg:MGz}{base:Heap}{k:Nat}{f:Addr}{name qual:Str}{params:Arguments}{body:List Stmt}{scope:Scope}{dV kV doc pm cdv ct oc:Value}{an od:Option Addr}
  {osl:AOz} {N ps:LSz} {sp:Sp} (lk:K.lookup f=some ⟨oc,od,.func (fnOf name qual params body scope dV kV doc pm an cdv ct),osl⟩) (hcd:codeIn K cdv qual=true) (S:Ak N ps scope)
  (len:∀vs H Q E,sp vs H Q E->vs.length=ps.length)
  (hbody:∀(A:Around)(outer:List Env)(s:Shared)(H:Hp)(vs:LUz)(Q:VK)(E:XK),Room k (A.deeper (envOfC qual scope s.heap.objs.size f cdv))->sp vs H Q E ->
   ∃t,PSs (Cs CX P w K mg base N qual scope f cdv A outer s H E) body t/\t { nx:=λ_ H'=>Q .non H',rt:=Q } (start N vs) H) :
  A2 P w K mg base CX (k+1) f (fnOf name qual params body scope dV kV doc pm an cdv ct) ps sp:=by
 refine⟨len,λ A outer s H args us vs Q E hr e0 hb r hsp=>?_⟩;have hl:=len _ _ _ _ hsp;have KX:K.In s.heap:=e0.mod.kin.keeps λ b o e=>(e0.bs b o e).1;have lim:s.heap.NoLimit:=e0.mod.nolimit.keeps λ b o e=>(e0.bs b o e).1;have hkind:∀y∈ps.zip us,scope.names.lookup y.1=some .local\/(scope.names.lookup y.1=some .cell/\((cellsFrom (s.heap.objs.size+1) scope.names []).lookup y.1).isSome=true):=λ⟨n,v⟩ hy=>by
  rcases S.par n (dP hy).1 with q|q
  .exact .inl q
  .exact .inr ⟨q,cellsFrom_some _ _ _ (.inl q)⟩
 refine codeAny_call_function hr.depth (KX _ _ lk) rfl S.co S.gen rfl (codeRec_of KX hcd) (hb _ _ _ _ ?_);refine wpAny_newFunctionEnv_cells S.kind hkind λ env he s1 x=>?_;subst he;refine⟨lim.keeps x.toInCall.keep,codeAny_func ?_⟩;obtain⟨t,ht,hq⟩:=hbody A outer s H vs Q E (hr.deeper _) hsp;have I:Inv (Cs CX P w K mg base N qual scope f cdv A outer s H E) [] (start N vs) H s1:=NS S hr.hd e0 hl r x;refine wpAny_mono (ht [] s1 (start N vs) H _ I hq) (λ fl s' hs=>?_) λ e s' hs=>hs;have fin:∀{σ':St}{H':Hp}{v:V}{u:Value},Inv (Cs CX P w K mg base N qual scope f cdv A outer s H E) [] σ' H' s'->RelV v u->Q v H'->CE outer P w H s Q u s' :=
  λ{σ' H' v u} J rv q=>⟨v,H',J.os,J.bare,J.base,J.hok,rv,q⟩
 cases fl with
 |ret u =>
  obtain⟨v,σ',H',J,rv,q⟩:=hs;exact fin J rv q
 |next =>
  obtain⟨σ',H',J,q⟩:=hs;exact fin (v:=V.non) (u:=Value.none) J rfl q
 |brk =>
  obtain⟨_,_,_,q⟩:=hs;exact False.elim q
 |cont =>
  obtain⟨_,_,_,q⟩:=hs;exact False.elim q
section
variable{X:Cx}{x:Str}{p pos:Pos}{e:Expr}{es:List Expr}{t:TA}{id T:String}{r:LUz->Hp->VK->Prop}
def tCB(r:LUz->Hp->VK->Prop)(t:TA):TE:=λ σ H Q=>t σ H λ vs H1=>r vs H1 Q
theorem Av(hc:BP X (.builtin id) r)(hg:Gl X x)(hm:X.mg x=none)(hv:bootBuiltins x=some (.builtin id))(ha:PA X (e::es) t)(hn:x≠"__name__":=by decide)(hdb:(x==("__debug__":Str))=false:=by decide)
  (he:starEach (e::es) X.env=(false,eval e X.env)::starEach es X.env:=by rfl) (hpl:(backTo pos (starEach es X.env)).any (·.1)=false:=by rfl):PE X (.Call (.Name x p) (e::es) [] pos) (tCB r t):=by
 intro pins s σ H Q I h;refine wpAny_Call_Name_kw (Cm I hg hm hv ?_ hn hdb);exact PyProof.Rows.callWith_builtin1 (thn (ha pos pins s σ H _ I h) λ us s1 ⟨vs,H1,I1,r1,q1⟩=>hc pins s1 σ H1 vs us Q I1 r1 q1) he hpl
theorem CH(hc:BP X (.type T) r)(hg:Gl X x)(hm:X.mg x=none)(hv:bootBuiltins x=some (.type T))(ha:PA X (e::es) t)(hn:x≠"__name__":=by decide)(hdb:(x==("__debug__":Str))=false:=by decide)
  (he:starEach (e::es) X.env=(false,eval e X.env)::starEach es X.env:=by rfl) (hpl:(backTo pos (starEach es X.env)).any (·.1)=false:=by rfl):PE X (.Call (.Name x p) (e::es) [] pos) (tCB r t):=by
 intro pins s σ H Q I h;refine wpAny_Call_Name_kw (Cm I hg hm hv ?_ hn hdb);exact PyProof.Rows.callWith_type1 (thn (ha pos pins s σ H _ I h) λ us s1 ⟨vs,H1,I1,r1,q1⟩=>hc pins s1 σ H1 vs us Q I1 r1 q1) he hpl
end
end L2
namespace HT
open PySem.W
open PySem PyProof.Rows
def lexLt:List Int->List Int->Bool
 |[],[]=>false
 |[],_::_=>true
 |_::_,[]=>false
 |x::xs,y::ys=>if x=y then lexLt xs ys else decide (x<y)
theorem lexLt_cons(x y:Int)(xs ys:List Int):lexLt (x::xs) (y::ys)=if x=y then lexLt xs ys else decide (x<y):=rfl
theorem lexLt_nil_nil:lexLt [] []=false:=rfl
section
variable{prog:Program}{w:World}{A:Around}{E:VPz}{s:Shared}
def sIx(n d:Nat):Option Int->Nat
 |none=>d
 |some v=>if v<0 then (v+(n:Int)).toNat else min v.toNat n
end
end HT
namespace L2
open PySem.W
open PySem PySem.Spec PyProof.Rows
abbrev TO:=St->Hp->(Option Int->Hp->Prop)->Prop
def PO(X:Cx)(e:Option Expr)(t:TO):Prop :=
 ∀(pins:PNz)(s:Shared)(σ:St)(H:Hp)(Q:Option Int->Hp->Prop),Inv X pins σ H s->t σ H Q ->
  wpAny (model X.prog X.w) X.A (evalPart e X.env) (λ u s'=>∃o H',Inv X pins σ H' s'/\IsPart u o/\Q o H') X.xe s
def Qs:TO:=λ_ H Q=>Q none H
def SW(t:TE):TO:=λ σ H Q=>t σ H λ x H1=>∃i,x=.int i/\Q (some i) H1
theorem Eu{ns:List Int}:∀{us:LWz},Vals (ns.map V.int) us->IntsAre us ns:=by
 induction ns with
 |nil=>intro us r;rw[cj]at r;cases r;exact .nil
 |cons n ns ih =>
  intro us r;rw[aA]at r;cases r with
  |cons r1 r2 =>
   obtain⟨t,e⟩:=r1;subst e;exact .cons n t (ih r2)
section
variable{X:Cx}{e:Expr}{te:TE}{lo hi:Option Expr}{tl th:TO}{pos p2:Pos}
theorem EH:PO X none Qs:=by
 intro pins s σ H Q I h;rw[evalPart_none];exact wpAny_pure ⟨none,H,I,.none,h⟩
theorem EG(h:PE X e te):PO X (some e) (SW te):=by
 intro pins s σ H Q I hw;rw[evalPart_some];refine thn (h pins s σ H _ I hw) λ u s1 hz_=>?_;obtain⟨x,H1,I1,r1,q1⟩:=hz_;obtain⟨i,rfl,q⟩:=q1;obtain⟨t,rfl⟩:=r1;exact⟨some i,H1,I1,.int i t,q⟩
def SlR(X:Cx)(r:V->Option Int->Option Int->Hp->VK->Prop):Prop :=
 ∀(pins:PNz)(s:Shared)(σ:St)(H:Hp)(x:V)(v vl vu:Value)(lo hi:Option Int)(sl:Addr)(Q:VK),Inv X pins σ H s->RelV x v->s.heap.IsSliceOf sl vl vu .none->IsPart vl lo->IsPart vu hi->r x lo hi H Q ->
  ∃T id,typeLookup (.type T) "__getitem__"=pure (some (.builtin id))/\s.TypeIs v T/\wpAny (model X.prog X.w) X.A (getItem v (.ref sl)) (EP X pins σ Q) X.xe s
def tSl(r:V->Option Int->Option Int->Hp->VK->Prop)(te:TE)(tl th:TO):TE:=λ σ H Q=>te σ H λ x H1=>tl σ H1 λ l H2=>th σ H2 λ u H3=>r x l u H3 Q
theorem D1{r:V->Option Int->Option Int->Hp->VK->Prop}(hr:SlR X r)(he:PE X e te)(hl:PO X lo tl)(hu:PO X hi th):PE X (.Subscript e (.Slice lo hi none p2) pos) (tSl r te tl th):=by
 intro pins s σ H Q I h;refine Subscript_ (thn (he pins s σ H _ I h) λ v s1 hz_=>?_);obtain⟨x,H1,I1,r1,q1⟩:=hz_;refine wpAny_Slice (thn (hl pins s1 σ H1 _ I1 q1) λ vl s2 hz_=>?_);obtain⟨l,H2,I2,pl,q2⟩:=hz_;refine thn (hu pins s2 σ H2 _ I2 q2) λ vu s3 hz_=>?_;obtain⟨u,H3,I3,pu,q3⟩:=hz_;rw[evalPart_none];refine wpAny_pure ?_;have I4:Inv X pins σ H3 { s3 with heap:=s3.heap.push { cls:=.type "slice",data:=.fields #[vl,vu,.none] } }:=I3.kept (t':=s3.toks) λ b ob q=>ae _ q;obtain⟨T,id,hT,ht,hg⟩:=hr pins { s3 with heap:=s3.heap.push { cls:=.type "slice",data:=.fields #[vl,vu,.none] } } σ H3 x v vl vu l u s3.heap.objs.size Q I4 r1 (Heap.IsSliceOf.new ..) pl pu q3;show wpAny (model X.prog X.w) X.A (subscriptTail e (.Slice lo hi none p2) v (.ref s3.heap.objs.size)) (EP X pins σ Q) X.xe { s3 with heap:=s3.heap.push { cls:=.type "slice",data:=.fields #[vl,vu,.none] } };exact tail_any (ops:=[.ref s3.heap.objs.size,v]) ht hT hg (by with_unfolding_all rfl)
def Ix(xs:LUz)(lo hi:Option Int):LUz:=(xs.drop (HT.sIx xs.length 0 lo)).take (HT.sIx xs.length xs.length hi-HT.sIx xs.length 0 lo)
theorem Lk(xs:LUz)(lo hi:Option Int):(Ix xs lo hi).length<=xs.length:=by
 unfold Ix;rw[bB,dM];lia
end
def ixN(n:Nat)(i:Int):Option Nat:=if 0<=i then (if i<n then some i.toNat else none) else if -(n:Int)<=i then some (i+n).toNat else none
def atI{α:Type}(xs:List α)(i:Int):Option α:=(ixN xs.length i).bind λ j=>xs[j]?
theorem MH{n:Nat}{i:Int}{j:Nat}(h:ixN n i=some j):seqIndex? i n=some j/\j<n/\-(n:Int)<=i/\i<n:=by
 unfold ixN at h;by_cases h0:0<=i
 .rw[if_pos h0]at h;by_cases h1:i<n
  .rw[if_pos h1]at h;have e:i.toNat=j:=Option.some.inj h;exact⟨by rw[seqIndex_of h0 h1,e],by lia,by lia,h1⟩
  .rw[if_neg h1]at h;cases h
 .rw[if_neg h0]at h;by_cases h1:-(n:Int)<=i
  .rw[if_pos h1]at h;have e:(i+n).toNat=j:=Option.some.inj h;exact⟨by rw[seqIndex_neg (by lia) h1,e],by lia,h1,by lia⟩
  .rw[if_neg h1]at h;cases h
theorem MX{α:Type}{xs:List α}{i:Int}{v:α}(h:atI xs i=some v):∃j,seqIndex? i xs.length=some j/\xs[j]?=some v/\j<xs.length/\-(xs.length:Int)<=i/\i<xs.length:=by
 unfold atI at h;cases e:ixN xs.length i with
 |none=>rw[e]at h;cases h
 |some j =>
  rw[e]at h;obtain⟨h1,h2,h3,h4⟩:=MH e;exact⟨j,h1,h,h2,h3,h4⟩
theorem Kb{α:Type}{xs:List α}{j:Nat}{v:α}(h:xs[j]?=some v):atI xs (j:Int)=some v:=by
 have hj:j<xs.length:=(aG.mp h).1;have e:ixN xs.length (j:Int)=some j:=by
  unfold ixN;rw[if_pos (by lia),if_pos (by lia)];simp
 unfold atI;rw[e];exact h
theorem Qc{α:Type}(xs:List α)(v:α):atI (xs++[v]) (-1)=some v:=by
 have hl:(xs++[v]).length=xs.length+1:=by simp
 have e:ixN (xs++[v]).length (-1)=some xs.length:=by
  unfold ixN;rw[hl,if_neg (by decide),if_pos (by lia)];congr 1;lia
 unfold atI;rw[e];show(xs++[v])[xs.length]?=some v;simp
def Ro(b:Expr):Prop:=∀o i,subscripted b false o i=operate [o,i] (getItem o i)
def IxR(X:Cx)(r:R2):Prop :=
 ∀(value slice:Expr)(pins:PNz)(s:Shared)(σ:St)(H:Hp)(x y:V)(v u:Value)(Q:VK),Inv X pins σ H s->RelV x v->RelV y u->r x y H Q ->
  subscripted slice false v u=operate [v,u] (getItem v u)->wpAny (model X.prog X.w) X.A (subscriptTail value slice v u) (EP X pins σ Q) X.xe s
def MtR(X:Cx)(id:String)(r:V->LUz->Hp->VK->Prop):Prop :=
 ∀(pins:PNz)(s:Shared)(σ:St)(H:Hp)(x:V)(xs:LUz)(v:Value)(us:LWz)(Q:VK),Inv X pins σ H s->RelV x v->Vals xs us->r x xs H Q ->
  wpAny (model X.prog X.w) X.A (call (.builtin id) (v::us)) (EP X pins σ Q) X.xe s
section
variable{X:Cx}{a b:Expr}{ta tb:TE}{pos:Pos}
theorem As{r:R2}(hr:IxR X r)(ha:PE X a ta)(hb:PE X b tb)(hs:Ro b):PE X (.Subscript a b pos) (tOp r ta tb):=by
 intro pins s σ H Q I h;exact Subscript_ (SG ha hb I h λ v u s2 x y H2 I2 rx ry q=>hr a b pins s2 σ H2 x y v u Q I2 rx ry q (hs _ _))
inductive Up(K:Frag)(x y:V)(H:Hp)(Q:VK):Prop
 |mk (p:Addr) (xs:LUz) (i:Int) (v:V) (e1:x=.ref p) (e2:y=.int i) (s:SqL K H p xs) (a:atI xs i=some v) (q:Q v H):Up K x y H Q
inductive Uo(K:Frag)(x y:V)(H:Hp)(Q:VK):Prop
 |mk (p:Addr) (xs:LUz) (i:Int) (v:V) (e1:x=.ref p) (e2:y=.int i) (s:SqT K H p xs) (a:atI xs i=some v) (q:Q v H):Uo K x y H Q
def Tz(K:Frag):R2:=λ x y H Q=>Up K x y H Q
def Tx(K:Frag):R2:=λ x y H Q=>Uo K x y H Q
theorem CZ:IxR X (Tz X.K):=by
 intro value slice pins s σ H x y v u Q I rx ry h hs;obtain⟨p,xs,i,z,rfl,rfl,hq,he,q⟩:=h;cases rx;obtain⟨t,rfl⟩:=ry;obtain⟨its,r,pl,hz⟩:=I.list hq;obtain⟨j,h1,h2,h3,h4,h5⟩:=MX he;obtain⟨w,ew,rw'⟩:=r.get h2;have hl:=r.length;have hn:=Fy;have fin:EP X pins σ Q w s:=⟨z,H,I,rw',q⟩;by_cases h0:0<=i
 .have hj:i.toNat=j:=by
   rw[seqIndex_of h0 h5]at h1;exact Option.some.inj h1
  exact item_listR pl.isList h0 (by lia) (by rw[hj];simpa using ew) fin hs
 .have hj:(i+(its.toArray.size:Int)).toNat=j:=by
   rw[seqIndex_neg (by lia) h4]at h1;rw[ak,<-hl];exact Option.some.inj h1
  exact subscriptTail_builtinR (x:=w) pl.isList.typeIs slot_list_getitem.lookup
   (wpAny_getItem_list_neg (Q:=λ r s'=>r=w/\EP X pins σ Q r s') pl.isList (by lia) (by rw[ak]<;>lia) (by lia) (by rw[hj];simpa using ew) ⟨rfl,fin⟩) hs
theorem Ar:IxR X (Tx X.K):=by
 intro value slice pins s σ H x y v u Q I rx ry h hs;obtain⟨p,xs,i,z,rfl,rfl,hq,he,q⟩:=h;cases rx;obtain⟨t,rfl⟩:=ry;obtain⟨its,r,pl,hz⟩:=I.tuple hq;obtain⟨j,h1,h2,h3,h4,h5⟩:=MX he;obtain⟨w,ew,rw'⟩:=r.get h2;have hl:=r.length;have hn:=Fy;have fin:EP X pins σ Q w s:=⟨z,H,I,rw',q⟩;exact subscriptTail_builtinR (x:=w) pl.typeIs slot_tuple_getitem.lookup
  (getItem_tuple (j:=j) (Q:=λ r s'=>r=w/\EP X pins σ Q r s') pl (by lia) (by lia) (by rw[ak,<-hl];exact h1) (by simpa using ew) ⟨rfl,fin⟩) hs
theorem LS(its:LWz)(n j:Nat)(u:Value):Obj.mapSeq (·.setIfInBounds j u) { cls:=.type "list",data:=.seq its.toArray n }={ cls:=.type "list",data:=.seq (its.set j u).toArray n }:=by
 simp[Obj.mapSeq]
theorem Inv.lst{pins:PNz}{σ:St}{H:Hp}{s:Shared}{p:Addr}{xs:LUz}(I:Inv X pins σ H s)(h:H p=some (.lst xs)) :
  ∃(its:LWz)(n:Nat),Vals xs its/\s.heap.get? p=some { cls:=.type "list",data:=.seq its.toArray n }/\xs.length<=sizeLine:=by
 obtain⟨z,its,n,r,e⟩:=I.hok p _ h;exact⟨its,n,r,e,z⟩
theorem Inv.lstUpd{pins:PNz}{σ:St}{H:Hp}{s:Shared}{p:Addr}{xs ys:LUz}{its its':LWz}{n n':Nat}{f:Obj->Obj}(I:Inv X pins σ H s)(h:H p=some (.lst xs))
  (ho:s.heap.get? p=some { cls:=.type "list",data:=.seq its.toArray n }) (hf:f { cls:=.type "list",data:=.seq its.toArray n }={ cls:=.type "list",data:=.seq its'.toArray n' }) (r:Vals ys its') (hz:ys.length<=sizeLine) (t:Nat) :
  Inv X pins σ (upd H p (.lst ys)) { s with heap:=s.heap.update p f,toks:=t }:=by
 have e:(s.heap.update p f).get? p=some { cls:=.type "list",data:=.seq its'.toArray n' }:=by
  rw[ce f ho (by rw[hf]<;>rfl),hf]
 refine I.write (x:=p) (e:=p) (by rw[h];trivial) (.inl rfl) (λ b u hb q=>(eL _ _ (Ne.symm hb)).trans q) ⟨_,e⟩ ?_;exact⟨hz,its',n',r,e⟩
def Tw:V->V->V->Hp->(Hp->Prop)->Prop:=λ o i v H Q=>∃p xs k j,o=.ref p/\i=.int k/\H p=some (.lst xs)/\ixN xs.length k=some j/\Q (upd H p (.lst (xs.set j v)))
theorem OC:Ug X Tw:=by
 intro pins s σ H o i v ov iv u Q I ro ri rv h;obtain⟨p,xs,k,j,rfl,rfl,hp,hj,q⟩:=h;cases ro;obtain⟨t,rfl⟩:=ri;obtain⟨its,n,r,ho,hz⟩:=I.lst hp;obtain⟨h1,h2,h3,h4⟩:=MH hj;have hl:=r.length;have hn:=Fy;have I':Inv X pins σ (upd H p (.lst (xs.set j v))) { s with heap:=s.heap.update p (Obj.mapSeq (·.setIfInBounds j u)) } :=
  I.lstUpd hp ho (LS its n j u) (r.set rv j) (by rw[List.length_set];exact hz) s.toks
 by_cases h0:0<=k
 .have hk:k.toNat=j:=by
   rw[seqIndex_of h0 h4]at h1;exact Option.some.inj h1
  exact ki_setAt ho h0 (by lia) (by rw[ak,<-hl];exact h4) (by rw[hk];exact⟨_,I',q⟩)
 .have hk:(k+(its.toArray.size:Int)).toNat=j:=by
   rw[seqIndex_neg (by lia) h3]at h1;rw[ak,<-hl];exact Option.some.inj h1
  exact ki_setBack ho (by lia) (by rw[ak,<-hl];exact h3) (by lia) (by rw[hk];exact⟨_,I',q⟩)
theorem Jy(lo hi:Option Int)(n:Nat):(sliceBounds lo hi none n).1=((HT.sIx n 0 lo:Nat):Int)/\(sliceBounds lo hi none n).2.1=((HT.sIx n n hi:Nat):Int)/\(sliceBounds lo hi none n).2.2=1:=by
 refine⟨?_,?_,rfl⟩
 .cases lo with
  |none=>simp[sliceBounds,HT.sIx]
  |some i =>
   simp only[sliceBounds,HT.sIx,Option.getD_none,show(1:Int)>0 by decide,if_true];by_cases h:i<0
   .simp only[h,if_true]<;>lia
   .simp only[h,if_false]<;>lia
 .cases hi with
  |none=>simp[sliceBounds,HT.sIx]
  |some i =>
   simp only[sliceBounds,HT.sIx,Option.getD_none,show(1:Int)>0 by decide,if_true];by_cases h:i<0
   .simp only[h,if_true]<;>lia
   .simp only[h,if_false]<;>lia
theorem Il(its:LWz)(lo hi:Option Int):slicePick its.toArray lo hi none=((its.drop (HT.sIx its.length 0 lo)).take (HT.sIx its.length its.length hi-HT.sIx its.length 0 lo)).toArray:=by
 obtain⟨h1,h2,h3⟩:=Jy lo hi its.toArray.size;unfold slicePick;rw[h1,h2,h3];simp only[sliceRange_one,pick_run,ak]<;>rfl
def Tv(K:Frag):V->Option Int->Option Int->Hp->VK->Prop:=λ x lo hi H Q=>∃a xs,x=.ref a/\SqL K H a xs/\∀p,H p=none->Q (.ref p) (upd H p (.lst (Ix xs lo hi)))
theorem EB:SlR X (Tv X.K):=by
 intro pins s σ H x v vl vu lo hi sl Q I rx hs pl pu h;obtain⟨a,xs,rfl,hx,q⟩:=h;cases rx;obtain⟨its,r,ht,hz⟩:=I.list hx;have hlen:=r.length;refine⟨"list",_,slot_list_getitem.lookup,ht.isList.typeIs,?_⟩;refine wpAny_getItem_list_slice ht.isList hs pl pu .none (by simp) ?_ (by rw[ak]<;>lia);rw[Il,<-hlen];refine⟨.ref s.heap.objs.size,_,I.laid (t':=s.toks) (o:=.lst (Ix xs lo hi)) (λ b ob q=>ae _ q) (ah _) ?_,rfl,q _ (I.hok.fresh (ah _))⟩;exact⟨aR (Lk xs lo hi) hz,_,0,(r.drop (HT.sIx xs.length 0 lo)).take (HT.sIx xs.length xs.length hi-HT.sIx xs.length 0 lo),au _ rfl⟩
def Cu:V->Bool
 |.non=>true
 |.bl _=>true
 |.int _=>true
 |.str _=>true
 |_=>false
def eqV:V->V->Bool
 |.non,.non=>true
 |.bl a,.bl b=>a==b
 |.bl a,.int b=>(if a then 1 else 0)==b
 |.int a,.bl b=>a==(if b then 1 else 0)
 |.int a,.int b=>a==b
 |.str a,.str b=>a==b
 |_,_=>false
theorem Me{A:Around}{s:Shared}{y x:V}{u v:Value}(ry:RelV y u)(rx:RelV x v)(fy:Cu y=true)(fx:Cu x=true):SeqAt.EqAt A s u v (eqV y x):=by
 cases y with
 |non =>
  cases ry;cases x with
  |non=>cases rx;exact SeqAt.EqAt.same _
  |bl b=>cases rx;exact SeqAt.EqAt.none_bool b
  |int b=>obtain⟨t,rfl⟩:=rx;exact SeqAt.EqAt.none_int b t
  |str b=>obtain⟨t,rfl⟩:=rx;exact SeqAt.EqAt.none_str b t
  |_=>exact absurd (show false=true from fx) ao
 |bl a =>
  cases ry;cases x with
  |non=>cases rx;exact SeqAt.EqAt.bool_none a
  |bl b=>cases rx;exact SeqAt.EqAt.bool_bool a b
  |int b=>obtain⟨t,rfl⟩:=rx;exact SeqAt.EqAt.bool_int a b t
  |str b=>obtain⟨t,rfl⟩:=rx;exact SeqAt.EqAt.bool_str a b t
  |_=>exact absurd (show false=true from fx) ao
 |int a =>
  obtain⟨t',rfl⟩:=ry;cases x with
  |non=>cases rx;exact SeqAt.EqAt.int_none a t'
  |bl b=>cases rx;exact SeqAt.EqAt.int_bool a t' b
  |int b=>obtain⟨t,rfl⟩:=rx;exact SeqAt.EqAt.int_int a t' b t
  |str b=>obtain⟨t,rfl⟩:=rx;exact SeqAt.EqAt.int_str a t' b t
  |_=>exact absurd (show false=true from fx) ao
 |str a =>
  obtain⟨t',rfl⟩:=ry;cases x with
  |non=>cases rx;exact SeqAt.EqAt.str_none a t'
  |bl b=>cases rx;exact SeqAt.EqAt.str_bool a t' b
  |int b=>obtain⟨t,rfl⟩:=rx;exact SeqAt.EqAt.str_int a t' b t
  |str b=>obtain⟨t,rfl⟩:=rx;exact SeqAt.EqAt.str_str a t' b t
  |_=>exact absurd (show false=true from fx) ao
 |_=>exact absurd (show false=true from fy) ao
def eqU(x:V)(u:Value):Bool:=match u with
 |.none=>eqV .non x
 |.bool b=>eqV (.bl b) x
 |.int i _=>eqV (.int i) x
 |.str z _=>eqV (.str z) x
 |_=>false
theorem PF{x y:V}{u:Value}(r:RelV y u)(f:Cu y=true):eqU x u=eqV y x:=by
 cases y with
 |non=>cases r;rfl
 |bl b=>cases r;rfl
 |int i=>obtain⟨t,rfl⟩:=r;rfl
 |str z=>obtain⟨t,rfl⟩:=r;rfl
 |_=>exact absurd (show false=true from f) ao
theorem Kc{x:V}:∀{xs:LUz}{us:LWz},Vals xs us->xs.all Cu=true->us.any (eqU x)=xs.any λ y=>eqV y x
 |_,_,.nil,_=>rfl
 |y::xs,u::us,.cons r t,f=>by
  rw[dz,aE]at f;rw[cX,cX,PF r f.1,Kc t f.2]
theorem Hn{A:Around}{s:Shared}{x:V}{v:Value}(rx:RelV x v)(fx:Cu x=true):∀{xs:LUz}{us:LWz},Vals xs us->xs.all Cu=true->∀u∈us,SeqAt.EqAt A s u v (eqU x u)
 |_,_,.nil,_=>λ u hu=>by cases hu
 |y::xs,u::us,.cons r t,f=>λ u' hu=>by
  rw[dz,aE]at f;rcases aP.mp hu with rfl|hu
  .rw[PF r f.1];exact Me r rx f.1 fx
  .exact Hn rx fx t f.2 u' hu
def inV(x:V)(xs:LUz):Bool:=xs.any λ y=>eqV y x
def rIn(K:Frag)(neg:Bool):R2:=λ x y H Q=>∃p xs,y=.ref p/\(SqL K H p xs\/SqT K H p xs)/\Cu x=true/\xs.all Cu=true/\Q (.bl (if neg then !inV x xs else inV x xs)) H
theorem NA:OpR X (compareOp .In) (rIn X.K false):=by
 intro pins s σ H x y v u Q I rx ry h;obtain⟨p,xs,rfl,hq,fx,fs,q⟩:=h;cases ry;rcases hq with hq|hq
 .obtain⟨its,r,pl,hz⟩:=I.list hq;refine SeqAt.in_listAt (eqU x) pl.isList (λ w hw=>Hn rx fx r fs w (by simpa using hw)) ⟨.bl _,H,I,rfl,?_⟩;rw[show its.toArray.any (eqU x)=its.any (eqU x) by simp,Kc r fs];exact q
 .obtain⟨its,r,pl,hz⟩:=I.tuple hq;refine SeqAt.in_tupleAt (eqU x) pl (λ w hw=>Hn rx fx r fs w (by simpa using hw)) ⟨.bl _,H,I,rfl,?_⟩;rw[show its.toArray.any (eqU x)=its.any (eqU x) by simp,Kc r fs];exact q
theorem AS:BP X (.builtin "len") (λ xs H Q=>∃p ys,xs=[.ref p]/\(SqL X.K H p ys\/SqT X.K H p ys)/\Q (.int ys.length) H):=by
 intro pins s σ H xs us Q I r h;obtain⟨p,ys,rfl,hq,q⟩:=h;obtain⟨u,rfl,rx⟩:=Dl r;cases rx;have hn:=Fy;rcases hq with hq|hq
 .obtain⟨its,r',pl,hz⟩:=I.list hq;have hlen:=r'.length;exact Calls.call_len_list pl.isList (by simp only[ak]<;>lia) ⟨.int ys.length,H,I.tok _,⟨s.toks+1,by rw[ak,hlen]⟩,q⟩
 .obtain⟨its,r',pl,hz⟩:=I.tuple hq;have hlen:=r'.length;exact len_tuple pl (by simp only[ak]<;>lia) ⟨.int ys.length,H,I.tok _,⟨s.toks+1,by rw[ak,hlen]⟩,q⟩
theorem EX:BP X (.type "list") (λ xs H Q=>∃p ys,xs=[.ref p]/\(SqL X.K H p ys\/SqT X.K H p ys)/\∀l,H l=none->Q (.ref l) (upd H l (.lst ys))):=by
 intro pins s σ H xs us Q I r h;obtain⟨p,ys,rfl,hq,q⟩:=h;obtain⟨u,rfl,rx⟩:=Dl r;cases rx;have fin:∀(its:LWz),Vals ys its->ys.length<=sizeLine->∀(h':Heap)(c':Nat),(∀b o',s.heap.get? b=some o'->h'.get? b=some o') ->
   h'.get? s.heap.objs.size=some { cls:=.type "list",dict:=none,data:=.seq its.toArray c',slots:=#[] }->EP X pins σ Q (.ref s.heap.objs.size) { s with heap:=h' }:=λ its r' hz h' c' kp e =>
  ⟨.ref s.heap.objs.size,_,I.laid (t':=s.toks) kp (ah _) (show ObjOk X.prog X.w _ h' _ (.lst ys) from ⟨hz,its,c',r',e⟩),rfl,q _ (I.hok.fresh (ah _))⟩
 rcases hq with hq|hq
 .obtain⟨its,r',pl,hz⟩:=I.list hq;have hlen:=r'.length;obtain⟨o,ho,hc,n,hd⟩:=pl.isList;exact call_list_seq p (.inl rfl) ho hc hd (λ h' c' kp e=>fin its r' hz h' c' kp e) (by simp only[ak]<;>lia)
 .obtain⟨its,r',pl,hz⟩:=I.tuple hq;have hlen:=r'.length;obtain⟨o,ho,hc,n,hd⟩:=pl;exact call_list_seq p (.inr rfl) ho hc hd (λ h' c' kp e=>fin its r' hz h' c' kp e) (by simp only[ak]<;>lia)
theorem C8:BP X (.type "tuple") (λ xs H Q=>∃p ys,xs=[.ref p]/\((SqL X.K H p ys/\∀l,H l=none->Q (.ref l) (upd H l (.tup ys)))\/(SqT X.K H p ys/\Q (.ref p) H))):=by
 intro pins s σ H xs us Q I r h;obtain⟨p,ys,rfl,h⟩:=h;obtain⟨u,rfl,rx⟩:=Dl r;cases rx;rcases h with ⟨hq,q⟩|⟨hq,q⟩
 .obtain⟨its,r',pl,hz⟩:=I.list hq;have hlen:=r'.length;refine call_tuple_list pl.isList (λ h' kp=>?_) (by simp only[ak]<;>lia);have I1:Inv X pins σ H { s with heap:=h' }:=I.kept (t':=s.toks) kp;have I2:Inv X pins σ (upd H h'.objs.size (.tup ys)) { s with heap:=h'.push { cls:=.type "tuple",data:=.seq its.toArray } } :=
   I1.laid (t':=s.toks) (λ b o e=>ae _ e) (ah _) (show ObjOk X.prog X.w _ _ _ (.tup ys) from ⟨hz,its,r',IsTup.new _ _⟩)
  exact⟨.ref h'.objs.size,_,I2,rfl,q _ (I1.hok.fresh (ah _))⟩
 .obtain⟨its,r',pl,hz⟩:=I.tuple hq;exact call_tuple_same pl ⟨.ref p,H,I,rfl,q⟩
def tyV(K:Frag)(T:String)(x:V)(H:Hp):Prop:=match x with
 |.str _=>T="str"
 |.int _=>T="int"
 |.ref p=>(T="list"/\∃xs,SqL K H p xs)\/(T="tuple"/\∃o,K.lookup p=some o/\o.cls=.type "tuple"/\o.dict=none) \/
   (T="dict"/\((∃kvs,H p=some (.dK kvs))\/∃kvs,H p=some (.dT kvs)))\/(T="set"/\∃S n,H p=some (.set S n))
 |_=>False
theorem Ou{pins:PNz}{σ:St}{H:Hp}{s:Shared}{T:String}{x:V}{v:Value}(I:Inv X pins σ H s)(r:RelV x v)(ty:tyV X.K T x H) :
  s.TypeIs v T/\∀a,v=.ref a->∃ob,s.heap.get? a=some ob/\ob.dict=none:=by
 cases x with
 |str z =>
  obtain⟨t,rfl⟩:=r;cases(show T="str" from ty);exact⟨typeIs_str s z t,λ_ e=>nomatch e⟩
 |int i =>
  obtain⟨t,rfl⟩:=r;cases(show T="int" from ty);exact⟨typeIs_int s i t,λ_ e=>nomatch e⟩
 |ref p =>
  cases r;rcases ty with ⟨rfl,xs,hq⟩|⟨rfl,o,hk,hc,hd⟩|⟨rfl,hk⟩|⟨rfl,S,n,hk⟩
  .obtain⟨its,_,pl,_⟩:=I.list hq;refine⟨pl.isList.typeIs,λ a e=>?_⟩;cases e;obtain⟨o,n,e,c,hd,_⟩:=pl;exact⟨o,e,hd⟩
  .refine⟨⟨o,I.kIn p o hk,hc⟩,λ a e=>?_⟩;cases e;exact⟨o,I.kIn _ o hk,hd⟩
  .have z:∃o,s.heap.get? p=some o/\o.ExactDict:=by
    rcases hk with ⟨kvs,hk⟩|⟨kvs,hk⟩
    .obtain⟨_,_,_,_,o,_,_,e,ex,_⟩:=I.hok p _ hk;exact⟨o,e,ex⟩
    .obtain⟨_,_,_,_,o,_,_,e,ex,_⟩:=I.hok p _ hk;exact⟨o,e,ex⟩
   obtain⟨o,e,ex⟩:=z;refine⟨⟨o,e,ex.1⟩,λ a e2=>?_⟩;cases e2;exact⟨o,e,ex.2.1⟩
  .obtain⟨o,_,_,_,e,ex,_⟩:=I.hok p _ hk;refine⟨⟨o,e,ex.1⟩,λ a e2=>?_⟩;cases e2;exact⟨o,e,ex.2.1⟩
 |_=>exact False.elim ty
def U1(K:Frag)(T:String)(r:V->LUz->Hp->VK->Prop)(to:TE):TE:=λ σ H Q=>to σ H λ x H1=>tyV K T x H1/\r x [] H1 Q
def tBM(K:Frag)(T:String)(r:V->LUz->Hp->VK->Prop)(to:TE)(t:TA):TE:=λ σ H Q=>to σ H λ x H1=>tyV K T x H1/\t σ H1 λ xs H2=>r x xs H2 Q
variable{o e:Expr}{es:List Expr}{to:TE}{t:TA}{name:Str}{apos cpos:Pos}{T id:String}{r:V->LUz->Hp->VK->Prop}
theorem D3(pa:PlainAttrs T)(slot:Slot T name id)(hty:typeOf (.builtin id)=pure (.type "method_descriptor"))(hm:MtR X id r)(ho:PE X o to)
  (hbase:attributeBase o name X.env (eval o X.env)=eval o X.env:=by rfl) (hline:(apos.endLine==cpos.line)=true:=by rfl):PE X (.Call (.Attribute o name apos) [] [] cpos) (U1 X.K T r to):=by
 intro pins s σ H Q I h;refine wpAny_Call_method0_late hbase hline (thn (ho pins s σ H _ I h) λ v s1 hz_=>?_);obtain⟨x,H1,I1,r1,ty,q1⟩:=hz_;obtain⟨h1,h2⟩:=Ou I1 r1 ty;exact⟨T,id,pa,slot,hty,h1,h2,Calls.callWith_builtin rfl (PySem.evalArgs_none (hm pins s1 σ H1 x [] v [] Q I1 r1 .nil q1))⟩
theorem OU(pa:PlainAttrs T)(slot:Slot T name id)(hty:typeOf (.builtin id)=pure (.type "method_descriptor"))(hm:MtR X id r)(ho:PE X o to)(ha:PA X (e::es) t)
  (hbase:attributeBase o name X.env (eval o X.env)=eval o X.env:=by rfl)
  (hfew:((backTo cpos (starEach (e::es) X.env)).all (λ x=>!x.1)&&(backToKw cpos (keywordEach [] X.env)).all (λ x=>x.1.isSome)
  &&decide ((e::es).length+([]:List Keyword).length+(if ([]:List Keyword).isEmpty then 0 else 1)<30))=true:=by rfl)
  (hline:(apos.endLine==cpos.line)=true:=by rfl) (hs:starEach (e::es) X.env=(false,eval e X.env)::starEach es X.env:=by rfl) (hplain:(backTo cpos (starEach es X.env)).any (·.1)=false:=by rfl) :
  PE X (.Call (.Attribute o name apos) (e::es) [] cpos) (tBM X.K T r to t):=by
 intro pins s σ H Q I h;refine wpAny_Call_method_late hbase hfew hline rfl (thn (ho pins s σ H _ I h) λ v s1 hz_=>?_);obtain⟨x,H1,I1,r1,ty,q1⟩:=hz_;obtain⟨h1,h2⟩:=Ou I1 r1 ty;refine⟨T,id,pa,slot,hty,h1,h2,?_⟩;have hA:=ha cpos pins s1 σ H1 _ I1 q1;rw[hs]at hA |-;refine Calls.callWith_builtin (by show(false||(backTo cpos (starEach es X.env)).any (·.1))=false;rw[hplain]<;>rfl) (Calls.evalArgs_plain ?_);exact thn hA λ us s2 ⟨vs,H2,I2,r2,q2⟩=>hm pins s2 σ H2 x vs v us Q I2 r1 r2 q2
/- xs.append(e),list.index on a module's tuple .. are MtR facts of 06m -/
end
def MtM(X:Cx)(id:String)(r:V->LUz->Hp->VK->Prop):Prop :=
 ∀(pins:PNz)(s:Shared)(σ:St)(H:Hp)(x:V)(xs:LUz)(v:Value)(us:LWz)(Q:VK),Inv X pins σ H s->RelV x v->Vals xs us->r x xs H Q ->
  wpAny (model X.prog X.w) X.A (call (.builtin id) (v::us)) (EP X pins σ Q) X.xe s
theorem Vals.one:∀{x:V}{us:LWz},Vals [x] us->∃u,us=[u]/\RelV x u
 |_,_,.cons r .nil=>⟨_,rfl,r⟩
theorem Vals.zero:∀{us:LWz},Vals [] us->us=[]
 |_,.nil=>rfl
theorem Vals.dropLast{xs:LUz}{us:LWz}(h:Vals xs us):Vals xs.dropLast us.dropLast:=by
 induction h with
 |nil=>exact .nil
 |cons r t ih =>
  cases t with
  |nil=>exact .nil
  |cons q t'=>exact .cons r ih
theorem Md{α:Type}(l:List α):l.eraseIdx (l.length-1)=l.dropLast:=by
 induction l with
 |nil=>rfl
 |cons a r ih =>
  cases r with
  |nil=>rfl
  |cons b r =>
   have e:(a::b::r).length-1=((b::r).length-1)+1:=by
    have h1:(a::b::r).length=r.length+2:=rfl;have h2:(b::r).length=r.length+1:=rfl;lia
   rw[e,List.eraseIdx_cons_succ,ih]
   all_goals rfl
section
variable{X:Cx}{pins:PNz}{σ:St}{H:Hp}{s:Shared}{l b:Addr}{xs ys zs:LUz}
theorem Inv.lset{its its':LWz}{n:Nat}{f:Array Value->Array Value}{t':Nat}(I:Inv X pins σ H s)(hH:H l=some (.lst xs))
  (e:s.heap.get? l=some { cls:=.type "list",data:=.seq its.toArray n }) (hf:f its.toArray=its'.toArray) (hv:Vals ys its') (hz:ys.length<=sizeLine) :
  Inv X pins σ (upd H l (.lst ys)) { s with heap:=s.heap.update l (Obj.mapSeq f),toks:=t' }:=by
 have q:=PySem.IsL.update e f;rw[hf]at q;refine I.write (x:=l) (e:=l) (by rw[hH];exact trivial) (.inl rfl) (λ b' u hb hu=>(eL s.heap (Obj.mapSeq f) (Ne.symm hb)).trans hu) ⟨_,q⟩ ?_;exact⟨hz,its',_,hv,q⟩
theorem Inv.lnew{its:LWz}{t':Nat}(I:Inv X pins σ H s)(hv:Vals ys its)(hz:ys.length<=sizeLine) :
  Inv X pins σ (upd H s.heap.objs.size (.lst ys)) { s with heap:=s.heap.push { cls:=.type "list",data:=.seq its.toArray },toks:=t' } :=
 I.laid (λ_ _ q=>ae _ q) (ah _) ⟨hz,its,0,hv,au _ rfl⟩
theorem Inv.fresh(I:Inv X pins σ H s):H s.heap.objs.size=none:=I.hok.fresh (ah _)
theorem Inv.lstM(I:Inv X pins σ H s)(hH:H l=some (.lst xs)):xs.length<=sizeLine/\∃(its:LWz)(n:Nat),Vals xs its/\xs.length=its.length/\s.heap.get? l=some { cls:=.type "list",data:=.seq its.toArray n }:=by
 obtain⟨z,its,n,r,e⟩:=I.hok l _ hH;exact⟨z,its,n,r,r.length,e⟩
theorem Ph{n:Nat}(h:n<=sizeLine):Builtin.List.listTooLong n=false:=by
 unfold Builtin.List.listTooLong;exact decide_eq_false (by lia)
end
section
variable{X:Cx}
def M1:V->LUz->Hp->VK->Prop:=λ x vs H Q=>∃l xs y,x=.ref l/\vs=[y]/\H l=some (.lst xs)/\xs.length<sizeLine/\Q .non (upd H l (.lst (xs++[y])))
theorem Fw:MtM X "list.append" M1:=by
 intro pins s σ H x vs v us Q I rx rv h;obtain⟨l,xs,y,rfl,rfl,hH,hz,q⟩:=h;cases rx;obtain⟨u,rfl,ru⟩:=rv.one;obtain⟨z,its,n,r,hl,e⟩:=I.lstM hH;refine call_meets F.slot_list_append ⟨_,e,rfl⟩ F.entry_list_append (F.args_list_append_2 _ _) (PySem.list_append l its.toArray n u (by rw[ak];lia)) ⟨e,?_⟩;refine⟨.non,_,I.lset (its':=its++[u]) hH e (by simp) (r.append (.cons ru .nil)) ?_,rfl,q⟩;rw[av,aX];lia
def Q7:V->LUz->Hp->VK->Prop:=λ x vs H Q=>∃l b xs zs,x=.ref l/\vs=[.ref b]/\H l=some (.lst xs)/\H b=some (.lst zs)/\xs.length+zs.length<=sizeLine/\Q .non (upd H l (.lst (xs++zs)))
theorem IR:MtM X "list.extend" Q7:=by
 intro pins s σ H x vs v us Q I rx rv h;obtain⟨l,b,xs,zs,rfl,rfl,hH,hB,hz,q⟩:=h;cases rx;obtain⟨u,rfl,ru⟩:=rv.one;cases ru;obtain⟨z,its,n,r,hl,e⟩:=I.lstM hH;obtain⟨z2,its2,n2,r2,hl2,e2⟩:=I.lstM hB;have hsz:its.toArray.size+its2.toArray.size<=sizeLine:=by rw[ak,ak];lia
 have hlong:¬(!its.toArray.isEmpty&&Builtin.List.listTooLong (its.toArray.size+its2.toArray.size))=true:=by
  rw[Ph hsz,dk];exact ao
 refine call_meets F.slot_list_extend ⟨_,e,rfl⟩ F.entry_list_extend (F.args_list_extend_2 _ _)
  (AutoSeq1.list_extend_list_list_0 l its.toArray n b its2.toArray n2 hlong (by rw[ak];lia) (by lia)) ⟨e,e2,?_⟩
 refine⟨.non,_,I.lset (its':=its++its2) hH e (by simp) (r.append r2) ?_,rfl,q⟩;rw[av];lia
def U8:V->LUz->Hp->VK->Prop:=λ x vs H Q=>∃l xs y,x=.ref l/\vs=[]/\H l=some (.lst xs)/\xs[xs.length-1]?=some y/\Q y (upd H l (.lst xs.dropLast))
theorem Hk:MtM X "list.pop" U8:=by
 intro pins s σ H x vs v us Q I rx rv h;obtain⟨l,xs,y,rfl,rfl,hH,hy,q⟩:=h;cases rx;have hus:=rv.zero;subst hus;obtain⟨z,its,n,r,hl,e⟩:=I.lstM hH;obtain⟨u,hu,ru⟩:=r.get hy;have hy':its.toArray[its.toArray.size-1]?=some u:=by
  show its.toArray[its.length-1]?=some u;rw[<-b9,<-hl];exact hu
 refine call_meets F.slot_list_pop ⟨_,e,rfl⟩ F.entry_list_pop (F.args_list_pop_1 _) (MeetsSeq.list_pop_last l its.toArray n u hy' (by rw[ak];lia)) ⟨e,?_⟩;refine⟨y,_,I.lset (its':=its.dropLast) hH e ?_ r.dropLast ?_,ru,q⟩
 .show its.toArray.eraseIdxIfInBounds (its.toArray.size-1)=its.dropLast.toArray;rw[ak,List.eraseIdxIfInBounds_toArray,Md]
 .rw[List.length_dropLast];lia
inductive Ur(x y:V)(H:Hp)(Q:VK):Prop
 |mk (l b:Addr) (xs zs:LUz) (e1:x=.ref l) (e2:y=.ref b) (h1:H l=some (.lst xs)) (h2:H b=some (.lst zs)) (n:xs.length+zs.length<=sizeLine) (q:∀p,H p=none->Q (.ref p) (upd H p (.lst (xs++zs)))):Ur x y H Q
def UA:R2:=λ x y H Q=>Ur x y H Q
theorem JC:OpR X (binaryOp .Add) UA:=by
 intro pins s σ H x y v u Q I rx ry h;obtain⟨l,b,xs,zs,rfl,rfl,hH,hB,hz,q⟩:=h;cases rx;cases ry;obtain⟨z,its,n,r,hl,e⟩:=I.lstM hH;obtain⟨z2,its2,n2,r2,hl2,e2⟩:=I.lstM hB;refine PySem.P.add_list e e2 ?_ (by rw[ak,ak];lia);have ea:its.toArray++its2.toArray=(its++its2).toArray:=by simp
 rw[ea];exact⟨.ref _,_,I.lnew (t':=s.toks) (r.append r2) (by rw[av];lia),rfl,q _ I.fresh⟩
end
end L2
namespace Att
open PySem.W
open PySem PySem.Calls PyProof.Rows
theorem Gm{P:Params}{h:Heap}:∀(ns:List Int)(vs:LWz),WellAll P h vs (ns.map WData.int)->IntsAre vs ns:=by
 intro ns
 induction ns with
 |nil =>
  intro vs w;rw[cj]at w;cases w;exact .nil
 |cons n ns ih =>
  intro vs w;rw[aA]at w;cases w with
  |cons a b =>
   cases a;exact .cons _ _ (ih _ b)
theorem Ny{l:OpenLaw}{n:Nat}(hn:l.most=some n){P:Params}{h:Heap}{args:List WData}{vals:LWz}
  (hpre:l.row.toRowW.claim.pre args=true) (hwl:WellAll P h vals args) :
  ∃a vs ns,vals=[Value.ref a]/\args=[WData.list (ns.map WData.int)]/\h.get? a=some { cls:=.type "list",data:=.seq vs.toArray }/\IntsAre vs ns/\ns.length<=n:=by
 have hsh:WShape.hasAll [] args [.list .int]=true:=(pre_splitW hpre).1;have hc:l.pre.holds [] { args:=args }=true:=(pre_splitW hpre).2;obtain⟨d,r,rfl,h1,h2⟩:=hasAllW_cons hsh;obtain rfl:=hasAllW_nil h2;obtain⟨xs,rfl,h3⟩:=hasW_list h1;obtain⟨ns,rfl⟩:=items_int h3;have hlen:ns.length<=n:=by
  unfold OpenLaw.pre at hc;have h4:(WTm.not (.lt (.lit (.int (n:Int))) (.len (.arg 0)))).holds [] { args:=[.list (ns.map .int)] }=true:=by
   have h4:=(holds_andW hc).1;rw[hn]at h4;exact h4
  have h5:=condW_of h4 (w_not (w_lt w_lit (w_len_list (w_arg rfl))));rw[aa]at h5;refine Nat.le_of_not_lt λ q=>?_;have q':(n:Int)<((ns.length:Nat):Int):=by lia
  first
   | (rw[decide_eq_true q']at h5;exact absurd h5 (by decide))
   | (simp at h5;lia)
 cases hwl with
 |cons w1 w2 =>
  cases w2;cases w1 with
  |list ho hall=>exact⟨_,_,ns,rfl,rfl,ho,Gm ns _ hall,hlen⟩
theorem N4(l:OpenLaw)(args:List WData):l.row.toRowW.claim.post args (.bool true) args=true :=
 postW_of (r:=l.row.toRowW) (X:=(true==true))
  (show WShape.has [] (.bool true) .bool=true by first|rfl|decide|simp[WShape.has,WShape.arms,WShape.armsAll])
  (show(WTm.eq .res (.lit (.bool true))).value [] { args:=args,res:=some (.bool true),after:=args }=some (.bool (true==true)) from w_eq_bool (w_res rfl) w_lit) rfl
theorem attach_call{l:OpenLaw}{n:Nat}{q:Program}{loose:LSz}{XP:(MGz)->Heap->Prop}{YP:World->Heap->Prop}{d:DefRec}
  (hn:l.most=some n) (hdf:d.params.defaults=[])
  (call:∀(w:World)(s₀ s₁:Shared)(mg mb:MGz)(fa:Addr)(o:Obj)(pm cd doc:Value)(a:Addr)(vs:LWz)(ns:List Int),
   Ground q loose [] XP w s₀ mg mb s₁.heap->YP w s₁.heap ->
   s₁.heap.get? fa=some o->o.data=.func (docDef d.name d.params d.body d.scope pm cd doc)->s₁.heap.CodeRec cd d.name->mg d.name=some (.ref fa) ->
   s₁.heap.get? a=some { cls:=.type "list",data:=.seq vs.toArray }->IntsAre vs ns->ns.length<=n->s₁.gens=#[] ->
   codeAny (model l.prog w) callerA (.call (.ref fa) ⟨[.ref a],[]⟩) (λ r s'=>r=.ok (.ret (.bool true))/\OldK s₁.heap s'.heap/\s'.os=s₁.os/\AllBare s'.gens) s₁) :
  WalkO q loose XP YP l.row.toRowW d [] (λ f vs=>PySem.call f vs):=by
 intro w s₀ s₁ mg mb G Y fa o pm cd doc dV kV ho hd hcd hD hmg hg args vals as hpre hlay hrd hwl hlo;obtain rfl:dV=.none:=Dflts.none hD hdf;obtain rfl:kV=.none:=Dflts.noKw hD;obtain⟨a,vs,ns,rfl,rfl,hobj,hints,hlen⟩:=Ny hn hpre hwl;refine enter_call (codeAny_mono (call w s₀ s₁ mg mb fa o pm cd doc a vs ns G Y ho (fd_plain hd) hcd hmg hobj hints hlen hg) λ r s' hq=>?_);obtain⟨rfl,h2,h3,h4⟩:=hq;exact⟨.inl ⟨.bool true,.bool true,[],rfl,λ_=>rfl,.bool true,N4 l _,λ_=>⟨List.Pairwise.nil,λ_ hm=>(nomatch hm)⟩⟩,h2,h3,h4⟩
end Att
namespace L2
open PySem.W
open PySem PySem.Spec PyProof.Rows
theorem Fc:∀{vs:LWz}{ns:List Int},IntsAre vs ns->Vals (ns.map V.int) vs
 |_,_,.nil=>.nil
 |_,_,.cons n t h=>.cons ⟨t,rfl⟩ (Fc h)
abbrev KOf{K:Frag}{h:Heap}(_:K.In h):Frag:=K
end L2
/- THE LAST THEOREM (shape;LID,My.* are yours):
  My.Adr: a structure of the addresses that your layer names (classes,functions);My.Txt K t: a structure (Prop) of the equations over K;
  My.txt_mk:{K} {implicit addresses ..} (e1:nsIn K mainGlobals "law"=some (some (.ref f))) (e2:K.lookup f=some ⟨oc,od,.func (fnOf "law" "law" params body scope dV kV doc pm an cdv ct),sl⟩) (e3:codeIn K cdv "law"=true) ..:∃t,My.Txt K t
set_option maxRecDepth 100000 in
set_option maxHeartbeats 0 in
theorem PySem.Challenge.cw_LID_holds:PySem.Challenge.rw_LID.Holds:=by
 w_on;o_law;k_head;(case hw=>w_witness2)
 k_fill
 refine L2.walk_of (l:=PySem.Challenge.rw_LID) (n:=63) (k:=40) (x:="script") (CX:=λ w=>..) (sp:=λ_=>My.sp_law) rfl (by decide) rfl ⟨rfl,by decide,by decide⟩ (λ w h Y=>kIn_of Y) ?F ?S ?C
 case F =>
  intro w mg fa h KX G hmg;have T:∃t,My.Txt (L2.KOf KX) t:=by
   dsimp only[L2.KOf]                          -- K must stand as «<heap const> w.params» for k_is;refine' My.txt_mk ?e1 ?e2 ?e3 ..
   (case e1=>k_is)                    -- in the order: a name -> its address -> its object -> its parts
   (case e2=>k_is)
   ..
  obtain⟨t,T⟩:=T;have e0:=hmg.symm.trans (mg_of KX G T.law);cases e0                                       -- fa is the law's own address;exact⟨_,λ s u=>.of_eq rfl,λ base kb nb=>My.law_fn T kb nb⟩     -- if «.of_eq rfl» comes too early: refine'⟨_,?b,λ base kb nb=>My.law_fn T kb nb⟩;exact λ s u=>.of_eq rfl
 case S=>exact λ w H a ns hl hO hS=>..
 case C=>exact ..
(the tactic k_is has no namespace: write k_is) -/
namespace L2
open PySem.W
open PySem PySem.Spec PyProof.Rows
def AC(s:Stmt)(j:Nat):Stmt:=match s with
 |.ClassDef _ _ _ body _ _ _ _ _ _ _=>body.getD j (.Pass ⟨0,0,0,0⟩)
 |_=>.Pass ⟨0,0,0,0⟩
def Bl(s:Stmt):Arguments:=match s with
 |.FunctionDef _ a _ _ _ _ _ _ _ _=>a
 |_=>{ posonlyargs:=[],args:=[],vararg:=none,kwonlyargs:=[],kw_defaults:=[],kwarg:=none,defaults:=[] }
def A5(s:Stmt):List Stmt:=match s with
 |.FunctionDef _ _ b _ _ _ _ _ _ _=>b
 |_=>[]
def Ai(s:Stmt):Scope:=match s with
 |.FunctionDef _ _ _ _ _ _ sc _ _ _=>sc
 |_=>{ kind:=.function,names:=[],isGenerator:=false,isCoroutine:=false }
abbrev CX0:CXT:=λ_ _ _ _ _ _=>False
abbrev E0:XK:=λ_ _ _=>False
theorem K3{X:Cx}:FD CX0 X E0:=λ_ _ _ _ _ _ _ h=>h.elim
structure Fun(K:Frag)(x qual:Str)(st:Stmt)(f:Addr)(fd:FuncData):Prop where
 ex:∃(oc:Value)(od:Option Addr)(kV doc pm:Value)(an:Option Addr)(cdv ct:Value)(osl:AOz),
  fd=fnOf x qual (Bl st) (A5 st) (Ai st) .none kV doc pm an cdv ct/\K.lookup f=some ⟨oc,od,.func fd,osl⟩/\codeIn K cdv qual=true
 kp:keepIn K (.ref f)=true
section
variable{P:Program}{w:World}{K:Frag}{mg:MGz}{base:Heap}
theorem Fun.ok{x qual:Str}{st:Stmt}{f:Addr}{fd:FuncData}{N ps:LSz}{k:Nat}{sp:Sp}(F:Fun K x qual st f fd)(S:Ak N ps (Ai st))(len:∀vs H Q E,sp vs H Q E->vs.length=ps.length)
  (hbody:∀(cdv:Value)(A:Around)(outer:List Env)(s:Shared)(H:Hp)(vs:LUz)(Q:VK)(E:XK),Room k (A.deeper (envOfC qual (Ai st) s.heap.objs.size f cdv))->sp vs H Q E ->
   ∃t,PSs (Cs CX0 P w K mg base N qual (Ai st) f cdv A outer s H E).nox (A5 st) t/\t { nx:=λ_ H'=>Q .non H',rt:=Q } (start N vs) H):A2 P w K mg base CX0 (k+1) f fd ps sp:=by
 obtain⟨oc,od,kV,doc,pm,an,cdv,ct,osl,rfl,lk,hcd⟩:=F.ex;refine PB lk hcd S len λ A outer s H vs Q E hr hsp=>?_;obtain⟨t,h,q⟩:=hbody cdv A outer s H vs Q E hr hsp;exact⟨t,h.nox,q⟩
theorem Fun.binds{x qual:Str}{st:Stmt}{f:Addr}{fd:FuncData}{ps:LSz}(F:Fun K x qual st f fd)
  (h:∀(kV doc pm:Value)(an:Option Addr)(cdv ct:Value)(us:LWz),us.length=ps.length->bindArgs (fnOf x qual (Bl st) (A5 st) (Ai st) .none kV doc pm an cdv ct) ⟨us,[]⟩=pure (ps.zip us)):Binds K fd ps []:=by
 obtain⟨oc,od,kV,doc,pm,an,cdv,ct,osl,rfl,lk,hcd⟩:=F.ex;exact .all (h kV doc pm an cdv ct)
end
theorem D8{A:Around}{k:Nat}(hr:Room k A):A.units+1<cLine:=cS (Nat.add_le_add_left (by decide:1<=64) _) hr.units
theorem Al{n:Nat}(h:n<=1000):n<sizeLine:=cS h (by decide)
section
variable{X:Cx}
theorem pv(i:Nat){x:Str}{pos:Pos}(hN:X.N[i]?=some x:=by rfl)(hv:Vis X.env.scope x:=by first|exact ar rfl|exact di (ar rfl)|exact di (di rfl))(hd:(x==("__debug__":Str))=false:=by decide)
  (hcd:(x==("__classdict__":Str))=false:=by decide):PE X (.Name x pos) (SU i):=Se hN hv hd hcd
end
theorem Px{A B:Prop}(h:B):if false=true then A else B:=by
 rw[if_neg ao];exact h
theorem S1{A B:Prop}(h:A):if true=true then A else B:=by
 rw[if_pos rfl];exact h
def Same(H H':Hp):Prop:=∀b o,H b=some o->H' b=some o
theorem Same.refl(H:Hp):Same H H:=λ_ _ h=>h
theorem Same.trans{H H1 H2:Hp}(a:Same H H1)(b:Same H1 H2):Same H H2:=λ c o h=>b c o (a c o h)
theorem Same.free{H H':Hp}(e:Same H H'){l:Addr}(h:H' l=Option.none):H l=Option.none:=by
 cases q:H l with
 |none=>rfl
 |some o =>
  rw[e l o q]at h;cases h
theorem Same.seq{K:Frag}{H H':Hp}{a:Addr}{xs:LUz}(e:Same H H')(h:SqL K H a xs):SqL K H' a xs:=by
 rcases h with (h|⟨o,h⟩)|h
 .exact .inl (.inl (e _ _ h))
 .exact .inl (.inr ⟨o,e _ _ h⟩)
 .exact .inr h
end L2
set_option maxHeartbeats 4000000
namespace L2
open PySem.W
open PySem PyProof.Rows
def IT{α β:Type}(oS:Program->LSz->LSz->(Shared->Bool)->Bool->Shared->α)(ms:LSz)(p q:Program)(lo:LSz)(Xt:Shared->Bool)(Yf:Shared->β)(h0:Heap)(s:Shared):Bool×α×β :=
 ((((staticsOk ms h0 s.heap&&namesBound p s.heap)&&gensDone s)&&laidKept h0 s.heap),oS q lo ms Xt true s,Yf s)
noncomputable abbrev DE(P:Params)(os:OsState):Shared:=Shared.mk (boot_heap P) (Array.mk []) boot_drawn boot_toks os
theorem NJ{p q:Program}{lo:LSz}{Xt:Shared->Bool}{β:Type}{Yf:Shared->β}{Ya:World->β}{N m:Nat}{an:Option Value}
  (bo:∀w:World,Option.map (λ s=>(s.heap,s.gens,s.drawn,s.toks)) (fencedOpening treeTable p w N)=some (boot_heap w.params,Array.mk [],boot_drawn,boot_toks))
  (sz:∀w:World,((boot_heap w.params).isNs mainGlobals,(boot_heap w.params).objs.size,(boot_heap w.params).nsMap mainGlobals "__annotations__")=(true,m,an))
  (rn:∀(w:World)(os:OsState),Option.map (IT openSeen (importedModules p.main.body) p q lo Xt Yf (boot_heap w.params)) (topRun treeTable p w m an N (DE w.params os) (topStub p))=some (true,openGood q lo,Ya w)) :
  LeftO p q lo Xt Yf Ya N:=by
 intro w;obtain⟨s0,e0,e1⟩:=aZ.mp (bo w);obtain⟨hp,gs,dr,tk,os⟩:=s0;simp only[c8.injEq]at e1;obtain⟨rfl,rfl,rfl,rfl⟩:=e1;have z:=sz w;simp only[c8.injEq]at z;obtain⟨z1,z2,z3⟩:=z;obtain⟨s1,r1,r2⟩:=aZ.mp (rn w os);unfold IT at r2;simp only[c8.injEq]at r2;obtain⟨l1,l2,l3⟩:=r2;have tf:topFrom treeTable p w N (DE w.params os)=some s1:=by
  unfold topFrom;dsimp only;rw[z1,z2,z3];show Option.bind (topRun treeTable p w m an N (DE w.params os) (topStub p)) _=_;rw[r1];show(match (((staticsOk (importedModules p.main.body) (boot_heap w.params) s1.heap&&namesBound p s1.heap)&&gensDone s1)&&laidKept (boot_heap w.params) s1.heap) with|true=>some s1|false=>none)=_;rw[l1]
 unfold openEnds;rw[e0];show Option.map _ (topFrom treeTable p w N (DE w.params os))=_;rw[tf];exact congrArg some (cG l2 l3)
def Oz:List Obj->Nat->BT->BT
 |[],_,t=>t
 |o::r,i,t=>Oz r (i+1) (t.ins i o)
def BQ(ok:Thread->Bool)(stp:SharedT->Thread->Option (SharedT×Thread)):Nat->SharedT->Thread->Option SharedT
 |0,_,_=>none
 |n+1,s,t=>match through t with
  |true=>some s
  |false=>match ok t with
   |false=>none
   |true=>match stp s t with
    |some (s1,t1)=>BQ ok stp n s1 t1
    |none=>none
theorem G4{tb:String->Option Builtin}{p:Program}{w:World}{m:Nat}{an:Option Value}:∀{n:Nat}{s s1:SharedT}{t:Thread},BQ (stepOk m an) (stepT (denote tb) p w) n s t=some s1->topRun tb p w m an n s.abs t=some s1.abs
 |0,_,_,_,h=>by cases h
 |n+1,s,s1,t,h=>by
  rw[BQ]at h;rw[topRun];cases ht:through t with
  |true=>rw[ht]at h;cases h;rfl
  |false =>
   rw[ht]at h;cases hk:stepOk m an t with
   |false=>rw[hk]at h;cases h
   |true =>
    rw[hk]at h;cases hs:stepT (denote tb) p w s t with
    |none=>rw[hs]at h;cases h
    |some r =>
     obtain⟨s2,t2⟩:=r;rw[hs]at h;rw[stepT_spec hs];exact G4 h
noncomputable def TY(P:Params):BT:=Oz (boot_heap P).objs.toList 0 .nil
noncomputable def DO(P:Params)(os:OsState):SharedT:=SharedT.mk (TY P) 11 (boot_heap P).life (Array.mk []) boot_drawn boot_toks os
theorem PZ(P:Params)(os:OsState):(DO P os).abs=DE P os:=by kernel_rfl
theorem Sc{p q:Program}{lo ms:LSz}{Xt:Shared->Bool}{α β:Type}{Yf:Shared->β}{N m:Nat}{an:Option Value}{w:World}{os:OsState}{r:Bool×α×β}{oS:Program->LSz->LSz->(Shared->Bool)->Bool->Shared->α}
  (h:Option.map (λ s=>IT oS ms p q lo Xt Yf (boot_heap w.params) (SharedT.abs s)) (BQ (stepOk m an) (stepT (denote treeTable) p w) N (DO w.params os) (topStub p))=some r) :
  Option.map (IT oS ms p q lo Xt Yf (boot_heap w.params)) (topRun treeTable p w m an N (DE w.params os) (topStub p))=some r:=by
 obtain⟨s,e,z⟩:=aZ.mp h;have e:=G4 e;rw[PZ]at e;rw[e];exact congrArg some z
theorem TC{σ α β:Type}{r:Option σ}{f:σ->Bool}{g:σ->α}{k:σ->β}{a:α}{b:β}(h1:r.map f=some true)(h2:r.map g=some a)(h3:r.map k=some b):r.map (λ s=>(f s,g s,k s))=some (true,a,b):=by
 cases r with
 |none=>cases h1
 |some s =>
  have e1:=Option.some.inj h1;have e2:=Option.some.inj h2;have e3:=Option.some.inj h3;exact congrArg some (cG e1 (cG e2 e3))
def TB(ms:LSz)(p:Program)(h0:Heap)(s:Shared):Bool:=(((staticsOk ms h0 s.heap&&namesBound p s.heap)&&gensDone s)&&laidKept h0 s.heap)
def Ue(N m:Nat)(an:Option Value){p p':Program}{sT:(Code->Sem Fin)->Program->World->SharedT->Thread->Option (SharedT×Thread)}{dn:(String->Option Builtin)->Code->Sem Fin}{tT:String->Option Builtin}{iM:List Stmt->LSz}{oS:∀(q:Program)(lo ms:LSz)(Xt:Shared->Bool)(g0:Bool)(s:Shared),_}(h1:@stepT=sT)(h0:@denote=dn)(h2:treeTable=tT)(h3:@importedModules=iM)(h4:@openSeen=oS)(h5:p=p'):Prop:=∀(w:World)(os:OsState),Option.map (λ s=>TB (iM p'.main.body) p' (boot_heap w.params) (SharedT.abs s)) (BQ (stepOk m an) (sT (dn tT) p' w) N (DO w.params os) (topStub p'))=some true
def RunB(N m:Nat)(an:Option Value)(q:Program->Program)(lo:LSz)(Xt:Program->Shared->Bool){p p':Program}{sT:(Code->Sem Fin)->Program->World->SharedT->Thread->Option (SharedT×Thread)}{dn:(String->Option Builtin)->Code->Sem Fin}{tT:String->Option Builtin}{iM:List Stmt->LSz}{oS:∀(q:Program)(lo ms:LSz)(Xt:Shared->Bool)(g0:Bool)(s:Shared),_}(h1:@stepT=sT)(h0:@denote=dn)(h2:treeTable=tT)(h3:@importedModules=iM)(h4:@openSeen=oS)(h5:p=p'):Prop:=∀(w:World)(os:OsState),Option.map (λ s=>oS (q p') lo (iM p'.main.body) (Xt p') true (SharedT.abs s)) (BQ (stepOk m an) (sT (dn tT) p' w) N (DO w.params os) (topStub p'))=some (openGood (q p') lo)
def Ud(N m:Nat)(an:Option Value){β:Type}(Yf:Shared->β)(Ya:World->β){p p':Program}{sT:(Code->Sem Fin)->Program->World->SharedT->Thread->Option (SharedT×Thread)}{dn:(String->Option Builtin)->Code->Sem Fin}{tT:String->Option Builtin}{iM:List Stmt->LSz}{oS:∀(q:Program)(lo ms:LSz)(Xt:Shared->Bool)(g0:Bool)(s:Shared),_}(h1:@stepT=sT)(h0:@denote=dn)(h2:treeTable=tT)(h3:@importedModules=iM)(h4:@openSeen=oS)(h5:p=p'):Prop:=∀(w:World)(os:OsState),Option.map (λ s=>Yf (SharedT.abs s)) (BQ (stepOk m an) (sT (dn tT) p' w) N (DO w.params os) (topStub p'))=some (Ya w)
theorem Q6{q:Program->Program}{lo:LSz}{Xt:Program->Shared->Bool}{β:Type}{Yf:Shared->β}{Ya:World->β}{N m:Nat}{an:Option Value}{p p':Program}{sT:(Code->Sem Fin)->Program->World->SharedT->Thread->Option (SharedT×Thread)}{dn:(String->Option Builtin)->Code->Sem Fin}{tT:String->Option Builtin}{iM:List Stmt->LSz}{oS:∀(q:Program)(lo ms:LSz)(Xt:Shared->Bool)(g0:Bool)(s:Shared),_}{h1:@stepT=sT}{h0:@denote=dn}{h2:treeTable=tT}{h3:@importedModules=iM}{h4:@openSeen=oS}{h5:p=p'}
  (rA:Ue N m an h1 h0 h2 h3 h4 h5) (rB:RunB N m an q lo Xt h1 h0 h2 h3 h4 h5) (rC:Ud N m an Yf Ya h1 h0 h2 h3 h4 h5) :
  ∀(w:World)(os:OsState),Option.map (IT openSeen (importedModules p.main.body) p (q p) lo (Xt p) Yf (boot_heap w.params)) (topRun treeTable p w m an N (DE w.params os) (topStub p))=some (true,openGood (q p) lo,Ya w):=by
 subst h1 h0 h2 h3 h4 h5;exact λ w os=>Sc (TC (rA w os) (rB w os) (rC w os))
open PySem.Spec
def hookT(K:Hook)(Ts:List Addr):Hook :=
 ⟨K.α×List (Option Obj),λ s=>(K.obs s,Ts.map λ T=>s.heap.get? T),λ w=>(K.val w,Ts.map λ_=>some (tabObj #[])),λ w h=>K.says w h/\∀T∈Ts,h.get? T=some (tabObj #[]),
  λ w s e=>⟨K.of w s (c8.inj e).1,λ T hT=>by
   have e2:=(c8.inj e).2;have:=List.map_eq_map_iff.mp e2 T hT;exact this⟩,λ w h h' x k=>⟨K.keeps w h h' x.1 k,λ T hT=>k _ _ (x.2 T hT)⟩⟩
def I9{β:Type _}(N m:Nat)(an:Option Value)(q:Program->Program)(lo:LSz)(Xt:Program->Shared->Bool)(g:type_of% (openGood (q default) lo)->β)(b:Program->β){p p':Program}{sT:(Code->Sem Fin)->Program->World->SharedT->Thread->Option (SharedT×Thread)}{dn:(String->Option Builtin)->Code->Sem Fin}{tT:String->Option Builtin}{iM:List Stmt->LSz}{oS:∀(q:Program)(lo ms:LSz)(Xt:Shared->Bool)(g0:Bool)(s:Shared),_}(h1:@stepT=sT)(h0:@denote=dn)(h2:treeTable=tT)(h3:@importedModules=iM)(h4:@openSeen=oS)(h5:p=p'):Prop:=∀(w:World)(os:OsState),Option.map (λ s=>g (oS (q p') lo (iM p'.main.body) (Xt p') true (SharedT.abs s))) (BQ (stepOk m an) (sT (dn tT) p' w) N (DO w.params os) (topStub p'))=some (b (q p'))
theorem RunB.of5{N m:Nat}{an:Option Value}{q:Program->Program}{lo:LSz}{Xt:Program->Shared->Bool}{p p':Program}{sT:(Code->Sem Fin)->Program->World->SharedT->Thread->Option (SharedT×Thread)}{dn:(String->Option Builtin)->Code->Sem Fin}{tT:String->Option Builtin}{iM:List Stmt->LSz}{oS:∀(q:Program)(lo ms:LSz)(Xt:Shared->Bool)(g0:Bool)(s:Shared),_}{h1:@stepT=sT}{h0:@denote=dn}{h2:treeTable=tT}{h3:@importedModules=iM}{h4:@openSeen=oS}{h5:p=p'}(r1:I9 N m an q lo Xt (λ x=>x.1) (expectedOf) h1 h0 h2 h3 h4 h5)(r2:I9 N m an q lo Xt (λ x=>(x.2.1,x.2.2.1)) (λ_=>(bltViewBooted,true)) h1 h0 h2 h3 h4 h5)(r3:I9 N m an q lo Xt (λ x=>(x.2.2.2.1,x.2.2.2.2.1)) (λ q=>(true,pinGoodD (drecsOf q))) h1 h0 h2 h3 h4 h5)(r4:I9 N m an q lo Xt (λ x=>(x.2.2.2.2.2.1,x.2.2.2.2.2.2.1)) (λ q=>(plainGoodE q (looseW q lo),plainGoodD q lo)) h1 h0 h2 h3 h4 h5)(r5:I9 N m an q lo Xt (λ x=>x.2.2.2.2.2.2.2) (λ q=>(wideGood q,clsGoodW q lo)) h1 h0 h2 h3 h4 h5):RunB N m an q lo Xt h1 h0 h2 h3 h4 h5:=λ w os=>by
 have e1:=r1 w os;have e2:=r2 w os;have e3:=r3 w os;have e4:=r4 w os;have e5:=r5 w os;show Option.map _ _=_;generalize BQ _ _ _ _ _=r at e1 e2 e3 e4 e5 |-;cases r with
 |none=>cases e1
 |some s =>
  have e1:=Option.some.inj e1;have e2:=c8.inj (Option.some.inj e2);have e3:=c8.inj (Option.some.inj e3);have e4:=c8.inj (Option.some.inj e4);have e5:=Option.some.inj e5;exact congrArg some (cG e1 (cG e2.1 (cG e2.2 (cG e3.1 (cG e3.2 (cG e4.1 (cG e4.2 e5)))))))
end L2
namespace KH
open PySem.W
open PySem PyProof.Rows L2
noncomputable def top(i:Nat):Stmt:=PySem.Challenge.pw_glazebench_k44_whole_all_panels_of_a_siz.main.body.getD i (.Pass ⟨0,0,0,0⟩)
noncomputable def kE(P:Params)(x:Str)(t:Tok)(v:Value):DictEntry:=⟨PyData.keyHash P x,.str x t,v⟩
noncomputable abbrev fo(a b:Str)(e:Stmt)(d m:Value)(c:Addr):Obj:=⟨(.type "function"),none,(.func (fnOf a b (Bl e) (A5 e) (Ai e) d .none .none m none (.ref c) .none)),#[]⟩
noncomputable abbrev cp(a b:Str)(t u v:Tok)(l n:Int)(r:Addr)(i:Int)(p:Addr)(q x y:Value)(j k:Int)(z:Tok):Obj:=⟨(.type "code"),none,(.fields #[(.str a t),(.str b u),(.str "/claim/cut.py" v),(.int l 0),(.int n 0),(.int (0) 0),(.int (0) 0),(.int (3) 0),(.ref r),(.bool true),(.int i 0),(.ref p),.none,q,x,y,(.int j 0),(.int k 0),(.str "/claim/cut.py" z)]),#[]⟩
noncomputable abbrev co(a b:Str)(t u v:Tok)(l n:Int)(r:Addr)(i:Int)(p q x y:Addr)(j k:Int)(z:Tok):Obj:=⟨(.type "code"),none,(.fields #[(.str a t),(.str b u),(.str "/claim/cut.py" v),(.int l 0),(.int n 0),(.int (0) 0),(.int (0) 0),(.int (3) 0),(.ref r),(.bool true),(.int i 0),(.ref p),.none,(.ref q),(.ref x),(.ref y),(.int j 0),(.int k 0),(.str "/claim/cut.py" z)]),#[]⟩
noncomputable def KK:Params->Frag:=λ P=>(nat_lit 2,⟨.none,none,(.dict #[] 0),#[]⟩)::(nat_lit 3,⟨(.type "dict"),none,(.dict #[kE P "__name__" 165 (.str "law_glazebench_k44_whole_all_panels_of_a_siz" 1184),kE P "__doc__" 166 .none,kE P "__package__" 167 .none,kE P "__loader__" 168 (.builtin "__main__.__loader__#opaque"),kE P "__spec__" 169 .none,kE P "__annotations__" 170 (.ref 6),kE P "__builtins__" 171 (.ref 4),kE P "__file__" 173 (.str "/claim/cut.py" 172),kE P "__cached__" 174 .none,kE P "_wall" 193 (.ref 21),kE P "GlassError" 213 (.ref 31),kE P "NoSide" 238 (.ref 51),kE P "TooMany" 263 (.ref 70),kE P "NoPane" 288 (.ref 89),kE P "Overlap" 313 (.ref 108),kE P "Bare" 338 (.ref 127),kE P "NoBlock" 363 (.ref 146),kE P "Stuck" 392 (.ref 165),kE P "NoNumber" 417 (.ref 184),kE P "LONGEST_SIDE" 421 (.int (12) 420),kE P "MOST_PANES" 423 (.int (52) 422),kE P "is_whole" 430 (.ref 193),kE P "is_side" 437 (.ref 200),kE P "is_rectangle" 443 (.ref 205),kE P "inside" 452 (.ref 212),kE P "squares_of" 462 (.ref 219),kE P "check_sides" 471 (.ref 226),kE P "check_panes" 481 (.ref 233),kE P "panes_by_square" 492 (.ref 240),kE P "check_covered" 501 (.ref 247),kE P "Panel" 554 (.ref 283),kE P "TOP" 558 (.int (0) 557),kE P "LEFT" 560 (.int (1) 559),kE P "apart" 569 (.ref 294),kE P "is_block" 575 (.ref 299),kE P "check_block" 583 (.ref 306),kE P "panes_in" 589 (.ref 311),kE P "line_breaks" 598 (.ref 318),kE P "goes_through" 604 (.ref 323),kE P "lines_through" 610 (.ref 328),kE P "LONGEST_COUNTED" 614 (.int (4) 613),kE P "check_counted" 623 (.ref 335),kE P "ways_to_part" 629 (.ref 340),kE P "count_of_grid" 641 (.ref 347),kE P "count_by_smaller" 654 (.ref 354),kE P "count" 665 (.ref 361),kE P "WHOLE" 669 (.str "whole" 668),kE P "UPRIGHT_cuts" 671 (.str "upright" 670),kE P "LEVEL_cuts" 673 (.str "level" 672),kE P "Tree" 730 (.ref 404),kE P "Whole" 755 (.ref 426),kE P "Upright" 784 (.ref 445),kE P "Level" 813 (.ref 464),kE P "kind_of" 820 (.ref 473),kE P "entry_of" 828 (.ref 480),kE P "entries_of" 838 (.ref 487),kE P "cut_from" 848 (.ref 494),kE P "tree_from" 860 (.ref 501),kE P "entries_by" 872 (.ref 508),kE P "first_piece" 881 (.ref 515),kE P "other_piece" 890 (.ref 522),kE P "LEVEL_leads" 894 (.str "level" 893),kE P "UPRIGHT_leads" 896 (.str "upright" 895),kE P "runs" 906 (.ref 529),kE P "columns_parted" 912 (.ref 534),kE P "rows_parted" 918 (.ref 539),kE P "level_leads" 930 (.ref 546),kE P "upright_leads" 936 (.ref 551),kE P "leads" 945 (.ref 558),kE P "lies_on" 953 (.ref 565),kE P "turn" 959 (.ref 570),kE P "ROOM" 963 (.str "room" 962),kE P "entry_for" 969 (.ref 575),kE P "cut_up" 978 (.ref 582),kE P "pane_broken" 984 (.ref 587),kE P "breaks_of" 997 (.ref 594),kE P "one_longer" 1008 (.ref 601),kE P "four_that_turn" 1014 (.ref 606),kE P "tree_of" 1020 (.ref 611),kE P "all_lines" 1029 (.ref 618),kE P "parts_between" 1039 (.ref 625),kE P "in_common" 1053 (.ref 632),kE P "rows_by_lines" 1064 (.ref 639),kE P "rows_without" 1070 (.ref 644),kE P "strips_of_size" 1082 (.ref 651),kE P "all_strips" 1088 (.ref 656),kE P "rows_before" 1094 (.ref 661),kE P "row_by" 1100 (.ref 666),kE P "strip_by" 1110 (.ref 673),kE P "panes_by" 1122 (.ref 680),kE P "panel_by" 1132 (.ref 687),kE P "lines_of" 1138 (.ref 692),kE P "strip_at" 1144 (.ref 697),kE P "number_in_rows" 1162 (.ref 704),kE P "number_in_strips" 1172 (.ref 711),kE P "number_of" 1183 (.ref 718),kE P "_law_at" 1194 (.ref 725),kE P "_law_knead" 1205 (.ref 732),kE P "_law_mask" 1216 (.ref 739),kE P "_law_tilings" 1234 (.ref 746),kE P "_law_cuttable" 1240 (.ref 751),kE P "law" 1255 (.ref 758)] 102),#[]⟩)::(nat_lit 20,co "_wall" "_wall" 187 188 189 1 1 15 181 16 17 18 19 191 1 192)::(nat_lit 21,fo "_wall" "_wall" (top 0) .none (.str "__main__" 164) 20)::(nat_lit 30,⟨(.type "dict"),none,(.dict #[kE P "__module__" 203 (.str "glazebench.errors" 194),kE P "__firstlineno__" 207 (.int (5) 206),kE P "__static_attributes__" 208 (.ref 29),kE P "__weakref__" 210 (.ref 32),kE P "__doc__" 211 .none] 3),#[]⟩)::(nat_lit 31,⟨(.type "type"),none,(.cls { name:="GlassError",bases:=[(.type "ValueError")],mro:=[(.ref 31),(.type "ValueError"),(.type "Exception"),(.type "BaseException"),(.type "object")],ns:=30,qualname:="GlassError",hasDict:=true,slotNames:=[],subclasses:=[(.ref 51),(.ref 70),(.ref 89),(.ref 108),(.ref 127),(.ref 146),(.ref 165),(.ref 184)],abstract:=false,collection:=none,hasDel:=false }),#[some (.ref 22),none,some (.str "GlassError" 196),some (.str "GlassError" 204),some (.builtin "ValueError.__new__"),some (.bool true)]⟩)::(nat_lit 32,⟨(.type "getset_descriptor"),none,(.fields #[(.str "__weakref__" 209),(.ref 31),(.builtin "ExceptionGroup.__weakref__"),.none]),#[]⟩)::(nat_lit 47,co "__init__" "NoSide.__init__" 226 227 228 9 2 42 181 43 44 45 46 231 9 232)::(nat_lit 48,fo "__init__" "NoSide.__init__" (AC (top 3) 0) .none (.str "glazebench.errors" 194) 47)::(nat_lit 50,⟨(.type "dict"),none,(.dict #[kE P "__module__" 221 (.str "glazebench.errors" 194),kE P "__firstlineno__" 225 (.int (7) 224),kE P "__init__" 233 (.ref 48),kE P "__static_attributes__" 235 (.ref 49),kE P "__doc__" 236 .none] 2),#[]⟩)::(nat_lit 51,⟨(.type "type"),none,(.cls { name:="NoSide",bases:=[(.ref 31)],mro:=[(.ref 51),(.ref 31),(.type "ValueError"),(.type "Exception"),(.type "BaseException"),(.type "object")],ns:=50,qualname:="NoSide",hasDict:=true,slotNames:=[],subclasses:=[],abstract:=false,collection:=none,hasDel:=false }),#[some (.ref 35),none,some (.str "NoSide" 214),some (.str "NoSide" 222),some (.builtin "ValueError.__new__"),some (.bool true)]⟩)::(nat_lit 66,co "__init__" "TooMany.__init__" 251 252 253 13 2 61 181 62 63 64 65 256 13 257)::(nat_lit 67,fo "__init__" "TooMany.__init__" (AC (top 4) 0) .none (.str "glazebench.errors" 194) 66)::(nat_lit 69,⟨(.type "dict"),none,(.dict #[kE P "__module__" 246 (.str "glazebench.errors" 194),kE P "__firstlineno__" 250 (.int (11) 249),kE P "__init__" 258 (.ref 67),kE P "__static_attributes__" 260 (.ref 68),kE P "__doc__" 261 .none] 2),#[]⟩)::(nat_lit 70,⟨(.type "type"),none,(.cls { name:="TooMany",bases:=[(.ref 31)],mro:=[(.ref 70),(.ref 31),(.type "ValueError"),(.type "Exception"),(.type "BaseException"),(.type "object")],ns:=69,qualname:="TooMany",hasDict:=true,slotNames:=[],subclasses:=[],abstract:=false,collection:=none,hasDel:=false }),#[some (.ref 54),none,some (.str "TooMany" 239),some (.str "TooMany" 247),some (.builtin "ValueError.__new__"),some (.bool true)]⟩)::(nat_lit 85,co "__init__" "NoPane.__init__" 276 277 278 17 2 80 181 81 82 83 84 281 17 282)::(nat_lit 86,fo "__init__" "NoPane.__init__" (AC (top 5) 0) .none (.str "glazebench.errors" 194) 85)::(nat_lit 88,⟨(.type "dict"),none,(.dict #[kE P "__module__" 271 (.str "glazebench.errors" 194),kE P "__firstlineno__" 275 (.int (15) 274),kE P "__init__" 283 (.ref 86),kE P "__static_attributes__" 285 (.ref 87),kE P "__doc__" 286 .none] 2),#[]⟩)::(nat_lit 89,⟨(.type "type"),none,(.cls { name:="NoPane",bases:=[(.ref 31)],mro:=[(.ref 89),(.ref 31),(.type "ValueError"),(.type "Exception"),(.type "BaseException"),(.type "object")],ns:=88,qualname:="NoPane",hasDict:=true,slotNames:=[],subclasses:=[],abstract:=false,collection:=none,hasDel:=false }),#[some (.ref 73),none,some (.str "NoPane" 264),some (.str "NoPane" 272),some (.builtin "ValueError.__new__"),some (.bool true)]⟩)::(nat_lit 104,co "__init__" "Overlap.__init__" 301 302 303 21 2 99 181 100 101 102 103 306 21 307)::(nat_lit 105,fo "__init__" "Overlap.__init__" (AC (top 6) 0) .none (.str "glazebench.errors" 194) 104)::(nat_lit 107,⟨(.type "dict"),none,(.dict #[kE P "__module__" 296 (.str "glazebench.errors" 194),kE P "__firstlineno__" 300 (.int (19) 299),kE P "__init__" 308 (.ref 105),kE P "__static_attributes__" 310 (.ref 106),kE P "__doc__" 311 .none] 2),#[]⟩)::(nat_lit 108,⟨(.type "type"),none,(.cls { name:="Overlap",bases:=[(.ref 31)],mro:=[(.ref 108),(.ref 31),(.type "ValueError"),(.type "Exception"),(.type "BaseException"),(.type "object")],ns:=107,qualname:="Overlap",hasDict:=true,slotNames:=[],subclasses:=[],abstract:=false,collection:=none,hasDel:=false }),#[some (.ref 92),none,some (.str "Overlap" 289),some (.str "Overlap" 297),some (.builtin "ValueError.__new__"),some (.bool true)]⟩)::(nat_lit 123,co "__init__" "Bare.__init__" 326 327 328 25 2 118 181 119 120 121 122 331 25 332)::(nat_lit 124,fo "__init__" "Bare.__init__" (AC (top 7) 0) .none (.str "glazebench.errors" 194) 123)::(nat_lit 126,⟨(.type "dict"),none,(.dict #[kE P "__module__" 321 (.str "glazebench.errors" 194),kE P "__firstlineno__" 325 (.int (23) 324),kE P "__init__" 333 (.ref 124),kE P "__static_attributes__" 335 (.ref 125),kE P "__doc__" 336 .none] 2),#[]⟩)::(nat_lit 127,⟨(.type "type"),none,(.cls { name:="Bare",bases:=[(.ref 31)],mro:=[(.ref 127),(.ref 31),(.type "ValueError"),(.type "Exception"),(.type "BaseException"),(.type "object")],ns:=126,qualname:="Bare",hasDict:=true,slotNames:=[],subclasses:=[],abstract:=false,collection:=none,hasDel:=false }),#[some (.ref 111),none,some (.str "Bare" 314),some (.str "Bare" 322),some (.builtin "ValueError.__new__"),some (.bool true)]⟩)::(nat_lit 142,co "__init__" "NoBlock.__init__" 351 352 353 29 2 137 181 138 139 140 141 356 29 357)::(nat_lit 143,fo "__init__" "NoBlock.__init__" (AC (top 8) 0) .none (.str "glazebench.errors" 194) 142)::(nat_lit 145,⟨(.type "dict"),none,(.dict #[kE P "__module__" 346 (.str "glazebench.errors" 194),kE P "__firstlineno__" 350 (.int (27) 349),kE P "__init__" 358 (.ref 143),kE P "__static_attributes__" 360 (.ref 144),kE P "__doc__" 361 .none] 2),#[]⟩)::(nat_lit 146,⟨(.type "type"),none,(.cls { name:="NoBlock",bases:=[(.ref 31)],mro:=[(.ref 146),(.ref 31),(.type "ValueError"),(.type "Exception"),(.type "BaseException"),(.type "object")],ns:=145,qualname:="NoBlock",hasDict:=true,slotNames:=[],subclasses:=[],abstract:=false,collection:=none,hasDel:=false }),#[some (.ref 130),none,some (.str "NoBlock" 339),some (.str "NoBlock" 347),some (.builtin "ValueError.__new__"),some (.bool true)]⟩)::(nat_lit 161,co "__init__" "Stuck.__init__" 376 377 378 33 4 156 181 157 158 159 160 383 33 384)::(nat_lit 162,fo "__init__" "Stuck.__init__" (AC (top 9) 0) .none (.str "glazebench.errors" 194) 161)::(nat_lit 164,⟨(.type "dict"),none,(.dict #[kE P "__module__" 371 (.str "glazebench.errors" 194),kE P "__firstlineno__" 375 (.int (31) 374),kE P "__init__" 385 (.ref 162),kE P "__static_attributes__" 389 (.ref 163),kE P "__doc__" 390 .none] 2),#[]⟩)::(nat_lit 165,⟨(.type "type"),none,(.cls { name:="Stuck",bases:=[(.ref 31)],mro:=[(.ref 165),(.ref 31),(.type "ValueError"),(.type "Exception"),(.type "BaseException"),(.type "object")],ns:=164,qualname:="Stuck",hasDict:=true,slotNames:=[],subclasses:=[],abstract:=false,collection:=none,hasDel:=false }),#[some (.ref 149),none,some (.str "Stuck" 364),some (.str "Stuck" 372),some (.builtin "ValueError.__new__"),some (.bool true)]⟩)::(nat_lit 180,co "__init__" "NoNumber.__init__" 405 406 407 39 2 175 181 176 177 178 179 410 39 411)::(nat_lit 181,fo "__init__" "NoNumber.__init__" (AC (top 10) 0) .none (.str "glazebench.errors" 194) 180)::(nat_lit 183,⟨(.type "dict"),none,(.dict #[kE P "__module__" 400 (.str "glazebench.errors" 194),kE P "__firstlineno__" 404 (.int (37) 403),kE P "__init__" 412 (.ref 181),kE P "__static_attributes__" 414 (.ref 182),kE P "__doc__" 415 .none] 2),#[]⟩)::(nat_lit 184,⟨(.type "type"),none,(.cls { name:="NoNumber",bases:=[(.ref 31)],mro:=[(.ref 184),(.ref 31),(.type "ValueError"),(.type "Exception"),(.type "BaseException"),(.type "object")],ns:=183,qualname:="NoNumber",hasDict:=true,slotNames:=[],subclasses:=[],abstract:=false,collection:=none,hasDel:=false }),#[some (.ref 168),none,some (.str "NoNumber" 393),some (.str "NoNumber" 401),some (.builtin "ValueError.__new__"),some (.bool true)]⟩)::(nat_lit 192,co "is_whole" "is_whole" 424 425 426 44 1 187 181 188 189 190 191 428 44 429)::(nat_lit 193,fo "is_whole" "is_whole" (top 14) .none (.str "glazebench.panels" 418) 192)::(nat_lit 199,co "is_side" "is_side" 431 432 433 46 1 194 181 195 196 197 198 435 46 436)::(nat_lit 200,fo "is_side" "is_side" (top 15) .none (.str "glazebench.panels" 418) 199)::(nat_lit 204,cp "is_rectangle" "is_rectangle" 438 439 440 48 1 201 181 202 .none .none (.ref 203) 441 48 442)::(nat_lit 205,fo "is_rectangle" "is_rectangle" (top 16) .none (.str "glazebench.panels" 418) 204)::(nat_lit 211,co "inside" "inside" 444 445 446 54 2 206 181 207 208 209 210 450 54 451)::(nat_lit 212,fo "inside" "inside" (top 17) .none (.str "glazebench.panels" 418) 211)::(nat_lit 218,co "squares_of" "squares_of" 453 454 455 57 1 213 181 214 215 216 217 460 57 461)::(nat_lit 219,fo "squares_of" "squares_of" (top 18) .none (.str "glazebench.panels" 418) 218)::(nat_lit 225,co "check_sides" "check_sides" 463 464 465 63 2 220 181 221 222 223 224 469 63 470)::(nat_lit 226,fo "check_sides" "check_sides" (top 19) .none (.str "glazebench.panels" 418) 225)::(nat_lit 232,co "check_panes" "check_panes" 472 473 474 67 2 227 181 228 229 230 231 479 67 480)::(nat_lit 233,fo "check_panes" "check_panes" (top 20) .none (.str "glazebench.panels" 418) 232)::(nat_lit 239,co "panes_by_square" "panes_by_square" 482 483 484 73 1 234 181 235 236 237 238 490 73 491)::(nat_lit 240,fo "panes_by_square" "panes_by_square" (top 21) .none (.str "glazebench.panels" 418) 239)::(nat_lit 246,co "check_covered" "check_covered" 493 494 495 81 2 241 181 242 243 244 245 499 81 500)::(nat_lit 247,fo "check_covered" "check_covered" (top 22) .none (.str "glazebench.panels" 418) 246)::(nat_lit 258,cp "__init__" "Panel.__init__" 514 515 516 87 4 255 181 256 .none .none (.ref 257) 517 87 518)::(nat_lit 259,fo "__init__" "Panel.__init__" (AC (top 23) 0) .none (.str "glazebench.panels" 418) 258)::(nat_lit 265,co "panes" "Panel.panes" 520 521 522 99 1 260 181 261 262 263 264 524 99 525)::(nat_lit 266,fo "panes" "Panel.panes" (AC (top 23) 1) .none (.str "glazebench.panels" 418) 265)::(nat_lit 272,co "pane_at" "Panel.pane_at" 527 528 529 102 3 267 181 268 269 270 271 533 102 534)::(nat_lit 273,fo "pane_at" "Panel.pane_at" (AC (top 23) 2) .none (.str "glazebench.panels" 418) 272)::(nat_lit 279,co "turned" "Panel.turned" 536 537 538 105 1 274 181 275 276 277 278 540 105 541)::(nat_lit 280,fo "turned" "Panel.turned" (AC (top 23) 3) .none (.str "glazebench.panels" 418) 279)::(nat_lit 282,⟨(.type "dict"),none,(.dict #[kE P "__module__" 509 (.str "glazebench.panels" 418),kE P "__firstlineno__" 513 (.int (85) 512),kE P "__init__" 519 (.ref 259),kE P "panes" 526 (.ref 266),kE P "pane_at" 535 (.ref 273),kE P "turned" 542 (.ref 280),kE P "__static_attributes__" 547 (.ref 281),kE P "__dict__" 549 (.ref 284),kE P "__weakref__" 551 (.ref 285),kE P "__doc__" 552 .none] 4),#[]⟩)::(nat_lit 283,⟨(.type "type"),none,(.cls { name:="Panel",bases:=[(.type "object")],mro:=[(.ref 283),(.type "object")],ns:=282,qualname:="Panel",hasDict:=true,slotNames:=[],subclasses:=[],abstract:=false,collection:=none,hasDel:=false }),#[none,none,some (.str "Panel" 502),some (.str "Panel" 510),some (.builtin "object.__new__"),some (.bool true)]⟩)::(nat_lit 284,⟨(.type "getset_descriptor"),none,(.fields #[(.str "__dict__" 548),(.ref 283),(.builtin "function.__dict__"),(.builtin "function.__dict__#set")]),#[]⟩)::(nat_lit 285,⟨(.type "getset_descriptor"),none,(.fields #[(.str "__weakref__" 550),(.ref 283),(.builtin "ExceptionGroup.__weakref__"),.none]),#[]⟩)::(nat_lit 293,co "apart" "apart" 561 562 563 110 2 288 181 289 290 291 292 567 110 568)::(nat_lit 294,fo "apart" "apart" (top 27) .none (.str "glazebench.blocks" 555) 293)::(nat_lit 298,cp "is_block" "is_block" 570 571 572 113 2 295 181 296 .none .none (.ref 297) 573 113 574)::(nat_lit 299,fo "is_block" "is_block" (top 28) .none (.str "glazebench.blocks" 555) 298)::(nat_lit 305,co "check_block" "check_block" 576 577 578 117 2 300 181 301 302 303 304 581 117 582)::(nat_lit 306,fo "check_block" "check_block" (top 29) .none (.str "glazebench.blocks" 555) 305)::(nat_lit 310,cp "panes_in" "panes_in" 584 585 586 120 2 307 181 308 .none .none (.ref 309) 587 120 588)::(nat_lit 311,fo "panes_in" "panes_in" (top 30) .none (.str "glazebench.blocks" 555) 310)::(nat_lit 317,co "line_breaks" "line_breaks" 590 591 592 123 3 312 181 313 314 315 316 596 123 597)::(nat_lit 318,fo "line_breaks" "line_breaks" (top 31) .none (.str "glazebench.blocks" 555) 317)::(nat_lit 322,cp "goes_through" "goes_through" 599 600 601 125 3 319 181 320 .none .none (.ref 321) 602 125 603)::(nat_lit 323,fo "goes_through" "goes_through" (top 32) .none (.str "glazebench.blocks" 555) 322)::(nat_lit 327,cp "lines_through" "lines_through" 605 606 607 127 3 324 181 325 .none .none (.ref 326) 608 127 609)::(nat_lit 328,fo "lines_through" "lines_through" (top 33) .none (.str "glazebench.blocks" 555) 327)::(nat_lit 334,co "check_counted" "check_counted" 615 616 617 131 2 329 181 330 331 332 333 621 131 622)::(nat_lit 335,fo "check_counted" "check_counted" (top 36) .none (.str "glazebench.counts" 611) 334)::(nat_lit 339,cp "ways_to_part" "ways_to_part" 624 625 626 135 1 336 181 337 .none .none (.ref 338) 627 135 628)::(nat_lit 340,fo "ways_to_part" "ways_to_part" (top 37) .none (.str "glazebench.counts" 611) 339)::(nat_lit 346,co "count_of_grid" "count_of_grid" 630 631 632 141 3 341 181 342 343 344 345 639 141 640)::(nat_lit 347,fo "count_of_grid" "count_of_grid" (top 38) .none (.str "glazebench.counts" 611) 346)::(nat_lit 353,co "count_by_smaller" "count_by_smaller" 642 643 644 147 3 348 181 349 350 351 352 652 147 653)::(nat_lit 354,fo "count_by_smaller" "count_by_smaller" (top 39) .none (.str "glazebench.counts" 611) 353)::(nat_lit 360,co "count" "count" 655 656 657 157 2 355 181 356 357 358 359 663 157 664)::(nat_lit 361,fo "count" "count" (top 40) .none (.str "glazebench.counts" 611) 360)::(nat_lit 372,cp "leaves" "Tree.leaves" 686 687 688 170 1 369 181 370 .none .none (.ref 371) 689 170 690)::(nat_lit 373,fo "leaves" "Tree.leaves" (AC (top 45) 0) .none (.str "glazebench.cuts" 666) 372)::(nat_lit 379,co "depth" "Tree.depth" 692 693 694 173 1 374 181 375 376 377 378 696 173 697)::(nat_lit 380,fo "depth" "Tree.depth" (AC (top 45) 1) .none (.str "glazebench.cuts" 666) 379)::(nat_lit 386,co "turned" "Tree.turned" 699 700 701 176 1 381 181 382 383 384 385 703 176 704)::(nat_lit 387,fo "turned" "Tree.turned" (AC (top 45) 2) .none (.str "glazebench.cuts" 666) 386)::(nat_lit 393,co "fits" "Tree.fits" 706 707 708 179 3 388 181 389 390 391 392 712 179 713)::(nat_lit 394,fo "fits" "Tree.fits" (AC (top 45) 3) .none (.str "glazebench.cuts" 666) 393)::(nat_lit 400,co "same" "Tree.same" 715 716 717 182 2 395 181 396 397 398 399 720 182 721)::(nat_lit 401,fo "same" "Tree.same" (AC (top 45) 4) .none (.str "glazebench.cuts" 666) 400)::(nat_lit 403,⟨(.type "dict"),none,(.dict #[kE P "__module__" 681 (.str "glazebench.cuts" 666),kE P "__firstlineno__" 685 (.int (168) 684),kE P "leaves" 691 (.ref 373),kE P "depth" 698 (.ref 380),kE P "turned" 705 (.ref 387),kE P "fits" 714 (.ref 394),kE P "same" 722 (.ref 401),kE P "__static_attributes__" 723 (.ref 402),kE P "__dict__" 725 (.ref 405),kE P "__weakref__" 727 (.ref 406),kE P "__doc__" 728 .none] 4),#[]⟩)::(nat_lit 404,⟨(.type "type"),none,(.cls { name:="Tree",bases:=[(.type "object")],mro:=[(.ref 404),(.type "object")],ns:=403,qualname:="Tree",hasDict:=true,slotNames:=[],subclasses:=[(.ref 426),(.ref 445),(.ref 464)],abstract:=false,collection:=none,hasDel:=false }),#[none,none,some (.str "Tree" 674),some (.str "Tree" 682),some (.builtin "object.__new__"),some (.bool true)]⟩)::(nat_lit 405,⟨(.type "getset_descriptor"),none,(.fields #[(.str "__dict__" 724),(.ref 404),(.builtin "function.__dict__"),(.builtin "function.__dict__#set")]),#[]⟩)::(nat_lit 406,⟨(.type "getset_descriptor"),none,(.fields #[(.str "__weakref__" 726),(.ref 404),(.builtin "ExceptionGroup.__weakref__"),.none]),#[]⟩)::(nat_lit 416,⟨(.type "tuple"),none,(.seq #[.none] 0),#[]⟩)::(nat_lit 422,co "__init__" "Whole.__init__" 743 744 745 186 2 417 181 418 419 420 421 748 186 749)::(nat_lit 423,fo "__init__" "Whole.__init__" (AC (top 46) 0) (.ref 416) (.str "glazebench.cuts" 666) 422)::(nat_lit 425,⟨(.type "dict"),none,(.dict #[kE P "__module__" 738 (.str "glazebench.cuts" 666),kE P "__firstlineno__" 742 (.int (184) 741),kE P "__init__" 750 (.ref 423),kE P "__static_attributes__" 752 (.ref 424),kE P "__doc__" 753 .none] 2),#[]⟩)::(nat_lit 426,⟨(.type "type"),none,(.cls { name:="Whole",bases:=[(.ref 404)],mro:=[(.ref 426),(.ref 404),(.type "object")],ns:=425,qualname:="Whole",hasDict:=true,slotNames:=[],subclasses:=[],abstract:=false,collection:=none,hasDel:=false }),#[some (.ref 409),none,some (.str "Whole" 731),some (.str "Whole" 739),some (.builtin "object.__new__"),some (.bool true)]⟩)::(nat_lit 441,co "__init__" "Upright.__init__" 768 769 770 190 4 436 181 437 438 439 440 775 190 776)::(nat_lit 442,fo "__init__" "Upright.__init__" (AC (top 47) 0) .none (.str "glazebench.cuts" 666) 441)::(nat_lit 444,⟨(.type "dict"),none,(.dict #[kE P "__module__" 763 (.str "glazebench.cuts" 666),kE P "__firstlineno__" 767 (.int (188) 766),kE P "__init__" 777 (.ref 442),kE P "__static_attributes__" 781 (.ref 443),kE P "__doc__" 782 .none] 2),#[]⟩)::(nat_lit 445,⟨(.type "type"),none,(.cls { name:="Upright",bases:=[(.ref 404)],mro:=[(.ref 445),(.ref 404),(.type "object")],ns:=444,qualname:="Upright",hasDict:=true,slotNames:=[],subclasses:=[],abstract:=false,collection:=none,hasDel:=false }),#[some (.ref 429),none,some (.str "Upright" 756),some (.str "Upright" 764),some (.builtin "object.__new__"),some (.bool true)]⟩)::(nat_lit 460,co "__init__" "Level.__init__" 797 798 799 196 4 455 181 456 457 458 459 804 196 805)::(nat_lit 461,fo "__init__" "Level.__init__" (AC (top 48) 0) .none (.str "glazebench.cuts" 666) 460)::(nat_lit 463,⟨(.type "dict"),none,(.dict #[kE P "__module__" 792 (.str "glazebench.cuts" 666),kE P "__firstlineno__" 796 (.int (194) 795),kE P "__init__" 806 (.ref 461),kE P "__static_attributes__" 810 (.ref 462),kE P "__doc__" 811 .none] 2),#[]⟩)::(nat_lit 464,⟨(.type "type"),none,(.cls { name:="Level",bases:=[(.ref 404)],mro:=[(.ref 464),(.ref 404),(.type "object")],ns:=463,qualname:="Level",hasDict:=true,slotNames:=[],subclasses:=[],abstract:=false,collection:=none,hasDel:=false }),#[some (.ref 448),none,some (.str "Level" 785),some (.str "Level" 793),some (.builtin "object.__new__"),some (.bool true)]⟩)::(nat_lit 472,co "kind_of" "kind_of" 814 815 816 200 1 467 181 468 469 470 471 818 200 819)::(nat_lit 473,fo "kind_of" "kind_of" (top 49) .none (.str "glazebench.cuts" 666) 472)::(nat_lit 479,co "entry_of" "entry_of" 821 822 823 204 1 474 181 475 476 477 478 826 204 827)::(nat_lit 480,fo "entry_of" "entry_of" (top 50) .none (.str "glazebench.cuts" 666) 479)::(nat_lit 486,co "entries_of" "entries_of" 829 830 831 207 1 481 181 482 483 484 485 836 207 837)::(nat_lit 487,fo "entries_of" "entries_of" (top 51) .none (.str "glazebench.cuts" 666) 486)::(nat_lit 493,co "cut_from" "cut_from" 839 840 841 216 4 488 181 489 490 491 492 846 216 847)::(nat_lit 494,fo "cut_from" "cut_from" (top 52) .none (.str "glazebench.cuts" 666) 493)::(nat_lit 500,co "tree_from" "tree_from" 849 850 851 220 1 495 181 496 497 498 499 858 220 859)::(nat_lit 501,fo "tree_from" "tree_from" (top 53) .none (.str "glazebench.cuts" 666) 500)::(nat_lit 507,co "entries_by" "entries_by" 861 862 863 230 2 502 181 503 504 505 506 870 230 871)::(nat_lit 508,fo "entries_by" "entries_by" (top 54) .none (.str "glazebench.cuts" 666) 507)::(nat_lit 514,co "first_piece" "first_piece" 873 874 875 241 3 509 181 510 511 512 513 879 241 880)::(nat_lit 515,fo "first_piece" "first_piece" (top 55) .none (.str "glazebench.cuts" 666) 514)::(nat_lit 521,co "other_piece" "other_piece" 882 883 884 245 3 516 181 517 518 519 520 888 245 889)::(nat_lit 522,fo "other_piece" "other_piece" (top 56) .none (.str "glazebench.cuts" 666) 521)::(nat_lit 528,co "runs" "runs" 897 898 899 252 2 523 181 524 525 526 527 904 252 905)::(nat_lit 529,fo "runs" "runs" (top 60) .none (.str "glazebench.leads" 891) 528)::(nat_lit 533,cp "columns_parted" "columns_parted" 907 908 909 260 3 530 181 531 .none .none (.ref 532) 910 260 911)::(nat_lit 534,fo "columns_parted" "columns_parted" (top 61) .none (.str "glazebench.leads" 891) 533)::(nat_lit 538,cp "rows_parted" "rows_parted" 913 914 915 262 3 535 181 536 .none .none (.ref 537) 916 262 917)::(nat_lit 539,fo "rows_parted" "rows_parted" (top 62) .none (.str "glazebench.leads" 891) 538)::(nat_lit 545,co "level_leads" "level_leads" 919 920 921 264 2 540 181 541 542 543 544 928 264 929)::(nat_lit 546,fo "level_leads" "level_leads" (top 63) .none (.str "glazebench.leads" 891) 545)::(nat_lit 550,cp "upright_leads" "upright_leads" 931 932 933 270 3 547 181 548 .none .none (.ref 549) 934 270 935)::(nat_lit 551,fo "upright_leads" "upright_leads" (top 64) .none (.str "glazebench.leads" 891) 550)::(nat_lit 557,co "leads" "leads" 937 938 939 277 2 552 181 553 554 555 556 943 277 944)::(nat_lit 558,fo "leads" "leads" (top 65) .none (.str "glazebench.leads" 891) 557)::(nat_lit 564,co "lies_on" "lies_on" 946 947 948 281 2 559 181 560 561 562 563 951 281 952)::(nat_lit 565,fo "lies_on" "lies_on" (top 66) .none (.str "glazebench.leads" 891) 564)::(nat_lit 569,cp "turn" "turn" 954 955 956 285 1 566 181 567 .none .none (.ref 568) 957 285 958)::(nat_lit 570,fo "turn" "turn" (top 67) .none (.str "glazebench.leads" 891) 569)::(nat_lit 574,cp "entry_for" "entry_for" 964 965 966 291 2 571 181 572 .none .none (.ref 573) 967 291 968)::(nat_lit 575,fo "entry_for" "entry_for" (top 70) .none (.str "glazebench.rooms" 960) 574)::(nat_lit 581,co "cut_up" "cut_up" 970 971 972 302 2 576 181 577 578 579 580 976 302 977)::(nat_lit 582,fo "cut_up" "cut_up" (top 71) .none (.str "glazebench.rooms" 960) 581)::(nat_lit 586,cp "pane_broken" "pane_broken" 979 980 981 304 3 583 181 584 .none .none (.ref 585) 982 304 983)::(nat_lit 587,fo "pane_broken" "pane_broken" (top 72) .none (.str "glazebench.rooms" 960) 586)::(nat_lit 593,co "breaks_of" "breaks_of" 985 986 987 306 2 588 181 589 590 591 592 995 306 996)::(nat_lit 594,fo "breaks_of" "breaks_of" (top 73) .none (.str "glazebench.rooms" 960) 593)::(nat_lit 600,co "one_longer" "one_longer" 998 999 1000 313 2 595 181 596 597 598 599 1006 313 1007)::(nat_lit 601,fo "one_longer" "one_longer" (top 74) .none (.str "glazebench.rooms" 960) 600)::(nat_lit 605,cp "four_that_turn" "four_that_turn" 1009 1010 1011 320 1 602 181 603 .none .none (.ref 604) 1012 320 1013)::(nat_lit 606,fo "four_that_turn" "four_that_turn" (top 75) .none (.str "glazebench.rooms" 960) 605)::(nat_lit 610,cp "tree_of" "tree_of" 1015 1016 1017 325 1 607 181 608 .none .none (.ref 609) 1018 325 1019)::(nat_lit 611,fo "tree_of" "tree_of" (top 76) .none (.str "glazebench.rooms" 960) 610)::(nat_lit 617,co "all_lines" "all_lines" 1023 1024 1025 332 1 612 181 613 614 615 616 1027 332 1028)::(nat_lit 618,fo "all_lines" "all_lines" (top 78) .none (.str "glazebench.numbers" 1021) 617)::(nat_lit 624,co "parts_between" "parts_between" 1030 1031 1032 334 2 619 181 620 621 622 623 1037 334 1038)::(nat_lit 625,fo "parts_between" "parts_between" (top 79) .none (.str "glazebench.numbers" 1021) 624)::(nat_lit 631,co "in_common" "in_common" 1040 1041 1042 342 2 626 181 627 628 629 630 1051 342 1052)::(nat_lit 632,fo "in_common" "in_common" (top 80) .none (.str "glazebench.numbers" 1021) 631)::(nat_lit 638,co "rows_by_lines" "rows_by_lines" 1054 1055 1056 349 3 633 181 634 635 636 637 1062 349 1063)::(nat_lit 639,fo "rows_by_lines" "rows_by_lines" (top 81) .none (.str "glazebench.numbers" 1021) 638)::(nat_lit 643,cp "rows_without" "rows_without" 1065 1066 1067 354 2 640 181 641 .none .none (.ref 642) 1068 354 1069)::(nat_lit 644,fo "rows_without" "rows_without" (top 82) .none (.str "glazebench.numbers" 1021) 643)::(nat_lit 650,co "strips_of_size" "strips_of_size" 1071 1072 1073 356 3 645 181 646 647 648 649 1080 356 1081)::(nat_lit 651,fo "strips_of_size" "strips_of_size" (top 83) .none (.str "glazebench.numbers" 1021) 650)::(nat_lit 655,cp "all_strips" "all_strips" 1083 1084 1085 362 1 652 181 653 .none .none (.ref 654) 1086 362 1087)::(nat_lit 656,fo "all_strips" "all_strips" (top 84) .none (.str "glazebench.numbers" 1021) 655)::(nat_lit 660,cp "rows_before" "rows_before" 1089 1090 1091 370 4 657 181 658 .none .none (.ref 659) 1092 370 1093)::(nat_lit 661,fo "rows_before" "rows_before" (top 85) .none (.str "glazebench.numbers" 1021) 660)::(nat_lit 665,cp "row_by" "row_by" 1095 1096 1097 372 5 662 181 663 .none .none (.ref 664) 1098 372 1099)::(nat_lit 666,fo "row_by" "row_by" (top 86) .none (.str "glazebench.numbers" 1021) 665)::(nat_lit 672,co "strip_by" "strip_by" 1101 1102 1103 389 4 667 181 668 669 670 671 1108 389 1109)::(nat_lit 673,fo "strip_by" "strip_by" (top 87) .none (.str "glazebench.numbers" 1021) 672)::(nat_lit 679,co "panes_by" "panes_by" 1111 1112 1113 393 4 674 181 675 676 677 678 1120 393 1121)::(nat_lit 680,fo "panes_by" "panes_by" (top 88) .none (.str "glazebench.numbers" 1021) 679)::(nat_lit 686,co "panel_by" "panel_by" 1123 1124 1125 401 3 681 181 682 683 684 685 1130 401 1131)::(nat_lit 687,fo "panel_by" "panel_by" (top 89) .none (.str "glazebench.numbers" 1021) 686)::(nat_lit 691,cp "lines_of" "lines_of" 1133 1134 1135 406 3 688 181 689 .none .none (.ref 690) 1136 406 1137)::(nat_lit 692,fo "lines_of" "lines_of" (top 90) .none (.str "glazebench.numbers" 1021) 691)::(nat_lit 696,cp "strip_at" "strip_at" 1139 1140 1141 408 3 693 181 694 .none .none (.ref 695) 1142 408 1143)::(nat_lit 697,fo "strip_at" "strip_at" (top 91) .none (.str "glazebench.numbers" 1021) 696)::(nat_lit 703,co "number_in_rows" "number_in_rows" 1145 1146 1147 411 5 698 181 699 700 701 702 1160 411 1161)::(nat_lit 704,fo "number_in_rows" "number_in_rows" (top 92) .none (.str "glazebench.numbers" 1021) 703)::(nat_lit 710,co "number_in_strips" "number_in_strips" 1163 1164 1165 423 4 705 181 706 707 708 709 1170 423 1171)::(nat_lit 711,fo "number_in_strips" "number_in_strips" (top 93) .none (.str "glazebench.numbers" 1021) 710)::(nat_lit 717,co "number_of" "number_of" 1173 1174 1175 427 1 712 181 713 714 715 716 1181 427 1182)::(nat_lit 718,fo "number_of" "number_of" (top 94) .none (.str "glazebench.numbers" 1021) 717)::(nat_lit 724,co "_law_at" "_law_at" 1186 1187 1188 437 2 719 181 720 721 722 723 1192 437 1193)::(nat_lit 725,fo "_law_at" "_law_at" (top 96) .none (.str "law_glazebench_k44_whole_all_panels_of_a_siz" 1184) 724)::(nat_lit 731,co "_law_knead" "_law_knead" 1195 1196 1197 444 2 726 181 727 728 729 730 1203 444 1204)::(nat_lit 732,fo "_law_knead" "_law_knead" (top 97) .none (.str "law_glazebench_k44_whole_all_panels_of_a_siz" 1184) 731)::(nat_lit 738,co "_law_mask" "_law_mask" 1206 1207 1208 458 2 733 181 734 735 736 737 1214 458 1215)::(nat_lit 739,fo "_law_mask" "_law_mask" (top 98) .none (.str "law_glazebench_k44_whole_all_panels_of_a_siz" 1184) 738)::(nat_lit 745,co "_law_tilings" "_law_tilings" 1217 1218 1219 464 2 740 181 741 742 743 744 1232 464 1233)::(nat_lit 746,fo "_law_tilings" "_law_tilings" (top 99) .none (.str "law_glazebench_k44_whole_all_panels_of_a_siz" 1184) 745)::(nat_lit 750,cp "_law_cuttable" "_law_cuttable" 1235 1236 1237 483 1 747 181 748 .none .none (.ref 749) 1238 483 1239)::(nat_lit 751,fo "_law_cuttable" "_law_cuttable" (top 100) .none (.str "law_glazebench_k44_whole_all_panels_of_a_siz" 1184) 750)::(nat_lit 757,co "law" "law" 1241 1242 1243 495 1 752 181 753 754 755 756 1253 495 1254)::(nat_lit 758,fo "law" "law" (top 101) .none (.str "law_glazebench_k44_whole_all_panels_of_a_siz" 1184) 757)::(nat_lit 4,⟨(.type "module"),(some 0),.plain,#[]⟩)::[]
noncomputable def kas:List Addr:=nat_lit 2::nat_lit 3::nat_lit 20::nat_lit 21::nat_lit 30::nat_lit 31::nat_lit 32::nat_lit 47::nat_lit 48::nat_lit 50::nat_lit 51::nat_lit 66::nat_lit 67::nat_lit 69::nat_lit 70::nat_lit 85::nat_lit 86::nat_lit 88::nat_lit 89::nat_lit 104::nat_lit 105::nat_lit 107::nat_lit 108::nat_lit 123::nat_lit 124::nat_lit 126::nat_lit 127::nat_lit 142::nat_lit 143::nat_lit 145::nat_lit 146::nat_lit 161::nat_lit 162::nat_lit 164::nat_lit 165::nat_lit 180::nat_lit 181::nat_lit 183::nat_lit 184::nat_lit 192::nat_lit 193::nat_lit 199::nat_lit 200::nat_lit 204::nat_lit 205::nat_lit 211::nat_lit 212::nat_lit 218::nat_lit 219::nat_lit 225::nat_lit 226::nat_lit 232::nat_lit 233::nat_lit 239::nat_lit 240::nat_lit 246::nat_lit 247::nat_lit 258::nat_lit 259::nat_lit 265::nat_lit 266::nat_lit 272::nat_lit 273::nat_lit 279::nat_lit 280::nat_lit 282::nat_lit 283::nat_lit 284::nat_lit 285::nat_lit 293::nat_lit 294::nat_lit 298::nat_lit 299::nat_lit 305::nat_lit 306::nat_lit 310::nat_lit 311::nat_lit 317::nat_lit 318::nat_lit 322::nat_lit 323::nat_lit 327::nat_lit 328::nat_lit 334::nat_lit 335::nat_lit 339::nat_lit 340::nat_lit 346::nat_lit 347::nat_lit 353::nat_lit 354::nat_lit 360::nat_lit 361::nat_lit 372::nat_lit 373::nat_lit 379::nat_lit 380::nat_lit 386::nat_lit 387::nat_lit 393::nat_lit 394::nat_lit 400::nat_lit 401::nat_lit 403::nat_lit 404::nat_lit 405::nat_lit 406::nat_lit 416::nat_lit 422::nat_lit 423::nat_lit 425::nat_lit 426::nat_lit 441::nat_lit 442::nat_lit 444::nat_lit 445::nat_lit 460::nat_lit 461::nat_lit 463::nat_lit 464::nat_lit 472::nat_lit 473::nat_lit 479::nat_lit 480::nat_lit 486::nat_lit 487::nat_lit 493::nat_lit 494::nat_lit 500::nat_lit 501::nat_lit 507::nat_lit 508::nat_lit 514::nat_lit 515::nat_lit 521::nat_lit 522::nat_lit 528::nat_lit 529::nat_lit 533::nat_lit 534::nat_lit 538::nat_lit 539::nat_lit 545::nat_lit 546::nat_lit 550::nat_lit 551::nat_lit 557::nat_lit 558::nat_lit 564::nat_lit 565::nat_lit 569::nat_lit 570::nat_lit 574::nat_lit 575::nat_lit 581::nat_lit 582::nat_lit 586::nat_lit 587::nat_lit 593::nat_lit 594::nat_lit 600::nat_lit 601::nat_lit 605::nat_lit 606::nat_lit 610::nat_lit 611::nat_lit 617::nat_lit 618::nat_lit 624::nat_lit 625::nat_lit 631::nat_lit 632::nat_lit 638::nat_lit 639::nat_lit 643::nat_lit 644::nat_lit 650::nat_lit 651::nat_lit 655::nat_lit 656::nat_lit 660::nat_lit 661::nat_lit 665::nat_lit 666::nat_lit 672::nat_lit 673::nat_lit 679::nat_lit 680::nat_lit 686::nat_lit 687::nat_lit 691::nat_lit 692::nat_lit 696::nat_lit 697::nat_lit 703::nat_lit 704::nat_lit 710::nat_lit 711::nat_lit 717::nat_lit 718::nat_lit 724::nat_lit 725::nat_lit 731::nat_lit 732::nat_lit 738::nat_lit 739::nat_lit 745::nat_lit 746::nat_lit 750::nat_lit 751::nat_lit 757::nat_lit 758::nat_lit 4::[]
noncomputable def keeps:List Nat:=0::2::3::4::5::6::7::8::9::10::12::13::14::15::16::17::18::19::20::21::22::23::25::26::27::28::29::30::31::32::33::35::36::37::38::39::40::42::43::44::45::46::47::48::49::50::51::52::53::54::55::56::58::59::60::61::62::63::64::65::66::67::69::70::71::72::73::74::75::76::78::79::80::81::82::83::84::85::86::87::88::89::90::91::92::93::94::96::97::98::99::100::101::[]
noncomputable def lo:LSz:=["Whole"]
noncomputable def Ts:List Addr:=nat_lit 577::[]
theorem prep(h:PySem.Challenge.rw_glazebench_k44_whole_all_panels_of_a_siz.row.wellSaid=true->PySem.Challenge.rw_glazebench_k44_whole_all_panels_of_a_siz.row.Holds):PySem.Challenge.rw_glazebench_k44_whole_all_panels_of_a_siz.Holds:=by
 w_on
 o_law
 exact h (by assumption)
noncomputable def qv(p:Program):Program:=view p keeps
noncomputable def Xp(p:Program)(s:Shared):Bool:=xlAt (qv p) [] s&&recOk (RowW.records (OpenRow.toRowW PySem.Challenge.rw_glazebench_k44_whole_all_panels_of_a_siz.row)) s
theorem kas_is(P:Params):kas=(KK P).map (λ x=>x.1):=by kernel_rfl
theorem T5:opening PySem.Challenge.pw_glazebench_k44_whole_all_panels_of_a_siz=plainProg PySem.Challenge.pw_glazebench_k44_whole_all_panels_of_a_siz.main.scope.names:=by kernel_rfl
theorem PD(s:Shared):fenceModules? PySem.Challenge.pw_glazebench_k44_whole_all_panels_of_a_siz s=some s:=by kernel_rfl
theorem Ri(w:World):((boot_heap w.params).isNs mainGlobals,(boot_heap w.params).objs.size,(boot_heap w.params).nsMap mainGlobals "__annotations__")=(true,11,(some (.ref 6))):=by kernel_rfl
theorem U7:Ue 11730 11 (some (.ref 6)) Fast.te10156331382660048174 Fast.te11892475500146522536 Fast.te14364793385576792824 Fast.te5923862056798008813 Fast.te4187177175401517315 Fast.te14781422833857936178:=λ w os=>by kernel_rfl
theorem Tu:I9 11730 11 (some (.ref 6)) qv lo Xp (λ x=>x.1) (expectedOf) Fast.te10156331382660048174 Fast.te11892475500146522536 Fast.te14364793385576792824 Fast.te5923862056798008813 Fast.te4187177175401517315 Fast.te14781422833857936178:=λ w os=>by kernel_rfl
theorem Tt:I9 11730 11 (some (.ref 6)) qv lo Xp (λ x=>(x.2.1,x.2.2.1)) (λ_=>(bltViewBooted,true)) Fast.te10156331382660048174 Fast.te11892475500146522536 Fast.te14364793385576792824 Fast.te5923862056798008813 Fast.te4187177175401517315 Fast.te14781422833857936178:=λ w os=>by kernel_rfl
theorem Tq:I9 11730 11 (some (.ref 6)) qv lo Xp (λ x=>(x.2.2.2.1,x.2.2.2.2.1)) (λ q=>(true,pinGoodD (drecsOf q))) Fast.te10156331382660048174 Fast.te11892475500146522536 Fast.te14364793385576792824 Fast.te5923862056798008813 Fast.te4187177175401517315 Fast.te14781422833857936178:=λ w os=>by kernel_rfl
theorem Tp:I9 11730 11 (some (.ref 6)) qv lo Xp (λ x=>(x.2.2.2.2.2.1,x.2.2.2.2.2.2.1)) (λ q=>(plainGoodE q (looseW q lo),plainGoodD q lo)) Fast.te10156331382660048174 Fast.te11892475500146522536 Fast.te14364793385576792824 Fast.te5923862056798008813 Fast.te4187177175401517315 Fast.te14781422833857936178:=λ w os=>by kernel_rfl
theorem To:I9 11730 11 (some (.ref 6)) qv lo Xp (λ x=>x.2.2.2.2.2.2.2) (λ q=>(wideGood q,clsGoodW q lo)) Fast.te10156331382660048174 Fast.te11892475500146522536 Fast.te14364793385576792824 Fast.te5923862056798008813 Fast.te4187177175401517315 Fast.te14781422833857936178:=λ w os=>by kernel_rfl
theorem U6:RunB 11730 11 (some (.ref 6)) qv lo Xp Fast.te10156331382660048174 Fast.te11892475500146522536 Fast.te14364793385576792824 Fast.te5923862056798008813 Fast.te4187177175401517315 Fast.te14781422833857936178:=RunB.of5 Tu Tt Tq Tp To
theorem U5:Ud 11730 11 (some (.ref 6)) (hookT (kHook KK kas kas_is) Ts).obs (hookT (kHook KK kas kas_is) Ts).val Fast.te10156331382660048174 Fast.te11892475500146522536 Fast.te14364793385576792824 Fast.te5923862056798008813 Fast.te4187177175401517315 Fast.te14781422833857936178:=λ w os=>by kernel_rfl
theorem ran:∀(w:World)(os:OsState),Option.map (IT openSeen (importedModules PySem.Challenge.pw_glazebench_k44_whole_all_panels_of_a_siz.main.body) PySem.Challenge.pw_glazebench_k44_whole_all_panels_of_a_siz (qv PySem.Challenge.pw_glazebench_k44_whole_all_panels_of_a_siz) lo (Xp PySem.Challenge.pw_glazebench_k44_whole_all_panels_of_a_siz) (hookT (kHook KK kas kas_is) Ts).obs (boot_heap w.params)) (topRun treeTable PySem.Challenge.pw_glazebench_k44_whole_all_panels_of_a_siz w 11 (some (.ref 6)) 11730 (DE w.params os) (topStub PySem.Challenge.pw_glazebench_k44_whole_all_panels_of_a_siz))=some (true,openGood (qv PySem.Challenge.pw_glazebench_k44_whole_all_panels_of_a_siz) lo,(hookT (kHook KK kas kas_is) Ts).val w):=Q6 U7 U6 U5
theorem left:LeftO PySem.Challenge.pw_glazebench_k44_whole_all_panels_of_a_siz (qv PySem.Challenge.pw_glazebench_k44_whole_all_panels_of_a_siz) lo (Xp PySem.Challenge.pw_glazebench_k44_whole_all_panels_of_a_siz) (hookT (kHook KK kas kas_is) Ts).obs (hookT (kHook KK kas kas_is) Ts).val 11730:=NJ (boot_open T5 (by decide) PD) Ri ran
end KH
namespace L2
open PySem.W
open PySem PySem.Spec PyProof.Rows
section
variable{α:Type}{κ:α->Int}
def Uf(κ:α->Int)(xs:List α):Prop:=xs.Pairwise λ x y=>κ x<=κ y
structure MI(κ:α->Int)(a b out:List α)(ia ib:Nat):Prop where
 pm:(out++(a.drop ia++b.drop ib)).Perm (a++b)
 so:Uf κ out
 le:∀x∈out,∀y∈a.drop ia++b.drop ib,κ x<=κ y
 la:ia<=a.length
 lb:ib<=b.length
end
section
variable{M:Model}{A:Around}{E:VPz}{s:Shared}
theorem Ql{α:Type}:∀(ms:List α)(n base:Nat)(xs:Array α),base+n+ms.length<=xs.size ->
  ((ms.zipIdx n).foldl (λ a p=>a.setIfInBounds (base+p.2) p.1) xs).toList=xs.toList.take (base+n)++ms++xs.toList.drop (base+n+ms.length)
 |[],n,base,xs,h=>by simp
 |m::ms,n,base,xs,h=>by
  rw[List.zipIdx_cons,dR];have hl:base+n+(ms.length+1)<=xs.size:=h;rw[Ql ms (n+1) base (xs.setIfInBounds (base+n) m) (by rw[Array.size_setIfInBounds];lia)];rw[Array.toList_setIfInBounds];have h1:base+n<xs.toList.length:=by rw[aV];lia
  rw[show base+(n+1)=base+n+1 by lia];rw[List.take_set,List.drop_set,if_pos (by lia)];have e1:(xs.toList.take (base+n+1)).set (base+n) m=xs.toList.take (base+n)++[m]:=by
   rw[List.take_succ_eq_append_getElem h1,List.set_append_right _ _ (by rw[bB];lia)];rw[bB,Nat.min_eq_left (by lia),cN];rfl
  rw[e1,show base+n+1+ms.length=base+n+(m::ms).length by simp;lia];simp
end
section
variable{M:Model}{A:Around}{E:VPz}{s:Shared}{κ:Keyed->Int}{S:Keyed->Prop}{kd:SortKind}
def Tiles(κ:Keyed->Int)(xs:List Keyed):Nat->List (Nat×Nat×Nat)->Nat->Prop
 |a,[],b=>a=b
 |a,p::ps,b=>p.1=a/\0<p.2.1/\Uf κ ((xs.drop a).take p.2.1)/\Tiles κ xs (a+p.2.1) ps b
end
def Pz:Option NameKind->Bool
 |some .cell=>true
 |some .free=>true
 |_=>false
theorem MJ{o:Option NameKind}(h:Pz o=true):o=some .cell\/o=some .free:=by
 match o,h with
 |some .cell,_=>exact .inl rfl
 |some .free,_=>exact .inr rfl
theorem Ez(env:Env):∀(l:List (Str×NameKind))(acc:List (Str×Addr)),(∀y∈l,y.2=.free->∃c,env.cells.lookup y.1=some c) ->
  (∀x c,acc.lookup x=some c->env.cells.lookup x=some c) ->
  ∃cl,(forIn l acc (λ(x:Str×NameKind)(r:List (Str×Addr))=>if (x.2==.free)=true then (cellOf env x.1 >>= λ c=>pure (ForInStep.yield ((x.1,c)::r))) else pure (ForInStep.yield r)):Sem (List (Str×Addr)))=pure cl /\
   (∀x c,cl.lookup x=some c->env.cells.lookup x=some c)/\(∀x,((∃c,acc.lookup x=some c)\/(x,NameKind.free)∈l)->∃c,cl.lookup x=some c)
 |[],acc,_,ha=>⟨acc,by rfl,ha,λ x h=>h.elim id λ z=>nomatch z⟩
 | (n,k)::l,acc,hl,ha=>by
  have hl':∀y∈l,y.2=.free->∃c,env.cells.lookup y.1=some c:=λ y hy=>hl y (aI _ hy);by_cases hk:k=.free
  .subst hk;obtain⟨c,hc⟩:=hl (n,.free) aD rfl;have hc':env.cells.lookup n=some c:=hc;have look:∀x,((n,c)::acc).lookup x=if x=n then some c else acc.lookup x:=λ x=>by
    rw[a9];by_cases e:x=n
    .subst e;simp
    .rw[if_neg e,show(x==n)=false by simpa using e]
   have ha':∀x d,((n,c)::acc).lookup x=some d->env.cells.lookup x=some d:=λ x d e=>by
    rw[look]at e;split at e
    .rename_i q;subst q;rw[hc'];exact e
    .exact ha x d e
   obtain⟨cl,e,h1,h2⟩:=Ez env l ((n,c)::acc) hl' ha';refine⟨cl,?_,h1,λ x h=>h2 x ?_⟩
   .rw[<-e,dQ];have ec:cellOf env n=pure c:=by unfold cellOf;rw[hc']
    show((cellOf env n >>= λ c=>pure (ForInStep.yield ((n,c)::acc))) >>= _:Sem (List (Str×Addr)))=_;rw[ec];rfl
   .rcases h with ⟨d,q⟩|h
    .left
     rw[look];by_cases z:x=n
     .exact⟨c,by rw[if_pos z]⟩
     .exact⟨d,by rw[if_neg z];exact q⟩
    .rcases aP.mp h with z|z
     .left
      rw[look];exact⟨c,by rw[if_pos (congrArg Prod.fst z)]⟩
     .exact .inr z
  .obtain⟨cl,e,h1,h2⟩:=Ez env l acc hl' ha;refine⟨cl,?_,h1,λ x h=>h2 x ?_⟩
   .rw[<-e,dQ];have hb:(k==NameKind.free)=false:=by simpa using hk
    show((if (k==NameKind.free)=true then _ else pure (ForInStep.yield acc)) >>= _:Sem (List (Str×Addr)))=_;rw[hb];rfl
   .rcases h with h|h
    .exact .inl h
    .rcases aP.mp h with z|z
     .exact absurd (congrArg Prod.snd z).symm hk
     .exact .inr z
theorem Mf{scope:Scope}{env:Env}(h:∀y∈scope.names,y.2=.free->∃c,env.cells.lookup y.1=some c) :
  ∃cl,closureFor scope env=pure cl/\(∀x c,cl.lookup x=some c->env.cells.lookup x=some c)/\(∀x,(x,NameKind.free)∈scope.names->∃c,cl.lookup x=some c):=by
 obtain⟨cl,e,h1,h2⟩:=Ez env scope.names [] h (λ x c e=>by simp at e);refine⟨cl,?_,h1,λ x hx=>h2 x (.inr hx)⟩;have e2:closureFor scope env=(forIn scope.names [] (λ(x:Str×NameKind)(r:List (Str×Addr))=>if (x.2==.free)=true then (cellOf env x.1 >>= λ c=>pure (ForInStep.yield ((x.1,c)::r))) else pure (ForInStep.yield r)) >>= λ r=>pure r:Sem (List (Str×Addr))):=by
  rfl
 rw[e2,e];rfl
abbrev AF(X:Cx)(scope:Scope)(cl:List (Str×Addr))(N:LSz)(C:Addr)(s:Shared)(H:Hp)(ex:List Addr):Cx :=
 { X with N:=N,s₀:=s,H₀:=H,env:=compEnvC scope cl C X.env,outer:=X.stack,ex:=ex,fn:=λ_=>false,pn:=[],xe:=λ_ _=>False }
def DM(osc:Scope)(oN:LSz)(sc:Scope)(N:LSz)(fr:List (Option Nat)):Bool :=
 decide (sc.kind=.function)&&sc.names.all (λ y=>decide (y.2≠.cell))&&sc.names.all (λ y=>decide (y.2≠.free)||Pz (osc.names.lookup y.1)) &&
 sc.names.all (λ y=>decide (y.2≠.local)||decide (sc.names.lookup y.1=some .local)) &&
 (N.zip fr).all (λ y=>match y.2 with
  |none=>true
  |some i=>decide (oN[i]?=some y.1)&&Pz (osc.names.lookup y.1)&&decide (sc.names.lookup y.1=some .free))&&decide (N.length=fr.length)
structure Fa(osc:Scope)(oN:LSz)(sc:Scope)(N:LSz)(fr:List (Option Nat)):Prop where
 kind:sc.kind=.function
 nocell:∀y∈sc.names,y.2≠.cell
 free:∀y∈sc.names,y.2=.free->Pz (osc.names.lookup y.1)=true
 loc:∀y∈sc.names,y.2=.local->sc.names.lookup y.1=some .local
 slots:∀(j:Nat)(x:Str)(i:Nat),N[j]?=some x->fr[j]?=some (some i)->oN[i]?=some x/\Pz (osc.names.lookup x)=true/\sc.names.lookup x=some .free
 len:N.length=fr.length
theorem Dc{osc:Scope}{oN:LSz}{sc:Scope}{N:LSz}{fr:List (Option Nat)}(h:DM osc oN sc N fr=true):Fa osc oN sc N fr:=by
 unfold DM at h;simp only[aE,aU,decide_eq_true_eq,de]at h;obtain⟨⟨⟨⟨⟨h1,h2⟩,h3⟩,h4⟩,h5⟩,h6⟩:=h;refine⟨h1,h2,λ y hy e=>(h3 y hy).resolve_left λ z=>z e,λ y hy e=>(h4 y hy).resolve_left λ z=>z e,λ j x i e1 e2=>?_,h6⟩;have hm:(x,some i)∈N.zip fr:=by
  have:(N.zip fr)[j]?=some (x,some i):=by rw[List.getElem?_zip_eq_some];exact⟨e1,e2⟩
  exact ax this
 have:=h5 _ hm;simp only[aE,decide_eq_true_eq]at this;exact⟨this.1.1,this.1.2,this.2⟩
def stC(fr:List (Option Nat))(σ:St):St:=fr.map λ o=>o.bind λ i=>(σ[i]?).join
def O2(wi:TI)(g:TG)(te:TE)(fr:List (Option Nat)):TE:=λ σ H Q=>wi σ H λ J H1=>∀acc,H1 acc=none->∃W:Nat->Nat->St->Hp->Prop,(∃m,W 0 m (stC fr σ) (upd H1 acc (.lst [])))/\∀i m σ1 H2,W i m σ1 H2 ->
 (J.stop i H2/\Q (.ref acc) H2)\/(J.go i H2/\∀x H3,J.yld i H2 x H3->g x σ1 H3 λ σ4 H4=>te σ4 H4 λ v H5=>∃xs,H5 acc=some (.lst xs)/\xs.length<sizeLine/\∃m',m'<m/\W (i+1) m' σ4 (upd H5 acc (.lst (xs++[v]))))
section
variable{prog:Program}{w:World}{A:Around}{R:Result->Shared->Prop}{s:Shared}
theorem JW{elt target iter:Expr}{scope:Scope}{pos:Pos}{it acc:Value}{env:Env}(I:Nat->Shared->Prop)
    (turn:∀n s,I n s->wpAny (model prog w) A (pyNext it) (λ r s₁=>match r with
      |none=>R (.ok .next) s₁
      |some v=>wpAny (model prog w) A (letOwnedTupleGo target it v) (λ_ s₁=>wpAny (model prog w) A (assign target env v) (λ_ s₂=>wpAny (model prog w) A (eval elt env) (λ x s₃ =>
          wpAny (model prog w) A (call (.builtin "list.append") [acc,x]) (λ_ s₄=>∃m,m<n/\I m s₄) (notedBy (model prog w) A env λ e s'=>R (.error e) s') s₃)
          (notedBy (model prog w) A env λ e s'=>R (.error e) s') s₂) (notedBy (model prog w) A env λ e s'=>R (.error e) s') s₁) (notedBy (model prog w) A env λ e s'=>R (.error e) s') s₁) (notedBy (model prog w) A env λ e s'=>R (.error e) s') s)
    (n:Nat) (h:I n s) :
    codeAny (model prog w) A (.compLoop (.ListComp elt [⟨target,iter,[],0⟩] scope pos) 0 it acc env) R s:=by
  refine codeAny_loop rfl I (λ n s hI=>?_) n h;show wpAny _ _ ((compTurn (.ListComp elt [⟨target,iter,[],0⟩] scope pos) 0 it acc env).onRaise (λ x=>do noteFrame x env;theTreesLotGoes x)) _ _ s;refine wpAny_noted ?_;rw[compTurn_list1];refine wpAny_bind (wpAny_standAt (wpAny_bind (wpAny_mono (turn n s hI) (λ r s₁ h₁=>?_) λ_ _ h'=>h')));cases r with
  |none=>exact wpAny_pure h₁
  |some v =>
    refine wpAny_bind (wpAny_mono h₁ (λ_ s₁ h₁=>?_) λ_ _ h'=>h');exact wpAny_bind (wpAny_mono h₁ (λ_ s₂ h₂=>wpAny_bind (wpAny_bind (wpAny_mono h₂ (λ x s₃ h₃=>wpAny_bind (wpAny_mono h₃
      (λ_ s₄ h₄=>wpAny_pure (wpAny_pure ⟨rfl,h₄⟩)) λ_ _ h'=>h')) λ_ _ h'=>h'))) λ_ _ h'=>h')
end
theorem Bi{α:Type}{M:Model}{A:Around}{t:Sem α}{Q:α->Shared->Prop}{E:VPz}{s:Shared}(h:wpAny M A t Q (λ_ _=>False) s):wpAny M A t Q E s :=
 wpAny_mono h (λ_ _ q=>q) λ_ _ z=>z.elim
theorem LI{scope:Scope}{env:Env}(hc:∀y∈scope.names,y.2≠.cell){x:Str}(h:(relabel scope env).names.lookup x=some .cell\/(relabel scope env).names.lookup x=some .free):(x,NameKind.free)∈scope.names:=by
 have key:∀(l:List (Str×NameKind)),(∀y∈l,y.2≠.cell)->((l.map λ(n,k)=>if (k==NameKind.free&&env.scope.kind==.function&&env.kindOf n==some .cell) then (n,NameKind.cell) else (n,k)).lookup x=some .cell \/
   (l.map λ(n,k)=>if (k==NameKind.free&&env.scope.kind==.function&&env.kindOf n==some .cell) then (n,NameKind.cell) else (n,k)).lookup x=some .free)->(x,NameKind.free)∈l:=by
  intro l
  induction l with
  |nil=>intro _ h;simp at h
  |cons y r ih =>
   obtain⟨n,k⟩:=y;intro hc h;have hr:∀y∈r,y.2≠.cell:=λ y hy=>hc y (aI _ hy);have hk:k≠.cell:=hc (n,k) aD;rw[aA]at h;by_cases hxn:x=n
   .subst hxn;have hkf:k=.free:=by
     by_cases hb:(k==NameKind.free&&env.scope.kind==.function&&env.kindOf x==some .cell)=true
     .simp only[aE,beq_iff_eq]at hb;exact hb.1.1
     .simp only[hb,if_neg,aL,if_false]at h;simp only[a9,beq_self_eq_true]at h;rcases h with h|h
      .exact absurd (Option.some.inj h) hk
      .exact Option.some.inj h
    rw[hkf];exact aD
   .have hb:(x==n)=false:=by simpa using hxn
    refine aI _ (ih hr ?_);by_cases hq:(k==NameKind.free&&env.scope.kind==.function&&env.kindOf n==some .cell)=true
    .simp only[hq,if_true,a9,hb]at h;exact h
    .simp only[hq,aL,if_false,a9,hb]at h;exact h
 exact key scope.names hc h
theorem ED{env:Env}{x:Str}:∀{l:List (Str×NameKind)},l.lookup x=some .free ->
  ((l.map λ(n,k)=>if (k==NameKind.free&&env.scope.kind==.function&&env.kindOf n==some .cell) then (n,NameKind.cell) else (n,k)).lookup x=some .cell \/
   (l.map λ(n,k)=>if (k==NameKind.free&&env.scope.kind==.function&&env.kindOf n==some .cell) then (n,NameKind.cell) else (n,k)).lookup x=some .free)
 |[],h=>by simp at h
 | (n,k)::r,h=>by
  rw[aA];by_cases hxn:x=n
  .subst hxn;simp only[a9,beq_self_eq_true]at h;have hk:=Option.some.inj h;subst hk;by_cases hq:(NameKind.free==NameKind.free&&env.scope.kind==.function&&env.kindOf x==some .cell)=true
   .left
    show List.lookup x ((if (NameKind.free==NameKind.free&&env.scope.kind==.function&&env.kindOf x==some .cell)=true then (x,NameKind.cell) else (x,NameKind.free))::_)=_;rw[if_pos hq,a9,beq_self_eq_true]
   .right
    show List.lookup x ((if (NameKind.free==NameKind.free&&env.scope.kind==.function&&env.kindOf x==some .cell)=true then (x,NameKind.cell) else (x,NameKind.free))::_)=_;rw[if_neg hq,a9,beq_self_eq_true]
  .have hb:(x==n)=false:=by simpa using hxn
   simp only[a9,hb]at h;have ih:=ED (env:=env) h;by_cases hq:(k==NameKind.free&&env.scope.kind==.function&&env.kindOf n==some .cell)=true
   .simp only[hq,if_true,a9,hb];exact ih
   .simp only[hq,aL,if_false,a9,hb];exact ih
theorem KQ{x:Str}{k:NameKind}:∀{l:List (Str×NameKind)},l.lookup x=some k->(x,k)∈l
 |[],h=>by simp at h
 | (n,j)::r,h=>by
  by_cases e:x=n
  .subst e;simp only[a9,beq_self_eq_true]at h;rw[<-Option.some.inj h];exact aD
  .have hb:(x==n)=false:=by simpa using e
   simp only[a9,hb]at h;exact aI _ (KQ h)
section
variable{X:Cx}{elt tg iter:Expr}{scope:Scope}{pos:Pos}{wi:TI}{g:TG}{te:TE}{N:LSz}{fr:List (Option Nat)}
theorem HR{pins:PNz}{σ:St}{H:Hp}{s s1:Shared}{cl:List (Str×Addr)}{ex:List Addr}{C:Addr}{m:MGz}(I:Inv X pins σ H s)(ck:Fa X.env.scope X.N scope N fr)
    (c1:∀x c,cl.lookup x=some c->X.env.cells.lookup x=some c) (c2:∀x,(x,NameKind.free)∈scope.names->∃c,cl.lookup x=some c) (hex:∀b∈ex,E2 X pins H b/\b<s.heap.objs.size) (hC:s.heap.objs.size<=C)
    (hn:s1.heap.Ns C m) (k:∀b o,s.heap.get? b=some o->s1.heap.get? b=some o) (ho:s1.os=s.os) (hg:s1.gens=s.gens) :
    Inv (AF X scope cl N C s H ex) [] (stC fr σ) H s1:=by
  have lt_ne:∀{b:Addr}{o:Obj},s.heap.get? b=some o->b≠C:=λ e=>aB (aO (aq e) hC);have ok:(AF X scope cl N C s H ex).Ok :=
    { mod:=I.ok.mod
      kind:=ck.kind
      glob:=I.ok.glob
      blt:=I.ok.blt
      above:=hC
      inj:=λ x y c e1 e2=>I.ok.inj x y c (c1 x c e1) (c1 y c e2)
      has:=λ x h=>c2 x (LI ck.nocell h)
      cab:=λ x c z=>by cases z
      hd:=I.ok.hd
      frames:=I.ok.frames
      stk:=.inl rfl
      exf:=λ b hb=>⟨aB (aO (hex b hb).2 hC),λ x c e=>(hex b hb).1.2.2.2.2.1 x c (c1 x c e)⟩
      bs:=I.bs
      bsz:=aR I.ok.bsz I.sz
      noex:=λ b o e hb=>by
        rcases(hex b hb).1.2.2.2.1 with z|z
        · exact I.ok.noex b o e z
        · exact absurd (aO (aq e) (aR I.ok.bsz z)) (bE _)
      exfs:=λ b hb hz=>by
        rcases aP.mp (I.stkSub b hz) with z|z
        · exact(hex b hb).1.2.1 z
        · exact(hex b hb).1.2.2.1 z
      funs:=I.stack
      frf:=I.stkFree }
  refine⟨ok,ho,by rw[hg];exact I.bare,Un.kept k,⟨m,hn,λ j x v e1 e2 e3=>?_⟩,λ x c e=>?_,I.hok.fresh hC,λ x c e=>I.freeC x c (c1 x c e),λ p hp=>by simp at hp,I.hok.kept k,?_⟩
  · have e1':N[j]?=some x:=e1
    unfold stC at e2;rw[ay]at e2;cases q:fr[j]? with
    |none=>rw[q]at e2;cases e2
    |some o =>
      rw[q]at e2;cases o with
      |none =>
        have:(none:Option V)=some v:=Option.some.inj e2;cases this
      |some i =>
        have e2':(σ[i]?).join=some v:=Option.some.inj e2;obtain⟨s1',s2',s3'⟩:=ck.slots j x i e1' q;have hσ:σ[i]?=some (some v):=by
          cases z:σ[i]? with
          |none=>rw[z]at e2';cases e2'
          |some y=>rw[z]at e2';exact congrArg some e2'
        have hcf:=MJ s2';obtain⟨m0,hn0,hl⟩:=I.loc;obtain⟨u,r,lk⟩:=hl i x v s1' hσ (di hcf);refine⟨u,r,di ⟨ED s3',?_⟩⟩;obtain⟨c,hc⟩:=c2 x (KQ s3');refine⟨c,hc,?_⟩;rcases lk with ⟨z,_⟩|⟨_,c',hc',hv⟩
        · rcases hcf with y|y
          · have z':X.env.scope.names.lookup x=some .local:=z
            rw[y]at z';cases z'
          · have z':X.env.scope.names.lookup x=some .local:=z
            rw[y]at z';cases z'
        · have:=c1 x c hc
          rw[hc']at this;cases this;exact hv.keeps k
  · obtain⟨v,z⟩:=I.cell x c (c1 x c e)
    exact⟨v,z.keeps k⟩
  · unfold stC
    rw[aa];exact ck.len.symm
theorem IZ{pins:PNz}{σ:St}{H:Hp}{s:Shared}{Q:VK}{cl:List (Str×Addr)}{R:Value->Addr->Result->Shared->Prop}(hc:X.calm=true)(I:Inv X pins σ H s)(hi:PI X tg iter wi)
  (hg:∀cl C s H ex,PG (AF X scope cl N C s H ex) tg g) (he:∀cl C s H ex,PE (AF X scope cl N C s H ex) elt te) (ck:Fa X.env.scope X.N scope N fr)
  (c1:∀x c,cl.lookup x=some c->X.env.cells.lookup x=some c) (c2:∀x,(x,NameKind.free)∈scope.names->∃c,cl.lookup x=some c)
  (h:O2 wi g te fr σ H Q)
  (hR:∀acc C s' H' m,s'.heap.Ns C m->E2 X pins H' C->Inv X pins σ H' s'->Q (.ref acc) H'->R (.ref acc) C (.ok .next) s') :
  wpAny (model X.prog X.w) X.A (eval iter X.env) (λ x s₁=>wpAny (model X.prog X.w) X.A (pyIter x) (λ it s₂=>wpAny (model X.prog X.w) X.A (newList []) (λ acc s₃ =>
   wpAny (model X.prog X.w) X.A (newFunctionEnv scope X.env.globals cl [] X.env.qual none .none (some X.env)) (λ cenv s₄ =>
    codeAny (model X.prog X.w) X.A (.compStart (.ListComp elt [⟨tg,iter,[],0⟩] scope pos) 0 it acc { cenv with scope:=relabel scope X.env }) (R acc cenv.locals) s₄) X.xe s₃) X.xe s₂) X.xe s₁) X.xe s:=by
 refine thn (hi pins s σ H _ I h) λ v s1 h1=>thn h1 λ itv s2 h2=>?_;obtain⟨it,fp,tn,J,H2,e,I2,T,st2,f2,q2⟩:=h2;subst e;refine wpAny_newObj_type (wpAny_newFunctionEnv ck.nocell (by intro y hy;simp at hy) (λ h₁ hns₁ hsb₁=>?_) ck.kind);dsimp only at hns₁ hsb₁ |-;have I3:Inv X pins σ (upd H2 s2.heap.objs.size (.lst [])) { s2 with heap:=s2.heap.push { cls:=.type "list",dict:=none,data:=.seq ([]:LWz).toArray } }:=I2.lnew (t':=s2.toks) (its:=[]) .nil (aQ _);have acc0:H2 s2.heap.objs.size=none:=I2.fresh;obtain⟨W,⟨m0,w0⟩,turn⟩:=q2 s2.heap.objs.size acc0;generalize hH3:s2.heap.push { cls:=.type "list",dict:=none,data:=.seq ([]:LWz).toArray }=h3 at hns₁ hsb₁ I3 |-;have hz3:h3.objs.size=s2.heap.objs.size+1:=by rw[<-hH3,bt]
 have k23:∀b o,s2.heap.get? b=some o->h3.get? b=some o:=λ b o e=>by rw[<-hH3];exact ae _ e
 have k34:∀b o,h3.get? b=some o->h₁.get? b=some o:=λ b o e=>hsb₁.extBut b o (aB (aq e)) (ae _ e);have fpo:∀b∈fp,∃o,s2.heap.get? b=some o/\∀v,o.data≠.cell v:=T.obj 0 _ st2;have hex:∀b∈fp,E2 X pins (upd H2 s2.heap.objs.size (.lst [])) b/\b<h3.objs.size:=λ b hb=>by
  obtain⟨o,eo,_⟩:=fpo b hb;have lt:=aq eo;obtain⟨f0,fr'⟩:=f2 b hb;exact⟨⟨by rw[Af (aB lt)];exact f0,fr'⟩,by rw[hz3];exact bc lt⟩
 have I4:Inv (AF X scope cl N h3.objs.size { s2 with heap:=h3 } (upd H2 s2.heap.objs.size (.lst [])) fp) [] (stC fr σ) (upd H2 s2.heap.objs.size (.lst [])) { s2 with heap:=h₁,toks:=s2.toks+([]:List (Str×Value)).length } :=
  HR I3 ck c1 c2 hex (ah _) hns₁ k34 rfl rfl
 have stat:∀{H':Hp},(∀b∈fp,H' b=none)->∀b∈fp,E2 (AF X scope cl N h3.objs.size { s2 with heap:=h3 } (upd H2 s2.heap.objs.size (.lst [])) fp) [] H' b:=λ hn b hb =>
  ⟨hn b hb,(I4.ok.exf b hb).1,I4.ok.exfs b hb,.inl hb,(I4.ok.exf b hb).2,λ p hp=>by simp at hp⟩
 have stn:∀i h h',tn i h->(∀b o,h.get? b=some o->h'.get? b=some o)->tn i h':=λ i h h' st kk=>T.keep i h h' st λ b _ o e=>kk b o e;have loop:codeAny (model X.prog X.w) X.A (.compLoop (.ListComp elt [⟨tg,iter,[],0⟩] scope pos) 0 (.ref it) (.ref s2.heap.objs.size) (compEnvC scope cl h3.objs.size X.env)) (R (.ref s2.heap.objs.size) h3.objs.size)
   { s2 with heap:=h₁,toks:=s2.toks+([]:List (Str×Value)).length }:=by
  refine JW (λ n s'=>∃i σ' H',Inv (AF X scope cl N h3.objs.size { s2 with heap:=h3 } (upd H2 s2.heap.objs.size (.lst [])) fp) [] σ' H' s'/\tn i s'.heap/\(∀b∈fp,H' b=none)/\W i n σ' H') ?_ m0
   ⟨0,_,_,I4,stn _ _ _ st2 λ b o e=>k34 b o (k23 b o e),λ b hb=>(hex b hb).1.1,w0⟩
  rintro n s3 ⟨i,σ3,H3,J3,st3,fr3,w3⟩;rcases turn i n σ3 H3 w3 with ⟨stop,qn⟩|⟨go,step⟩
  .refine Bi (thn (T.done (AF X scope cl N h3.objs.size { s2 with heap:=h3 } (upd H2 s2.heap.objs.size (.lst [])) fp) rfl rfl rfl hc i [] s3 σ3 H3 (λ_ _=>False) J3 (stat fr3) st3 stop) λ r s4 hz_=>?_);obtain⟨hr,J4⟩:=hz_;subst hr;obtain⟨mc,hmc,_⟩:=J4.loc;have I5:Inv X pins σ H3 s4:=I3.call' (ch:=fp) J4.os J4.base J4.hok J4.bare λ b hb=>⟨(hex b hb).1.2.2.2.1,(hex b hb).1.2.1,(hex b hb).1.2.2.2.2.1,(hex b hb).1.2.2.2.2.2⟩;exact hR _ _ s4 H3 mc hmc (I3.fpOk (ah _) J4.free) I5 qn
  .refine Bi (thn (T.item (AF X scope cl N h3.objs.size { s2 with heap:=h3 } (upd H2 s2.heap.objs.size (.lst [])) fp) rfl rfl rfl hc i [] s3 σ3 H3 (λ_ _=>False) J3 (stat fr3) st3 go) λ r s4 hz_=>?_);obtain⟨u,hr,h4⟩:=hz_;subst hr;refine Bi (thn h4 λ_ s5 hz_=>?_);obtain⟨x,H5,J5,r5,y5,st5,fr5⟩:=hz_;have J5':=J5.pinned (stat fr5) (T.obj _ _ st5);refine Bi (thn (hg _ _ _ _ _ _ s5 σ3 H5 x u _ J5' r5 (step x H5 y5)) λ_ s6 hz_=>?_);obtain⟨σ6,H6,J6,q6⟩:=hz_;refine Bi (thn (he _ _ _ _ _ _ s6 σ6 H6 _ J6 q6) λ y s7 hz_=>?_);obtain⟨v7,H7,J7,r7,xs,hx,hz,m',hm',w7⟩:=hz_;refine Bi (thn (Fw _ s7 σ6 H7 (.ref s2.heap.objs.size) [v7] (.ref s2.heap.objs.size) [y] (λ v H8=>H8=upd H7 s2.heap.objs.size (.lst (xs++[v7]))) J7 rfl (.cons r7 .nil) ⟨_,xs,v7,rfl,rfl,hx,hz,rfl⟩) λ_ s8 hz_=>?_);obtain⟨_,H8,J8,_,e8⟩:=hz_;subst e8;refine⟨m',hm',i+1,σ6,_,J8.unpinned,T.keep _ _ _ st5 λ b hb o e=>(J8.pin (b,o) (aw _ (aw _ (AT hb e)))).1,λ b hb=>?_,w7⟩;obtain⟨o,e,d⟩:=T.obj _ _ st5 b hb;exact(J8.pin (b,o) (aw _ (aw _ (AT hb e)))).2.1
 exact codeAny_compStart_list loop (T.self _ 0 _ _ _ (stn _ _ _ st2 λ b o e=>k34 b o (k23 b o e)) loop)
theorem G0(I:X.Ok)(ck:Fa X.env.scope X.N scope N fr):∃cl,closureFor scope X.env=pure cl/\(∀x c,cl.lookup x=some c->X.env.cells.lookup x=some c)/\(∀x,(x,NameKind.free)∈scope.names->∃c,cl.lookup x=some c) :=
 Mf λ y hy e=>I.has y.1 (MJ (ck.free y hy e))
theorem Bk(hc:X.calm=true)(hi:PI X tg iter wi)(hg:∀cl C s H ex,PG (AF X scope cl N C s H ex) tg g)(he:∀cl C s H ex,PE (AF X scope cl N C s H ex) elt te)
  (hk:DM X.env.scope X.N scope N fr=true:=by rfl) (hs:∀x,foldedSetIterable iter X.env x=pure x:=by intro _;rfl):PE X (.ListComp elt [⟨tg,iter,[],0⟩] scope pos) (O2 wi g te fr):=by
 intro pins s σ H Q I h;have ck:=Dc hk;obtain⟨cl,e1,c1,c2⟩:=G0 I.ok ck;rw[eval_ListComp];refine wpAny_comprehension_free (use:=none) (Q:=EP X pins σ Q) rfl hs e1 ck.kind ck.loc (IZ (R:=λ acc C=>compPost (model X.prog X.w) X.A X.xe none (EP X pins σ Q) acc C) hc I hi hg he ck c1 c2 h λ acc C s' H' m hn f I' q=>?_);obtain⟨f0,f1,f2,f3,f4,f5⟩:=f;exact⟨m,hn,λ h' hs'=>⟨.ref acc,H',I'.turned (t':=s'.toks) (λ b o hb e=>hs'.extBut b o hb e) f0 f1 f3 f4 f5,rfl,q⟩⟩
theorem El{y:Str}{py spos:Pos}{gy:TG}(hc:X.calm=true)(hy:PG X (.Name y py) gy)(hi:PI X tg iter wi)(hg:∀cl C s H ex,PG (AF X scope cl N C s H ex) tg g)(he:∀cl C s H ex,PE (AF X scope cl N C s H ex) elt te)
    (hk:DM X.env.scope X.N scope N fr=true:=by rfl) (hsw:swapsWith (.ListComp elt [⟨tg,iter,[],0⟩] scope pos) (some (.Name y py)) spos.line X.env=pure true:=by rfl) (hs:∀x,foldedSetIterable iter X.env x=pure x:=by intro _;rfl) :
    PS X (.Assign [.Name y py] (.ListComp elt [⟨tg,iter,[],0⟩] scope pos) spos) (Qu (O2 wi g te fr) gy):=by
  intro pins s σ H D I h;have ck:=Dc hk;obtain⟨cl,e1,c1,c2⟩:=G0 I.ok ck;rw[exec_Assign_Name_used _ _ _ _ hsw];refine wpAny_bind (wpAny_standAt (wpAny_bind ?_));show wpAny _ X.A (do let _ <-comprehension (.ListComp elt [⟨tg,iter,[],0⟩] scope pos) scope X.env _ (newList []) false (eval iter X.env) (some (assign (.Name y py) X.env))) _ _ s;refine wpAny_bind (wpAny_mono (wpAny_comprehension_free (use:=some (assign (.Name y py) X.env)) (Q:=λ_ s'=>SP X pins D .next s') rfl hs e1 ck.kind ck.loc
    (IZ (R:=λ acc C=>compPost (model X.prog X.w) X.A X.xe (some (assign (.Name y py) X.env)) (λ_ s'=>SP X pins D .next s') acc C) hc I hi hg he ck c1 c2 h λ acc C s' H' m hn f I' q=>?_)) (λ_ s' hq=>wpAny_pure (wpAny_pure hq)) λ_ _ e=>e)
  show wpAny _ X.A (assign (.Name y py) X.env (.ref acc)) _ _ _;obtain⟨oC,es,ep,hoC,hdC,hrC⟩:=id hn;have IP:=I'.pinned (fp:=[C]) (λ b hb=>by rw[ai.mp hb];exact f) (λ b hb=>by rw[ai.mp hb];exact⟨oC,hoC,λ v z=>by rw[hdC]at z;cases z⟩);refine thn (hy _ s' σ H' (.ref acc) (.ref acc) _ IP rfl q) λ_ s'' ⟨σ6,H6,I6,q6⟩=>?_;have pC:=I6.pin (C,oC) (aw _ (aw _ (AT (ai.mpr rfl) hoC)));obtain⟨f0,f1,f2,f3,f4,f5⟩:=f;exact⟨m,⟨oC,es,ep,pC.1,hdC,hrC⟩,λ h' hs'=>⟨σ6,H6,I6.unpinned.turned (t':=s''.toks) (λ b o hb e=>hs'.extBut b o hb e) pC.2.1 f1 f3 f4 f5,q6⟩⟩
end
section
variable{X:Cx}
def RG(_ j:Int):Prop:=0<j/\j.natAbs.log2<9000
theorem GZ:OpR X (binaryOp .FloorDiv) (rI RG λ i j=>.int (i / j)):=opI λ i j _ _ _ _ _ hc q=>by
 have h1:(0:Int)<j:=hc.1;exact floordiv_int (by lia) (by rw[cV i (by lia)];exact q) (.inl (PyProof.noPylong_of_log2 hc.2))
theorem Bo:OpR X (binaryOp .Mult) (rI IntMulOk λ i j=>.int (i*j)):=opI λ_ _ _ _ _ _ _ hc q=>mul_int q hc
theorem Ho{n k:Nat}(hk:0<k)(h:n<2^k):n.log2<k:=by
 rcases Nat.eq_zero_or_pos n with h0|hp
 .rw[h0];simpa using hk
 .exact(Nat.log2_lt (dG hp)).mpr h
theorem Hy{z:Int}{k:Nat}(hk:0<k)(h:z.natAbs<2^k):Builtin.Int.intBits z<=k:=by
 unfold Builtin.Int.intBits;split
 .exact aQ _
 .exact Ho hk h
theorem KM{a b:Int}(h1:a.natAbs<2^128)(h2:b.natAbs<2^128):IntMulOk a b:=by
 have e1:=Hy (by decide) h1;have e2:=Hy (by decide) h2;unfold IntMulOk Builtin.Int.intTooBig;intro h;simp only[aE,decide_eq_true_eq]at h;have h3:=h.2;have hb:(256:Int)<=(bitsLine:Int):=by decide +kernel
 lia
def tyO:Option HO->Option String
 |some (.lst _)=>some "list"
 |some (.frz _ (.lst _))=>some "list"
 |some (.tup _)=>some "tuple"
 |some (.dK _)=>some "dict"
 |some (.dT _)=>some "dict"
 |_=>none
def tyS(H:Hp):V->Option String
 |.non=>some "NoneType"
 |.bl _=>some "bool"
 |.int _=>some "int"
 |.str _=>some "str"
 |.ref a=>tyO (H a)
 |_=>none
theorem RJ{K:Frag}{H:Hp}{x:V}{T:String}(h:tyS H x=some T):FC K H x (.type T)/\(T="NoneType"\/T="bool"\/T="int"\/T="str"\/T="list"\/T="tuple"\/T="dict"):=by
 unfold tyS at h;split at h
 .cases h;exact⟨.non,by simp⟩
 .cases h;exact⟨.bl _,by simp⟩
 .cases h;exact⟨.int _,by simp⟩
 .cases h;exact⟨.str _,by simp⟩
 .unfold tyO at h;split at h
  .rename_i e;cases h;exact⟨.lst e,by simp⟩
  .rename_i e;cases h;exact⟨.frz e,by simp⟩
  .rename_i e;cases h;exact⟨.tup e,by simp⟩
  .rename_i e;cases h;exact⟨.dK e,by simp⟩
  .rename_i e;cases h;exact⟨.dT e,by simp⟩
  .cases h
 .cases h
def isB(T c:String):Bool:=decide (T=c)||(decide (T="bool")&&decide (c="int"))
theorem S2:isB "tuple" "tuple"=true:=by decide
theorem QP{K:Frag}{T c:String}(h:T="NoneType"\/T="bool"\/T="int"\/T="str"\/T="list"\/T="tuple"\/T="dict")(hc:c="int"\/c="bool"\/c="tuple"\/c="list"\/c="str") :
  kitOne K (.type T) (.type c)=some (isB T c):=by
 rcases h with rfl|rfl|rfl|rfl|rfl|rfl|rfl<;>rcases hc with rfl|rfl|rfl|rfl|rfl<;>rfl
inductive RE(xs:LUz)(H:Hp)(Q:VK):Prop
 |mk (x:V) (T c:String) (e:xs=[x,.ty c]) (t:tyS H x=some T) (h:c="int"\/c="bool"\/c="tuple"\/c="list"\/c="str") (q:Q (.bl (isB T c)) H):RE xs H Q
theorem F9:BP X (.builtin "isinstance") (λ xs H Q=>RE xs H Q):=by
 intro pins s σ H xs us Q I r h;obtain⟨x,T,c,rfl,hT,hc,q⟩:=h;obtain⟨u,w',rfl,rx,ry⟩:=Ot r;cases(show w'=Value.type c from ry);obtain⟨ty,hl⟩:=RJ (K:=X.K) hT;exact NR I rx ty (QP hl hc) λ tk=>⟨.bl (isB T c),H,I.tok tk,rfl,q⟩
theorem Ol{bs:List Bool}{its:LWz}(r:Vals (bs.map V.bl) its){i:Nat}{v:Value}(h:its.toArray[i]?=some v):v=.bool (bs.getD i false):=by
 have hl:=r.length;have hi:i<its.length:=by
  have:=(cP.mp h).1
  simpa using this
 have hb:bs[i]?=some (bs.getD i false):=by
  have:i<bs.length:=by rw[aa]at hl;lia
  rw[aS,ag this];rfl
 obtain⟨u,hu,ru⟩:=r.get (i:=i) (x:=.bl (bs.getD i false)) (by rw[ay,hb];rfl);have h':its[i]?=some v:=by simpa using h
 rw[h']at hu;cases hu;exact ru
theorem N1{α:Type}(bs:List Bool):(List.range bs.length).all (λ i=>bs.getD i false)=bs.all id:=by
 have e:(List.range bs.length).map (λ i=>bs.getD i false)=bs:=by
  apply cB;intro i;rw[ay];by_cases h:i<bs.length
  .rw[cJ h,ag h,bJ,aS,ag h];rfl
  .rw[bj (by simpa using h),bj (by lia)];rfl
 conv=>rhs;rw[<-e]
 rw[List.all_map];rfl
theorem N0{α:Type}(bs:List Bool):(List.range bs.length).any (λ i=>bs.getD i false)=bs.any id:=by
 have e:(List.range bs.length).map (λ i=>bs.getD i false)=bs:=by
  apply cB;intro i;rw[ay];by_cases h:i<bs.length
  .rw[cJ h,ag h,bJ,aS,ag h];rfl
  .rw[bj (by simpa using h),bj (by lia)];rfl
 conv=>rhs;rw[<-e]
 rw[da];rfl
theorem FE{prog:Program}{w:World}{A:Around}{bs:List Bool}{its:LWz}(r:Vals (bs.map V.bl) its):TruthOf prog w A (λ i v=>its.toArray[i]?=some v) (λ i=>bs.getD i false):=by
 intro i v s Q E hv hq;have e:=Ol r hv;subst e;exact wpAny_truthy_bool hq
theorem PV:BP X (.builtin "all") (λ xs H Q=>∃(p:Addr)(bs:List Bool),xs=[.ref p]/\SqL X.K H p (bs.map V.bl)/\X.calm=true/\Q (.bl (bs.all id)) H):=by
 intro pins s σ H xs us Q I r h;obtain⟨p,bs,rfl,hp,hc,q⟩:=h;obtain⟨u,rfl,ru⟩:=Dl r;cases ru;obtain⟨its,rv,pl,hz⟩:=I.list hp;have hl:=rv.length;rw[aa]at hl;refine call_all_walk (wpAny_pyIter_list pl.isList ?_);have hlt:p<s.heap.objs.size:=by obtain⟨o,ho,_⟩:=pl.isList;exact aq ho
 refine⟨s.heap.objs.size,_,_,_,_,_,_,rfl,Walks.list (show X.A.in1.handled=none from I.ok.hd hc) s.heap.objs.size p (aB hlt) its.toArray,⟨⟨_,au _ rfl,rfl,rfl⟩,let ⟨o,ho,r⟩:=pl.isList;⟨o,ae _ ho,r⟩⟩,FE rv,λ h' tk k=>?_⟩;refine⟨.bl (bs.all id),H,I.kept (t':=tk) λ b o e=>k b o (λ z=>?_) (ae _ e),?_,q⟩
 .have:b=s.heap.objs.size:=by simpa using z
  exact absurd (this ▸ aq e) (bE _)
 .show Value.bool _=Value.bool _;rw[ak,<-hl,N1 (α:=Nat)]
theorem HW:BP X (.builtin "any") (λ xs H Q=>∃(p:Addr)(bs:List Bool),xs=[.ref p]/\SqL X.K H p (bs.map V.bl)/\X.calm=true/\Q (.bl (bs.any id)) H):=by
 intro pins s σ H xs us Q I r h;obtain⟨p,bs,rfl,hp,hc,q⟩:=h;obtain⟨u,rfl,ru⟩:=Dl r;cases ru;obtain⟨its,rv,pl,hz⟩:=I.list hp;have hl:=rv.length;rw[aa]at hl;refine call_any_walk (wpAny_pyIter_list pl.isList ?_);have hlt:p<s.heap.objs.size:=by obtain⟨o,ho,_⟩:=pl.isList;exact aq ho
 refine⟨s.heap.objs.size,_,_,_,_,_,_,rfl,Walks.list (show X.A.in1.handled=none from I.ok.hd hc) s.heap.objs.size p (aB hlt) its.toArray,⟨⟨_,au _ rfl,rfl,rfl⟩,let ⟨o,ho,r⟩:=pl.isList;⟨o,ae _ ho,r⟩⟩,FE rv,λ h' tk k=>?_⟩;refine⟨.bl (bs.any id),H,I.kept (t':=tk) λ b o e=>k b o (λ z=>?_) (ae _ e),?_,q⟩
 .have:b=s.heap.objs.size:=by simpa using z
  exact absurd (this ▸ aq e) (bE _)
 .show Value.bool _=Value.bool _;rw[ak,<-hl,N0 (α:=Nat)]
end
structure Ao(P:Program)(w:World)(K:Frag)(mg:MGz)(base:Heap)(k:Nat)(x:Str)(ps:LSz)(sp:Sp):Prop where
 ex:∃(f:Addr)(fd:FuncData),A2 P w K mg base CX0 k f fd ps sp/\mg x=some (.ref f)/\keepIn K (.ref f)=true/\Binds K fd ps []
section
variable{X:Cx}{k j:Nat}{x:Str}{ps:LSz}{sp:Sp}{p pos:Pos}{e:Expr}{es:List Expr}{t:TA}
theorem Ap(D:Ao X.prog X.w X.K X.mg X.base k x ps sp)(hr:Room j X.A)(ha:PA X (e::es) t)(hj:k<=j:=by decide)(hg:Gl X x:=by rfl)(hdb:(x==("__debug__":Str))=false:=by decide)
  (he:starEach (e::es) X.env=(false,eval e X.env)::starEach es X.env:=by rfl) (hpl:(backTo pos (starEach es X.env)).any (·.1)=false:=by rfl):PE X (.Call (.Name x p) (e::es) [] pos) (Rw sp [] E0 t):=by
 obtain⟨f,fd,F,hm,hk,hb⟩:=D.ex;exact QD F (hr.mono hj) hg hm hk hb .nil K3 ha hdb he hpl
end
theorem A1{xs:LUz}(n:Nat)(h:xs.length=n:=by rfl)(h2:n<=1000:=by decide):xs.length<=sizeLine:=by rw[h];exact aM (Al h2)
theorem Cq{c:Bool}{A B:Prop}(h:c=true)(a:A):if c=true then A else B:=by rw[if_pos h];exact a
theorem Bm{c:Bool}{A B:Prop}(h:c=false)(b:B):if c=true then A else B:=by rw[if_neg (by rw[h];exact ao)];exact b
theorem B0{c:Bool}{A B:Prop}(h1:c=true->A)(h2:c=false->B):if c=true then A else B:=by
 cases c with
 |true=>exact S1 (h1 rfl)
 |false=>exact Px (h2 rfl)
theorem decI{i j:Int}:decide (V.int i=V.int j)=true↔i=j:=by
 rw[decide_eq_true_eq];exact⟨λ h=>by injection h,λ h=>by rw[h]⟩
def SameX(p:Addr)(H H':Hp):Prop:=∀b o,b≠p->H b=some o->H' b=some o
theorem SameX.refl{p:Addr}{H:Hp}:SameX p H H:=λ_ _ _ h=>h
theorem SameX.trans{p:Addr}{H H1 H2:Hp}(a:SameX p H H1)(b:SameX p H1 H2):SameX p H H2:=λ c o n h=>b c o n (a c o n h)
theorem SameX.upd{p:Addr}{H:Hp}{o:HO}:SameX p H (upd H p o):=λ b u n h=>by rw[Af n];exact h
theorem SameX.new{p l:Addr}{H:Hp}{o:HO}(h:H l=none):SameX p H (L2.upd H l o):=λ b u _ e=>by rw[Af (Ag e h)];exact e
theorem Same.new{l:Addr}{H:Hp}{o:HO}(h:H l=none):Same H (L2.upd H l o):=λ b u e=>by rw[Af (Ag e h)];exact e
theorem Same.x{p:Addr}{H H':Hp}(a:Same H H'):SameX p H H':=λ b o _ e=>a b o e
def cW(acc:Addr)(n:Nat)(Pv:Nat->LUz->St->Hp->Prop)(i m:Nat)(σ:St)(H:Hp):Prop:=i<=n/\m=n-i/\∃xs,xs.length=i/\H acc=some (.lst xs)/\Pv i xs σ H
def cNx(acc:Addr)(n:Nat)(Pv:Nat->LUz->St->Hp->Prop)(i:Nat)(σ:St)(v:V)(H:Hp):Prop:=∃xs,H acc=some (.lst xs)/\xs.length<sizeLine/\∃m',m'<n-i/\cW acc n Pv (i+1) m' σ (upd H acc (.lst (xs++[v])))
theorem cNx.mk{acc:Addr}{n:Nat}{Pv:Nat->LUz->St->Hp->Prop}{i:Nat}{σ:St}{v:V}{H:Hp}{xs:LUz}(hn:n<=sizeLine)(hi:i<n)(hl:xs.length=i)(ha:H acc=some (.lst xs))(hp:Pv (i+1) (xs++[v]) σ (upd H acc (.lst (xs++[v])))) :
  cNx acc n Pv i σ v H:=⟨xs,ha,by lia,n-(i+1),by lia,hi,rfl,xs++[v],by rw[av,hl];rfl,Ad,hp⟩
theorem HQ{lo:Int}{n:Nat}{g:TG}{te:TE}{σ:St}{H1:Hp}{acc:Addr}{Qr:Hp->Prop}(Pv:Nat->LUz->St->Hp->Prop)(h0:Pv 0 [] σ (upd H1 acc (.lst [])))
  (hs:∀i xs σ H,i<n->xs.length=i->H acc=some (.lst xs)->Pv i xs σ H->g (.int (lo+i)) σ H λ σ2 H2=>te σ2 H2 λ v H3=>cNx acc n Pv i σ2 v H3)
  (hd:∀xs σ H,xs.length=n->H acc=some (.lst xs)->Pv n xs σ H->Qr H) :
  ∃W:Nat->Nat->St->Hp->Prop,(∃m,W 0 m σ (upd H1 acc (.lst [])))/\∀i m σ1 H2,W i m σ1 H2 ->
   ((Itr lo n).stop i H2/\Qr H2)\/((Itr lo n).go i H2/\∀x H3,(Itr lo n).yld i H2 x H3->g x σ1 H3 λ σ4 H4=>te σ4 H4 λ v H5=>∃xs,H5 acc=some (.lst xs)/\xs.length<sizeLine/\∃m',m'<m/\W (i+1) m' σ4 (upd H5 acc (.lst (xs++[v])))):=by
 refine⟨cW acc n Pv,⟨n,aQ _,rfl,[],rfl,Ad,h0⟩,?_⟩;rintro i m σ1 H2 ⟨hi,rfl,xs,hl,ha,hp⟩;rcases cO i n with h|h
 .refine .inr ⟨h,?_⟩;rintro x H3 ⟨rfl,rfl⟩;exact hs i xs σ1 H3 h hl ha hp
 .have e:i=n:=b8 hi h;subst e;exact .inl ⟨ah _,hd xs σ1 H2 hl ha hp⟩
theorem AN{K:Frag}{a:Addr}{ys:LUz}{g:TG}{te:TE}{σ:St}{H1:Hp}{acc:Addr}{Qr:Hp->Prop}(Pv:Nat->LUz->St->Hp->Prop)(h0:Pv 0 [] σ (upd H1 acc (.lst [])))
  (hq:∀i xs σ H,i<=ys.length->H acc=some (.lst xs)->Pv i xs σ H->SqL K H a ys)
  (hs:∀i x xs σ H,ys[i]?=some x->i<ys.length->xs.length=i->H acc=some (.lst xs)->Pv i xs σ H->g x σ H λ σ2 H2=>te σ2 H2 λ v H3=>cNx acc ys.length Pv i σ2 v H3)
  (hd:∀xs σ H,xs.length=ys.length->H acc=some (.lst xs)->Pv ys.length xs σ H->Qr H) :
  ∃W:Nat->Nat->St->Hp->Prop,(∃m,W 0 m σ (upd H1 acc (.lst [])))/\∀i m σ1 H2,W i m σ1 H2 ->
   ((Itl K a).stop i H2/\Qr H2)\/((Itl K a).go i H2/\∀x H3,(Itl K a).yld i H2 x H3->g x σ1 H3 λ σ4 H4=>te σ4 H4 λ v H5=>∃xs,H5 acc=some (.lst xs)/\xs.length<sizeLine/\∃m',m'<m/\W (i+1) m' σ4 (upd H5 acc (.lst (xs++[v])))):=by
 refine⟨cW acc ys.length Pv,⟨ys.length,aQ _,rfl,[],rfl,Ad,h0⟩,?_⟩;rintro i m σ1 H2 ⟨hi,rfl,xs,hl,ha,hp⟩;have hsq:=hq i xs σ1 H2 hi ha hp;rcases cO i ys.length with h|h
 .refine .inr ⟨⟨ys,ys[i],hsq,ag h⟩,?_⟩;rintro x H3 ⟨rfl,hx⟩;exact hs i x xs σ1 H3 (hx ys hsq) h hl ha hp
 .have e:i=ys.length:=b8 hi h;subst e;exact .inl ⟨⟨ys,hsq,ah _⟩,hd xs σ1 H2 hl ha hp⟩
theorem PR{K:Frag}{a:Addr}{ys:LUz}{g:TG}{te:TE}{σ:St}{H1:Hp}{acc:Addr}{Qr:Hp->Prop}(Pv:Nat->LUz->St->Hp->Prop)(h0:Pv 0 [] σ (upd H1 acc (.lst [])))
  (hq:∀i xs σ H,i<=ys.length->H acc=some (.lst xs)->Pv i xs σ H->SqT K H a ys)
  (hs:∀i x xs σ H,ys[i]?=some x->i<ys.length->xs.length=i->H acc=some (.lst xs)->Pv i xs σ H->g x σ H λ σ2 H2=>te σ2 H2 λ v H3=>cNx acc ys.length Pv i σ2 v H3)
  (hd:∀xs σ H,xs.length=ys.length->H acc=some (.lst xs)->Pv ys.length xs σ H->Qr H) :
  ∃W:Nat->Nat->St->Hp->Prop,(∃m,W 0 m σ (upd H1 acc (.lst [])))/\∀i m σ1 H2,W i m σ1 H2 ->
   ((Itt K a).stop i H2/\Qr H2)\/((Itt K a).go i H2/\∀x H3,(Itt K a).yld i H2 x H3->g x σ1 H3 λ σ4 H4=>te σ4 H4 λ v H5=>∃xs,H5 acc=some (.lst xs)/\xs.length<sizeLine/\∃m',m'<m/\W (i+1) m' σ4 (upd H5 acc (.lst (xs++[v])))):=by
 refine⟨cW acc ys.length Pv,⟨ys.length,aQ _,rfl,[],rfl,Ad,h0⟩,?_⟩;rintro i m σ1 H2 ⟨hi,rfl,xs,hl,ha,hp⟩;have hsq:=hq i xs σ1 H2 hi ha hp;rcases cO i ys.length with h|h
 .refine .inr ⟨⟨ys,ys[i],hsq,ag h⟩,?_⟩;rintro x H3 ⟨rfl,hx⟩;exact hs i x xs σ1 H3 (hx ys hsq) h hl ha hp
 .have e:i=ys.length:=b8 hi h;subst e;exact .inl ⟨⟨ys,hsq,ah _⟩,hd xs σ1 H2 hl ha hp⟩
section
variable{cmp:Nat->Nat->(Bool->Shared->Prop)->Shared->Prop}{key:Nat->Int}{N:Nat}{s:Shared}
def KP(key:Nat->Int)(p:Array Nat)(i:Nat):Int:=key (p.getD i 0)
def PermN(N:Nat)(p:Array Nat):Prop:=p.toList.Perm (List.range N)
theorem PermN.size{p:Array Nat}(h:PermN N p):p.size=N:=by
 have:=List.Perm.length_eq h;rw[cz]at this
 simpa using this
theorem PermN.lt{p:Array Nat}(h:PermN N p){i:Nat}(hi:i<N):p.getD i 0<N:=by
 have hs:=h.size;have hi':i<p.size:=by lia
 have e:p.getD i 0=p[i]:=by simp[Array.getD,hi']
 rw[e];have hm:p[i]∈p.toList:=by simp
 exact bi.mp ((List.Perm.mem_iff h).mp hm)
theorem PermN.of{p q:Array Nat}(h:PermN N p)(hq:q.Perm p):PermN N q:=(Array.perm_iff_toList_perm.mp hq).trans h
def Ib(key:Nat->Int)(p:Array Nat)(k:Nat):Prop:=∀i j,i<=j->j<k->KP key p i<=KP key p j
def Mj(key:Nat->Int)(p:Array Nat)(k:Nat):Prop:=∀i j,i<=j->j<k->KP key p j<=KP key p i
theorem DH{p q:Array Nat}{i j:Nat}(h:p[i]?=q[j]?):KP key p i=KP key q j:=by
 unfold KP;rw[cM,cM,h]
theorem Ic{p:Array Nat}{i j:Nat}(hj:j<=p.size)(k:Nat):KP key (kas_rev p i j) k=if i<=k/\k<j then KP key p (i+j-1-k) else KP key p k:=by
 have e:=getElem?_mirror_all (i:=i) hj k;by_cases h:i<=k/\k<j
 .rw[if_pos h]at e |-;exact DH e
 .rw[if_neg h]at e |-;exact DH e
theorem Jh{p:Array Nat}{src d:Nat}(hs:src<p.size)(hd:d<=src)(k:Nat) :
  KP key (bubble p src d) k=if k=src-d then KP key p src else if src-d<k/\k<=src then KP key p (k-1) else KP key p k:=by
 have e:=getElem?_bubble hs d hd k;by_cases h1:k=src-d
 .rw[if_pos h1]at e |-;exact DH e
 .rw[if_neg h1]at e |-;by_cases h2:src-d<k/\k<=src
  .rw[if_pos h2]at e |-;exact DH e
  .rw[if_neg h2]at e |-;exact DH e
theorem PermN.rev{p:Array Nat}(h:PermN N p)(i j:Nat):PermN N (kas_rev p i j):=h.of (mirror_perm _ _ _ _)
theorem PermN.bub{p:Array Nat}(h:PermN N p)(i j:Nat):PermN N (bubble p i j):=h.of (bubble_perm _ _ _)
theorem Qx{p:Array Nat}{n:Nat}(h:Ib key p n)(hn:1<=n)(hc:KP key p (n-1)<=KP key p n):Ib key p (n+1):=λ i j hij hj=>by
 by_cases e:j=n
 .subst e;by_cases e2:i=j
  .subst e2;exact bf _
  .exact dL (h i (j-1) (by lia) (by lia)) hc
 .exact h i j hij (by lia)
theorem Gq{p:Array Nat}{n:Nat}(h:Mj key p n)(hn:1<=n)(hc:KP key p n<=KP key p (n-1)):Mj key p (n+1):=λ i j hij hj=>by
 by_cases e:j=n
 .subst e;by_cases e2:i=j
  .subst e2;exact bf _
  .exact dL hc (h i (j-1) (by lia) (by lia))
 .exact h i j hij (by lia)
variable(hcmp:∀i j (C:Bool->Shared->Prop),i<N->j<N->C (decide (key i<key j)) s->cmp i j C s)
include hcmp
theorem Mh{p:Array Nat}(hp:PermN N p){G:Nat->Shared->Prop}:∀(f n:Nat),1<=n->n+f<=N->Ib key p n->(∀m,n<=m->m<=n+f->Ib key p m->(m<n+f->KP key p m<KP key p (m-1))->G m s)->(kas_asc p f n).kasWp cmp G s
 |0,n,h1,hn,hs,hG=>hG n (ah _) (by lia) hs (λ h=>absurd h (by lia))
 |f+1,n,h1,hn,hs,hG=>by
  show cmp _ _ _ s;refine hcmp _ _ _ (hp.lt (by lia)) (hp.lt (by lia)) ?_;by_cases h:key (p.getD n 0)<key (p.getD (n-1) 0)
  .rw[decide_eq_true h];simp only[if_true];exact hG n (ah _) (by lia) hs λ_=>h
  .rw[decide_eq_false h];simp only[aL,if_false];exact Mh hp f (n+1) (by lia) (by lia) (Qx hs h1 (by unfold KP;lia)) λ m a b c d=>hG m (by lia) (by lia) c λ z=>d (by lia)
theorem Kk{p:Array Nat}(hp:PermN N p){n:Nat}(h1:1<=n)(hn:n<=N)(hs:Mj key p n){G:Nat×Array Nat->Shared->Prop}(hG:∀m q,1<=m->m<=N->PermN N q->Ib key q m->G (m,q) s):(kas_tail3 n N p).kasWp cmp G s:=by
 unfold kas_tail3;rw[KasT.kasWp_bind];have hz:=hp.size;refine Mh hcmp (hp.rev 0 n) (N-n) n h1 (by lia) (λ i j hij hj=>?_) λ m a b c _=>hG m _ (by lia) (by lia) (hp.rev 0 n) c;rw[Ic (by lia),Ic (by lia),if_pos (by lia),if_pos (by lia)];exact hs _ _ (by lia) (by lia)
theorem Gx{G:Array Nat×Nat×Nat->Shared->Prop}:∀(f:Nat)(p:Array Nat)(n q:Nat),PermN N p->1<=n->n+f<=N->q<n->Mj key p n->(∀i,n-1-q<=i->i<n->KP key p i=KP key p (n-1)) ->
  (∀p' m r,PermN N p'->1<=m->m<=N->r<m->Mj key p' m->(∀i,m-1-r<=i->i<m->KP key p' i=KP key p' (m-1))->G (p',m,r) s)->(kas_desc f p n q).kasWp cmp G s
 |0,p,n,q,hp,h1,hn,hq,hs,he,hG=>hG p n q hp h1 (by lia) hq hs he
 |f+1,p,n,q,hp,h1,hn,hq,hs,he,hG=>by
  have hz:=hp.size;show cmp _ _ _ s;refine hcmp _ _ _ (hp.lt (by lia)) (hp.lt (by lia)) ?_;by_cases h:key (p.getD n 0)<key (p.getD (n-1) 0)
  .rw[decide_eq_true h];simp only[if_true];have h':KP key p n<KP key p (n-1):=h;have key1:Mj key p (n+1):=Gq hs h1 (by lia);by_cases hq0:q>0
   .rw[if_pos hq0];have same:∀k,KP key (kas_rev p (n-(q+1)) n) k=KP key p k:=λ k=>by
     rw[Ic (by lia)];split
     .rw[he _ (by lia) (by lia),he k (by lia) (by lia)]
     .rfl
    refine Gx f _ (n+1) 0 (hp.rev _ _) (by lia) (by lia) (by lia) (λ i j hij hj=>?_) (λ i a b=>?_) hG
    .rw[same,same];exact key1 i j hij hj
    .rw[show i=n+1-1 by lia]
   .rw[if_neg hq0];exact Gx f _ (n+1) 0 hp (by lia) (by lia) (by lia) key1 (λ i a b=>by rw[show i=n+1-1 by lia]) hG
  .rw[decide_eq_false h];simp only[aL,if_false];show cmp _ _ _ s;refine hcmp _ _ _ (hp.lt (by lia)) (hp.lt (by lia)) ?_;by_cases h2:key (p.getD (n-1) 0)<key (p.getD n 0)
   .rw[decide_eq_true h2];simp only[if_true];exact hG p n q hp h1 (by lia) hq hs he
   .rw[decide_eq_false h2];simp only[aL,if_false];have e:KP key p n=KP key p (n-1):=by unfold KP;lia
    refine Gx f p (n+1) (q+1) hp (by lia) (by lia) (by lia) (Gq hs h1 (by lia)) (λ i a b=>?_) hG;by_cases hi:i=n
    .subst hi;rfl
    .rw[he i (by lia) (by lia),<-e];rfl
theorem FO{p:Array Nat}(hp:PermN N p){n:Nat}(hn:n+1<=N)(hs:Mj key p (n+1)){G:Nat×Array Nat->Shared->Prop}(hG:∀m q,1<=m->m<=N->PermN N q->Ib key q m->G (m,q) s):(kas_descPart n N p).kasWp cmp G s:=by
 unfold kas_descPart;rw[KasT.kasWp_bind];refine Gx hcmp (N-(n+1)) p (n+1) 0 hp (by lia) (by lia) (by lia) hs (λ i a b=>by rw[show i=n+1-1 by lia]) λ p' m r hp' h1 hm hr hs' he=>?_;dsimp only;have hz:=hp'.size;split
 .have same:∀k,KP key (kas_rev p' (m-(r+1)) m) k=KP key p' k:=λ k=>by
   rw[Ic (by lia)];split
   .rw[he _ (by lia) (by lia),he k (by lia) (by lia)]
   .rfl
  exact Kk hcmp (hp'.rev _ _) h1 hm (λ i j hij hj=>by rw[same,same];exact hs' i j hij hj) hG
 .exact Kk hcmp hp' h1 hm hs' hG
theorem PQ{p:Array Nat}(hp:PermN N p)(h1:1<=N){G:Nat×Array Nat->Shared->Prop}(hG:∀m q,1<=m->m<=N->PermN N q->Ib key q m->G (m,q) s):(kas_count N p).kasWp cmp G s:=by
 unfold kas_count;rw[KasT.kasWp_bind];have hz:=hp.size;refine Mh hcmp hp (N-1) 1 (ah _) (by lia) (λ i j hij hj=>by rw[show i=j by lia];exact bf _) λ m a b c d=>?_;split
 .exact hG m p a (by lia) hp c
 .rename_i hne;have hm:m<N:=by
   have:m≠N:=λ e=>hne (by rw[e];exact beq_self_eq_true _);lia
  have hd:=d (by lia);split
  .show cmp _ _ _ s;refine hcmp _ _ _ (hp.lt (by lia)) (hp.lt (by lia)) ?_;by_cases h:key (p.getD 0 0)<key (p.getD (m-1) 0)
   .rw[decide_eq_true h];simp only[if_true];exact hG m p a (by lia) hp c
   .rw[decide_eq_false h];simp only[aL,if_false];have h':KP key p (m-1)<=KP key p 0:=by unfold KP;lia
    have eqs:∀i,i<m->KP key p i=KP key p 0:=λ i hi=>Int.le_antisymm (dL (c i (m-1) (by lia) (by lia)) h') (c 0 i (by lia) hi);have same:∀k,KP key (kas_rev p 0 m) k=KP key p k:=λ k=>by
     rw[Ic (by lia)];split
     .rw[eqs _ (by lia),eqs k (by lia)]
     .rfl
    refine FO hcmp (hp.rev 0 m) (by lia) (Gq (λ i j hij hj=>?_) a ?_) hG
    .rw[same,same,eqs i (by lia),eqs j (by lia)];exact bf _
    .rw[same,same];lia
  .have em:m=1:=by lia
   subst em;exact FO hcmp hp (by lia) (Gq (λ i j hij hj=>by rw[show i=j by lia];exact bf _) (ah _) (by lia)) hG
theorem GR{p:Array Nat}(hp:PermN N p){k:Nat}(hk:k<N)(hs:Ib key p k){G:Nat->Shared->Prop}(hG:∀l,l<=k->(∀i,i<l->KP key p i<=KP key p k)->(∀i,l<=i->i<k->KP key p k<KP key p i)->G l s) :
  ∀(f l r:Nat),r-l<=f->l<=r->r<=k->(∀i,i<l->KP key p i<=KP key p k)->(∀i,r<=i->i<k->KP key p k<KP key p i)->(kas_place p k f l r).kasWp cmp G s
 |0,l,r,hf,hlr,hr,ha,hb=>hG l (by lia) ha λ i h1 h2=>hb i (by lia) h2
 |f+1,l,r,hf,hlr,hr,ha,hb=>by
  unfold kas_place;split
  .exact hG l (by lia) ha λ i h1 h2=>hb i (by lia) h2
  .show cmp _ _ _ s;refine hcmp _ _ _ (hp.lt hk) (hp.lt (by lia)) ?_;by_cases h:key (p.getD k 0)<key (p.getD ((l+r) / 2) 0)
   .rw[decide_eq_true h];simp only[if_true];refine GR hp hk hs hG f l ((l+r) / 2) (by lia) (by lia) (by lia) ha λ i h1 h2=>?_;exact Int.lt_of_lt_of_le h (hs _ i h1 h2)
   .rw[decide_eq_false h];simp only[aL,if_false];refine GR hp hk hs hG f ((l+r) / 2+1) r (by lia) (by lia) hr (λ i h1=>?_) hb;have h2:=hs i ((l+r) / 2) (by lia) (by lia);have h3:KP key p ((l+r) / 2)<=KP key p k:=by unfold KP;lia
    lia
theorem Qa{G:Array Nat->Shared->Prop}(hG:∀q,PermN N q->Ib key q N->G q s):∀(f:Nat)(p:Array Nat)(k:Nat),PermN N p->k+f=N->Ib key p k->(kas_bin f p k).kasWp cmp G s
 |0,p,k,hp,hk,hs=>hG p hp (by rw[<-hk];exact hs)
 |f+1,p,k,hp,hk,hs=>by
  unfold kas_bin;rw[KasT.kasWp_bind];have hz:=hp.size;refine GR hcmp hp (by lia) hs (λ l hl ha hb=>?_) k 0 k (by lia) (by lia) (ah _) (λ i h=>absurd h (by lia)) λ i h1 h2=>absurd h1 (by lia);refine Qa hG f _ (k+1) (hp.bub _ _) (by lia) λ i j hij hj=>?_;rw[Jh (by lia) (by lia),Jh (by lia) (by lia),show k-(k-l)=l by lia];by_cases i1:i=l
  .rw[if_pos i1];by_cases j1:j=l
   .rw[if_pos j1];exact bf _
   .rw[if_neg j1,if_pos (by lia)];exact Int.le_of_lt (hb _ (by lia) (by lia))
  .rw[if_neg i1];by_cases i2:l<i/\i<=k
   .rw[if_pos i2,if_neg (by lia),if_pos (by lia)];exact hs _ _ (by lia) (by lia)
   .rw[if_neg i2];by_cases j1:j=l
    .rw[if_pos j1];exact ha i (by lia)
    .rw[if_neg j1];by_cases j2:l<j/\j<=k
     .rw[if_pos j2];exact hs _ _ (by lia) (by lia)
     .rw[if_neg j2];exact hs _ _ hij (by lia)
theorem KY(h1:1<=N){G:Array Nat->Shared->Prop}(hG:∀q:Array Nat,PermN N q->(q.toList.map key).Pairwise (·<=·)->G q s):(kas_sort N).kasWp cmp G s:=by
 have p0:PermN N (List.toArray (List.range N)):=by show List.Perm _ _;simp
 have hG':∀q,PermN N q->Ib key q N->G q s:=λ q hq hs=>hG q hq (by
  have hz:=hq.size;rw[cq];intro i j hi hj hij;have hi':i<q.size:=by simpa using hi
  have hj':j<q.size:=by simpa using hj
  have:=hs i j (by lia) (by lia);unfold KP at this;rw[show q.getD i 0=q[i] by simp[Array.getD,hi'],show q.getD j 0=q[j] by simp[Array.getD,hj']]at this
  simpa using this)
 unfold kas_sort;rw[KasT.kasWp_bind];refine PQ hcmp p0 h1 λ m q hm1 hm2 hq hs=>?_;dsimp only;split
 .exact Qa hcmp hG' _ q _ hq (by lia) (by rw[show max m 1=m by lia];exact hs)
 .exact hG' q hq (by rw[show N=m by lia];exact hs)
end
section
variable{prog:Program}{w:World}{A:Around}{E:VPz}{s:Shared}
def Bp(h:Heap)(a:Addr)(vs:LWz):Heap:=((h.update a (Obj.mapSeq λ_=>#[])).push (seqObj "tuple" vs.toArray 0)).push (seqObj "list" #[] 0)
theorem JP{h:Heap}{a b:Addr}{vs:LWz}{o:Obj}(hb:b≠a)(e:h.get? b=some o):(Bp h a vs).get? b=some o:=by
 unfold Bp;exact ae _ (ae _ (by rw[cu _ _ _ _ hb];exact e))
theorem OO(vs:LWz):(List.range vs.length).map (λ i=>vs.getD i Value.none)=vs:=by
 apply cB;intro i;rw[ay];by_cases h:i<vs.length
 .rw[cJ h,bJ,aS,ag h];rfl
 .rw[bj (by simpa using h),bj (by lia)];rfl
theorem Gk{a:Addr}{vs:LWz}{n:Nat}{P:PySem.Fin->Shared->Prop}{κ:SortKind}{key:Nat->Int}(ho:s.heap.get? a=some (seqObj "list" vs.toArray n))(h64:vs.length<64)
  (hK:∀(Q:SortKind->Shared->Prop)(E:VPz),2<=vs.length->Q κ { s with heap:=Bp s.heap a vs }->wpAny (model prog w) A (keyKind' vs.toArray) Q E { s with heap:=Bp s.heap a vs })
  (hL:∀i j (C:Bool->Shared->Prop),i<vs.length->j<vs.length->C (decide (key i<key j)) { s with heap:=Bp s.heap a vs } ->
   wpAny (model prog w) A (keyLt' κ (vs.getD i Value.none) (vs.getD j Value.none)) C (λ_ _=>False) { s with heap:=Bp s.heap a vs })
  (h:∀q:Array Nat,PermN vs.length q->(q.toList.map key).Pairwise (·<=·)->P (.done (.ret .none)) { s with heap:=sortedHeap s.heap a vs (List.toArray (q.toList.map λ i=>vs.getD i Value.none)) }) :
  wpAny (model prog w) A (Builtin.«list.sort» ⟨[.ref a],[]⟩) P E s:=by
 rw[list_sort_plain];have ha:a<s.heap.objs.size:=aq ho;refine wpAny_bind (listItems_at ho rfl ?_);refine wpAny_bind (listUpdate_at ho rfl ?_ (by rw[ak,sizeLine_eq];lia) (aQ _));obtain⟨e1,ho1⟩:∃e1,(s.heap.update a (Obj.mapSeq λ_=>#[])).get? a=some (seqObj "list" #[] e1):=⟨_,get?_update_seq ho (λ_=>#[])⟩;refine wpAny_bind (seqEpoch_at ho1 rfl ?_);refine wpAny_bind (wpAny_newTuple ?_ (by show vs.length<=_;rw[sizeLine_eq];lia));refine wpAny_bind (wpAny_newList ?_ (aQ _));refine wpAny_holding ?_;have ho6:(Bp s.heap a vs).get? a=some (seqObj "list" #[] e1):=by
  unfold Bp;rw[cf _ _ _ (by rw[size_push',cZ];exact aB (bc ha)),cf _ _ _ (by rw[cZ];exact aB ha)];exact ho1
 show wpAny (model prog w) A _ P E { s with heap:=Bp s.heap a vs };dsimp only;have hsz:vs.toArray.size=vs.length:=by simp
 by_cases h2:vs.toArray.size<2
 .rw[if_pos h2,if_pos h2];refine wpAny_bind (wpAny_pure ?_);rw[StateT.run_pure];refine wpAny_bind (wpAny_pure ?_);dsimp only;refine wpAny_bind (seqEpoch_at ho6 rfl ?_);refine wpAny_bind (listUpdate_at ho6 rfl ?_ (aQ _) (by rw[Array.size_map];show(pairsOf vs).size<=_;rw[pairsOf_size,sizeLine_eq];lia));simp only[bne_self_eq_false,aL,if_false];have hh:=h (List.toArray (List.range vs.length)) (by show List.Perm _ _;simp) (by
   rw[hsz]at h2;rcases(by lia:vs.length=0\/vs.length=1) with e|e<;>rw[e]<;>simp[bF])
  have e3:List.map (λ i=>vs.getD i Value.none) (List.range vs.length).toArray.toList=vs:=OO vs;rw[e3]at hh;have e2:(arrOf (SortSt.mk' general' (vs.toArray.zip vs.toArray) #[] 7 none)).map (·.2)=vs.toArray:=by
   show(vs.toArray.zip vs.toArray).map (·.2)=vs.toArray;apply Array.ext';simp[List.map_snd_zip]
  refine wpAny_pure ?_;rw[e2];exact hh
 .rw[if_neg h2,if_neg h2];have h2':2<=vs.length:=by lia
  refine wpAny_bind (hK _ _ h2' ?_);refine wpAny_bind (wpAny_mono (kat_run (ks:=vs) (vs:=vs) (Q:=λ st' s'=>s'={ s with heap:=Bp s.heap a vs }/\∃p:Array Nat,p.size=vs.length/\arrOf st'=p.map (kas_item (vs.toArray.zip vs.toArray))/\failedOf st'=none/\PermN vs.length p/\(p.toList.map key).Pairwise (·<=·))
   (G:=λ p s'=>s'={ s with heap:=Bp s.heap a vs }/\PermN vs.length p/\(p.toList.map key).Pairwise (·<=·)) rfl h2' h64 (λ p st' s' a1 a2 a3 a4=>⟨a4.1,p,a1,a2,a3,a4.2⟩)
   (KY (λ i j C hi hj hC=>hL i j C hi hj hC) (by lia) λ q hq hp=>⟨rfl,hq,hp⟩)) ?_ λ_ _ e=>e)
  rintro⟨⟨⟩,st'⟩ s' ⟨rfl,p,hp,har,hf,pp,ps⟩;dsimp only;have hout:=kat_snds rfl har;have hsz2:(List.toArray (p.toList.map λ i=>vs.getD i Value.none)).size=vs.length:=by rw[ak,aa,aV,hp]
  rw[hout];refine wpAny_bind (seqEpoch_at ho6 rfl ?_);refine wpAny_bind (listUpdate_at ho6 rfl ?_ (aQ _) (aR (dI hsz2) (by rw[sizeLine_eq];lia)));rw[hf];simp only[bne_self_eq_false,aL,if_false];exact wpAny_pure (h p pp ps)
theorem Qz{l:Addr}{vs:LWz}{κ:SortKind}{key:Nat->Int}{Q:VPz}(hl:s.heap.IsList l vs.toArray)(h64:vs.length<64)
  (hK:∀(h':Heap),(∀b o,s.heap.get? b=some o->h'.get? b=some o)->∀(A:Around)(Q:SortKind->Shared->Prop)(E:VPz),2<=vs.length->Q κ { s with heap:=h' }->wpAny (model prog w) A (keyKind' vs.toArray) Q E { s with heap:=h' })
  (hL:∀(h':Heap),(∀b o,s.heap.get? b=some o->h'.get? b=some o)->∀(A:Around) i j (C:Bool->Shared->Prop),i<vs.length->j<vs.length->C (decide (key i<key j)) { s with heap:=h' } ->
   wpAny (model prog w) A (keyLt' κ (vs.getD i Value.none) (vs.getD j Value.none)) C (λ_ _=>False) { s with heap:=h' })
  (h:∀q:Array Nat,PermN vs.length q->(q.toList.map key).Pairwise (·<=·)->Q (.ref (s.heap.objs.size+1)) { s with heap:=sortedAll s.heap vs (List.toArray (q.toList.map λ i=>vs.getD i Value.none)) }) :
  wpAny (model prog w) A (call (.builtin "sorted") [.ref l]) Q E s:=by
 refine Calls.call_function_entry kind_sorted plain_sorted entry_sorted (args_sorted1 _) ?_;unfold Builtin.«sorted»;refine wpAny_bind (m:=checkCount "sorted" 1 1 _) (wpAny_pure ?_);refine wpAny_bind (collect_list hl ?_ (by rw[sizeLine_eq];lia));refine wpAny_bind (wpAny_newList ?_ (by rw[sizeLine_eq];lia));have hsz:((s.heap.push (seqObj "list" #[] 0)).update s.heap.objs.size (Obj.mapSeq (·++vs.toArray))).objs.size=s.heap.objs.size+1:=by
  rw[cZ,size_push']
 have hoL:(((s.heap.push (seqObj "list" #[] 0)).update s.heap.objs.size (Obj.mapSeq (·++vs.toArray))).push (seqObj "list" vs.toArray 0)).get? (s.heap.objs.size+1)=some (seqObj "list" vs.toArray 0):=by
  rw[<-hsz];exact au _ rfl
 have keep:∀b o,s.heap.get? b=some o->(((s.heap.push (seqObj "list" #[] 0)).update s.heap.objs.size (Obj.mapSeq (·++vs.toArray))).push (seqObj "list" vs.toArray 0)).get? b=some o:=λ b o q=>by
  have hlt:b<s.heap.objs.size:=aq q;rw[cf _ _ _ (by rw[hsz];exact aB (bc hlt)),cu _ _ _ _ (aB hlt),cf _ _ _ (aB hlt)];exact q
 show wpAny _ _ _ _ _ { s with heap:=((s.heap.push (seqObj "list" #[] 0)).update s.heap.objs.size (Obj.mapSeq (·++vs.toArray))).push (seqObj "list" vs.toArray 0) };rw[hsz];have mid:∀b o,s.heap.get? b=some o->(Bp (((s.heap.push (seqObj "list" #[] 0)).update s.heap.objs.size (Obj.mapSeq (·++vs.toArray))).push (seqObj "list" vs.toArray 0)) (s.heap.objs.size+1) vs).get? b=some o:=λ b o q =>
  JP (aB (bc (aq q))) (keep b o q)
 refine wpAny_bind (wpAny_holding (wpAny_call_entry slot_list_sort ⟨_,hoL,rfl⟩ entry_list_sort (Gk (κ:=κ) (key:=key) (s:={ s with heap:=((s.heap.push (seqObj "list" #[] 0)).update s.heap.objs.size (Obj.mapSeq (·++vs.toArray))).push (seqObj "list" vs.toArray 0) }) hoL h64 (λ Q E h2 hq=>hK _ mid _ Q E h2 hq) (λ i j C hi hj hc=>hL _ mid _ i j C hi hj hc) λ q a1 a2=>⟨_,rfl,?_⟩) (args_list_sort _)));exact wpAny_pure ⟨_,rfl,h q a1 a2⟩
theorem FN{fin:Bool}{Q:Bool->Shared->Prop}(hf:fin=false):∀{vs ws:LWz}{ns ms:List Int}(i:Nat),IntsAre vs ns->IntsAre ws ms->ns.length=ms.length->Q (HT.lexLt ns ms) s->KatLex prog w A true fin Q (vs.zip ws) i s
 |_,_,_,_,i,.nil,.nil,_,hq=>by rw[HT.lexLt_nil_nil]at hq;rw[hf];exact hq
 |_,_,_,_,i,.cons n t hn,.cons m u hm,hl,hq=>by
  rw[dC];rw[HT.lexLt_cons]at hq;refine kat_cons (wpAny_eqBool_int (kat_go (λ e=>kat_yes ?_) λ e=>kat_no ?_))
  .have e':n=m:=by simpa using e
   rw[if_pos e']at hq;exact FN hf (i+1) hn hm (by simpa using hl) hq
  .have e':¬n=m:=by simpa using e
   rw[if_neg e']at hq;by_cases hi:i=0
   .subst hi;exact oneLt_int hq
   .have hb:(true&&i==0)=false:=by simp[hi]
    rw[hb];exact kat_one _ _ (lt_int hq)
end
section
variable{X:Cx}
theorem Fm:∀{ts:List Addr}{its:LWz},Vals (ts.map V.ref) its->its=ts.map Value.ref
 |[],_,.nil=>rfl
 |a::r,_,.cons h t=>by
  cases(show _=Value.ref a from h);rw[aA,Fm t]
theorem Ek:∀(ts:List Addr),Vals (ts.map V.ref) (ts.map Value.ref)
 |[]=>.nil
 |a::r=>.cons rfl (Ek r)
theorem Ht{h:Heap}{m:Nat}:∀{ts:List (Addr×List Int)},(∀t∈ts,t.2.length=m+1/\∃items,IsTup h t.1 items/\IntsAre items.toList t.2)->∃fs,KatTups h (ts.map λ t=>Value.ref t.1) fs/\fs.length=ts.length/\∀v∈fs,∃n tk,v=Value.int n tk
 |[],_=>⟨[],KatTups.nil,rfl,λ v hv=>nomatch hv⟩
 |t::r,hh=>by
  obtain⟨fs,h1,h2,h3⟩:=Ht (ts:=r) λ u hu=>hh u (aI _ hu);obtain⟨hl,items,⟨o,ho,hc,n,hd⟩,hi⟩:=hh t aD;obtain⟨x,tk,z,e⟩:∃(n:Int)(tk:Tok)(zs:LWz),items.toList=Value.int n tk::zs:=by
   generalize items.toList=vs at hi;generalize t.2=ns at hi hl;cases hi with
   |nil=>simp at hl
   |cons n tk hz=>exact⟨n,tk,_,rfl⟩
  have hf:items[0]?=some (Value.int x tk):=by
   rw[<-b9,e];rfl
  exact⟨_,KatTups.cons ho hc hd hf h1,by simp[h2],λ v hv=>by
   rcases aP.mp hv with rfl|hv
   .exact⟨x,tk,rfl⟩
   .exact h3 v hv⟩
theorem EW:BP X (.builtin "sorted") (λ xs H Q=>∃(p:Addr)(ts:List (Addr×List Int))(m:Nat)(key:List Int->Int),xs=[.ref p]/\SqL X.K H p (ts.map λ t=>V.ref t.1)/\ts.length<64 /\
  (∀t∈ts,t.2.length=m+1/\H t.1=some (.tup (t.2.map V.int)))/\(∀t∈ts,∀u∈ts,HT.lexLt t.2 u.2=decide (key t.2<key u.2)) /\
  ∀l (ts':List (Addr×List Int)),H l=none->ts'.Perm ts->(ts'.map λ t=>key t.2).Pairwise (·<=·)->Q (.ref l) (upd H l (.lst (ts'.map λ t=>V.ref t.1)))):=by
 intro pins s σ H xs us Q I r h;obtain⟨p,ts,m,key,rfl,hp,h64,ht,hkey,q⟩:=h;obtain⟨u,rfl,ru⟩:=Dl r;cases ru;obtain⟨its,rv,pl,hz⟩:=I.list hp;have hits:its=ts.map λ t=>Value.ref t.1:=by
  have:=Fm (ts:=ts.map (·.1)) (its:=its) (by rw[aJ];exact rv);rw[this,aJ];rfl
 have hlen:its.length=ts.length:=by rw[hits,aa]
 have tup:∀t∈ts,t.2.length=m+1/\∃items,IsTup s.heap t.1 items/\IntsAre items.toList t.2:=λ t htm=>by
  obtain⟨h1,h2⟩:=ht t htm;obtain⟨_,zs,rz,tz⟩:=(show ObjOk X.prog X.w H s.heap t.1 (.tup (t.2.map V.int)) from I.hok _ _ h2);exact⟨h1,_,tz,by simpa using Eu rz⟩
 have tupK:∀(h':Heap),(∀b o,s.heap.get? b=some o->h'.get? b=some o)->∀t∈ts,t.2.length=m+1/\∃items,IsTup h' t.1 items/\IntsAre items.toList t.2:=λ h' k t htm=>by
  obtain⟨h1,items,⟨o,e,c⟩,h3⟩:=tup t htm;exact⟨h1,items,⟨o,k _ _ e,c⟩,h3⟩
 refine Qz (κ:=tuples' true) (key:=λ i=>key ((ts.map (·.2)).getD i [])) pl.isList (by lia) (λ h' k A' Q' E' h2 hq=>?_) (λ h' k A' i j C hi hj hc=>?_) λ qq pq sq=>?_
 .obtain⟨fs,f1,f2,f3⟩:=Ht (tupK h' k);rw[hits];refine kat_kind (s:={ s with heap:=h' }) (T:=Value.type "int") f1 (by lia) (λ v hv=>?_) (by decide) hq;obtain⟨n,tk,rfl⟩:=f3 v hv;exact .now
 .have hi':i<ts.length:=by lia
  have hj':j<ts.length:=by lia
  obtain⟨l1,x1,⟨o1,e1,c1,n1,d1⟩,z1⟩:=tupK h' k _ (bH hi');obtain⟨l2,x2,⟨o2,e2,c2,n2,d2⟩,z2⟩:=tupK h' k _ (bH hj');have g1:its.getD i Value.none=Value.ref ts[i].1:=by rw[hits];simp[dq,hi']
  have g2:its.getD j Value.none=Value.ref ts[j].1:=by rw[hits];simp[dq,hj']
  have k1:(ts.map (·.2)).getD i []=ts[i].2:=by simp[dq,hi']
  have k2:(ts.map (·.2)).getD j []=ts[j].2:=by simp[dq,hj']
  simp only[k1,k2]at hc;rw[<-hkey _ (bH hi') _ (bH hj')]at hc;rw[g1,g2];have s1:=z1.length;have s2:=z2.length;exact kat_lt (s:={ s with heap:=h' }) e1 d1 e2 d2 (FN (by rw[decide_eq_false];simp at s1 s2;lia) 0 z1 z2 (by lia) hc)
 .obtain⟨e,he⟩:=sortedAll_at s.heap its (List.toArray (qq.toList.map λ i=>its.getD i Value.none));have hn:H (s.heap.objs.size+1)=none:=I.hok.fresh (bI _);have pq':qq.toList.Perm (List.range ts.length):=by rw[<-hlen];exact pq
  have pick:ts.Perm (qq.toList.map λ i=>ts.getD i (0,[])):=by
   have:=(pq'.map λ i=>ts.getD i ((0:Addr),([]:List Int))).symm;have e2:(List.range ts.length).map (λ i=>ts.getD i ((0:Addr),([]:List Int)))=ts:=by
    apply cB;intro i;rw[ay];by_cases h:i<ts.length
    .rw[cJ h,bJ,aS,ag h];rfl
    .rw[bj (by simpa using h),bj (by lia)];rfl
   rw[e2]at this;exact this
  have inR:∀i∈qq.toList,i<ts.length:=λ i hi=>bi.mp (pq'.mem_iff.mp hi);have eV:qq.toList.map (λ i=>its.getD i Value.none)=(qq.toList.map λ i=>ts.getD i (0,[])).map λ t=>Value.ref t.1:=by
   rw[aJ];refine du λ i hi=>?_;have:=inR i hi;rw[hits];simp[dq,this]
  refine⟨.ref (s.heap.objs.size+1),_,I.laid (o:=.lst ((qq.toList.map λ i=>ts.getD i (0,[])).map λ t=>V.ref t.1)) (t':=s.toks) (λ b o z=>sortedAll_old z) (bI _) ⟨?_,_,e,?_,he⟩,rfl,q _ _ hn pick.symm ?_⟩
  .rw[aa,aa,aV,pq.size,sizeLine_eq];lia
  .rw[eV];generalize (qq.toList.map λ i=>ts.getD i ((0:Addr),([]:List Int)))=zs;have:=Ek (zs.map (·.1));rw[aJ,aJ]at this;exact this
  .rw[aJ];have e4:qq.toList.map ((λ t:Addr×List Int=>key t.2)∘λ i=>ts.getD i (0,[]))=qq.toList.map λ i=>key ((ts.map (·.2)).getD i []):=by
    refine du λ i hi=>?_;have:=inR i hi;simp[dq,this]
   rw[e4];exact sq
end
section
variable{κ:Type}[DecidableEq κ]
def AV(kvs:List (κ×V))(k:κ):Option V:=(kvs.find? λ kv=>decide (kv.1=k)).map (·.2)
def Cp(kvs:List (κ×V))(k:κ)(v:V):List (κ×V) :=
 if (kvs.any λ kv=>decide (kv.1=k))=true then kvs.map (λ kv=>if kv.1=k then (kv.1,v) else kv) else kvs++[(k,v)]
theorem Bg{p:κ×V}{r:List (κ×V)}{k:κ}(e:p.1=k):AV (p::r) k=some p.2:=by simp[AV,bu,e]
theorem Bh{p:κ×V}{r:List (κ×V)}{k:κ}(e:¬p.1=k):AV (p::r) k=AV r k:=by simp[AV,bu,e]
theorem E5(k:κ):∀kvs:List (κ×V),(kvs.any λ kv=>decide (kv.1=k))=(AV kvs k).isSome
 |[]=>rfl
 |p::r=>by
  rw[cX];by_cases e:p.1=k
  .simp only[Bg e,decide_eq_true e,Bool.true_or,Option.isSome_some]
  .rw[Bh e,decide_eq_false e,Bool.false_or];exact E5 k r
theorem Ki(k j:κ)(y:V):∀kvs:List (κ×V),AV (kvs.map λ kv=>if kv.1=k then (kv.1,y) else kv) j=(AV kvs j).map λ x=>if j=k then y else x
 |[]=>rfl
 |p::r=>by
  have ih:=Ki k j y r;rw[aA];by_cases h:p.1=k
  .rw[if_pos h];by_cases e:p.1=j
   .rw[Bg (p:=(p.1,y)) e,Bg e,bJ,if_pos (e.symm.trans h)]
   .rw[Bh (p:=(p.1,y)) e,Bh e,ih]
  .rw[if_neg h];by_cases e:p.1=j
   .rw[Bg (p:=p) e,Bg e,bJ,if_neg (λ z=>h (e.trans z))]
   .rw[Bh (p:=p) e,Bh e,ih]
theorem IB(k j:κ)(y:V):∀kvs:List (κ×V),AV kvs k=none->AV (kvs++[(k,y)]) j=if j=k then some y else AV kvs j
 |[],_=>by
  by_cases e:k=j
  .rw[if_pos e.symm];exact Bg (p:=(k,y)) e
  .rw[if_neg (λ z=>e z.symm)];exact Bh (p:=(k,y)) e
 |p::r,hn=>by
  rw[dN];have hk:¬p.1=k:=λ z=>by rw[Bg z]at hn;cases hn
  rw[Bh hk]at hn;have ih:=IB k j y r hn;by_cases e:p.1=j
  .rw[Bg e,Bg e,if_neg (λ z=>hk (e.trans z))]
  .rw[Bh e,Bh e,ih]
theorem CB(kvs:List (κ×V))(k j:κ)(y:V):AV (Cp kvs k y) j=if j=k then some y else AV kvs j:=by
 unfold Cp;by_cases a:(kvs.any λ kv=>decide (kv.1=k))=true
 .rw[if_pos a,Ki];rw[E5]at a;by_cases e:j=k
  .obtain⟨x,hx⟩:=cr.mp a;rw[if_pos e,e,hx,bJ,if_pos rfl]
  .rw[if_neg e];cases AV kvs j with
   |none=>rfl
   |some x=>rw[bJ,if_neg e]
 .rw[if_neg a];refine IB k j y kvs ?_;rw[E5]at a;cases q:AV kvs k with
  |none=>rfl
  |some x=>rw[q]at a;exact(a rfl).elim
theorem BC(kvs:List (κ×V))(k:κ)(v:V):(Cp kvs k v).length<=kvs.length+1:=by
 unfold Cp;split
 .rw[aa];lia
 .rw[av,aN,b5];lia
theorem RelO.isSome_eq{o:Option V}{u:Option Value}(r:RelO o u):o.isSome=u.isSome:=by
 cases o with
 |none=>cases u with
  |none=>rfl
  |some _=>exact(show False from r).elim
 |some _=>cases u with
  |none=>exact(show False from r).elim
  |some _=>rfl
theorem RelO.getD{o:Option V}{u:Option Value}{d:V}{d':Value}(r:RelO o u)(rd:RelV d d'):RelV (o.getD d) (u.getD d'):=by
 cases o with
 |none=>cases u with
  |none=>exact rd
  |some _=>exact(show False from r).elim
 |some _=>cases u with
  |none=>exact(show False from r).elim
  |some _=>exact r
theorem KV.val{kvs:List (κ×V)}{vs:List (κ×Value)}(r:KV kvs vs)(k:κ):RelO (AV kvs k) (valueAt vs k):=by
 unfold KV at r
 induction r with
 |nil=>exact True.intro
 |@cons p q ps qs h t ih =>
  obtain⟨h1,h2⟩:=h;by_cases e:p.1=k
  .have e':q.1=k:=h1.symm.trans e;have b:valueAt (q::qs) k=some q.2:=by simp[valueAt,bu,e']
   rw[Bg e,b];exact h2
  .have e':¬q.1=k:=λ z=>e (h1.trans z);have b:valueAt (q::qs) k=valueAt qs k:=by simp[valueAt,bu,e']
   rw[Bh e,b];exact ih
theorem KV.any{kvs:List (κ×V)}{vs:List (κ×Value)}(r:KV kvs vs)(k:κ):(kvs.any λ kv=>decide (kv.1=k))=vs.any λ kv=>decide (kv.1=k):=by
 unfold KV at r
 induction r with
 |nil=>rfl
 |cons h t ih=>rw[cX,cX,ih,h.1]
theorem KV.repl{kvs:List (κ×V)}{vs:List (κ×Value)}(r:KV kvs vs)(k:κ){y:V}{u:Value}(ry:RelV y u) :
  KV (kvs.map λ kv=>if kv.1=k then (kv.1,y) else kv) (vs.map λ kv=>if kv.1=k then (kv.1,u) else kv):=by
 unfold KV at r |-
 induction r with
 |nil=>exact .nil
 |@cons p q ps qs h t ih =>
  rw[aA,aA];refine .cons ?_ ih;obtain⟨h1,h2⟩:=h;by_cases e:p.1=k
  .rw[if_pos e,if_pos (h1.symm.trans e)];exact⟨h1,ry⟩
  .rw[if_neg e,if_neg (λ z=>e (h1.trans z))];exact⟨h1,h2⟩
theorem KV.put{kvs:List (κ×V)}{vs:List (κ×Value)}(r:KV kvs vs)(k:κ){y:V}{u:Value}(ry:RelV y u):KV (Cp kvs k y) (stored vs k u):=by
 unfold Cp stored;rw[r.any k];by_cases e:(vs.any λ kv=>decide (kv.1=k))=true
 .rw[if_pos e,if_pos e];exact r.repl k ry
 .rw[if_neg e,if_neg e];exact Paired.snoc r ⟨rfl,ry⟩
theorem KV.length{kvs:List (κ×V)}{vs:List (κ×Value)}(r:KV kvs vs):kvs.length=vs.length:=Paired.length r
end
theorem Hu{P:Program}{w:World}{k:Key}{u:Value}(r:RelV (kV k) u):(Ay P w).is k u=true:=by
 cases k with
 |inl i=>obtain⟨t,e⟩:=(show ∃t,u=Value.int i t from r);subst e;exact KO P w i t
 |inr x=>obtain⟨t,e⟩:=(show ∃t,u=Value.str x t from r);subst e;exact KN P w x t
theorem IV{P:Program}{w:World}:∀{ks:List Key}{us:LWz},Vals (ks.map kV) us->ItemsAre (Ay P w) ks us
 |[],_,r=>by rw[cj]at r;cases r;exact .nil
 |k::ks,_,r=>by
  rw[aA]at r;cases r with
  |cons h t=>exact .cons (Hu h) (IV t)
abbrev KT(H:Hp):LKz->List (List Key×Addr×Value)->Prop:=Paired λ p q=>p.1=q.1/\H q.2.1=some (.tup (p.1.map kV))/\RelV p.2 q.2.2
theorem KT.val{H:Hp}{kvs:LKz}{xs:List (List Key×Addr×Value)}(r:KT H kvs xs)(k:List Key):RelO (AV kvs k) ((atKey xs k).map (·.2)):=by
 induction r with
 |nil=>exact True.intro
 |@cons p q ps qs h t ih =>
  obtain⟨h1,_,h2⟩:=h;by_cases e:p.1=k
  .have e':q.1=k:=h1.symm.trans e;have b:atKey (q::qs) k=some q.2:=by simp[atKey,bu,e']
   rw[Bg e,b];exact h2
  .have e':¬q.1=k:=λ z=>e (h1.trans z);have b:atKey (q::qs) k=atKey qs k:=by simp[atKey,bu,e']
   rw[Bh e,b];exact ih
theorem KT.repl{H:Hp}{kvs:LKz}{xs:List (List Key×Addr×Value)}(r:KT H kvs xs)(k:List Key){y:V}{u:Value}(ry:RelV y u) :
  KT H (kvs.map λ kv=>if kv.1=k then (kv.1,y) else kv) (xs.map (putAt k u)):=by
 induction r with
 |nil=>exact .nil
 |@cons p q ps qs h t ih =>
  rw[aA,aA];refine .cons ?_ ih;obtain⟨h1,h2,h3⟩:=h;unfold putAt;by_cases e:p.1=k
  .rw[if_pos e,if_pos (h1.symm.trans e)];exact⟨h1,h2,ry⟩
  .rw[if_neg e,if_neg (λ z=>e (h1.trans z))];exact⟨h1,h2,h3⟩
theorem KT.put{H:Hp}{kvs:LKz}{xs:List (List Key×Addr×Value)}(r:KT H kvs xs)(k:List Key){b:Addr}{y:V}{u:Value}(hb:H b=some (.tup (k.map kV)))(ry:RelV y u) :
  KT H (Cp kvs k y) (storedH xs k b u):=by
 have e:(kvs.any λ kv=>decide (kv.1=k))=(atKey xs k).isSome:=by
  rw[E5,(r.val k).isSome_eq,dA]
 unfold Cp storedH;rw[e];by_cases q:(atKey xs k).isSome=true
 .rw[if_pos q,if_pos q];exact r.repl k ry
 .rw[if_neg q,if_neg q];exact Paired.snoc r ⟨rfl,hb,ry⟩
theorem KT.keeps{H H':Hp}{kvs:LKz}{xs:List (List Key×Addr×Value)}(r:KT H kvs xs)(ht:∀b ys,H b=some (.tup ys)->H' b=some (.tup ys)):KT H' kvs xs :=
 Paired.mapP r λ_ _ z=>⟨z.1,ht _ _ z.2.1,z.2.2⟩
section
variable{P:Program}{w:World}{H:Hp}{h:Heap}{a:Addr}
theorem Rz{u:HO}(ok:HOk P w H h)(e:Rd H a u):ObjOk P w H h a u:=e.ok ok
theorem HN{kvs:List (Key×V)}(ok:HOk P w H h)(e:Rd H a (.dK kvs)):kvs.length<=sizeLine/\(a==sysModules)=false/\∃vs,KV kvs vs/\h.DictOf (Ay P w) a vs :=
 show ObjOk P w H h a (.dK kvs) from Rz ok e
theorem PK{kvs:List (Key×V)}(ok:HOk P w H h)(e:H a=some (.dK kvs)):kvs.length<=sizeLine/\(a==sysModules)=false/\∃vs,KV kvs vs/\h.DictOf (Ay P w) a vs:=HN ok (.inl e)
theorem Et{ks:List Key}(ok:HOk P w H h)(e:H a=some (.tup (ks.map kV))):(tupleKind (Ay P w)).is h ks a:=by
 obtain⟨_,its,r,o,h1,h2,n,h3⟩:=(show ObjOk P w H h a (.tup (ks.map kV)) from ok a _ e);exact⟨o,its.toArray,n,h1,h2,h3,by simpa using IV r⟩
theorem HM{kvs:LKz}(ok:HOk P w H h)(e:Rd H a (.dT kvs)):kvs.length<=sizeLine/\(a==sysModules)=false /\
  ∃xs,KT H kvs xs/\h.DictOfH (tupleKind (Ay P w)) a xs:=by
 obtain⟨z,y,xs,r,o,es,ep,h1,h2,h3,h4,h5⟩:=(show ObjOk P w H h a (.dT kvs) from Rz ok e);refine⟨z,y,xs,r,o,es,ep,h1,h2,h3,h4,λ x hx=>?_,h5⟩;have all:∀{l:LKz}{m:List (List Key×Addr×Value)},KT H l m->∀x∈m,(tupleKind (Ay P w)).is h x.1 x.2.1:=by
  intro l m q
  induction q with
  |nil=>intro x hx;exact nomatch hx
  |@cons p q ps qs hq t ih =>
   intro x hx;rcases aP.mp hx with e|hx
   .subst e;exact Et ok (by rw[<-hq.1];exact hq.2.1)
   .exact ih x hx
 exact all r x hx
theorem TV{kvs:LKz}(ok:HOk P w H h)(e:H a=some (.dT kvs)):kvs.length<=sizeLine/\(a==sysModules)=false /\
  ∃xs,KT H kvs xs/\h.DictOfH (tupleKind (Ay P w)) a xs:=HM ok (.inl e)
end
def DGet(H:Hp)(a:Addr)(y:V)(r:Option V):Prop :=
 (∃kvs k,Rd H a (.dK kvs)/\y=kV k/\r=AV kvs k)\/∃kvs k b,Rd H a (.dT kvs)/\y=.ref b/\H b=some (.tup (k.map kV))/\r=AV kvs k
def DPut(H:Hp)(a:Addr)(y v:V)(H':Hp):Prop :=
 (∃kvs k,H a=some (.dK kvs)/\y=kV k/\kvs.length<sizeLine/\H'=upd H a (.dK (Cp kvs k v))) \/
 ∃kvs k b,H a=some (.dT kvs)/\y=.ref b/\H b=some (.tup (k.map kV))/\kvs.length<sizeLine/\H'=upd H a (.dT (Cp kvs k v))
theorem DGet.k{H:Hp}{a:Addr}{kvs:List (Key×V)}{k:Key}(e:H a=some (.dK kvs)):DGet H a (kV k) (AV kvs k):=.inl ⟨kvs,k,.inl e,rfl,rfl⟩
theorem DGet.t{H:Hp}{a b:Addr}{kvs:LKz}{k:List Key}(e:H a=some (.dT kvs))(eb:H b=some (.tup (k.map kV))):DGet H a (.ref b) (AV kvs k):=.inr ⟨kvs,k,b,.inl e,rfl,eb,rfl⟩
theorem DPut.k{H:Hp}{a:Addr}{kvs:List (Key×V)}{k:Key}{v:V}(e:H a=some (.dK kvs))(hl:kvs.length<sizeLine):DPut H a (kV k) v (upd H a (.dK (Cp kvs k v))):=.inl ⟨kvs,k,e,rfl,hl,rfl⟩
theorem DPut.t{H:Hp}{a b:Addr}{kvs:LKz}{k:List Key}{v:V}(e:H a=some (.dT kvs))(eb:H b=some (.tup (k.map kV)))(hl:kvs.length<sizeLine) :
  DPut H a (.ref b) v (upd H a (.dT (Cp kvs k v))):=.inr ⟨kvs,k,b,e,rfl,eb,hl,rfl⟩
section
variable{X:Cx}{pins:PNz}{σ:St}{H:Hp}{s:Shared}{a:Addr}{y v:V}{u r:Value}{o:Option V}{A:Around}{E:VPz}
theorem Inv.big(I:Inv X pins σ H s):sysModules<s.heap.objs.size:=by
 have h:mainGlobals<s.heap.objs.size:=(I.mod.glob.keeps I.bk).lt;exact Nat.lt_trans (by decide) h
theorem Of{Q:VPz}(hu:A.units+1<cLine)(I:Inv X pins σ H s)(g:DGet H a y (some v))(ry:RelV y u)(h:∀w' s',Inv X pins σ H s'->RelV v w'->Q w' s') :
  wpAny (model X.prog X.w) A (getItem (.ref a) u) Q E s:=by
 rcases g with ⟨kvs,k,e,ey,l⟩|⟨kvs,k,b,e,ey,eb,l⟩
 .subst ey;obtain⟨z,hd,vs,rel,dd⟩:=HN I.hok e;obtain⟨w',hw,rw'⟩:=RelO.some_of (v:=v) (o:=valueAt vs k) (by rw[l];exact rel.val k);exact wpAny_getItem_of (Hu ry) dd.mapOf hw (h w' _ (I.tok _) rw')
 .subst ey;cases(show u=Value.ref b from ry);obtain⟨z,hd,xs,rel,dd⟩:=HM I.hok e;obtain⟨w',hw,rw'⟩:=RelO.some_of (v:=v) (o:=(atKey xs k).map (·.2)) (by rw[l];exact rel.val k);obtain⟨p,hp,hp2⟩:=aZ.mp hw;refine wpAny_getItem_heap (tupleKind_room_in1 hu) (Et I.hok eb) dd hp ?_;rw[hp2];exact h w' _ (I.tok _) rw'
theorem UN{Q:VPz}(hu:A.units+1<cLine)(I:Inv X pins σ H s)(g:DGet H a y o)(ry:RelV y u)(h:∀s',Inv X pins σ H s'->Q (.bool o.isSome) s') :
  wpAny (model X.prog X.w) A (compareOp .In u (.ref a)) Q E s:=by
 rcases g with ⟨kvs,k,e,ey,l⟩|⟨kvs,k,b,e,ey,eb,l⟩
 .subst ey;obtain⟨z,hd,vs,rel,dd⟩:=HN I.hok e;refine wpAny_in_of (Hu ry) hd dd.mapOf ?_;rw[<-(rel.val k).isSome_eq,<-l];exact h _ (I.tok _)
 .subst ey;cases(show u=Value.ref b from ry);obtain⟨z,hd,xs,rel,dd⟩:=HM I.hok e;refine wpAny_in_heap (tupleKind_room_in1 hu) (Et I.hok eb) hd dd ?_;have q:=(rel.val k).isSome_eq;rw[dA]at q;rw[<-q,<-l];exact h _ (I.tok _)
theorem Rg{Q:VPz}(hu:A.units+1<cLine)(I:Inv X pins σ H s)(g:DGet H a y o)(ry:RelV y u)(h:∀s',Inv X pins σ H s'->Q (.bool (!o.isSome)) s') :
  wpAny (model X.prog X.w) A (compareOp .NotIn u (.ref a)) Q E s:=by
 rcases g with ⟨kvs,k,e,ey,l⟩|⟨kvs,k,b,e,ey,eb,l⟩
 .subst ey;obtain⟨z,hd,vs,rel,dd⟩:=HN I.hok e;refine wpAny_notIn_of (Hu ry) hd dd.mapOf ?_;rw[<-(rel.val k).isSome_eq,<-l];exact h _ (I.tok _)
 .subst ey;cases(show u=Value.ref b from ry);obtain⟨z,hd,xs,rel,dd⟩:=HM I.hok e;refine wpAny_notIn_heap (tupleKind_room_in1 hu) (Et I.hok eb) hd dd ?_;have q:=(rel.val k).isSome_eq;rw[dA]at q;rw[<-q,<-l];exact h _ (I.tok _)
theorem Gz{h':Heap}{t':Nat}{ob:HO}(I:Inv X pins σ H s)(mu:Mut (H a))(hs:Heap.SameBut a s.heap h')(he:∃q,h'.get? a=some q)(new:ObjOk X.prog X.w (upd H a ob) h' a ob) :
  Inv X pins σ (upd H a ob) { s with heap:=h',toks:=t' } :=
 I.write (x:=a) (e:=a) mu (.inl rfl) (λ b q hb z=>(hs.2 b hb).trans z) he new
theorem PL{P:Program}{w:World}{H':Hp}{h':Heap}{kvs:List (Key×V)}{vs:List (Key×Value)}(z:kvs.length<=sizeLine)(hd:(a==sysModules)=false)(rel:KV kvs vs)(dd:h'.DictOf (Ay P w) a vs) :
  ObjOk P w H' h' a (.dK kvs):=⟨z,hd,vs,rel,dd⟩
theorem Oe{H':Hp}{Q:Unit->Shared->Prop}(hu:A.units+1<cLine)(I:Inv X pins σ H s)(g:DPut H a y v H')(ry:RelV y u)(rv:RelV v r)(h:∀s',Inv X pins σ H' s'->Q () s') :
  wpAny (model X.prog X.w) A (setItem (.ref a) u r) Q E s:=by
 rcases g with ⟨kvs,k,e,ey,l,eH⟩|⟨kvs,k,b,e,ey,eb,l,eH⟩
 .subst ey eH;obtain⟨z,hd,vs,rel,dd⟩:=PK I.hok e;have hz:vs.length<=sizeLine:=by rw[<-rel.length];exact z
  have hl:(Cp kvs k v).length<=sizeLine:=by have:=BC kvs k v;lia
  refine wpAny_setItem_pairs (hsz:=hz) (Hu ry) dd λ h' dd' hs=>h _ ?_;have he:∃q,h'.get? a=some q:=let ⟨q,_,_,hq,_⟩:=dd';⟨q,hq⟩;exact Gz I (by rw[e];exact True.intro) hs he (PL hl hd (rel.put k rv) dd')
 .subst ey eH;cases(show u=Value.ref b from ry);obtain⟨z,hd,xs,rel,dd⟩:=TV I.hok e;have hz:xs.length<=sizeLine:=by rw[<-Paired.length rel];exact z
  have hl:(Cp kvs k v).length<=sizeLine:=by have:=BC kvs k v;lia
  refine wpAny_setItem_heap (hsz:=hz) (tupleKind_room_in1 hu) (Et I.hok eb) dd λ h' dd' hs=>h _ ?_;obtain⟨q,es,ep,hq,h2,h3,h4,_,h5⟩:=dd';refine Gz I (by rw[e];exact True.intro) hs ⟨q,hq⟩ ⟨hl,hd,_,(rel.put k eb rv).keeps λ c ys ec=>?_,q,es,ep,hq,h2,h3,h4,h5⟩;rw[Af (AR ec e (λ z=>nomatch z))];exact ec
end
def Ui(i:Expr):Prop:=∀ov iv,subscripted i false ov iv=operate [ov,iv] (getItem ov iv)
theorem Qw{prog:Program}{w:World}{A:Around}{E:VPz}{s:Shared}{env:Env}{value slice:Expr}{pos:Pos}{T id:String}{Q:VPz}
  (hl:typeLookup (.type T) "__getitem__"=pure (some (.builtin id))) (hs:Ui slice)
  (h:wpAny (model prog w) A (eval value env) (λ o s₁=>wpAny (model prog w) A (eval slice env) (λ i s₂=>s₂.TypeIs o T/\wpAny (model prog w) A (getItem o i) Q E s₂) E s₁) E s) :
  wpAny (model prog w) A (eval (.Subscript value slice pos) env) Q E s:=by
 refine Subscript_ (wpAny_mono h (λ o s₁ h₁=>wpAny_mono h₁ (λ i s₂ h₂=>?_) λ_ _ x=>x) λ_ _ x=>x);obtain⟨hT,h₂⟩:=h₂;unfold subscriptTail;refine wpAny_bind ?_;rw[getitemInPython_of_ne hT.not_modules];refine wpAny_bind (wpAny_specialOf hT hl ?_);have fin:wpAny (model prog w) A (subscripted slice false o i) (λ r s₃=>wpAny (model prog w) A (letTemporaryGo value o r >>= λ_=>pure r) Q E s₃) E s₂:=by
  rw[hs o i];exact wpAny_operating (wpAny_mono h₂ (λ r s₃ h₃=>wpAny_bind (wpAny_letTemporaryGo (wpAny_pure h₃))) λ_ _ x=>x)
 first
  |exact wpAny_pure (wpAny_bind fin)
  |exact wpAny_bind (wpAny_pure (wpAny_bind fin))
  |exact wpAny_bind fin
theorem Lh{X:Cx}{pins:PNz}{σ:St}{H:Hp}{s:Shared}{a:Addr}{y:V}{o:Option V}(I:Inv X pins σ H s)(g:DGet H a y o):s.TypeIs (.ref a) "dict":=by
 rcases g with ⟨kvs,k,e,_,_⟩|⟨kvs,k,b,e,_,_,_⟩
 .obtain⟨_,_,vs,_,dd⟩:=HN I.hok e;exact dd.typeIs
 .obtain⟨_,_,xs,_,dd⟩:=HM I.hok e;exact dd.typeIs
def Td(td ty:TE):TE:=λ σ H Q=>td σ H λ x H1=>ty σ H1 λ y H2=>∃a v,x=.ref a/\DGet H2 a y (some v)/\Q v H2
def U0(ty td:TE):TE:=λ σ H Q=>ty σ H λ y H1=>td σ H1 λ x H2=>∃a o,x=.ref a/\DGet H2 a y o/\Q (.bl o.isSome) H2
def Qt(ty td:TE):TE:=λ σ H Q=>ty σ H λ y H1=>td σ H1 λ x H2=>∃a o,x=.ref a/\DGet H2 a y o/\Q (.bl (!o.isSome)) H2
def Tl(td ty tv:TE):TS:=λ D σ H=>tv σ H λ v H1=>td σ H1 λ x H2=>ty σ H2 λ y H3=>∃a H4,x=.ref a/\DPut H3 a y v H4/\D.nx σ H4
section
variable{X:Cx}{o i e value:Expr}{pos pos' tpos:Pos}{td ty tv:TE}
theorem DJ(hu:X.A.units+1<cLine)(ho:PE X o td)(hi:PE X i ty)(hs:Ui i):PE X (.Subscript o i pos) (Td td ty):=by
 intro pins s σ H Q I h;refine Qw PySem.F.slot_dict_getitem.lookup hs (thn (ho pins s σ H _ I h) λ u s1 hz_=>?_);obtain⟨x,H1,I1,rx,q1⟩:=hz_;refine thn (hi pins s1 σ H1 _ I1 q1) λ iv s2 hz_=>?_;obtain⟨y,H2,I2,ry,a,v,ex,g,q2⟩:=hz_;subst ex;obtain rfl:u=Value.ref a:=rx;exact⟨Lh I2 g,Of hu I2 g ry λ w' s3 I3 rw'=>⟨v,H2,I3,rw',q2⟩⟩
theorem Si(hu:X.A.units+1<cLine)(hi:PE X i ty)(ho:PE X o td):PC X .In i o (U0 ty td):=by
 intro pins s σ H Q I h;refine thn (hi pins s σ H _ I h) λ iv s1 hz_=>?_;obtain⟨y,H1,I1,ry,q1⟩:=hz_;refine thn (ho pins s1 σ H1 _ I1 q1) λ u s2 hz_=>?_;obtain⟨x,H2,I2,rx,a,ov,ex,g,q2⟩:=hz_;subst ex;obtain rfl:u=Value.ref a:=rx;exact UN hu I2 g ry λ s3 I3=>⟨.bl ov.isSome,H2,I3,rfl,q2⟩
theorem N5(hu:X.A.units+1<cLine)(hi:PE X i ty)(ho:PE X o td):PC X .NotIn i o (Qt ty td):=by
 intro pins s σ H Q I h;refine thn (hi pins s σ H _ I h) λ iv s1 hz_=>?_;obtain⟨y,H1,I1,ry,q1⟩:=hz_;refine thn (ho pins s1 σ H1 _ I1 q1) λ u s2 hz_=>?_;obtain⟨x,H2,I2,rx,a,ov,ex,g,q2⟩:=hz_;subst ex;obtain rfl:u=Value.ref a:=rx;exact Rg hu I2 g ry λ s3 I3=>⟨.bl (!ov.isSome),H2,I3,rfl,q2⟩
theorem EF(hu:X.A.units+1<cLine)(ho:PE X o td)(hi:PE X i ty)(hv:PE X value tv)(hs:swapsWith value (some (.Subscript o i pos')) pos.line X.env=pure false) :
  PS X (.Assign [.Subscript o i pos'] value pos) (Tl td ty tv):=by
 intro pins s σ H D I h;refine wpAny_Assign_Subscript (thn (hv pins s σ H _ I h) λ r s1 hz_=>?_) hs;obtain⟨v,H1,I1,rv,q1⟩:=hz_;refine thn (ho pins s1 σ H1 _ I1 q1) λ u s2 hz_=>?_;obtain⟨x,H2,I2,rx,q2⟩:=hz_;refine thn (hi pins s2 σ H2 _ I2 q2) λ iv s3 hz_=>?_;obtain⟨y,H3,I3,ry,a,H4,ex,g,q3⟩:=hz_;subst ex;obtain rfl:u=Value.ref a:=rx;exact Oe hu I3 g ry rv λ s4 I4=>⟨σ,H4,I4,q3⟩
end
theorem Lg{P:Program}{w:World}{H:Hp}(h:Heap)(hb:sysModules<h.objs.size):ObjOk P w H (h.push { cls:=.type "dict",data:=.dict #[] }) h.objs.size (.dK []) :=
 ⟨aQ _,beq_eq_false_iff_ne.mpr (Ne.symm (aB hb)),[],.nil,Heap.DictOf.new h⟩
theorem PJ{P:Program}{w:World}{H:Hp}(h:Heap)(hb:sysModules<h.objs.size):ObjOk P w H (h.push { cls:=.type "dict",data:=.dict #[] }) h.objs.size (.dT []) :=
 ⟨aQ _,beq_eq_false_iff_ne.mpr (Ne.symm (aB hb)),[],.nil,_,#[],0,au _ rfl,⟨rfl,rfl,rfl⟩,rfl,rfl,cy⟩
def RV:TE:=λ_ H Q=>∀p,H p=none->Q (.ref p) (upd H p (.dK []))
def RS:TE:=λ_ H Q=>∀p,H p=none->Q (.ref p) (upd H p (.dT []))
section
variable{X:Cx}{pos:Pos}
theorem OS:PE X (.Dict [] [] pos) RV:=λ pins s σ H Q I h =>
 wpAny_Dict_empty ⟨.ref s.heap.objs.size,_,I.laid (a:=s.heap.objs.size) (o:=.dK []) (t':=s.toks) (λ_ _ q=>ae _ q) (ah _) (Lg s.heap I.big),rfl,h _ (I.hok.fresh (ah _))⟩
theorem GV:PE X (.Dict [] [] pos) RS:=λ pins s σ H Q I h =>
 wpAny_Dict_empty ⟨.ref s.heap.objs.size,_,I.laid (a:=s.heap.objs.size) (o:=.dT []) (t':=s.toks) (λ_ _ q=>ae _ q) (ah _) (PJ s.heap I.big),rfl,h _ (I.hok.fresh (ah _))⟩
end
def L8:List (TE×TE)->St->Hp->(List (V×V)->Hp->Prop)->Prop
 |[],_,H,Q=>Q [] H
 | (tk,tv)::r,σ,H,Q=>tk σ H λ x H1=>tv σ H1 λ y H2=>L8 r σ H2 λ ps H3=>Q ((x,y)::ps) H3
abbrev VV:List (V×V)->List (Value×Value)->Prop:=Paired λ p q=>RelV p.1 q.1/\RelV p.2 q.2
def PPs(X:Cx)(pos:Pos)(keys:List (Option Expr))(values:List Expr)(trs:List (TE×TE)):Prop :=
 ∀(pins:PNz)(s:Shared)(σ:St)(H:Hp)(Q:List (V×V)->Hp->Prop),Inv X pins σ H s->L8 trs σ H Q ->
  wpAny (model X.prog X.w) X.A (evalPairs (pairTrees keys values X.env pos)) (λ vs s'=>∃ps H',Inv X pins σ H' s'/\VV ps vs/\Q ps H') X.xe s
theorem M5{X:Cx}{pos:Pos}:PPs X pos [] [] []:=λ pins s σ H Q I h=>pairTrees_nil_walk ⟨[],H,I,.nil,h⟩
theorem Ky{X:Cx}{pos:Pos}{k v:Expr}{ks:List (Option Expr)}{vs:List Expr}{tk tv:TE}{trs:List (TE×TE)}(hk:PE X k tk)(hv:PE X v tv)(hr:PPs X pos ks vs trs) :
  PPs X pos (some k::ks) (v::vs) ((tk,tv)::trs):=λ pins s σ H Q I h =>
 pairTrees_cons_walk (thn (hk pins s σ H _ I h) λ u s1 ⟨x,H1,I1,rx,q1⟩=>thn (hv pins s1 σ H1 _ I1 q1) λ w2 s2 ⟨y,H2,I2,ry,q2⟩ =>
  thn (hr pins s2 σ H2 _ I2 q2) λ ws s3 ⟨ps,H3,I3,rel,q3⟩=>⟨(x,y)::ps,H3,I3,.cons ⟨rx,ry⟩ rel,q3⟩)
def Er(kvs more:List (Key×V)):List (Key×V):=more.foldl (λ acc kv=>Cp acc kv.1 kv.2) kvs
theorem KV.merge:∀{more:List (Key×V)}{rs:List (Key×Value)}{kvs:List (Key×V)}{vs:List (Key×Value)},KV more rs->KV kvs vs->KV (Er kvs more) (merged vs rs):=by
 intro more rs kvs vs r;unfold KV at r
 induction r generalizing kvs vs with
 |nil=>intro q;exact q
 |@cons p q ps qs h t ih =>
  intro r0;have e:KV (Cp kvs p.1 p.2) (stored vs q.1 q.2):=by
   have:=r0.put p.1 h.2;rw[<-h.1];exact this
  exact ih e
theorem DS:∀(more kvs:List (Key×V)),(Er kvs more).length<=kvs.length+more.length
 |[],kvs=>by show kvs.length<=kvs.length+0;lia
 |p::r,kvs=>by
  have h1:=DS r (Cp kvs p.1 p.2);have h2:=BC kvs p.1 p.2;show(Er (Cp kvs p.1 p.2) r).length<=_;rw[aN];lia
theorem HU{P:Program}{w:World}:∀{kvs:List (Key×V)}{ws:List (Value×Value)},VV (kvs.map λ kv=>(kV kv.1,kv.2)) ws->∃rs,Carries (Ay P w) ws rs/\KV kvs rs
 |[],_,r=>by rw[cj]at r;cases r;exact⟨[],True.intro,.nil⟩
 |p::kvs,_,r=>by
  rw[aA]at r;cases r with
  |@cons a b as bs h t =>
   obtain⟨rs,c,q⟩:=HU (P:=P) (w:=w) t;obtain⟨b1,b2⟩:=b;exact⟨(p.1,b2)::rs,⟨Hu h.1,rfl,c⟩,.cons ⟨rfl,h.2⟩ q⟩
def Tc(trs:List (TE×TE)):TE:=λ σ H Q=>∀p,H p=none->L8 trs σ (upd H p (.dK [])) λ ps H2=>H2 p=some (.dK [])/\∃kvs:List (Key×V),ps=kvs.map (λ kv=>(kV kv.1,kv.2))/\kvs.length<=15/\Q (.ref p) (upd H2 p (.dK (Er [] kvs)))
theorem M9{X:Cx}{pos:Pos}{keys:List (Option Expr)}{values:List Expr}{trs:List (TE×TE)}(h:PPs X pos keys values trs)(hall:keys.all (·.isSome)=true)(hl:keys.length=values.length)(h0:keys≠[])
  (h15:keys.length<=15):PE X (.Dict keys values pos) (Tc trs):=by
 intro pins s σ H Q I q;have hn:=I.hok.fresh (ah s.heap.objs.size);have I1:=I.laid (a:=s.heap.objs.size) (o:=.dK []) (h':=s.heap.push { cls:=.type "dict",data:=.dict #[] }) (t':=s.toks) (λ_ _ q=>ae _ q) (ah _) (Lg s.heap I.big);refine wpAny_Dict_walk (knd:=Ay X.prog X.w) hall hl h0 h15 (thn (h pins _ σ _ _ I1 (q _ hn)) λ ws s2 hz_=>?_);obtain⟨ps,H2,I2,rel,e,kvs,ep,lk,q2⟩:=hz_;subst ep;obtain⟨rs,c,rk⟩:=HU (P:=X.prog) (w:=X.w) rel;obtain⟨z,hd,vs0,r0,dd⟩:=PK I2.hok e;cases r0;refine⟨rs,c,dd,λ h' dd' hs=>⟨.ref s.heap.objs.size,_,?_,rfl,q2⟩⟩;have hz:(Er [] kvs).length<=sizeLine:=by
  have h1:=DS kvs [];rw[b5]at h1;rw[sizeLine_eq];lia
 have he:∃q,h'.get? s.heap.objs.size=some q:=let ⟨q,_,_,hq,_⟩:=dd';⟨q,hq⟩;exact Gz I2 (by rw[e];exact True.intro) hs he (PL hz hd (rk.merge .nil) dd')
structure M2(X:Cx)(o:Expr)(m:Str)(apos:Pos)(e f:Expr)(cpos:Pos):Prop where
 base:attributeBase o m X.env (eval o X.env)=eval o X.env
 few:((backTo cpos (starEach [e,f] X.env)).all (λ x=>!x.1)&&(backToKw cpos (keywordEach [] X.env)).all (λ x=>x.1.isSome)
 &&decide (([e,f]:List Expr).length+([]:List Keyword).length+(if ([]:List Keyword).isEmpty then 0 else 1)<30))=true
 line:(apos.endLine==cpos.line)=true
 trees:backTo cpos (starEach [e,f] X.env)=[(false,eval e X.env),(false,eval f X.env)]
def IsD(H:Hp)(a:Addr):Prop:=(∃kvs,Rd H a (.dK kvs))\/∃kvs,Rd H a (.dT kvs)
theorem Py{X:Cx}{pins:PNz}{σ:St}{H:Hp}{s:Shared}{a:Addr}(I:Inv X pins σ H s)(d:IsD H a) :
  s.TypeIs (.ref a) "dict"/\(∀b,Value.ref a=.ref b->∃ob,s.heap.get? b=some ob/\ob.dict=none)/\(a==sysModules)=false:=by
 rcases d with ⟨kvs,e⟩|⟨kvs,e⟩
 .obtain⟨_,hd,vs,_,dd⟩:=HN I.hok e;refine⟨dd.typeIs,λ b q=>?_,hd⟩;cases q;obtain⟨ob,_,_,h1,h2,_⟩:=dd;exact⟨ob,h1,h2.2.1⟩
 .obtain⟨_,hd,xs,_,dd⟩:=HM I.hok e;refine⟨dd.typeIs,λ b q=>?_,hd⟩;cases q;obtain⟨ob,_,_,h1,h2,_⟩:=dd;exact⟨ob,h1,h2.2.1⟩
section
variable{X:Cx}{pins:PNz}{σ:St}{H:Hp}{s:Shared}{a:Addr}{y d:V}{u r:Value}{o:Option V}{A:Around}{E:VPz}
theorem SF{Q:VPz}(hu:A.units+1<cLine)(I:Inv X pins σ H s)(g:DGet H a y o)(ry:RelV y u)(rd:RelV d r)(h:∀w' s',Inv X pins σ H s'->RelV (o.getD d) w'->Q w' s') :
  wpAny (model X.prog X.w) A (call (.builtin "dict.get") [.ref a,u,r]) Q E s:=by
 rcases g with ⟨kvs,k,e,ey,l⟩|⟨kvs,k,b,e,ey,eb,l⟩
 .subst ey;obtain⟨z,hd,vs,rel,dd⟩:=HN I.hok e;refine call_meetsIn c7 dd.typeIs dZ (dX _ _ _) (meets_dict_get_default (Ay X.prog X.w) a (Hu ry) hd r) ⟨_,dd.mapOf,h _ _ (I.tok _) ?_⟩;rw[l];exact(rel.val k).getD rd
 .subst ey;cases(show u=Value.ref b from ry);obtain⟨z,hd,xs,rel,dd⟩:=HM I.hok e;refine call_meetsIn c7 dd.typeIs dZ (dX _ _ _) (meetsH_dict_get_default (tupleKind (Ay X.prog X.w)) a b hd r) ⟨tupleKind_room_in1 hu,k,xs,Et I.hok eb,dd,h _ _ (I.tok _) ?_⟩;rw[l];exact(rel.val k).getD rd
end
def RW(td ty tx:TE):TE:=λ σ H Q=>td σ H λ x H1=>∃a,x=.ref a/\IsD H1 a/\ty σ H1 λ y H2=>tx σ H2 λ z H3=>∃o,DGet H3 a y o/\Q (o.getD z) H3
section
variable{X:Cx}{o e f:Expr}{apos cpos:Pos}{td ty tx:TE}
theorem OT(hu:X.A.units+1<cLine)(ho:PE X o td)(he:PE X e ty)(hf:PE X f tx)(m:M2 X o "get" apos e f cpos):PE X (.Call (.Attribute o "get" apos) [e,f] [] cpos) (RW td ty tx):=by
 intro pins s σ H Q I h;refine wpAny_Call_method m.base m.few m.line bR c7 PySem.F.type_dict_get (thn (ho pins s σ H _ I h) λ u s1 hz_=>?_);obtain⟨x,H1,I1,rx,a,ex,d,q1⟩:=hz_;subst ex;obtain rfl:u=Value.ref a:=rx;obtain⟨t1,t2,_⟩:=Py I1 d;refine⟨t1,t2,?_⟩;rw[m.trees];refine Calls.callWith_builtin rfl (Calls.evalArgs_plain (Calls.spliced_cons (thn (he pins s1 σ H1 _ I1 q1) λ iv s2 ⟨y,H2,I2,ry,q2⟩ =>
  Calls.spliced_cons (thn (hf pins s2 σ H2 _ I2 q2) λ fv s3 ⟨z,H3,I3,rz,ov,g,q3⟩=>Calls.spliced_nil ?_))))
 exact SF hu I3 g ry rz λ w' s4 I4 rw'=>⟨_,H3,I4,rw',q3⟩
end
def Ite(K:Frag)(a:Addr):It :=
 ⟨λ i H=>∃xs x,SqL K H a xs/\xs[i]?=some x,λ i H y H'=>∃t x,(∀xs,SqL K H a xs->xs[i]?=some x)/\y=.ref t/\H t=none/\H'=upd H t (.tup [.int i,x]),λ i H=>∃xs,SqL K H a xs/\xs.length<=i⟩
theorem IX{X:Cx}{pins:PNz}{σ:St}{H:Hp}{s:Shared}{h':Heap}{e it:Addr}{t':Nat}{ys:LUz}(I:Inv X pins σ H s)(fe:E2 X pins H e)(fi:E2 X pins H it)
  (k:∀b o,b≠e->b≠it->s.heap.get? b=some o->h'.get? b=some o) (he:∃o,h'.get? e=some o) (hi:∃o,h'.get? it=some o)
  (new:ObjOk X.prog X.w (upd H s.heap.objs.size (.tup ys)) h' s.heap.objs.size (.tup ys)) :
  Inv X pins σ (upd H s.heap.objs.size (.tup ys)) { s with heap:=h',toks:=t' }:=by
 have hn:H s.heap.objs.size=none:=I.hok.fresh (ah _);obtain⟨e0,e1,e2,e3,e4,e5⟩:=fe;obtain⟨i0,i1,i2,i3,i4,i5⟩:=fi;have nt:∀b u,H b=some u->b≠e/\b≠it:=λ b u q=>⟨λ z=>(by rw[z,e0]at q;cases q),λ z=>(by rw[z,i0]at q;cases q)⟩;have nc:∀b,b∉[e,it]->b≠e/\b≠it:=λ b hb=>⟨λ z=>hb (by simp[z]),λ z=>hb (by simp[z])⟩;have ne:∀b u,H b=some u->b≠s.heap.objs.size:=λ b u q=>Ag q hn;refine I.step (g':=s.gens) (d':=s.drawn) (ch:=[e,it]) (λ b hb=>?_) (λ b o _ _ hc q _=>k b o (nc b hc).1 (nc b hc).2 q) (λ b o _ _ hc q _=>⟨o.slots,k b o (nc b hc).1 (nc b hc).2 q⟩)
  (λ b o _ q n=>by rw[Af (aB (aq q))];exact n) (λ b o hc q=>⟨o,k b o (nc b hc).1 (nc b hc).2 q⟩) (λ b xs q=>by rw[Af (ne b _ q)];exact q) (λ b o u q=>by rw[Af (ne b _ q)];exact q)
  (λ b ps q=>⟨#[],by rw[Af (ne b _ q),q];simp⟩) (λ m hm=>?_) (λ b u q=>?_) I.bare
 .rcases aP.mp hb with rfl|hb
  .exact⟨e3,e1,e4,e5⟩
  .rw[ai.mp hb];exact⟨i3,i1,i4,i5⟩
 .obtain⟨o,es,ep,ho,r⟩:=hm;exact⟨o,es,ep,k _ o (Ne.symm e1) (Ne.symm i1) ho,r⟩
 .by_cases hb:b=s.heap.objs.size
  .subst hb;rw[Ad]at q;cases q;exact new
  .rw[Af hb]at q;refine(I.hok b u q).stay (λ c v hc z=>k c v ?_ ?_ z) (λ c z=>by rw[Af (ne c _ z)];exact z) λ c xs z=>by rw[Af (ne c _ z)];exact z
   .rcases hc with rfl|hc
    .exact(nt c u q).1
    .exact(nt c _ hc).1
   .rcases hc with rfl|hc
    .exact(nt c u q).2
    .exact(nt c _ hc).2
theorem Nr{P:Program}{w:World}{K:Frag}{es:List Expr}{k:Nat}{pos:Pos}(a e it:Addr)(hei:e≠it) :
  Mi P w K (.Tuple es k pos) (Ite K a) [e,it] e (λ i h=>(∃old,IsEnum h e it i old)/\h.IsListIter it a i) where
 mem:=by simp
 obj:=λ i h st b hb=>by
  obtain⟨⟨old,he⟩,⟨o,eo,c,d⟩⟩:=st;rcases aP.mp hb with rfl|hb
  .exact⟨_,he,λ v z=>by
    have z':Data.fields _=Data.cell v:=z;cases z'⟩
  .rw[ai.mp hb];exact⟨o,eo,λ v z=>by rw[d]at z;cases z⟩
 keep:=λ i h h' st kk=>by
  obtain⟨⟨old,he⟩,st⟩:=st;exact⟨⟨old,kk e (by simp) _ he⟩,st.at λ o z=>kk it (by simp) o z⟩
 item:=by
  intro X hP hw hK hc i pins s σ H E I hf st hg;subst hP hw hK;obtain⟨⟨old,he⟩,st⟩:=st;obtain⟨xs,x,hq,hx⟩:=hg;obtain⟨its,rv,p,hz⟩:=I.list hq;obtain⟨u,hu,ru⟩:=rv.get hx;have fe:=hf e (by simp);have fi:=hf it (by simp);refine wpAny_pyNext_enum_item he st p.isList (x:=u) (by simpa using hu) hei λ h' he' st' ht hz' kk=>?_;refine⟨_,rfl,?_⟩;have ltE:e<s.heap.objs.size:=aq he;have hn:H s.heap.objs.size=none:=I.hok.fresh (ah _);have I1:Inv X pins σ (upd H s.heap.objs.size (.tup [.int i,x])) { s with heap:=h',toks:=s.toks+1 }:=by
   refine IX I fe fi kk ⟨_,he'⟩ (let ⟨o,eo,_⟩:=st';⟨o,eo⟩) ⟨?_,[.int i s.toks,u],.cons ⟨_,rfl⟩ (.cons ru .nil),⟨_,ht,rfl,_,rfl⟩⟩;show 2<=sizeLine;decide
  refine wpAny_letOwnedTupleGo_enum (s:={ s with heap:=h',toks:=s.toks+1 }) he' λ h2 he2 sb=>?_;have neE:e≠s.heap.objs.size:=aB ltE;have fe2:(upd H s.heap.objs.size (.tup [.int i,x])) e=none:=by rw[Af neE];exact fe.1
  have I2:Inv X pins σ (upd H s.heap.objs.size (.tup [.int i,x])) { ({ s with heap:=h',toks:=s.toks+1 }:Shared) with heap:=h2,toks:=s.toks+1 } :=
   I1.turned (t':=s.toks+1) (it:=e) (λ b o hb z=>(sb.2 b hb).trans z) fe2 fe.2.1 fe.2.2.2.1 fe.2.2.2.2.1 fe.2.2.2.2.2
  obtain⟨oi,hoi,_⟩:=id st;have ltI:it<s.heap.objs.size:=aq hoi;refine⟨.ref s.heap.objs.size,_,I2,rfl,⟨_,x,λ ys hy=>by rw[I.list_inj hy hq];exact hx,rfl,hn,rfl⟩,⟨⟨u,?_⟩,?_⟩,λ b hb=>?_⟩
  .have e1:((i+1:Nat):Int)=(i:Int)+1:=by push_cast;rfl
   rw[e1];exact he2
  .exact st'.at λ o z=>(sb.2 it (Ne.symm hei)).trans z
  .rcases aP.mp hb with rfl|hb
   .exact fe2
   .rw[ai.mp hb,Af (aB ltI)];exact fi.1
 done:=by
  intro X hP hw hK hc i pins s σ H E I hf st hg;subst hP hw hK;obtain⟨⟨old,he⟩,st⟩:=st;obtain⟨xs,hq,hx⟩:=hg;obtain⟨its,rv,p,hz⟩:=I.list hq;obtain⟨f0,f1,f2,f3,f4,f5⟩:=hf it (by simp);have hl:=rv.length;exact wpAny_pyNext_enum_end (I.ok.hd hc) he st p.isList (by simp;lia) λ h' eb=>⟨rfl,I.turned (t':=s.toks) (λ b o hb z=>eb b o hb z) f0 f1 f3 f4 f5⟩
 self:=λ_ _ _ _ _ st h=>by
  obtain⟨⟨old,he⟩,_⟩:=st;exact wpAny_pyIter_enum he h
def TL(K:Frag)(ta:TA):TI:=λ σ H R=>ta σ H λ vs H1=>∃a,vs=[.ref a]/\(∃xs,SqL K H1 a xs)/\R (Ite K a) H1
section
variable{X:Cx}
theorem Go{a:Expr}{es:List Expr}{k:Nat}{tpos:Pos}{ta:TA}{p pos:Pos}(hg:Gl X "enumerate")(hm:X.mg "enumerate"=none)(ha:PA X [a] ta)(hs:starEach [a] X.env=[(false,eval a X.env)]:=by rfl) :
  PI X (.Tuple es k tpos) (.Call (.Name "enumerate" p) [a] [] pos) (TL X.K ta):=by
 intro pins s σ H R I h;refine Call_ (Cm I hg hm boot_enumerate (PyProof.Rows.callWith_type1 (thn (ha pos pins s σ H _ I h) λ us s1 hz_=>?_) hs rfl));obtain⟨vs,H1,I1,r1,q1⟩:=hz_;obtain⟨b,e,⟨xs,hq⟩,q⟩:=q1;subst e;cases r1 with
 |cons r rr =>
  cases rr;cases r;obtain⟨its,rv,pl,hz⟩:=I1.list hq;refine call_enumerate_list pl.isList λ h' he hit hsz hk=>?_;have I2:Inv X pins σ H1 { s1 with heap:=h' }:=I1.kept (t':=s1.toks) hk;refine wpAny_pyIter_enum (s:={ s1 with heap:=h' }) he ?_;refine⟨s1.heap.objs.size+1,[s1.heap.objs.size+1,s1.heap.objs.size],_,_,H1,rfl,I2,Nr b _ _ (Nat.succ_ne_self _),⟨⟨_,he⟩,hit⟩,λ c hc=>?_,q⟩;rcases aP.mp hc with rfl|hc
  .exact I1.fpOk (bI _) (I1.hok.fresh (bI _))
  .rw[ai.mp hc];exact I1.fpOk (ah _) (I1.hok.fresh (ah _))
end
theorem ET{K:Frag}{a:Addr}{xs:LUz}{g:TG}{tb:TS}{D:Dj}{σ:St}{H:Hp}(Pv:Nat->St->Hp->Prop)(h0:Pv 0 σ H)(hl:∀i σ H,i<=xs.length->Pv i σ H->SqL K H a xs)
  (hs:∀i x σ H t,xs[i]?=some x->Pv i σ H->H t=none->g (.ref t) σ (upd H t (.tup [.int i,x])) λ σ2 H2=>tb { D with nx:=Pv (i+1),ct:=Pv (i+1),bk:=D.nx } σ2 H2) (hd:∀σ H,Pv xs.length σ H->D.nx σ H) :
  ∃W:Nat->Nat->St->Hp->Prop,(∃m,W 0 m σ H)/\∀i m σ H,W i m σ H ->
   ((Ite K a).stop i H/\D.nx σ H)\/((Ite K a).go i H/\∃N:St->Hp->Prop,(∀σ' H',N σ' H'->∃m',m'<m/\W (i+1) m' σ' H')/\∀x H',(Ite K a).yld i H x H'->g x σ H' λ σ2 H2=>tb { D with nx:=N,ct:=N,bk:=D.nx } σ2 H2):=by
 refine⟨λ i m σ H=>m=xs.length-i/\i<=xs.length/\Pv i σ H,⟨xs.length,by simp,aQ _,h0⟩,?_⟩;rintro i m σ H ⟨rfl,hi,p⟩;have q:=hl i σ H hi p;by_cases hlt:i<xs.length
 .refine .inr ⟨⟨xs,xs[i],q,by simp[hlt]⟩,Pv (i+1),λ σ' H' p'=>⟨xs.length-(i+1),by lia,rfl,hlt,p'⟩,λ x H' y=>?_⟩;obtain⟨t,z,hz,rfl,ht,rfl⟩:=y;exact hs i z σ H t (hz xs q) p ht
 .have e:i=xs.length:=by lia
  subst e;exact .inl ⟨⟨xs,q,ah _⟩,hd σ H p⟩
open PySem.SeqAt
mutual
inductive D where
 |at (v:V)
 |tup (xs:Ds)
 |lst (xs:Ds)
inductive Ds where
 |nil
 |cons (d:D) (r:Ds)
end
mutual
def DIs(K:Frag)(H:Hp):D->V->Prop
 |.at u,v=>v=u/\Cu u=true
 |.tup ds,v=>∃a xs,v=.ref a/\SqT K H a xs/\DIss K H ds xs
 |.lst ds,v=>∃a xs,v=.ref a/\SqL K H a xs/\DIss K H ds xs
def DIss(K:Frag)(H:Hp):Ds->LUz->Prop
 |.nil,xs=>xs=[]
 |.cons d r,xs=>∃x ys,xs=x::ys/\DIs K H d x/\DIss K H r ys
end
mutual
def dep:D->Nat
 |.at _=>0
 |.tup ds=>C7 ds+1
 |.lst ds=>C7 ds+1
def C7:Ds->Nat
 |.nil=>0
 |.cons d r=>max (dep d) (C7 r)
end
mutual
def deq:D->D->Bool
 |.at u,.at v=>eqV u v
 |.tup xs,.tup ys=>Di xs ys
 |.lst xs,.lst ys=>Di xs ys
 |_,_=>false
def Di:Ds->Ds->Bool
 |.nil,.nil=>true
 |.cons d r,.cons e q=>deq d e&&Di r q
 |_,_=>false
end
def Ds.len:Ds->Nat
 |.nil=>0
 |.cons _ r=>r.len+1
def Ds.get:Ds->Nat->D
 |.nil,_=>.at .non
 |.cons d _,0=>d
 |.cons _ r,i+1=>r.get i
theorem CL:∀(ds es:Ds),((List.range (min ds.len es.len)).all (λ j=>deq (ds.get j) (es.get j))&&ds.len==es.len)=Di ds es
 |.nil,.nil=>rfl
 |.nil,.cons e q=>by simp[Ds.len,Di]
 |.cons d r,.nil=>by simp[Ds.len,Di]
 |.cons d r,.cons e q=>by
  have ih:=CL r q;rw[show Di (.cons d r) (.cons e q)=(deq d e&&Di r q) from by rw[Di],<-ih];show((List.range (min (r.len+1) (q.len+1))).all _&&(r.len+1==q.len+1))=_;rw[show min (r.len+1) (q.len+1)=min r.len q.len+1 by lia,List.range_succ_eq_map,dz,List.all_map,Bool.and_assoc];congr 1;rw[show(r.len+1==q.len+1)=(r.len==q.len) by simp];rfl
mutual
theorem HP:∀{K:Frag}{H:Hp}(d:D){v:V},DIs K H d v->deq d d=true
 |_,_,.at u,v,h=>by
  obtain⟨_,hf⟩:=(show v=u/\Cu u=true by simpa [DIs] using h);rw[deq];cases u<;>simp_all [Cu,eqV]
 |_,_,.tup ds,v,h=>by
  rw[DIs]at h;obtain⟨a,xs,_,_,q⟩:=h;rw[deq];exact F6 ds q
 |_,_,.lst ds,v,h=>by
  rw[DIs]at h;obtain⟨a,xs,_,_,q⟩:=h;rw[deq];exact F6 ds q
theorem F6:∀{K:Frag}{H:Hp}(ds:Ds){xs:LUz},DIss K H ds xs->Di ds ds=true
 |_,_,.nil,_,_=>by rw[Di]
 |_,_,.cons d r,xs,h=>by
  rw[DIss]at h;obtain⟨x,ys,_,h1,h2⟩:=h;rw[Di,HP d h1,F6 r h2];rfl
end
theorem DIss.len{K:Frag}{H:Hp}:∀{ds:Ds}{xs:LUz},DIss K H ds xs->ds.len=xs.length
 |.nil,xs,h=>by rw[DIss]at h;rw[h];rfl
 |.cons d r,xs,h=>by
  rw[DIss]at h;obtain⟨x,ys,rfl,_,h2⟩:=h;show r.len+1=ys.length+1;rw[DIss.len h2]
theorem DIss.get{K:Frag}{H:Hp}:∀{ds:Ds}{xs:LUz}{i:Nat}{x:V},DIss K H ds xs->xs[i]?=some x->DIs K H (ds.get i) x
 |.nil,xs,i,x,h,e=>by rw[DIss]at h;rw[h]at e;simp at e
 |.cons d r,xs,i,x,h,e=>by
  rw[DIss]at h;obtain⟨y,ys,rfl,h1,h2⟩:=h;cases i with
  |zero=>simp at e;subst e;exact h1
  |succ i =>
   show DIs K H (r.get i) x;exact DIss.get h2 (by simpa using e)
theorem Gy:∀(ds:Ds)(i:Nat),i<ds.len->dep (ds.get i)<=C7 ds
 |.nil,i,h=>absurd h (by simp[Ds.len])
 |.cons d r,0,_=>by show dep d<=_;rw[C7];lia
 |.cons d r,i+1,h=>by
  have:=Gy r i (by simpa [Ds.len] using h);show dep (r.get i)<=_;rw[C7];lia
section
variable{X:Cx}{pins:PNz}{σ:St}{H:Hp}{s:Shared}
mutual
theorem DIs.inj(I:Inv X pins σ H s):∀{d e:D}{v:V},DIs X.K H d v->DIs X.K H e v->d=e
 |.at u,.at w',v,h,h'=>by
  rw[DIs]at h;rw[DIs]at h';rw[<-h.1,<-h'.1]
 |.at u,.tup ds,v,h,h'=>by
  rw[DIs]at h;rw[DIs]at h';obtain⟨a,xs,e,_⟩:=h';have:=h.2;rw[<-h.1,e]at this;cases this
 |.at u,.lst ds,v,h,h'=>by
  rw[DIs]at h;rw[DIs]at h';obtain⟨a,xs,e,_⟩:=h';have:=h.2;rw[<-h.1,e]at this;cases this
 |.tup ds,.at u,v,h',h=>by
  rw[DIs]at h;rw[DIs]at h';obtain⟨a,xs,e,_⟩:=h';have:=h.2;rw[<-h.1,e]at this;cases this
 |.lst ds,.at u,v,h',h=>by
  rw[DIs]at h;rw[DIs]at h';obtain⟨a,xs,e,_⟩:=h';have:=h.2;rw[<-h.1,e]at this;cases this
 |.tup ds,.tup es,v,h,h'=>by
  rw[DIs]at h;rw[DIs]at h';obtain⟨a,xs,rfl,h1,h2⟩:=h;obtain⟨b,ys,e,k1,k2⟩:=h';cases e;have e:=I.tuple_inj h1 k1;subst e;rw[DIss.inj I h2 k2]
 |.lst ds,.lst es,v,h,h'=>by
  rw[DIs]at h;rw[DIs]at h';obtain⟨a,xs,rfl,h1,h2⟩:=h;obtain⟨b,ys,e,k1,k2⟩:=h';cases e;have e:=I.list_inj h1 k1;subst e;rw[DIss.inj I h2 k2]
 |.tup ds,.lst es,v,h,h'=>by
  rw[DIs]at h;rw[DIs]at h';obtain⟨a,xs,rfl,h1,h2⟩:=h;obtain⟨b,ys,e,k1,k2⟩:=h';cases e;obtain⟨_,_,t1,_⟩:=I.tuple h1;obtain⟨_,_,t2,_⟩:=I.list k1;exact absurd rfl (ne_of_list_tuple t2.isList (show s.heap.IsTuple a _ from t1))
 |.lst ds,.tup es,v,h,h'=>by
  rw[DIs]at h;rw[DIs]at h';obtain⟨a,xs,rfl,h1,h2⟩:=h;obtain⟨b,ys,e,k1,k2⟩:=h';cases e;obtain⟨_,_,t1,_⟩:=I.tuple k1;obtain⟨_,_,t2,_⟩:=I.list h1;exact absurd rfl (ne_of_list_tuple t2.isList (show s.heap.IsTuple a _ from t1))
theorem DIss.inj(I:Inv X pins σ H s):∀{ds es:Ds}{xs:LUz},DIss X.K H ds xs->DIss X.K H es xs->ds=es
 |.nil,.nil,xs,h,h'=>rfl
 |.nil,.cons d r,xs,h,h'=>by
  rw[DIss]at h;rw[DIss]at h';obtain⟨x,ys,e,_⟩:=h';rw[h]at e;cases e
 |.cons d r,.nil,xs,h',h=>by
  rw[DIss]at h;rw[DIss]at h';obtain⟨x,ys,e,_⟩:=h';rw[h]at e;cases e
 |.cons d r,.cons e q,xs,h,h'=>by
  rw[DIss]at h;rw[DIss]at h';obtain⟨x,ys,rfl,h1,h2⟩:=h;obtain⟨y,zs,e',k1,k2⟩:=h';cases e';rw[DIs.inj I h1 k1,DIss.inj I h2 k2]
end
theorem HF{A:Around}{u:V}{x:Value}{l:Addr}{items:Array Value}(r:RelV u x)(f:Cu u=true)(hl:s.heap.IsTuple l items)(hu:A.units<cLine):EqAt A s x (.ref l) false/\EqAt A s (.ref l) x false:=by
 cases u with
 |non=>cases r;exact⟨.none_tuple hl hu,.tuple_none hl hu⟩
 |bl b=>cases r;exact⟨.bool_tuple b hl hu,.tuple_bool b hl hu⟩
 |int b=>obtain⟨t,rfl⟩:=r;exact⟨.int_tuple b t hl hu,.tuple_int b t hl hu⟩
 |str b=>obtain⟨t,rfl⟩:=r;exact⟨.str_tuple b t hl hu,.tuple_str b t hl hu⟩
 |_=>exact absurd (show false=true from f) ao
theorem HG{A:Around}{u:V}{x:Value}{l:Addr}{items:Array Value}(r:RelV u x)(f:Cu u=true)(hl:s.heap.IsList l items)(hu:A.units<cLine):EqAt A s x (.ref l) false/\EqAt A s (.ref l) x false:=by
 cases u with
 |non=>cases r;exact⟨.none_list hl hu,.list_none hl hu⟩
 |bl b=>cases r;exact⟨.bool_list b hl hu,.list_bool b hl hu⟩
 |int b=>obtain⟨t,rfl⟩:=r;exact⟨.int_list b t hl hu,.list_int b t hl hu⟩
 |str b=>obtain⟨t,rfl⟩:=r;exact⟨.str_list b t hl hu,.list_str b t hl hu⟩
 |_=>exact absurd (show false=true from f) ao
theorem SC(I:Inv X pins σ H s):∀(n:Nat)(A:Around)(d e:D)(x y:V)(u v:Value),dep d<=n->DIs X.K H d x->DIs X.K H e y->RelV x u->RelV y v->A.units+n<cLine->EqAt A s u v (deq d e):=by
 intro n
 induction n with
 |zero =>
  intro A d e x y u v hn hd he rx ry hu;cases d with
  |tup ds=>rw[dep]at hn;lia
  |lst ds=>rw[dep]at hn;lia
  | «at» p =>
   rw[DIs]at hd;obtain⟨rfl,hf⟩:=hd;cases e with
   | «at» q =>
    rw[DIs]at he;obtain⟨rfl,hg⟩:=he;rw[deq];exact Me rx ry hf hg
   |tup es =>
    rw[DIs]at he;obtain⟨b,ys,rfl,h1,_⟩:=he;obtain⟨_,_,t,_⟩:=I.tuple h1;cases ry;rw[deq]
    .exact(HF rx hf (show s.heap.IsTuple b _ from t) hu).1
    all_goals (intros;simp_all)
   |lst es =>
    rw[DIs]at he;obtain⟨b,ys,rfl,h1,_⟩:=he;obtain⟨_,_,t,_⟩:=I.list h1;cases ry;rw[deq]
    .exact(HG rx hf t.isList hu).1
    all_goals (intros;simp_all)
 |succ n ih =>
  intro A d e x y u v hn hd he rx ry hu;have hu1:A.in1.units+n<cLine:=by show A.units+1+n<cLine;lia
  cases d with
  | «at» p =>
   rw[DIs]at hd;obtain⟨rfl,hf⟩:=hd;cases e with
   | «at» q =>
    rw[DIs]at he;obtain⟨rfl,hg⟩:=he;rw[deq];exact Me rx ry hf hg
   |tup es =>
    rw[DIs]at he;obtain⟨b,ys,rfl,h1,_⟩:=he;obtain⟨_,_,t,_⟩:=I.tuple h1;cases ry;rw[deq]
    .exact(HF rx hf (show s.heap.IsTuple b _ from t) (by lia)).1
    all_goals (intros;simp_all)
   |lst es =>
    rw[DIs]at he;obtain⟨b,ys,rfl,h1,_⟩:=he;obtain⟨_,_,t,_⟩:=I.list h1;cases ry;rw[deq]
    .exact(HG rx hf t.isList (by lia)).1
    all_goals (intros;simp_all)
  |tup ds =>
   have hd0:=hd;rw[dep]at hn;rw[DIs]at hd;obtain⟨a,xs,rfl,h1,h2⟩:=hd;obtain⟨i1,r1,t1,_⟩:=I.tuple h1;cases rx;cases e with
   | «at» q =>
    rw[DIs]at he;obtain⟨rfl,hg⟩:=he;rw[deq]
    .exact(HF ry hg (show s.heap.IsTuple a _ from t1) (by lia)).2
    all_goals (intros;simp_all)
   |lst es =>
    rw[DIs]at he;obtain⟨b,ys,rfl,k1,_⟩:=he;obtain⟨_,_,t2,_⟩:=I.list k1;cases ry;rw[deq]
    .exact EqAt.tuple_list (show s.heap.IsTuple a _ from t1) t2.isList (by lia)
    all_goals (intros;simp_all)
   |tup es =>
    have he0:=he;rw[DIs]at he;obtain⟨b,ys,rfl,k1,k2⟩:=he;obtain⟨i2,r2,t2,_⟩:=I.tuple k1;cases ry;by_cases hab:a=b
    .subst hab;rw[DIs.inj I he0 hd0,HP _ hd0];exact EqAt.same _
    .refine EqAt.of_refs hab ?_;have:=RcAt.tuples (A:=A) (e:=λ j=>deq (ds.get j) (es.get j)) (show s.heap.IsTuple a i1.toArray from t1) (show s.heap.IsTuple b i2.toArray from t2) (by lia) λ j g1 g2=>?_
     .have l1:=r1.length;have l2:=r2.length;have m1:=h2.len;have m2:=k2.len;rw[ak,ak,<-l1,<-l2,<-m1,<-m2,CL]at this;rw[deq];exact this
     .have l1:=r1.length;have l2:=r2.length;have m1:=h2.len;have g1':j<xs.length:=by simp at g1;lia
      have g2':j<ys.length:=by simp at g2;lia
      obtain⟨u1,e1,q1⟩:=r1.get (ag g1');obtain⟨u2,e2,q2⟩:=r2.get (ag g2');have d1:i1.toArray[j]=u1:=by
       have:i1[j]?=some i1.toArray[j]:=by simp
       rw[e1]at this;exact(Option.some.inj this).symm
      have d2:i2.toArray[j]=u2:=by
       have:i2[j]?=some i2.toArray[j]:=by simp
       rw[e2]at this;exact(Option.some.inj this).symm
      rw[d1,d2];exact ih _ _ _ _ _ _ _ (aR (Gy ds j (by lia)) (by lia)) (h2.get (ag g1')) (k2.get (ag g2')) q1 q2 hu1
  |lst ds =>
   have hd0:=hd;rw[dep]at hn;rw[DIs]at hd;obtain⟨a,xs,rfl,h1,h2⟩:=hd;obtain⟨i1,r1,t1,_⟩:=I.list h1;cases rx;cases e with
   | «at» q =>
    rw[DIs]at he;obtain⟨rfl,hg⟩:=he;rw[deq]
    .exact(HG ry hg t1.isList (by lia)).2
    all_goals (intros;simp_all)
   |tup es =>
    rw[DIs]at he;obtain⟨b,ys,rfl,k1,_⟩:=he;obtain⟨_,_,t2,_⟩:=I.tuple k1;cases ry;rw[deq]
    .exact EqAt.list_tuple t1.isList (show s.heap.IsTuple b _ from t2) (by lia)
    all_goals (intros;simp_all)
   |lst es =>
    have he0:=he;rw[DIs]at he;obtain⟨b,ys,rfl,k1,k2⟩:=he;obtain⟨i2,r2,t2,_⟩:=I.list k1;cases ry;by_cases hab:a=b
    .subst hab;rw[DIs.inj I he0 hd0,HP _ hd0];exact EqAt.same _
    .refine EqAt.of_refs hab ?_;have l1:=r1.length;have l2:=r2.length;have m1:=h2.len;have m2:=k2.len;rw[deq];rw[<-CL];by_cases hz:ds.len=es.len
     .have:=RcAt.lists (A:=A) (e:=λ j=>deq (ds.get j) (es.get j)) t1.isList t2.isList (by simp;lia) (by lia) λ j g1 g2=>?_
      .rw[ak,<-l1,<-m1]at this;rw[hz,eP,beq_self_eq_true,ez,<-hz];exact this
      .have g1':j<xs.length:=by simp at g1;lia
       have g2':j<ys.length:=by simp at g2;lia
       obtain⟨u1,e1,q1⟩:=r1.get (ag g1');obtain⟨u2,e2,q2⟩:=r2.get (ag g2');have d1:i1.toArray[j]=u1:=by
        have:i1[j]?=some i1.toArray[j]:=by simp
        rw[e1]at this;exact(Option.some.inj this).symm
       have d2:i2.toArray[j]=u2:=by
        have:i2[j]?=some i2.toArray[j]:=by simp
        rw[e2]at this;exact(Option.some.inj this).symm
       rw[d1,d2];exact ih _ _ _ _ _ _ _ (aR (Gy ds j (by lia)) (by lia)) (h2.get (ag g1')) (k2.get (ag g2')) q1 q2 hu1
     .have e0:(ds.len==es.len)=false:=by simpa using hz
      rw[e0,dk];exact RcAt.lists_lengths t1.isList t2.isList (by simp;lia) (by lia)
end
section
variable{X:Cx}
theorem MP{pins:PNz}{σ:St}{H:Hp}{s:Shared}(I:Inv X pins σ H s){A:Around}{ds es:Ds}{xs ys:LUz}{i1 i2:LWz}(h2:DIss X.K H ds xs)(k2:DIss X.K H es ys)(r1:Vals xs i1)(r2:Vals ys i2)
  (hu:A.units+60<cLine) (hd:C7 ds<=50):∀j (g1:j<i1.toArray.size) (g2:j<i2.toArray.size),EqAt A.in1 s i1.toArray[j] i2.toArray[j] (deq (ds.get j) (es.get j)):=λ j g1 g2=>by
 have l1:=r1.length;have l2:=r2.length;have m1:=h2.len;have g1':j<xs.length:=by simp at g1;lia
 have g2':j<ys.length:=by simp at g2;lia
 obtain⟨u1,e1,q1⟩:=r1.get (ag g1');obtain⟨u2,e2,q2⟩:=r2.get (ag g2');have d1:i1.toArray[j]=u1:=by
  have:i1[j]?=some i1.toArray[j]:=by simp
  rw[e1]at this;exact(Option.some.inj this).symm
 have d2:i2.toArray[j]=u2:=by
  have:i2[j]?=some i2.toArray[j]:=by simp
  rw[e2]at this;exact(Option.some.inj this).symm
 rw[d1,d2];exact SC I 50 _ _ _ _ _ _ _ (aR (Gy ds j (by lia)) hd) (h2.get (ag g1')) (k2.get (ag g2')) q1 q2 (by show A.units+1+50<cLine;lia)
def U9(K:Frag)(neg:Bool):R2:=λ x y H Q=>∃d e,DIs K H d x/\DIs K H e y/\(∃a,x=.ref a)/\(∃b,y=.ref b)/\dep d<=50/\Q (.bl (if neg then !deq d e else deq d e)) H
theorem Pa{k:Nat}(hr:Room k X.A):OpR X (compareOp .NotEq) (U9 X.K true):=by
 intro pins s σ H x y v u Q I rx ry h;obtain⟨d,e,hd,he,⟨a,rfl⟩,⟨b,rfl⟩,hn,q⟩:=h;cases rx;cases ry;have hu:=hr.units;cases d with
 | «at» p=>rw[DIs]at hd;obtain⟨rfl,hf⟩:=hd;cases hf
 |tup ds =>
  rw[dep]at hn;rw[DIs]at hd;obtain⟨a',xs,e',h1,h2⟩:=hd;cases e';obtain⟨i1,r1,t1,_⟩:=I.tuple h1;cases e with
  | «at» p=>rw[DIs]at he;obtain⟨rfl,hf⟩:=he;cases hf
  |tup es =>
   rw[DIs]at he;obtain⟨b',ys,e',k1,k2⟩:=he;cases e';obtain⟨i2,r2,t2,_⟩:=I.tuple k1;refine RcNeAt.tuples (show s.heap.IsTuple a i1.toArray from t1) (show s.heap.IsTuple b i2.toArray from t2) (by lia) (MP I h2 k2 r1 r2 (by lia) (by lia)) _ _ _ _ ⟨.bl _,H,I,?_,q⟩;show Value.bool _=Value.bool _;rw[ak,ak,<-r1.length,<-r2.length,<-h2.len,<-k2.len,CL];simp only[if_true];rw[deq]
  |lst es =>
   rw[DIs]at he;obtain⟨b',ys,e',k1,k2⟩:=he;cases e';obtain⟨i2,r2,t2,_⟩:=I.list k1;refine RcNeAt.tuple_list (show s.heap.IsTuple a _ from t1) t2.isList (by lia) _ _ _ _ ⟨.bl _,H,I,?_,q⟩;show Value.bool _=Value.bool _;simp only[if_true];rw[deq]<;>first|rfl|(intros;simp_all)
 |lst ds =>
  rw[dep]at hn;rw[DIs]at hd;obtain⟨a',xs,e',h1,h2⟩:=hd;cases e';obtain⟨i1,r1,t1,_⟩:=I.list h1;cases e with
  | «at» p=>rw[DIs]at he;obtain⟨rfl,hf⟩:=he;cases hf
  |tup es =>
   rw[DIs]at he;obtain⟨b',ys,e',k1,k2⟩:=he;cases e';obtain⟨i2,r2,t2,_⟩:=I.tuple k1;refine RcNeAt.list_tuple t1.isList (show s.heap.IsTuple b _ from t2) (by lia) _ _ _ _ ⟨.bl _,H,I,?_,q⟩;show Value.bool _=Value.bool _;simp only[if_true];rw[deq]<;>first|rfl|(intros;simp_all)
  |lst es =>
   rw[DIs]at he;obtain⟨b',ys,e',k1,k2⟩:=he;cases e';obtain⟨i2,r2,t2,_⟩:=I.list k1;have l1:=r1.length;have l2:=r2.length;have m1:=h2.len;have m2:=k2.len;by_cases hz:ds.len=es.len
   .refine RcNeAt.lists t1.isList t2.isList (by simp;lia) (by lia) (MP I h2 k2 r1 r2 (by lia) (by lia)) _ _ _ _ ⟨.bl _,H,I,?_,q⟩;show Value.bool _=Value.bool _;simp only[if_true];rw[deq,<-CL,ak,<-l1,<-m1,hz,eP,beq_self_eq_true,ez]
   .refine RcNeAt.lists_lengths t1.isList t2.isList (by simp;lia) (by lia) _ _ _ _ ⟨.bl _,H,I,?_,q⟩;show Value.bool _=Value.bool _;have e0:(ds.len==es.len)=false:=by simpa using hz
    simp only[if_true];rw[deq,<-CL,e0,dk];rfl
end
structure Lr(P:Program)(w:World)(K:Frag)(mg:MGz)(base:Heap)(k:Nat)(x:Str)(C:Addr)(ps:LSz)(sp:Sp):Prop where
 ex:∃(f:Addr)(fd:FuncData),Mk K C f/\A2 P w K mg base CX0 k f fd ps sp/\mg x=some (.ref C)/\Binds K fd ps []
structure Qg(P:Program)(w:World)(K:Frag)(mg:MGz)(base:Heap)(k:Nat)(C:Addr)(m:Str)(ps:LSz)(sp:Sp):Prop where
 cl:Cls K C
 ex:∃(f:Addr)(fd:FuncData),SN K C m f/\A2 P w K mg base CX0 k f fd ps sp/\Binds K fd ps []
section
variable{X:Cx}{k j:Nat}{x m:Str}{C:Addr}{ps:LSz}{sp:Sp}{p pos apos:Pos}{e o:Expr}{es:List Expr}{t:TA}{ta:TE}
theorem K1(D:Lr X.prog X.w X.K X.mg X.base k x C ps sp)(hr:Room j X.A)(ha:PA X (e::es) t)(hj:k+1<=j:=by decide)(hg:Gl X x:=by rfl)(hdb:(x==("__debug__":Str))=false:=by decide)
  (he:starEach (e::es) X.env=(false,eval e X.env)::starEach es X.env:=by rfl) (hpl:(backTo pos (starEach es X.env)).any (·.1)=false:=by rfl):PE X (.Call (.Name x p) (e::es) [] pos) (Rv C sp [] E0 t):=by
 obtain⟨f,fd,M,F,hm,hb⟩:=D.ex;exact QB M F (hr.mono hj) hg hm hb .nil K3 ha hdb he hpl
theorem J9{pl:Sem Bool}(D:Qg X.prog X.w X.K X.mg X.base k C m ps sp)(hr:Room j X.A)(he:PE X o ta)(hj:k<=j:=by decide)
    (ht:eval (.Call (.Attribute o m apos) [] [] pos) X.env=(do
      let ov <-eval o X.env
      standAt apos.atName
      let (f,first) <-holding [ov] (getMethod ov m pl)
      callWith pos f first (backTo pos (starEach [] X.env)) (backToKw pos (keywordEach [] X.env))):=by rfl):PE X (.Call (.Attribute o m apos) [] [] pos) (Ru C m sp [] E0 ta RP):=by
  obtain⟨f,fd,M,F,hb⟩:=D.ex;exact OR he D.cl M F (hr.mono hj) hb .nil K3 ht
end
section
variable{X:Cx}{K:Frag}{pos:Pos}
theorem Gp{es:List Expr}{k:Nat}{t:TGs}{n:Nat}(hc:X.calm=true)(h:PGs X es t)(hK:X.K=K:=by rfl)
  (hn:(assignEach es X.env).length=n:=by rfl) (hst:(assignEach es X.env).findIdx? (·.1)=none:=by rfl):PG X (.Tuple es k pos) (TN K n t):=by
 subst hK;exact B4 hc h hn hst
def OJ(K:Frag):LUz->Hp->VK->Prop:=λ xs H Q=>∃p ys,xs=[V.ref p]/\((SqL K H p ys/\∀l,H l=none->Q (.ref l) (upd H l (.tup ys)))\/(SqT K H p ys/\Q (.ref p) H))
theorem Ka(hK:X.K=K:=by rfl):BP X (.type "tuple") (OJ K):=by subst hK;exact C8
end
end L2
namespace GB
open PySem.W
open PySem L2
structure Rc where
 t:Int
 l:Int
 b:Int
 r:Int
 deriving DecidableEq
def Rc.ls(p:Rc):List Int:=[p.t,p.l,p.b,p.r]
def Rc.has(p:Rc)(r c:Int):Prop:=p.t<=r/\r<p.b/\p.l<=c/\c<p.r
def Rc.In(w h:Int)(p:Rc):Prop:=0<=p.t/\p.t<p.b/\p.b<=h/\0<=p.l/\p.l<p.r/\p.r<=w
def Apart(p q:Rc):Prop:=∀r c,p.has r c->q.has r c->False
theorem Apart.symm{p q:Rc}(h:Apart p q):Apart q p:=λ r c a b=>h r c b a
structure Tiles(w h:Int)(ps:List Rc):Prop where
 ins:∀p∈ps,p.In w h
 dis:ps.Pairwise Apart
 cov:∀r c,0<=r->r<h->0<=c->c<w->∃p∈ps,p.has r c
theorem Tiles.perm{w h:Int}{ps qs:List Rc}(T:Tiles w h ps)(e:qs.Perm ps):Tiles w h qs :=
 ⟨λ p hp=>T.ins p (e.mem_iff.mp hp),(e.pairwise_iff (λ{a b} x=>Apart.symm x)).mpr T.dis,λ r c a b x y=>let ⟨p,hp,z⟩:=T.cov r c a b x y;⟨p,e.mem_iff.mpr hp,z⟩⟩
def key:List Int->Int
 |[a,b,c,d]=>((a*13+b)*13+c)*13+d
 |_=>0
theorem JR(p:Rc):key p.ls=((p.t*13+p.l)*13+p.b)*13+p.r:=rfl
theorem key_lt{p q:Rc}{w h w' h':Int}(hp:p.In w h)(hq:q.In w' h')(b1:w<=12)(b2:h<=12)(b3:w'<=12)(b4:h'<=12):HT.lexLt p.ls q.ls=decide (key p.ls<key q.ls):=by
 obtain⟨a1,a2,a3,a4,a5,a6⟩:=hp;obtain⟨c1,c2,c3,c4,c5,c6⟩:=hq;rw[JR,JR];show(if p.t=q.t then (if p.l=q.l then (if p.b=q.b then (if p.r=q.r then false else decide (p.r<q.r)) else decide (p.b<q.b)) else decide (p.l<q.l)) else decide (p.t<q.t))=_
 repeat' split
 all_goals (first|(apply Eq.symm;rw[decide_eq_false_iff_not];lia)|(rw[decide_eq_decide];lia))
theorem QQ{p q:Rc}{w h w' h':Int}(hp:p.In w h)(hq:q.In w' h')(b1:w<=12)(b2:h<=12)(b3:w'<=12)(b4:h'<=12)(e:key p.ls=key q.ls):p=q:=by
 obtain⟨a1,a2,a3,a4,a5,a6⟩:=hp;obtain⟨c1,c2,c3,c4,c5,c6⟩:=hq;rw[JR,JR]at e;obtain⟨pt,pl,pb,pr⟩:=p;obtain⟨qt,ql,qb,qr⟩:=q;simp only at *;have e1:pt=qt:=by lia
 subst e1;have e2:pl=ql:=by lia
 subst e2;have e3:pb=qb:=by lia
 subst e3;have e4:pr=qr:=by lia
 subst e4;rfl
def Srt(ps:List Rc):Prop:=(ps.map λ p=>key p.ls).Pairwise (·<=·)
theorem sorted_same{ps qs:List Rc}{w h:Int}(hp:∀p∈ps,p.In w h)(b1:w<=12)(b2:h<=12)(e:ps.Perm qs)(s1:Srt ps)(s2:Srt qs):ps=qs:=by
 have hq:∀p∈qs,p.In w h:=λ p x=>hp p (e.mem_iff.mpr x);have hm:=ksm_same (List.Perm.map (λ p:Rc=>key p.ls) e) s1 s2;have len:=e.length_eq;apply List.ext_getElem len;intro i h1 h2;have:=congrArg (λ l=>l[i]?) hm;simp only[ay,ag h1,ag h2,bJ,Option.some.injEq]at this;exact QQ (hp _ (bH h1)) (hq _ (bH h2)) b1 b2 b1 b2 this
def De(p:Rc)(i:Nat)(j:Nat):List (Int×Int):=(List.range j).map λ(k:Nat)=>(p.t+(i:Int),p.l+(k:Int))
def Gb(p:Rc):Nat->List (Int×Int)
 |0=>[]
 |i+1=>Gb p i++De p i (p.r-p.l).toNat
def sqs(p:Rc):List (Int×Int):=Gb p (p.b-p.t).toNat
theorem mem_rowSq{p:Rc}{i j:Nat}{r c:Int}:(r,c)∈De p i j↔r=p.t+i/\p.l<=c/\c<p.l+j:=by
 unfold De;rw[az]
 constructor
 .rintro⟨k,hk,e⟩;have:=bi.mp hk;cases e;lia
 .rintro⟨rfl,a,b⟩;exact⟨(c-p.l).toNat,bi.mpr (by lia),by rw[show((c-p.l).toNat:Int)=c-p.l by lia];congr 1;lia⟩
theorem Hm{p:Rc}(h:p.l<=p.r){r c:Int}:∀{n:Nat},(r,c)∈Gb p n↔p.t<=r/\r<p.t+n/\p.l<=c/\c<p.r
 |0=>by
  simp only[Gb,bx,false_iff];lia
 |n+1=>by
  rw[Gb,aF,Hm h,mem_rowSq];lia
theorem Gr{p:Rc}(h:p.l<=p.r)(h2:p.t<=p.b){r c:Int}:(r,c)∈sqs p↔p.has r c:=by
 unfold sqs Rc.has;rw[Hm h];lia
theorem Kr(p:Rc)(i j:Nat):(De p i j).Nodup:=by
 unfold De;rw[dY,List.pairwise_map];exact(List.nodup_range (n:=j)).imp λ{a b} h e=>h (by
  have:=congrArg Prod.snd e;simp only at this;lia)
theorem G8{p:Rc}(h:p.l<=p.r):∀n,(Gb p n).Nodup
 |0=>cy
 |n+1=>by
  rw[Gb,List.nodup_append];refine⟨G8 h n,Kr p n _,λ a ha b hb e=>?_⟩;subst e;obtain⟨r,c⟩:=a;have h1:=(Hm h).mp ha;have h2:=mem_rowSq.mp hb;lia
theorem G9(p:Rc):∀n,(Gb p n).length=n*(p.r-p.l).toNat
 |0=>by simp[Gb]
 |n+1=>by rw[Gb,av,G9 p n,De,aa,cz,eM]
theorem LH(p:Rc)(i j:Nat):De p i (j+1)=De p i j++[(p.t+(i:Int),p.l+(j:Int))]:=by
 unfold De;rw[bF,aj];rfl
theorem FK:∀(n:Nat)(xs:List Int),xs.Nodup->(∀x∈xs,0<=x/\x<n)->xs.length<=n
 |0,xs,_,h=>by
  cases xs with
  |nil=>exact ah _
  |cons x r=>have:=h x aD;lia
 |n+1,xs,hn,h=>by
  have h2:(xs.filter λ x=>decide (x≠(n:Int))).length<=n:=FK n _ (hn.filter _) λ x hx=>by
   obtain⟨h1,h2⟩:=cw.mp hx;have:=h x h1;have h3:x≠(n:Int):=of_decide_eq_true h2;lia
  have h3:xs.length<=(xs.filter λ x=>decide (x≠(n:Int))).length+1:=by
   have key:∀(ys:List Int),ys.Nodup->ys.length<=(ys.filter λ x=>decide (x≠(n:Int))).length+1:=by
    intro ys
    induction ys with
    |nil=>intro _;simp
    |cons y r ih =>
     intro hy;obtain⟨h4,h5⟩:=bZ.mp hy;by_cases e:y=(n:Int)
     .have e2:(r.filter λ x=>decide (x≠(n:Int)))=r:=by
       rw[cK];intro x hx;exact decide_eq_true λ z=>h4 (by rw[e,<-z];exact hx)
      rw[bC,if_neg (by simp[e]),e2,aN];exact ah _
     .rw[bC,if_pos (by simpa using e),aN,aN];have:=ih h5;lia
   exact key xs hn
  lia
end GB
namespace L2
open PySem.W
open PySem PySem.Spec PyProof.Rows
section
variable{prog:Program}{w:World}{A:Around}{E:VPz}{h:Heap}{g:Array GenState}{d:Drawn}{t:Nat}{os:OsState}
 {nm qn:Str} {C N:Addr} {bs bm bmB:LWz} {hdct:Bool} {sn:LSz} {sub:LWz} {ab:Bool} {col:Option Bool} {dd:Option Addr} {k0 k1 k2 k3 k5:Option Value} {B newId initId:String}
end
open PySem.Builtin PySem.Builtin.ObjectAttr
def UU(C:Addr)(d:Option Addr)(x T:Addr):HO:=.ext λ h=>∃vs sl,h.get? x=some ⟨.ref C,d,.fields vs,sl⟩/\vs[1]?=some (.ref T)
def TbO(T:Addr):HO:=.ext λ h=>∃o ts,h.get? T=some o/\o.data=.fields ts/\ts[3]?=some Value.none
def RF(H:Hp)(x C:Addr)(d:Option Addr)(T:Addr):Prop:=H x=some (UU C d x T)/\H T=some (TbO T)/\T≠x
def PX(X:Cx)(e:Expr)(t:TE)(E:XK):Prop:=∀(pins:PNz)(s:Shared)(σ:St)(H:Hp)(Q:VK)(Ex:VPz),Inv X pins σ H s->t σ H Q ->
 (∀x T C d H' s',Inv X pins σ H' s'->RF H' x C d T->E (.ref x) d H'->Ex (.ref x) s')->wpAny (model X.prog X.w) X.A (eval e X.env) (EP X pins σ Q) Ex s
def L9(wi:TI)(g:TG)(tc:TT)(te:TE)(fr:List (Option Nat)):TE:=λ σ H Q=>wi σ H λ J H1=>∀acc,H1 acc=none->∃W:Nat->Nat->St->Hp->Prop,(∃m,W 0 m (stC fr σ) (upd H1 acc (.lst [])))/\∀i m σ1 H2,W i m σ1 H2 ->
 (J.stop i H2/\Q (.ref acc) H2)\/(J.go i H2/\∀x H3,J.yld i H2 x H3->g x σ1 H3 λ σ4 H4=>tc σ4 H4 λ b Hb=>match b with
  |true=>te σ4 Hb λ v H5=>∃xs,H5 acc=some (.lst xs)/\xs.length<sizeLine/\∃m',m'<m/\W (i+1) m' σ4 (upd H5 acc (.lst (xs++[v])))
  |false=>∃m',m'<m/\W (i+1) m' σ4 Hb)
section
variable{prog:Program}{w:World}{A:Around}{R:Result->Shared->Prop}{s:Shared}
theorem Iz{elt target iter cnd:Expr}{scope:Scope}{pos:Pos}{it acc:Value}{env:Env}(I:Nat->Shared->Prop)
    (turn:∀n s,I n s->wpAny (model prog w) A (pyNext it) (λ r s₁=>match r with
      |none=>R (.ok .next) s₁
      |some v=>wpAny (model prog w) A (letOwnedTupleGo target it v) (λ_ s₁=>wpAny (model prog w) A (assign target env v) (λ_ s₂ =>
          wpAny (model prog w) A (forIn [cnd] true λ c r=>if r=true then do let ok <-isTrue c env (eval c env);pure (ForInStep.yield ok) else pure (ForInStep.yield r)) (λ ok s₃ =>
            if ok=true then wpAny (model prog w) A (eval elt env) (λ x s₄=>wpAny (model prog w) A (call (.builtin "list.append") [acc,x]) (λ_ s₅=>∃m,m<n/\I m s₅) (notedBy (model prog w) A env λ e s'=>R (.error e) s') s₄)
              (notedBy (model prog w) A env λ e s'=>R (.error e) s') s₃
            else ∃m,m<n/\I m s₃) (notedBy (model prog w) A env λ e s'=>R (.error e) s') s₂)
          (notedBy (model prog w) A env λ e s'=>R (.error e) s') s₁) (notedBy (model prog w) A env λ e s'=>R (.error e) s') s₁) (notedBy (model prog w) A env λ e s'=>R (.error e) s') s)
    (n:Nat) (h:I n s) :
    codeAny (model prog w) A (.compLoop (.ListComp elt [⟨target,iter,[cnd],0⟩] scope pos) 0 it acc env) R s:=by
  refine codeAny_loop rfl I (λ n s hI=>?_) n h;show wpAny _ _ ((compTurn (.ListComp elt [⟨target,iter,[cnd],0⟩] scope pos) 0 it acc env).onRaise (λ x=>do noteFrame x env;theTreesLotGoes x)) _ _ s;refine wpAny_noted ?_;rw[compTurn_list];refine wpAny_bind (wpAny_standAt (wpAny_bind (wpAny_mono (turn n s hI) (λ r s₁ h₁=>?_) λ_ _ h'=>h')));cases r with
  |none=>exact wpAny_pure h₁
  |some v =>
    refine wpAny_bind (wpAny_mono h₁ (λ_ s₁ h₁=>?_) λ_ _ h'=>h');refine wpAny_bind (wpAny_mono h₁ (λ_ s₂ h₂=>wpAny_bind (wpAny_mono h₂ (λ ok s₃ h₃=>?_) λ_ _ h'=>h')) λ_ _ h'=>h');cases ok with
    |false=>exact wpAny_pure ⟨rfl,h₃⟩
    |true=>exact wpAny_bind (wpAny_bind (wpAny_mono h₃ (λ x s₄ h₄=>wpAny_bind (wpAny_mono h₄ (λ_ s₅ h₅=>wpAny_pure (wpAny_pure ⟨rfl,h₅⟩)) λ_ _ h'=>h')) λ_ _ h'=>h'))
end
section
variable{X:Cx}{elt tg iter:Expr}{scope:Scope}{pos:Pos}{wi:TI}{g:TG}{te:TE}{N:LSz}{fr:List (Option Nat)}
variable{cnd:Expr}{tc:TT}
theorem HS{pins:PNz}{σ:St}{H:Hp}{s:Shared}{Q:VK}{cl:List (Str×Addr)}{R:Value->Addr->Result->Shared->Prop}(hc:X.calm=true)(I:Inv X pins σ H s)(hi:PI X tg iter wi)
  (hg:∀cl C s H ex,PG (AF X scope cl N C s H ex) tg g) (hcn:∀cl C s H ex,PT (AF X scope cl N C s H ex) cnd tc) (he:∀cl C s H ex,PE (AF X scope cl N C s H ex) elt te) (ck:Fa X.env.scope X.N scope N fr)
  (c1:∀x c,cl.lookup x=some c->X.env.cells.lookup x=some c) (c2:∀x,(x,NameKind.free)∈scope.names->∃c,cl.lookup x=some c)
  (h:L9 wi g tc te fr σ H Q)
  (hR:∀acc C s' H' m,s'.heap.Ns C m->E2 X pins H' C->Inv X pins σ H' s'->Q (.ref acc) H'->R (.ref acc) C (.ok .next) s') :
  wpAny (model X.prog X.w) X.A (eval iter X.env) (λ x s₁=>wpAny (model X.prog X.w) X.A (pyIter x) (λ it s₂=>wpAny (model X.prog X.w) X.A (newList []) (λ acc s₃ =>
   wpAny (model X.prog X.w) X.A (newFunctionEnv scope X.env.globals cl [] X.env.qual none .none (some X.env)) (λ cenv s₄ =>
    codeAny (model X.prog X.w) X.A (.compStart (.ListComp elt [⟨tg,iter,[cnd],0⟩] scope pos) 0 it acc { cenv with scope:=relabel scope X.env }) (R acc cenv.locals) s₄) X.xe s₃) X.xe s₂) X.xe s₁) X.xe s:=by
 refine thn (hi pins s σ H _ I h) λ v s1 h1=>thn h1 λ itv s2 h2=>?_;obtain⟨it,fp,tn,J,H2,e,I2,T,st2,f2,q2⟩:=h2;subst e;refine wpAny_newObj_type (wpAny_newFunctionEnv ck.nocell (by intro y hy;simp at hy) (λ h₁ hns₁ hsb₁=>?_) ck.kind);dsimp only at hns₁ hsb₁ |-;have I3:Inv X pins σ (upd H2 s2.heap.objs.size (.lst [])) { s2 with heap:=s2.heap.push { cls:=.type "list",dict:=none,data:=.seq ([]:LWz).toArray } }:=I2.lnew (t':=s2.toks) (its:=[]) .nil (aQ _);have acc0:H2 s2.heap.objs.size=none:=I2.fresh;obtain⟨W,⟨m0,w0⟩,turn⟩:=q2 s2.heap.objs.size acc0;generalize hH3:s2.heap.push { cls:=.type "list",dict:=none,data:=.seq ([]:LWz).toArray }=h3 at hns₁ hsb₁ I3 |-;have hz3:h3.objs.size=s2.heap.objs.size+1:=by rw[<-hH3,bt]
 have k23:∀b o,s2.heap.get? b=some o->h3.get? b=some o:=λ b o e=>by rw[<-hH3];exact ae _ e
 have k34:∀b o,h3.get? b=some o->h₁.get? b=some o:=λ b o e=>hsb₁.extBut b o (aB (aq e)) (ae _ e);have fpo:∀b∈fp,∃o,s2.heap.get? b=some o/\∀v,o.data≠.cell v:=T.obj 0 _ st2;have hex:∀b∈fp,E2 X pins (upd H2 s2.heap.objs.size (.lst [])) b/\b<h3.objs.size:=λ b hb=>by
  obtain⟨o,eo,_⟩:=fpo b hb;have lt:=aq eo;obtain⟨f0,fr'⟩:=f2 b hb;exact⟨⟨by rw[Af (aB lt)];exact f0,fr'⟩,by rw[hz3];exact bc lt⟩
 have I4:Inv (AF X scope cl N h3.objs.size { s2 with heap:=h3 } (upd H2 s2.heap.objs.size (.lst [])) fp) [] (stC fr σ) (upd H2 s2.heap.objs.size (.lst [])) { s2 with heap:=h₁,toks:=s2.toks+([]:List (Str×Value)).length } :=
  HR I3 ck c1 c2 hex (ah _) hns₁ k34 rfl rfl
 have stat:∀{H':Hp},(∀b∈fp,H' b=none)->∀b∈fp,E2 (AF X scope cl N h3.objs.size { s2 with heap:=h3 } (upd H2 s2.heap.objs.size (.lst [])) fp) [] H' b:=λ hn b hb =>
  ⟨hn b hb,(I4.ok.exf b hb).1,I4.ok.exfs b hb,.inl hb,(I4.ok.exf b hb).2,λ p hp=>by simp at hp⟩
 have stn:∀i h h',tn i h->(∀b o,h.get? b=some o->h'.get? b=some o)->tn i h':=λ i h h' st kk=>T.keep i h h' st λ b _ o e=>kk b o e;have loop:codeAny (model X.prog X.w) X.A (.compLoop (.ListComp elt [⟨tg,iter,[cnd],0⟩] scope pos) 0 (.ref it) (.ref s2.heap.objs.size) (compEnvC scope cl h3.objs.size X.env)) (R (.ref s2.heap.objs.size) h3.objs.size)
   { s2 with heap:=h₁,toks:=s2.toks+([]:List (Str×Value)).length }:=by
  refine Iz (λ n s'=>∃i σ' H',Inv (AF X scope cl N h3.objs.size { s2 with heap:=h3 } (upd H2 s2.heap.objs.size (.lst [])) fp) [] σ' H' s'/\tn i s'.heap/\(∀b∈fp,H' b=none)/\W i n σ' H') ?_ m0
   ⟨0,_,_,I4,stn _ _ _ st2 λ b o e=>k34 b o (k23 b o e),λ b hb=>(hex b hb).1.1,w0⟩
  rintro n s3 ⟨i,σ3,H3,J3,st3,fr3,w3⟩;rcases turn i n σ3 H3 w3 with ⟨stop,qn⟩|⟨go,step⟩
  .refine Bi (thn (T.done (AF X scope cl N h3.objs.size { s2 with heap:=h3 } (upd H2 s2.heap.objs.size (.lst [])) fp) rfl rfl rfl hc i [] s3 σ3 H3 (λ_ _=>False) J3 (stat fr3) st3 stop) λ r s4 hz_=>?_);obtain⟨hr,J4⟩:=hz_;subst hr;obtain⟨mc,hmc,_⟩:=J4.loc;have I5:Inv X pins σ H3 s4:=I3.call' (ch:=fp) J4.os J4.base J4.hok J4.bare λ b hb=>⟨(hex b hb).1.2.2.2.1,(hex b hb).1.2.1,(hex b hb).1.2.2.2.2.1,(hex b hb).1.2.2.2.2.2⟩;exact hR _ _ s4 H3 mc hmc (I3.fpOk (ah _) J4.free) I5 qn
  .refine Bi (thn (T.item (AF X scope cl N h3.objs.size { s2 with heap:=h3 } (upd H2 s2.heap.objs.size (.lst [])) fp) rfl rfl rfl hc i [] s3 σ3 H3 (λ_ _=>False) J3 (stat fr3) st3 go) λ r s4 hz_=>?_);obtain⟨u,hr,h4⟩:=hz_;subst hr;refine Bi (thn h4 λ_ s5 hz_=>?_);obtain⟨x,H5,J5,r5,y5,st5,fr5⟩:=hz_;have J5':=J5.pinned (stat fr5) (T.obj _ _ st5);refine Bi (thn (hg _ _ _ _ _ _ s5 σ3 H5 x u _ J5' r5 (step x H5 y5)) λ_ s6 hz_=>?_);obtain⟨σ6,H6,J6,q6⟩:=hz_;refine wpAny_tests_one (Bi (thn (hcn _ _ _ _ _ _ s6 σ6 H6 _ J6 q6) λ b sb hz_=>?_));obtain⟨Hb,Jb,qb⟩:=hz_;cases b with
   |false =>
    obtain⟨m',hm',w7⟩:=qb;refine ite_ff ⟨m',hm',i+1,σ6,_,Jb.unpinned,T.keep _ _ _ st5 λ b hb o e=>(Jb.pin (b,o) (aw _ (aw _ (AT hb e)))).1,λ b hb=>?_,w7⟩;obtain⟨o,e,d⟩:=T.obj _ _ st5 b hb;exact(Jb.pin (b,o) (aw _ (aw _ (AT hb e)))).2.1
   |true =>
    refine ite_tt ?_;refine Bi (thn (he _ _ _ _ _ _ sb σ6 Hb _ Jb qb) λ y s7 hz_=>?_);obtain⟨v7,H7,J7,r7,xs,hx,hz,m',hm',w7⟩:=hz_;refine Bi (thn (Fw _ s7 σ6 H7 (.ref s2.heap.objs.size) [v7] (.ref s2.heap.objs.size) [y] (λ v H8=>H8=upd H7 s2.heap.objs.size (.lst (xs++[v7]))) J7 rfl (.cons r7 .nil) ⟨_,xs,v7,rfl,rfl,hx,hz,rfl⟩) λ_ s8 hz_=>?_);obtain⟨_,H8,J8,_,e8⟩:=hz_;subst e8;refine⟨m',hm',i+1,σ6,_,J8.unpinned,T.keep _ _ _ st5 λ b hb o e=>(J8.pin (b,o) (aw _ (aw _ (AT hb e)))).1,λ b hb=>?_,w7⟩;obtain⟨o,e,d⟩:=T.obj _ _ st5 b hb;exact(J8.pin (b,o) (aw _ (aw _ (AT hb e)))).2.1
 exact codeAny_compStart_list loop (T.self _ 0 _ _ _ (stn _ _ _ st2 λ b o e=>k34 b o (k23 b o e)) loop)
theorem D2(hc:X.calm=true)(hi:PI X tg iter wi)(hg:∀cl C s H ex,PG (AF X scope cl N C s H ex) tg g)(hcn:∀cl C s H ex,PT (AF X scope cl N C s H ex) cnd tc)(he:∀cl C s H ex,PE (AF X scope cl N C s H ex) elt te)
  (hk:DM X.env.scope X.N scope N fr=true:=by rfl) (hs:∀x,foldedSetIterable iter X.env x=pure x:=by intro _;rfl):PE X (.ListComp elt [⟨tg,iter,[cnd],0⟩] scope pos) (L9 wi g tc te fr):=by
 intro pins s σ H Q I h;have ck:=Dc hk;obtain⟨cl,e1,c1,c2⟩:=G0 I.ok ck;rw[eval_ListComp];refine wpAny_comprehension_free (use:=none) (Q:=EP X pins σ Q) rfl hs e1 ck.kind ck.loc (HS (R:=λ acc C=>compPost (model X.prog X.w) X.A X.xe none (EP X pins σ Q) acc C) hc I hi hg hcn he ck c1 c2 h λ acc C s' H' m hn f I' q=>?_);obtain⟨f0,f1,f2,f3,f4,f5⟩:=f;exact⟨m,hn,λ h' hs'=>⟨.ref acc,H',I'.turned (t':=s'.toks) (λ b o hb e=>hs'.extBut b o hb e) f0 f1 f3 f4 f5,rfl,q⟩⟩
theorem D0{y:Str}{py spos:Pos}{gy:TG}(hc:X.calm=true)(hy:PG X (.Name y py) gy)(hi:PI X tg iter wi)(hg:∀cl C s H ex,PG (AF X scope cl N C s H ex) tg g)(hcn:∀cl C s H ex,PT (AF X scope cl N C s H ex) cnd tc)(he:∀cl C s H ex,PE (AF X scope cl N C s H ex) elt te)
    (hk:DM X.env.scope X.N scope N fr=true:=by rfl) (hsw:swapsWith (.ListComp elt [⟨tg,iter,[cnd],0⟩] scope pos) (some (.Name y py)) spos.line X.env=pure true:=by rfl) (hs:∀x,foldedSetIterable iter X.env x=pure x:=by intro _;rfl) :
    PS X (.Assign [.Name y py] (.ListComp elt [⟨tg,iter,[cnd],0⟩] scope pos) spos) (Qu (L9 wi g tc te fr) gy):=by
  intro pins s σ H D I h;have ck:=Dc hk;obtain⟨cl,e1,c1,c2⟩:=G0 I.ok ck;rw[exec_Assign_Name_used _ _ _ _ hsw];refine wpAny_bind (wpAny_standAt (wpAny_bind ?_));show wpAny _ X.A (do let _ <-comprehension (.ListComp elt [⟨tg,iter,[cnd],0⟩] scope pos) scope X.env _ (newList []) false (eval iter X.env) (some (assign (.Name y py) X.env))) _ _ s;refine wpAny_bind (wpAny_mono (wpAny_comprehension_free (use:=some (assign (.Name y py) X.env)) (Q:=λ_ s'=>SP X pins D .next s') rfl hs e1 ck.kind ck.loc
    (HS (R:=λ acc C=>compPost (model X.prog X.w) X.A X.xe (some (assign (.Name y py) X.env)) (λ_ s'=>SP X pins D .next s') acc C) hc I hi hg hcn he ck c1 c2 h λ acc C s' H' m hn f I' q=>?_)) (λ_ s' hq=>wpAny_pure (wpAny_pure hq)) λ_ _ e=>e)
  show wpAny _ X.A (assign (.Name y py) X.env (.ref acc)) _ _ _;obtain⟨oC,es,ep,hoC,hdC,hrC⟩:=id hn;have IP:=I'.pinned (fp:=[C]) (λ b hb=>by rw[ai.mp hb];exact f) (λ b hb=>by rw[ai.mp hb];exact⟨oC,hoC,λ v z=>by rw[hdC]at z;cases z⟩);refine thn (hy _ s' σ H' (.ref acc) (.ref acc) _ IP rfl q) λ_ s'' ⟨σ6,H6,I6,q6⟩=>?_;have pC:=I6.pin (C,oC) (aw _ (aw _ (AT (ai.mpr rfl) hoC)));obtain⟨f0,f1,f2,f3,f4,f5⟩:=f;exact⟨m,⟨oC,es,ep,pC.1,hdC,hrC⟩,λ h' hs'=>⟨σ6,H6,I6.unpinned.turned (t':=s''.toks) (λ b o hb e=>hs'.extBut b o hb e) pC.2.1 f1 f3 f4 f5,q6⟩⟩
end
section
variable{X:Cx}{a b c d:Expr}{ta tb tc td:TE}{pos:Pos}
theorem Bq{K:Frag}(hK:X.K=K:=by rfl):IxR X (Tx K):=by subst hK;exact Ar
theorem Pw{K:Frag}(hK:X.K=K:=by rfl):IxR X (Tz K):=by subst hK;exact CZ
end
def fW(acc:Addr)(n:Nat)(Pv:Nat->LUz->St->Hp->Prop)(i m:Nat)(σ:St)(H:Hp):Prop:=i<=n/\m=n-i/\∃xs,xs.length<=i/\H acc=some (.lst xs)/\Pv i xs σ H
def fNx(acc:Addr)(n:Nat)(Pv:Nat->LUz->St->Hp->Prop)(i:Nat)(σ:St)(v:V)(H:Hp):Prop:=∃xs,H acc=some (.lst xs)/\xs.length<sizeLine/\∃m',m'<n-i/\fW acc n Pv (i+1) m' σ (upd H acc (.lst (xs++[v])))
def fSk(acc:Addr)(n:Nat)(Pv:Nat->LUz->St->Hp->Prop)(i:Nat)(σ:St)(H:Hp):Prop:=∃m',m'<n-i/\fW acc n Pv (i+1) m' σ H
theorem fNx.mk{acc:Addr}{n:Nat}{Pv:Nat->LUz->St->Hp->Prop}{i:Nat}{σ:St}{v:V}{H:Hp}{xs:LUz}(hn:n<=sizeLine)(hi:i<n)(hl:xs.length<=i)(ha:H acc=some (.lst xs))(hp:Pv (i+1) (xs++[v]) σ (upd H acc (.lst (xs++[v])))) :
  fNx acc n Pv i σ v H:=⟨xs,ha,by lia,n-(i+1),by lia,hi,rfl,xs++[v],by rw[av,aX];lia,Ad,hp⟩
theorem fSk.mk{acc:Addr}{n:Nat}{Pv:Nat->LUz->St->Hp->Prop}{i:Nat}{σ:St}{H:Hp}{xs:LUz}(hi:i<n)(hl:xs.length<=i)(ha:H acc=some (.lst xs))(hp:Pv (i+1) xs σ H):fSk acc n Pv i σ H:=⟨n-(i+1),by lia,hi,rfl,xs,by lia,ha,hp⟩
theorem B8{K:Frag}{a:Addr}{ys:LUz}{g:TG}{tc:TT}{te:TE}{σ:St}{H1:Hp}{acc:Addr}{Qr:Hp->Prop}(Pv:Nat->LUz->St->Hp->Prop)(h0:Pv 0 [] σ (upd H1 acc (.lst [])))
  (hq:∀i xs σ H,i<=ys.length->H acc=some (.lst xs)->Pv i xs σ H->SqL K H a ys)
  (hs:∀i x xs σ H,ys[i]?=some x->i<ys.length->xs.length<=i->H acc=some (.lst xs)->Pv i xs σ H->g x σ H λ σ2 H2=>tc σ2 H2 λ b Hb=>match b with
   |true=>te σ2 Hb λ v H3=>fNx acc ys.length Pv i σ2 v H3
   |false=>fSk acc ys.length Pv i σ2 Hb)
  (hd:∀xs σ H,xs.length<=ys.length->H acc=some (.lst xs)->Pv ys.length xs σ H->Qr H) :
  ∃W:Nat->Nat->St->Hp->Prop,(∃m,W 0 m σ (upd H1 acc (.lst [])))/\∀i m σ1 H2,W i m σ1 H2 ->
   ((Itl K a).stop i H2/\Qr H2)\/((Itl K a).go i H2/\∀x H3,(Itl K a).yld i H2 x H3->g x σ1 H3 λ σ4 H4=>tc σ4 H4 λ b Hb=>match b with
    |true=>te σ4 Hb λ v H5=>∃xs,H5 acc=some (.lst xs)/\xs.length<sizeLine/\∃m',m'<m/\W (i+1) m' σ4 (upd H5 acc (.lst (xs++[v])))
    |false=>∃m',m'<m/\W (i+1) m' σ4 Hb):=by
 refine⟨fW acc ys.length Pv,⟨ys.length,aQ _,rfl,[],ah _,Ad,h0⟩,?_⟩;rintro i m σ1 H2 ⟨hi,rfl,xs,hl,ha,hp⟩;have hsq:=hq i xs σ1 H2 hi ha hp;rcases cO i ys.length with h|h
 .refine .inr ⟨⟨ys,ys[i],hsq,ag h⟩,?_⟩;rintro x H3 ⟨rfl,hx⟩;exact hs i x xs σ1 H3 (hx ys hsq) h hl ha hp
 .have e:i=ys.length:=b8 hi h;subst e;exact .inl ⟨⟨ys,hsq,ah _⟩,hd xs σ1 H2 hl ha hp⟩
section
variable{X:Cx}
theorem OB{K:Frag}(hK:X.K=K:=by rfl):SlR X (Tv K):=by subst hK;exact EB
end
theorem Paired.get{α β:Type}{F:α->β->Prop}:∀{l₁:List α}{l₂:List β},Paired F l₁ l₂->∀{i:Nat}{a:α},l₁[i]?=some a->∃b,l₂[i]?=some b/\F a b
 |_,_,.nil,i,a,h=>by simp at h
 |_,_,.cons f t,0,a,h=>by
  simp only[List.getElem?_cons_zero,Option.some.injEq]at h;subst h;exact⟨_,rfl,f⟩
 |_,_,.cons f t,i+1,a,h=>by
  simp only[List.getElem?_cons_succ]at h |-;exact Paired.get t h
theorem S0{P:Program}{w:World}{k:Key}{u:Value}(h:(Ay P w).is k u=true):RelV (kV k) u:=by
 rcases AM (show Hr k u=true from h) with ⟨i,t,rfl,rfl⟩|⟨x,t,rfl,rfl⟩
 .exact⟨t,rfl⟩
 .exact⟨t,rfl⟩
def Itm(a:Addr)(ob:Obj):It :=
 ⟨λ i H=>∃kvs p,H a=some (.frz ob (.dK kvs))/\kvs[i]?=some p,
  λ i H y H'=>∃t p,(∀kvs,H a=some (.frz ob (.dK kvs))->kvs[i]?=some p)/\y=.ref t/\H t=none/\H'=upd H t (.tup [kV p.1,p.2]),
  λ i H=>∃kvs,H a=some (.frz ob (.dK kvs))/\kvs.length<=i⟩
theorem P9{P:Program}{w:World}{H:Hp}{h:Heap}{a:Addr}{ob:Obj}{kvs:List (Key×V)}{ents:Array DictEntry}{n ep:Nat}(ok:HOk P w H h)(e:H a=some (.frz ob (.dK kvs)))(hd:ob.data=.dict ents ep)(hn:ents.size=n) :
  ∃vs,KV kvs vs/\h.DictAt (Ay P w) a vs ep/\vs.length=n:=by
 obtain⟨ho,_,_,vs,rel,o,es,ep',h1,h2,h3,h4,h5,h6⟩:=(show ObjOk P w H h a (.frz ob (.dK kvs)) from ok a _ e);rw[ho]at h1;cases h1;rw[hd]at h3;cases h3;refine⟨vs,rel,⟨_,_,ho,h2,hd,h4,h5,h6⟩,?_⟩;rw[<-h5.length,aV];exact hn
theorem L6{P:Program}{w:World}{K:Frag}{es:List Expr}{k:Nat}{pos:Pos}(a it:Addr){ob:Obj}{ents:Array DictEntry}{n ep:Nat}(hd:ob.data=.dict ents ep)(hn:ents.size=n) :
  Mi P w K (.Tuple es k pos) (Itm a ob) [it] it (λ i h=>∃ok ov,IsItemIter h it a i n ep ok ov) where
 mem:=by simp
 obj:=λ i h st b hb=>by
  obtain⟨ok,ov,he⟩:=st;rw[ai.mp hb];exact⟨_,he,λ v z=>by
   have z':Data.fields _=Data.cell v:=z;cases z'⟩
 keep:=λ i h h' st kk=>by
  obtain⟨ok,ov,he⟩:=st;exact⟨ok,ov,kk it (by simp) _ he⟩
 item:=by
  intro X hP hw hK hc i pins s σ H E I hf st hg;subst hP hw hK;obtain⟨ok,ov,he⟩:=st;obtain⟨kvs,p,hq,hx⟩:=hg;obtain⟨vs,rel,hat,hl⟩:=P9 I.hok hq hd hn;obtain⟨⟨k',u⟩,hu,hk',ru⟩:=Paired.get rel hx;have fi:=hf it (by simp);subst hl;refine wpAny_pyNext_items_item he hat hu λ key h' hkey ho hT hsz kk=>?_;refine⟨_,rfl,?_⟩;have hfr:H s.heap.objs.size=none:=I.hok.fresh (ah _);have ltI:it<s.heap.objs.size:=aq he;have rk:RelV (kV p.1) key:=by
   have e:p.1=k':=hk';rw[e];exact S0 hkey
  have I1:Inv X pins σ (upd H s.heap.objs.size (.tup [kV p.1,p.2])) { s with heap:=h',toks:=s.toks }:=by
   refine IX I fi fi (λ b o nb _ z=>kk b o nb z) ⟨_,ho⟩ ⟨_,ho⟩ ⟨?_,[key,u],.cons rk (.cons ru .nil),⟨_,hT,rfl,_,rfl⟩⟩;show 2<=sizeLine;decide
  refine wpAny_letOwnedTupleGo_items (s:={ s with heap:=h' }) ho λ h2 he2 sb=>?_;have nI:it≠s.heap.objs.size:=aB ltI;have fi2:(upd H s.heap.objs.size (.tup [kV p.1,p.2])) it=none:=by rw[Af nI];exact fi.1
  have I2:Inv X pins σ (upd H s.heap.objs.size (.tup [kV p.1,p.2])) { ({ s with heap:=h',toks:=s.toks }:Shared) with heap:=h2,toks:=s.toks } :=
   I1.turned (t':=s.toks) (it:=it) (λ b o hb z=>(sb.2 b hb).trans z) fi2 fi.2.1 fi.2.2.2.1 fi.2.2.2.2.1 fi.2.2.2.2.2
  refine⟨.ref s.heap.objs.size,_,I2,rfl,⟨_,p,λ ys hy=>?_,rfl,hfr,rfl⟩,⟨_,_,he2⟩,λ b hb=>?_⟩
  .rw[hq]at hy;cases hy;exact hx
  .rw[ai.mp hb];exact fi2
 done:=by
  intro X hP hw hK hc i pins s σ H E I hf st hg;subst hP hw hK;obtain⟨ok,ov,he⟩:=st;obtain⟨kvs,hq,hx⟩:=hg;obtain⟨vs,rel,hat,hl⟩:=P9 I.hok hq hd hn;obtain⟨f0,f1,f2,f3,f4,f5⟩:=hf it (by simp);have hle:kvs.length=vs.length:=rel.length;subst hl;exact wpAny_pyNext_items_end (I.ok.hd hc) he hat (bj (by lia)) λ h' eb=>⟨rfl,I.turned (t':=s.toks) (λ b o hb z=>eb b o hb z) f0 f1 f3 f4 f5⟩
 self:=λ_ _ _ _ _ st h=>by
  obtain⟨ok,ov,he⟩:=st;exact kcp_self he h
def S9(td:TE):TI:=λ σ H R=>td σ H λ x H1=>∃a kvs,x=.ref a/\H1 a=some (.dK kvs)/\∀ob,R (Itm a ob) (upd H1 a (.frz ob (.dK kvs)))
section
variable{X:Cx}
theorem GS{o:Expr}{es:List Expr}{k:Nat}{tpos apos cpos:Pos}{td:TE}(hp:PE X o td)
  (hb:attributeBase o "items" X.env (eval o X.env)=eval o X.env:=by rfl) (hline:(apos.endLine==cpos.line)=true:=by rfl) :
  PI X (.Tuple es k tpos) (.Call (.Attribute o "items" apos) [] [] cpos) (S9 td):=by
 intro pins s σ H R I h;refine wpAny_Call_method0_late hb hline (thn (hp pins s σ H _ I h) λ v s1 hz_=>?_);obtain⟨x,H1,I1,r1,q1⟩:=hz_;obtain⟨a,kvs,e,ea,q⟩:=q1;subst e;cases r1;obtain⟨hty,hnd,hsys⟩:=Py I1 (.inl ⟨kvs,.inl ea⟩);obtain⟨_,_,vs,rel,dd⟩:=PK I1.hok ea;refine⟨"dict","dict.items",bR,dW,PySem.F.type_dict_items,hty,hnd,Calls.callWith_builtin rfl (PySem.evalArgs_none ?_)⟩;refine call_meetsIn dW dd.typeIs PySem.F.entry_dict_items (PySem.F.args_dict_items_1 _) (meets_dict_items (Ay X.prog X.w) a hsys) ⟨⟨vs,dd⟩,?_⟩;obtain⟨ob,ents,ep,g1,g2,g3,g4,g5,g6⟩:=id dd;have hat:s1.heap.DictAt (Ay X.prog X.w) a vs ep:=⟨ob,ents,g1,g2,g3,g4,g5,g6⟩;refine wpAny_pyIter_items (knd:=Ay X.prog X.w) ⟨_,au _ rfl,rfl,rfl⟩ (hat.push _) ?_;have I2:Inv X pins σ H1 { s1 with heap:=s1.heap.push { cls:=.type "dict_items",data:=.fields #[.ref a] },toks:=s1.toks }:=I1.kept λ b u z=>ae _ z;have I3:=I2.kept (h':=(s1.heap.push { cls:=.type "dict_items",data:=.fields #[.ref a] }).push { cls:=.type "dict_itemiterator",data:=.fields #[.none,.bool false,.ref a,.int 0 0,.int vs.length 0,.int ep 0,.none,.none] }) (t':=s1.toks) λ b u z=>ae _ z;have g1':((s1.heap.push { cls:=.type "dict_items",data:=.fields #[.ref a] }).push { cls:=.type "dict_itemiterator",data:=.fields #[.none,.bool false,.ref a,.int 0 0,.int vs.length 0,.int ep 0,.none,.none] }).get? a=some ob:=ae _ (ae _ g1);have I4:=I3.write (x:=a) (e:=a) (o:=.frz ob (.dK kvs)) (h':=(s1.heap.push { cls:=.type "dict_items",data:=.fields #[.ref a] }).push { cls:=.type "dict_itemiterator",data:=.fields #[.none,.bool false,.ref a,.int 0 0,.int vs.length 0,.int ep 0,.none,.none] }) (t':=s1.toks)
  (by rw[ea];exact True.intro) (.inl rfl) (λ b u _ z=>z) ⟨ob,g1'⟩ ⟨g1',I3.hok a _ ea⟩
 have hsz:ents.size=vs.length:=by rw[<-g5.length,aV]
 have na:s1.heap.objs.size+1≠a:=dG (bc (aq g1));refine⟨(s1.heap.push { cls:=.type "dict_items",data:=.fields #[.ref a] }).objs.size,[(s1.heap.push { cls:=.type "dict_items",data:=.fields #[.ref a] }).objs.size],_,_,_,rfl,I4,L6 a _ g3 hsz,⟨_,_,au _ rfl⟩,λ b hb'=>?_,q ob⟩;rw[ai.mp hb'];refine I2.fpOk (ah _) ?_;rw[Af (by rw[bt];exact na)];exact I2.hok.fresh (ah _)
end
theorem Oa{a:Addr}{ob:Obj}{kvs:List (Key×V)}{g:TG}{tb:TS}{D:Dj}{σ:St}{H:Hp}(Pv:Nat->St->Hp->Prop)(h0:Pv 0 σ H)(hl:∀i σ H,i<=kvs.length->Pv i σ H->H a=some (.frz ob (.dK kvs)))
  (hs:∀i p σ H t,kvs[i]?=some p->Pv i σ H->H t=none->g (.ref t) σ (upd H t (.tup [kV p.1,p.2])) λ σ2 H2=>tb { D with nx:=Pv (i+1),ct:=Pv (i+1),bk:=D.nx } σ2 H2) (hd:∀σ H,Pv kvs.length σ H->D.nx σ H) :
  ∃W:Nat->Nat->St->Hp->Prop,(∃m,W 0 m σ H)/\∀i m σ H,W i m σ H ->
   ((Itm a ob).stop i H/\D.nx σ H)\/((Itm a ob).go i H/\∃N:St->Hp->Prop,(∀σ' H',N σ' H'->∃m',m'<m/\W (i+1) m' σ' H')/\∀x H',(Itm a ob).yld i H x H'->g x σ H' λ σ2 H2=>tb { D with nx:=N,ct:=N,bk:=D.nx } σ2 H2):=by
 refine⟨λ i m σ H=>m=kvs.length-i/\i<=kvs.length/\Pv i σ H,⟨kvs.length,by simp,aQ _,h0⟩,?_⟩;rintro i m σ H ⟨rfl,hi,p⟩;have q:=hl i σ H hi p;by_cases hlt:i<kvs.length
 .refine .inr ⟨⟨kvs,kvs[i],q,by simp[hlt]⟩,Pv (i+1),λ σ' H' p'=>⟨kvs.length-(i+1),by lia,rfl,hlt,p'⟩,λ x H' y=>?_⟩;obtain⟨t,z,hz,rfl,ht,rfl⟩:=y;exact hs i z σ H t (hz kvs q) p ht
 .have e:i=kvs.length:=by lia
  subst e;exact .inl ⟨⟨kvs,q,ah _⟩,hd σ H p⟩
theorem Ll{lo:Int}{n:Nat}{g:TG}{tc:TT}{te:TE}{σ:St}{H1:Hp}{acc:Addr}{Qr:Hp->Prop}(Pv:Nat->LUz->St->Hp->Prop)(h0:Pv 0 [] σ (upd H1 acc (.lst [])))
  (hs:∀i xs σ H,i<n->xs.length<=i->H acc=some (.lst xs)->Pv i xs σ H->g (.int (lo+i)) σ H λ σ2 H2=>tc σ2 H2 λ b Hb=>match b with
   |true=>te σ2 Hb λ v H3=>fNx acc n Pv i σ2 v H3
   |false=>fSk acc n Pv i σ2 Hb)
  (hd:∀xs σ H,xs.length<=n->H acc=some (.lst xs)->Pv n xs σ H->Qr H) :
  ∃W:Nat->Nat->St->Hp->Prop,(∃m,W 0 m σ (upd H1 acc (.lst [])))/\∀i m σ1 H2,W i m σ1 H2 ->
   ((Itr lo n).stop i H2/\Qr H2)\/((Itr lo n).go i H2/\∀x H3,(Itr lo n).yld i H2 x H3->g x σ1 H3 λ σ4 H4=>tc σ4 H4 λ b Hb=>match b with
    |true=>te σ4 Hb λ v H5=>∃xs,H5 acc=some (.lst xs)/\xs.length<sizeLine/\∃m',m'<m/\W (i+1) m' σ4 (upd H5 acc (.lst (xs++[v])))
    |false=>∃m',m'<m/\W (i+1) m' σ4 Hb):=by
 refine⟨fW acc n Pv,⟨n,aQ _,rfl,[],ah _,Ad,h0⟩,?_⟩;rintro i m σ1 H2 ⟨hi,rfl,xs,hl,ha,hp⟩;rcases cO i n with h|h
 .refine .inr ⟨h,?_⟩;rintro x H3 ⟨rfl,rfl⟩;exact hs i xs σ1 H3 h hl ha hp
 .have e:i=n:=b8 hi h;subst e;exact .inl ⟨ah _,hd xs σ1 H2 hl ha hp⟩
section
variable{prog:Program}{w:World}{A:Around}{E:VPz}{s:Shared}{d:Addr}{od:Obj}{es:Array DictEntry}{ep:Nat}
theorem QM{Q:VPz}(hs:(d==sysModules)=false)(hT:s.TypeIs (.ref d) "dict")(hd:s.heap.get? d=some od)(dd:od.data=.dict es ep)(fit:(es.size:Int)<2^63)
  (fin:Q (.int es.size (s.toks+1)) { s with toks:=s.toks+1+1 }):wpAny (model prog w) A (call (.builtin "len") [.ref d]) Q E s:=by
 refine Calls.call_function_entry kind_len plain_len entry_len (args_len1 _) ?_;unfold Builtin.«len»;refine wpAny_bind (m:=oneArg "len" _) (wpAny_pure ?_);refine wpAny_bind (m:=callSpecial? (.ref d) (Str.ofString "__len__")) (wpAny_callSpecial?_slot (name:=Str.ofString "__len__") hT eh (wpAny_call_entry eh hT PySem.F.entry_dict_len ?_ (PySem.F.args_dict_len_1 _)));unfold Builtin.«dict.__len__» Builtin.Dict.dictSlotNone;refine wpAny_bind (wpAny_bind (wpAny_notOrdered_dict hT ?_));show wpAny (model prog w) _ (pure (Value.ref d)) _ _ s;refine wpAny_pure (wpAny_bind (wpAny_pure ?_));unfold dictSize;refine wpAny_bind (wpAny_bind (wpAny_dictEntries hd dd (wpAny_pure ?_)));refine wpAny_bind (wpAny_pendingCount_other hs ?_);refine wpAny_ret_mkInt ?_;refine wpAny_bind (wpAny_holding (wpAny_pure ?_));refine wpAny_bind (wpAny_letGo ?_);have c1:¬((es.size+0:Nat):Int)<0:=by lia
 have c2:¬((es.size+0:Nat):Int)>=2^63:=by lia
 show wpAny (model prog w) _ (if ((es.size+0:Nat):Int)<0 then _ else _) _ _ _;rw[if_neg c1];show wpAny (model prog w) _ (if ((es.size+0:Nat):Int)>=2^63 then _ else _) _ _ _;rw[if_neg c2];exact wpAny_bind (wpAny_mkInt (wpAny_pure ⟨_,rfl,fin⟩))
end
structure On(K:Frag)(C:Addr):Prop where
 cl:Cls K C
 ha:findIn K (.ref C) "__class__"=some (some (.builtin "object.__class__"))
 hn:specialIn K (.builtin "object.__class__") "__get__"=some (some (.builtin "getset_descriptor.__get__"))
 htk:takesIn K (.builtin "object.__class__")=some true
 hm:mroIn K C (.type "object")=some true
def Itv(K:Frag)(a:Addr)(n:Nat):It :=
 ⟨λ i H=>∃xs,SqL K H a xs/\xs.length=n/\i<n,λ i H x H'=>H'=H/\∀xs,SqL K H a xs->xs[n-1-i]?=some x,λ i H=>n<=i⟩
theorem Ow{P:Program}{w:World}{K:Frag}{tg:Expr}(a it:Addr)(n:Nat):Mi P w K tg (Itv K a n) [it] it (λ i h=>i<=n/\h.IsRevIter it a ((n:Int)-1-i)) where
 mem:=by simp
 obj:=λ i h st b hb=>by
  have e:b=it:=by simpa using hb
  subst e;obtain⟨_,o,e,c,d⟩:=st;exact⟨o,e,λ v z=>by rw[d]at z;cases z⟩
 keep:=λ i h h' st k=>⟨st.1,st.2.at λ o e=>k it (by simp) o e⟩
 item:=by
  intro X hP hw hK hc i pins s σ H E I hf st hg;subst hP hw hK;obtain⟨xs,hq,hn,hi⟩:=hg;obtain⟨hin,st⟩:=st;obtain⟨its,rv,p,hz⟩:=I.list hq;have hx:xs[n-1-i]?=some (xs[n-1-i]'(by lia)):=ag (by lia);obtain⟨u,hu,ru⟩:=rv.get hx;obtain⟨f0,f1,f2,f3,f4,f5⟩:=hf it (by simp);have st':s.heap.IsRevIter it a (((n-1-i:Nat):Int)):=by
   rw[show(((n-1-i:Nat):Int))=(n:Int)-1-i by lia];exact st
  refine wpAny_pyNext_rev_item st' p.isList (x:=u) (by simpa using hu) λ h' st' sb=>?_;have I1:Inv X pins σ H { s with heap:=h' }:=I.turned (t':=s.toks) (λ b o hb e=>(sb.2 b hb).trans e) f0 f1 f3 f4 f5;obtain⟨o,e,c,d⟩:=id st';refine⟨u,rfl,MM (s:={ s with heap:=h' }) e c d (by decide) ⟨_,H,I1,ru,⟨rfl,λ ys hy=>by rw[I.list_inj hy hq];exact hx⟩,⟨by lia,?_⟩,λ b hb=>(hf b hb).1⟩⟩;rw[show(n:Int)-1-((i+1:Nat):Int)=((n-1-i:Nat):Int)-1 by lia];exact st'
 done:=by
  intro X hP hw hK hc i pins s σ H E I hf st hg;subst hP hw hK;obtain⟨hin,st⟩:=st;obtain⟨f0,f1,f2,f3,f4,f5⟩:=hf it (by simp);have e:i=n:=b8 hin hg;subst e;rw[show(i:Int)-1-(i:Int)=-1 by lia]at st;exact wpAny_pyNext_rev_end (I.ok.hd hc) st λ h' eb=>⟨rfl,I.turned (t':=s.toks) (λ b o hb e=>eb b o hb e) f0 f1 f3 f4 f5⟩
 self:=λ_ _ _ _ _ st h=>wpAny_pyIter_revIter st.2 h
def UI(K:Frag)(ta:TA):TI:=λ σ H R=>ta σ H λ vs H1=>∃a xs,vs=[.ref a]/\SqL K H1 a xs/\R (Itv K a xs.length) H1
theorem I0:bootBuiltins "reversed"=some (.type "reversed"):=rfl
section
variable{X:Cx}{tg:Expr}
theorem QA{a:Expr}{ta:TA}{p pos:Pos}(hg:Gl X "reversed")(hm:X.mg "reversed"=none)(ha:PA X [a] ta)(hs:starEach [a] X.env=[(false,eval a X.env)]:=by rfl) :
  PI X tg (.Call (.Name "reversed" p) [a] [] pos) (UI X.K ta):=by
 intro pins s σ H R I h;refine Call_ (Cm I hg hm I0 (PyProof.Rows.callWith_type1 (thn (ha pos pins s σ H _ I h) λ us s1 hz_=>?_) hs rfl));obtain⟨vs,H1,I1,r1,q1⟩:=hz_;obtain⟨b,xs,e,hq,q⟩:=q1;subst e;cases r1 with
 |cons r rr =>
  cases rr;cases r;obtain⟨its,rv,pl,hz⟩:=I1.list hq;have hl:=rv.length;refine call_reversed_list pl.isList ?_;have I2:Inv X pins σ H1 { s1 with heap:=s1.heap.push (revObj b ((its.toArray.size:Int)-1)) }:=I1.kept (t':=s1.toks) λ c o e=>ae _ e;refine wpAny_pyIter_revIter (s:={ s1 with heap:=s1.heap.push (revObj b ((its.toArray.size:Int)-1)) }) ⟨_,au _ rfl,rfl,rfl⟩ ?_;refine⟨s1.heap.objs.size,[s1.heap.objs.size],_,_,H1,rfl,I2,Ow b _ xs.length,⟨aQ _,⟨_,au _ rfl,rfl,?_⟩⟩,λ c hc=>?_,q⟩
  .show Data.fields _=Data.fields _;rw[show((its.toArray.size:Int)-1)=(xs.length:Int)-1-((0:Nat):Int) by rw[ak,<-hl];lia]
  .have e:c=s1.heap.objs.size:=by simpa using hc
   subst e;exact I1.fpOk (ah _) (I1.hok.fresh (ah _))
end
theorem Rb{K:Frag}{a:Addr}{xs:LUz}{g:TG}{tb:TS}{D:Dj}{σ:St}{H:Hp}(Pv:Nat->St->Hp->Prop)(h0:Pv 0 σ H)(hl:∀i σ H,i<=xs.length->Pv i σ H->SqL K H a xs)
  (hs:∀i x σ H,xs[xs.length-1-i]?=some x->i<xs.length->Pv i σ H->g x σ H λ σ2 H2=>tb { D with nx:=Pv (i+1),ct:=Pv (i+1),bk:=D.nx } σ2 H2) (hd:∀σ H,Pv xs.length σ H->D.nx σ H) :
  ∃W:Nat->Nat->St->Hp->Prop,(∃m,W 0 m σ H)/\∀i m σ H,W i m σ H ->
   ((Itv K a xs.length).stop i H/\D.nx σ H)\/((Itv K a xs.length).go i H/\∃N:St->Hp->Prop,(∀σ' H',N σ' H'->∃m',m'<m/\W (i+1) m' σ' H')/\∀x H',(Itv K a xs.length).yld i H x H'->g x σ H' λ σ2 H2=>tb { D with nx:=N,ct:=N,bk:=D.nx } σ2 H2):=by
 refine⟨λ i m σ H=>m=xs.length-i/\i<=xs.length/\Pv i σ H,⟨xs.length,by simp,aQ _,h0⟩,?_⟩;rintro i m σ H ⟨rfl,hi,p⟩;have q:=hl i σ H hi p;by_cases hlt:i<xs.length
 .refine .inr ⟨⟨xs,q,rfl,hlt⟩,Pv (i+1),λ σ' H' p'=>⟨xs.length-(i+1),by lia,rfl,hlt,p'⟩,λ x H' y=>?_⟩;obtain⟨e,y⟩:=y;subst e;exact hs i x σ _ (y xs q) hlt p
 .have e:i=xs.length:=by lia
  subst e;exact .inl ⟨ah _,hd σ H p⟩
structure FunD(K:Frag)(x qual:Str)(st:Stmt)(f:Addr)(fd:FuncData):Prop where
 ex:∃(oc:Value)(od:Option Addr)(T:Addr)(kV doc pm:Value)(an:Option Addr)(cdv ct:Value)(osl:AOz)(o:Obj)(n:Nat),
  fd=fnOf x qual (Bl st) (A5 st) (Ai st) (.ref T) kV doc pm an cdv ct/\K.lookup f=some ⟨oc,od,.func fd,osl⟩/\codeIn K cdv qual=true/\K.lookup T=some o/\o.data=.seq #[.none] n
 kp:keepIn K (.ref f)=true
section
variable{P:Program}{w:World}{K:Frag}{mg:MGz}{base:Heap}
theorem FunD.ok{x qual:Str}{st:Stmt}{f:Addr}{fd:FuncData}{N ps:LSz}{k:Nat}{sp:Sp}(F:FunD K x qual st f fd)(S:Ak N ps (Ai st))(len:∀vs H Q E,sp vs H Q E->vs.length=ps.length)
  (hbody:∀(cdv:Value)(A:Around)(outer:List Env)(s:Shared)(H:Hp)(vs:LUz)(Q:VK)(E:XK),Room k (A.deeper (envOfC qual (Ai st) s.heap.objs.size f cdv))->sp vs H Q E ->
   ∃t,PSs (Cs CX0 P w K mg base N qual (Ai st) f cdv A outer s H E).nox (A5 st) t/\t { nx:=λ_ H'=>Q .non H',rt:=Q } (start N vs) H):A2 P w K mg base CX0 (k+1) f fd ps sp:=by
 obtain⟨oc,od,T,kV,doc,pm,an,cdv,ct,osl,o,n,rfl,lk,hcd,lT,dT⟩:=F.ex;refine PB lk hcd S len λ A outer s H vs Q E hr hsp=>?_;obtain⟨t,h,q⟩:=hbody cdv A outer s H vs Q E hr hsp;exact⟨t,h.nox,q⟩
theorem FunD.binds{x qual:Str}{st:Stmt}{f:Addr}{fd:FuncData}{ps:LSz}{ds:LWz}(F:FunD K x qual st f fd)
  (h:∀(T:Addr)(kV doc pm:Value)(an:Option Addr)(cdv ct:Value)(us:LWz),(us++ds).length=ps.length->∃k:Option (Array Value)->Sem (List (Str×Value)),
   bindArgs (fnOf x qual (Bl st) (A5 st) (Ai st) (.ref T) kV doc pm an cdv ct) ⟨us,[]⟩=seqItems? (.ref T) >>= k/\k (some #[.none])=pure (ps.zip (us++ds))):Binds K fd ps ds:=by
 obtain⟨oc,od,T,kV,doc,pm,an,cdv,ct,osl,o,n,rfl,lk,hcd,lT,dT⟩:=F.ex;intro s us X hl;obtain⟨k,h1,h2⟩:=h T kV doc pm an cdv ct us hl;exact .of_defaults rfl (X _ _ lT) dT h1 h2
end
def PXS(X:Cx)(st:Stmt)(t:XK->TS):Prop:=∀(E:XK)(pins:PNz)(s:Shared)(σ:St)(H:Hp)(D:Dj)(Ex:VPz),Inv X pins σ H s->t E D σ H ->
 (∀x T C d H' s',Inv X pins σ H' s'->RF H' x C d T->E (.ref x) d H'->Ex (.ref x) s')->wpAny (model X.prog X.w) X.A (exec st X.env) (SP X pins D) Ex s
theorem IQ{H H':Hp}(s:Same H H'){a:Addr}(h:H' a=none):H a=none:=by
 cases e:H a with
 |none=>rfl
 |some o=>rw[s _ _ e]at h;cases h
mutual
def DAt(H:Hp):D->V->Prop
 |.at u,v=>v=u/\Cu u=true
 |.tup ds,v=>∃a xs,v=.ref a/\H a=some (.tup xs)/\IA H ds xs
 |.lst ds,v=>∃a xs,v=.ref a/\H a=some (.lst xs)/\IA H ds xs
def IA(H:Hp):Ds->LUz->Prop
 |.nil,xs=>xs=[]
 |.cons d r,xs=>∃x ys,xs=x::ys/\DAt H d x/\IA H r ys
end
mutual
theorem PN{H H':Hp}(s:Same H H'):∀(d:D){v:V},DAt H d v->DAt H' d v
 |.at u,v,h=>by rw[DAt]at h |-;exact h
 |.tup ds,v,h=>by
  rw[DAt]at h |-;obtain⟨a,xs,e,q,r⟩:=h;exact⟨a,xs,e,s _ _ q,F7 s ds r⟩
 |.lst ds,v,h=>by
  rw[DAt]at h |-;obtain⟨a,xs,e,q,r⟩:=h;exact⟨a,xs,e,s _ _ q,F7 s ds r⟩
theorem F7{H H':Hp}(s:Same H H'):∀(ds:Ds){xs:LUz},IA H ds xs->IA H' ds xs
 |.nil,xs,h=>by rw[IA]at h |-;exact h
 |.cons d r,xs,h=>by
  rw[IA]at h |-;obtain⟨x,ys,e,p,q⟩:=h;exact⟨x,ys,e,PN s d p,F7 s r q⟩
end
mutual
theorem SE{K:Frag}{H:Hp}:∀(d:D){v:V},DAt H d v->DIs K H d v
 |.at u,v,h=>by rw[DAt]at h;rw[DIs];exact h
 |.tup ds,v,h=>by
  rw[DAt]at h;rw[DIs];obtain⟨a,xs,e,q,r⟩:=h;exact⟨a,xs,e,SqT.of q,JV ds r⟩
 |.lst ds,v,h=>by
  rw[DAt]at h;rw[DIs];obtain⟨a,xs,e,q,r⟩:=h;exact⟨a,xs,e,SqL.of q,JV ds r⟩
theorem JV{K:Frag}{H:Hp}:∀(ds:Ds){xs:LUz},IA H ds xs->DIss K H ds xs
 |.nil,xs,h=>by rw[IA]at h;rw[DIss];exact h
 |.cons d r,xs,h=>by
  rw[IA]at h;rw[DIss];obtain⟨x,ys,e,p,q⟩:=h;exact⟨x,ys,e,SE d p,JV r q⟩
end
def CM(c:Addr)(q:Str):HO:=.ext λ h=>∃o vs t,h.get? c=some o/\o.data=.fields vs/\vs[1]?=some (.str q t)
def Bz(f:Addr)(o:Obj):HO:=.ext λ h=>h.get? f=some o
theorem Oj{P:Program}{w:World}{H:Hp}{h:Heap}{c:Addr}{q:Str}(x:ObjOk P w H h c (CM c q)):h.CodeRec (.ref c) q:=by
 obtain⟨⟨o,vs,t,e,d,v⟩,_⟩:=x;exact⟨c,o,vs,t,rfl,e,d,v⟩
theorem PU{P:Program}{w:World}{H:Hp}{h:Heap}{c:Addr}{q:Str}(x:h.CodeRec (.ref c) q):ObjOk P w H h c (CM c q):=by
 obtain⟨c',o,vs,t,e,g,d,v⟩:=x;cases e;exact⟨⟨o,vs,t,g,d,v⟩,⟨o,g⟩,λ h1 h2 ⟨o,vs,t,e,d,v⟩ k=>⟨o,vs,t,k o e,d,v⟩⟩
theorem JJ{P:Program}{w:World}{H:Hp}{h:Heap}{f:Addr}{o:Obj}(x:h.get? f=some o):ObjOk P w H h f (Bz f o):=⟨x,⟨o,x⟩,λ h1 h2 e k=>k o e⟩
section
variable{X:Cx}{pins:PNz}{σ:St}{H:Hp}{s:Shared}{h1:Heap}
theorem Inv.grow{T c':Addr}{ps more:Array Value}{o:HO}{t':Nat}(I:Inv X pins σ H s)(hT:H T=some (.tbl ps))(k:∀b u,b≠T->s.heap.get? b=some u->h1.get? b=some u)(eT:h1.get? T=some (tabObj (ps++more)))
  (hc:s.heap.objs.size<=c') (new:ObjOk X.prog X.w (upd (upd H T (.tbl (ps++more))) c' o) h1 c' o):Inv X pins σ (upd (upd H T (.tbl (ps++more))) c' o) { s with heap:=h1,toks:=t' }:=by
 have hn:H c'=none:=I.hok.fresh hc;have nT:T≠c':=Ag hT hn;have ne:∀{b:Addr}{u:HO},H b=some u->(∀ps,u≠.tbl ps)->b≠T:=λ{b u} e nu z=>by rw[z,hT]at e;cases e;exact nu _ rfl
 have to:∀{b:Addr}{u:HO},H b=some u->(∀ps,u≠.tbl ps)->(upd (upd H T (.tbl (ps++more))) c' o) b=some u:=λ{b u} e nu=>by rw[Af (Ag e hn),Af (ne e nu)];exact e
 refine I.un ⟨λ b u q n _ _=>k b u (λ z=>by rw[z,hT]at n;cases n) q,λ b u q n _ _=>⟨u.slots,k b u (λ z=>by rw[z,hT]at n;cases n) q⟩,λ b u q n _=>?_,λ b u q _=>?_,
  λ b xs q=>to q (λ_ z=>nomatch z),λ b u xs q=>to q (λ_ z=>nomatch z),λ b ps' q=>?_⟩ λ b u e=>?_
 .rw[Af (aB (aO (aq q) hc)),Af (λ z=>by rw[z,hT]at n;cases n)];exact n
 .by_cases z:b=T
  .exact⟨_,by rw[z];exact eT⟩
  .exact⟨u,k b u z q⟩
 .by_cases z:b=T
  .subst z;rw[hT]at q;cases q;exact⟨more,by rw[Af nT,Ad]⟩
  .exact⟨#[],by rw[Af (Ag q hn),Af z,q];simp⟩
 .by_cases z:b=c'
  .subst z;rw[Ad]at e;cases e;exact new
  .rw[Af z]at e;by_cases zT:b=T
   .subst zT;rw[Ad]at e;cases e;exact eT
   .rw[Af zT]at e;refine(I.hok b u e).stay (λ c v hcb r=>k c v ?_ r) (λ c r=>to r (λ_ z=>nomatch z)) λ c xs r=>to r (λ_ z=>nomatch z);rcases hcb with rfl|hcb
    .exact zT
    .exact ne hcb (λ_ z=>nomatch z)
end
structure SR(K:Frag)(mg:MGz):Prop where
 ex:∃bm sl,mg "__builtins__"=some (.ref bm)/\bm≠builtinsNs/\bm≠mainGlobals/\K.lookup bm=some ⟨.type "module",some builtinsNs,.plain,sl⟩
abbrev BM(mg:MGz)(qual:Str)(params:Arguments)(body:Expr)(scope:Scope)(clos:List (Str×Addr))(c':Addr)(ctv:Value):Obj:=kla_obj "<lambda>" qual params body scope clos ((mg "__name__").getD .none) c' ctv
def Ta(mg:MGz)(T:Addr)(pos:Pos)(params:Arguments)(body:Expr)(scope:Scope)(clos:List (Str×Addr))(qual:Str):TE:=λ σ H Q=>∃ps,H T=some (.tbl ps)/\TriplesOk ps.toList /\
 ((codeAmong pos ps.toList=none/\∀c' f ctv,H c'=none->H f=none->c'≠f->c'≠T->f≠T->Q (.ref f) (upd (upd (upd H T (.tbl (ps++#[rawInt pos.line,rawInt pos.col,.ref c']))) c' (CM c' qual)) f (Bz f (BM mg qual params body scope clos c' ctv)))) \/
  ∃c',codeAmong pos ps.toList=some (.ref c')/\H c'=some (CM c' qual)/\∀f ctv,H f=none->Q (.ref f) (upd H f (Bz f (BM mg qual params body scope clos c' ctv))))
section
variable{X:Cx}
theorem Sg{params:Arguments}{body:Expr}{scope:Scope}{pos:Pos}{c T:Addr}{clos:List (Str×Addr)}{qual:Str}(hcode:X.env.code=.ref c)(hC:∀h,X.K.In h->CodeHd h c T)(hB:SR X.K X.mg)(hdef:defaultsOf params X.env=([],[]))
  (hcl:closureFor scope X.env=pure clos) (hq:X.env.qual++"<lambda>"=qual):PE X (.Lambda params body scope pos) (Ta X.mg T pos params body scope clos qual):=by
 intro pins s σ H Q I h;obtain⟨ps,hT,ht,alt⟩:=h;have hP:s.heap.get? T=some (tabObj ps):=I.hok T _ hT;have hg:s.heap.Ns mainGlobals X.mg:=I.mod.glob.keeps I.bk;obtain⟨bm,sl,b1,b2,b3,b4⟩:=hB.ex;have hbm:X.base.get? bm=some ⟨.type "module",some builtinsNs,.plain,sl⟩:=I.mod.kin bm _ b4;have hbT:bm≠T:=λ z=>by
  have:=(I.bs bm _ hbm).2;rw[z,hT]at this;cases this
 have hgT:mainGlobals≠T:=λ z=>by
  obtain⟨o,es,ep,e,_⟩:=I.mod.glob;have:=(I.bs _ _ e).2;rw[z,hT]at this;cases this
 have hb:s.heap.BuiltinsAt X.mg T:=⟨bm,_,b1,b2,b3,hbT,I.bk bm _ hbm,rfl,rfl,rfl⟩;refine kla_eval hdef ?_;rw[hq];rcases alt with ⟨hnf,q⟩|⟨c',hf,hc',q⟩
 .refine kla_makeFunction hcl I.ok.glob hg hcode (hC _ I.kIn) hP ht hnf hgT hb λ c' ctv h' tk hx hge hlt hrec htb=>?_;have I1:=I.grow (t':=tk) (h1:=h') (c':=c') (o:=CM c' qual) (more:=#[rawInt pos.line,rawInt pos.col,.ref c']) hT (λ b u nb e=>hx b u nb e) htb hge (PU hrec);have hn:H c'=none:=I.hok.fresh hge;have hnf':H h'.objs.size=none:=I.hok.fresh (aR hge (aM hlt));have I2:=I1.laid (a:=h'.objs.size) (o:=Bz h'.objs.size (BM X.mg qual params body scope clos c' ctv)) (t':=tk) (h':=h'.push (BM X.mg qual params body scope clos c' ctv)) (λ b u e=>ae _ e) (ah _) (JJ (au _ rfl));exact⟨.ref h'.objs.size,_,I2,rfl,q c' h'.objs.size ctv hn hnf' (aB hlt) (Ne.symm (Ag hT hn)) (Ne.symm (Ag hT hnf'))⟩
 .refine kla_makeFunctionHit hcl I.ok.glob hg hcode (hC _ I.kIn) hP ht hf hb λ ctv h' tk hk hsz=>?_;have hnf':H h'.objs.size=none:=I.hok.fresh hsz;have I1:=I.kept (t':=tk) hk;have I2:=I1.laid (a:=h'.objs.size) (o:=Bz h'.objs.size (BM X.mg qual params body scope clos c' ctv)) (t':=tk) (h':=h'.push (BM X.mg qual params body scope clos c' ctv)) (λ b u e=>ae _ e) (ah _) (JJ (au _ rfl));exact⟨.ref h'.objs.size,_,I2,rfl,q h'.objs.size ctv hnf'⟩
end
section
variable{X:Cx}{pins:PNz}{σ:St}{H:Hp}{s:Shared}
theorem Inv.track{D:Addr}{o:HO}(I:Inv X pins σ H s)(hn:H D=none)(h1:X.s₀.heap.objs.size<=D)(hL:D≠X.env.locals)(h2:∀x c,X.env.cells.lookup x=some c->c≠D)(h3:∀p∈X.pn++pins,p.1≠D)
  (new:ObjOk X.prog X.w (upd H D o) s.heap D o):Inv X pins σ (upd H D o) s:=by
 have to:∀{b:Addr}{u:HO},H b=some u->(upd H D o) b=some u:=λ{b u} e=>by rw[Af (Ag e hn)];exact e
 have J:=I.step (h':=s.heap) (H':=upd H D o) (g':=s.gens) (d':=s.drawn) (t':=s.toks) (ch:=[D]) (λ b hb=>?_) (λ b u _ _ _ e _=>e) (λ b u _ _ _ e _=>⟨u.slots,e⟩) (λ b u hc e n=>?_) (λ b u _ e=>⟨u,e⟩)
  (λ b xs e=>to e) (λ b u xs e=>to e) (λ b ps e=>⟨#[],by rw[to e];simp⟩) (λ m hm=>hm) (λ b u e=>?_) I.bare
 .exact J
 .have e:b=D:=by simpa using hb
  subst e;exact⟨.inr h1,hL,h2,h3⟩
 .rw[Af (λ z=>hc (by simp[z]))];exact n
 .by_cases hb:b=D
  .subst hb;rw[Ad]at e;cases e;exact new
  .rw[Af hb]at e;exact(I.hok b u e).stay (λ c v _ r=>r) (λ c r=>to r) λ c xs r=>to r
theorem Inv.apart(I:Inv X pins σ H s){D:Addr}(h:s.heap.objs.size<=D):H D=none/\X.s₀.heap.objs.size<=D/\D≠X.env.locals/\D∉X.fs/\(∀x c,X.env.cells.lookup x=some c->c≠D)/\∀p∈X.pn++pins,p.1≠D:=by
 have no:¬D<s.heap.objs.size:=d8.mpr h;refine⟨I.hok.fresh h,aR I.sz h,λ z=>no (by rw[z];exact I.lt),λ hb=>?_,λ x c e z=>?_,λ p hp z=>?_⟩
 .obtain⟨_,o,ho,_⟩:=I.ok.funs.mem hb;exact no (aO (aq ho) I.sz)
 .obtain⟨v,o,ho,_⟩:=I.cell x c e;exact no (by rw[<-z];exact aq ho)
 .exact no (by rw[<-z];exact aq (I.pin p hp).1)
theorem Inv.unpin{p:Addr×Obj}(I:Inv X (p::pins) σ H s):Inv X pins σ H s:=I.pins_of λ q hq=>I.pin q (aw _ (aI _ hq))
end
section
variable{X:Cx}{pins:PNz}{σ:St}{H:Hp}{s:Shared}{A:Around}{D kS:Addr}{vs ks:LWz}{e e1:Nat}
theorem EI{p:Addr×Obj}(I:Inv X pins σ H s)(hp:p∈pins):s.heap.get? p.1=some p.2:=(I.pin p (aw _ hp)).1
theorem Inv.repin{D:Addr}{n:Nat}{items:Array Value}{g:Array Value->Array Value}{pins:PNz}(I:Inv X ((D,seqObj "list" items n)::pins) σ H s)(h1:X.s₀.heap.objs.size<=D)(h2:∀x c,X.env.cells.lookup x=some c->c≠D)(h3:∀p∈X.pn++pins,p.1≠D) :
  ∃c,Inv X ((D,seqObj "list" (g items) c)::pins) σ H { s with heap:=s.heap.update D (Obj.mapSeq g) }:=by
 obtain⟨e,hn,hL,hf,_⟩:=I.pin (D,seqObj "list" items n) (aw _ aD);obtain⟨c,hc⟩:∃c,(s.heap.update D (Obj.mapSeq g)).get? D=some (seqObj "list" (g items) c):=⟨_,get?_update_seq e g⟩;have J:Inv X pins σ H { s with heap:=s.heap.update D (Obj.mapSeq g),toks:=s.toks }:=I.unpin.turned (it:=D) (t':=s.toks) (λ b o nb q=>by rw[cu _ _ _ _ nb];exact q) hn hL (.inr h1) h2 h3;refine⟨c,J.pins_of λ p hp=>?_⟩;rcases aP.mp hp with rfl|hp
 .exact⟨hc,hn,hL,hf,λ v z=>nomatch z⟩
 .exact J.pin p (aw _ hp)
end
section
variable{X:Cx}{pins:PNz}{σ:St}{H:Hp}{s:Shared}{A:Around}{D kS f:Addr}{vs:LWz}{e1:Nat}{kts:List (Addr×List Int)}{m:Nat}{key:List Int->Int}{P:PySem.Fin->Shared->Prop}{E:VPz}
theorem NN{e:Nat}{st:SortSt}{ks out:LWz}(I:Inv X ((kS,seqObj "list" ks.toArray e)::(D,seqObj "list" #[] e1)::pins) σ H s)(hk1:X.s₀.heap.objs.size<=kS)(hkc:∀x c,X.env.cells.lookup x=some c->c≠kS)(hkp:∀p∈X.pn++((D,seqObj "list" #[] e1)::pins),p.1≠kS)
  (hD1:X.s₀.heap.objs.size<=D) (hDc:∀x c,X.env.cells.lookup x=some c->c≠D) (hDp:∀p∈X.pn++pins,p.1≠D) (hout:(arrOf st).map (·.2)=List.toArray out) (hz:out.length<64) (hkz:ks.length<64) (hf:failedOf st=none)
  (h:∀(c:Nat)(s':Shared),Inv X pins σ H s'->s'.heap.get? D=some (seqObj "list" (List.toArray out) c)->P (.done (.ret .none)) s'):wpAny (model X.prog X.w) A (ksk_tail D false e1 (.ref kS) st) P E s:=by
 have ek:=EI I aD;obtain⟨ck,I1⟩:=I.repin (g:=λ_=>(#[]:Array Value)) hk1 hkc hkp;have eD:=EI I1 (aI _ aD);obtain⟨cD,I2⟩:=(I1.unpin).repin (g:=λ_=>List.toArray out) hD1 hDc hDp;unfold ksk_tail
 try dsimp only
 rw[hout];refine wpAny_bind (listUpdate_at ek rfl ?_ (by rw[ak,sizeLine_eq];lia) (aQ _));refine wpAny_bind (wpAny_letGo ?_);refine wpAny_bind (seqEpoch_at eD rfl ?_);refine wpAny_bind (listUpdate_at eD rfl ?_ (aQ _) (by show out.toArray.size<=_;rw[ak,sizeLine_eq];lia));rw[hf];simp only[bne_self_eq_false,aL,if_false];exact wpAny_pure (h cD _ I2.unpin (EI I2 aD))
end
theorem OP{α β:Type}{f:α->β}{l m:List β}(h:l.Perm m):∀ts:List α,m=ts.map f->∃ts':List α,ts'.Perm ts/\l=ts'.map f:=by
 induction h with
 |nil =>
  intro ts e;rw[List.map_eq_nil_iff.mp e.symm];exact⟨[],.nil,rfl⟩
 |cons x p ih =>
  intro ts e;obtain⟨t,r,rfl,e1,e2⟩:=dj.mp e.symm;obtain⟨r',p',e'⟩:=ih r e2.symm;exact⟨t::r',p'.cons t,by rw[e',aA,e1]⟩
 |swap x y l =>
  intro ts e;obtain⟨t,r,rfl,e1,e2⟩:=dj.mp e.symm;obtain⟨u,q,rfl,e3,e4⟩:=dj.mp e2;exact⟨u::t::q,List.Perm.swap _ _ _,by rw[aA,aA,e1,e3,e4]⟩
 |trans p q ih1 ih2 =>
  intro ts e;obtain⟨t2,p2,e2⟩:=ih2 ts e;obtain⟨t1,p1,e1⟩:=ih1 t2 e2;exact⟨t1,p1.trans p2,e1⟩
def Qe(Ts:List Addr)(H:Hp):Prop:=(∀b,H b=none\/(∃o xs,H b=some (.frz o (.lst xs)))\/(b∈Ts/\H b=some (.tbl #[])))/\∀T∈Ts,H T=some (.tbl #[])
theorem JX{h:Heap}{c T:Addr}(x:CodeHd h c T):isCodeTable h T:=by
 obtain⟨o,vs,file,tf,flags,tg,inF,text,tt,e1,e2,e3,e4,_⟩:=x;exact⟨c,o,vs,e1,e2,e3,e4⟩
theorem law_callT{P:Program}{w:World}{K:Frag}{mg mb:MGz}{CX:CXT}{k:Nat}{fa a:Addr}{fd:FuncData}{x:Str}{sp:Sp}{s₁:Shared}{vs:LWz}{ns:List Int}{Ts:List Addr}
  (KX:K.In s₁.heap) (hns:s₁.heap.Ns mainGlobals mg) (hb:s₁.heap.Ns builtinsNs mb) (hbb:∀x:Str,x≠"__name__"->mb x=bootBuiltins x) (hlim:s₁.heap.NoLimit) (hg:s₁.gens=#[])
  (ha:s₁.heap.get? a=some { cls:=.type "list",data:=.seq vs.toArray }) (hi:IntsAre vs ns) (hl:ns.length<=sizeLine) (hr:Room k callerA)
  (hT:∀T∈Ts,s₁.heap.get? T=some (tabObj #[])/\K.lookup T=none/\∃c,CodeHd s₁.heap c T)
  (F:∀base:Heap,K.In base->base.Ns mainGlobals mg->A2 P w K mg base CX k fa fd [x] sp) (hbind:∀(s:Shared)(u:Value),BindsTo s fd ⟨[u],[]⟩ [(x,u)])
  (hsp:∀H:Hp,Qe Ts H->SqL K H a (ns.map V.int)->sp [.ref a] H (λ v _=>v=.bl true) λ_ _ _=>False)
  (hCX:∀H e s',CX [] H s₁ (λ_ _ _=>False) e s'->False) :
  codeAny (model P w) callerA (.call (.ref fa) ⟨[.ref a],[]⟩) (λ r s'=>r=.ok (.ret (.bool true))/\OldK s₁.heap s'.heap/\s'.os=s₁.os/\AllBare s'.gens) s₁:=by
 have rv:=Fc hi;have lenV:=hi.length;have core:∀H:Hp,Qe Ts H->SqL K H a (ns.map V.int)->HOk P w H s₁.heap->(∀b,H b≠none->b=a\/b∈Ts)->(H a≠none->K.lookup a=none) ->
   codeAny (model P w) callerA (.call (.ref fa) ⟨[.ref a],[]⟩) (λ r s'=>r=.ok (.ret (.bool true))/\OldK s₁.heap s'.heap/\s'.os=s₁.os/\AllBare s'.gens) s₁:=by
  intro H hO hS hok hA hK;have base_of:∀{b:Addr}{o:Obj},s₁.heap.get? b=some o->H b=none->(JS s₁.heap H).get? b=some o:=λ e n=>P3 e n;have noA:∀{b:Addr}{o:Obj}{es:Array DictEntry}{ep:Nat},s₁.heap.get? b=some o->o.data=.dict es ep->H b=none:=λ{b o es ep} e d=>by
   cases q:H b with
   |none=>rfl
   |some u =>
    rcases hA b (by rw[q];simp) with e'|e'
    .subst e';rw[ha]at e;cases e;have d':Data.seq vs.toArray _=Data.dict es ep:=d;cases d'
    .rw[(hT b e').1]at e;cases e;cases d
  have nsK:∀{b:Addr}{m:MGz},s₁.heap.Ns b m->(JS s₁.heap H).Ns b m:=λ{b m} ⟨o,es,ep,e,d,r⟩=>⟨o,es,ep,base_of e (noA e d),d,r⟩;have hKb:K.In (JS s₁.heap H):=λ b o e=>base_of (KX b o e) (by
   cases q:H b with
   |none=>rfl
   |some u =>
    rcases hA b (by rw[q];simp) with e'|e'
    .subst e';rw[hK (by rw[q];simp)]at e;cases e
    .rw[(hT b e').2.1]at e;cases e)
  have hM:Mod K mg (JS s₁.heap H):=⟨hKb,nsK hns,⟨mb,nsK hb,hbb⟩,let ⟨mc,h1,h2⟩:=hlim;⟨mc,nsK h1,h2⟩⟩;have e0:Env0 P w K mg (JS s₁.heap H) callerA [] s₁ H:=⟨rfl,hM,λ b o e=>QG e,dI (NX _ _),trivial,λ b hb=>absurd (show b∈([]:List Addr) from hb) (by simp),hok,.of_eq hg⟩;refine codeAny_mono ((F _ hKb (nsK hns)).run callerA [] s₁ H ⟨[.ref a],[]⟩ [.ref a] [.ref a] _ _ hr e0 (hbind s₁ (.ref a)) (.cons rfl .nil) (hsp H hO hS)) λ r s' h=>?_;cases r with
  |error e=>exact(hCX H e s' h).elim
  |ok fl =>
   cases fl with
   |next=>exact False.elim h
   |brk=>exact False.elim h
   |cont=>exact False.elim h
   |ret u =>
    obtain⟨v,H',os,bare,un,hok',r',q⟩:=h;have q':v=.bl true:=q;subst q';obtain rfl:u=Value.bool true:=r';have old:∀b o,s₁.heap.get? b=some o->asItWas s₁.heap s'.heap b o/\∃o',s'.heap.get? b=some o':=λ b o e=>by
     cases q:H b with
     |none =>
      have:=un.keep b o e q (by intro z;exact absurd (show b∈([]:List Addr) from z) (by simp)) (by simp);exact⟨.inl this,_,this⟩
     |some u =>
      rcases hO.1 b with z|⟨ob,xs,z⟩|⟨hb',z⟩
      .rw[q]at z;cases z
      .have z2:=un.frzs b ob _ z;obtain⟨e1,_⟩:=hok b _ z;obtain⟨e2,_⟩:=hok' b _ z2;rw[e]at e1;cases e1;exact⟨.inl e2,_,e2⟩
      .obtain⟨more,z2⟩:=un.tbls b #[] z;have e2:s'.heap.get? b=some (tabObj (#[]++more)):=hok' b _ z2;obtain⟨e1,_,c,hc⟩:=hT b hb';rw[e]at e1;cases e1;exact⟨.inr (.inl ⟨JX hc,rfl,#[],more,rfl,e2⟩),_,e2⟩
    exact⟨rfl,⟨λ b o e=>(old b o e).1,λ b o e=>(old b o e).2⟩,os,bare⟩
 have aT:a∉Ts:=λ z=>by
  have e:=(hT a z).1;rw[ha]at e;cases e
 have tblT:∀T∈Ts,∀H:Hp,ObjOk P w H s₁.heap T (.tbl #[]):=λ T z H=>(hT T z).1;cases hk:K.lookup a with
 |some o =>
  have e:=KX a o hk;rw[ha]at e;cases e;refine core (λ b=>if b∈Ts then some (.tbl #[]) else none) ⟨λ b=>?_,λ T z=>if_pos z⟩ (.inr ⟨_,vs.toArray,_,hk,rfl,rfl,rfl,by rw[ak,lenV];exact hl,by simpa using rv⟩) (λ b u z=>?_) (λ b z=>?_) λ z=>absurd (if_neg aT) z
  .by_cases hb:b∈Ts
   .exact .inr (.inr ⟨hb,if_pos hb⟩)
   .exact .inl (if_neg hb)
  .by_cases hb:b∈Ts
   .have z':=(if_pos hb).symm.trans z;cases z';exact tblT b hb _
   .have z':=(if_neg hb).symm.trans z;cases z'
  .by_cases hb:b∈Ts
   .exact .inr hb
   .exact absurd (if_neg hb) z
 |none =>
  refine core (λ b=>if b=a then some (.frz { cls:=.type "list",data:=.seq vs.toArray } (.lst (ns.map V.int))) else if b∈Ts then some (.tbl #[]) else none) ⟨λ b=>?_,λ T z=>?_⟩ (.inl (.inr ⟨{ cls:=.type "list",data:=.seq vs.toArray },if_pos rfl⟩)) (λ b u z=>?_) (λ b z=>?_) λ_=>hk
  .by_cases hb:b=a
   .exact .inr (.inl ⟨_,_,if_pos hb⟩)
   .by_cases hb2:b∈Ts
    .exact .inr (.inr ⟨hb2,(if_neg hb).trans (if_pos hb2)⟩)
    .exact .inl ((if_neg hb).trans (if_neg hb2))
  .have ne:¬T=a:=λ e=>aT (by rw[<-e];exact z);exact(if_neg ne).trans (if_pos z)
  .by_cases hb:b=a
   .have z':=(if_pos hb).symm.trans z;cases z';subst hb;exact⟨ha,by rw[aa];exact hl,vs,_,rv,ha⟩
   .by_cases hb2:b∈Ts
    .have z':=((if_neg hb).trans (if_pos hb2)).symm.trans z;cases z';exact tblT b hb2 _
    .have z':=((if_neg hb).trans (if_neg hb2)).symm.trans z;cases z'
  .by_cases hb:b=a
   .exact .inl hb
   .by_cases hb2:b∈Ts
    .exact .inr hb2
    .exact absurd ((if_neg hb).trans (if_neg hb2)) z
theorem walk_ofT{l:OpenLaw}{n k:Nat}{q:Program}{loose:LSz}{XP:(MGz)->Heap->Prop}{YP:World->Heap->Prop}{d:DefRec}{K:Params->Frag}{CX:World->CXT}{sp:World->Sp}{x:Str}{Ts:List Addr}
  (hn:l.most=some n) (hn2:n<=sizeLine) (hdf:d.params.defaults=[]) (hr:Room k callerA)
  (hY:∀(w:World)(h:Heap),YP w h->(K w.params).In h) (hT:∀(w:World)(h:Heap),YP w h->∀T∈Ts,h.get? T=some (tabObj #[])/\(K w.params).lookup T=none/\∃c,CodeHd h c T)
  (F:∀(w:World)(mg:MGz)(fa:Addr)(h:Heap),(K w.params).In h->h.Ns mainGlobals mg->mg d.name=some (.ref fa) ->
   ∃fd:FuncData,(∀(s:Shared)(u:Value),BindsTo s fd ⟨[u],[]⟩ [(x,u)]) /\
    ∀base:Heap,(K w.params).In base->base.Ns mainGlobals mg->A2 l.prog w (K w.params) mg base (CX w) k fa fd [x] (sp w))
  (hsp:∀(w:World)(H:Hp)(a:Addr)(ns:List Int),ns.length<=n->Qe Ts H->SqL (K w.params) H a (ns.map V.int)->sp w [.ref a] H (λ v _=>v=.bl true) λ_ _ _=>False)
  (hCX:∀(w:World)(H:Hp)(s:Shared)(e:Value)(s':Shared),CX w [] H s (λ_ _ _=>False) e s'->False) :
  WalkO q loose XP YP l.row.toRowW d [] (λ f vs=>PySem.call f vs):=by
 refine Att.attach_call hn hdf λ w s₀ s₁ mg mb fa o pm cd doc a vs ns G Y ho hd hcd hmg hobj hints hlen hg=>?_;have KX:=hY w _ Y;obtain⟨fd,hb,hF⟩:=F w mg fa _ KX G.T.g hmg;exact law_callT KX G.T.g G.T.b G.T.builtins G.T.nolimit hg hobj hints (aR hlen hn2) hr (hT w _ Y) hF hb (λ H hO hS=>hsp w H a ns hlen hO hS) λ H e s'=>hCX w H s₁ e s'
structure FunC(K:Frag)(x qual:Str)(st:Stmt)(f:Addr)(fd:FuncData)(c:Addr):Prop where
 ex:∃(oc:Value)(od:Option Addr)(kV doc pm:Value)(an:Option Addr)(ct:Value)(osl:AOz),
  fd=fnOf x qual (Bl st) (A5 st) (Ai st) .none kV doc pm an (.ref c) ct/\K.lookup f=some ⟨oc,od,.func fd,osl⟩/\codeIn K (.ref c) qual=true
 kp:keepIn K (.ref f)=true
section
variable{P:Program}{w:World}{K:Frag}{mg:MGz}{base:Heap}{x qual:Str}{st:Stmt}{f c:Addr}{fd:FuncData}{N ps:LSz}{k:Nat}{sp:Sp}
theorem FunC.fn(F:FunC K x qual st f fd c):Fun K x qual st f fd:=by
 obtain⟨oc,od,kV,doc,pm,an,ct,osl,e,lk,hcd⟩:=F.ex;exact⟨⟨oc,od,kV,doc,pm,an,.ref c,ct,osl,e,lk,hcd⟩,F.kp⟩
theorem QY{oc:Value}{od an:Option Addr}{osl:AOz}{kV doc pm cdv ct:Value}(l:K.lookup f=some ⟨oc,od,.func (fnOf x qual (Bl st) (A5 st) (Ai st) .none kV doc pm an cdv ct),osl⟩)
  (cc:codeIn K cdv qual=true) (kp:keepIn K (.ref f)=true) (e:cdv=.ref c):FunC K x qual st f (fnOf x qual (Bl st) (A5 st) (Ai st) .none kV doc pm an cdv ct) c:=by
 subst e;exact⟨⟨oc,od,kV,doc,pm,an,ct,osl,rfl,l,cc⟩,kp⟩
end
def JY(K:Frag)(c T:Addr):Bool:=match K.lookup c with
 |some o=>match o.data with
  |.fields vs=>(o.cls==.type "code")&&(vs[11]?==some (.ref T))&&(match vs.getD 18 .none with|.str _ _=>true|_=>false)&&(match vs.getD 7 .none with|.int _ _=>true|_=>false)&&(match vs.getD 9 .none with|.bool _=>true|_=>false)&&(match vs.getD 10 .none with|.int _ _=>true|_=>false)&&(c != T)
  |_=>false
 |none=>false
theorem codeTB_of{K:Frag}{c T:Addr}(h:JY K c T=true):∀hp:Heap,K.In hp->CodeHd hp c T:=λ hp KX=>by
 unfold JY at h;cases e:K.lookup c with
 |none=>rw[e]at h;cases h
 |some o =>
  rw[e]at h;cases d:o.data with
  |fields vs =>
   simp only[d,aE]at h;obtain⟨⟨⟨⟨⟨⟨h1,h2⟩,h3⟩,h4⟩,h5⟩,h6⟩,h7⟩:=h;have h2:vs[11]?=some (.ref T):=eq_of_beq h2;have e18:∃a b,vs.getD 18 .none=.str a b:=by
    generalize vs.getD 18 .none=v at h3;cases v with
    |str a b=>exact⟨a,b,rfl⟩
    |_=>cases h3
   have e7:∃a b,vs.getD 7 .none=.int a b:=by
    generalize vs.getD 7 .none=v at h4;cases v with
    |int a b=>exact⟨a,b,rfl⟩
    |_=>cases h4
   have e9:∃a,vs.getD 9 .none=.bool a:=by
    generalize vs.getD 9 .none=v at h5;cases v with
    |bool a=>exact⟨a,rfl⟩
    |_=>cases h5
   have e10:∃a b,vs.getD 10 .none=.int a b:=by
    generalize vs.getD 10 .none=v at h6;cases v with
    |int a b=>exact⟨a,b,rfl⟩
    |_=>cases h6
   obtain⟨f1,f2,e18⟩:=e18;obtain⟨g1,g2,e7⟩:=e7;obtain⟨i1,e9⟩:=e9;obtain⟨t1,t2,e10⟩:=e10;refine⟨o,vs,f1,f2,g1,g2,i1,t1,t2,KX c o e,eq_of_beq h1,d,h2,?_,e18,e7,e9,e10,?_⟩
   .rw[cM,h2];rfl
   .intro z;rw[z]at h7;simp at h7
  |_=>simp only[d]at h;cases h
def Uc(H H':Hp):Prop:=∀a o,H a=some o->(∀ps,o≠.tbl ps)->H' a=some o
def TabOk(pos:Pos)(qual:Str)(T:Addr)(H:Hp):Prop:=∃ps,H T=some (.tbl ps)/\TriplesOk ps.toList/\(codeAmong pos ps.toList=none\/∃c',codeAmong pos ps.toList=some (.ref c')/\H c'=some (CM c' qual))
theorem TabOk.same{pos:Pos}{qual:Str}{T:Addr}{H H':Hp}(h:TabOk pos qual T H)(s:Same H H'):TabOk pos qual T H':=by
 obtain⟨ps,e,t,c⟩:=h;refine⟨ps,s _ _ e,t,?_⟩;rcases c with c|⟨c',c1,c2⟩
 .exact .inl c
 .exact .inr ⟨c',c1,s _ _ c2⟩
theorem TabOk.new{pos:Pos}{qual:Str}{T:Addr}{H:Hp}(h:H T=some (.tbl #[])):TabOk pos qual T H:=⟨#[],h,trivial,.inl rfl⟩
theorem E6{a b c:Int}{t u:Tok}{v:Value}:∀(l:LWz),TriplesOk l->TriplesOk (l++[.int a t,.int b u,v])
 |[],_=>trivial
 |.int _ _::.int _ _::_::rest,h=>E6 (c:=c) rest h
section
variable{X:Cx}
theorem HV:BP X (.builtin "sum") (λ xs H Q=>∃(p:Addr)(ns:List Int),xs=[.ref p]/\SqL X.K H p (ns.map V.int)/\X.calm=true/\Q (.int ns.sum) H):=by
 intro pins s σ H xs us Q I r h;obtain⟨p,ns,rfl,hp,hc,q⟩:=h;obtain⟨u,rfl,ru⟩:=Dl r;cases ru;obtain⟨its,rv,pl,hz⟩:=I.list hp;have hi:=Eu rv;obtain⟨xs,hx⟩:=hi.allInts.items;have hl':s.heap.IsList p (intItems xs):=hx ▸ pl.isList;refine sum_intListG (I.ok.hd hc) hl' λ h' tk t' hk=>?_;have e1:ns=xs.toList.map (·.1):=by
  rw[<-nums_intItems,<-hx];exact(show numsOf its.toArray.toList=ns from hi.numsOf).symm
 have e2:preSum (numAt xs) xs.size=ns.sum:=by
  rw[preSum_eq,eI (by simp),e1]
 rw[e2];exact⟨.int ns.sum,H,I.kept (t':=tk) hk,⟨t',rfl⟩,q⟩
end
end L2
namespace HT
open PySem.W
open PySem PySem.Spec PyProof.Rows
end HT
namespace L2
open PySem.W
open PySem PySem.Spec PyProof.Rows
section
variable{P:Program}{w:World}{K:Frag}{mg:MGz}{base:Heap}{x qual:Str}{st:Stmt}{f c:Addr}{fd:FuncData}{N ps:LSz}{k:Nat}{sp:Sp}
theorem FunC.ok(F:FunC K x qual st f fd c)(S:Ak N ps (Ai st))(len:∀vs H Q E,sp vs H Q E->vs.length=ps.length)
  (hbody:∀(A:Around)(outer:List Env)(s:Shared)(H:Hp)(vs:LUz)(Q:VK)(E:XK),Room k (A.deeper (envOfC qual (Ai st) s.heap.objs.size f (.ref c)))->sp vs H Q E ->
   ∃t,PSs (Cs CX0 P w K mg base N qual (Ai st) f (.ref c) A outer s H E).nox (A5 st) t/\t { nx:=λ_ H'=>Q .non H',rt:=Q } (start N vs) H):A2 P w K mg base CX0 (k+1) f fd ps sp:=by
 obtain⟨oc,od,kV,doc,pm,an,ct,osl,rfl,lk,hcd⟩:=F.ex;refine PB lk hcd S len λ A outer s H vs Q E hr hsp=>?_;obtain⟨t,h,q⟩:=hbody A outer s H vs Q E hr hsp;exact⟨t,h.nox,q⟩
end
def tkd(H:Hp)(L:PNz):Hp:=λ a=>match L.lookup a with|some o=>some (Bz a o)|none=>H a
def utk(H:Hp)(L:PNz):Hp:=λ a=>match L.lookup a with|some _=>none|none=>H a
section
variable{P:Program}{w:World}{H H':Hp}{h h':Heap}{a:Addr}{o:Obj}{L:PNz}{fs:List Addr}
theorem G5(e:L.lookup a=some o):tkd H L a=some (Bz a o):=by unfold tkd;rw[e]
theorem AL(e:L.lookup a=none):tkd H L a=H a:=by unfold tkd;rw[e]
theorem Fd(e:L.lookup a=some o):utk H L a=none:=by unfold utk;rw[e]
theorem Bf(e:L.lookup a=none):utk H L a=H a:=by unfold utk;rw[e]
theorem BV(e:H a=none):utk H L a=none:=by
 cases q:L.lookup a with
 |none=>rw[Bf q];exact e
 |some o=>exact Fd q
theorem Em{u:HO}(hL:∀a o,L.lookup a=some o->H a=none)(e:H a=some u):L.lookup a=none:=by
 cases q:L.lookup a with
 |none=>rfl
 |some o=>rw[hL a o q]at e;cases e
theorem DK{u:HO}(hL:∀a o,L.lookup a=some o->H a=some (Bz a o))(e:H a=some u)(n:∀o,u≠Bz a o):L.lookup a=none:=by
 cases q:L.lookup a with
 |none=>rfl
 |some o=>rw[hL a o q]at e;cases e;exact absurd rfl (n o)
theorem HOk.tkd(hok:HOk P w H h)(hL:∀a o,L.lookup a=some o->H a=none)(hc:∀a o,L.lookup a=some o->h.get? a=some o):HOk P w (tkd H L) h:=λ a u e=>by
 cases q:L.lookup a with
 |some o =>
  rw[G5 q]at e;cases e;exact JJ (hc a o q)
 |none =>
  rw[AL q]at e;exact(hok a u e).stay (λ_ _ _ z=>z) (λ b z=>by rw[AL (Em hL z)];exact z) (λ b xs z=>by rw[AL (Em hL z)];exact z)
theorem HOk.utk(hok:HOk P w H h)(hL:∀a o,L.lookup a=some o->H a=some (Bz a o)):HOk P w (utk H L) h:=λ a u e=>by
 cases q:L.lookup a with
 |some o=>rw[Fd q]at e;cases e
 |none =>
  rw[Bf q]at e;exact(hok a u e).stay (λ_ _ _ z=>z) (λ b z=>by rw[Bf (DK hL z (λ_ z=>nomatch z))];exact z) (λ b xs z=>by rw[Bf (DK hL z (λ_ z=>nomatch z))];exact z)
theorem Un.utk(u:Un fs [] (L2.tkd H L) H' h h')(hok:HOk P w H' h')(hL:∀a o,L.lookup a=some o->H a=none)(hc:∀a o,L.lookup a=some o->h.get? a=some o)(hf:∀a o,L.lookup a=some o->a∉fs)(hk:∀a o,L.lookup a=some o->H' a=some (Bz a o)):Un fs [] H (L2.utk H' L) h h' where
 keep b o q n nf nx:=by
  cases e:L.lookup b with
  |some o' =>
   rw[hc b o' e]at q;cases q;exact(hok b _ (hk b o e)).1
  |none=>exact u.keep b o q (by rw[AL e];exact n) nf nx
 slot b o q n hb nx:=by
  cases e:L.lookup b with
  |some o'=>exact absurd hb (hf b o' e)
  |none=>exact u.slot b o q (by rw[AL e];exact n) hb nx
 free b o q n nx:=by
  cases e:L.lookup b with
  |some o'=>exact Fd e
  |none=>rw[Bf e];exact u.free b o q (by rw[AL e];exact n) nx
 there b o q nx:=u.there b o q nx
 tups b xs e:=by
  have n:=Em hL e;rw[Bf n];exact u.tups b xs (by rw[AL n];exact e)
 frzs b o v e:=by
  have n:=Em hL e;rw[Bf n];exact u.frzs b o v (by rw[AL n];exact e)
 tbls b ps e:=by
  have n:=Em hL e;rw[Bf n];exact u.tbls b ps (by rw[AL n];exact e)
theorem Un.tkd(u:Un fs [] (L2.utk H L) H' h h')(hL:∀a o,L.lookup a=some o->H a=some (Bz a o)):Un fs [] H (L2.tkd H' L) h h':=by
 have out:∀{b},H b=none->L.lookup b=none:=λ{b} n=>by
  cases e:L.lookup b with
  |none=>rfl
  |some o=>rw[hL b o e]at n;cases n
 exact {
  keep:=λ b o q n nf nx=>u.keep b o q (BV n) nf nx
  slot:=λ b o q n hb nx=>u.slot b o q (BV n) hb nx
  free:=λ b o q n nx=>by rw[AL (out n)];exact u.free b o q (BV n) nx
  there:=λ b o q nx=>u.there b o q nx
  tups:=λ b xs e=>by
   have n:=DK hL e (λ_ z=>nomatch z);rw[AL n];exact u.tups b xs (by rw[Bf n];exact e)
  frzs:=λ b o v e=>by
   have n:=DK hL e (λ_ z=>nomatch z);rw[AL n];exact u.frzs b o v (by rw[Bf n];exact e)
  tbls:=λ b ps e=>by
   have n:=DK hL e (λ_ z=>nomatch z);rw[AL n];exact u.tbls b ps (by rw[Bf n];exact e) }
end
def FvOk(P:Program)(w:World)(K:Frag)(mg:MGz)(base:Heap)(k:Nat)(H:Hp)(f:Addr)(sp:Sp):Prop :=
 (∃o fd,H f=some (Bz f o)/\o.data=.func fd)/\∀(A:Around)(outer:List Env)(s:Shared)(H':Hp)(us:LWz)(vs:LUz)(Q:VK)(E:XK),Same H H'->Room k A->Env0 P w K mg base A outer s H'->Vals vs us->sp vs H' Q E ->
  codeAny (model P w) A (.call (.ref f) ⟨us,[]⟩) (CR CX0 outer P w H' s Q E) s
theorem FvOk.same{P:Program}{w:World}{K:Frag}{mg:MGz}{base:Heap}{k:Nat}{H H':Hp}{f:Addr}{sp:Sp}(h:FvOk P w K mg base k H f sp)(s:Same H H'):FvOk P w K mg base k H' f sp :=
 ⟨let ⟨o,fd,e,d⟩:=h.1;⟨o,fd,s _ _ e,d⟩,λ A outer sh H2 us vs Q E s2=>h.2 A outer sh H2 us vs Q E (s.trans s2)⟩
def tFv(P:Program)(w:World)(K:Frag)(mg:MGz)(base:Heap)(k:Nat)(tv:TE)(t:TA):TE:=λ σ H Q=>tv σ H λ v H1=>∃f sp,v=.ref f/\FvOk P w K mg base k H1 f sp/\t σ H1 λ vs H2=>Same H1 H2/\sp vs H2 Q E0
section
variable{X:Cx}{k j:Nat}{y:Str}{p pos:Pos}{e:Expr}{es:List Expr}{tv:TE}{t:TA}
theorem T3(hr:Room j X.A)(hv:PE X (.Name y p) tv)(ha:PA X (e::es) t)(hj:k<=j:=by decide)
  (he:starEach (e::es) X.env=(false,eval e X.env)::starEach es X.env:=by rfl) (hpl:(backTo pos (starEach es X.env)).any (·.1)=false:=by rfl):PE X (.Call (.Name y p) (e::es) [] pos) (tFv X.prog X.w X.K X.mg X.base k tv t):=by
 intro pins s σ H Q I h;refine wpAny_Call_Name_kw (thn (hv pins s σ H _ I h) λ u s1 hz_=>?_);obtain⟨v,H1,I1,r1,f,sp,e1,F,q1⟩:=hz_;subst e1;cases r1;have fnat:∀{H2:Hp}{s2:Shared},Same H1 H2->Inv X pins σ H2 s2->FnAt f s2.heap:=λ{H2 s2} sm I2=>by
  obtain⟨o,fd,e,d⟩:=F.1;have:=(show ObjOk X.prog X.w H2 s2.heap f (Bz f o) from I2.hok f _ (sm _ _ e)).1;obtain⟨oc,od,dt,sl⟩:=o;cases d;exact⟨_,_,_,_,this⟩
 refine callWith_F (fnat (Same.refl _) I1) (thn (ha pos pins s1 σ H1 _ I1 q1) λ us s2 ⟨vs,H2,I2,r,sm,q⟩=>⟨fnat sm I2,?_⟩) he hpl;refine wpAny_call (codeAny_mono (F.2 X.A X.stack s2 H2 us vs Q E0 sm (hr.mono hj) I2.env0 r q) λ r s' hq=>?_);cases r with
 |error e=>exact K3 pins σ H2 s2 e s' I2 hq
 |ok fl =>
  cases fl with
  |ret u=>exact I2.after hq
  |next=>exact False.elim hq
  |brk=>exact False.elim hq
  |cont=>exact False.elim hq
end
theorem IS{g:Addr->Obj}:∀{l:List Addr}{a:Addr},(l.map λ c=>(c,g c)).lookup a=if a∈l then some (g a) else none
 |[],a=>by simp
 |c::r,a=>by
  rw[aA,a9];by_cases e:a=c
  .subst e;simp
  .have:(a==c)=false:=by simpa using e
   rw[this];show List.lookup a (r.map λ c=>(c,g c))=_;rw[IS];simp[e]
structure Nm(N:LSz)(clos:List (Str×Addr))(σ:St)(H:Hp)(L:PNz):Prop where
 new:∀a o,L.lookup a=some o->H a=none
 has:∀p∈clos,∃o v,L.lookup p.2=some o/\o.data=.cell v
 val:∀p∈clos,∀(i:Nat)(v:V),N[i]?=some p.1->σ[i]?=some (some v)->∃o u,L.lookup p.2=some o/\o.data=.cell (some u)/\RelV v u
def RX(N:LSz)(clos:List (Str×Addr))(sp:Sp)(t:TA):TE:=λ σ H Q=>t σ H λ vs H1=>∀L,Nm N clos σ H1 L->sp vs (tkd H1 L) (λ v H2=>(∀a o,L.lookup a=some o->H2 a=some (Bz a o))/\Q v (utk H2 L)) E0
section
variable{X:Cx}{k j:Nat}{x:Str}{ps:LSz}{sp:Sp}{p pos:Pos}{e:Expr}{es:List Expr}{t:TA}{clos:List (Str×Addr)}
theorem Sh(D:Ao X.prog X.w X.K X.mg X.base k x ps sp)(hr:Room j X.A)(ha:PA X (e::es) t)(hcl:∀p∈clos,X.env.cells.lookup p.1=some p.2/\X.env.kindOf p.1=some .cell)(hfn:∀y,X.fn y=true)(hex:X.ex=[])(hj:k<=j:=by decide)(hg:Gl X x:=by rfl)(hdb:(x==("__debug__":Str))=false:=by decide)
  (he:starEach (e::es) X.env=(false,eval e X.env)::starEach es X.env:=by rfl) (hpl:(backTo pos (starEach es X.env)).any (·.1)=false:=by rfl):PE X (.Call (.Name x p) (e::es) [] pos) (RX X.N clos sp t):=by
 obtain⟨f,fd,F,hm,hk,hb⟩:=D.ex;intro pins s σ H Q I h;refine wpAny_Call_Name_kw (Gu I hg hm ?_ hdb);refine callWith_K (h₀:=X.base) I.ok.mod.kin hk (thn (ha pos pins s σ H _ I h) λ us s1 ⟨vs,H1,I1,r,q⟩=>⟨I1.kIn,?_⟩) he hpl
 let g:Addr->Obj:=λ c=>(s1.heap.get? c).getD ⟨.none,none,.plain,#[]⟩
 let L:PNz:=(clos.map (·.2)).map λ c=>(c,g c)
 have hLk:∀a,L.lookup a=if a∈clos.map (·.2) then some (g a) else none:=λ a=>IS;have hcell:∀p∈clos,∃v,s1.heap.IsCell p.2 v:=λ p hp=>I1.cell p.1 p.2 (hcl p hp).1;have hin:∀a o,L.lookup a=some o->∃p∈clos,p.2=a/\s1.heap.get? a=some o:=λ a o e=>by
  rw[hLk]at e;split at e
  .rename_i hm;obtain⟨p,hp,rfl⟩:=az.mp hm;refine⟨p,hp,rfl,?_⟩;obtain⟨v,o',ho',_⟩:=hcell p hp;cases e;show _=some ((s1.heap.get? p.2).getD _);rw[ho'];rfl
  .cases e
 have hof:∀p∈clos,∀o,s1.heap.get? p.2=some o->L.lookup p.2=some o:=λ p hp o e=>by
  rw[hLk,if_pos (az.mpr ⟨p,hp,rfl⟩)];show some ((s1.heap.get? p.2).getD _)=_;rw[e];rfl
 have hnew:∀a o,L.lookup a=some o->H1 a=none:=λ a o e=>by
  obtain⟨p,hp,rfl,_⟩:=hin a o e;exact I1.freeC p.1 p.2 (hcl p hp).1
 have hget:∀a o,L.lookup a=some o->s1.heap.get? a=some o:=λ a o e=>let ⟨_,_,_,z⟩:=hin a o e;z;have habove:∀a o,L.lookup a=some o->X.s₀.heap.objs.size<=a:=λ a o e=>by
  obtain⟨p,hp,rfl,_⟩:=hin a o e;exact I1.ok.cab p.1 p.2 (hfn _) (hcl p hp).1
 have hnf:∀a o,L.lookup a=some o->a∉frs X.stack:=λ a o e hb=>by
  have ab:=habove a o e;obtain⟨p,hp,rfl,_⟩:=hin a o e;rcases aP.mp (I1.stkSub _ hb) with z|z
  .exact I1.cne p.1 p.2 (hcl p hp).1 z
  .obtain⟨_,o',ho',_⟩:=I1.ok.funs.mem z;exact absurd (aO (aq ho') ab) (bE _)
 have CA:Nm X.N clos σ H1 L:=by
  refine⟨hnew,λ p hp=>?_,λ p hp i v hi hv=>?_⟩
  .obtain⟨v,o,ho,hd⟩:=hcell p hp;exact⟨o,v,hof p hp o ho,hd⟩
  .obtain⟨m,hns,hloc⟩:=I1.loc;obtain⟨u,ru,hlook⟩:=hloc i p.1 v hi hv (.inr (.inl (hcl p hp).2));rcases hlook with ⟨k1,_⟩|⟨_,c,hc,o,ho,hd⟩
   .rw[(hcl p hp).2]at k1;cases k1
   .rw[(hcl p hp).1]at hc;cases hc;exact⟨o,u,hof p hp o ho,hd,ru⟩
 have hsp:=q L CA;have e0:Env0 X.prog X.w X.K X.mg X.base X.A X.stack s1 (tkd H1 L):=by
  have z:=I1.env0;refine⟨z.frames,z.mod,λ b o e=>?_,z.bsz,z.funs,λ b hb=>?_,z.hok.tkd hnew hget,z.bare⟩
  .refine⟨(z.bs b o e).1,?_⟩;cases q:L.lookup b with
   |none=>rw[AL q];exact(z.bs b o e).2
   |some o'=>exact absurd (aO (aq e) (aR I1.ok.bsz (habove b o' q))) (bE _)
  .cases q:L.lookup b with
   |none=>rw[AL q];exact z.frf b hb
   |some o'=>exact absurd hb (hnf b o' q)
 have hl:us.length=ps.length:=by rw[<-r.length];exact F.len _ _ _ _ hsp
 have hbd:=hb s1 us I1.kIn (by rw[aY];exact hl);rw[aY]at hbd;refine wpAny_call (codeAny_mono (F.run X.A X.stack s1 (tkd H1 L) ⟨us,[]⟩ us vs _ E0 (hr.mono hj) e0 hbd r hsp) λ rs s' hq=>?_);cases rs with
 |error e=>exact K3 pins σ H1 s1 e s' I1 (by exact hq)
 |ok fl =>
  cases fl with
  |ret u =>
   obtain⟨v,H2,os,bare,un,hok,rv,hkp,q2⟩:=hq;exact I1.after ⟨v,utk H2 L,os,bare,un.utk hok hnew hget hnf hkp,hok.utk hkp,rv,q2⟩
  |next=>exact False.elim hq
  |brk=>exact False.elim hq
  |cont=>exact False.elim hq
end
def Rh(P:Program)(w:World)(K:Frag)(mg:MGz)(base:Heap)(N:LSz)(qual:Str)(scope:Scope)(f:Addr)(cd:Value)(clos:List (Str×Addr))(A:Around)(outer:List Env)(s:Shared)(H Hx:Hp)(E:XK):Cx where
 prog:=P
 w:=w
 K:=K
 mg:=mg
 base:=base
 A:=A.deeper (envX qual scope s.heap.objs.size f cd clos)
 N:=N
 s₀:=s
 H₀:=H
 env:=envX qual scope s.heap.objs.size f cd clos
 outer:=outer
 stack:=envX qual scope s.heap.objs.size f cd clos::outer
 ex:=[]
 calm:=true
 fn:=λ_=>false
 pn:=[]
 xe:=λ e s'=>wpAny (model P w) (A.deeper (envX qual scope s.heap.objs.size f cd clos)) (leaving (envX qual scope s.heap.objs.size f cd clos) e) (λ_ s''=>CX0 outer Hx s E e s'') (λ e' s''=>CX0 outer Hx s E e' s'') s'
theorem TabOk.lamC{clos:List (Str×Addr)}{mg:MGz}{pos:Pos}{qual:Str}{T:Addr}{params:Arguments}{body:Expr}{scope:Scope}{σ:St}{H:Hp}{Q:VK}(h:TabOk pos qual T H)
  (q:∀c' f ctv H',SameX T H H'->TabOk pos qual T H'->H' f=some (Bz f (BM mg qual params body scope clos c' ctv))->H' c'=some (CM c' qual)->(∀b,H b=none->H' b=none\/b=c'\/b=f)->Q (.ref f) H'):Ta mg T pos params body scope clos qual σ H Q:=by
 obtain⟨ps,e,t,c⟩:=h;refine⟨ps,e,t,?_⟩;rcases c with c|⟨c',c1,c2⟩
 .refine .inl ⟨c,λ c' f ctv hc hf n1 n2 n3=>?_⟩;have eT:(upd (upd (upd H T (.tbl (ps++#[rawInt pos.line,rawInt pos.col,.ref c']))) c' (CM c' qual)) f (Bz f (BM mg qual params body scope clos c' ctv))) T=some (.tbl (ps++#[rawInt pos.line,rawInt pos.col,.ref c'])):=by
   rw[Af (Ne.symm n3),Af (Ne.symm n2),Ad]
  have eC:(upd (upd (upd H T (.tbl (ps++#[rawInt pos.line,rawInt pos.col,.ref c']))) c' (CM c' qual)) f (Bz f (BM mg qual params body scope clos c' ctv))) c'=some (CM c' qual):=by
   rw[Af n1,Ad]
  refine q c' f ctv _ (λ a o ea no=>?_) ⟨_,eT,?_,.inr ⟨c',?_,eC⟩⟩ Ad eC λ b hb=>?_
  .rw[Af (Ag no hf),Af (Ag no hc),Af ea];exact no
  .rw[fh];exact E6 (c:=0) _ t
  .rw[fh];exact codeAmong_snoc _ t c
  .by_cases h1:b=f
   .exact .inr (.inr h1)
   .by_cases h2:b=c'
    .exact .inr (.inl h2)
    .refine .inl ?_;rw[Af h1,Af h2,Af (λ z=>by rw[z,e]at hb;cases hb)];exact hb
 .refine .inr ⟨c',c1,c2,λ f ctv hf=>?_⟩;have s:Same H (upd H f (Bz f (BM mg qual params body scope clos c' ctv))):=Same.new hf;refine q c' f ctv _ s.x (TabOk.same ⟨ps,e,t,.inr ⟨c',c1,c2⟩⟩ s) Ad (s _ _ c2) λ b hb=>?_;by_cases h1:b=f
  .exact .inr (.inr h1)
  .exact .inl (by rw[Af h1];exact hb)
theorem TabOk.tbl{pos:Pos}{qual:Str}{T:Addr}{H:Hp}(h:TabOk pos qual T H):∃ps,H T=some (.tbl ps):=let ⟨ps,e,_⟩:=h;⟨ps,e⟩
theorem OD{H H':Hp}{L:PNz}(hL:∀a o,L.lookup a=some o->H a=none)(s:Same (tkd H L) H'):Same H (utk H' L)/\∀a o,L.lookup a=some o->H' a=some (Bz a o) :=
 ⟨λ a o e=>by
  have n:=Em hL e;rw[Bf n];exact s _ _ (by rw[AL n];exact e),λ a o e=>s _ _ (G5 e)⟩
theorem Ju{H:Hp}{L:PNz}{a:Addr}{u:HO}(hL:∀a o,L.lookup a=some o->H a=some (Bz a o))(e:H a=some u)(n:∀o,u≠Bz a o):utk H L a=some u:=by rw[Bf (DK hL e n)];exact e
theorem KL{M:Model}{A:Around}{E:VPz}{s:Shared}{scope:Scope}{globals:Addr}{clos:List (Str×Addr)}{pn:Str}{u:Value}{qual:Str}{func:Option Addr}{code:Value}{builtins:Addr}{Q:Env->Shared->Prop}
  (hk:scope.kind=.function) (hp:scope.names.lookup pn=some .cell) (hc:∀n acc,cellsFrom n scope.names acc=(pn,n)::acc) (hpu:∀h,pushCells h scope.names=h.push { cls:=.type "cell",data:=.cell none })
  (hQ:∀h' tk,h'.Ns s.heap.objs.size (λ_=>none)->h'.IsCell (s.heap.objs.size+1) (some u)->(∀b o,s.heap.get? b=some o->h'.get? b=some o)->Q (newEnv scope s.heap.objs.size globals ((pn,s.heap.objs.size+1)::clos) qual func code none builtins) { s with heap:=h',toks:=tk }) :
  wpAny M A (newFunctionEnv scope globals clos [(pn,u)] qual func code none builtins) Q E s:=by
 simp only[newFunctionEnv,Option.isSome_none,aL,if_false];refine wpAny_bind (wpAny_alloc ?_);refine wpAny_bind (wpAny_layCells _ (λ name kind cells=>by cases hkc:kind==NameKind.cell<;>simp[hkc]) _ _ _ _ ?_);rw[hc,hpu,show({ s with heap:=s.heap.push { cls:=.type "frame",data:=.dict #[] } }:Shared).heap.objs.size=s.heap.objs.size+1 from bt ..];have hcell:((s.heap.push { cls:=.type "frame",data:=.dict #[] }).push { cls:=.type "cell",data:=.cell none }).IsCell (s.heap.objs.size+1) none:=⟨{ cls:=.type "cell",data:=.cell none },Heap.get?_push_at (bt ..).symm rfl,rfl⟩;have hns:=(Heap.Ns.new s.heap (.type "frame")).keeps (h':=(s.heap.push { cls:=.type "frame",data:=.dict #[] }).push { cls:=.type "cell",data:=.cell none }) λ b o e=>ae _ e;refine wpAny_bind ?_;rw[dQ];refine wpAny_bind (wpAny_bind (wpAny_storeName_cell (env:=newEnv scope s.heap.objs.size globals ((pn,s.heap.objs.size+1)::clos) qual func code none builtins) hk hp (by simp[newEnv]) hcell λ h' hc' hs'=>?_));refine wpAny_pure ?_;show wpAny M A (forIn ([]:List (Str×Value)) PUnit.unit _) _ _ _;rw[List.forIn_nil];refine wpAny_pure (wpAny_pure (hQ h' _ (hns.sameBut hs' (aB (bg _))) hc' λ b o e=>hs'.extBut b o (aB (bc (aq e))) (ae _ (ae _ e))))
structure Jg(pn:Str)(fs:LSz)(sc:Scope):Prop where
 kind:sc.kind=.function
 co:sc.isCoroutine=false
 gen:sc.isGenerator=false
 par:sc.names.lookup pn=some .cell
 cells:∀n acc,cellsFrom n sc.names acc=(pn,n)::acc
 push:∀h,pushCells h sc.names=h.push { cls:=.type "cell",data:=.cell none }
 own:∀y,sc.names.lookup y=some .cell->y=pn
 free:∀y,sc.names.lookup y=some .free->y∈fs
 isfree:∀y∈fs,sc.names.lookup y=some .free
theorem QX{P:Program}{w:World}{K:Frag}{mg:MGz}{base:Heap}{k:Nat}{H:Hp}{f c':Addr}{params:Arguments}{body:Expr}{scope:Scope}{qual pn:Str}{ctv:Value}{fs:LSz}{clos:List (Str×Addr)}{cv:LUz}{L:PNz}{sp:Sp}
  (hf:H f=some (Bz f (BM mg qual params body scope clos c' ctv))) (hc:H c'=some (CM c' qual)) (S:Jg pn fs scope) (hlen:cv.length=fs.length) (hkeys:∀y,(∃c,clos.lookup y=some c)↔y∈fs) (hinj:∀x y c,clos.lookup x=some c->clos.lookup y=some c->x=y)
  (hL:∀a o,L.lookup a=some o->H a=some (Bz a o)) (hcell:∀p∈clos,∃o v,L.lookup p.2=some o/\o.data=.cell v) (hval:∀p∈clos,∀(i:Nat)(v:V),fs[i]?=some p.1->cv[i]?=some v->∃o u,L.lookup p.2=some o/\o.data=.cell (some u)/\RelV v u)
  (hb:∀(s:Shared)(u:Value),BindsTo s (kla_fn "<lambda>" qual params body scope clos ((mg "__name__").getD .none) (.ref c') ctv) ⟨[u],[]⟩ [(pn,u)])
  (hone:∀vs H' Q E,sp vs H' Q E->∃v,vs=[v])
  (hbody:∀(A:Around)(outer:List Env)(s:Shared)(H':Hp)(E:XK)(v:V)(Q:VK),Same H H'->Room k (A.deeper (envX qual scope s.heap.objs.size f (.ref c') ((pn,s.heap.objs.size+1)::clos)))->sp [v] H' Q E ->
   ∃te,PE (Rh P w K mg base (pn::fs) qual scope f (.ref c') ((pn,s.heap.objs.size+1)::clos) A outer s (utk H' L) H' E) body te/\te (some v::cv.map some) (utk H' L) (λ v' H2=>(∀a o,L.lookup a=some o->H2 a=none)->Q v' (tkd H2 L))) :
  FvOk P w K mg base (k+1) H f sp:=by
 refine⟨⟨_,_,hf,rfl⟩,λ A outer s H' us vs Q E sm hr e0 r h=>?_⟩;obtain⟨v,rfl⟩:=hone _ _ _ _ h;obtain⟨u,rfl,ru⟩:=Dl r;obtain⟨te,hpe,h⟩:=hbody A outer s H' E v Q sm (hr.deeper _) h;have hL':∀a o,L.lookup a=some o->H' a=some (Bz a o):=λ a o e=>sm _ _ (hL a o e);have hget:∀a o,L.lookup a=some o->s.heap.get? a=some o:=λ a o e=>(show ObjOk P w H' s.heap a (Bz a o) from e0.hok a _ (hL' a o e)).1;have lim:s.heap.NoLimit:=e0.mod.nolimit.keeps λ b o e=>(e0.bs b o e).1;have ho:s.heap.get? f=some (BM mg qual params body scope clos c' ctv):=(show ObjOk P w H' s.heap f (Bz f _) from e0.hok f _ (sm _ _ hf)).1;refine kla_callFunE hr.depth ho rfl S.co S.gen rfl (Oj (e0.hok c' _ (sm _ _ hc))) (hb s u _ _ _ _ ?_);refine KL S.kind S.par S.cells S.push λ h1 tk hns hcl hk=>?_;refine⟨lim.keeps hk,?_⟩;show codeAny _ _ (.expr body (envX qual scope s.heap.objs.size f (.ref c') ((pn,s.heap.objs.size+1)::clos))) _ _;refine kla_codeExpr ?_;have noA:∀b:Addr,b∉(Rh P w K mg base (pn::fs) qual scope f (.ref c') ((pn,s.heap.objs.size+1)::clos) A outer s (utk H' L) H' E).ex:=λ b z=>absurd (show b∈([]:List Addr) from z) (by simp);have mem:∀y c,clos.lookup y=some c->(y,c)∈clos:=λ y c e=>PySem.mem_of_lookup e;have npf:pn∉fs:=λ z=>by have:=S.isfree pn z;rw[S.par]at this;cases this
 have look:∀y c,((pn,s.heap.objs.size+1)::clos).lookup y=some c->(y=pn/\c=s.heap.objs.size+1)\/(y≠pn/\clos.lookup y=some c):=λ y c e=>by
  rw[a9]at e;by_cases q:y=pn
  .subst q;rw[beq_self_eq_true]at e;exact .inl ⟨rfl,(Option.some.inj e).symm⟩
  .rw[show(y==pn)=false from beq_false_of_ne q]at e;exact .inr ⟨q,e⟩
 have lookF:∀y c,y≠pn->clos.lookup y=some c->((pn,s.heap.objs.size+1)::clos).lookup y=some c:=λ y c n e=>by rw[a9,show(y==pn)=false from beq_false_of_ne n];exact e
 have lookP:((pn,s.heap.objs.size+1)::clos).lookup pn=some (s.heap.objs.size+1):=by rw[a9,beq_self_eq_true]
 have lt:∀y c,clos.lookup y=some c->c<s.heap.objs.size:=λ y c e=>by
  obtain⟨o,vv,ho',_⟩:=hcell (y,c) (mem y c e);exact aq (hget _ _ ho')
 have I:Inv (Rh P w K mg base (pn::fs) qual scope f (.ref c') ((pn,s.heap.objs.size+1)::clos) A outer s (utk H' L) H' E) [] (some v::cv.map some) (utk H' L) { s with heap:=h1,toks:=tk }:=by
  refine⟨⟨e0.mod,S.kind,rfl,rfl,ah _,λ x y c h1' h2'=>?_,λ y hy=>?_,λ y c z=>absurd z (by simp[Rh]),λ_=>hr.hd,Around.frames_deeper e0.frames,.inr ⟨rfl,rfl⟩,λ b z=>absurd z (noA b),λ b o e=>⟨(e0.bs b o e).1,BV (e0.bs b o e).2⟩,e0.bsz,λ b _ _=>noA b,λ b z=>absurd z (noA b),e0.funs,λ b hb=>BV (e0.frf b hb)⟩,
   rfl,e0.bare,Un.kept hk,⟨_,hns,λ i y vv h1' h2 h3=>?_⟩,λ y c e=>?_,BV (e0.hok.fresh (ah _)),λ y c e=>?_,λ p hp=>absurd (show p∈([]:PNz) from hp) (by simp),(e0.hok.utk hL').kept hk,?_⟩
  .rcases look x c h1' with ⟨rfl,rfl⟩|⟨_,q1⟩
   .rcases look y _ h2' with ⟨rfl,_⟩|⟨_,q2⟩
    .rfl
    .exact absurd (lt y _ q2) (d8.mpr (bI _))
   .rcases look y _ h2' with ⟨rfl,rfl⟩|⟨_,q2⟩
    .exact absurd (lt x _ q1) (d8.mpr (bI _))
    .exact hinj x y c q1 q2
  .have hy:scope.names.lookup y=some .cell\/scope.names.lookup y=some .free:=hy;rcases hy with hy|hy
   .rw[S.own y hy];exact⟨_,lookP⟩
   .have m:=S.free y hy;obtain⟨c,e⟩:=(hkeys y).mpr m;exact⟨c,lookF y c (λ z=>npf (z ▸ m)) e⟩
  .have h1':(pn::fs)[i]?=some y:=h1';cases i with
   |zero =>
    cases h1';cases h2;exact⟨u,ru,.inr ⟨.inl S.par,_,lookP,hcl⟩⟩
   |succ i =>
    have h1':fs[i]?=some y:=h1';have h2:(cv.map some)[i]?=some (some vv):=h2;rw[ay]at h2;obtain⟨z,hz,e⟩:=aZ.mp h2;cases e;have m:=ax h1';obtain⟨c,hc'⟩:=(hkeys y).mpr m;obtain⟨o,u',ho',hd,rv⟩:=hval (y,c) (mem y c hc') i vv h1' hz;exact⟨u',rv,.inr ⟨.inr (S.isfree y m),c,lookF y c (λ z=>npf (z ▸ m)) hc',o,hk _ _ (hget _ _ ho'),hd⟩⟩
  .rcases look y c e with ⟨rfl,rfl⟩|⟨_,e⟩
   .exact⟨_,hcl⟩
   .obtain⟨o,vv,ho',hd⟩:=hcell (y,c) (mem y c e);exact⟨vv,o,hk _ _ (hget _ _ ho'),hd⟩
  .rcases look y c e with ⟨rfl,rfl⟩|⟨_,e⟩
   .exact BV (e0.hok.fresh (bI _))
   .obtain⟨o,vv,ho',hd⟩:=hcell (y,c) (mem y c e);exact Fd ho'
  .show(some v::cv.map some).length=(pn::fs).length;rw[aN,aN,aa,hlen]
 refine wpAny_mono (hpe [] _ _ _ _ I h) (λ u2 s' ⟨v2,H2,J,rv,q⟩=>?_) λ e s' z=>z;have un:Un (frs outer) [] (utk H' L) H2 s.heap s'.heap:=J.base;have hnf:∀a o,L.lookup a=some o->a∉frs outer:=λ a o e hb=>by
  have:=e0.frf a hb;rw[hL' a o e]at this;cases this
 have hno:∀a o,L.lookup a=some o->H2 a=none:=λ a o e=>un.free a o (hget a o e) (Fd e) (by simp);exact⟨v2,tkd H2 L,J.os,J.bare,un.tkd hL',J.hok.tkd hno (λ a o e=>un.keep a o (hget a o e) (Fd e) (hnf a o e) (by simp)),rv,q hno⟩
abbrev TH:=Dj->St->Hp->Addr->Addr->Option Addr->Addr->Prop
theorem ints_get{vs:LWz}{ns:List Int}(a:IntsAre vs ns):∀(j:Nat)(h:j<vs.length),∃tk,vs[j]=Value.int (ns.getD j 0) tk:=by
 induction a with
 |nil=>intro j h;simp at h
 |cons n t _ ih =>
  intro j h;cases j with
  |zero=>exact⟨t,rfl⟩
  |succ j=>exact ih j (by simpa using h)
theorem HOk.thaw{P:Program}{w:World}{H:Hp}{h:Heap}{a:Addr}{ob:Obj}{u:HO}(ok:HOk P w H h)(e:H a=some (.frz ob u)):HOk P w (upd H a u) h:=λ b v q=>by
 have ho:∀b y,H b=some (.own y)->(upd H a u) b=some (.own y):=λ b y z=>by rw[Af (λ c=>by rw[c,e]at z;cases z)];exact z
 have ht:∀b xs,H b=some (.tup xs)->(upd H a u) b=some (.tup xs):=λ b xs z=>by rw[Af (λ c=>by rw[c,e]at z;cases z)];exact z
 by_cases hb:b=a
 .subst hb;rw[Ad]at q;cases q;exact(show h.get? b=some ob/\ObjOk P w H h b u from ok b _ e).2.stay (λ_ _ _ r=>r) (λ c r=>ho c _ r) ht
 .rw[Af hb]at q;exact(ok b v q).stay (λ_ _ _ r=>r) (λ c r=>ho c _ r) ht
theorem Inv.thaw{X:Cx}{pins:PNz}{σ:St}{H:Hp}{s:Shared}{a:Addr}{ob:Obj}{u:HO}(I:Inv X pins σ H s)(e:H a=some (.frz ob u))(n:∀o v,X.H₀ a≠some (.frz o v)):Inv X pins σ (upd H a u) s:=by
 have ne:∀{b:Addr},H b=none->b≠a:=λ z c=>by rw[c,e]at z;cases z
 refine⟨I.ok,I.os,I.bare,⟨I.base.keep,I.base.slot,λ b o q r hx=>?_,I.base.there,λ b xs q=>?_,λ b o v q=>?_,λ b ps q=>?_⟩,I.loc,I.cell,?_,λ x c q=>?_,λ p hp=>?_,I.hok.thaw e,I.len⟩
 .have:=I.base.free b o q r hx;rw[Af (ne this)];exact this
 .have:=I.base.tups b xs q;rw[Af (λ c=>by rw[c,e]at this;cases this)];exact this
 .have:=I.base.frzs b o v q;rw[Af (λ c=>by rw[c]at q;exact n o v q)];exact this
 .obtain⟨more,this⟩:=I.base.tbls b ps q;exact⟨more,by rw[Af (λ c=>by rw[c,e]at this;cases this)];exact this⟩
 .rw[Af (ne I.free)];exact I.free
 .rw[Af (ne (I.freeC x c q))];exact I.freeC x c q
 .obtain⟨p1,p2,p3⟩:=I.pin p hp;exact⟨p1,by rw[Af (ne p2)];exact p2,p3⟩
def SV(H₀:Hp)(te:TE):TE:=λ σ H Q=>te σ H λ v H'=>∃(a:Addr)(ob:Obj)(u:HO),H' a=some (.frz ob u)/\(∀o w,H₀ a≠some (.frz o w))/\Q v (upd H' a u)
theorem M7{X:Cx}{e:Expr}{te:TE}(h:PE X e te):PE X e (SV X.H₀ te):=by
 intro pins s σ H Q I q;refine thn (h pins s σ H _ I q) λ u s1 ⟨x,H1,I1,rx,a,ob,w,ea,n,q1⟩=>⟨x,_,I1.thaw ea n,rx,q1⟩
@[elab_as_elim] theorem nv {H:Hp} {c:Addr} {o:HO} {P:Hp->Prop} (n:H c=none) (h:∀G,Same H G->G c=some o->P G):P (upd H c o):=h _ (Same.new n) Ad
theorem fsk{N ps:LSz}{sc:Scope}(a:sc.kind=.function:=by rfl)(b:sc.isCoroutine=false:=by rfl)(c:sc.isGenerator=false:=by rfl)(d:N.Nodup:=by decide +kernel)(e:N.take ps.length=ps:=by rfl)(f:∀x∈ps,sc.names.lookup x=some .local\/sc.names.lookup x=some .cell:=by decide +kernel)(g:∀y∈sc.names,y.2≠.free:=by decide +kernel):Ak N ps sc:=⟨a,b,c,d,e,f,g⟩
section
variable{P:Program}{w:World}{K:Frag}{mg:MGz}{base:Heap}{x qual:Str}{st:Stmt}{f c:Addr}{fd:FuncData}{N ps:LSz}{k:Nat}{sp:Sp}
theorem Fun.g(F:Fun K x qual st f fd)(S:Ak N ps (Ai st))(h:∀vs H Q E,sp vs H Q E->vs.length=ps.length/\∀(cdv:Value)(A:Around)(outer:List Env)(s:Shared),Room k (A.deeper (envOfC qual (Ai st) s.heap.objs.size f cdv)) ->
  ∃t,PSs (Cs CX0 P w K mg base N qual (Ai st) f cdv A outer s H E).nox (A5 st) t/\t { nx:=λ_ H'=>Q .non H',rt:=Q } (start N vs) H):A2 P w K mg base CX0 (k+1) f fd ps sp :=
 F.ok S (λ vs H Q E z=>(h vs H Q E z).1) λ cdv A outer s H vs Q E hr z=>(h vs H Q E z).2 cdv A outer s hr
theorem FunD.g(F:FunD K x qual st f fd)(S:Ak N ps (Ai st))(h:∀vs H Q E,sp vs H Q E->vs.length=ps.length/\∀(cdv:Value)(A:Around)(outer:List Env)(s:Shared),Room k (A.deeper (envOfC qual (Ai st) s.heap.objs.size f cdv)) ->
  ∃t,PSs (Cs CX0 P w K mg base N qual (Ai st) f cdv A outer s H E).nox (A5 st) t/\t { nx:=λ_ H'=>Q .non H',rt:=Q } (start N vs) H):A2 P w K mg base CX0 (k+1) f fd ps sp :=
 F.ok S (λ vs H Q E z=>(h vs H Q E z).1) λ cdv A outer s H vs Q E hr z=>(h vs H Q E z).2 cdv A outer s hr
theorem FunC.g(F:FunC K x qual st f fd c)(S:Ak N ps (Ai st))(h:∀vs H Q E,sp vs H Q E->vs.length=ps.length/\∀(A:Around)(outer:List Env)(s:Shared),Room k (A.deeper (envOfC qual (Ai st) s.heap.objs.size f (.ref c))) ->
  ∃t,PSs (Cs CX0 P w K mg base N qual (Ai st) f (.ref c) A outer s H E).nox (A5 st) t/\t { nx:=λ_ H'=>Q .non H',rt:=Q } (start N vs) H):A2 P w K mg base CX0 (k+1) f fd ps sp :=
 F.ok S (λ vs H Q E z=>(h vs H Q E z).1) λ A outer s H vs Q E hr z=>(h vs H Q E z).2 A outer s hr
end
section
variable{X:Cx}
theorem nk(N:LSz)(h:N.Nodup:=by decide +kernel):N.Nodup:=h
theorem pgk{x:Str}{pos:Pos}(hN:X.N.Nodup)(hi:X.N[0]?=some x:=by rfl)(hx:Loc X.env.scope x:=by exact ar rfl)(hf:X.fn x=true\/X.env.scope.names.lookup x=some .local:=by first|exact .inl rfl|exact .inr rfl|assumption):PG X (.Name x pos) (P8 0):=Aj hN hi hx hf
theorem CW{o e:Expr}{es:List Expr}{to:TE}{t:TA}{apos cpos:Pos}(ho:PE X o to)(ha:PA X (e::es) t)
  (hbase:attributeBase o "append" X.env (eval o X.env)=eval o X.env:=by rfl)
  (hfew:((backTo cpos (starEach (e::es) X.env)).all (λ x=>!x.1)&&(backToKw cpos (keywordEach [] X.env)).all (λ x=>x.1.isSome)
  &&decide ((e::es).length+([]:List Keyword).length+(if ([]:List Keyword).isEmpty then 0 else 1)<30))=true:=by rfl)
  (hline:(apos.endLine==cpos.line)=true:=by rfl) (hs:starEach (e::es) X.env=(false,eval e X.env)::starEach es X.env:=by rfl) (hplain:(backTo cpos (starEach es X.env)).any (·.1)=false:=by rfl) :
  PE X (.Call (.Attribute o "append" apos) (e::es) [] cpos) (tBM X.K "list" M1 to t):=OU bn PySem.F.slot_list_append PySem.F.type_list_append Fw ho ha hbase hfew hline hs hplain
end
structure O4 where
 a:Option Tok
 b:Option Tok
 c:Option Tok
 d:Option Tok
def elO(k:Nat):Option Tok->List (Nat×Tok)
 |none=>[]
 |some t=>[(k,t)]
def lsO(o:O4):List (Nat×Tok):=elO 1 o.a++(elO 2 o.b++(elO 3 o.c++elO 4 o.d))
def eO(p:Nat×Tok):Int×Value:=((p.1:Int),.int (p.1:Int) p.2)
def esO(o:O4):Array (Int×Value):=((lsO o).map eO).toArray
def tbO(o:O4)(led:Bool):SetTable:={ mask:=7,place:=((lsO o).map (·.1)).toArray,dummies:=#[],finger:=0,led:=led,moves:=0,plain:=true }
def BA(o:O4)(ep:Nat)(led:Bool):Obj:={ cls:=.type "set",dict:=none,data:=.set (esO o) ep (tbO o led) }
def Cr(o:O4):Nat->Bool
 |1=>o.a.isSome
 |2=>o.b.isSome
 |3=>o.c.isSome
 |4=>o.d.isSome
 |_=>false
def Gc(o:O4)(t:Tok):Nat->O4
 |1=>{ o with a:=o.a.or (some t) }
 |2=>{ o with b:=o.b.or (some t) }
 |3=>{ o with c:=o.c.or (some t) }
 |4=>{ o with d:=o.d.or (some t) }
 |_=>o
theorem D9{v:Nat}(h1:1<=v)(h4:v<=4):v=1\/v=2\/v=3\/v=4:=by lia
theorem UF(o:O4)(led:Bool)(t:Tok){v:Nat}(h1:1<=v)(h4:v<=4)(h:Cr o v=false):layNew (tbO o led) (esO o) (v:Int) (.int (v:Int) t)=(esO (Gc o t v),tbO (Gc o t v) led,false,false):=by
 obtain⟨a,b,c,d⟩:=o;obtain rfl|rfl|rfl|rfl:=D9 h1 h4
 .cases a with
  |some _=>cases h
  |none=>cases led<;>cases b<;>cases c<;>cases d<;>kernel_rfl
 .cases b with
  |some _=>cases h
  |none=>cases led<;>cases a<;>cases c<;>cases d<;>kernel_rfl
 .cases c with
  |some _=>cases h
  |none=>cases led<;>cases a<;>cases b<;>cases d<;>kernel_rfl
 .cases d with
  |some _=>cases h
  |none=>cases led<;>cases a<;>cases b<;>cases c<;>kernel_rfl
theorem Ob(o:O4)(led:Bool):(tbO o led).fits (esO o).size=true:=by
 obtain⟨a,b,c,d⟩:=o;cases a<;>cases b<;>cases c<;>cases d<;>rfl
theorem TR(o:O4)(led:Bool):(tbO o led).tooFull=false:=by
 obtain⟨a,b,c,d⟩:=o;cases a<;>cases b<;>cases c<;>cases d<;>rfl
theorem Q2(o:O4):(esO o).size<=4:=by
 obtain⟨a,b,c,d⟩:=o;cases a<;>cases b<;>cases c<;>cases d<;>exact eY rfl
theorem MD{o:O4}{p:Nat×Tok}(h:p∈lsO o):1<=p.1/\p.1<=4/\Cr o p.1=true:=by
 have el:∀(k:Nat)(x:Option Tok),p∈elO k x->p.1=k/\x.isSome=true:=λ k x z=>by
  cases x with
  |none=>cases z
  |some t=>rw[ai.mp z];exact⟨rfl,rfl⟩
 unfold lsO at h;rcases aF.mp h with h|h
 .obtain⟨e,i⟩:=el _ _ h;rw[e];exact⟨by decide,by decide,i⟩
 rcases aF.mp h with h|h
 .obtain⟨e,i⟩:=el _ _ h;rw[e];exact⟨by decide,by decide,i⟩
 rcases aF.mp h with h|h
 .obtain⟨e,i⟩:=el _ _ h;rw[e];exact⟨by decide,by decide,i⟩
 .obtain⟨e,i⟩:=el _ _ h;rw[e];exact⟨by decide,by decide,i⟩
theorem R8{v:Nat}(h1:1<=v)(h4:v<=4):hashInt (v:Int)=(v:Int):=by
 obtain rfl|rfl|rfl|rfl:=D9 h1 h4<;>decide
theorem SD{P:Program}{w:World}(o:O4):ElemsOf (intKind P w) (esO o).toList:=λ e he=>by
 have he:e∈(lsO o).map eO:=he;obtain⟨p,hp,rfl⟩:=az.mp he;obtain⟨h1,h4,_⟩:=MD hp;exact⟨⟨(p.1:Int),intKind_is _ _ _ _,(R8 h1 h4).symm⟩,rfl⟩
theorem QU{o:O4}{t:Tok}{v:Nat}(h:Cr o v=true):Gc o t v=o:=by
 obtain⟨a,b,c,d⟩:=o;unfold Cr at h;split at h
 .cases a with
  |none=>cases h
  |some _=>rfl
 .cases b with
  |none=>cases h
  |some _=>rfl
 .cases c with
  |none=>cases h
  |some _=>rfl
 .cases d with
  |none=>cases h
  |some _=>rfl
 .cases h
theorem QV{o:O4}{v:Nat}(h:Cr o v=true):∃t,(v,t)∈lsO o:=by
 obtain⟨a,b,c,d⟩:=o;unfold Cr at h;split at h
 .cases a with
  |none=>cases h
  |some t=>exact⟨t,by simp[lsO,elO]⟩
 .cases b with
  |none=>cases h
  |some t=>exact⟨t,by simp[lsO,elO]⟩
 .cases c with
  |none=>cases h
  |some t=>exact⟨t,by simp[lsO,elO]⟩
 .cases d with
  |none=>cases h
  |some t=>exact⟨t,by simp[lsO,elO]⟩
 .cases h
theorem Q8(o:O4)(t:Tok){v:Nat}(h1:1<=v)(h4:v<=4)(k:Nat):Cr (Gc o t v) k=(Cr o k||decide (k=v)):=by
 obtain⟨a,b,c,d⟩:=o;by_cases hk:1<=k/\k<=4
 .obtain rfl|rfl|rfl|rfl:=D9 h1 h4<;>obtain rfl|rfl|rfl|rfl:=D9 hk.1 hk.2<;>cases a<;>cases b<;>cases c<;>cases d<;>rfl
 .have e:∀o:O4,Cr o k=false:=λ o=>by
   unfold Cr;split
   .exact absurd ⟨by decide,by decide⟩ hk
   .exact absurd ⟨by decide,by decide⟩ hk
   .exact absurd ⟨by decide,by decide⟩ hk
   .exact absurd ⟨by decide,by decide⟩ hk
   .rfl
  rw[e,e,decide_eq_false (by lia)];rfl
section
variable{P:Program}{w:World}{A:Around}{E:VPz}{s:Shared}
theorem Q5{S:Addr}{o:O4}{ep:Nat}{led:Bool}{v:Nat}{t:Tok}{Q:Bool->Shared->Prop}(h1:1<=v)(h4:v<=4)(hS:s.heap.get? S=some (BA o ep led))
  (h:∀b h' ep',Heap.SameBut S s.heap h'->h'.get? S=some (BA (Gc o t v) ep' led)->Q b { s with heap:=h' }):wpAny (model P w) A (setAddHashed S (.int (v:Int) t) (hashInt (v:Int))) Q E s:=by
 have hf:=Ob o led;have hel:=SD (P:=P) (w:=w) o;have sz:=Q2 o;have hkey:(intKind P w).is (v:Int) (.int (v:Int) t)=true:=intKind_is _ _ _ _;unfold setAddHashed setAddHashedIn;refine wpAny_holding (wpAny_bind (wpAny_setState_of (o:=BA o ep led) (ep:=ep) hS rfl hf ?_));dsimp only;rw[byScan_of (knd:=intKind P w) rfl (by unfold scanBound;lia) hel,if_pos rfl];unfold setAddByScan;refine wpAny_bind (wpAny_bind (wpAny_rule (wpAny_bind ?_)));refine wpAny_setScan_of (knd:=intKind P w) hkey (o:=BA o ep led) (ep:=ep) hS rfl hf hel ?_;cases hr:List.findIdx? (λ e=>(intKind P w).is (v:Int) e.2) (esO o).toList with
 |some j =>
  dsimp only;obtain⟨hj,hpj,_⟩:=List.findIdx?_eq_some_iff_getElem.mp hr;have hm:(esO o).toList[j]∈(lsO o).map eO:=bH hj;obtain⟨p,hp,e⟩:=az.mp hm;rw[<-e]at hpj;have ev:(v:Int)=(p.1:Int):=(intKind P w).inj _ _ _ hpj (intKind_is _ _ _ _);have ev:v=p.1:=by lia
  have hh:Cr o v=true:=by rw[ev];exact(MD hp).2.2
  refine wpAny_pure (wpAny_pure ?_);have:=h false s.heap ep (Heap.SameBut.refl S s.heap) (by rw[QU hh];exact hS);exact this
 |none =>
  dsimp only;have hh:Cr o v=false:=by
   cases hk:Cr o v with
   |false=>rfl
   |true =>
    obtain⟨t',ht⟩:=QV hk;have hm:eO (v,t')∈(esO o).toList:=by
     show eO (v,t')∈(lsO o).map eO;exact List.mem_map_of_mem ht
    have:=List.findIdx?_eq_none_iff.mp hr _ hm;rw[show(intKind P w).is (v:Int) (eO (v,t')).2=true from intKind_is _ _ _ _]at this;cases this
  have hL:layNew (tbO o led) (esO o) (hashInt (v:Int)) (.int (v:Int) t)=(esO (Gc o t v),tbO (Gc o t v) led,false,false):=by
   rw[R8 h1 h4];exact UF o led t h1 h4 hh
  rw[hL];dsimp only;refine wpAny_bind (wpAny_pure ?_);rw[if_pos (show(tbO (Gc o t v) led).plain=true from rfl)];refine wpAny_bind (wpAny_pure (wpAny_bind ?_));rw[if_pos rfl];have hz:=Q2 (Gc o t v);refine wpAny_storeSet_of (o:=BA o ep led) (ep:=ep) hS rfl ?_ (aM (Al (by lia)));rw[TR];rw[if_neg (by decide)];refine wpAny_pure (wpAny_pure (h true _ (ep+1) (Heap.SameBut.update s.heap S _) ?_));have hg:=ce (Obj.putSet (esO (Gc o t v)) (tbO (Gc o t v) led)) hS rfl;exact hg
end
section
variable{pr:Program}{wo:World}{B:Around}{X0:VPz}{st:Shared}{I:Addr}{fp wr:List Addr}{G:Array GenState->Array GenState->Prop}{n:Nat}{Pv:Nat->Value->Prop}{Sv:Nat->Shared->Prop}{R:Result->Shared->Prop}
theorem T9(W:WalksS pr wo B.in1 I fp wr G n Pv Sv)(S:Addr)(hSf:S∉fp)(val:Nat->Nat)(hval:∀i v,Pv i v->∃t,v=.int (val i:Int) t)(hb:∀i,i<n->1<=val i/\val i<=4)(led:Bool) :
  ∀(k i:Nat)(st:Shared)(o:O4)(ep:Nat),n-i=k->i<=n->Sv i st->st.heap.get? S=some (BA o ep led) ->
   (∀s' o' ep',Moved (S::wr) G st s'->s'.heap.get? S=some (BA o' ep' led)->(∀x,Cr o' x=true↔Cr o x=true\/∃j,i<=j/\j<n/\val j=x)->R (.ok (.ret .none)) s') ->
   codeAny (model pr wo) B (.builtin "set.update.loop" ⟨[.ref S,.ref I],[]⟩) R st:=by
 have nSw:S∉wr:=λ z=>hSf (W.sub _ z);have up:∀b∈wr,b∈S::wr:=λ b z=>aI _ z;intro k
 induction k with
 |zero =>
  intro i st o ep e0 le0 v0 hS hR;obtain rfl:i=n:=by lia
  refine codeAny_builtin F.entry_set_update_loop ?_;rw[Around.under_plainId F.plain_set_update_loop _];show wpAny _ B.in1 (pyNext (.ref I) >>= _) _ _ st;refine wpAny_bind (W.done st _ _ v0 λ s' mv=>?_);show wpAny _ B.in1 (ret Value.none) _ _ s';exact wpAny_pure (hR s' o ep (mv.mono up) (mv.heap S _ nSw hS) λ x=>⟨.inl,λ z=>z.elim id λ⟨j,a,b,_⟩=>absurd a (by lia)⟩)
 |succ k ih =>
  intro i st o ep e0 le0 v0 hS hR;have lt0:i<n:=by lia
  refine codeAny_builtin F.entry_set_update_loop ?_;rw[Around.under_plainId F.plain_set_update_loop _];show wpAny _ B.in1 (pyNext (.ref I) >>= _) _ _ st;refine wpAny_bind (W.item i st _ _ lt0 v0 λ v s' pv v1 mv=>?_);obtain⟨t,rfl⟩:=hval i v pv;obtain⟨b1,b4⟩:=hb i lt0;have hS1:=mv.heap S _ nSw hS;show wpAny _ B.in1 (holding [Value.int (val i:Int) t] (setAdd S (.int (val i:Int) t)) >>= _) _ _ s';refine wpAny_bind (wpAny_holding ?_);unfold setAdd;refine wpAny_holding (wpAny_bind ((intKind pr wo).pyHash (k:=(val i:Int)) (intKind_is _ _ _ _) ?_));refine Q5 (s:={ s' with toks:=s'.toks+1 }) b1 b4 hS1 λ b h' ep' sb hS2=>?_;refine wpAny_pure ⟨plainId_quiet F.plain_set_update_loop _,ih (i+1) _ (Gc o t (val i)) ep' (by lia) lt0 (W.frame _ s' _ _ v1 (bI _) λ b hb' o' e=>?_) hS2 λ s'' o'' ep'' mv2 hS3 hh=>?_⟩
  .rw[sb.2 b (λ z:b=S=>hSf (by rw[<-z];exact hb'))];exact e
  .refine hR s'' o'' ep'' (Moved.trans W.gtrans ((mv.mono up).then_heap (bI _) λ b o' nb e=>?_) mv2) hS3 λ x=>?_
   .rw[sb.2 b (λ z:b=S=>nb (by rw[z];exact aD))];exact e
   .rw[hh x,Q8 o t b1 b4,de,decide_eq_true_eq]
    constructor
    .rintro((z|z)|⟨j,a,b,c⟩)
     .exact .inl z
     .exact .inr ⟨i,ah _,lt0,z.symm⟩
     .exact .inr ⟨j,by lia,b,c⟩
    .rintro(z|⟨j,a,b,c⟩)
     .exact .inl (.inl z)
     .by_cases e:j=i
      .subst e;exact .inl (.inr c.symm)
      .exact .inr ⟨j,by lia,b,c⟩
def Be(wo:World):Bool:=!wo.params.followText "set-order"
def JK(led:Bool):Obj:=BA ⟨none,none,none,none⟩ 0 led
theorem T8(a:Value){Q1:VPz}(h:Q1 (.ref st.heap.objs.size) { st with heap:=st.heap.push (JK (Be wo)) }) :
    codeAny (model pr wo) B (.call (.builtin "set.__new__") ⟨[.type "set",a],[]⟩) (wants Q1 X0) st:=by
  refine codeAny_of_tree ?_;show wpAny _ B.in1 (do checkBuiltinCall "set.__new__" ⟨[.type "set",a],[]⟩;again (.builtin "set.__new__" ⟨[.type "set",a],[]⟩)) _ _ st;refine wpAny_bind (wpAny_of_eq (PySem.F.newCall_set_1 a) (wpAny_pure ⟨plainId_quiet F.plain_set_new _,codeAny_builtin F.entry_set_new ?_⟩));rw[Around.under_plainId F.plain_set_new _];unfold Builtin.«set.__new__» Builtin.Frozenset.newClass;have hsub:=sub_set_self;obtain⟨hp,g,d,tk,os⟩:=st;dsimp only
  wp_walk
  refine wpAny_askSetting (wpAny_pure ?_);dsimp only;simp only[newObj];refine wpAny_bind (wpAny_alloc (wpAny_pure ?_));exact wpAny_pure h
end
section
variable{pr:Program}{wo:World}{B:Around}{X0:VPz}{st:Shared}
theorem TX{l:Addr}{its:Array Value}{ns:List Nat}{Q:VPz}(hh:B.handled=none)(hl:st.heap.IsList l its)(hv:∀(i:Nat)(v:Value),its[i]?=some v->∃t,v=.int ((ns.getD i 0:Nat):Int) t)(hn:its.size=ns.length)(hb:∀x∈ns,1<=x/\x<=4)
  (h:∀(h':Heap)(tk:Nat)(o:O4)(ep:Nat),h'.get? st.heap.objs.size=some (BA o ep (Be wo))->(∀x,Cr o x=true↔x∈ns)->(∀b ob,b<st.heap.objs.size->st.heap.get? b=some ob->h'.get? b=some ob)->Q (.ref st.heap.objs.size) { st with heap:=h',toks:=tk }) :
  wpAny (model pr wo) B (call (.type "set") [.ref l]) Q X0 st:=by
 obtain⟨c0,tl0,mr0⟩:=bG.mro;have md0:=bG.made;have sb0:=bG.sub;refine wpAny_call (codeAny_of_tree ?_);show wpAny _ _ (callAny (.type "set") _) _ _ _;refine wpAny_pure ⟨Code.quiet_builtin _ (by decide +kernel),codeAny_builtin F.entry_type_call ?_⟩;rw[Around.under_plain (weight_type_call_type "set" [.ref l] []) rfl];have nt0:=bG.notType;have cc0:=bG.canCreate;have tc0:=PySem.F.typeCall_set_1 (.ref l)
 repeat (any_goals (first|assumption|wp_step))
 refine codeAny_mono (T8 (wo:=wo) (.ref l) (X0:=X0) (Q1:=λ ob s1=>ob=.ref st.heap.objs.size/\s1={ st with heap:=st.heap.push (JK (Be wo)) }) ⟨rfl,rfl⟩) λ r s1 hr=>?_;cases r with
 |error e=>exact hr
 |ok fl =>
  cases fl with
  |ret ob =>
   obtain⟨rfl,rfl⟩:=hr;have gS:(st.heap.push (JK (Be wo))).get? st.heap.objs.size=some (JK (Be wo)):=au _ rfl;have hT:Shared.TypeIs { st with heap:=st.heap.push (JK (Be wo)) } (.ref st.heap.objs.size) "set":=⟨_,gS,rfl⟩;have li0:=bG.init.lookup;have bi0:=bG.init.bind (.ref st.heap.objs.size)
   repeat (any_goals (first|assumption|wp_step))
   refine codeAny_mono (codeAny_call_builtin (R:=wants (λ r s2=>r=.none/\∃h' tk o ep,s2={ st with heap:=h',toks:=tk }/\h'.get? st.heap.objs.size=some (BA o ep (Be wo))/\(∀x,Cr o x=true↔x∈ns)/\(∀b ob,b<st.heap.objs.size->st.heap.get? b=some ob->h'.get? b=some ob)) X0) bG.init.plain PySem.F.entry_set_init (check_set_init_1 hT ?_)) λ r2 s2 hr2=>?_
   .obtain⟨ol,hol,hcl,nl,hdl⟩:=hl;obtain⟨ocls,odict,odata,oslots⟩:=ol;simp only at hcl hdl;subst hcl;subst hdl;have hol1:(st.heap.push (JK (Be wo))).get? l=some { cls:=.type "list",dict:=odict,data:=.seq its nl,slots:=oslots }:=ae _ hol;have ss0:=PySem.F.sub_list_set;have sf0:=PySem.F.sub_list_frozenset;have nd0:(Value.type "list"==Value.type "dict")=false:=by decide
    have hl1:(st.heap.push (JK (Be wo))).IsList l its:=⟨_,hol1,rfl,nl,rfl⟩;unfold Builtin.«set.__init__» noKeywords Builtin.Frozenset.updateFrom;generalize ePI:pyIter=PI
    wp_walk
    subst ePI;refine wpAny_pyIter_list hl1 (wpAny_bind (wpAny_runValue ?_));have ltS:l<st.heap.objs.size:=aq hol;have h3:B.in1.in1.in1.handled=none:=by simp[hh]
    have neI:l≠(st.heap.push (JK (Be wo))).objs.size:=by
     rw[bt];exact aB (bc ltS)
    have nSf:st.heap.objs.size∉[(st.heap.push (JK (Be wo))).objs.size,l]:=by
     rw[bt];simp only[aP,bx,or_false,not_or];exact⟨aB (bg _),dG ltS⟩
    refine T9 ((Walks.list h3 _ l neI its).toS) st.heap.objs.size nSf (λ i=>ns.getD i 0) hv (λ i hi=>hb _ ?_) (Be wo) (its.size-0) 0 _ ⟨none,none,none,none⟩ 0 (by lia) (aQ _)
     ⟨⟨_,au _ rfl,rfl,rfl⟩,(hl1.push _)⟩ (ae _ gS) ?_
    .have:i<ns.length:=by lia
     rw[aS,ag this];exact bH this
    .intro s' o' ep' mv hS' hx;obtain⟨h',g',d',tk',os'⟩:=s';have eg:g'=st.gens:=mv.gens;have ed:d'=st.drawn:=mv.drawn;have eo:os'=st.os:=mv.os;subst eg;subst ed;subst eo;show wpAny _ _ _ _ _ _;refine wpAny_pure ?_;show wpAny _ _ (ret Value.none) _ _ _;refine wpAny_pure ⟨rfl,h',tk',o',ep',rfl,hS',λ x=>?_,λ b ob lb e=>?_⟩
     .rw[hx x]
      constructor
      .rintro(z|⟨j,_,a,rfl⟩)
       .exact absurd z (by unfold Cr;split<;>decide)
       .have:j<ns.length:=by lia
        show ns.getD j 0∈ns;rw[aS,ag this];exact bH this
      .intro z;obtain⟨j,hj,e⟩:=dv z;exact .inr ⟨j,aQ _,by lia,by show ns.getD j 0=x;rw[aS,ag hj];exact e⟩
     .refine mv.heap b ob ?_ (ae _ (ae _ e));rw[bt];simp only[aP,bx,or_false,not_or];exact⟨aB lb,aB (bc lb)⟩
   .cases r2 with
    |error e=>exact hr2
    |ok fl2 =>
     cases fl2 with
     |ret r =>
      obtain⟨rfl,h',tk,o,ep,rfl,hS',hx,hk⟩:=hr2
      repeat (any_goals (first|assumption|wp_step))
      exact h _ _ o ep hS' hx hk
     |_=>exact hr2.elim
  |_=>exact hr.elim
end
theorem slot_sit_next:Slot "set_iterator" "__next__" "set_iterator.__next__" :=
 .of (owner:="set_iterator") (n:="__next__") (by rw[typeLookup_type,builtinLookup_eq_fast];kernel_rfl) (by decide +kernel) (by decide +kernel) (by decide +kernel) (by first|exact .inl (by decide +kernel)|exact .inr (by decide +kernel)) (by rw[isSubtype_type];kernel_rfl)
theorem DB:entryFor table "set_iterator.__next__"=some Builtin.«set_iterator.__next__»:=entryFor_of_tree (by kernel_rfl)
theorem IN:Manifest.owners.lookup (String.ofList ['r','o','t','a','r','e','t','i','_','t','e','s'].reverse)=some Manifest.sig_set_iterator:=by kernel_rfl
theorem DW(a:Value):argsOk "set_iterator.__next__" ⟨[a],[]⟩:=by
 unfold argsOk;rw[signature?_of (id:="set_iterator.__next__") (n:=['_','_','t','x','e','n','_','_']) (o:=['r','o','t','a','r','e','t','i','_','t','e','s']) (by kernel_rfl) IN]
 kernel_rfl
def Fo(wo:World)(r:Addr)(ep:Nat)(o:O4):Array (Int×Value):=if wo.params.followText "set-order"=true then pickOrder (wo.params.setOrder r ep) (esO o) else esO o
def slO(o:O4):Nat->Nat
 |0=>0
 |i+1=>((lsO o).map (·.1)).getD i 0+1
def slW(wo:World)(o:O4)(i:Nat):Nat:=if wo.params.followText "set-order"=true then 0 else slO o i
def GN(wo:World)(r:Addr)(ep:Nat)(o:O4)(i:Nat):Obj:={ cls:=.type "set_iterator",data:=.fields #[.int (slW wo o i:Int) 0,.int (i:Int) 0,.ref r,.int ((esO o).size:Int) 0,.int (ep:Int) 0] }
theorem Sd(o:O4)(led:Bool){i:Nat}(h:i<(esO o).size):∃j,SetTable.below (tbO o led).place (slO o i)=i/\(tbO o led).place[i]?=some j/\slO o (i+1)=j+1:=by
 obtain⟨a,b,c,d⟩:=o;have h4:i<4:=aO h (Q2 _);obtain rfl|rfl|rfl|rfl:i=0\/i=1\/i=2\/i=3:=by lia
 all_goals cases a<;>cases b<;>cases c<;>cases d<;>first|exact absurd h (by show ¬(_<_);exact d8.mpr (eY rfl))|exact⟨_,by kernel_rfl,rfl,rfl⟩
theorem UK(o:O4)(led:Bool):SetTable.below (tbO o led).place (slO o (esO o).size)=(esO o).size:=by
 obtain⟨a,b,c,d⟩:=o;cases a<;>cases b<;>cases c<;>cases d<;>kernel_rfl
theorem ML{α:Type}(next:Nat->Nat):∀(f k:Nat)(left:List α)(out:Array α),left.length<=f->∃r:List α,r.Perm left/\(pickOrder.go next f k left out).toList=out.toList++r
 |0,k,left,out,h=>by
  have e:left=[]:=bT.mp (Nat.le_zero.mp h);subst e;exact⟨[],bP _,by rw[pickOrder.go,aY]⟩
 |f+1,k,left,out,h=>by
  rw[pickOrder.go];by_cases e:left=[]
  .subst e;exact⟨[],bP _,by rw[aY];rfl⟩
  .have pos:0<left.length:=List.length_pos_iff.mpr e;have lt:next k % left.length<left.length:=Nat.mod_lt _ pos;rw[ag lt];obtain⟨r,p,q⟩:=ML next f (k+1) (left.eraseIdx (next k % left.length)) (out.push left[next k % left.length]) (by rw[List.length_eraseIdx_of_lt lt];lia);have back:(left[next k % left.length]::left.eraseIdx (next k % left.length)).Perm left:=by
    rw[List.eraseIdx_eq_take_drop_succ];refine List.perm_middle.symm.trans ?_;rw[<-bM lt,eQ]
   refine⟨left[next k % left.length]::r,(List.Perm.cons _ p).trans back,?_⟩;show(pickOrder.go next f (k+1) (left.eraseIdx (next k % left.length)) (out.push left[next k % left.length])).toList=_;rw[q,Array.toList_push,aW];rfl
theorem GY(wo:World)(r:Addr)(ep:Nat)(o:O4):(Fo wo r ep o).toList.Perm (esO o).toList:=by
 unfold Fo;split
 .unfold pickOrder;obtain⟨l,p,q⟩:=ML (wo.params.setOrder r ep) (esO o).size 0 (esO o).toList #[] (by rw[aV];exact ah _);rw[q];exact p
 .exact bP _
theorem GX(wo:World)(r:Addr)(ep:Nat)(o:O4):(Fo wo r ep o).size=(esO o).size:=by
 have:=(GY wo r ep o).length_eq;rwa [aV,aV]at this
section
variable{pr:Program}{wo:World}{B:Around}{X0:VPz}{st:Shared}{r I:Addr}{ep:Nat}{o:O4}
theorem HX{Q:Bool->Shared->Prop}(h:Q (wo.params.followText "set-order") st):wpAny (model pr wo) B setsByText Q X0 st:=by
 unfold setsByText;exact wpAny_bind (wpAny_askSetting (wpAny_pure h))
theorem Jz{i:Nat}{e:Int×Value}{Q:Option (Value×Nat)->Shared->Prop}(hS:st.heap.get? r=some (BA o ep (Be wo)))(he:(Fo wo r ep o)[i]?=some e)
  (h:Q (some (e.2,slW wo o (i+1))) st):wpAny (model pr wo) B (setNext r (slW wo o i) i ep) Q X0 st:=by
 have hf:=Ob o (Be wo);unfold setNext;refine wpAny_bind (wpAny_setState_of (o:=BA o ep (Be wo)) (ep:=ep) hS rfl hf ?_);dsimp only;refine wpAny_bind (HX ?_);unfold Fo at he;unfold slW at h |-;cases ht:wo.params.followText "set-order" with
 |true =>
  rw[ht,if_pos rfl]at he h;rw[if_pos rfl,if_pos rfl,if_neg (by simp)];refine wpAny_bind ?_;unfold setWalk;refine wpAny_bind (wpAny_setState_of (o:=BA o ep (Be wo)) (ep:=ep) hS rfl hf ?_);dsimp only;refine wpAny_bind (HX ?_);rw[ht,if_pos rfl];refine wpAny_bind (wpAny_askSetting (wpAny_pure (wpAny_pure ?_)));show Q (((pickOrder (wo.params.setOrder r ep) (esO o))[i]?).map λ e=>(e.2,0)) st;rw[he];exact h
 |false =>
  rw[ht,if_neg ao]at he h;rw[if_neg ao,if_neg ao];refine wpAny_ite_split (λ z=>absurd (show false=true from z) ao) (λ_=>?_);have hl:Be wo=true:=by unfold Be;rw[ht];rfl
  rw[hl];refine wpAny_bind (wpAny_pure ?_);obtain⟨lt,_⟩:=cP.mp he;obtain⟨j,p1,p2,p3⟩:=Sd o true lt;refine wpAny_pure ?_;rw[p1,he,p2];rw[p3]at h;exact h
theorem Kq{Q:Option (Value×Nat)->Shared->Prop}(hS:st.heap.get? r=some (BA o ep (Be wo)))(h:Q none st):wpAny (model pr wo) B (setNext r (slW wo o (esO o).size) (esO o).size ep) Q X0 st:=by
 have hf:=Ob o (Be wo);have os:=GX wo r ep o;unfold setNext;refine wpAny_bind (wpAny_setState_of (o:=BA o ep (Be wo)) (ep:=ep) hS rfl hf ?_);dsimp only;refine wpAny_bind (HX ?_);unfold Fo at os;unfold slW;cases ht:wo.params.followText "set-order" with
 |true =>
  rw[ht,if_pos rfl]at os;rw[if_pos rfl,if_pos rfl,if_neg (by simp)];refine wpAny_bind ?_;unfold setWalk;refine wpAny_bind (wpAny_setState_of (o:=BA o ep (Be wo)) (ep:=ep) hS rfl hf ?_);dsimp only;refine wpAny_bind (HX ?_);rw[ht,if_pos rfl];refine wpAny_bind (wpAny_askSetting (wpAny_pure (wpAny_pure ?_)));show Q (((pickOrder (wo.params.setOrder r ep) (esO o))[(esO o).size]?).map λ e=>(e.2,0)) st;rw[bV (by lia)];exact h
 |false =>
  rw[if_neg ao,if_neg ao];refine wpAny_ite_split (λ z=>absurd (show false=true from z) ao) (λ_=>?_);have hl:Be wo=true:=by unfold Be;rw[ht];rfl
  rw[hl];refine wpAny_bind (wpAny_pure ?_);refine wpAny_pure ?_;rw[UK,bV (ah _)];exact h
theorem BY{i:Nat}(hI:st.heap.get? I=some (GN wo r ep o i)):st.TypeIs (.ref I) "set_iterator":=⟨_,hI,rfl⟩
theorem DC{Q:Array (Int×Value)->Shared->Prop}(hS:st.heap.get? r=some (BA o ep (Be wo)))(h:Q (esO o) st):wpAny (model pr wo) B (setEntries r) Q X0 st:=by
 unfold setEntries;exact wpAny_bind (wpAny_setState_of (o:=BA o ep (Be wo)) (ep:=ep) hS rfl (Ob o (Be wo)) (wpAny_pure h))
theorem LR{i:Nat}{e:Int×Value}{Q:Option Value->Shared->Prop}(hI:st.heap.get? I=some (GN wo r ep o i))(hne:r≠I)(hS:st.heap.get? r=some (BA o ep (Be wo)))(he:(Fo wo r ep o)[i]?=some e)
  (fin:∀h',h'.get? I=some (GN wo r ep o (i+1))->Heap.SameBut I st.heap h'->Q (some e.2) { st with heap:=h' }):wpAny (model pr wo) B (pyNext (.ref I)) Q X0 st:=by
 unfold pyNext;refine wpAny_bind (wpAny_attempt (wpAny_callSpecial?_slot (name:=Str.ofString "__next__") (BY hI) slot_sit_next (wpAny_call_entry slot_sit_next (BY hI) DB ?_ (DW _))));unfold Builtin.«set_iterator.__next__»;refine wpAny_bind (m:=slotArgs "__next__" 0 _) (wpAny_pure ?_);refine wpAny_bind (wpAny_fieldsOf hI rfl ?_);show wpAny _ _ (setEntries r >>= _) _ _ st;refine wpAny_bind (DC hS ?_);rw[if_neg (by simp)];show wpAny _ _ (setNext r (slW wo o i) i ep >>= _) _ _ st;refine wpAny_bind (Jz hS he ?_);show wpAny _ _ (setField (.ref I) 0 (rawInt (slW wo o (i+1):Nat)) >>= _) _ _ st;refine wpAny_bind (wpAny_setField hI rfl (Nat.zero_lt_succ _) ?_);have g1:(st.heap.update I (Obj.mapFields λ x=>x.setIfInBounds 0 (rawInt (slW wo o (i+1):Nat)))).get? I=some { cls:=.type "set_iterator",data:=.fields #[.int (slW wo o (i+1):Int) 0,.int (i:Int) 0,.ref r,.int ((esO o).size:Int) 0,.int (ep:Int) 0] }:=ce _ hI rfl;have sb1:=Heap.SameBut.update st.heap I (Obj.mapFields λ x=>x.setIfInBounds 0 (rawInt (slW wo o (i+1):Nat)));generalize st.heap.update I (Obj.mapFields λ x=>x.setIfInBounds 0 (rawInt (slW wo o (i+1):Nat)))=h1 at g1 sb1 |-;refine wpAny_bind (wpAny_setField (s:={ st with heap:=h1 }) g1 rfl (show(1:Nat)<5 by decide) ?_);have g2:(h1.update I (Obj.mapFields λ x=>x.setIfInBounds 1 (rawInt ((i:Int)+1)))).get? I=some (GN wo r ep o (i+1)):=ce _ g1 rfl;exact wpAny_pure ⟨_,rfl,wpAny_pure (fin _ g2 (sb1.trans (Heap.SameBut.update h1 I _)))⟩
theorem NG{Q:Option Value->Shared->Prop}(hh:B.handled=none)(hI:st.heap.get? I=some (GN wo r ep o (esO o).size))(hne:r≠I)(hS:st.heap.get? r=some (BA o ep (Be wo)))
  (fin:∀h',Heap.ExtBut I st.heap h'->Q none { st with heap:=h' }):wpAny (model pr wo) B (pyNext (.ref I)) Q X0 st:=by
 unfold pyNext;refine wpAny_bind (wpAny_attempt (wpAny_callSpecial?_slot (name:=Str.ofString "__next__") (BY hI) slot_sit_next (wpAny_call_entry slot_sit_next (BY hI) DB ?_ (DW _))));unfold Builtin.«set_iterator.__next__»;refine wpAny_bind (m:=slotArgs "__next__" 0 _) (wpAny_pure ?_);refine wpAny_bind (wpAny_fieldsOf hI rfl ?_);show wpAny _ _ (setEntries r >>= _) _ _ st;refine wpAny_bind (DC hS ?_);rw[if_neg (by simp)];show wpAny _ _ (setNext r (slW wo o (esO o).size) (esO o).size ep >>= _) _ _ st;refine wpAny_bind (Kq hS ?_);show wpAny _ _ (setField (.ref I) 2 .none >>= _) _ _ st;refine wpAny_bind (wpAny_setField hI rfl (show(2:Nat)<5 by decide) ?_);show wpAny _ _ (newExc (.type "StopIteration") [] >>= _) _ _ _;refine wpAny_bind ?_;simp only[newExc,newTuple];refine wpAny_bind (wpAny_newObj_type ?_ (by size_fits));refine wpAny_bind (m:=firstArgMember _ _) (wpAny_of_eq (a:=Value.none) (by first|rfl|(simp only[firstArgMember];rfl)) ?_);refine wpAny_newObj_type ?_ (by size_fits);simp only[raiseNew];refine wpAny_bind (wpAny_handled ?_);rw[show B.in1.handled=none from hh];refine wpAny_bind (wpAny_pure (wpAny_throw ?_));refine wpAny_bind (wpAny_isInstance (T:="StopIteration") (b:=true) ⟨_,au _ rfl,rfl⟩ isSubtype_stop ?_);exact wpAny_pure (fin _ (((Heap.SameBut.update ..).extBut.push _).push _))
theorem JU:entryFor table "set.__iter__"=some Builtin.«frozenset.__iter__»:=entryFor_alias (id':="frozenset.__iter__") (by kernel_rfl) rfl (by decide +kernel) (by kernel_rfl)
theorem SH{Q:VPz}(hS:st.heap.get? r=some (BA o ep (Be wo)))(h:Q (.ref st.heap.objs.size) { st with heap:=st.heap.push (GN wo r ep o 0) }):wpAny (model pr wo) B (pyIter (.ref r)) Q X0 st:=by
 have hT:st.TypeIs (.ref r) "set":=⟨_,hS,rfl⟩;refine wpAny_pyIter_slot hT ef (wpAny_call_entry ef hT JU ?_ (PySem.F.args_set_iter_1 _));unfold Builtin.«frozenset.__iter__» Builtin.Frozenset.slot0;refine wpAny_bind (wpAny_bind (m:=slotArgs "__iter__" 0 _) (wpAny_pure (wpAny_pure ?_)));unfold Builtin.Frozenset.sizeOf;refine wpAny_bind (wpAny_bind (DC hS (wpAny_pure ?_)));refine wpAny_bind ?_;unfold setDrawn;refine wpAny_bind (wpAny_setState_of (o:=BA o ep (Be wo)) (ep:=ep) hS rfl (Ob o (Be wo)) ?_);dsimp only;refine wpAny_bind (HX (wpAny_pure ?_));refine wpAny_ite_split (λ z=>absurd (show false=true from (Eq.mp (aE _ _) z).2) ao) (λ_=>?_);refine wpAny_bind (wpAny_pure (wpAny_bind (wpAny_setEpoch_of (o:=BA o ep (Be wo)) (ep:=ep) hS rfl (Ob o (Be wo)) ?_)));unfold newFields;refine wpAny_bind (wpAny_newObj_type (wpAny_pure ⟨_,rfl,"set_iterator",_,⟨_,au _ rfl,rfl⟩,slot_sit_next.lookup,?_⟩));have e0:slW wo o 0=0:=by unfold slW;split<;>rfl
 have eo:GN wo r ep o 0={ cls:=.type "set_iterator",data:=.fields #[.int 0 0,.int 0 0,.ref r,.int ((esO o).size:Int) 0,.int (ep:Int) 0] }:=by unfold GN;rw[e0];rfl
 rw[eo]at h;exact h
theorem DR:Slot "set_iterator" "__iter__" "set_iterator.__iter__" :=
 .of (owner:="set_iterator") (n:="__iter__") (by rw[typeLookup_type,builtinLookup_eq_fast];kernel_rfl) (by decide +kernel) (by decide +kernel) (by decide +kernel) (by first|exact .inl (by decide +kernel)|exact .inr (by decide +kernel)) (by rw[isSubtype_type];kernel_rfl)
theorem HK:entryFor table "set_iterator.__iter__"=some Builtin.«dict_keyiterator.__iter__»:=entryFor_alias (id':="dict_keyiterator.__iter__") (by kernel_rfl) rfl (by decide +kernel) (by kernel_rfl)
theorem I8(a:Value):argsOk "set_iterator.__iter__" ⟨[a],[]⟩:=by
 unfold argsOk;rw[signature?_of (id:="set_iterator.__iter__") (n:=['_','_','r','e','t','i','_','_']) (o:=['r','o','t','a','r','e','t','i','_','t','e','s']) (by kernel_rfl) IN]
 kernel_rfl
theorem Ti{i:Nat}{Q:VPz}(hI:st.heap.get? I=some (GN wo r ep o i))(h:Q (.ref I) st):wpAny (model pr wo) B (pyIter (.ref I)) Q X0 st:=by
 refine wpAny_pyIter_slot (BY hI) DR (wpAny_call_entry DR (BY hI) HK ?_ (I8 _));show wpAny _ _ (ret (.ref I)) _ _ st;exact wpAny_pure ⟨_,rfl,"set_iterator",_,BY hI,slot_sit_next.lookup,h⟩
theorem P2{Q:Bool->Shared->Prop}(hT:st.TypeIs (.ref r) "set")(h:Q false st):wpAny (model pr wo) B (Builtin.List.listLengthHint (.ref r)) Q X0 st:=by
 unfold Builtin.List.listLengthHint;refine wpAny_bind (wpAny_specialOf hT PySem.F.slot_set_len.lookup ?_);generalize hid:("set.__len__":String)=id0
 wp_delta
 rw[show splitId id0=some ("set","__len__") from by subst hid;decide +kernel];subst hid;refine wpAny_bind (wpAny_isInstance (T:="set") (b:=true) hT (by rw[isSubtype_type];kernel_rfl) ?_);refine wpAny_ite_split (λ z=>absurd z (by decide)) (λ_=>?_);refine wpAny_ite_split (λ_=>?_) (λ z=>absurd (by decide +kernel) z);exact wpAny_bind (wpAny_typeOf hT (wpAny_pure h))
theorem SS(hh:B.handled=none)(hne:r≠I):Walks pr wo B I [I,r] [I] (esO o).size (λ i v=>∃e,(Fo wo r ep o)[i]?=some e/\v=e.2) (λ i h=>h.get? I=some (GN wo r ep o i)/\h.get? r=some (BA o ep (Be wo))) where
 sub:=λ b hb=>by rw[ai.mp hb];exact aD
 frame:=λ_ _ _ a hk=>⟨hk I aD _ a.1,hk r (by simp) _ a.2⟩
 item:=λ i s Q E hi a hQ=>by
  have lt:i<(Fo wo r ep o).size:=by rw[GX];exact hi
  refine LR a.1 hne a.2 (bq lt) λ h' g sb=>?_;exact hQ _ h' s.toks ⟨_,bq lt,rfl⟩ ⟨g,(sb.2 r hne).trans a.2⟩ λ b ob nb e=>(sb.2 b (λ z=>nb (by rw[z];exact ai.mpr rfl))).trans e
 done:=λ s Q E a hQ=>NG hh a.1 hne a.2 λ h' eb=>hQ h' s.toks λ b ob nb e=>eb b ob (λ z=>nb (by rw[z];exact ai.mpr rfl)) e
 self:=λ_ _ _ _ a hQ=>Ti a.1 hQ
theorem U3:KdlSrc pr wo "set" r r (esO o).size (λ i v=>∃e,(Fo wo r ep o)[i]?=some e/\v=e.2) (λ h=>h.get? r=some (BA o ep (Be wo))) where
 type:=λ s h=>⟨_,h,rfl⟩
 there:=λ h e=>⟨aq e,aq e⟩
 keep:=λ h h' e k=>k r (.inl rfl) _ e
 notList:=by decide
 notTuple:=by decide
 hint:=λ A E s Q e h=>P2 ⟨_,e,rfl⟩ h
 iter:=λ A s hh e=>⟨GN wo r ep o 0,_,λ E Q h=>SH e h,SS hh (aB (aq e)),au _ rfl,ae _ e⟩
end
def L1(o:O4):List Int:=(lsO o).map λ p=>(p.1:Int)
theorem Qn(o:O4):(L1 o).Pairwise (·<=·):=by
 obtain⟨a,b,c,d⟩:=o;cases a<;>cases b<;>cases c<;>cases d<;>simp[L1,lsO,elO]
theorem NT{l:List (Nat×Tok)}{es:List (Int×Value)}(h:∀e∈es,∃p,e=eO p):IntsAre (es.map (·.2)) (es.map (·.1)):=by
 induction es with
 |nil=>exact .nil
 |cons e r ih =>
  obtain⟨p,rfl⟩:=h e aD;exact .cons _ _ (ih λ x hx=>h x (aI _ hx))
section
variable{pr:Program}{wo:World}{B:Around}{X0:VPz}{st:Shared}{r:Addr}{ep:Nat}{o:O4}
theorem Q0{Q:VPz}(hh:B.handled=none)(hS:st.heap.get? r=some (BA o ep (Be wo)))
  (h:∀(h':Heap)(tk:Nat)(D:Addr)(vs:LWz)(e:Nat),(∀b ob,st.heap.get? b=some ob->h'.get? b=some ob)->r<D->h'.get? D=some (seqObj "list" vs.toArray e)->IntsAre vs (L1 o)->Q (.ref D) { st with heap:=h',toks:=tk }) :
  wpAny (model pr wo) B (call (.builtin "sorted") [.ref r]) Q X0 st:=by
 refine Calls.call_function_entry kind_sorted plain_sorted entry_sorted (args_sorted1 _) ?_;unfold Builtin.«sorted»;refine wpAny_bind (m:=checkCount "sorted" 1 1 _) (wpAny_pure (wpAny_bind ?_));have sz:=Q2 o;refine kdu_collect (A:=B.in1) (U3 (pr:=pr) (o:=o) (ep:=ep)) hh hS (aM (Al (by lia))) λ h1 tk acc k1 hacc=>?_;have ea:acc.toList=(Fo wo r ep o).toList.map (·.2):=by
  refine cB λ j=>?_;rw[ay,b9,b9];cases hj:acc[j]? with
  |some v =>
   obtain⟨e,he,rfl⟩:=hacc.2 j v hj;rw[he];rfl
  |none =>
   have:acc.size<=j:=Array.getElem?_eq_none_iff.mp hj;have e2:(Fo wo r ep o).size<=j:=by rw[GX,<-hacc.1];exact this
   rw[bV e2];rfl
 have hI:IntsAre acc.toList ((Fo wo r ep o).toList.map (·.1)):=by
  rw[ea];refine NT (l:=[]) λ e he=>?_;have:e∈(lsO o).map eO:=(GY wo r ep o).mem_iff.mp he;obtain⟨p,_,rfl⟩:=az.mp this;exact⟨p,rfl⟩
 have al:acc.toList.length<=4:=by rw[aV,hacc.1];exact sz
 refine wpAny_bind (wpAny_newList ?_ (aM (Al (by lia))));have hoL:(h1.push (seqObj "list" acc.toList.toArray 0)).get? h1.objs.size=some (seqObj "list" acc.toList.toArray 0):=au _ rfl;refine wpAny_bind (wpAny_holding (wpAny_call_entry slot_list_sort ⟨_,hoL,rfl⟩ entry_list_sort (list_sort_tree hoL hI (by lia) λ out ns' a1 a2 a3=>⟨_,rfl,?_⟩) (args_list_sort _)));obtain⟨e,he⟩:=sortedHeap_at (out:=out) hoL;have en:ns'=L1 o:=by
  have p1:ns'.Perm (L1 o):=by
   refine a2.trans (((GY wo r ep o).map _).trans ?_);show(((lsO o).map eO).map (·.1)).Perm (L1 o);rw[aJ];exact bP _
  exact List.Perm.eq_of_pairwise (λ a b _ _ x y=>Int.le_antisymm x y) a3 (Qn o) p1
 rw[en]at a1;refine wpAny_pure ⟨_,rfl,h _ tk h1.objs.size out.toList e (λ b ob z=>?_) ?_ he a1⟩
 .have z1:=k1 b ob z;have lt:=aq z1;rw[sortedHeap_old (aB lt) (by rw[size_push'];exact bc lt)];exact ae _ z1
 .exact aq (k1 _ _ hS)
end
def Co(ns:List Nat):List Nat:=[1,2,3,4].filter λ k=>ns.contains k
theorem Np{o:O4}{ns:List Nat}(h:∀x,Cr o x=true↔x∈ns):L1 o=(Co ns).map λ k:Nat=>(k:Int):=by
 have e:∀k,ns.contains k=Cr o k:=λ k=>by
  cases hc:Cr o k with
  |true=>exact eU.mpr ((h k).mp hc)
  |false =>
   cases hd:ns.contains k with
   |false=>rfl
   |true=>rw[(h k).mpr (eU.mp hd)]at hc;cases hc
 unfold Co;rw[show(λ k=>ns.contains k)=Cr o from funext e];obtain⟨a,b,c,d⟩:=o;cases a<;>cases b<;>cases c<;>cases d<;>rfl
section
variable{X:Cx}{e:Expr}{te:TE}{p1 p2 q1 q2:Pos}
def tSS(K:Frag)(te:TE):TE:=λ σ H Q=>te σ H λ x H1=>∃(a:Addr)(ns:List Nat),x=.ref a/\SqL K H1 a (ns.map λ k:Nat=>V.int (k:Int))/\(∀k∈ns,1<=k/\k<=4)/\∀l,H1 l=none->Q (.ref l) (upd H1 l (.lst ((Co ns).map λ k:Nat=>V.int (k:Int))))
theorem OI(ns:List Nat):(Co ns).length<=4:=br _ [1,2,3,4]
theorem M8(hc:X.calm=true)(hgo:Gl X "sorted")(hmo:X.mg "sorted"=none)(hgi:Gl X "set")(hmi:X.mg "set"=none)(he:PE X e te)
  (se:starEach [e] X.env=[(false,eval e X.env)]:=by rfl)
  (so:starEach [Expr.Call (.Name "set" p2) [e] [] q2] X.env=[(false,eval (Expr.Call (.Name "set" p2) [e] [] q2) X.env)]:=by rfl) :
  PE X (.Call (.Name "sorted" p1) [.Call (.Name "set" p2) [e] [] q2] [] q1) (tSS X.K te):=by
 intro pins s σ H Q I h;refine wpAny_Call_Name_kw (Cm (u:=.builtin "sorted") I hgo hmo rfl ?_);refine PyProof.Rows.callWith_builtin1 (rest:=[]) ?_ so rfl;rw[so];refine Calls.spliced_cons (wpAny_Call_Name_kw (Cm (u:=.type "set") I hgi hmi rfl ?_));refine PyProof.Rows.callWith_type1 (rest:=[]) ?_ se rfl;rw[se];refine Calls.spliced_cons (thn (he pins s σ H _ I h) λ u s1 z=>Calls.spliced_nil ?_);obtain⟨x,H1,I1,r1,a,ns,rfl,hS,hb,q⟩:=z;cases r1;obtain⟨its,rv,pl,hz⟩:=I1.list hS;have hl:=rv.length;rw[aa]at hl;have hd:=I1.ok.hd hc;refine TX (ns:=ns) hd pl.isList (λ i v hv=>?_) (by rw[ak];exact hl.symm) hb λ h' tk o ep g hx k=>?_
 .rw[eS]at hv;obtain⟨hi,_⟩:=aG.mp hv;have hi':i<ns.length:=by lia
  obtain⟨u,hu,ru⟩:=rv.get (i:=i) (x:=.int (ns[i]:Nat)) (by rw[ay,ag hi'];rfl);rw[hv]at hu;obtain⟨t,rfl⟩:=ru;refine⟨t,?_⟩;rw[aS,ag hi'];exact Option.some.inj hu
 .refine Calls.spliced_nil (Q0 (st:={ s1 with heap:=h',toks:=tk }) hd g λ h2 tk2 D vs e k2 lt gD hI=>?_);have k3:∀b ob,s1.heap.get? b=some ob->h2.get? b=some ob:=λ b ob z=>k2 b ob (k b ob (aq z) z);have le:s1.heap.objs.size<=D:=aM lt;rw[Np hx]at hI;have rl:=OI ns;refine⟨.ref D,_,I1.laid (o:=.lst ((Co ns).map λ k:Nat=>V.int (k:Int))) (t':=tk2) k3 le ⟨?_,vs,e,?_,?_⟩,rfl,q D (I1.hok.fresh le)⟩
  .rw[aa];exact aM (Al (by lia))
  .have:=Fc hI;rw[aJ]at this;exact this
  .exact gD
end
def RR(ks:List Int):TA:=λ_ H Q=>Q (ks.map V.int) H
def TupsAt:List Addr->List (List Int)->Hp->Prop
 |[],[],_=>True
 |t::ts,k::ks,H=>H t=some (.tup (k.map V.int))/\TupsAt ts ks H
 |_,_,_=>False
def Rs(kss:List (List Int)):TA:=λ_ H Q=>∀(ts:List Addr)(H':Hp),Same H H'->TupsAt ts kss H'->Q (ts.map V.ref) H'
theorem TupsAt.get:∀{ts:List Addr}{kss:List (List Int)}{H:Hp}{i:Nat}{k:List Int},TupsAt ts kss H->kss[i]?=some k->∃t,ts[i]?=some t/\H t=some (.tup (k.map V.int))
 |[],[],_,i,k,_,h=>by simp at h
 |t::ts,k0::ks,H,0,k,a,h=>by cases h;exact⟨t,rfl,a.1⟩
 |t::ts,k0::ks,H,i+1,k,a,h=>by
  have h':ks[i]?=some k:=h;obtain⟨u,hu,hh⟩:=TupsAt.get a.2 h';exact⟨u,hu,hh⟩
 |[],_::_,_,_,_,a,_=>a.elim
 |_::_,[],_,_,_,a,_=>a.elim
theorem TupsAt.len:∀{ts:List Addr}{kss:List (List Int)}{H:Hp},TupsAt ts kss H->ts.length=kss.length
 |[],[],_,_=>rfl
 |t::ts,k0::ks,H,a=>by rw[aN,aN,TupsAt.len a.2]
 |[],_::_,_,a=>a.elim
 |_::_,[],_,a=>a.elim
theorem TupsAt.same:∀{ts:List Addr}{kss:List (List Int)}{H H':Hp},TupsAt ts kss H->Same H H'->TupsAt ts kss H'
 |[],[],_,_,_,_=>trivial
 |t::ts,k0::ks,H,H',a,s=>⟨s _ _ a.1,TupsAt.same a.2 s⟩
 |[],_::_,_,_,a,_=>a.elim
 |_::_,[],_,_,a,_=>a.elim
section
variable{X:Cx}
def BO:List Expr->Option (List Int)
 |[]=>some []
 |.Constant (.int i) _ _::es=>(BO es).map (i::·)
 |_=>none
def IC:List Expr->Option (List (List Int))
 |[]=>some []
 |.Tuple es _ _::r=>(BO es).bind λ k=>(IC r).map (k::·)
 |_=>none
theorem K5:∀{es:List Expr}{ks:List Int},BO es=some ks->PA X es (RR ks)
 |[],ks,h=>by
  cases h;exact Ac
 |.Constant (.int i) k p::es,ks,h=>by
  rw[BO]at h;obtain⟨r,hr,rfl⟩:=aZ.mp h;exact Aa Ae (K5 hr)
theorem K4:∀{es:List Expr}{kss:List (List Int)},IC es=some kss->(∀k∈kss,k.length<=16)->PA X es (Rs kss)
 |[],kss,h,_=>by
  cases h;intro pos pins s σ H Q I q;exact Ac (X:=X) pos pins s σ H Q I (q [] H (λ_ _ e=>e) trivial)
 |.Tuple es x p::r,kss,h,hk=>by
  rw[IC]at h;obtain⟨k,hk1,h⟩:=bS.mp h;obtain⟨ks,hks,rfl⟩:=aZ.mp h;intro pos pins s σ H Q I q;refine Aa (AB (K5 hk1)) (K4 hks λ k hm=>hk k (aI _ hm)) rfl pos pins s σ H Q I ?_;refine⟨by rw[aa];exact aR (hk k aD) (by decide),λ t ht ts H' sm ta=>?_⟩;exact q (t::ts) H' ((Same.new ht).trans sm) ⟨sm _ _ Ad,ta⟩
theorem QC{es:List Expr}{kss:List (List Int)}{pos:Pos}(h:IC es=some kss)(hk:∀k∈kss,k.length<=16):PE X (.List es pos) (SZ (Rs kss)):=AY (K4 h hk)
end
section
variable{prog:Program}{w:World}{A:Around}{E:VPz}{s:Shared}{it d v:Addr}{i ep:Nat}{od:Obj}{es:Array DictEntry}
theorem No{Q:VPz}(hs:(d==sysModules)=false)(hT:s.TypeIs (.ref d) "dict")
  (fin:Q (.ref s.heap.objs.size) { s with heap:=s.heap.push { cls:=.type "dict_values",data:=.fields #[.ref d] } }):wpAny (model prog w) A (call (.builtin "dict.values") [.ref d]) Q E s:=by
 refine wpAny_call_entry cm hT PySem.F.entry_dict_values ?_ (PySem.F.args_dict_values_1 _);refine wpAny_bind ?_;unfold Builtin.Dict.noArgs;refine wpAny_bind (wpAny_notOrdered_dict hT ?_);show wpAny (model prog w) _ (pure d) _ _ s;refine wpAny_pure ?_;show wpAny (model prog w) _ (Builtin.Dict.showsAll d >>= _) _ _ s;unfold Builtin.Dict.showsAll;have no:¬(d==sysModules)=true:=by rw[hs];exact ao
 rw[if_neg no];exact wpAny_bind (wpAny_pure (wpAny_bind (wpAny_newObj_type (wpAny_pure ⟨_,rfl,fin⟩))))
theorem L0{Q:VPz}(hv:s.heap.IsValuesView v d)(hd:s.heap.get? d=some od)(dd:od.data=.dict es ep)
  (fin:Q (.ref s.heap.objs.size) { s with heap:=s.heap.push { cls:=.type "dict_valueiterator",data:=.fields #[.ref d,.int 0 0,.int es.size 0,.int ep 0] } }):wpAny (model prog w) A (pyIter (.ref v)) Q E s:=by
 obtain⟨ov,g1,g2,g3⟩:=id hv;refine wpAny_pyIter_slot hv.typeIs dF (wpAny_call_entry dF hv.typeIs PySem.F.entry_dict_values_iter ?_ (PySem.F.args_dict_values_iter_1 _));unfold Builtin.«dict_values.__iter__» Builtin.Dict_items.dictOf Builtin.Dict_items.newIterator;refine wpAny_bind (wpAny_pure (wpAny_bind (wpAny_bind (wpAny_field g1 g3 (x:=.ref d) rfl (wpAny_pure ?_)))));refine wpAny_bind (wpAny_bind (wpAny_dictEntries hd dd (wpAny_bind (wpAny_dictEpoch hd dd ?_))));have own:Builtin.Dict_items.ownsTuple "dict_valueiterator"=false:=by decide
 simp only[own,aL,if_false];refine wpAny_newObj_type (wpAny_pure ⟨_,rfl,"dict_valueiterator",_,⟨_,au _ rfl,rfl⟩,bp.lookup,?_⟩)
 simpa [rawInt] using fin
theorem Pk{e:DictEntry}{Q:Option Value->Shared->Prop}(hit:s.heap.IsValIter it d i es.size ep)(hod:s.heap.get? d=some od)(hdd:od.data=.dict es ep)(he:es[i]?=some e)
  (fin:∀h',h'.IsValIter it d (i+1) es.size ep->Heap.SameBut it s.heap h'->Q (some e.val) { s with heap:=h' }):wpAny (model prog w) A (pyNext (.ref it)) Q E s:=by
 obtain⟨o,ho,hc,hd⟩:=id hit;obtain⟨lt,rfl⟩:=cP.mp he;unfold pyNext;refine wpAny_bind (wpAny_attempt (wpAny_callSpecial?_slot (name:=Str.ofString "__next__") hit.typeIs bp
  (wpAny_call_entry bp hit.typeIs dh ?_ (db _))))
 refine wpAny_bind (wpAny_pure (wpAny_bind (wpAny_bind ?_)))
 first|refine wpAny_bind (wpAny_typeNameOfWhole_valiter hit.typeIs (wpAny_pure ?_))|refine wpAny_bind (wpAny_typeNameOf_valiter hit.typeIs (wpAny_pure ?_))
 refine wpAny_bind (wpAny_fieldsOf ho hd ?_);have own:Builtin.Dict_items.ownsTuple "dict_valueiterator"=false:=by decide
 simp only[own,aL,if_false];show wpAny _ _ (if (Value.ref d==Value.none)=true then _ else _) _ _ s;rw[if_neg (show ¬((Value.ref d==Value.none)=true) from ao)];refine wpAny_bind (wpAny_pure (wpAny_bind (wpAny_dictEntries hod hdd ?_)));rw[if_neg (by simp)];refine wpAny_bind (wpAny_pure (wpAny_bind (wpAny_dictEpoch hod hdd ?_)));rw[if_neg (by simp)];refine wpAny_pure ?_;simp only[show ¬((i:Int)<0) from by lia,if_false,bQ,bq lt];refine wpAny_bind ?_
 first|refine wpAny_bind (wpAny_typeNameOfWhole_valiter hit.typeIs (wpAny_pure ?_))|refine wpAny_bind (wpAny_typeNameOf_valiter hit.typeIs (wpAny_pure ?_))
 refine wpAny_bind (wpAny_isOneOf_valiter hit.typeIs ?_);show wpAny _ _ (setField (.ref it) 1 (rawInt ((i:Int)+1)) >>= _) _ _ s;refine wpAny_bind (wpAny_setField ho hd (by simp) ?_);have hit':(s.heap.update it (Obj.mapFields (·.setIfInBounds 1 (rawInt ((i:Int)+1))))).IsValIter it d (i+1) es.size ep :=
  ⟨_,ce _ ho (Obj.isFreed_of_fields (Obj.data_mapFields hd _)),(Obj.cls_mapFields ..).trans hc,by rw[Obj.data_mapFields hd];simp[rawInt]⟩
 refine wpAny_bind (wpAny_holding ?_);refine wpAny_bind (wpAny_isOneOf_valiter (s:={ s with heap:=s.heap.update it (Obj.mapFields (·.setIfInBounds 1 (rawInt ((i:Int)+1)))) }) hit'.typeIs ?_);refine wpAny_bind (wpAny_isOneOf_valiter (s:={ s with heap:=s.heap.update it (Obj.mapFields (·.setIfInBounds 1 (rawInt ((i:Int)+1)))) }) hit'.typeIs ?_);show wpAny _ _ (pure es[i].val) _ _ _;exact wpAny_pure (wpAny_pure ⟨_,rfl,wpAny_pure (fin _ hit' (Heap.SameBut.update ..))⟩)
theorem Iu{Q:Option Value->Shared->Prop}(hh:A.handled=none)(hit:s.heap.IsValIter it d i es.size ep)(hod:s.heap.get? d=some od)(hdd:od.data=.dict es ep)(he:es.size<=i)
  (fin:∀h',Heap.ExtBut it s.heap h'->Q none { s with heap:=h' }):wpAny (model prog w) A (pyNext (.ref it)) Q E s:=by
 obtain⟨o,ho,hc,hd⟩:=id hit;unfold pyNext;refine wpAny_bind (wpAny_attempt (wpAny_callSpecial?_slot (name:=Str.ofString "__next__") hit.typeIs bp
  (wpAny_call_entry bp hit.typeIs dh ?_ (db _))))
 refine wpAny_bind (wpAny_pure (wpAny_bind (wpAny_bind ?_)))
 first|refine wpAny_bind (wpAny_typeNameOfWhole_valiter hit.typeIs (wpAny_pure ?_))|refine wpAny_bind (wpAny_typeNameOf_valiter hit.typeIs (wpAny_pure ?_))
 refine wpAny_bind (wpAny_fieldsOf ho hd ?_);have own:Builtin.Dict_items.ownsTuple "dict_valueiterator"=false:=by decide
 simp only[own,aL,if_false];show wpAny _ _ (if (Value.ref d==Value.none)=true then _ else _) _ _ s;rw[if_neg (show ¬((Value.ref d==Value.none)=true) from ao)];refine wpAny_bind (wpAny_pure (wpAny_bind (wpAny_dictEntries hod hdd ?_)));rw[if_neg (by simp)];refine wpAny_bind (wpAny_pure (wpAny_bind (wpAny_dictEpoch hod hdd ?_)));rw[if_neg (by simp)];refine wpAny_pure ?_;simp only[show ¬((i:Int)<0) from by lia,if_false,bQ,bV he];refine wpAny_bind ?_
 first|refine wpAny_bind (wpAny_typeNameOfWhole_valiter hit.typeIs (wpAny_pure ?_))|refine wpAny_bind (wpAny_typeNameOf_valiter hit.typeIs (wpAny_pure ?_))
 show wpAny _ _ (setField (.ref it) 0 .none >>= _) _ _ s;refine wpAny_bind (wpAny_setField ho hd (by simp) ?_);show wpAny _ _ (newExc (.type "StopIteration") [] >>= _) _ _ _;refine wpAny_bind ?_;simp only[newExc,newTuple];refine wpAny_bind (wpAny_newObj_type ?_ (by size_fits));refine wpAny_bind (m:=firstArgMember _ _) (wpAny_of_eq (a:=Value.none) (by first|rfl|(simp only[firstArgMember];rfl)) ?_);refine wpAny_newObj_type ?_ (by size_fits);simp only[raiseNew];refine wpAny_bind (wpAny_handled ?_);rw[show A.in1.handled=none from hh];refine wpAny_bind (wpAny_pure (wpAny_throw ?_));refine wpAny_bind (wpAny_isInstance (T:="StopIteration") (b:=true) ⟨_,au _ rfl,rfl⟩ isSubtype_stop ?_);exact wpAny_pure (fin _ (((Heap.SameBut.update ..).extBut.push _).push _))
theorem Lz(hh:A.handled=none)(I:Addr)(hne:d≠I):Walks prog w A I [I,d] [I] es.size (λ i v=>∃e,es[i]?=some e/\v=e.val) (λ i h=>h.IsValIter I d i es.size ep/\∃od,h.get? d=some od/\od.data=.dict es ep) where
 sub:=λ b hb=>by simp at hb;simp[hb]
 frame:=λ_ _ _ st hk=>⟨st.1.at λ o e=>hk I (by simp) o e,let ⟨od,e,dd⟩:=st.2;⟨od,hk d (by simp) _ e,dd⟩⟩
 item:=λ i s Q E hi st hQ=>by
  obtain⟨od,e,dd⟩:=st.2;refine Pk st.1 e dd (bq hi) λ h' st' sb=>?_;exact hQ _ h' s.toks ⟨_,bq hi,rfl⟩ ⟨st',od,sb.extBut d _ hne e,dd⟩ λ b o hb q=>sb.extBut b o (λ z=>hb (by simp[z])) q
 done:=λ s Q E st hQ=>by
  obtain⟨od,e,dd⟩:=st.2;exact Iu hh st.1 e dd (ah _) λ h' eb=>hQ h' s.toks λ b o hb q=>eb b o (λ z=>hb (by simp[z])) q
 self:=λ_ _ _ _ st hQ=>wpAny_pyIter_valiter st.1 hQ
end
def MZ(v d:Addr):HO:=.ext λ h=>h.IsValuesView v d
def RO(H₀:Hp)(te:TE):TE:=λ σ H Q=>te σ H λ v H'=>∃(a:Addr)(u:HO),(H' a=some u\/∃ob:Obj,H' a=some (.frz ob u)/\∀o w,H₀ a≠some (.frz o w))/\Q v (upd H' a u)
theorem RH{H:Hp}{a:Addr}{u:HO}(h:H a=some u):upd H a u=H:=by
 funext b
 unfold upd;split
 .rename_i e;rw[e,h]
 .rfl
theorem K0{X:Cx}{e:Expr}{te:TE}(h:PE X e te):PE X e (RO X.H₀ te):=by
 intro pins s σ H Q I q;refine thn (h pins s σ H _ I q) λ u s1 ⟨x,H1,I1,rx,a,w,z,q1⟩=>?_;rcases z with ea|⟨ob,ea,n⟩
 .rw[RH ea]at q1;exact⟨x,_,I1,rx,q1⟩
 .exact⟨x,_,I1.thaw ea n,rx,q1⟩
theorem Lm{a:Addr}{ob:Obj}{kvs:List (Key×V)}{g:TG}{tc:TT}{te:TE}{σ:St}{H1:Hp}{acc:Addr}{Qr:Hp->Prop}(Pv:Nat->LUz->St->Hp->Prop)(h0:Pv 0 [] σ (upd H1 acc (.lst [])))
  (hq:∀i xs σ H,i<=kvs.length->H acc=some (.lst xs)->Pv i xs σ H->H a=some (.frz ob (.dK kvs)))
  (hs:∀i p t xs σ H,kvs[i]?=some p->i<kvs.length->xs.length<=i->H acc=some (.lst xs)->Pv i xs σ H->H t=none->g (.ref t) σ (upd H t (.tup [kV p.1,p.2])) λ σ2 H2=>tc σ2 H2 λ b Hb=>match b with
   |true=>te σ2 Hb λ v H3=>fNx acc kvs.length Pv i σ2 v H3
   |false=>fSk acc kvs.length Pv i σ2 Hb)
  (hd:∀xs σ H,xs.length<=kvs.length->H acc=some (.lst xs)->Pv kvs.length xs σ H->Qr H) :
  ∃W:Nat->Nat->St->Hp->Prop,(∃m,W 0 m σ (upd H1 acc (.lst [])))/\∀i m σ1 H2,W i m σ1 H2 ->
   ((Itm a ob).stop i H2/\Qr H2)\/((Itm a ob).go i H2/\∀x H3,(Itm a ob).yld i H2 x H3->g x σ1 H3 λ σ4 H4=>tc σ4 H4 λ b Hb=>match b with
    |true=>te σ4 Hb λ v H5=>∃xs,H5 acc=some (.lst xs)/\xs.length<sizeLine/\∃m',m'<m/\W (i+1) m' σ4 (upd H5 acc (.lst (xs++[v])))
    |false=>∃m',m'<m/\W (i+1) m' σ4 Hb):=by
 refine⟨fW acc kvs.length Pv,⟨kvs.length,aQ _,rfl,[],ah _,Ad,h0⟩,?_⟩;rintro i m σ1 H2 ⟨hi,rfl,xs,hl,ha,hp⟩;have hsq:=hq i xs σ1 H2 hi ha hp;rcases cO i kvs.length with h|h
 .refine .inr ⟨⟨kvs,kvs[i],hsq,ag h⟩,?_⟩;rintro x H3 ⟨t,z,hz,rfl,ht,rfl⟩;exact hs i z t xs σ1 _ (hz kvs hsq) h hl ha hp ht
 .have e:i=kvs.length:=b8 hi h;subst e;exact .inl ⟨⟨kvs,hsq,ah _⟩,hd xs σ1 H2 hl ha hp⟩
theorem IM{P:Program}{w:World}:∀{es:List DictEntry}{vs:List (Key×Value)},Pairs (Ay P w) es vs->∀{kvs:List (Key×V)}{ns:List Int},KV kvs vs->kvs.map (·.2)=ns.map V.int->∀i e,es[i]?=some e->∃t,e.val=Value.int (ns.getD i 0) t
 |_,_,.nil,_,_,_,_,i,e,h=>by cases h
 |_,_,.cons (e:=e0) (kv:=kv) h1 h2 t,kvs,ns,hk,hn,i,e,h=>by
  cases hk with
  |cons hr hk =>
   cases ns with
   |nil=>cases hn
   |cons z ns =>
    have hn1:=List.cons.inj hn;cases i with
    |zero =>
     cases h;obtain⟨_,r⟩:=hr;dsimp only at hn1;rw[hn1.1]at r;obtain⟨t,r⟩:=r;exact⟨t,by rw[h2,r];rfl⟩
    |succ i=>exact IM t hk hn1.2 i e h
section
variable{X:Cx}
theorem P6:Uh X (λ o i H Q=>∃p xs v,o=.ref p/\i=.int (-1)/\SqL X.K H p xs/\xs.getLast?=some v/\Q v H):=by
 intro pins s σ H o i ov iv Q I ro ri h;obtain⟨p,xs,z,rfl,rfl,hq,he,q⟩:=h;cases ro;obtain⟨t,rfl⟩:=ri;obtain⟨its,r,pl,hz⟩:=I.list hq;have hl:=r.length;have hn:=Fy;have pos:0<xs.length:=by
  cases xs with
  |nil=>cases he
  |cons x xs=>exact Nat.succ_pos _
 rw[List.getLast?_eq_getElem?]at he;obtain⟨w,ew,rw'⟩:=r.get he;refine wpAny_getItem_list_neg pl.isList (by decide) (by rw[ak];lia) (by decide) ?_ ⟨z,H,I,rw',q⟩;have hj:((-1:Int)+(its.toArray.size:Int)).toNat=xs.length-1:=by rw[ak];lia
 rw[hj]
 simpa using ew
theorem Ep:MtM X "dict.values" (λ x vs H Q=>∃d kvs,x=.ref d/\vs=[]/\H d=some (.dK kvs)/\∀v,H v=none->Q (.ref v) (upd H v (MZ v d))):=by
 intro pins s σ H x xs v us Q I rx rv h;obtain⟨d,kvs,rfl,rfl,ed,q⟩:=h;cases rx;cases rv;obtain⟨z,hsys,ys,rel,o,es,ep,h1,h2,h3,h4,h5,h6⟩:=(show ObjOk X.prog X.w H s.heap d (.dK kvs) from I.hok d _ ed);refine No hsys ⟨o,h1,h2.1⟩ ?_;have hn:H s.heap.objs.size=none:=I.hok.fresh (ah _);have I2:=I.laid (a:=s.heap.objs.size) (o:=MZ s.heap.objs.size d) (t':=s.toks) (h':=s.heap.push { cls:=.type "dict_values",data:=.fields #[.ref d] }) (λ b u e=>ae _ e) (ah _)
  ⟨⟨_,au _ rfl,rfl,rfl⟩,⟨_,au _ rfl⟩,λ h1 h2 ⟨o,e,c⟩ k=>⟨o,k o e,c⟩⟩
 exact⟨.ref s.heap.objs.size,_,I2,rfl,q _ hn⟩
theorem F8:BP X (.builtin "sum") (λ xs H Q=>∃(v d:Addr)(kvs:List (Key×V))(ns:List Int),xs=[.ref v]/\H v=some (MZ v d)/\H d=some (.dK kvs)/\kvs.map (·.2)=ns.map V.int/\X.calm=true/\Q (.int ns.sum) H):=by
 intro pins s σ H xs us Q I r h;obtain⟨v,d,kvs,ns,rfl,ev,ed,en,hc,q⟩:=h;obtain⟨u,rfl,ru⟩:=Dl r;cases ru;obtain⟨hv,_,_⟩:=(show ObjOk X.prog X.w H s.heap v (MZ v d) from I.hok v _ ev);obtain⟨z,hsys,ys,rel,o,es,ep,h1,h2,h3,h4,h5,h6⟩:=(show ObjOk X.prog X.w H s.heap d (.dK kvs) from I.hok d _ ed);have hl:es.size=kvs.length:=by rw[<-aV,h5.length];exact(Paired.length rel).symm
 have hns:ns.length=kvs.length:=by
  have:=congrArg List.length en
  simpa using this.symm
 have lt:d<s.heap.objs.size:=aq h1;refine call_sum_walkG (L0 hv h1 h3 ?_);refine⟨_,[s.heap.objs.size,d],[s.heap.objs.size],es.size,_,_,λ i=>ns.getD i 0,rfl,Lz (A:=X.A.in1) (es:=es) (ep:=ep) (d:=d) (I.ok.hd hc) s.heap.objs.size (aB lt),⟨⟨_,au _ rfl,rfl,rfl⟩,o,ae _ h1,h3⟩,λ b hb=>?_,λ i u ⟨e,he,hu⟩=>?_,λ h' tk t' hk=>?_⟩
 .show b<(s.heap.push _).objs.size;rw[bt];simp only[aP,bx,or_false]at hb;rcases hb with rfl|rfl
  .exact bg _
  .exact bc lt
 .rw[hu];exact IM h5 rel en i e (by rw[b9];exact he)
 .have es':preSum (λ i=>ns.getD i 0) es.size=ns.sum:=by
   have:∀n,n<=ns.length->preSum (λ i=>ns.getD i 0) n=(ns.take n).sum:=λ n=>by
    induction n with
    |zero=>intro _;rfl
    |succ n ih =>
     intro hn;have hg:ns[n]?=some (ns.getD n 0):=by rw[ag (by lia),aS,ag (by lia)];rfl
     rw[aK,hg,cI];show preSum (λ i=>ns.getD i 0) n+ns.getD n 0=_;rw[ih (by lia)];simp
   rw[hl,<-hns,this _ (ah _),aH]
  rw[es'];refine⟨.int _,H,I.kept (t':=tk) (λ b o' e=>?_),⟨t',rfl⟩,q⟩;exact hk b o' (λ hm=>by rw[ai.mp hm]at e;exact absurd (aq e) (bE _)) (ae _ e)
end
theorem FH{ns:List Int}:∀n,n<=ns.length->preSum (λ i=>ns.getD i 0) n=(ns.take n).sum
 |0,_=>rfl
 |n+1,hn=>by
  have hg:ns[n]?=some (ns.getD n 0):=by rw[ag (by lia),aS,ag (by lia)];rfl
  rw[aK,hg,cI];show preSum (λ i=>ns.getD i 0) n+ns.getD n 0=_;rw[FH n (by lia)];simp
theorem Nn{prog:Program}{w:World}{A:Around}(hh:A.handled=none)(I t:Addr)(hne:t≠I)(items:Array Value):Walks prog w A I [I,t] [I] items.size (λ i v=>items[i]?=some v) (λ i h=>IsTupIter h I t i/\IsTup h t items) where
 sub:=λ b hb=>by simp at hb;simp[hb]
 frame:=λ_ _ _ st hk=>by
  obtain⟨⟨o,e,r⟩,⟨o2,e2,r2⟩⟩:=st;exact⟨⟨o,hk I (by simp) o e,r⟩,⟨o2,hk t (by simp) o2 e2,r2⟩⟩
 item:=λ i s Q E hi st hQ=>by
  refine next_tuple_item st.1 st.2 (bq hi) λ h' st' sb=>?_;refine hQ _ h' s.toks (bq hi) ⟨st',?_⟩ λ b o hb q=>sb.extBut b o (λ z=>hb (by simp[z])) q;obtain⟨o2,e2,r2⟩:=st.2;exact⟨o2,sb.extBut t o2 hne e2,r2⟩
 done:=λ s Q E st hQ=>by
  exact next_tuple_end hh st.1 st.2 (bV (ah _)) λ h' eb=>hQ h' s.toks λ b o hb q=>eb b o (λ z=>hb (by simp[z])) q
 self:=λ_ _ _ _ st hQ=>by
  obtain⟨⟨o,e,r⟩,_⟩:=st;exact wpAny_pyIter_tupleiter (t:=t) ⟨o,e,r⟩ hQ
section
variable{X:Cx}
theorem Qv{pins:PNz}{σ:St}{H:Hp}{s:Shared}{A:Around}{a:Addr}{ns:List Int}(I:Inv X pins σ H s)(hh:A.in1.handled=none)(ha:H a=some (.tup (ns.map V.int))) :
  wpAny (model X.prog X.w) A (call (.builtin "sum") [.ref a]) (λ u s''=>(∃t,u=.int ns.sum t)/\Inv X pins σ H s'') (λ_ _=>False) s:=by
 obtain⟨_,its,rv,tp⟩:=(show ObjOk X.prog X.w H s.heap a (.tup (ns.map V.int)) from I.hok _ _ ha);have hi:=Eu rv;have lt:a<s.heap.objs.size:=by obtain⟨o,e,_⟩:=id tp;exact aq e
 refine call_sum_walkG (iter_tuple tp ?_);refine⟨_,_,_,_,_,_,λ i=>ns.getD i 0,rfl,Nn (A:=A.in1) hh s.heap.objs.size a (aB lt) its.toArray,⟨⟨_,au _ rfl,rfl,rfl⟩,?_⟩,λ b hb=>?_,λ i v hv=>?_,λ h' tk t' hk=>?_⟩
 .obtain⟨o,e,r⟩:=tp;exact⟨o,ae _ e,r⟩
 .show b<(s.heap.push _).objs.size;rw[bt];simp only[aP,bx,or_false]at hb;rcases hb with rfl|rfl
  .exact bg _
  .exact bc lt
 .have hv:its[i]?=some v:=by rw[eS]at hv;exact hv
  obtain⟨lt',e⟩:=aG.mp hv;obtain⟨tk,h⟩:=L2.ints_get hi i lt';exact⟨tk,e.symm.trans h⟩
 .have hl:its.length=ns.length:=hi.length;have es':preSum (λ i=>ns.getD i 0) its.toArray.size=ns.sum:=by
   rw[ak,hl,FH _ (ah _),aH]
  refine⟨⟨t',by rw[es']⟩,I.kept (t':=tk) (λ b o' e=>?_)⟩;exact hk b o' (λ hm=>by rw[ai.mp hm]at e;exact absurd (aq e) (bE _)) (ae _ e)
variable{pins:PNz}{σ:St}{H:Hp}{s:Shared}{A:Around}{D kS:Addr}{vs:LWz}{e1:Nat}{kz:List Int}{f:Value}{P:PySem.Fin->Shared->Prop}{E:VPz}
theorem Pu{e:Nat}{keys:Array Value}(I:Inv X ((kS,seqObj "list" keys e)::(D,seqObj "list" #[] e1)::pins) σ H s)(hk1:X.s₀.heap.objs.size<=kS)(hkc:∀x c,X.env.cells.lookup x=some c->c≠kS)(hkp:∀p∈X.pn++((D,seqObj "list" #[] e1)::pins),p.1≠kS)
  (hD1:X.s₀.heap.objs.size<=D) (hDc:∀x c,X.env.cells.lookup x=some c->c≠D) (hDp:∀p∈X.pn++pins,p.1≠D) (hk:IntsAre keys.toList kz) (hlen:kz.length=vs.length) (h64:vs.length<64)
  (h:∀(out:LWz)(c:Nat)(s':Shared),KskOut false kz vs out->Inv X pins σ H s'->s'.heap.get? D=some (seqObj "list" (List.toArray out) c)->P (.done (.ret .none)) s') :
  wpAny (model X.prog X.w) A (ksk_end D false vs.toArray e1 (.ref kS) keys) P E s:=by
 have hsz:keys.size=vs.length:=by
  have h1:=hk.length;rw[aV]at h1;lia
 have hzs:(keys.zip vs.toArray).size=vs.length:=by rw[Array.size_zip,hsz,ak,eP]
 have fin:∀(st:SortSt),(arrOf st).Perm (keys.zip vs.toArray)->SortedTo (arrOf st) (arrOf st).size->failedOf st=none->wpAny (model X.prog X.w) A (ksk_tail D false e1 (.ref kS) st) P E s:=λ st hp hs hf=>by
  have out:=ksk_out (b:=false) hk hp hs;simp only[aL,if_false]at out;have I':Inv X ((kS,seqObj "list" keys.toList.toArray e)::(D,seqObj "list" #[] e1)::pins) σ H s:=by rw[eX];exact I
  refine NN (out:=((arrOf st).map (·.2)).toList) I' hk1 hkc hkp hD1 hDc hDp (by rw[eX]) ?_ (by rw[aV];lia) hf λ c s' J e'=>h _ c s' out J e';rw[aV,Array.size_map,hp.size_eq,hzs];exact h64
 unfold ksk_end
 try dsimp only
 simp only[aL,if_false];by_cases h2:vs.toArray.size<2
 .rw[if_pos h2,if_pos h2];refine wpAny_bind (wpAny_pure ?_);rw[StateT.run_pure];refine wpAny_bind (wpAny_pure ?_)
  try dsimp only
  refine fin _ (Array.Perm.refl _) ?_ rfl;intro i j hij hj;have hj2:j<(keys.zip vs.toArray).size:=hj;rw[hzs]at hj2;rw[ak]at h2;have:i=j:=by lia
  subst this;exact bf _
 .rw[if_neg h2,if_neg h2];rw[ak]at h2;rw[ksk_kind hk (by rw[hsz];lia)];refine wpAny_bind (wpAny_pure ?_);refine wpAny_bind (wpAny_mono (wpS_sortRuns (a₀:=keys.zip vs.toArray) (st:=SortSt.mk' oneType' (keys.zip vs.toArray) #[] 7 none)
   (Q:=λ_ st'=>(arrOf st').Perm (keys.zip vs.toArray)/\failedOf st'=none/\SortedTo (arrOf st') (keys.zip vs.toArray).size)
   (ksk_intKeys hk) ⟨Array.Perm.refl _,rfl,rfl,rfl⟩ (by rw[hzs];lia) (by rw[hzs];exact h64) λ st' a1 a2 a3=>⟨a1,a2,a3⟩) ?_ λ_ _ e=>e)
  rintro⟨⟨⟩,st'⟩ s' ⟨rfl,hp,hf,hs⟩
  try dsimp only
  exact fin st' hp (by rw[hp.size_eq];exact hs) hf
theorem NO(I:Inv X ((kS,seqObj "list" #[] 0)::(D,seqObj "list" #[] e1)::pins) σ H s)(hk1:X.s₀.heap.objs.size<=kS)(hkc:∀x c,X.env.cells.lookup x=some c->c≠kS)(hkp:∀p∈X.pn++((D,seqObj "list" #[] e1)::pins),p.1≠kS)
  (hD1:X.s₀.heap.objs.size<=D) (hDc:∀x c,X.env.cells.lookup x=some c->c≠D) (hDp:∀p∈X.pn++pins,p.1≠D) (hl:kz.length=vs.length) (h64:vs.length<64)
  (hcall:∀(i:Nat)(v:Value)(pins':PNz)(s':Shared),vs[i]?=some v->Inv X pins' σ H s'->wpAny (model X.prog X.w) A (call f [v]) (λ u s''=>(∃t,u=.int (kz.getD i 0) t)/\Inv X pins' σ H s'') (λ_ _=>False) s')
  (h:∀(out:LWz)(c:Nat)(s':Shared),KskOut false kz vs out->Inv X pins σ H s'->s'.heap.get? D=some (seqObj "list" (List.toArray out) c)->P (.done (.ret .none)) s') :
  wpAny (model X.prog X.w) A (ksk_rest D f false vs.toArray e1 (.ref kS)) P E s:=by
 unfold ksk_rest;refine wpAny_bind (wpAny_rule ?_)
 first
  |rw[List.forIn_toArray]
  | (rw[<-cx];simp only[List.toList_toArray])
  |rw[<-cx]
 refine wpAny_bind (ksk_fold (λ i s'=>∃e ks,IntsAre ks (kz.take i)/\Inv X ((kS,seqObj "list" ks.toArray e)::(D,seqObj "list" #[] e1)::pins) σ H s') vs 0 s ⟨0,[],.nil,I⟩ (λ j x s' hx hJ=>?_) λ s' hJ=>?_)
 .obtain⟨e,ks,hk,J⟩:=hJ;rw[Nat.zero_add]at hk |-;have hj:j<kz.length:=by rw[hl];exact(aG.mp hx).1
  have hz:kz[j]?=some (kz.getD j 0):=by rw[aS,ag hj];rfl
  refine wpAny_bind (wpAny_attempt (wpAny_mono (hcall j x _ s' hx J) (λ u s'' hu=>?_) λ_ _ hF=>hF.elim));obtain⟨⟨t,rfl⟩,J'⟩:=hu;have ek:=EI J' aD;obtain⟨c,J2⟩:=J'.repin (g:=(·.push (Value.int (kz.getD j 0) t))) hk1 hkc hkp;have kl:=hk.length;rw[bB]at kl
  try dsimp only
  refine wpAny_bind (listUpdate_at ek rfl ?_ (by rw[ak,sizeLine_eq];lia) (aR (dI (Array.size_push ..)) (by rw[ak,sizeLine_eq];lia)));refine wpAny_pure ⟨rfl,c,ks++[Value.int (kz.getD j 0) t],?_,?_⟩
  .rw[aK,hz];exact ksk_snoc hk
  .have ea:ks.toArray.push (Value.int (kz.getD j 0) t)=(ks++[Value.int (kz.getD j 0) t]).toArray:=by simp
   rw[<-ea];exact J2
 .obtain⟨e,ks,hk,J⟩:=hJ;rw[Nat.zero_add,<-hl,aH]at hk
  try dsimp only
  refine wpAny_bind (listItems_at (EI J aD) rfl ?_);exact Pu J hk1 hkc hkp hD1 hDc hDp (by simpa using hk) hl h64 h
theorem LW{n:Nat}{b:String}(I:Inv X pins σ H s)(ho:s.heap.get? D=some (seqObj "list" vs.toArray n))(hD:H D=none)(hD1:X.s₀.heap.objs.size<=D)(hDL:D≠X.env.locals)(hDf:D∉X.fs)(hDc:∀x c,X.env.cells.lookup x=some c->c≠D)(hDp:∀p∈X.pn++pins,p.1≠D)
  (hl:kz.length=vs.length) (h64:vs.length<64)
  (hcall:∀(i:Nat)(v:Value)(pins':PNz)(s':Shared),vs[i]?=some v->Inv X pins' σ H s'->wpAny (model X.prog X.w) A (call (.builtin b) [v]) (λ u s''=>(∃t,u=.int (kz.getD i 0) t)/\Inv X pins' σ H s'') (λ_ _=>False) s')
  (h:∀(out:LWz)(c:Nat)(s':Shared),KskOut false kz vs out->Inv X pins σ H s'->s'.heap.get? D=some (seqObj "list" (List.toArray out) c)->P (.done (.ret .none)) s') :
  wpAny (model X.prog X.w) A (Builtin.«list.sort» ⟨[.ref D],[(Str.ofString "key",.builtin b)]⟩) P E s:=by
 rw[ksk_t4];unfold ksk_tree;refine wpAny_bind (listItems_at ho rfl ?_);refine wpAny_bind (listUpdate_at ho rfl ?_ (by rw[ak,sizeLine_eq];lia) (aQ _));obtain⟨e1,ho1⟩:∃e1,(s.heap.update D (Obj.mapSeq λ_=>(#[]:Array Value))).get? D=some (seqObj "list" #[] e1):=⟨_,get?_update_seq ho λ_=>#[]⟩;have I1:Inv X pins σ H { s with heap:=s.heap.update D (Obj.mapSeq λ_=>(#[]:Array Value)),toks:=s.toks }:=I.turned (it:=D) (λ b o nb q=>by rw[cu _ _ _ _ nb];exact q) hD hDL (.inr hD1) hDc hDp;have I1:Inv X ((D,seqObj "list" #[] e1)::pins) σ H { s with heap:=s.heap.update D (Obj.mapSeq λ_=>(#[]:Array Value)) }:=I1.pins_of λ p hp=>by
  rcases aP.mp hp with rfl|hp
  .exact⟨ho1,hD,hDL,hDf,λ v z=>nomatch z⟩
  .exact I1.pin p (aw _ hp)
 refine wpAny_bind (seqEpoch_at ho1 rfl ?_);refine wpAny_bind (wpAny_newTuple ?_ (by show vs.length<=_;rw[sizeLine_eq];lia));refine wpAny_bind (wpAny_newList ?_ (aQ _));refine wpAny_holding ?_;have I2:=(I1.kept (t':=s.toks) (h':=(s.heap.update D (Obj.mapSeq λ_=>(#[]:Array Value))).push (seqObj "tuple" vs.toArray 0)) λ b u q=>ae _ q);have ap:=I2.apart (D:=((s.heap.update D (Obj.mapSeq λ_=>(#[]:Array Value))).push (seqObj "tuple" vs.toArray 0)).objs.size) (ah _);have I3:=I2.kept (t':=s.toks) (h':=((s.heap.update D (Obj.mapSeq λ_=>(#[]:Array Value))).push (seqObj "tuple" vs.toArray 0)).push (seqObj "list" #[] 0)) λ b u q=>ae _ q;have hk0:(((s.heap.update D (Obj.mapSeq λ_=>(#[]:Array Value))).push (seqObj "tuple" vs.toArray 0)).push (seqObj "list" #[] 0)).get? ((s.heap.update D (Obj.mapSeq λ_=>(#[]:Array Value))).push (seqObj "tuple" vs.toArray 0)).objs.size=some (seqObj "list" #[] 0):=au _ rfl;show wpAny (model X.prog X.w) A (ksk_rest D (.builtin b) false vs.toArray e1 (.ref ((s.heap.update D (Obj.mapSeq λ_=>(#[]:Array Value))).push (seqObj "tuple" vs.toArray 0)).objs.size)) P E { s with heap:=((s.heap.update D (Obj.mapSeq λ_=>(#[]:Array Value))).push (seqObj "tuple" vs.toArray 0)).push (seqObj "list" #[] 0) };obtain⟨a1,a2,a3,a4,a5,a6⟩:=ap;refine NO (I3.pins_of λ p hp=>?_) a2 a5 a6 hD1 hDc hDp hl h64 hcall h;rcases aP.mp hp with rfl|hp
 .exact⟨hk0,a1,a3,a4,λ v z=>nomatch z⟩
 .exact I3.pin p (aw _ hp)
def O1(K:Frag)(calm:Bool)(ta:TA):TE:=λ σ H Q=>ta σ H λ xs H1=>∃(p:Addr)(ts:List (Addr×List Int)),xs=[.ref p]/\SqL K H1 p (ts.map λ t=>V.ref t.1)/\ts.length<64/\calm=true/\(∀t∈ts,H1 t.1=some (.tup (t.2.map V.int))) /\
 ∀l (ts':List (Addr×List Int)),H1 l=none->ts'.Perm ts->(ts'.map λ t=>t.2.sum).Pairwise (·<=·)->Q (.ref l) (upd H1 l (.lst (ts'.map λ t=>V.ref t.1)))
theorem Op{ts:List (Addr×List Int)}{ps:List (Int×Value)}(h:ps.Perm ((ts.map λ t=>t.2.sum).zip (ts.map λ t=>Value.ref t.1))):∃ts':List (Addr×List Int),ts'.Perm ts/\ps=ts'.map λ t=>(t.2.sum,Value.ref t.1):=by
 have e:(ts.map λ t=>t.2.sum).zip (ts.map λ t=>Value.ref t.1)=ts.map λ t=>(t.2.sum,Value.ref t.1):=by
  clear h
  induction ts with
  |nil=>rfl
  |cons t r ih=>rw[aA,aA,dC,ih];rfl
 exact OP h ts e
theorem LN{e:Expr}{p kp q pos:Pos}{ta:TA}(hg:Gl X "sorted")(hm:X.mg "sorted"=none)(hg2:Gl X "sum")(hm2:X.mg "sum"=none)(ha:PA X [e] ta)
  (he:backTo pos (starEach [e] X.env)=(false,eval e X.env)::backTo pos (starEach [] X.env):=by rfl) (hn:(backTo pos (starEach [e] X.env)).any (·.1)=false:=by rfl) :
  PE X (.Call (.Name "sorted" p) [e] [⟨some "key",.Name "sum" q,kp⟩] pos) (O1 X.K X.calm ta):=by
 intro pins s σ H Q I h;refine wpAny_Call_Name_kw (Cm I hg hm (by rfl) ?_);refine PyProof.Rows.callWith_kw (thn (ha pos pins s σ H _ I h) λ us s2 ⟨vs,H2,I2,r1,q2⟩=>?_) he hn;refine PyProof.Rows.kws_cons (Cm (u:=.builtin "sum") I2 hg2 hm2 (by rfl) (PyProof.Rows.kws_nil ?_));obtain⟨l,ts,rfl,hp,h64,hc,ht,q⟩:=q2;obtain⟨u,rfl,ru⟩:=Dl r1;cases ru;obtain⟨its,rv,pl,hz⟩:=I2.list hp;have hits:its=ts.map λ t=>Value.ref t.1:=by
  have:=Fm (ts:=ts.map (·.1)) (its:=its) (by rw[aJ];exact rv);rw[this,aJ];rfl
 have hlen:its.length=ts.length:=by rw[hits,aa]
 show wpAny (model X.prog X.w) X.A (call (.builtin "sorted") [.ref l] [(Str.ofString "key",.builtin "sum")]) _ _ s2;refine call_function_entry_kw kind_sorted plain_sorted entry_sorted (ksk_s1 _ _) ?_;unfold Builtin.«sorted»;refine wpAny_bind (m:=checkCount "sorted" 1 1 _) (wpAny_pure ?_);refine wpAny_bind (collect_list pl.isList ?_ (by rw[sizeLine_eq];lia));refine wpAny_bind (wpAny_newList ?_ (by rw[sizeLine_eq];lia));have hsz:((s2.heap.push (seqObj "list" #[] 0)).update s2.heap.objs.size (Obj.mapSeq (·++its.toArray))).objs.size=s2.heap.objs.size+1:=by
  rw[cZ,size_push']
 have hoL:(((s2.heap.push (seqObj "list" #[] 0)).update s2.heap.objs.size (Obj.mapSeq (·++its.toArray))).push (seqObj "list" its.toArray 0)).get? (s2.heap.objs.size+1)=some (seqObj "list" its.toArray 0):=by
  rw[<-hsz];exact au _ rfl
 have keep:∀b o,s2.heap.get? b=some o->(((s2.heap.push (seqObj "list" #[] 0)).update s2.heap.objs.size (Obj.mapSeq (·++its.toArray))).push (seqObj "list" its.toArray 0)).get? b=some o:=λ b o q=>by
  have hlt:b<s2.heap.objs.size:=aq q;rw[cf _ _ _ (by rw[hsz];exact aB (bc hlt)),cu _ _ _ _ (aB hlt),cf _ _ _ (aB hlt)];exact q
 obtain⟨a1,a2,a3,a4,a5,a6⟩:=I2.apart (D:=s2.heap.objs.size+1) (bI _);have I3:Inv X pins σ H2 { s2 with heap:=((s2.heap.push (seqObj "list" #[] 0)).update s2.heap.objs.size (Obj.mapSeq (·++its.toArray))).push (seqObj "list" its.toArray 0) }:=I2.kept (t':=s2.toks) keep;show wpAny _ _ _ _ _ { s2 with heap:=((s2.heap.push (seqObj "list" #[] 0)).update s2.heap.objs.size (Obj.mapSeq (·++its.toArray))).push (seqObj "list" its.toArray 0) };rw[hsz];refine wpAny_bind (wpAny_holding (wpAny_call_entry_kw slot_list_sort ⟨_,hoL,rfl⟩ entry_list_sort ?body (ksk_l1 _ _)))
 case body =>
  refine LW (kz:=ts.map λ t=>t.2.sum) I3 hoL a1 a2 a3 a4 a5 a6 (by rw[aa,hlen]) (by lia) (λ i v pins' s' hv J=>?_) λ out c s' ko J eD=>?_
  .rw[hits,ay]at hv;obtain⟨t0,ht0,rfl⟩:=aZ.mp hv;have e0:(ts.map λ t=>t.2.sum).getD i 0=t0.2.sum:=by rw[aS,ay,ht0];rfl
   rw[e0];exact Qv J (I.ok.hd hc) (ht t0 (ax ht0))
  .refine⟨_,rfl,wpAny_pure ⟨_,rfl,?_⟩⟩;obtain⟨ps,p1,rfl,p3⟩:=ko;rw[hits]at p1;obtain⟨ts',pt,rfl⟩:=Op p1;have eo:(ts'.map λ t=>(t.2.sum,Value.ref t.1)).map Prod.snd=ts'.map λ t=>Value.ref t.1:=by rw[aJ];rfl
   rw[eo]at eD;refine⟨.ref (s2.heap.objs.size+1),_,J.track (o:=.lst (ts'.map λ t=>V.ref t.1)) a1 a2 a3 a5 a6 ⟨?_,_,c,?_,eD⟩,rfl,q _ ts' a1 pt ?_⟩
   .rw[aa,pt.length_eq,sizeLine_eq];lia
   .have:=Ek (ts'.map (·.1));rw[aJ,aJ]at this;exact this
   .rw[List.pairwise_map]at p3 |-;exact p3.imp λ{a b} h=>by simpa using h
end
section
variable{prog:Program}{w:World}{K:Type}[DecidableEq K](knd:KeyKind prog w K)
inductive NestAre(h:Heap):List (List K)->LWz->Prop
 |nil:NestAre h [] []
 |cons {k:List K} {b:Addr} {ks:List (List K)} {vs:LWz}:IsTupleKey knd h k b->NestAre h ks vs->NestAre h (k::ks) (.ref b::vs)
def IsNest(h:Heap)(ks:List (List K))(a:Addr):Prop:=∃o items n,h.get? a=some o/\o.cls=.type "tuple"/\o.data=.seq items n/\NestAre knd h ks items.toList
variable{knd}
theorem NestAre.inj{h:Heap}{x y:List (List K)}{vs:LWz}(hx:NestAre knd h x vs)(hy:NestAre knd h y vs):x=y:=by
 induction hx generalizing y with
 |nil=>cases hy;rfl
 |cons h1 _ ih=>cases hy with
  |cons h2 t2=>rw[h1.inj h2,ih t2]
theorem IsNest.typeIs{s:Shared}{ks:List (List K)}{a:Addr}(x:IsNest knd s.heap ks a):s.TypeIs (.ref a) "tuple":=let ⟨o,_,_,ho,hc,_⟩:=x;⟨o,ho,hc⟩
theorem IsNest.inj{h:Heap}{a:Addr}{x y:List (List K)}(hx:IsNest knd h x a)(hy:IsNest knd h y a):x=y:=by
 obtain⟨o,items,n,ho,_,hd,hi⟩:=hx;obtain⟨o',items',n',ho',_,hd',hi'⟩:=hy;obtain rfl:o=o':=Option.some.inj (ho.symm.trans ho');rw[hd]at hd';injection hd' with h1 _;subst h1;exact hi.inj hi'
theorem IsNest.keeps{h h':Heap}{ks:List (List K)}{a d:Addr}{o:Obj}{es ep}(x:IsNest knd h ks a)(ho:h.get? d=some o)(hd:o.data=.dict es ep)(hs:Heap.SameBut d h h'):IsNest knd h' ks a:=by
 obtain⟨o',items,n,ho',hc,hd',hi⟩:=x;have hne:a≠d:=by
  rintro rfl;obtain rfl:o'=o:=Option.some.inj (ho'.symm.trans ho);rw[hd]at hd';exact nomatch hd'
 refine⟨o',items,n,(hs.2 a hne).trans ho',hc,hd',?_⟩;clear hd';generalize items.toList=us at hi |-
 induction hi with
 |nil=>exact .nil
 |cons h1 _ ih=>exact .cons (h1.keeps ho hd hs) ih
def Hj(knd:KeyKind prog w K)(ks:List (List K)):Int:=reduceHash (Builtin.Tuple.tupleHashOf (ks.map (tupleKeyHash knd)))
def Fv(ks:List (List K)):Nat:=(ks.map λ k=>k.length+1).sum+1
variable{A:Around}{E:VPz}{s:Shared}
theorem E3{ks:List (List K)}{a:Addr}{Q:Int->Shared->Prop}(hu:A.units+1<cLine)(hk:IsNest knd s.heap ks a)(h:Q (Hj knd ks) { s with toks:=s.toks+Fv ks }) :
  wpAny (model prog w) A (pyHash (.ref a)) Q E s:=by
 have hT:=hk.typeIs;have hu0:A.units<cLine:=dH hu;obtain⟨o,items,n,ho,_,hd,hi⟩:=hk;unfold pyHash
 first|unfold pyHashByItsType|skip
 first|refine wpAny_bind (wpAny_cRoomFor_or (.inr hu0) ?_)|skip
 refine wpAny_bind (wpAny_specialOf hT F.slot_tuple_hash.lookup ?_);show wpAny _ _ (if (some (Value.builtin "tuple.__hash__")==some Value.none)=true then _ else _) Q E s;rw[if_neg (by rw[beq_builtin_none];exact ao)];refine wpAny_bind (wpAny_specialOf hT F.slot_tuple_hash.lookup ?_);show wpAny _ _ (callSpecialIfBoundUnlessNone? (.ref a) "__hash__" _ >>= _) Q E s;refine wpAny_bind (wpAny_callSpecialIfBoundUnlessNone?_slot hT F.slot_tuple_hash (wpAny_call_entry F.slot_tuple_hash hT F.entry_tuple_hash ?_ (F.args_tuple_hash_1 _)));show wpAny _ _ (Builtin.Tuple.tupleItemsOf (.ref a) >>= _) _ _ s;refine wpAny_bind (wpAny_tupleItemsOf ho hd ?_);refine wpAny_bind ?_;rw[<-cx];refine wpAny_forIn_list _
  (λ rest (b:Array Int) s'=>∃done left,ks=done++left/\NestAre knd s.heap left rest/\b.toList=done.map (tupleKeyHash knd)/\s'={ s with toks:=s.toks+(done.map λ k=>k.length+1).sum })
  _ ?_ ?_ _ _ ⟨[],ks,rfl,hi,rfl,rfl⟩
 .rintro x rest b s' ⟨done,left,rfl,hl,hb,rfl⟩;cases hl with
  |@cons k b' ks' _ h1 hl' =>
   refine wpAny_bind (wpAny_pyHash_tuple (ks:=k) (by first|exact hu|exact hu0) h1 ?_)
   first
    |exact wpAny_pure ⟨done++[k],ks',by simp,hl',by simp[hb],by simp[dB]⟩
    |exact wpAny_bind (wpAny_pure (wpAny_pure ⟨done++[k],ks',by simp,hl',by simp[hb],by simp[dB]⟩))
 .rintro b s' ⟨done,left,rfl,hl,hb,rfl⟩;cases hl;rw[aY]at h;show wpAny _ _ (retInt (Builtin.Tuple.tupleHashOf b.toList)) _ _ _;rw[hb];refine wpAny_ret_mkInt ?_;show wpAny _ _ (if (decide (-(2:Int)^63<=Builtin.Tuple.tupleHashOf (done.map (tupleKeyHash knd)))&&decide (Builtin.Tuple.tupleHashOf (done.map (tupleKeyHash knd))<2^63))=true then _ else _) Q E _;unfold Hj reduceHash Fv at h;by_cases hr:(decide (-(2:Int)^63<=Builtin.Tuple.tupleHashOf (done.map (tupleKeyHash knd)))&&decide (Builtin.Tuple.tupleHashOf (done.map (tupleKeyHash knd))<2^63))=true
  .rw[if_pos hr];rw[if_pos hr]at h;exact wpAny_pure (by simpa [dB] using h)
  .rw[if_neg hr];rw[if_neg hr]at h;exact wpAny_bind (wpAny_rule (wpAny_pure (by simpa [dB] using h)))
theorem JL{x y:List (List K)}{a b:Addr}{P:Fin->Shared->Prop}(hu:A.units<cLine)(hx:IsNest knd s.heap x a)(hy:IsNest knd s.heap y b)(h:P (.done (.ret (.bool (decide (x=y))))) s) :
  wpAny (model prog w) A (Builtin.«tuple.__eq__» ⟨[.ref a,.ref b],[]⟩) P E s:=by
 have hTb:=hy.typeIs;obtain⟨oa,xs,na,hoa,_,hda,hia⟩:=hx;obtain⟨ob,ys,nb,hob,_,hdb,hib⟩:=hy;show wpAny _ _ (isInstance (.ref b) (.type "tuple") >>= _) _ _ s;refine wpAny_bind (wpAny_isInstance hTb isSubtype_tuple_tuple ?_);simp only[cE,aL,if_false];refine wpAny_bind (wpAny_tupleItemsOf hoa hda ?_);refine wpAny_bind (wpAny_tupleItemsOf hob hdb ?_);refine wpAny_bind ?_;refine wpAny_forIn_list _
  (λ rest r s'=>r.1=none/\s'=s/\∃x' y' xs' ys',rest=List.zip xs' ys'/\NestAre knd s.heap x' xs'/\NestAre knd s.heap y' ys'/\decide (x'=y')=decide (x=y)/\(xs'.length==ys'.length)=(xs.size==ys.size))
  _ ?_ ?_ _ _ ⟨rfl,rfl,x,y,xs.toList,ys.toList,rfl,hia,hib,rfl,by simp⟩
 .rintro⟨u,v⟩ rest r s' ⟨hr,rfl,x',y',xs',ys',hz,hx',hy',hdec,hlen⟩;cases hx' with
  |nil=>simp at hz
  |@cons k1 u' x'' xs'' h1 hx'' =>
   cases hy' with
   |nil=>simp at hz
   |@cons k2 v' y'' ys'' h2 hy'' =>
    simp only[dC,List.cons.injEq,c8.injEq]at hz;obtain⟨⟨rfl,rfl⟩,rfl⟩:=hz;refine wpAny_bind (wpAny_eqBool_tuple (x:=k1) (y:=k2) hu h1 h2 ?_);by_cases hk:k1=k2
    .subst hk;rw[decide_eq_true rfl];simp only[cE,aL,if_false];refine wpAny_pure ⟨rfl,rfl,x'',y'',xs'',ys'',rfl,hx'',hy'',?_,by simpa using hlen⟩;rw[<-hdec];by_cases hxy:x''=y''
     .simp[hxy]
     .simp[hxy]
    .rw[decide_eq_false hk];simp only[Bool.not_false,if_true];have hf:decide (x=y)=false:=by rw[<-hdec];simp[hk]
     rw[hf]at h;exact wpAny_bind (wpAny_pure (wpAny_pure (wpAny_pure h)))
 .rintro⟨r1,r2⟩ s' ⟨hr,rfl,x',y',xs',ys',hz,hx',hy',hdec,hlen⟩;simp only at hr;subst hr;refine wpAny_pure ?_;have hfin:(xs.size==ys.size)=decide (x=y):=by
   rw[<-hdec,<-hlen];cases hx' with
   |nil =>
    cases hy' with
    |nil=>simp
    |cons _ _=>simp
   |cons _ _ =>
    cases hy' with
    |nil=>simp
    |cons _ _=>simp at hz
  show P (.done (.ret (.bool (xs.size==ys.size)))) s';rw[hfin];exact h
theorem E4{x y:List (List K)}{a b:Addr}{Q:Bool->Shared->Prop}(hu:A.units+1<cLine)(hx:IsNest knd s.heap x a)(hy:IsNest knd s.heap y b)(h:Q (decide (x=y)) s) :
  wpAny (model prog w) A (eqBool (.ref a) (.ref b)) Q E s:=by
 unfold eqBool
 try with_reducible refine wpAny_holding ?_
 show wpAny _ _ (if (Value.ref a==Value.ref b)=true then _ else _) Q E s;by_cases hab:(Value.ref a==Value.ref b)=true
 .rw[if_pos hab];have e:a=b:=by have:=eq_of_beq hab;injection this
  subst e;obtain rfl:=hx.inj hy;exact wpAny_bind (wpAny_rule (wpAny_pure (by simpa using h)))
 .rw[if_neg hab];exact wpAny_bind (wpAny_richCompare_same_room (op:=.Eq) hx.typeIs hy.typeIs F.slot_tuple_eq
   (wpAny_call_entry F.slot_tuple_eq hx.typeIs F.entry_tuple_eq (JL (by first|exact hu|exact dH hu) hx hy ⟨_,rfl,(λ e=>nomatch e),wpAny_truthy_bool h⟩) (F.args_tuple_eq_2 _ _)) (dH hu))
theorem Kv{n:Nat}{ks:List K}{a:Addr}{Q:Bool->Shared->Prop}(hk:IsTupleKey knd s.heap ks a)(h:Q true s):wpAny (model prog w) A (eqIsQuiet (n+1) (.ref a)) Q E s:=by
 have hT:=hk.typeIs;obtain⟨o,items,n,ho,_,hd,hi⟩:=hk;unfold eqIsQuiet;refine wpAny_bind (wpAny_specialOf hT F.slot_tuple_eq.lookup ?_);show wpAny _ _ (isInstance (.ref a) (.type "tuple") >>= _) _ _ s;refine wpAny_bind (wpAny_isInstance hT isSubtype_tuple_tuple ?_);simp only[cE,aL,if_false];refine wpAny_bind (wpAny_seqItems ho hd ?_);refine wpAny_bind ?_;show wpAny _ _ (forIn items _ _) _ _ s;rw[<-cx];refine wpAny_forIn_list _ (λ rest r s'=>r.1=none/\s'=s/\∀v∈rest,carriedByValue v=true) _ ?_ ?_ _ _ ⟨rfl,rfl,hi.byValue⟩
 .rintro v rest r s' ⟨hr,rfl,hall⟩;rw[eqIsQuiet_byValue _ (hall v aD)];refine wpAny_bind (wpAny_pure ?_);simp only[cE,aL,if_false];exact wpAny_pure ⟨rfl,rfl,λ u hu'=>hall u (aI _ hu')⟩
 .rintro⟨r1,r2⟩ s' ⟨hr,rfl,_⟩;simp only at hr;subst hr;exact wpAny_pure h
theorem LJ{ks:List (List K)}{a:Addr}{Q:Bool->Shared->Prop}(hk:IsNest knd s.heap ks a)(h:Q true s):wpAny (model prog w) A (eqIsQuiet 8 (.ref a)) Q E s:=by
 have hT:=hk.typeIs;obtain⟨o,items,n,ho,_,hd,hi⟩:=hk;unfold eqIsQuiet;refine wpAny_bind (wpAny_specialOf hT F.slot_tuple_eq.lookup ?_);show wpAny _ _ (isInstance (.ref a) (.type "tuple") >>= _) _ _ s;refine wpAny_bind (wpAny_isInstance hT isSubtype_tuple_tuple ?_);simp only[cE,aL,if_false];refine wpAny_bind (wpAny_seqItems ho hd ?_);refine wpAny_bind ?_;show wpAny _ _ (forIn items _ _) _ _ s;rw[<-cx];refine wpAny_forIn_list _ (λ rest r s'=>r.1=none/\s'=s/\∃left,NestAre knd s.heap left rest) _ ?_ ?_ _ _ ⟨rfl,rfl,ks,hi⟩
 .rintro v rest r s' ⟨hr,rfl,left,hl⟩;cases hl with
  |cons h1 hl' =>
   refine wpAny_bind (Kv h1 ?_);simp only[cE,aL,if_false];exact wpAny_pure ⟨rfl,rfl,_,hl'⟩
 .rintro⟨r1,r2⟩ s' ⟨hr,rfl,_⟩;simp only at hr;subst hr;exact wpAny_pure h
end
def Cl{prog:Program}{w:World}{K:Type}[DecidableEq K](knd:KeyKind prog w K):HeapKind prog w (List (List K)) where
 is:=IsNest knd
 hash:=Hj knd
 draws:=Fv
 room:=λ A=>A.units+1<cLine
 inj:=λ hx hy=>hx.inj hy
 keeps:=λ x ho hd hs=>x.keeps ho hd hs
 pyHash:=λ hu hk h=>E3 hu hk h
 eqBool:=λ hu hx hy h=>E4 hu hx hy h
 quiet:=λ hk h=>LJ hk h
def Nest(H:Hp):List (List Key)->LUz->Prop
 |[],[]=>True
 |k::ks,v::vs=>(∃b,v=.ref b/\H b=some (.tup (k.map kV)))/\Nest H ks vs
 |_,_=>False
def NAt(H:Hp)(a:Addr)(ks:List (List Key)):Prop:=∃vs,H a=some (.tup vs)/\Nest H ks vs
theorem Nest.keep{H H':Hp}(ht:∀b ys,H b=some (.tup ys)->H' b=some (.tup ys)):∀{ks:List (List Key)}{vs:LUz},Nest H ks vs->Nest H' ks vs
 |[],[],_=>trivial
 |k::ks,v::vs,⟨⟨b,e,q⟩,r⟩=>⟨⟨b,e,ht _ _ q⟩,Nest.keep ht r⟩
 |[],_::_,h=>h.elim
 |_::_,[],h=>h.elim
theorem NAt.keep{H H':Hp}{a:Addr}{ks:List (List Key)}(ht:∀b ys,H b=some (.tup ys)->H' b=some (.tup ys))(h:NAt H a ks):NAt H' a ks:=let ⟨vs,e,r⟩:=h;⟨vs,ht _ _ e,r.keep ht⟩
theorem MC{P:Program}{w:World}{H:Hp}{h:Heap}(ok:HOk P w H h):∀{ks:List (List Key)}{vs:LUz}{us:LWz},Nest H ks vs->Vals vs us->NestAre (Ay P w) h ks us
 |[],[],_,_,.nil=>.nil
 |k::ks,v::vs,_,⟨⟨b,e,q⟩,r⟩,.cons h1 t=>by
  subst e;cases h1;exact .cons (Et ok q) (MC ok r t)
 |[],_::_,_,h,_=>h.elim
 |_::_,[],_,h,_=>h.elim
theorem JN{P:Program}{w:World}{H:Hp}{h:Heap}{a:Addr}{ks:List (List Key)}(ok:HOk P w H h)(x:NAt H a ks):(Cl (Ay P w)).is h ks a:=by
 obtain⟨vs,e,r⟩:=x;obtain⟨_,its,rv,o,h1,h2,n,h3⟩:=(show ObjOk P w H h a (.tup vs) from ok a _ e);exact⟨o,its.toArray,n,h1,h2,h3,by simpa using MC ok r rv⟩
abbrev NK:=List (List (List Key)×Addr×Value)
def NdO(P:Program)(w:World)(a:Addr)(xs:NK):HO:=.ext λ h=>∃o es ep,h.get? a=some o/\o.ExactDict/\o.data=.dict es ep/\es.toList=xs.map (entryOfKey (Cl (Ay P w)))
def NdAt(P:Program)(w:World)(H:Hp)(a:Addr)(xs:NK):Prop:=H a=some (NdO P w a xs)/\(a==sysModules)=false/\xs.length<=1000/\(xs.map (·.1)).Nodup/\∀x∈xs,NAt H x.2.1 x.1
theorem NdAt.dict{P:Program}{w:World}{H:Hp}{h:Heap}{a:Addr}{xs:NK}(ok:HOk P w H h)(x:NdAt P w H a xs):h.DictOfH (Cl (Ay P w)) a xs:=by
 obtain⟨e,_,_,nd,ks⟩:=x;obtain⟨⟨o,es,ep,h1,h2,h3,h4⟩,_⟩:=(show ObjOk P w H h a (NdO P w a xs) from ok a _ e);exact⟨o,es,ep,h1,h2,h3,h4,λ x hx=>JN ok (ks x hx),nd⟩
theorem Pn{P:Program}{w:World}{H:Hp}{h:Heap}{a:Addr}{xs:NK}(d:h.DictOfH (Cl (Ay P w)) a xs):ObjOk P w H h a (NdO P w a xs):=by
 obtain⟨o,es,ep,h1,h2,h3,h4,_⟩:=d;refine⟨⟨o,es,ep,h1,h2,h3,h4⟩,⟨o,h1⟩,λ g1 g2 z k=>?_⟩;obtain⟨o,es,ep,h1,z⟩:=z;exact⟨o,es,ep,k _ h1,z⟩
theorem NdAt.keep{P:Program}{w:World}{H H':Hp}{a:Addr}{xs:NK}(ha:∀o,H a=some o->H' a=some o)(ht:∀b ys,H b=some (.tup ys)->H' b=some (.tup ys))(h:NdAt P w H a xs):NdAt P w H' a xs :=
 ⟨ha _ h.1,h.2.1,h.2.2.1,h.2.2.2.1,λ x hx=>(h.2.2.2.2 x hx).keep ht⟩
def D6(xs:NK):List (List (List Key)):=xs.map (·.1)
theorem EY{α:Type}[DecidableEq α]{f:α->List (List Key)}(inj:∀x y,f x=f y->x=y):∀{xs:NK}{ks:List α}(k:α),D6 xs=ks.map f->(atKey xs (f k)).isSome=decide (k∈ks)
 |[],[],_,_=>rfl
 |x::r,y::ks,k,e=>by
  unfold D6 at e;rw[aA,aA]at e;injection e with e1 e2;have ih:=EY inj (xs:=r) (ks:=ks) k e2;unfold atKey at ih |-;rw[bu];by_cases e:y=k
  .subst e;rw[decide_eq_true e1,decide_eq_true aD];rfl
  .rw[decide_eq_false λ z=>e (inj _ _ (e1.symm.trans z))];refine ih.trans ?_;rw[decide_eq_decide];exact⟨λ h=>aI _ h,λ h=>(aP.mp h).resolve_left λ z=>e z.symm⟩
 |[],_::_,_,e=>by cases e
 |_::_,[],_,e=>by cases e
theorem FF{α:Type}[DecidableEq α]{f:α->List (List Key)}(inj:∀x y,f x=f y->x=y){xs:NK}{ks:List α}(k:α)(e:D6 xs=ks.map f)(b:Addr)(u:Value):D6 (storedH xs (f k) b u)=(if k∈ks then ks else ks++[k]).map f:=by
 unfold storedH;rw[EY inj k e];by_cases z:k∈ks
 .rw[if_pos z,if_pos (decide_eq_true z)];exact(keys_map_putAt xs _ u).trans e
 .rw[if_neg z,if_neg (by rw[decide_eq_false z];decide),aj,<-e];exact aj
section
variable{X:Cx}{o i e value:Expr}{pos pos' tpos:Pos}{td ty tv:TE}
def RU(P:Program)(w:World):TE:=λ_ H Q=>∀p,H p=none->NdAt P w (upd H p (NdO P w p [])) p []->Q (.ref p) (upd H p (NdO P w p []))
theorem K2{P:Program}{wo:World}(hP:X.prog=P:=by rfl)(hW:X.w=wo:=by rfl):PE X (.Dict [] [] pos) (RU P wo):=by
 subst hP hW;exact λ pins s σ H Q I h =>
  wpAny_Dict_empty ⟨.ref s.heap.objs.size,_,I.laid (a:=s.heap.objs.size) (o:=NdO X.prog X.w s.heap.objs.size []) (t':=s.toks) (λ_ _ q=>ae _ q) (ah _) (Pn (Heap.DictOfH.new s.heap)),rfl,
   h _ (I.hok.fresh (ah _)) ⟨Ad,beq_eq_false_iff_ne.mpr (Ne.symm (aB I.big)),aQ _,cy,λ_ hx=>nomatch hx⟩⟩
def T0(P:Program)(w:World)(f:Bool->Bool):R2:=λ y x H Q=>∃a b xs k,x=.ref a/\y=.ref b/\NdAt P w H a xs/\NAt H b k/\Q (.bl (f (atKey xs k).isSome)) H
theorem Sl(hu:X.A.units+2<cLine):OpR X (compareOp .In) (T0 X.prog X.w id):=by
 intro pins s σ H x y v u Q I rx ry h;obtain⟨a,b,xs,k,rfl,rfl,nd,nk,q⟩:=h;cases rx;cases ry;refine wpAny_in_heap (knd:=Cl (Ay X.prog X.w)) (show X.A.units+1+1<cLine from hu) (JN I.hok nk) nd.2.1 (nd.dict I.hok) ?_;exact⟨.bl _,H,I.tok _,rfl,q⟩
theorem N9(hu:X.A.units+2<cLine):OpR X (compareOp .NotIn) (T0 X.prog X.w not):=by
 intro pins s σ H x y v u Q I rx ry h;obtain⟨a,b,xs,k,rfl,rfl,nd,nk,q⟩:=h;cases rx;cases ry;refine wpAny_notIn_heap (knd:=Cl (Ay X.prog X.w)) (show X.A.units+1+1<cLine from hu) (JN I.hok nk) nd.2.1 (nd.dict I.hok) ?_;exact⟨.bl _,H,I.tok _,rfl,q⟩
theorem DN:BP X (.builtin "len") (λ xs H Q=>∃a ys,xs=[V.ref a]/\NdAt X.prog X.w H a ys/\Q (.int ys.length) H):=by
 intro pins s σ H xs us Q I r h;obtain⟨a,ys,rfl,nd,q⟩:=h;cases r with
 |cons r1 t =>
  cases t;cases r1;have dd:=nd.dict I.hok;have ty:=dd.typeIs;obtain⟨o,es,ep,h1,h2,h3,h4,_⟩:=dd;have hl:es.size=ys.length:=by rw[<-aV,h4,aa]
  have h5:=nd.2.2.1;refine QM nd.2.1 ty h1 h3 (by lia) ?_;rw[hl];exact⟨.int ys.length,H,(I.tok _),⟨_,rfl⟩,q⟩
def Tk(P:Program)(w:World)(td ty tv:TE):TS:=λ D σ H=>tv σ H λ v H1=>td σ H1 λ x H2=>ty σ H2 λ y H3=>∃a b xs k,v=.bl true/\x=.ref a/\y=.ref b/\NdAt P w H3 a xs/\NAt H3 b k/\xs.length<1000 /\
 (NdAt P w (upd H3 a (NdO P w a (storedH xs k b (.bool true)))) a (storedH xs k b (.bool true))->(∀c n,H3 c=some (CM c n)->c≠a)->D.nx σ (upd H3 a (NdO P w a (storedH xs k b (.bool true)))))
theorem M4(hu:X.A.units+2<cLine)(ho:PE X o td)(hi:PE X i ty)(hv:PE X value tv)(hs:swapsWith value (some (.Subscript o i pos')) pos.line X.env=pure false) :
  PS X (.Assign [.Subscript o i pos'] value pos) (Tk X.prog X.w td ty tv):=by
 intro pins s σ H D I h;refine wpAny_Assign_Subscript (thn (hv pins s σ H _ I h) λ r s1 hz_=>?_) hs;obtain⟨v,H1,I1,rv,q1⟩:=hz_;refine thn (ho pins s1 σ H1 _ I1 q1) λ u s2 hz_=>?_;obtain⟨x,H2,I2,rx,q2⟩:=hz_;refine thn (hi pins s2 σ H2 _ I2 q2) λ iv s3 hz_=>?_;obtain⟨y,H3,I3,ry,a,b,xs,k,rfl,rfl,rfl,nd,nk,hl,q3⟩:=hz_;cases rv;cases rx;cases ry;have hz:xs.length<=sizeLine:=aM (Al (aM hl));have ht:∀c ys,H3 c=some (.tup ys)->upd H3 a (NdO X.prog X.w a (storedH xs k b (.bool true))) c=some (.tup ys):=λ c ys q=>by
  rw[Af (AR q nd.1 (λ z=>nomatch z))];exact q
 refine wpAny_setItem_heap (knd:=Cl (Ay X.prog X.w)) (hsz:=hz) (show X.A.units+1+1<cLine from hu) (JN I3.hok nk) (nd.dict I3.hok) λ h' dd' hs=>?_;have hq:∃q,h'.get? a=some q:=let ⟨q,_,_,hq,_⟩:=dd';⟨q,hq⟩;have nod:((storedH xs k b (Value.bool true)).map (·.1)).Nodup:=let ⟨_,_,_,_,_,_,_,_,h5⟩:=dd';h5;have ln:(storedH xs k b (Value.bool true)).length<=1000:=by
  unfold storedH;split
  .rw[aa];lia
  .rw[av,aX];lia
 refine⟨σ,_,Gz I3 (by rw[nd.1];exact True.intro) hs hq (Pn dd'),q3 ⟨Ad,nd.2.1,ln,nod,λ x hx=>?_⟩ ?_⟩
 .refine NAt.keep ht ?_;unfold storedH at hx;split at hx
  .obtain⟨z,hz',rfl⟩:=az.mp hx;unfold putAt;split
   .exact nd.2.2.2.2 z hz'
   .exact nd.2.2.2.2 z hz'
  .rcases aF.mp hx with hx|hx
   .exact nd.2.2.2.2 x hx
   .cases ai.mp hx;exact nk
 .intro c n hc z;subst z;obtain⟨⟨o',vs,t,g1,g2,_⟩,_⟩:=(show ObjOk X.prog X.w H3 s3.heap c (CM c n) from I3.hok c _ hc);obtain⟨o,es,ep,h1,_,h3,_⟩:=nd.dict I3.hok;obtain rfl:o'=o:=Option.some.inj (g1.symm.trans h1);rw[h3]at g2;exact nomatch g2
end
end L2
namespace K44
open PySem.W
open PySem L2 GB
def top(i:Nat):Stmt:=PySem.Challenge.pw_glazebench_k44_whole_all_panels_of_a_siz.main.body.getD i (.Pass ⟨0,0,0,0⟩)
abbrev Ei:Stmt:=top 14
abbrev Fi:Stmt:=top 15
abbrev Cc:Stmt:=top 16
abbrev GO:Stmt:=top 17
abbrev CO:Stmt:=top 18
abbrev C1:Stmt:=top 19
abbrev C2:Stmt:=top 20
abbrev Bv:Stmt:=top 21
abbrev BI:Stmt:=top 22
abbrev CS:Stmt:=AC (top 23) 0
abbrev C3:Stmt:=AC (top 23) 1
abbrev Cz:Stmt:=top 31
abbrev Cd:Stmt:=top 32
abbrev BG:Stmt:=top 33
abbrev BJ:Stmt:=top 36
abbrev BZ:Stmt:=top 37
abbrev BH:Stmt:=top 38
abbrev Bt:Stmt:=top 39
abbrev J0:Stmt:=top 40
abbrev Bj:Stmt:=AC (top 46) 0
abbrev Cf:Stmt:=AC (top 47) 0
abbrev CT:Stmt:=AC (top 48) 0
abbrev Ej:Stmt:=top 52
abbrev Dr:Stmt:=top 53
abbrev CP:Stmt:=top 54
abbrev C0:Stmt:=top 55
abbrev Cy:Stmt:=top 56
abbrev Dv:Stmt:=top 70
abbrev Ba:Stmt:=top 71
abbrev Fh:Stmt:=top 76
abbrev Dw:Stmt:=top 78
abbrev BF:Stmt:=top 79
abbrev Du:Stmt:=top 80
abbrev BE:Stmt:=top 81
abbrev Ca:Stmt:=top 82
abbrev B3:Stmt:=top 83
abbrev CQ:Stmt:=top 84
abbrev Cw:Stmt:=top 85
abbrev Cb:Stmt:=top 86
abbrev Ed:Stmt:=top 87
abbrev Ef:Stmt:=top 88
abbrev Eg:Stmt:=top 89
abbrev Eh:Stmt:=top 90
abbrev Ee:Stmt:=top 91
abbrev AW:Stmt:=top 92
abbrev Bs:Stmt:=top 93
abbrev Dt:Stmt:=top 94
abbrev Fj:Stmt:=top 96
abbrev Bw:Stmt:=top 97
abbrev Dx:Stmt:=top 98
abbrev Ce:Stmt:=top 99
abbrev Bb:Stmt:=top 100
abbrev Ct:Stmt:=top 101
theorem nw{H:Hp}{c:Addr}(o:HO)(n:H c=none):∃G,upd H c o=G/\Same H G/\G c=some o:=⟨_,rfl,Same.new n,Ad⟩
def Dk:V->Bool
 |.int _=>true
 |_=>false
def Ko:V->Bool
 |.int i=>decide (1<=i)&&decide (i<=12)
 |_=>false
def IJ:LUz->Bool
 |[.int a,.int b,.int c,.int d]=>decide (0<=a)&&decide (a<c)&&(decide (0<=b)&&decide (b<d))
 |_=>false
def Ty(H:Hp)(v:V):Prop:=∃T,tyS H v=some T
theorem Ov{H H':Hp}(s:Same H H'){v:V}{T:String}(h:tyS H v=some T):tyS H' v=some T:=by
 cases v with
 |ref a =>
  have h:tyO (H a)=some T:=h;show tyO (H' a)=some T;cases e:H a with
  |none=>rw[e]at h;cases h
  |some o=>rw[e]at h;rw[s a o e];exact h
 |_=>exact h
theorem Ty.same{H H':Hp}(s:Same H H'){v:V}(h:Ty H v):Ty H' v:=let ⟨T,e⟩:=h;⟨T,Ov s e⟩
theorem Kh{H:Hp}{v:V}{T:String}(h:tyS H v=some T):(isB T "int"=true->(!isB T "bool")=Dk v)/\(isB T "int"=false->false=Dk v):=by
 cases v with
 |non=>cases h;exact⟨λ z=>absurd z (by decide),λ_=>rfl⟩
 |bl b=>cases h;exact⟨λ_=>by show(!isB "bool" "bool")=false;decide,λ z=>absurd z (by decide)⟩
 |int i=>cases h;exact⟨λ_=>by show(!isB "int" "bool")=true;decide,λ z=>absurd z (by decide)⟩
 |str x=>cases h;exact⟨λ z=>absurd z (by decide),λ_=>rfl⟩
 |byt b=>cases h
 |flt b=>cases h
 |ty n=>cases h
 |ref a =>
  have key:T="list"\/T="tuple"\/T="dict":=by
   have h:tyO (H a)=some T:=h;unfold tyO at h;split at h<;>first|(cases h;simp)|cases h
  rcases key with rfl|rfl|rfl<;>exact⟨λ z=>absurd z (by decide),λ_=>rfl⟩
theorem RI{H:Hp}{a:Addr}{xs:LUz}(h:H a=some (.tup xs)):tyS H (.ref a)=some "tuple":=by
 show tyO (H a)=some "tuple";rw[h];rfl
abbrev D9(a b c d:Int):LUz:=[.int a,.int b,.int c,.int d]
def QR(a0 a1 a2 a3 o0 o1 o2 o3:Int):Bool:=decide (o0<=a0)&&decide (o1<=a1)&&(decide (a2<=o2)&&decide (a3<=o3))
def At(H:Hp)(ts:List (Addr×Rc)):Prop:=∀t∈ts,H t.1=some (.tup (D9 t.2.t t.2.l t.2.b t.2.r))
theorem At.same{H H':Hp}{ts:List (Addr×Rc)}(a:At H ts)(s:Same H H'):At H' ts:=λ t h=>s _ _ (a t h)
abbrev A9{α:Type}(ts:List (Addr×α)):LUz:=ts.map λ t=>V.ref t.1
abbrev rcs(ts:List (Addr×Rc)):List Rc:=ts.map (·.2)
theorem Bx{α:Type}{ts:List (Addr×α)}{i:Nat}{x:V}(h:(A9 ts)[i]?=some x):∃t,ts[i]?=some t/\x=.ref t.1:=by
 rw[ay]at h;cases e:ts[i]? with
 |none=>rw[e]at h;cases h
 |some t=>rw[e]at h;exact⟨t,rfl,(Option.some.inj h).symm⟩
def HE(w h:Int)(ls ld:Addr):LFz:=AZ "by_square" (.ref ld) (AZ "sorted_panes" (.ref ls) (AZ "height" (.int h) (AZ "width" (.int w) [])))
theorem F3(w h:Int)(ls ld:Addr):(HE w h ls ld).lookup ("width":Str)=some (.int w):=by
 unfold HE;rw[A3,if_neg (by decide +kernel),A3,if_neg (by decide +kernel),A3,if_neg (by decide +kernel),A3,if_pos rfl]
theorem F4(w h:Int)(ls ld:Addr):(HE w h ls ld).lookup ("height":Str)=some (.int h):=by
 unfold HE;rw[A3,if_neg (by decide +kernel),A3,if_neg (by decide +kernel),A3,if_pos rfl]
theorem SB(w h:Int)(ls ld:Addr):(HE w h ls ld).lookup ("sorted_panes":Str)=some (.ref ls):=by
 unfold HE;rw[A3,if_neg (by decide +kernel),A3,if_pos rfl]
theorem Re(w h:Int)(ls ld:Addr){m:Str}(h1:¬m="by_square")(h2:¬m="sorted_panes")(h3:¬m="height")(h4:¬m="width"):(HE w h ls ld).lookup m=none:=by
 unfold HE;rw[A3,if_neg h1,A3,if_neg h2,A3,if_neg h3,A3,if_neg h4];rfl
abbrev sqK(r c:Int):List Key:=[Sum.inl r,Sum.inl c]
theorem Mn{r c r' c':Int}(h:sqK r c=sqK r' c'):r=r'/\c=c':=by
 injection h with h1 h2;injection h2 with h2 _;exact⟨Sum.inl.inj h1,Sum.inl.inj h2⟩
structure PanelAt(C:Addr)(H:Hp)(a:Addr)(w h:Int)(ts:List (Addr×Rc))(dx ls ld:Addr)(kvs:LKz):Prop where
 ob:H a=some (.ins C dx (HE w h ls ld))
 lst:H ls=some (.lst (A9 ts))
 dic:H ld=some (.dT kvs)
 ats:At H ts
 til:Tiles w h (rcs ts)
 few:ts.length<=52
 srt:Srt (rcs ts)
 look:∀r c,0<=r->r<h->0<=c->c<w->∃t∈ts,AV kvs (sqK r c)=some (.ref t.1)/\t.2.has r c
 sw:1<=w/\w<=12
 sh:1<=h/\h<=12
theorem PanelAt.same{C:Addr}{H H':Hp}{a:Addr}{w h:Int}{ts:List (Addr×Rc)}{dx ls ld:Addr}{kvs:LKz}(p:PanelAt C H a w h ts dx ls ld kvs)(s:Same H H'):PanelAt C H' a w h ts dx ls ld kvs :=
 ⟨s _ _ p.ob,s _ _ p.lst,s _ _ p.dic,p.ats.same s,p.til,p.few,p.srt,p.look,p.sw,p.sh⟩
def Dm:Sp:=λ vs H Q _=>∃v,vs=[v]/\Ty H v/\Q (.bl (Dk v)) H
def Mp:Sp:=λ vs H Q _=>∃v,vs=[v]/\Ty H v/\Q (.bl (Ko v)) H
def Mq:Sp:=λ vs H Q _=>∃v,vs=[v]/\((∃a xs,v=.ref a/\H a=some (.tup xs)/\xs.length<=100/\(∀x∈xs,Ty H x)/\∀H',Same H H'->Q (.bl (IJ xs)) H')\/∃T,tyS H v=some T/\T≠"tuple"/\Q (.bl false) H)
def Ff:Sp:=λ vs H Q _=>∃a b a0 a1 a2 a3 o0 o1 o2 o3,vs=[.ref a,.ref b]/\H a=some (.tup (D9 a0 a1 a2 a3))/\H b=some (.tup (D9 o0 o1 o2 o3))/\Q (.bl (QR a0 a1 a2 a3 o0 o1 o2 o3)) H
inductive FV(vs:LUz)(H:Hp)(Q:VK)(E:XK):Prop
 |mk (a:Addr) (p:Rc) (h0:vs=[.ref a]) (h1:H a=some (.tup (D9 p.t p.l p.b p.r))) (h2:0<=p.t) (h3:p.t<=p.b) (h4:p.b<=12) (h5:0<=p.l) (h6:p.l<=p.r) (h7:p.r<=12) (h8:∀(l:Addr)(sq:List (Addr×(Int×Int)))(H':Hp),Same H H'->H l=none->H' l=some (.lst (sq.map λ s=>V.ref s.1))->(∀s∈sq,H' s.1=some (.tup [.int s.2.1,.int s.2.2]))->sq.map (·.2)=sqs p->Q (.ref l) H'):FV vs H Q E
def DZ:Sp:=λ vs H Q E=>FV vs H Q E
inductive Dg(vs:LUz)(H:Hp)(Q:VK)(E:XK):Prop
 |mk (w h:Int) (h0:vs=[.int w,.int h]) (h1:(1<=w/\w<=12)) (h2:(1<=h/\h<=12)) (h3:∀H',Same H H'->Q .non H'):Dg vs H Q E
def Dp:Sp:=λ vs H Q E=>Dg vs H Q E
inductive Dh(K:Frag)(vs:LUz)(H:Hp)(Q:VK)(E:XK):Prop
 |mk (l sh:Addr) (w h:Int) (ts:List (Addr×Rc)) (h0:vs=[.ref l,.ref sh]) (h1:SqL K H l (A9 ts)) (h2:At H ts) (h3:H sh=some (.tup (D9 0 0 h w))) (h4:(∀p∈rcs ts,p.In w h)) (h5:ts.length<=52) (h6:∀H',Same H H'->Q .non H'):Dh K vs H Q E
def Dq(K:Frag) :Sp:=λ vs H Q E=>Dh K vs H Q E
inductive DX(K:Frag)(vs:LUz)(H:Hp)(Q:VK)(E:XK):Prop
 |mk (l:Addr) (w h:Int) (ts:List (Addr×Rc)) (h0:vs=[.ref l]) (h1:SqL K H l (A9 ts)) (h2:At H ts) (h3:(∀p∈rcs ts,p.In w h)) (h4:(rcs ts).Pairwise Apart) (h5:ts.length<=52) (h6:w<=12) (h7:h<=12) (h8:∀(d:Addr)(kvs:LKz)(H':Hp),Same H H'->H d=none->H' d=some (.dT kvs)->(∀t∈ts,∀r c,t.2.has r c->AV kvs (sqK r c)=some (.ref t.1))->Q (.ref d) H'):DX K vs H Q E
def E9(K:Frag) :Sp:=λ vs H Q E=>DX K vs H Q E
inductive Cv(vs:LUz)(H:Hp)(Q:VK)(E:XK):Prop
 |mk (d sh:Addr) (w h:Int) (kvs:LKz) (h0:vs=[.ref d,.ref sh]) (h1:H d=some (.dT kvs)) (h2:H sh=some (.tup (D9 0 0 h w))) (h3:(1<=w/\w<=12)) (h4:(1<=h/\h<=12)) (h5:(∀r c,0<=r->r<h->0<=c->c<w->AV kvs (sqK r c)≠none)) (h6:∀H',Same H H'->Q .non H'):Cv vs H Q E
def CD:Sp:=λ vs H Q E=>Cv vs H Q E
inductive Jr(K:Frag)(C:Addr)(vs:LUz)(H:Hp)(Q:VK)(E:XK):Prop
 |mk (a dx l:Addr) (w h:Int) (ts:List (Addr×Rc)) (h0:vs=[.ref a,.int w,.int h,.ref l]) (h1:H a=some (.ins C dx [])) (h2:SqL K H l (A9 ts)) (h3:At H ts) (h4:Tiles w h (rcs ts)) (h5:ts.length<=52) (h6:(1<=w/\w<=12)) (h7:(1<=h/\h<=12)) (h8:∀(ts':List (Addr×Rc))(ls ld:Addr)(kvs:LKz)(H':Hp),SameX a H H'->ts'.Perm ts->PanelAt C H' a w h ts' dx ls ld kvs->Q .non H'):Jr K C vs H Q E
def GJ(K:Frag)(C:Addr) :Sp:=λ vs H Q E=>Jr K C vs H Q E
inductive Jl(C:Addr)(vs:LUz)(H:Hp)(Q:VK)(E:XK):Prop
 |mk (a dx ls ld:Addr) (w h:Int) (ts:List (Addr×Rc)) (kvs:LKz) (h0:vs=[.ref a]) (h1:PanelAt C H a w h ts dx ls ld kvs) (h2:∀l,H l=none->Q (.ref l) (upd H l (.lst (A9 ts)))):Jl C vs H Q E
def E8(C:Addr) :Sp:=λ vs H Q E=>Jl C vs H Q E
structure Txt(mg:MGz)(tk:Tok×Tok×Tok×Tok×Tok×Tok×Tok×Tok×Tok):Prop where
 z_isinstance:mg "isinstance"=none
 z_int:mg "int"=none
 z_bool:mg "bool"=none
 z_tuple:mg "tuple"=none
 z_list:mg "list"=none
 z_len:mg "len"=none
 z_range:mg "range"=none
 z_all:mg "all"=none
 z_any:mg "any"=none
 z_sorted:mg "sorted"=none
 z_reversed:mg "reversed"=none
 z_max:mg "max"=none
 z_enumerate:mg "enumerate"=none
 z_sum:mg "sum"=none
 z_set:mg "set"=none
 z_divmod:mg "divmod"=none
 z_abs:mg "abs"=none
 g_LONGEST_SIDE:mg "LONGEST_SIDE"=some (.int 12 tk.1)
 g_MOST_PANES:mg "MOST_PANES"=some (.int 52 tk.2.1)
 g_WHOLE:mg "WHOLE"=some (.str "whole" tk.2.2.1)
 g_UPRIGHT_cuts:mg "UPRIGHT_cuts"=some (.str "upright" tk.2.2.2.1)
 g_LEVEL_cuts:mg "LEVEL_cuts"=some (.str "level" tk.2.2.2.2.1)
 g_TOP:mg "TOP"=some (.int 0 tk.2.2.2.2.2.1)
 g_LEFT:mg "LEFT"=some (.int 1 tk.2.2.2.2.2.2.1)
 g_ROOM:mg "ROOM"=some (.str "room" tk.2.2.2.2.2.2.2.1)
 g_LONGEST_COUNTED:mg "LONGEST_COUNTED"=some (.int 4 tk.2.2.2.2.2.2.2.2)
structure Qd(K:Frag)(C:Addr):Prop where
 cl:Cls K C
 n_width:NoAttr K C "width"
 n_height:NoAttr K C "height"
 n_sorted_panes:NoAttr K C "sorted_panes"
 n_by_square:NoAttr K C "by_square"
section
variable{P:Program}{w:World}{K:Frag}{mg:MGz}{base:Heap}{tk:Tok×Tok×Tok×Tok×Tok×Tok×Tok×Tok×Tok}{cT cW cU cL C:Addr}
def nth(b:List Stmt)(i:Nat):Stmt:=b.getD i (.Pass ⟨0,0,0,0⟩)
def JT:Stmt->List Stmt
 |.For _ _ b _ _=>b
 |_=>[]
theorem KC{f:Addr}{fd:FuncData}(F:Fun K "is_whole" "is_whole" Ei f fd)(T:Txt mg tk):A2 P w K mg base CX0 1 f fd ["thing"] Dm:=by
 have S:Ak ["thing"] ["thing"] (Ai Ei):=fsk;refine F.g S ?_;rintro vs H Q E ⟨v,rfl,⟨T',hT⟩,q⟩;refine⟨rfl,λ cdv A outer s hr=>?_⟩;refine⟨_,(Ah (Aq (C5 (Av F9 rfl T.z_isinstance rfl (Aa (pv 0) (Aa (JA (v:=.ty "int") rfl T.z_int rfl rfl) Ac))) (CV (OQ (Av F9 rfl T.z_isinstance rfl (Aa (pv 0) (Aa (JA (v:=.ty "bool") rfl T.z_bool rfl rfl) Ac)))))))),?_⟩;refine⟨v,rfl,v,T',"int",rfl,hT,.inl rfl,_,rfl,B0 (λ h=>?_) (λ h=>?_)⟩
 .refine⟨v,rfl,v,T',"bool",rfl,hT,.inr (.inl rfl),_,rfl,?_⟩;rw[(Kh hT).1 h];exact q
 .show Q (.bl false) H;rw[(Kh hT).2 h];exact q
theorem LP{f:Addr}{fd:FuncData}(F:Fun K "is_side" "is_side" Fi f fd)(T:Txt mg tk)(D_is_whole:Ao P w K mg base 1 "is_whole" ["thing"] Dm):A2 P w K mg base CX0 2 f fd ["thing"] Mp:=by
 have S:Ak ["thing"] ["thing"] (Ai Fi):=fsk;refine F.g S ?_;rintro vs H Q E ⟨v,rfl,hv,q⟩;refine⟨rfl,λ cdv A outer s hr=>?_⟩;refine⟨_,(Ah (Aq (C5 (Ap D_is_whole hr (Aa (pv 0) Ac)) (CV (EJ BN BN Ae (pv 0) (AI (v:=.int 12) rfl T.g_LONGEST_SIDE ⟨_,rfl⟩)))))),?_⟩;refine⟨v,rfl,v,rfl,hv,_,rfl,B0 (λ h=>?_) (λ h=>?_)⟩
 .obtain⟨i,rfl⟩:∃i,v=.int i:=by cases v<;>first|exact⟨_,rfl⟩|cases h
  refine⟨_,rfl,_,_,rfl,rfl,_,rfl,B0 (λ h1=>?_) (λ h1=>?_)⟩
  .refine⟨_,_,rfl,rfl,?_⟩;have e:Ko (.int i)=decide (i<=12):=by
    show(decide (1<=i)&&decide (i<=12))=_;rw[h1];rfl
   show Q (.bl (decide (i<=12))) H;rw[<-e];exact q
  .have e:Ko (.int i)=false:=by
    show(decide (1<=i)&&decide (i<=12))=_;rw[h1];rfl
   show Q (.bl false) H;rw[<-e];exact q
 .have e:Ko v=false:=by cases v<;>first|rfl|cases h
  show Q (.bl false) H;rw[<-e];exact q
theorem at0{x0 x1 x2 x3:V}:atI [x0,x1,x2,x3] 0=some x0:=rfl
theorem at1{x0 x1 x2 x3:V}:atI [x0,x1,x2,x3] 1=some x1:=rfl
theorem at2{x0 x1 x2 x3:V}:atI [x0,x1,x2,x3] 2=some x2:=rfl
theorem at3{x0 x1 x2 x3:V}:atI [x0,x1,x2,x3] 3=some x3:=rfl
theorem Ra:∀{xs:LUz},xs.length=4->(xs.map Dk).all id=true->∃a b c d,xs=D9 a b c d
 |[x0,x1,x2,x3],_,h=>by
  simp only[aA,cj,dz,List.all_nil,id,ez,aE]at h;obtain⟨h0,h1,h2,h3⟩:=h;have g:∀{x:V},Dk x=true->∃i,x=.int i:=λ{x} h=>by cases x<;>first|exact⟨_,rfl⟩|cases h
  obtain⟨a,rfl⟩:=g h0;obtain⟨b,rfl⟩:=g h1;obtain⟨c,rfl⟩:=g h2;obtain⟨d,rfl⟩:=g h3;exact⟨a,b,c,d,rfl⟩
theorem M0{xs:LUz}(h:∀a b c d,xs≠D9 a b c d):IJ xs=false:=by
 unfold IJ;split
 .exact absurd rfl (h _ _ _ _)
 .rfl
theorem UM{n:Nat}:(!decide (V.int (n:Int)=V.int 4))=true->n≠4:=λ h e=>by
 subst e;have:decide (V.int ((4:Nat):Int)=V.int 4)=true:=decI.mpr rfl;rw[this]at h;cases h
theorem TW{n:Nat}:(!decide (V.int (n:Int)=V.int 4))=false->n=4:=λ h=>by
 have e:decide (V.int (n:Int)=V.int 4)=true:=by
  cases z:decide (V.int (n:Int)=V.int 4) with
  |true=>rfl
  |false=>rw[z]at h;cases h
 have:=decI.mp e;lia
theorem Nt{xs:LUz}{i:Nat}{x:V}(h:xs[i]?=some x){f:V->V}:(xs.take i).map f++[f x]=(xs.take (i+1)).map f:=by
 rw[aK,h,aj];rfl
theorem Gh{f:Addr}{fd:FuncData}(F:Fun K "is_rectangle" "is_rectangle" Cc f fd)(T:Txt mg tk)(D_is_whole:Ao P w K mg base 1 "is_whole" ["thing"] Dm):A2 P w K mg base CX0 2 f fd ["thing"] Mq:=by
 have S:Ak ["thing"] ["thing"] (Ai Cc):=fsk;refine F.g S ?_;rintro vs H Q E ⟨v,rfl,h⟩;refine⟨rfl,λ cdv A outer s hr=>?_⟩;refine⟨_,(Ab (AG (PW.pt (GP (Cg (BK (Av F9 rfl T.z_isinstance rfl (Aa (pv 0) (Aa (JA (v:=.ty "tuple") rfl T.z_tuple rfl rfl) Ac))))) (Fn (Aw Pb (Av AS rfl T.z_len rfl (Aa (pv 0) Ac)) Ae (Az _))))) (Ah (Aq FJ)) Ax)
  (Ab (AG (Cg (BK (Av PV rfl T.z_all rfl (Aa (Bk rfl (LM (pv 0)) (λ_ _ _ _ _=>pgk (nk ["part"])) (λ_ _ _ _ _=>(Ap D_is_whole hr (Aa (pv 0) Ac))) (N:=["part"]) (fr:=[none])) Ac)))) (Ah (Aq FJ)) Ax)
  (Ah (Aq (C5 (EJ BN Df Ae (As Ar (pv 0) Ae (λ_ _=>rfl)) (As Ar (pv 0) Ae (λ_ _=>rfl))) (CV (EJ BN Df Ae (As Ar (pv 0) Ae (λ_ _=>rfl)) (As Ar (pv 0) Ae (λ_ _=>rfl))))))))),?_⟩
 rcases h with ⟨a,xs,rfl,ha,hlen,hx,q⟩|⟨T',hT,hne,q⟩
 .refine⟨_,rfl,_,"tuple","tuple",rfl,RI ha,.inr (.inr (.inl rfl)),_,rfl,Bm (by rw[S2];rfl) ?_⟩;refine⟨_,rfl,a,xs,rfl,.inr (SqT.of ha),rfl,_,rfl,B0 (λ h=>?_) (λ h=>?_)⟩
  .have e:IJ xs=false:=M0 λ a b c d z=>UM h (by rw[z];rfl);show Q (.bl false) H;rw[<-e];exact q H (Same.refl H)
  .have h4:=TW h;refine⟨_,rfl,a,rfl,⟨xs,SqT.of ha⟩,λ acc hacc=>PR (K:=K) (a:=a) (ys:=xs) (λ i zs σ H'=>(∃y,σ=[y])/\Same H H'/\zs=(xs.take i).map λ x=>V.bl (Dk x)) ⟨⟨none,rfl⟩,Same.new hacc,rfl⟩
    (λ i zs σ H' _ _ hp=>SqT.of (hp.2.1 _ _ ha)) ?_ ?_⟩
   .rintro i x zs σ H' hxi hi hl hacc' ⟨⟨y,rfl⟩,hs,hzs⟩;refine⟨x,rfl,x,rfl,(hx x (ax hxi)).same hs,cNx.mk (aM (Al (by lia))) hi hl hacc' ⟨⟨_,rfl⟩,λ b o e=>?_,?_⟩⟩
    .rw[Af (Ag e hacc)];exact hs b o e
    .rw[hzs];exact Nt (f:=λ x=>V.bl (Dk x)) hxi
   .rintro zs σ H' hl hacc' ⟨_,hs,hzs⟩;refine⟨acc,xs.map Dk,rfl,SqL.of (by rw[hacc',hzs,aH,aJ];rfl),rfl,_,rfl,B0 (λ h=>?_) (λ h=>?_)⟩
    .have e:IJ xs=false:=M0 λ a b c d z=>by subst z;cases h
     show Q (.bl false) H';rw[<-e];exact q H' hs
    .obtain⟨a0,a1,a2,a3,rfl⟩:=Ra h4 (by simpa using h);have ha':=hs _ _ ha;have key:Q (.bl (decide (0<=a0)&&decide (a0<a2)&&(decide (0<=a1)&&decide (a1<a3)))) H':=q H' hs;refine⟨_,rfl,a,_,_,_,rfl,rfl,SqT.of ha',at0,_,_,rfl,rfl,_,rfl,B0 (λ h1=>?_) (λ h1=>?_)⟩
     .refine⟨_,rfl,a,_,_,_,rfl,rfl,SqT.of ha',at2,_,_,rfl,rfl,_,rfl,B0 (λ h2=>?_) (λ h2=>?_)⟩
      .refine⟨_,rfl,a,_,_,_,rfl,rfl,SqT.of ha',at1,_,_,rfl,rfl,_,rfl,B0 (λ h3=>?_) (λ h3=>?_)⟩
       .refine⟨_,rfl,a,_,_,_,rfl,rfl,SqT.of ha',at3,_,_,rfl,rfl,?_⟩;rw[h1,h2,h3]at key;exact key
       .show Q (.bl false) H';rw[h1,h2,h3]at key;exact key
      .show Q (.bl false) H';rw[h1,h2]at key;exact key
     .refine⟨_,rfl,Px ?_⟩;show Q (.bl false) H';rw[h1]at key;exact key
 .refine⟨_,rfl,_,T',"tuple",rfl,hT,.inr (.inr (.inl rfl)),_,rfl,Cq ?_ (S1 q)⟩;have e:isB T' "tuple"=false:=by
   unfold isB;rw[decide_eq_false hne];simp
  rw[e];rfl
theorem ND{f:Addr}{fd:FuncData}(F:Fun K "inside" "inside" GO f fd):A2 P w K mg base CX0 1 f fd ["one","other"] Ff:=by
 have S:Ak ["one","other","starts_within"] ["one","other"] (Ai GO):=fsk;refine F.g S ?_;rintro vs H Q E ⟨a,b,a0,a1,a2,a3,o0,o1,o2,o3,rfl,ha,hb,q⟩;refine⟨rfl,λ cdv A outer s hr=>?_⟩;refine⟨_,(Ab (Am (i:=2) S.nd rfl (ar rfl) (C5 (BR BN (As Ar (pv 1) Ae (λ_ _=>rfl)) (As Ar (pv 0) Ae (λ_ _=>rfl)) (Az _)) (CV (BR BN (As Ar (pv 1) Ae (λ_ _=>rfl)) (As Ar (pv 0) Ae (λ_ _=>rfl)) (Az _)))))
  (Ah (Aq (C5 (pv 2) (C5 (BR BN (As Ar (pv 0) Ae (λ_ _=>rfl)) (As Ar (pv 1) Ae (λ_ _=>rfl)) (Az _)) (CV (BR BN (As Ar (pv 0) Ae (λ_ _=>rfl)) (As Ar (pv 1) Ae (λ_ _=>rfl)) (Az _)))))))),?_⟩
 have key:Q (.bl (decide (o0<=a0)&&decide (o1<=a1)&&(decide (a2<=o2)&&decide (a3<=o3)))) H:=q;refine⟨_,rfl,b,_,_,_,rfl,rfl,SqT.of hb,at0,_,rfl,a,_,_,_,rfl,rfl,SqT.of ha,at0,_,_,rfl,rfl,_,rfl,B0 (λ h1=>?_) (λ h1=>?_)⟩
 .refine⟨_,rfl,b,_,_,_,rfl,rfl,SqT.of hb,at1,_,rfl,a,_,_,_,rfl,rfl,SqT.of ha,at1,_,_,rfl,rfl,?_⟩;refine⟨_,rfl,_,rfl,B0 (λ h2=>?_) (λ h2=>?_)⟩
  .refine⟨_,rfl,a,_,_,_,rfl,rfl,SqT.of ha,at2,_,rfl,b,_,_,_,rfl,rfl,SqT.of hb,at2,_,_,rfl,rfl,_,rfl,B0 (λ h3=>?_) (λ h3=>?_)⟩
   .refine⟨_,rfl,a,_,_,_,rfl,rfl,SqT.of ha,at3,_,rfl,b,_,_,_,rfl,rfl,SqT.of hb,at3,_,_,rfl,rfl,?_⟩;rw[h1,h2,h3]at key;exact key
   .show Q (.bl false) H;rw[h1,h2,h3]at key;exact key
  .show Q (.bl false) H;rw[h1,h2]at key;exact key
 .refine⟨_,rfl,_,rfl,Px ?_⟩;show Q (.bl false) H;rw[h1]at key;exact key
theorem Po{i m:Nat}(h1:i<=12)(h2:m<=12):i*m<=144:=dm h1 h2
theorem Im{f:Addr}{fd:FuncData}(F:Fun K "squares_of" "squares_of" CO f fd)(T:Txt mg tk):A2 P w K mg base CX0 1 f fd ["rectangle"] DZ:=by
 have S:Ak ["rectangle","squares","row","column"] ["rectangle"] (Ai CO):=fsk;refine F.g S ?_;rintro vs H Q E ⟨a,p,rfl,ha,g1,g2,g3,g4,g5,g6,q⟩;refine⟨rfl,λ cdv A outer s hr=>?_⟩;refine⟨_,(Ab (Am (i:=1) S.nd rfl (ar rfl) (AY Ac))
  (Ab (A4 PassesOwn.never rfl (AH rfl T.z_range (Aa (As Ar (pv 0) Ae (λ_ _=>rfl)) (Aa (As Ar (pv 0) Ae (λ_ _=>rfl)) Ac))) (Aj (i:=2) S.nd rfl (ar rfl)) (Ah (A4 PassesOwn.never rfl (AH rfl T.z_range (Aa (As Ar (pv 0) Ae (λ_ _=>rfl)) (Aa (As Ar (pv 0) Ae (λ_ _=>rfl)) Ac))) (Aj (i:=3) S.nd rfl (ar rfl)) (Ah (AQ (CW (pv 1) (Aa (AB (Aa (pv 2) (Aa (pv 3) Ac))) Ac)))))))
  (Ah (Aq (pv 1))))),?_⟩
 refine⟨A1 0,λ l hl=>?_⟩;have ha0:(upd H l (.lst [])) a=some (.tup (D9 p.t p.l p.b p.r)):=Same.new hl _ _ ha;refine⟨_,rfl,a,_,_,_,rfl,rfl,SqT.of ha0,at0,_,rfl,a,_,_,_,rfl,rfl,SqT.of ha0,at2,p.t,p.b,rfl,⟨by lia,by lia,by lia,by lia⟩,
  AD (lo:=p.t) (n:=(p.b-p.t).toNat) (λ i σ H'=>∃x y,∃sq:List (Addr×(Int×Int)),σ=[some (.ref a),some (.ref l),x,y]/\Same H H'/\H' l=some (.lst (sq.map λ s=>V.ref s.1))/\(∀s∈sq,H' s.1=some (.tup [.int s.2.1,.int s.2.2]))/\sq.map (·.2)=Gb p i)
   ⟨none,none,[],rfl,Same.new hl,Ad,λ s hs=>(nomatch hs),rfl⟩ ?_ ?_⟩
 .rintro i σ H' hi ⟨x,y,sq,rfl,hs,hlst,hsq,hmap⟩;have ha':=hs _ _ ha;refine⟨_,rfl,a,_,_,_,rfl,rfl,SqT.of ha',at1,_,rfl,a,_,_,_,rfl,rfl,SqT.of ha',at3,p.l,p.r,rfl,⟨by lia,by lia,by lia,by lia⟩,
   AD (lo:=p.l) (n:=(p.r-p.l).toNat) (λ j σ H2=>∃y,∃sq:List (Addr×(Int×Int)),σ=[some (.ref a),some (.ref l),some (.int (p.t+i)),y]/\Same H H2/\H2 l=some (.lst (sq.map λ s=>V.ref s.1))/\(∀s∈sq,H2 s.1=some (.tup [.int s.2.1,.int s.2.2]))/\sq.map (·.2)=Gb p i++De p i j)
    ⟨y,sq,rfl,hs,hlst,hsq,by rw[hmap];simp[De]⟩ ?_ ?_⟩
  .rintro j σ H2 hj ⟨y,sq,rfl,hs2,hl2,hq2,hm2⟩;refine⟨_,rfl,.inl ⟨rfl,_,SqL.of hl2⟩,_,rfl,_,rfl,A1 2,λ t ht=>?_⟩;have nlt:l≠t:=Ag hl2 ht;have hlen:sq.length<=288:=by
    have e:=congrArg List.length hm2;rw[aa,av,G9,De,aa,cz]at e;have:=Po (i:=i) (m:=(p.r-p.l).toNat) (by lia) (by lia);lia
   refine⟨l,_,_,rfl,rfl,by rw[Af nlt];exact hl2,Al (by rw[aa];lia),?_⟩;refine⟨_,sq++[(t,(p.t+(i:Int),p.l+(j:Int)))],rfl,λ b o e=>?_,?_,λ z hz=>?_,?_⟩
   .rw[Af (Ag e hl),Af (Ag (hs2 _ _ e) ht)];exact hs2 b o e
   .rw[Ad,aj];rfl
   .rcases aF.mp hz with hz|hz
    .have e:=hq2 z hz;have n1:z.1≠l:=AR e hl2 (by intro q;cases q);rw[Af n1,Af (Ag e ht)];exact e
    .rw[ai.mp hz,Af (Ne.symm nlt)];exact Ad
   .rw[aj,hm2,aW,LH];rfl
  .rintro σ H2 ⟨y,sq,rfl,hs2,hl2,hq2,hm2⟩;exact⟨_,_,sq,rfl,hs2,hl2,hq2,hm2⟩
 .rintro σ H2 ⟨x,y,sq,rfl,hs2,hl2,hq2,hm2⟩;exact⟨_,rfl,q l sq H2 hs2 hl hl2 hq2 hm2⟩
theorem Q3{x:Int}(h:1<=x/\x<=12):Ko (.int x)=true:=by
 show(decide (1<=x)&&decide (x<=12))=true;rw[decide_eq_true h.1,decide_eq_true h.2];rfl
theorem Hg{f:Addr}{fd:FuncData}(F:Fun K "check_sides" "check_sides" C1 f fd)(D_is_side:Ao P w K mg base 2 "is_side" ["thing"] Mp):A2 P w K mg base CX0 3 f fd ["width","height"] Dp:=by
 have S:Ak ["width","height","side"] ["width","height"] (Ai C1):=fsk;refine F.g S ?_;rintro vs H Q E ⟨w,h,rfl,gw,gh,q⟩;refine⟨rfl,λ cdv A outer s hr=>?_⟩;refine⟨_,(Ah (A4 PassesOwn.never rfl (LM (AB (Aa (pv 0) (Aa (pv 1) Ac)))) (Aj (i:=2) S.nd rfl (ar rfl)) (Ah (AG (Cg (BK (Ap D_is_side hr (Aa (pv 2) Ac)))) (Ah BB) Ax)))),?_⟩;refine⟨_,rfl,_,rfl,A1 2,λ t ht=>⟨t,rfl,⟨_,SqT.of Ad⟩,MN (K:=K) (a:=t) (xs:=[.int w,.int h]) (λ i σ H'=>(∃y,σ=[some (.int w),some (.int h),y])/\H'=upd H t (.tup [.int w,.int h])) ⟨⟨none,rfl⟩,rfl⟩ (λ i σ H' _ hp=>by rw[hp.2];exact SqT.of Ad) ?_ ?_⟩⟩
 .rintro i x σ H' hx ⟨⟨y,rfl⟩,rfl⟩;obtain⟨z,rfl,hz⟩:∃z,x=.int z/\(1<=z/\z<=12):=by
   have:=ax hx;simp only[aP,bx,or_false]at this;rcases this with rfl|rfl
   .exact⟨_,rfl,gw⟩
   .exact⟨_,rfl,gh⟩
  refine⟨_,rfl,.int z,rfl,⟨"int",rfl⟩,_,rfl,Bm (by rw[Q3 hz];rfl) ?_⟩;exact⟨⟨_,rfl⟩,rfl⟩
 .rintro σ H' ⟨⟨y,rfl⟩,rfl⟩;exact q _ (Same.new ht)
theorem QS{p:Rc}{w h:Int}(i:p.In w h):IJ (D9 p.t p.l p.b p.r)=true:=by
 obtain⟨a1,a2,a3,a4,a5,a6⟩:=i;show(decide (0<=p.t)&&decide (p.t<p.b)&&(decide (0<=p.l)&&decide (p.l<p.r)))=true;rw[decide_eq_true a1,decide_eq_true a2,decide_eq_true a4,decide_eq_true a5];rfl
theorem S3{p:Rc}{w h:Int}(i:p.In w h):QR p.t p.l p.b p.r 0 0 h w=true:=by
 obtain⟨a1,a2,a3,a4,a5,a6⟩:=i;show(decide (0<=p.t)&&decide (0<=p.l)&&(decide (p.b<=h)&&decide (p.r<=w)))=true;rw[decide_eq_true a1,decide_eq_true a4,decide_eq_true a3,decide_eq_true a6];rfl
theorem QZ{H:Hp}{a b c d:Int}:∀x∈D9 a b c d,Ty H x:=λ x hx=>by
 simp only[aP,bx,or_false]at hx;rcases hx with rfl|rfl|rfl|rfl<;>exact⟨"int",rfl⟩
theorem Hh{f:Addr}{fd:FuncData}(F:Fun K "check_panes" "check_panes" C2 f fd)(T:Txt mg tk)(D_is_rectangle:Ao P w K mg base 2 "is_rectangle" ["thing"] Mq)(D_inside:Ao P w K mg base 1 "inside" ["one","other"] Ff) :
  A2 P w K mg base CX0 3 f fd ["panes","sheet"] (Dq K):=by
 have S:Ak ["panes","sheet","place","pane"] ["panes","sheet"] (Ai C2):=fsk;refine F.g S ?_;rintro vs H Q E ⟨l,sh,w,h,ts,rfl,hl,hat,hsh,hin,hlen,q⟩;refine⟨rfl,λ cdv A outer s hr=>?_⟩;refine⟨_,(Ab (AG (Aw Pc (Av AS rfl T.z_len rfl (Aa (pv 0) Ac)) (AI (v:=.int 52) rfl T.g_MOST_PANES ⟨_,rfl⟩) (Az _)) (Ah BB) Ax)
  (Ah (A4 PassesOwn.never rfl (Go rfl T.z_enumerate (Aa (pv 0) Ac)) (B4 rfl (Au (Aj (i:=2) S.nd rfl (ar rfl)) (Au (Aj (i:=3) S.nd rfl (ar rfl)) AU))) (Ah (AG (PW.pt (GP (Cg (BK (Ap D_is_rectangle hr (Aa (pv 3) Ac)))) (Fn (Cg (BK (Ap D_inside hr (Aa (pv 3) (Aa (pv 1) Ac)))))))) (Ah BB) Ax))))),?_⟩
 refine⟨_,rfl,l,_,rfl,.inl hl,_,_,rfl,rfl,_,rfl,Bm (decide_eq_false (by rw[aa];lia)) ?_⟩;refine⟨_,rfl,l,rfl,⟨_,hl⟩,ET (K:=K) (a:=l) (xs:=A9 ts) (λ i σ H'=>(∃x y,σ=[some (.ref l),some (.ref sh),x,y])/\Same H H') ⟨⟨none,none,rfl⟩,Same.refl H⟩ (λ i σ H' _ hp=>hp.2.seq hl) ?_ ?_⟩
 .rintro i x σ H' t hx ⟨⟨x0,y0,rfl⟩,hs⟩ ht;obtain⟨u,hu,rfl⟩:=Bx hx;have hum:=ax hu;have hsT:=Same.new (o:=.tup [.int i,.ref u.1]) ht;have s1:=hs.trans hsT;have hui:=hin u.2 (az.mpr ⟨u,hum,rfl⟩);have hua:=s1 _ _ (hat u hum);refine⟨t,_,rfl,SqT.of Ad,rfl,_,_,rfl,_,_,rfl,rfl,?_⟩;refine⟨_,rfl,_,rfl,.inl ⟨u.1,_,rfl,hua,(by show(4:Nat)<=100;decide),QZ,λ H2 s2=>⟨_,rfl,Bm (by rw[QS hui];rfl) ?_⟩⟩⟩;refine⟨_,rfl,_,rfl,u.1,sh,_,_,_,_,_,_,_,_,rfl,s2 _ _ hua,s2 _ _ (s1 _ _ hsh),_,rfl,Bm (by rw[S3 hui];rfl) ?_⟩;exact⟨⟨_,_,rfl⟩,s1.trans s2⟩
 .rintro σ H' ⟨⟨x0,y0,rfl⟩,hs⟩;exact q H' hs
theorem Bd{α:Type}{xs:List α}{i:Nat}{u x:α}(h:xs[i]?=some u):x∈xs.take (i+1)↔x∈xs.take i\/x=u:=by
 rw[aK,h,aF];simp
theorem Ia{ts:List (Addr×Rc)}(hd:(rcs ts).Pairwise Apart){i:Nat}{u t:Addr×Rc}(h:ts[i]?=some u)(ht:t∈ts.take i):Apart t.2 u.2:=by
 obtain⟨j,hj,rfl⟩:=dv ht;obtain⟨hi,rfl⟩:=aG.mp h;rw[cq]at hd;have hj':j<i:=by rw[bB]at hj;lia
 have:=hd j i (by rw[aa];lia) (by rw[aa];exact hi) hj'
 simpa using this
theorem LQ{α β:Type}{xs:List α}{f:α->β}(hn:(xs.map f).Nodup){j:Nat}{s:α}(h:xs[j]?=some s):f s∉(xs.take j).map f:=λ hm=>by
 obtain⟨hj,rfl⟩:=aG.mp h;obtain⟨y,hy,e⟩:=az.mp hm;obtain⟨k,hk,rfl⟩:=dv hy;have hk':k<j:=by rw[bB]at hk;lia
 rw[dY,cq]at hn;exact hn k j (by rw[aa];lia) (by rw[aa];exact hj) hk' (by simpa using e)
theorem O5{sq:List (Addr×(Int×Int))}{i:Nat}{x:V}(h:(sq.map λ s=>V.ref s.1)[i]?=some x):∃t,sq[i]?=some t/\x=.ref t.1:=by
 rw[ay]at h;cases e:sq[i]? with
 |none=>rw[e]at h;cases h
 |some t=>rw[e]at h;exact⟨t,rfl,(Option.some.inj h).symm⟩
theorem Qy{p:Rc}{w h:Int}(i:p.In w h)(b1:w<=12)(b2:h<=12):(sqs p).length<=144:=by
 obtain⟨a1,a2,a3,a4,a5,a6⟩:=i;unfold sqs;rw[G9];exact Po (by lia) (by lia)
theorem Eo{f:Addr}{fd:FuncData}(F:Fun K "panes_by_square" "panes_by_square" Bv f fd)(T:Txt mg tk)(D_squares_of:Ao P w K mg base 1 "squares_of" ["rectangle"] DZ):A2 P w K mg base CX0 2 f fd ["panes"] (E9 K):=by
 have S:Ak ["panes","by_square","place","pane","square"] ["panes"] (Ai Bv):=fsk;refine F.g S ?_;rintro vs H Q E ⟨l,w,h,ts,rfl,hl,hat,hin,hap,hlen,bw,bh,q⟩;refine⟨rfl,λ cdv A outer s hr=>?_⟩;have hu:=D8 hr;refine⟨_,(Ab (Am (i:=1) S.nd rfl (ar rfl) GV)
  (Ab (A4 PassesOwn.never rfl (Go rfl T.z_enumerate (Aa (pv 0) Ac)) (B4 rfl (Au (Aj (i:=2) S.nd rfl (ar rfl)) (Au (Aj (i:=3) S.nd rfl (ar rfl)) AU))) (Ah (A4 PassesOwn.never rfl (A0 (Ap D_squares_of hr (Aa (pv 3) Ac))) (Aj (i:=4) S.nd rfl (ar rfl)) (Ab (AG (OM (Si hu (pv 4) (pv 1))) (Ah BB) Ax)
  (Ah (EF hu (pv 1) (pv 4) (pv 3) rfl))))))
  (Ah (Aq (pv 1))))),?_⟩
 intro d hd;refine⟨_,rfl,l,rfl,⟨_,(Same.new hd).seq hl⟩,ET (K:=K) (a:=l) (xs:=A9 ts) (λ i σ H'=>(∃x y z,σ=[some (.ref l),some (.ref d),x,y,z])/\Same H H'/\∃kvs,H' d=some (.dT kvs)/\kvs.length<=144*i /\
   (∀t∈ts.take i,∀r c,t.2.has r c->AV kvs (sqK r c)=some (.ref t.1))/\∀r c v,AV kvs (sqK r c)=some v->∃t∈ts.take i,t.2.has r c)
  ⟨⟨none,none,none,rfl⟩,Same.new hd,[],Ad,aQ _,λ t ht=>(nomatch ht),λ r c v e=>by cases e⟩ (λ i σ H' _ hp=>hp.2.1.seq hl) ?_ ?_⟩
 .rintro i x σ H' tt hx ⟨⟨x0,y0,z0,rfl⟩,hs,kvs,hk,hkl,ha1,ha2⟩ htt;obtain⟨u,hu',rfl⟩:=Bx hx;have hum:=ax hu';have hi:i<ts.length:=(aG.mp hu').1;have s1:=hs.trans (Same.new (o:=.tup [.int i,.ref u.1]) htt);have hui:=hin u.2 (az.mpr ⟨u,hum,rfl⟩);obtain⟨c1,c2,c3,c4,c5,c6⟩:=id hui;have hua:=s1 _ _ (hat u hum);have hk1:(upd H' tt (.tup [.int i,.ref u.1])) d=some (.dT kvs):=Same.new htt _ _ hk;refine⟨tt,_,rfl,SqT.of Ad,rfl,_,_,rfl,_,_,rfl,rfl,?_⟩;refine⟨_,rfl,u.1,u.2,rfl,hua,c1,by lia,by lia,c4,by lia,by lia,λ l2 sq H2 s2 n2 hl2 hsq hmap=>⟨l2,rfl,⟨_,SqL.of hl2⟩,?_⟩⟩;have hk2:=s2 _ _ hk1;have nl2:l2≠d:=AR hl2 hk2 (by intro z;cases z);have sql:sq.length<=144:=by
   have:=Qy hui bw bh;rw[<-hmap,aa]at this;exact this
  have nd:=G8 (p:=u.2) (by lia) (u.2.b-u.2.t).toNat;have nd':(sq.map (·.2)).Nodup:=by rw[hmap];exact nd
  refine Bc (K:=K) (a:=l2) (xs:=sq.map λ s=>V.ref s.1) (λ j σ H3=>(∃z,σ=[some (.ref l),some (.ref d),some (.int i),some (.ref u.1),z])/\SameX d H2 H3/\∃kvs,H3 d=some (.dT kvs)/\kvs.length<=144*i+j /\
    (∀t∈ts.take i,∀r c,t.2.has r c->AV kvs (sqK r c)=some (.ref t.1))/\(∀z∈sq.take j,AV kvs (sqK z.2.1 z.2.2)=some (.ref u.1)) /\
    ∀r c v,AV kvs (sqK r c)=some v->(∃t∈ts.take i,t.2.has r c)\/(r,c)∈(sq.take j).map (λ y:Addr×(Int×Int)=>y.2))
   ⟨⟨_,rfl⟩,SameX.refl,kvs,hk2,by lia,ha1,λ z hz=>(nomatch hz),λ r c v e=>.inl (ha2 r c v e)⟩ (λ j σ H3 _ hp=>SqL.of (hp.2.1 _ _ nl2 hl2)) ?_ ?_
  .rintro j y σ H3 hy ⟨⟨z0,rfl⟩,s3,kv,hk3,hkl3,b1,b2,b3⟩;obtain⟨z,hz,rfl⟩:=O5 hy;have hzm:=ax hz;have hj:j<sq.length:=(aG.mp hz).1;have hz2:=hsq z hzm;have nz:z.1≠d:=AR hz2 hk2 (by intro q;cases q);have hz3:=s3 _ _ nz hz2;have hin2:u.2.has z.2.1 z.2.2:=(Gr (by lia) (by lia)).mp (by rw[<-hmap];exact az.mpr ⟨z,hzm,rfl⟩);have hno:AV kv (sqK z.2.1 z.2.2)=none:=by
    cases e:AV kv (sqK z.2.1 z.2.2) with
    |none=>rfl
    |some v =>
     rcases b3 _ _ v e with ⟨t,ht,hh⟩|hm
     .exact(Ia hap hu' ht _ _ hh hin2).elim
     .exact absurd hm (LQ nd' hz)
   have dg:=DGet.t (k:=sqK z.2.1 z.2.2) hk3 hz3;rw[hno]at dg;refine⟨_,rfl,_,rfl,d,_,rfl,dg,_,rfl,Px ?_⟩;refine⟨_,rfl,_,rfl,_,rfl,d,_,rfl,DPut.t (k:=sqK z.2.1 z.2.2) hk3 hz3 (cS (m:=20000) (by lia) (by rw[sizeLine_eq];decide)),?_⟩;refine⟨⟨_,rfl⟩,s3.trans SameX.upd,_,Ad,?_,λ t ht r c hh=>?_,λ y hy=>?_,λ r c v e=>?_⟩
   .have:=BC kv (sqK z.2.1 z.2.2) (V.ref u.1);lia
   .rw[CB,if_neg,b1 t ht r c hh];intro e;obtain⟨e1,e2⟩:=Mn e;exact Ia hap hu' ht _ _ (by rw[<-e1,<-e2];exact hh) hin2
   .rw[CB];rcases(Bd hz).mp hy with hy|rfl
    .split
     .rfl
     .exact b2 y hy
    .rw[if_pos rfl]
   .rw[CB]at e;split at e
    .rename_i e2;obtain⟨e3,e4⟩:=Mn e2;exact .inr (az.mpr ⟨z,(Bd hz).mpr (.inr rfl),by rw[e3,e4]⟩)
    .rcases b3 r c v e with h1|h1
     .exact .inl h1
     .obtain⟨y,hy,e2⟩:=az.mp h1;exact .inr (az.mpr ⟨y,(Bd hz).mpr (.inl hy),e2⟩)
  .rintro σ H3 ⟨⟨z0,rfl⟩,s3,kv,hk3,hkl3,b1,b2,b3⟩;rw[aa]at hkl3 b2 b3;rw[aH]at b2 b3;refine⟨⟨_,_,_,rfl⟩,λ b o e=>?_,kv,hk3,by lia,λ t ht r c hh=>?_,λ r c v e=>?_⟩
   .exact s3 b o (Ag e hd) (s2 b o (s1 b o e))
   .rcases(Bd hu').mp ht with ht|rfl
    .exact b1 t ht r c hh
    .have hm:(r,c)∈sq.map (·.2):=by rw[hmap];exact(Gr (by lia) (by lia)).mpr hh
     obtain⟨z,hz,e⟩:=az.mp hm;have:=b2 z hz;rw[e]at this;exact this
   .rcases b3 r c v e with ⟨t,ht,hh⟩|hm
    .exact⟨t,(Bd hu').mpr (.inl ht),hh⟩
    .exact⟨u,(Bd hu').mpr (.inr rfl),(Gr (by lia) (by lia)).mp (by rw[<-hmap];exact hm)⟩
 .rintro σ H' ⟨⟨x0,y0,z0,rfl⟩,hs,kvs,hk,hkl,ha1,ha2⟩;rw[aa,aH]at ha1;exact⟨_,rfl,q d kvs H' hs hd hk ha1⟩
theorem Ft{f:Addr}{fd:FuncData}(F:Fun K "check_covered" "check_covered" BI f fd)(D_squares_of:Ao P w K mg base 1 "squares_of" ["rectangle"] DZ):A2 P w K mg base CX0 2 f fd ["by_square","sheet"] CD:=by
 have S:Ak ["by_square","sheet","square"] ["by_square","sheet"] (Ai BI):=fsk;refine F.g S ?_;rintro vs H Q E ⟨d,sh,w,h,kvs,rfl,hd,hsh,gw,gh,hcov,q⟩;refine⟨rfl,λ cdv A outer s hr=>?_⟩;have hu:=D8 hr;refine⟨_,(Ah (A4 PassesOwn.never rfl (A0 (Ap D_squares_of hr (Aa (pv 1) Ac))) (Aj (i:=2) S.nd rfl (ar rfl)) (Ah (AG (OM (N5 hu (pv 2) (pv 0))) (Ah BB) Ax)))),?_⟩;refine⟨_,rfl,sh,⟨0,0,h,w⟩,rfl,hsh,bf _,by show(0:Int)<=h;lia,by show h<=12;lia,bf _,by show(0:Int)<=w;lia,by show w<=12;lia,λ l2 sq H2 s2 n2 hl2 hsq hmap=>⟨l2,rfl,⟨_,SqL.of hl2⟩,?_⟩⟩;refine Bc (K:=K) (a:=l2) (xs:=sq.map λ s=>V.ref s.1) (λ j σ H3=>(∃z,σ=[some (.ref d),some (.ref sh),z])/\H3=H2) ⟨⟨none,rfl⟩,rfl⟩ (λ j σ H3 _ hp=>by rw[hp.2];exact SqL.of hl2) ?_ ?_
 .rintro j y σ H3 hy ⟨⟨z0,rfl⟩,rfl⟩;obtain⟨z,hz,rfl⟩:=O5 hy;have hzm:=ax hz;have hz2:=hsq z hzm;have hin2:(⟨0,0,h,w⟩:Rc).has z.2.1 z.2.2:=(Gr (p:=⟨0,0,h,w⟩) (by show(0:Int)<=w;lia) (by show(0:Int)<=h;lia)).mp (by rw[<-hmap];exact az.mpr ⟨z,hzm,rfl⟩);obtain⟨i1,i2,i3,i4⟩:=hin2;have hk2:=s2 _ _ hd;have dg:=DGet.t (k:=sqK z.2.1 z.2.2) hk2 hz2;cases e:AV kvs (sqK z.2.1 z.2.2) with
  |none=>exact absurd e (hcov _ _ i1 i2 i3 i4)
  |some v =>
   rw[e]at dg;exact⟨_,rfl,_,rfl,d,_,rfl,dg,_,rfl,Px ⟨⟨_,rfl⟩,rfl⟩⟩
 .rintro σ H3 ⟨⟨z0,rfl⟩,rfl⟩;exact q _ s2
theorem GU{α β:Type}{f:α->β}:∀{l' m:List β},l'.Perm m->∀{l:List α},m=l.map f->∃us:List α,us.Perm l/\l'=us.map f:=by
 intro l' m h
 induction h with
 |nil=>intro l e;exact⟨l,.refl _,e⟩
 |cons x hp ih =>
  intro l e;cases l with
  |nil=>cases e
  |cons y r =>
   rw[aA]at e;injection e with e1 e2;obtain⟨us,h1,h2⟩:=ih e2;exact⟨y::us,h1.cons y,by rw[aA,<-h2,e1]⟩
 |swap x y r =>
  intro l e
  match l,e with
  |a::b::r',e =>
   rw[aA,aA]at e;injection e with e1 e2;injection e2 with e2 e3;exact⟨b::a::r',.swap a b r',by rw[aA,aA,e1,e2,e3]⟩
 |trans h1 h2 ih1 ih2 =>
  intro l e;obtain⟨us,a1,a2⟩:=ih2 e;obtain⟨vs,b1,b2⟩:=ih1 a2;exact⟨vs,b1.trans a1,b2⟩
theorem Ir{f:Addr}{fd:FuncData}(F:Fun K "__init__" "Panel.__init__" CS f fd)(T:Txt mg tk)(PC:Qd K C)(D_check_sides:Ao P w K mg base 3 "check_sides" ["width","height"] Dp)(D_check_panes:Ao P w K mg base 3 "check_panes" ["panes","sheet"] (Dq K))
  (D_panes_by_square:Ao P w K mg base 2 "panes_by_square" ["panes"] (E9 K)) (D_check_covered:Ao P w K mg base 2 "check_covered" ["by_square","sheet"] CD):A2 P w K mg base CX0 4 f fd ["self","width","height","panes"] (GJ K C):=by
 have S:Ak ["self","width","height","panes","sheet","own_panes","by_square"] ["self","width","height","panes"] (Ai CS):=fsk;refine F.g S ?_;rintro vs H Q E ⟨a,dx,l,w,h,ts,rfl,hob,hl,hat,til,hlen,gw,gh,q⟩;refine⟨rfl,λ cdv A outer s hr=>?_⟩;refine⟨_,(Ab (AQ (Ap D_check_sides hr (Aa (pv 1) (Aa (pv 2) Ac))))
  (Ab (Am (i:=4) S.nd rfl (ar rfl) (AB (Aa Ae (Aa Ae (Aa (pv 2) (Aa (pv 1) Ac))))))
  (Ab (AQ (Ap D_check_panes hr (Aa (pv 3) (Aa (pv 4) Ac))))
  (Ab (El rfl (Aj (i:=5) S.nd rfl (ar rfl)) (A0 (pv 3)) (λ_ _ _ _ _=>pgk (nk ["pane"])) (λ_ _ _ _ _=>(CH (Ka (K:=K)) rfl T.z_tuple rfl (Aa (pv 0) Ac))) (N:=["pane"]) (fr:=[none]))
  (Ab (Am (i:=6) S.nd rfl (ar rfl) (Ap D_panes_by_square hr (Aa (pv 5) Ac)))
  (Ab (AQ (Ap D_check_covered hr (Aa (pv 6) (Aa (pv 4) Ac))))
  (Ab (Ch (pv 0) (pv 1) rfl)
  (Ab (Ch (pv 0) (pv 2) rfl)
  (Ab (Ch (pv 0) (Av EW rfl T.z_sorted rfl (Aa (pv 5) Ac)) rfl)
  (Ah (Ch (pv 0) (pv 6) rfl))))))))))),?_⟩
 refine⟨_,rfl,_,rfl,w,h,rfl,gw,gh,λ H1 s1=>?_⟩;refine⟨_,rfl,_,rfl,A1 4,λ t ht=>?_⟩;refine nv ht λ H2 sz hsh=>?_;have s2:=s1.trans sz;refine⟨_,rfl,_,rfl,l,t,w,h,ts,rfl,s2.seq hl,hat.same s2,hsh,til.ins,hlen,λ H3 s3=>?_⟩;have s13:=s2.trans s3;refine⟨_,rfl,l,rfl,⟨_,s13.seq hl⟩,λ acc hacc=>AN (K:=K) (a:=l) (ys:=A9 ts) (λ i xs σ H'=>(∃y,σ=[y])/\Same H3 H'/\xs=(A9 ts).take i) ⟨⟨none,rfl⟩,Same.new hacc,rfl⟩
  (λ i xs σ H' _ _ hp=>(s13.trans hp.2.1).seq hl) ?_ ?_⟩
 .rintro i x xs σ H' hx hi hl' hacc' ⟨⟨y,rfl⟩,hs,rfl⟩;obtain⟨u,hu',rfl⟩:=Bx hx;have hua:=(s13.trans hs) _ _ (hat u (ax hu'));refine⟨_,rfl,u.1,_,rfl,.inr ⟨SqT.of hua,cNx.mk (aM (Al (by rw[aa];lia))) hi hl' hacc' ⟨⟨_,rfl⟩,λ b o e=>?_,?_⟩⟩⟩
  .rw[Af (Ag e hacc)];exact hs b o e
  .rw[aK,hx];rfl
 .rintro xs σ H4 hl4 hacc4 ⟨_,s4,rfl⟩;rw[aH]at hacc4;have s14:=s13.trans s4;refine⟨_,rfl,acc,w,h,ts,rfl,SqL.of hacc4,hat.same s14,til.ins,til.dis,hlen,gw.2,gh.2,λ d kvs H5 s5 n5 hd5 hk5=>?_⟩;have s15:=s14.trans s5;have look:∀r c,0<=r->r<h->0<=c->c<w->∃t∈ts,AV kvs (sqK r c)=some (.ref t.1)/\t.2.has r c:=λ r c a1 a2 a3 a4=>by
   obtain⟨p,hp,hh⟩:=til.cov r c a1 a2 a3 a4;obtain⟨u,hu',rfl⟩:=az.mp hp;exact⟨u,hu',hk5 u hu' r c hh,hh⟩
  refine⟨_,rfl,_,rfl,d,t,w,h,kvs,rfl,hd5,(s3.trans (s4.trans s5)) _ _ hsh,gw,gh,λ r c a1 a2 a3 a4 e=>?_,λ H6 s6=>?_⟩
  .obtain⟨u,_,hv,_⟩:=look r c a1 a2 a3 a4;rw[hv]at e;cases e
  have s16:=s15.trans s6;have ob6:=s16 _ _ hob;have hacc6:=(s5.trans s6) _ _ hacc4;have hd6:=s6 _ _ hd5;have na:acc≠a:=AR hacc6 ob6 (by intro z;cases z);have nd:d≠a:=AR hd6 ob6 (by intro z;cases z);refine⟨_,rfl,_,rfl,a,C,dx,_,rfl,ob6,PC.cl,PC.n_width,(by show 0<1000;decide),?_⟩;refine⟨_,rfl,_,rfl,a,C,dx,_,rfl,Ad,PC.cl,PC.n_height,(by show 1<1000;decide),?_⟩;have hacc7:(upd (upd H6 a (.ins C dx (AZ "width" (.int w) []))) a (.ins C dx (AZ "height" (.int h) (AZ "width" (.int w) [])))) acc=some (.lst (A9 ts)):=by rw[Af na,Af na];exact hacc6
  have tup:∀t∈ts,(upd (upd H6 a (.ins C dx (AZ "width" (.int w) []))) a (.ins C dx (AZ "height" (.int h) (AZ "width" (.int w) [])))) t.1=some (.tup (D9 t.2.t t.2.l t.2.b t.2.r)):=λ t ht=>by
   have e:=s16 _ _ (hat t ht);have nt:t.1≠a:=AR e ob6 (by intro z;cases z);rw[Af nt,Af nt];exact e
  refine⟨_,rfl,acc,ts.map λ t=>(t.1,t.2.ls),3,key,rfl,?_,by rw[aa];lia,?_,?_,λ ls us hls hp hsr=>?_⟩
  .rw[aJ];exact SqL.of hacc7
  .intro z hz;obtain⟨t,ht,rfl⟩:=az.mp hz;exact⟨rfl,tup t ht⟩
  .intro z hz y hy;obtain⟨t,ht,rfl⟩:=az.mp hz;obtain⟨u,hu',rfl⟩:=az.mp hy;exact key_lt (til.ins _ (az.mpr ⟨t,ht,rfl⟩)) (til.ins _ (az.mpr ⟨u,hu',rfl⟩)) gw.2 gh.2 gw.2 gh.2
  obtain⟨ts',hp',rfl⟩:=GU hp rfl;have nls:ls≠a:=Ne.symm (Ag Ad hls);refine⟨_,rfl,a,C,dx,_,rfl,by rw[Af (Ne.symm nls)];exact Ad,PC.cl,PC.n_sorted_panes,(by show 2<1000;decide),?_⟩;refine⟨_,rfl,_,rfl,a,C,dx,_,rfl,Ad,PC.cl,PC.n_by_square,(by show 3<1000;decide),?_⟩;have sx:SameX a H6 (upd (upd (upd (upd (upd H6 a (.ins C dx (AZ "width" (.int w) []))) a (.ins C dx (AZ "height" (.int h) (AZ "width" (.int w) [])))) ls (.lst (List.map (λ t=>V.ref t.1) (List.map (λ t:Addr×Rc=>(t.1,t.2.ls)) ts')))) a (.ins C dx (AZ "sorted_panes" (.ref ls) (AZ "height" (.int h) (AZ "width" (.int w) []))))) a (.ins C dx (HE w h ls d))):=by
   refine SameX.trans (SameX.trans (SameX.trans (SameX.trans SameX.upd SameX.upd) (SameX.new hls)) SameX.upd) SameX.upd
  refine q ts' ls d kvs _ (λ b o nb e=>sx b o nb (s16 b o e)) hp' ⟨Ad,?_,sx _ _ nd hd6,λ t ht=>?_,til.perm (hp'.map _),by rw[hp'.length_eq];exact hlen,?_,λ r c a1 a2 a3 a4=>?_,gw,gh⟩
  .rw[Af nls,Af nls,Ad,aJ];rfl
  .have ht':=hp'.mem_iff.mp ht;have e:=s16 _ _ (hat t ht');have nt:t.1≠a:=AR e ob6 (by intro z;cases z);exact sx _ _ nt e
  .unfold Srt;rw[aJ]at hsr |-;exact hsr
  .obtain⟨u,hu',hv,hh⟩:=look r c a1 a2 a3 a4;exact⟨u,hp'.mem_iff.mpr hu',hv,hh⟩
theorem Hi{f:Addr}{fd:FuncData}(F:Fun K "panes" "Panel.panes" C3 f fd)(T:Txt mg tk)(PC:Qd K C):A2 P w K mg base CX0 1 f fd ["self"] (E8 C):=by
 have S:Ak ["self"] ["self"] (Ai C3):=fsk;refine F.g S ?_;rintro vs H Q E ⟨a,dx,ls,ld,w,h,ts,kvs,rfl,pn,q⟩;refine⟨rfl,λ cdv A outer s hr=>?_⟩;refine⟨_,(Ah (Aq (CH EX rfl T.z_list rfl (Aa (B5 (pv 0) rfl) Ac)))),?_⟩;exact⟨_,rfl,a,C,dx,_,_,rfl,pn.ob,PC.cl,PC.n_sorted_panes,SB _ _ _ _,ls,_,rfl,.inl (SqL.of pn.lst),λ l hl=>q l hl⟩
theorem UE{α:Type}{us:List α}(h:us.length=1):∃a,us=[a]:=c9.mp h
theorem UD{α:Type}{us:List α}(h:us.length=2):∃a b,us=[a,b]:=by
 cases us with
 |nil=>cases h
 |cons a r=>obtain⟨b,rfl⟩:=UE (Nat.succ.inj h);exact⟨a,b,rfl⟩
theorem AO{α:Type}(ts:List (Addr×α)):(A9 ts).length=ts.length:=aa ..
theorem Gn{H H':Hp}(s:Same H H'){a:Addr}(h:H' a=none):H a=none:=by
 cases q:H a with
 |none=>rfl
 |some o=>rw[s a o q]at h;cases h
def wd(u:Bool):Str:=if u=true then "upright" else "level"
theorem Fb(u v:Bool):decide (V.str (wd u)=V.str (wd v))=(u==v):=by cases u<;>cases v<;>decide +kernel
theorem Oq(u:Bool):decide (V.str (wd u)=V.str "whole")=false:=by cases u<;>decide +kernel
inductive Tr where
 |whole (m:Option Int)
 |cut (u:Bool) (k:Int) (x y:Tr)
def Tr.sz:Tr->Nat
 |.whole _=>1
 |.cut _ _ x y=>x.sz+y.sz
def FL:Option Int->V
 |none=>.non
 |some i=>.int i
def Fit:Tr->Int->Int->Prop
 |.whole _,_,_=>True
 |.cut u k x y,w,h=>if u=true then (1<=k/\k<w/\Fit x k h/\Fit y (w-k) h) else (1<=k/\k<h/\Fit x w k/\Fit y w (h-k))
theorem HI:∀{t:Tr}{w h:Int},1<=w->1<=h->Fit t w h->(t.sz:Int)<=w*h
 |.whole _,w,h,hw,hh,_=>by
  show((1:Nat):Int)<=_;have:=d9 hw hh (by lia) (by lia);lia
 |.cut u k x y,w,h,hw,hh,f=>by
  rw[Fit]at f;show((x.sz+y.sz:Nat):Int)<=_;cases u with
  |true =>
   obtain⟨a,b,c,d⟩:=f;have h1:=HI a hh c;have h2:=HI (by lia) hh d;rw[Int.sub_mul]at h2;lia
  |false =>
   obtain⟨a,b,c,d⟩:=f;have h1:=HI hw a c;have h2:=HI hw (by lia) d;rw[Int.mul_sub]at h2;lia
def BO:List Int->Ds
 |[]=>.nil
 |i::r=>.cons (.at (.int i)) (BO r)
theorem KZ{K:Frag}{H:Hp}:∀(ns:List Int),DIss K H (BO ns) (ns.map V.int)
 |[]=>by
  show DIss K H .nil [];rw[DIss]
 |i::r=>by
  show DIss K H (.cons (.at (.int i)) (BO r)) (.int i::r.map V.int);rw[DIss];exact⟨_,_,rfl,by rw[DIs];exact⟨rfl,rfl⟩,KZ r⟩
theorem IW:∀(ns:List Int),C7 (BO ns)=0
 |[]=>by rw[BO,C7]
 |i::r=>by rw[BO,C7,dep,IW r];rfl
theorem NV:∀(ns:List Int),Di (BO ns) .nil=decide (ns=[])
 |[]=>by rw[BO,Di];rfl
 |i::r=>by rw[BO,Di]<;>simp
theorem TD{K:Frag}{H:Hp}{a:Addr}{ns:List Int}(h:SqL K H a (ns.map V.int)):DIs K H (.lst (BO ns)) (.ref a):=by
 rw[DIs];exact⟨a,_,rfl,h,KZ _⟩
theorem T6{K:Frag}{H:Hp}{a:Addr}(h:H a=some (.lst [])):DIs K H (.lst .nil) (.ref a):=by
 rw[DIs];exact⟨a,[],rfl,SqL.of h,by rw[DIss]⟩
theorem NU(ns:List Int):dep (.lst (BO ns))<=50:=by rw[dep,IW];lia
theorem FR{x0 x1:V}:atI [x0,x1] 0=some x0:=rfl
theorem FQ{x0 x1:V}:atI [x0,x1] 1=some x1:=rfl
theorem Rf{j:Int}(z:Int)(h:0<j)(h2:j<18446744073709551616):RG z j:=⟨h,Nat.lt_trans (Ho (k:=64) (by decide) (by lia)) (by decide)⟩
theorem EN{a b:Int}(h1:-18446744073709551616<a)(h2:a<18446744073709551616)(h3:-18446744073709551616<b)(h4:b<18446744073709551616):IntMulOk a b:=by
 have c:(2:Nat)^128=340282366920938463463374607431768211456:=by decide +kernel
 refine KM ?_ ?_<;>rw[c]<;>lia
theorem MW{ns:List Int}{k:Int}(h0:0<=k)(h1:k<(ns.length:Int)):∃z,atI (ns.map V.int) k=some (.int z):=by
 have hk:k.toNat<ns.length:=by lia
 have hz:(ns.map V.int)[k.toNat]?=some (.int ns[k.toNat]):=by rw[ay,ag hk];rfl
 have e:=Kb hz;rw[bU h0]at e;exact⟨_,e⟩
theorem EU{f:Addr}{fd:FuncData}{x qual:Str}{st:Stmt}{N ps:LSz}{k:Nat}{sp:Sp}(F:Fun K x qual st f fd)(S:Ak N ps (Ai st))(h:∀vs H Q E,¬sp vs H Q E):A2 P w K mg base CX0 (k+1) f fd ps sp :=
 F.ok S (λ vs H Q E z=>absurd z (h vs H Q E)) (λ cdv A outer s H vs Q E hr z=>absurd z (h vs H Q E))
theorem Cq{c:Bool}{A B:Prop}(h:c=true)(a:A):if c=true then A else B:=by rw[if_pos h];exact a
def Iy(cU cL:Addr)(u:Bool):Addr:=if u then cU else cL
abbrev wF(m:V):LFz:=AZ "mark" m []
abbrev cF(k:Int)(vx vy:V):LFz:=AZ "other" vy (AZ "first" vx (AZ "at" (.int k) []))
def Obj(cW cU cL:Addr)(H:Hp):Tr->V->Prop
 |.whole m,v=>∃a dx,v=.ref a/\H a=some (.ins cW dx (wF (FL m)))
 |.cut u k x y,v=>∃a dx vx vy,v=.ref a/\H a=some (.ins (Iy cU cL u) dx (cF k vx vy))/\Obj cW cU cL H x vx/\Obj cW cU cL H y vy
theorem Obj.same{H H':Hp}(s:Same H H'):∀{t:Tr}{v:V},Obj cW cU cL H t v->Obj cW cU cL H' t v
 |.whole m,v,h=>by
  rw[Obj]at h |-;obtain⟨a,dx,e,h⟩:=h;exact⟨a,dx,e,s _ _ h⟩
 |.cut u k x y,v,h=>by
  rw[Obj]at h |-;obtain⟨a,dx,vx,vy,e,h,h1,h2⟩:=h;exact⟨a,dx,vx,vy,e,s _ _ h,Obj.same s h1,Obj.same s h2⟩
structure RT(mg:MGz)(K:Frag)(cT cW cU cL:Addr):Prop where
 g_Tree:mg "Tree"=some (.ref cT)
 g_Whole:mg "Whole"=some (.ref cW)
 g_Upright:mg "Upright"=some (.ref cU)
 g_Level:mg "Level"=some (.ref cL)
 iW:On K cW
 iC:∀u,On K (Iy cU cL u)
 n_mark:NoAttr K cW "mark"
 n_at:∀u,NoAttr K (Iy cU cL u) "at"
 n_first:∀u,NoAttr K (Iy cU cL u) "first"
 n_other:∀u,NoAttr K (Iy cU cL u) "other"
 kWW:kitOne K (.ref cW) (.ref cW)=some true
 kWC:∀u,kitOne K (.ref cW) (.ref (Iy cU cL u))=some false
 kCW:∀u,kitOne K (.ref (Iy cU cL u)) (.ref cW)=some false
 kCC:∀u v,kitOne K (.ref (Iy cU cL u)) (.ref (Iy cU cL v))=some (u==v)
 kWT:kitOne K (.ref cW) (.ref cT)=some true
 kCT:∀u,kitOne K (.ref (Iy cU cL u)) (.ref cT)=some true
inductive Qh(C:Addr)(vs:LUz)(H:Hp)(Q:VK)(E:XK):Prop
 |mk (a dx:Addr) (m:V) (h0:vs=[.ref a,m]) (h1:H a=some (.ins C dx [])) (h2:Q .non (upd H a (.ins C dx (wF m)))):Qh C vs H Q E
def O8(C:Addr) :Sp:=λ vs H Q E=>Qh C vs H Q E
inductive Qi(C:Addr)(vs:LUz)(H:Hp)(Q:VK)(E:XK):Prop
 |mk (a dx:Addr) (k:Int) (vx vy:V) (h0:vs=[.ref a,.int k,vx,vy]) (h1:H a=some (.ins C dx [])) (h2:∀H',SameX a H H'->H' a=some (.ins C dx (cF k vx vy))->Q .non H'):Qi C vs H Q E
def Ms(C:Addr) :Sp:=λ vs H Q E=>Qi C vs H Q E
theorem Iq{f:Addr}{fd:FuncData}(F:FunD K "__init__" "Whole.__init__" Bj f fd)(R:RT mg K cT cW cU cL):A2 P w K mg base CX0 1 f fd ["self","mark"] (O8 cW):=by
 have S:Ak ["self","mark"] ["self","mark"] (Ai Bj):=fsk;refine F.g S ?_;rintro vs H Q E ⟨a,dx,m,rfl,ha,q⟩;refine⟨rfl,λ cdv A outer s hr=>?_⟩;refine⟨_,(Ah (Ch (pv 0) (pv 1) rfl)),?_⟩;exact⟨_,rfl,_,rfl,a,cW,dx,_,rfl,ha,R.iW.cl,R.n_mark,(by show 0<1000;decide),q⟩
theorem Gj{f:Addr}{fd:FuncData}(F:Fun K "__init__" "Upright.__init__" Cf f fd)(R:RT mg K cT cW cU cL):A2 P w K mg base CX0 1 f fd ["self","at","first","other"] (Ms cU):=by
 have S:Ak ["self","at","first","other"] ["self","at","first","other"] (Ai Cf):=fsk;refine F.g S ?_;rintro vs H Q E ⟨a,dx,k,vx,vy,rfl,ha,q⟩;refine⟨rfl,λ cdv A outer s hr=>?_⟩;refine⟨_,(Ab (Ch (pv 0) (pv 1) rfl)
  (Ab (Ch (pv 0) (pv 2) rfl)
  (Ah (Ch (pv 0) (pv 3) rfl)))),?_⟩
 refine⟨_,rfl,_,rfl,a,cU,dx,_,rfl,ha,(R.iC true).cl,R.n_at true,(by show 0<1000;decide),?_⟩;refine⟨_,rfl,_,rfl,a,cU,dx,_,rfl,Ad,(R.iC true).cl,R.n_first true,(by show 1<1000;decide),?_⟩;refine⟨_,rfl,_,rfl,a,cU,dx,_,rfl,Ad,(R.iC true).cl,R.n_other true,(by show 2<1000;decide),?_⟩;exact q _ ((SameX.upd.trans SameX.upd).trans SameX.upd) Ad
theorem Is{f:Addr}{fd:FuncData}(F:Fun K "__init__" "Level.__init__" CT f fd)(R:RT mg K cT cW cU cL):A2 P w K mg base CX0 1 f fd ["self","at","first","other"] (Ms cL):=by
 have S:Ak ["self","at","first","other"] ["self","at","first","other"] (Ai CT):=fsk;refine F.g S ?_;rintro vs H Q E ⟨a,dx,k,vx,vy,rfl,ha,q⟩;refine⟨rfl,λ cdv A outer s hr=>?_⟩;refine⟨_,(Ab (Ch (pv 0) (pv 1) rfl)
  (Ab (Ch (pv 0) (pv 2) rfl)
  (Ah (Ch (pv 0) (pv 3) rfl)))),?_⟩
 refine⟨_,rfl,_,rfl,a,cL,dx,_,rfl,ha,(R.iC false).cl,R.n_at false,(by show 0<1000;decide),?_⟩;refine⟨_,rfl,_,rfl,a,cL,dx,_,rfl,Ad,(R.iC false).cl,R.n_first false,(by show 1<1000;decide),?_⟩;refine⟨_,rfl,_,rfl,a,cL,dx,_,rfl,Ad,(R.iC false).cl,R.n_other false,(by show 2<1000;decide),?_⟩;exact q _ ((SameX.upd.trans SameX.upd).trans SameX.upd) Ad
theorem Fx{H:Hp}{x dx:Addr}{o1 o2:HO}(hx:H x=none)(hd:H dx=none):Same H (upd (upd H dx o1) x o2):=λ b o e=>by
 rw[Af (Ag e hx),Af (Ag e hd)];exact e
theorem fW(m:V):(wF m).lookup ("mark":Str)=some m:=by rw[A3,if_pos rfl]
inductive En where
 |w (m:Option Int)
 |c (u:Bool) (k:Int)
def ents:Tr->List En
 |.whole m=>[.w m]
 |.cut u k x y=>.c u k::(ents x++ents y)
def Tr.nd:Tr->Nat
 |.whole _=>1
 |.cut _ _ x y=>x.nd+y.nd+1
theorem DA:∀t:Tr,(ents t).length=t.nd
 |.whole _=>rfl
 |.cut _ _ x y=>by rw[ents,aN,av,DA x,DA y];rfl
theorem Pm:∀t:Tr,0<t.nd
 |.whole _=>Nat.one_pos
 |.cut _ _ x y=>Nat.succ_pos _
def enV:En->LUz
 |.w m=>[.str "whole",FL m]
 |.c u k=>[.str (wd u),.int k]
def Kp(H H':Hp):Prop:=∀b o,H b=some o->(∀xs,o≠.lst xs)->H' b=some o
theorem Hq{H H':Hp}(s:Same H H'):Kp H H':=λ b o e _=>s b o e
theorem Kp.trans{H H1 H2:Hp}(a:Kp H H1)(b:Kp H1 H2):Kp H H2:=λ c o e n=>b c o (a c o e n) n
theorem Kp.put{H:Hp}{l:Addr}{xs ys:LUz}(h:H l=some (.lst xs)):Kp H (upd H l (.lst ys)):=λ b o e n=>by
 rw[Af (AR e h (n xs))];exact e
theorem Obj.kp{H H':Hp}(s:Kp H H'):∀{t:Tr}{v:V},Obj cW cU cL H t v->Obj cW cU cL H' t v
 |.whole m,v,h=>by
  rw[Obj]at h |-;obtain⟨a,dx,e,h⟩:=h;exact⟨a,dx,e,s _ _ h (by intro xs z;cases z)⟩
 |.cut u k x y,v,h=>by
  rw[Obj]at h |-;obtain⟨a,dx,vx,vy,e,h,h1,h2⟩:=h;exact⟨a,dx,vx,vy,e,s _ _ h (by intro xs z;cases z),Obj.kp s h1,Obj.kp s h2⟩
def EnsAt(H:Hp):LUz->List En->Prop
 |[],[]=>True
 |v::r,e::q=>(∃a,v=.ref a/\H a=some (.tup (enV e)))/\EnsAt H r q
 |_,_=>False
theorem EnsAt.kp{H H':Hp}(s:Kp H H'):∀{vs:LUz}{es:List En},EnsAt H vs es->EnsAt H' vs es
 |[],[],_=>trivial
 |v::r,e::q,h=>⟨let ⟨a,b,c⟩:=h.1;⟨a,b,s _ _ c (by intro xs z;cases z)⟩,EnsAt.kp s h.2⟩
 |[],_::_,h=>h
 |_::_,[],h=>h
theorem EnsAt.snoc{H:Hp}{a:Addr}{e:En}(ha:H a=some (.tup (enV e))):∀{vs:LUz}{es:List En},EnsAt H vs es->EnsAt H (vs++[.ref a]) (es++[e])
 |[],[],_=>⟨⟨a,rfl,ha⟩,trivial⟩
 |v::r,e'::q,h=>⟨h.1,EnsAt.snoc ha h.2⟩
 |[],_::_,h=>h.elim
 |_::_,[],h=>h.elim
theorem EnsAt.len{H:Hp}:∀{vs:LUz}{es:List En},EnsAt H vs es->vs.length=es.length
 |[],[],_=>rfl
 |v::r,e'::q,h=>by rw[aN,aN,EnsAt.len h.2]
 |[],_::_,h=>h.elim
 |_::_,[],h=>h.elim
theorem EnsAt.get{H:Hp}:∀{vs:LUz}{es:List En}{i:Nat}{v:V},EnsAt H vs es->vs[i]?=some v->∃e a,es[i]?=some e/\v=.ref a/\H a=some (.tup (enV e))
 |v::r,e::q,0,_,h,hv=>by
  cases hv;obtain⟨a,b,c⟩:=h.1;exact⟨e,a,rfl,b,c⟩
 |v::r,e::q,i+1,_,h,hv=>EnsAt.get (i:=i) h.2 hv
 |[],[],_,_,_,hv=>by cases hv
 |[],_::_,_,_,h,_=>h.elim
 |_::_,[],_,_,h,_=>h.elim
def Ev(ws:List (V×Tr)):List En:=ws.reverse.flatMap λ p=>ents p.2
theorem B7(ws:List (V×Tr))(p:V×Tr):Ev (ws++[p])=ents p.2++Ev ws:=by
 unfold Ev;rw[List.reverse_append,List.reverse_singleton,List.singleton_append,List.flatMap_cons]
def cnt(ws:List (V×Tr)):Nat:=(ws.map λ p=>p.2.nd).sum
theorem DD(ws:List (V×Tr))(p:V×Tr):cnt (ws++[p])=cnt ws+p.2.nd:=by
 unfold cnt;rw[aj,cI,dD,List.sum_singleton]
theorem JZ:∀ws:List (V×Tr),ws.length<=cnt ws
 |[]=>ah 0
 |p::r=>by
  have:=JZ r;have:=Pm p.2;show r.length+1<=p.2.nd+cnt r;lia
theorem F5(p:V×Tr)(r:List (V×Tr)):Ev (p::r)=Ev r++ents p.2:=by
 unfold Ev;rw[List.reverse_cons,dw,List.flatMap_cons,List.flatMap_nil,aY]
theorem HH:∀ws:List (V×Tr),(Ev ws).length=cnt ws
 |[]=>rfl
 |p::r=>by
  rw[F5,av,DA,HH r];show _=p.2.nd+cnt r;lia
theorem Ec{α:Type}(ws:List α):ws=[]\/∃ws0 p,ws=ws0++[p]:=by
 by_cases h:ws=[]
 .exact .inl h
 .exact .inr ⟨ws.dropLast,ws.getLast h,(b6 h).symm⟩
theorem KW{ws0:List (V×Tr)}{p:V×Tr}:((ws0++[p]).map (·.1))[((ws0++[p]).map (·.1)).length-1]?=some p.1:=by
 rw[aa,av,aX,dE,ay,ci (ah _),cN];rfl
theorem Lf{ws0:List (V×Tr)}{p:V×Tr}:((ws0++[p]).map (·.1)).dropLast=ws0.map (·.1):=by rw[aj,dD,bN]
def wt:En->Int
 |.w _=>1
 |.c _ _=>-1
def wts(es:List En):Int:=(es.map wt).sum
theorem Jt(a b:List En):wts (a++b)=wts a+wts b:=by
 unfold wts;rw[aj,cI]
theorem Kg(e:En)(b:List En):wts (e::b)=wt e+wts b:=by
 unfold wts;rw[aA,List.sum_cons]
theorem C9:∀t:Tr,wts (ents t)=1
 |.whole _=>rfl
 |.cut u k x y=>by
  rw[ents,Kg,Jt,C9 x,C9 y];rfl
theorem G1:∀ws:List (V×Tr),wts (Ev ws)=ws.length
 |[]=>rfl
 |p::r=>by rw[F5,Jt,C9,G1 r,aN];lia
theorem Js:∀(t:Tr)(a b:List En),ents t=a++b->b≠[]->1<=wts b
 |.whole m,a,b,h,hb=>by
  have h:[En.w m]=a++b:=h;cases a with
  |nil=>rw[dc]at h;rw[<-h];exact bf 1
  |cons e r =>
   have:=congrArg List.length h;simp only[av,aN,b5]at this;exact absurd (bT.mp (by lia)) hb
 |.cut u k x y,a,b,h,hb=>by
  cases a with
  |nil =>
   rw[dc]at h;rw[<-h,C9];decide
  |cons e r =>
   rw[ents,dN]at h;have h2:=List.cons.inj h |>.2;rcases List.append_eq_append_iff.mp h2 with ⟨c,hc,hd⟩|⟨c,hc,hd⟩
   .exact Js y c b hd hb
   .rw[hd,Jt,C9];by_cases e:c=[]
    .rw[e];decide
    .have:=Js x r c hc e;lia
theorem HJ:∀(t t':Tr)(r r':List En),ents t++r=ents t'++r'->t=t'/\r=r'
 |.whole m,.whole m',r,r',h=>by
  have h:En.w m::r=En.w m'::r':=h;injection h with h1 h2;injection h1 with h1;exact⟨by rw[h1],h2⟩
 |.whole m,.cut u k x y,r,r',h=>by
  have h:En.w m::r=En.c u k::(ents x++ents y++r'):=h;injection h with h1 _;cases h1
 |.cut u k x y,.whole m,r,r',h=>by
  have h:En.c u k::(ents x++ents y++r)=En.w m::r':=h;injection h with h1 _;cases h1
 |.cut u k x y,.cut u' k' x' y',r,r',h=>by
  have h:En.c u k::(ents x++ents y++r)=En.c u' k'::(ents x'++ents y'++r'):=h;injection h with h1 h2;injection h1 with h3 h4;rw[aW,aW]at h2;obtain⟨e1,h5⟩:=HJ x x' _ _ h2;obtain⟨e2,h6⟩:=HJ y y' _ _ h5;exact⟨by rw[h3,h4,e1,e2],h6⟩
inductive Ga(cW cU cL:Addr)(vs:LUz)(H:Hp)(Q:VK)(E:XK):Prop
 |mk (u:Bool) (k:Int) (v1 v2:V) (y1 y2:Tr) (h0:vs=[.str (wd u),.int k,v1,v2]) (h1:Obj cW cU cL H y1 v1) (h2:Obj cW cU cL H y2 v2) (h3:∀v' H',Same H H'->Obj cW cU cL H' (.cut u k y1 y2) v'->Q v' H'):Ga cW cU cL vs H Q E
def Eb(cW cU cL:Addr) :Sp:=λ vs H Q E=>Ga cW cU cL vs H Q E
theorem KD{f:Addr}{fd:FuncData}(F:Fun K "cut_from" "cut_from" Ej f fd)(T:Txt mg tk)(K_Upright:Lr P w K mg base 1 "Upright" cU ["self","at","first","other"] (Ms cU))(K_Level:Lr P w K mg base 1 "Level" cL ["self","at","first","other"] (Ms cL)) :
  A2 P w K mg base CX0 3 f fd ["word","at","first","other"] (Eb cW cU cL):=by
 have S:Ak ["word","at","first","other"] ["word","at","first","other"] (Ai Ej):=fsk;refine F.g S ?_;rintro vs H Q E ⟨u,k,v1,v2,y1,y2,rfl,o1,o2,q⟩;refine⟨rfl,λ cdv A outer s hr=>?_⟩;refine⟨_,(Ab (AG (Aw Ck (pv 0) (AI (v:=.str "upright") rfl T.g_UPRIGHT_cuts ⟨_,rfl⟩) (Az _)) (Ah (Aq (K1 K_Upright hr (Aa (pv 1) (Aa (pv 2) (Aa (pv 3) Ac)))))) Ax)
  (Ah (Aq (K1 K_Level hr (Aa (pv 1) (Aa (pv 2) (Aa (pv 3) Ac))))))),?_⟩
 cases u with
 |true =>
  refine⟨_,rfl,rfl,_,rfl,Cq (Fb true true) ⟨_,rfl,_,rfl,_,rfl,λ x dx nx ndx nex=>⟨x,dx,k,v1,v2,rfl,Ad,λ H3 s3 e3=>⟨rfl,?_⟩⟩⟩⟩;have s4:Same H H3:=λ b o e=>s3 b o (Ag e nx) (Fx nx ndx b o e);exact q _ _ s4 (by rw[Obj];exact⟨x,dx,v1,v2,rfl,e3,o1.same s4,o2.same s4⟩)
 |false =>
  refine⟨_,rfl,rfl,_,rfl,Bm (Fb false true) ⟨_,rfl,_,rfl,_,rfl,λ x dx nx ndx nex=>⟨x,dx,k,v1,v2,rfl,Ad,λ H3 s3 e3=>⟨rfl,?_⟩⟩⟩⟩;have s4:Same H H3:=λ b o e=>s3 b o (Ag e nx) (Fx nx ndx b o e);exact q _ _ s4 (by rw[Obj];exact⟨x,dx,v1,v2,rfl,e3,o1.same s4,o2.same s4⟩)
inductive Lx(K:Frag)(cW cU cL:Addr)(vs:LUz)(H:Hp)(Q:VK)(E:XK):Prop
 |mk (l:Addr) (xs:LUz) (t:Tr) (h0:vs=[.ref l]) (h1:SqL K H l xs) (h2:EnsAt H xs (ents t)) (h3:t.nd<=400) (h4:∀v' H',Same H H'->Obj cW cU cL H' t v'->Q v' H'):Lx K cW cU cL vs H Q E
def Jx(K:Frag)(cW cU cL:Addr) :Sp:=λ vs H Q E=>Lx K cW cU cL vs H Q E
theorem Od{es:List En}{i:Nat}{e:En}(hi:i<es.length)(h:es[es.length-1-i]?=some e):es.drop (es.length-(i+1))=e::es.drop (es.length-i):=by
 have hk:es.length-1-i<es.length:=by lia
 rw[show es.length-(i+1)=es.length-1-i by lia,bM hk];rw[ag hk]at h;rw[Option.some.inj h,show es.length-1-i+1=es.length-i by lia]
theorem JD{f:Addr}{fd:FuncData}(F:Fun K "tree_from" "tree_from" Dr f fd)(T:Txt mg tk)(R:RT mg K cT cW cU cL)(K_Whole:Lr P w K mg base 1 "Whole" cW ["self","mark"] (O8 cW))(D_cut_from:Ao P w K mg base 3 "cut_from" ["word","at","first","other"] (Eb cW cU cL)) :
  A2 P w K mg base CX0 4 f fd ["entries"] (Jx K cW cU cL):=by
 have S:Ak ["entries","done","word","number","first","other"] ["entries"] (Ai Dr):=fsk;refine F.g S ?_;rintro vs H Q E ⟨l,xs,t,rfl,hl,hen,hn,q⟩;refine⟨rfl,λ cdv A outer s hr=>?_⟩;refine⟨_,(Ab (Am (i:=1) S.nd rfl (ar rfl) (AY Ac))
  (Ab (A4 PassesOwn.never rfl (QA rfl T.z_reversed (Aa (pv 0) Ac)) (B4 rfl (Au (Aj (i:=2) S.nd rfl (ar rfl)) (Au (Aj (i:=3) S.nd rfl (ar rfl)) AU))) (Ah (AG (Aw Ck (pv 2) (AI (v:=.str "whole") rfl T.g_WHOLE ⟨_,rfl⟩) (Az _)) (Ah (AQ (CW (pv 1) (Aa (K1 K_Whole hr (Aa (pv 3) Ac)) Ac)))) (Ab (Am (i:=4) S.nd rfl (ar rfl) (D3 bn bX bW Hk (pv 1)))
  (Ab (Am (i:=5) S.nd rfl (ar rfl) (D3 bn bX bW Hk (pv 1)))
  (Ah (AQ (CW (pv 1) (Aa (Ap D_cut_from hr (Aa (pv 2) (Aa (pv 3) (Aa (pv 4) (Aa (pv 5) Ac))))) Ac)))))))))
  (Ah (Aq (D3 bn bX bW Hk (pv 1)))))),?_⟩
 refine⟨A1 0,λ ld hld=>⟨_,rfl,l,xs,rfl,(Same.new hld).seq hl,?_⟩⟩;have hxl:=hen.len;have hel:=DA t;refine Rb (K:=K) (a:=l) (xs:=xs) (λ i σ H'=>∃(ws:List (V×Tr))(x2 x3 x4 x5:Option V),σ=[some (.ref l),some (.ref ld),x2,x3,x4,x5]/\Same H H'/\H' ld=some (.lst (ws.map (·.1)))/\(∀p∈ws,Obj cW cU cL H' p.2 p.1)/\(ents t).drop ((ents t).length-i)=Ev ws)
  ⟨[],_,_,_,_,rfl,Same.new hld,Ad,(λ p hp=>(nomatch hp)),by rw[eN,bD];rfl⟩ (λ i σ H' _ hp=>let ⟨_,_,_,_,_,_,s,_⟩:=hp;s.seq hl) ?_ ?_
 .rintro i v σ H' hv hi ⟨ws,x2,x3,x4,x5,rfl,s1,hd,hob,heq⟩;obtain⟨e,a,he,rfl,ha⟩:=hen.get hv;have ha':=s1 _ _ ha;rw[hxl]at he hi;have hdr:=Od hi he;have wl:ws.length<=400:=by
   have h1:=JZ ws;have h2:=HH ws;rw[<-heq,dM]at h2;lia
  cases e with
  |w m =>
   refine⟨a,_,rfl,SqT.of ha',rfl,_,_,rfl,_,_,rfl,rfl,?_⟩;refine⟨_,rfl,rfl,_,rfl,Cq (decide_eq_true rfl) ?_⟩;refine⟨_,rfl,.inl ⟨rfl,_,SqL.of hd⟩,_,rfl,λ x dx nx ndx nex=>⟨x,dx,_,rfl,Ad,rfl,?_⟩⟩;have s2:Same H' (upd (upd (upd H' dx (.own x)) x (.ins cW dx [])) x (.ins cW dx (wF (FL m)))):=λ b o e=>by
    rw[Af (Ag e nx)];exact Fx nx ndx b o e
   have e2:(upd (upd (upd H' dx (.own x)) x (.ins cW dx [])) x (.ins cW dx (wF (FL m)))) x=some (.ins cW dx (wF (FL m))):=Ad;generalize upd (upd (upd H' dx (.own x)) x (.ins cW dx [])) x (.ins cW dx (wF (FL m)))=H2 at s2 e2 |-;have d2:=s2 _ _ hd;refine⟨ld,_,.ref x,rfl,rfl,d2,Al (by rw[aa];lia),?_⟩;have k3:Kp H2 (upd H2 ld (.lst (ws.map (·.1)++[.ref x]))):=Kp.put d2;refine⟨ws++[(.ref x,.whole m)],_,_,_,_,rfl,λ b o e=>?_,?_,λ p hp=>?_,?_⟩
   .rw[Af (Ag e hld)];exact s2 b o (s1 b o e)
   .rw[Ad,aj];rfl
   .rcases aF.mp hp with hp|hp
    .exact((hob p hp).same s2).kp k3
    .rw[ai.mp hp,Obj];exact⟨x,dx,rfl,k3 _ _ e2 (by intro xs z;cases z)⟩
   .rw[hdr,heq,B7];rfl
  |c u k =>
   have big:2<=ws.length:=by
    have h1:=Js t ((ents t).take ((ents t).length-(i+1))) ((ents t).drop ((ents t).length-(i+1))) (eQ _ _).symm (by rw[hdr];intro z;cases z);rw[hdr,heq,Kg,G1]at h1;have:wt (.c u k)=-1:=rfl;lia
   obtain rfl|⟨ws1,p1,rfl⟩:=Ec ws
   .exact absurd big (by decide)
   obtain rfl|⟨ws2,p2,rfl⟩:=Ec ws1
   .exact absurd big (by simp)
   refine⟨a,_,rfl,SqT.of ha',rfl,_,_,rfl,_,_,rfl,rfl,?_⟩;refine⟨_,rfl,rfl,_,rfl,Bm (Oq u) ?_⟩;refine⟨_,rfl,.inl ⟨rfl,_,SqL.of hd⟩,ld,_,p1.1,rfl,rfl,hd,KW,?_⟩;rw[Lf];have k2:Kp H' (upd H' ld (.lst ((ws2++[p2]).map (·.1)))):=Kp.put hd;have s2:Same H (upd H' ld (.lst ((ws2++[p2]).map (·.1)))):=λ b o e=>by rw[Af (Ag e hld)];exact s1 b o e
   have d2:(upd H' ld (.lst ((ws2++[p2]).map (·.1)))) ld=some (.lst ((ws2++[p2]).map (·.1))):=Ad;generalize upd H' ld (.lst ((ws2++[p2]).map (·.1)))=H2 at k2 s2 d2 |-;refine⟨_,rfl,.inl ⟨rfl,_,SqL.of d2⟩,ld,_,p2.1,rfl,rfl,d2,KW,?_⟩;rw[Lf];have k3:Kp H2 (upd H2 ld (.lst (ws2.map (·.1)))):=Kp.put d2;have s3:Same H (upd H2 ld (.lst (ws2.map (·.1)))):=λ b o e=>by rw[Af (Ag e hld)];exact s2 b o e
   have d3:(upd H2 ld (.lst (ws2.map (·.1)))) ld=some (.lst (ws2.map (·.1))):=Ad;generalize upd H2 ld (.lst (ws2.map (·.1)))=H3 at k3 s3 d3 |-;have kk:=k2.trans k3;refine⟨_,rfl,.inl ⟨rfl,_,SqL.of d3⟩,_,rfl,_,rfl,_,rfl,_,rfl,u,k,p1.1,p2.1,p1.2,p2.2,rfl,(hob p1 (by simp)).kp kk,(hob p2 (by simp)).kp kk,λ v' H4 s4 o4=>?_⟩;have d4:=s4 _ _ d3;rw[av,av]at wl;refine⟨ld,_,v',rfl,rfl,d4,Al (by rw[aa];lia),?_⟩;have k5:Kp H4 (upd H4 ld (.lst (ws2.map (·.1)++[v']))):=Kp.put d4;refine⟨ws2++[(v',.cut u k p1.2 p2.2)],_,_,_,_,rfl,λ b o e=>?_,?_,λ p hp=>?_,?_⟩
   .rw[Af (Ag e hld)];exact s4 b o (s3 b o e)
   .rw[Ad,aj];rfl
   .rcases aF.mp hp with hp|hp
    .exact((((hob p (by simp[hp])).kp kk).same s4)).kp k5
    .rw[ai.mp hp];exact o4.kp k5
   .rw[hdr,heq,B7,B7,B7];show .c u k::(ents p1.2++(ents p2.2++Ev ws2))=.c u k::(ents p1.2++ents p2.2)++Ev ws2;rw[dN,aW]
 .rintro σ H' ⟨ws,x2,x3,x4,x5,rfl,s1,hd,hob,heq⟩;rw[hxl,cN,cC]at heq;have one:ws.length=1:=by
   have h1:=C9 t;rw[heq,G1]at h1;lia
  obtain⟨p,rfl⟩:∃p,ws=[p]:=by
   match ws,one with
   |[p],_=>exact⟨p,rfl⟩
  have hp:=hob p (by simp);have et:p.2=t:=by
   have h1:ents t++[]=ents p.2++[]:=by
    rw[aY,heq];rfl
   exact(HJ _ _ _ _ h1).1.symm
  refine⟨_,rfl,.inl ⟨rfl,_,SqL.of hd⟩,ld,_,p.1,rfl,rfl,hd,rfl,?_⟩;rw[et]at hp;exact q _ _ (λ b o e=>by rw[Af (Ag e hld)];exact s1 b o e) (hp.kp (Kp.put hd))
abbrev Rk:=GB.Rc
abbrev Rk.vs(p:Rk):LUz:=[.int p.t,.int p.l,.int p.b,.int p.r]
def Rk.len(p:Rk)(u:Bool):Int:=if u then p.r-p.l else p.b-p.t
def Rk.fst(p:Rk)(u:Bool)(k:Int):Rk:=if u then ⟨p.t,p.l,p.b,p.l+k⟩ else ⟨p.t,p.l,p.t+k,p.r⟩
def Rk.oth(p:Rk)(u:Bool)(k:Int):Rk:=if u then ⟨p.t,p.l+k,p.b,p.r⟩ else ⟨p.t+k,p.l,p.b,p.r⟩
def BD(p:Rk)(t:Tr):Prop:=Fit t (p.r-p.l) (p.b-p.t)
theorem fitR_cut{p:Rk}{u:Bool}{k:Int}{x y:Tr}:BD p (.cut u k x y)↔(1<=k/\k<p.len u)/\BD (p.fst u k) x/\BD (p.oth u k) y:=by
 unfold BD Rk.len Rk.fst Rk.oth;rw[Fit];cases u with
 |true =>
  show(1<=k/\k<p.r-p.l/\Fit x k (p.b-p.t)/\Fit y (p.r-p.l-k) (p.b-p.t))↔((1<=k/\k<p.r-p.l)/\Fit x (p.l+k-p.l) (p.b-p.t)/\Fit y (p.r-(p.l+k)) (p.b-p.t));rw[show p.l+k-p.l=k by lia,show p.r-(p.l+k)=p.r-p.l-k by lia];exact⟨λ⟨a,b,c,d⟩=>⟨⟨a,b⟩,c,d⟩,λ⟨⟨a,b⟩,c,d⟩=>⟨a,b,c,d⟩⟩
 |false =>
  show(1<=k/\k<p.b-p.t/\Fit x (p.r-p.l) k/\Fit y (p.r-p.l) (p.b-p.t-k))↔((1<=k/\k<p.b-p.t)/\Fit x (p.r-p.l) (p.t+k-p.t)/\Fit y (p.r-p.l) (p.b-(p.t+k)));rw[show p.t+k-p.t=k by lia,show p.b-(p.t+k)=p.b-p.t-k by lia];exact⟨λ⟨a,b,c,d⟩=>⟨⟨a,b⟩,c,d⟩,λ⟨⟨a,b⟩,c,d⟩=>⟨a,b,c,d⟩⟩
def AK:Tr->Rk->List (Rk×Option Int)
 |.whole m,p=>[(p,m)]
 |.cut u k x y,p=>AK x (p.fst u k)++AK y (p.oth u k)
theorem ER:∀(t:Tr)(p:Rk),(AK t p).length=t.sz
 |.whole _,_=>rfl
 |.cut u k x y,p=>by rw[AK,av,ER x,ER y];rfl
theorem ES:∀{t:Tr}{p:Rk},p.t<p.b->p.l<p.r->BD p t->∀g∈AK t p,p.t<=g.1.t/\g.1.t<g.1.b/\g.1.b<=p.b/\p.l<=g.1.l/\g.1.l<g.1.r/\g.1.r<=p.r
 |.whole m,p,h1,h2,_,g,hg=>by
  rw[AK]at hg;rw[ai.mp hg];exact⟨bf _,h1,bf _,bf _,h2,bf _⟩
 |.cut u k x y,p,h1,h2,f,g,hg=>by
  rw[fitR_cut]at f;obtain⟨⟨a,b⟩,fx,fy⟩:=f;rw[AK,aF]at hg;cases u with
  |true =>
   have b:k<p.r-p.l:=b;rcases hg with hg|hg
   .have:=ES (p:=p.fst true k) h1 (show p.l<p.l+k by lia) fx g hg;have:p.t<=g.1.t/\g.1.t<g.1.b/\g.1.b<=p.b/\p.l<=g.1.l/\g.1.l<g.1.r/\g.1.r<=p.l+k:=this;lia
   .have:=ES (p:=p.oth true k) h1 (show p.l+k<p.r by lia) fy g hg;have:p.t<=g.1.t/\g.1.t<g.1.b/\g.1.b<=p.b/\p.l+k<=g.1.l/\g.1.l<g.1.r/\g.1.r<=p.r:=this;lia
  |false =>
   have b:k<p.b-p.t:=b;rcases hg with hg|hg
   .have:=ES (p:=p.fst false k) (show p.t<p.t+k by lia) h2 fx g hg;have:p.t<=g.1.t/\g.1.t<g.1.b/\g.1.b<=p.t+k/\p.l<=g.1.l/\g.1.l<g.1.r/\g.1.r<=p.r:=this;lia
   .have:=ES (p:=p.oth false k) (show p.t+k<p.b by lia) h2 fy g hg;have:p.t+k<=g.1.t/\g.1.t<g.1.b/\g.1.b<=p.b/\p.l<=g.1.l/\g.1.l<g.1.r/\g.1.r<=p.r:=this;lia
abbrev PT:=Addr×Addr×Rk×Option Int
abbrev pcs(ts:List PT):LUz:=ts.map λ t=>V.ref t.1
abbrev cons(ts:List PT):List (Rk×Option Int):=ts.map λ t=>t.2.2
def PcO(H:Hp)(ts:List PT):Prop:=∀t∈ts,H t.1=some (.tup [.ref t.2.1,FL t.2.2.2])/\H t.2.1=some (.tup t.2.2.1.vs)
theorem PcO.same{H H':Hp}{ts:List PT}(s:Same H H')(h:PcO H ts):PcO H' ts:=λ t ht=>⟨s _ _ (h t ht).1,s _ _ (h t ht).2⟩
inductive Ni(vs:LUz)(H:Hp)(Q:VK)(E:XK):Prop
 |mk (a:Addr) (p:Rk) (u:Bool) (k:Int) (h0:vs=[.ref a,.str (wd u),.int k]) (h1:H a=some (.tup p.vs)) (h2:∀x,H x=none->Q (.ref x) (upd H x (.tup (p.fst u k).vs))):Ni vs H Q E
def O9:Sp:=λ vs H Q E=>Ni vs H Q E
inductive Nf(vs:LUz)(H:Hp)(Q:VK)(E:XK):Prop
 |mk (a:Addr) (p:Rk) (u:Bool) (k:Int) (h0:vs=[.ref a,.str (wd u),.int k]) (h1:H a=some (.tup p.vs)) (h2:∀x,H x=none->Q (.ref x) (upd H x (.tup (p.oth u k).vs))):Nf vs H Q E
def O7:Sp:=λ vs H Q E=>Nf vs H Q E
theorem Hf{f:Addr}{fd:FuncData}(F:Fun K "first_piece" "first_piece" C0 f fd)(T:Txt mg tk):A2 P w K mg base CX0 1 f fd ["piece","word","at"] O9:=by
 have S:Ak ["piece","word","at"] ["piece","word","at"] (Ai C0):=fsk;refine F.g S ?_;rintro vs H Q E ⟨a,p,u,k,rfl,ha,q⟩;refine⟨rfl,λ cdv A outer s hr=>?_⟩;refine⟨_,(Ab (AG (Aw Ck (pv 1) (AI (v:=.str "upright") rfl T.g_UPRIGHT_cuts ⟨_,rfl⟩) (Az _)) (Ah (Aq (AB (Aa (As Ar (pv 0) Ae (λ_ _=>rfl)) (Aa (As Ar (pv 0) Ae (λ_ _=>rfl)) (Aa (As Ar (pv 0) Ae (λ_ _=>rfl)) (Aa (An A7 (As Ar (pv 0) Ae (λ_ _=>rfl)) (pv 2)) Ac))))))) Ax)
  (Ah (Aq (AB (Aa (As Ar (pv 0) Ae (λ_ _=>rfl)) (Aa (As Ar (pv 0) Ae (λ_ _=>rfl)) (Aa (An A7 (As Ar (pv 0) Ae (λ_ _=>rfl)) (pv 2)) (Aa (As Ar (pv 0) Ae (λ_ _=>rfl)) Ac)))))))),?_⟩
 cases u with
 |true=>exact⟨_,rfl,rfl,_,rfl,Cq (Fb true true) ⟨_,rfl,a,_,_,_,rfl,rfl,SqT.of ha,at0,_,rfl,a,_,_,_,rfl,rfl,SqT.of ha,at1,_,rfl,a,_,_,_,rfl,rfl,SqT.of ha,at2,_,rfl,a,_,_,_,rfl,rfl,SqT.of ha,at1,_,rfl,_,_,rfl,rfl,A1 4,q⟩⟩
 |false=>exact⟨_,rfl,rfl,_,rfl,Bm (Fb false true) ⟨_,rfl,a,_,_,_,rfl,rfl,SqT.of ha,at0,_,rfl,a,_,_,_,rfl,rfl,SqT.of ha,at1,_,rfl,a,_,_,_,rfl,rfl,SqT.of ha,at0,_,rfl,_,_,rfl,rfl,_,rfl,a,_,_,_,rfl,rfl,SqT.of ha,at3,A1 4,q⟩⟩
theorem Hc{f:Addr}{fd:FuncData}(F:Fun K "other_piece" "other_piece" Cy f fd)(T:Txt mg tk):A2 P w K mg base CX0 1 f fd ["piece","word","at"] O7:=by
 have S:Ak ["piece","word","at"] ["piece","word","at"] (Ai Cy):=fsk;refine F.g S ?_;rintro vs H Q E ⟨a,p,u,k,rfl,ha,q⟩;refine⟨rfl,λ cdv A outer s hr=>?_⟩;refine⟨_,(Ab (AG (Aw Ck (pv 1) (AI (v:=.str "upright") rfl T.g_UPRIGHT_cuts ⟨_,rfl⟩) (Az _)) (Ah (Aq (AB (Aa (As Ar (pv 0) Ae (λ_ _=>rfl)) (Aa (An A7 (As Ar (pv 0) Ae (λ_ _=>rfl)) (pv 2)) (Aa (As Ar (pv 0) Ae (λ_ _=>rfl)) (Aa (As Ar (pv 0) Ae (λ_ _=>rfl)) Ac))))))) Ax)
  (Ah (Aq (AB (Aa (An A7 (As Ar (pv 0) Ae (λ_ _=>rfl)) (pv 2)) (Aa (As Ar (pv 0) Ae (λ_ _=>rfl)) (Aa (As Ar (pv 0) Ae (λ_ _=>rfl)) (Aa (As Ar (pv 0) Ae (λ_ _=>rfl)) Ac)))))))),?_⟩
 cases u with
 |true=>exact⟨_,rfl,rfl,_,rfl,Cq (Fb true true) ⟨_,rfl,a,_,_,_,rfl,rfl,SqT.of ha,at0,_,rfl,a,_,_,_,rfl,rfl,SqT.of ha,at1,_,rfl,_,_,rfl,rfl,_,rfl,a,_,_,_,rfl,rfl,SqT.of ha,at2,_,rfl,a,_,_,_,rfl,rfl,SqT.of ha,at3,A1 4,q⟩⟩
 |false=>exact⟨_,rfl,rfl,_,rfl,Bm (Fb false true) ⟨_,rfl,a,_,_,_,rfl,rfl,SqT.of ha,at0,_,rfl,_,_,rfl,rfl,_,rfl,a,_,_,_,rfl,rfl,SqT.of ha,at1,_,rfl,a,_,_,_,rfl,rfl,SqT.of ha,at2,_,rfl,a,_,_,_,rfl,rfl,SqT.of ha,at3,A1 4,q⟩⟩
def PsAt(H:Hp)(ws:List (Addr×Rk×Tr)):Prop:=∀p∈ws,H p.1=some (.tup p.2.1.vs)
abbrev trs(ws:List (Addr×Rk×Tr)):List (V×Tr):=ws.map λ p=>(V.ref p.1,p.2.2)
abbrev Bn(ws:List (Addr×Rk×Tr)):LUz:=ws.map λ p=>V.ref p.1
theorem PsAt.kp{H H':Hp}{ws:List (Addr×Rk×Tr)}(h:PsAt H ws)(k:Kp H H'):PsAt H' ws:=λ p hp=>k _ _ (h p hp) (by intro xs z;cases z)
theorem NM{ws0:List (Addr×Rk×Tr)}{p:Addr×Rk×Tr}:(Bn (ws0++[p]))[(Bn (ws0++[p])).length-1]?=some (.ref p.1):=by
 rw[aa,av,aX,dE,ay,ci (ah _),cN];rfl
theorem Oc{ws0:List (Addr×Rk×Tr)}{p:Addr×Rk×Tr}:(Bn (ws0++[p])).dropLast=Bn ws0:=by
 show(List.map (λ p=>V.ref p.1) (ws0++[p])).dropLast=_;rw[aj,dD,bN]
theorem B9(ws:List (Addr×Rk×Tr))(p:Addr×Rk×Tr):trs (ws++[p])=trs ws++[(V.ref p.1,p.2.2)]:=by
 show List.map (λ p=>(V.ref p.1,p.2.2)) (ws++[p])=_;rw[aj];rfl
theorem IK(ws:List (Addr×Rk×Tr))(p:Addr×Rk×Tr):Bn (ws++[p])=Bn ws++[V.ref p.1]:=by
 show List.map (λ p=>V.ref p.1) (ws++[p])=_;rw[aj];rfl
theorem OV(ts:List PT)(t:PT):pcs (ts++[t])=pcs ts++[V.ref t.1]:=by
 show List.map (λ p=>V.ref p.1) (ts++[t])=_;rw[aj];rfl
theorem Oi(ts:List PT)(t:PT):cons (ts++[t])=cons ts++[t.2.2]:=by
 show List.map (λ p=>p.2.2) (ts++[t])=_;rw[aj];rfl
def Rk.lo(p:Rk)(u:Bool):Int:=if u then p.l else p.t
def Rk.hi(p:Rk)(u:Bool):Int:=if u then p.r else p.b
theorem C4{p:Rk}{u:Bool}:p.len u=p.hi u-p.lo u:=by cases u<;>rfl
theorem Mz{p:Rk}{u:Bool}{k a:Int}:(p.fst u k).fst u a=p.fst u a:=by cases u<;>rfl
theorem Mx{p:Rk}{u:Bool}{k a:Int}:(p.fst u k).oth u a=(p.oth u a).fst u (k-a):=by
 cases u
 .show(⟨p.t+a,p.l,p.t+k,p.r⟩:Rk)=⟨p.t+a,p.l,p.t+a+(k-a),p.r⟩;rw[show p.t+a+(k-a)=p.t+k by lia]
 .show(⟨p.t,p.l+a,p.b,p.l+k⟩:Rk)=⟨p.t,p.l+a,p.b,p.l+a+(k-a)⟩;rw[show p.l+a+(k-a)=p.l+k by lia]
theorem Mw{p:Rk}{u:Bool}{k a:Int}:(p.oth u a).oth u (k-a)=p.oth u k:=by
 cases u
 .show(⟨p.t+a+(k-a),p.l,p.b,p.r⟩:Rk)=⟨p.t+k,p.l,p.b,p.r⟩;rw[show p.t+a+(k-a)=p.t+k by lia]
 .show(⟨p.t,p.l+a+(k-a),p.b,p.r⟩:Rk)=⟨p.t,p.l+k,p.b,p.r⟩;rw[show p.l+a+(k-a)=p.l+k by lia]
theorem Sb{p:Rk}{u v:Bool}{k a:Int}(h:¬v=u):(p.fst v k).fst u a=(p.fst u a).fst v k/\(p.fst v k).oth u a=(p.oth u a).fst v k/\(p.oth v k).fst u a=(p.fst u a).oth v k/\(p.oth v k).oth u a=(p.oth u a).oth v k/\(p.fst v k).len u=p.len u/\(p.oth v k).len u=p.len u/\(p.fst v k).lo u=p.lo u/\(p.oth v k).lo u=p.lo u/\(p.fst u a).len v=p.len v/\(p.oth u a).len v=p.len v:=by
 cases u<;>cases v<;>first|exact absurd rfl h|exact⟨rfl,rfl,rfl,rfl,rfl,rfl,rfl,rfl,rfl,rfl⟩
theorem OH{p:Rk}{u:Bool}{k:Int}:(p.fst u k).len u=k/\(p.oth u k).len u=p.len u-k/\(p.fst u k).lo u=p.lo u/\(p.oth u k).lo u=p.lo u+k/\(p.fst u k).hi u=p.lo u+k:=by
 cases u
 .exact⟨show p.t+k-p.t=k by lia,show p.b-(p.t+k)=p.b-p.t-k by lia,rfl,rfl,rfl⟩
 .exact⟨show p.l+k-p.l=k by lia,show p.r-(p.l+k)=p.r-p.l-k by lia,rfl,rfl,rfl⟩
abbrev Rk.ok(p:Rk):Prop:=p.t<p.b/\p.l<p.r
theorem Kt{p:Rk}{u:Bool}{k:Int}(h:p.ok)(a:1<=k)(b:k<p.len u):(p.fst u k).ok/\(p.oth u k).ok:=by
 cases u with
 |true =>
  have b:k<p.r-p.l:=b;exact⟨⟨h.1,show p.l<p.l+k by lia⟩,h.1,show p.l+k<p.r by lia⟩
 |false =>
  have b:k<p.b-p.t:=b;exact⟨⟨show p.t<p.t+k by lia,h.2⟩,show p.t+k<p.b by lia,h.2⟩
def Thr:Tr->Bool->Int->Prop
 |.whole _,_,_=>False
 |.cut v k x y,u,a=>if v=u then (if a<k then Thr x u a else if k<a then Thr y u (a-k) else True) else Thr x u a/\Thr y u a
def ahd:Tr->Bool->Int->Tr
 |.whole m,_,_=>.whole m
 |.cut v k x y,u,a=>if v=u then (if a<k then ahd x u a else if k<a then .cut v k x (ahd y u (a-k)) else x) else .cut v k (ahd x u a) (ahd y u a)
def bhd:Tr->Bool->Int->Tr
 |.whole m,_,_=>.whole m
 |.cut v k x y,u,a=>if v=u then (if a<k then .cut v (k-a) (bhd x u a) y else if k<a then bhd y u (a-k) else y) else .cut v k (bhd x u a) (bhd y u a)
theorem LA:∀t:Tr,1<=t.sz
 |.whole _=>ah _
 |.cut _ _ x y=>by
  have:=LA x;rw[Tr.sz];lia
theorem CJ:∀{t:Tr}{p:Rk}{u:Bool}{a:Int},BD p t->Thr t u a->(1<=a/\a<p.len u)->BD (p.fst u a) (ahd t u a)/\BD (p.oth u a) (bhd t u a)
 |.whole _,p,u,a,_,h,_=>h.elim
 |.cut v k x y,p,u,a,f,h,⟨a1,a2⟩=>by
  rw[fitR_cut]at f;obtain⟨⟨k1,k2⟩,fx,fy⟩:=f;rw[Thr]at h;rw[ahd,bhd];by_cases e:v=u
  .subst e;rw[if_pos rfl]at h;rw[if_pos rfl,if_pos rfl];obtain⟨s1,s2,_,_,_⟩:=OH (p:=p) (u:=v) (k:=k);by_cases c:a<k
   .rw[if_pos c]at h;rw[if_pos c,if_pos c,fitR_cut];obtain⟨i1,i2⟩:=CJ fx h ⟨a1,by rw[s1];exact c⟩;rw[Mz]at i1;rw[Mx]at i2;refine⟨i1,⟨by lia,?_⟩,i2,by rw[Mw];exact fy⟩;have:=(OH (p:=p) (u:=v) (k:=a)).2.1;lia
   .rw[if_neg c]at h;rw[if_neg c,if_neg c];by_cases c2:k<a
    .rw[if_pos c2]at h;rw[if_pos c2,if_pos c2,fitR_cut];obtain⟨i1,i2⟩:=CJ fy h ⟨by lia,by rw[s2];lia⟩;rw[<-Mx]at i1;rw[Mw]at i2;refine⟨⟨⟨k1,?_⟩,by rw[Mz];exact fx,i1⟩,i2⟩;have:=(OH (p:=p) (u:=v) (k:=a)).1;lia
    .rw[if_neg c2,if_neg c2];have:a=k:=by lia
     rw[this];exact⟨fx,fy⟩
  .rw[if_neg e]at h;rw[if_neg e,if_neg e,fitR_cut,fitR_cut];obtain⟨e1,e2,e3,e4,e5,e6,_,_,e9,e10⟩:=Sb (p:=p) (u:=u) (v:=v) (k:=k) (a:=a) e;obtain⟨i1,i2⟩:=CJ fx h.1 ⟨a1,by rw[e5];exact a2⟩;obtain⟨j1,j2⟩:=CJ fy h.2 ⟨a1,by rw[e6];exact a2⟩;rw[e1]at i1;rw[e2]at i2;rw[e3]at j1;rw[e4]at j2;exact⟨⟨⟨k1,by rw[e9];exact k2⟩,i1,j1⟩,⟨k1,by rw[e10];exact k2⟩,i2,j2⟩
theorem T2{α:Type}{A B C D:List α}:((A++B)++(C++D)).Perm ((A++C)++(B++D)):=by
 rw[aW,aW];refine List.Perm.append_left A ?_;rw[<-aW,<-aW];exact List.Perm.append_right D List.perm_append_comm
theorem CI:∀{t:Tr}{p:Rk}{u:Bool}{a:Int},Thr t u a->(AK t p).Perm (AK (ahd t u a) (p.fst u a)++AK (bhd t u a) (p.oth u a))
 |.whole _,p,u,a,h=>h.elim
 |.cut v k x y,p,u,a,h=>by
  rw[Thr]at h;rw[ahd,bhd];by_cases e:v=u
  .subst e;rw[if_pos rfl]at h;rw[if_pos rfl,if_pos rfl];by_cases c:a<k
   .rw[if_pos c]at h;rw[if_pos c,if_pos c,AK,AK,Mw,<-Mx,<-aW];have:=CI (p:=p.fst v k) h;rw[Mz]at this;exact this.append_right _
   .rw[if_neg c]at h;rw[if_neg c,if_neg c];by_cases c2:k<a
    .rw[if_pos c2]at h;rw[if_pos c2,if_pos c2,AK,AK,Mz,Mx,aW];have:=CI (p:=p.oth v k) h;rw[Mw]at this;exact this.append_left _
    .rw[if_neg c2,if_neg c2];have:a=k:=by lia
     rw[this,AK]
  .rw[if_neg e]at h;rw[if_neg e,if_neg e,AK,AK,AK];obtain⟨e1,e2,e3,e4,_⟩:=Sb (p:=p) (u:=u) (v:=v) (k:=k) (a:=a) e;have i:=CI (p:=p.fst v k) h.1;have j:=CI (p:=p.oth v k) h.2;rw[e1,e2]at i;rw[e3,e4]at j;exact(i.append j).trans T2
def brk(u:Bool)(line:Int)(g:Rk×Option Int):Prop:=g.1.lo u<line/\line<g.1.hi u
theorem G6:∀{t:Tr}{p:Rk}{u:Bool}{a:Int},BD p t->1<=a->a<p.len u->(∀g∈AK t p,¬brk u (p.lo u+a) g)->Thr t u a
 |.whole m,p,u,a,_,h1,h2,h=>by
  rw[AK]at h;rw[C4]at h2;exact absurd (show p.lo u<p.lo u+a/\p.lo u+a<p.hi u by lia) (h (p,m) (ai.mpr rfl))
 |.cut v k x y,p,u,a,f,h1,h2,h=>by
  rw[fitR_cut]at f;obtain⟨⟨k1,k2⟩,fx,fy⟩:=f;rw[AK]at h;rw[Thr];by_cases e:v=u
  .subst e;rw[if_pos rfl];obtain⟨s1,s2,s3,s4,_⟩:=OH (p:=p) (u:=v) (k:=k);by_cases c:a<k
   .rw[if_pos c];exact G6 fx h1 (by rw[s1];exact c) λ g hg=>by rw[s3];exact h g (aF.mpr (.inl hg))
   .rw[if_neg c];by_cases c2:k<a
    .rw[if_pos c2];exact G6 fy (by lia) (by rw[s2];lia) λ g hg=>by rw[s4,show p.lo v+k+(a-k)=p.lo v+a by lia];exact h g (aF.mpr (.inr hg))
    .rw[if_neg c2];trivial
  .rw[if_neg e];obtain⟨_,_,_,_,e5,e6,e7,e8,_⟩:=Sb (p:=p) (u:=u) (v:=v) (k:=k) (a:=a) e;exact⟨G6 fx h1 (by rw[e5];exact h2) λ g hg=>by rw[e7];exact h g (aF.mpr (.inl hg)),G6 fy h1 (by rw[e6];exact h2) λ g hg=>by rw[e8];exact h g (aF.mpr (.inr hg))⟩
theorem F2{t:Tr}{p:Rk}(h:p.ok)(f:BD p t){g:Rk×Option Int}(hg:g∈AK t p)(u:Bool):p.lo u<=g.1.lo u/\g.1.lo u<g.1.hi u/\g.1.hi u<=p.hi u:=by
 have:=ES h.1 h.2 f g hg;cases u
 .exact⟨this.1,this.2.1,this.2.2.1⟩
 .exact⟨this.2.2.2.1,this.2.2.2.2.1,this.2.2.2.2.2⟩
theorem Ew{x y:Tr}{p:Rk}{u:Bool}{k:Int}(h:p.ok)(k1:1<=k)(k2:k<p.len u)(fx:BD (p.fst u k) x)(fy:BD (p.oth u k) y) :
  ((AK x (p.fst u k)++AK y (p.oth u k)).filter λ g=>decide (g.1.lo u<p.lo u+k))=AK x (p.fst u k)/\((AK x (p.fst u k)++AK y (p.oth u k)).filter λ g=>decide (p.lo u+k<=g.1.lo u))=AK y (p.oth u k)/\∀g∈AK x (p.fst u k)++AK y (p.oth u k),¬brk u (p.lo u+k) g:=by
 obtain⟨o1,o2⟩:=Kt h k1 k2;obtain⟨_,_,s3,s4,s5⟩:=OH (p:=p) (u:=u) (k:=k);have i1:∀g∈AK x (p.fst u k),g.1.lo u<p.lo u+k/\g.1.hi u<=p.lo u+k:=λ g hg=>by
  have:=F2 o1 fx hg u;rw[s5]at this;lia
 have i2:∀g∈AK y (p.oth u k),p.lo u+k<=g.1.lo u:=λ g hg=>by
  have:=F2 o2 fy hg u;rw[s4]at this;lia
 refine⟨?_,?_,λ g hg z=>?_⟩
 .rw[ba,cK.mpr (λ g hg=>decide_eq_true (i1 g hg).1),eK.mpr (λ g hg z=>by have:=of_decide_eq_true z;have:=i2 g hg;lia),aY]
 .rw[ba,cK.mpr (λ g hg=>decide_eq_true (i2 g hg)),eK.mpr (λ g hg z=>by have:=of_decide_eq_true z;have:=i1 g hg;lia),dc]
 .obtain⟨z1,z2⟩:=z;rcases aF.mp hg with hg|hg
  .have:=i1 g hg;lia
  .have:=i2 g hg;lia
theorem N8{t:Tr}{p:Rk}{u:Bool}{a:Int}{L:List (Rk×Option Int)}(h:p.ok)(f:BD p t)(e:L.Perm (AK t p))(a1:1<=a)(a2:a<p.len u)(hb:∀g∈L,¬brk u (p.lo u+a) g) :
  Thr t u a/\BD (p.fst u a) (ahd t u a)/\BD (p.oth u a) (bhd t u a)/\(L.filter λ g=>decide (g.1.lo u<p.lo u+a)).Perm (AK (ahd t u a) (p.fst u a))/\(L.filter λ g=>decide (p.lo u+a<=g.1.lo u)).Perm (AK (bhd t u a) (p.oth u a)):=by
 have th:=G6 f a1 a2 λ g hg=>hb g (e.mem_iff.mpr hg);obtain⟨f1,f2⟩:=CJ f th ⟨a1,a2⟩;obtain⟨q1,q2,_⟩:=Ew h a1 a2 f1 f2;have:=e.trans (CI (p:=p) th);refine⟨th,f1,f2,?_,?_⟩
 .have:=this.filter (λ g=>decide (g.1.lo u<p.lo u+a));rw[q1]at this;exact this
 .have:=this.filter (λ g=>decide (p.lo u+a<=g.1.lo u));rw[q2]at this;exact this
theorem RZ:∀{t:Tr},t.sz=1->∃m,t=.whole m
 |.whole m,_=>⟨m,rfl⟩
 |.cut _ _ x y,h=>by
  have:=LA x;have:=LA y;rw[Tr.sz]at h;lia
def gD(g:Rk×Option Int):D:=.tup (.cons (.tup (.cons (.at (.int g.1.t)) (.cons (.at (.int g.1.l)) (.cons (.at (.int g.1.b)) (.cons (.at (.int g.1.r)) .nil))))) (.cons (.at (FL g.2)) .nil))
theorem Pl:∀t:Tr,t.nd+1=2*t.sz
 |.whole _=>by rw[Tr.nd,Tr.sz]
 |.cut _ _ x y=>by have:=Pl x;have:=Pl y;rw[Tr.nd,Tr.sz];lia
theorem none_of{H H':Hp}{l:Addr}(s:Same H H')(h:H' l=none):H l=none:=by
 cases e:H l with
 |none=>rfl
 |some o=>rw[s _ _ e]at h;cases h
def sd(u:Bool):Int:=if u then 1 else 0
theorem MV{p:Rk}{u:Bool}:atI p.vs (sd u)=some (.int (p.lo u)):=by cases u<;>rfl
theorem R9{p:Rk}{u:Bool}:atI p.vs (sd u+2)=some (.int (p.hi u)):=by cases u<;>rfl
theorem Fl{p:Rk}(h:p.ok)(u:Bool):p.lo u<p.hi u:=by
 cases u
 .exact h.1
 .exact h.2
theorem MA{ts:List PT}{i:Nat}{x:V}(h:(pcs ts)[i]?=some x):∃u,ts[i]?=some u/\x=.ref u.1:=by
 rw[ay]at h;cases e:ts[i]? with
 |none=>rw[e]at h;cases h
 |some u=>rw[e]at h;exact⟨u,rfl,(Option.some.inj h).symm⟩
theorem Tn{p:Rk}{u:Bool}{a:Int}(h:∀v,0<=p.lo v/\p.hi v<=12)(a1:1<=a)(a2:a<p.len u):(∀v,0<=(p.fst u a).lo v/\(p.fst u a).hi v<=12)/\(∀v,0<=(p.oth u a).lo v/\(p.oth u a).hi v<=12)/\(p.fst u a).len true+(p.fst u a).len false<p.len true+p.len false/\(p.oth u a).len true+(p.oth u a).len false<p.len true+p.len false:=by
 obtain⟨x1,x2⟩:=h true;obtain⟨y1,y2⟩:=h false;have x1:0<=p.l:=x1;have x2:p.r<=12:=x2;have y1:0<=p.t:=y1;have y2:p.b<=12:=y2;cases u with
 |true =>
  have a2:a<p.r-p.l:=a2;refine⟨λ v=>?_,λ v=>?_,?_,?_⟩
  .cases v
   .exact⟨y1,y2⟩
   .exact⟨x1,show p.l+a<=12 by lia⟩
  .cases v
   .exact⟨y1,y2⟩
   .exact⟨show 0<=p.l+a by lia,x2⟩
  .show p.l+a-p.l+(p.b-p.t)<p.r-p.l+(p.b-p.t);lia
  .show p.r-(p.l+a)+(p.b-p.t)<p.r-p.l+(p.b-p.t);lia
 |false =>
  have a2:a<p.b-p.t:=a2;refine⟨λ v=>?_,λ v=>?_,?_,?_⟩
  .cases v
   .exact⟨y1,show p.t+a<=12 by lia⟩
   .exact⟨x1,x2⟩
  .cases v
   .exact⟨show 0<=p.t+a by lia,y2⟩
   .exact⟨x1,x2⟩
  .show p.r-p.l+(p.t+a-p.t)<p.r-p.l+(p.b-p.t);lia
  .show p.r-p.l+(p.b-(p.t+a))<p.r-p.l+(p.b-p.t);lia
def Oo(en:Rk->En)(D:Rk->Prop):Tr->Rk->Prop
 |.whole m,p=>D p/\en p=.w m
 |.cut u k x y,p=>D p/\en p=.c u k/\Oo en D x (p.fst u k)/\Oo en D y (p.oth u k)
def FA(u:Bool)(a:Int)(r:Rk):Bool:=decide (r.lo u<a)&&decide (a<r.hi u)
theorem brkR_iff{u:Bool}{a:Int}{r:Rk}:FA u a r=true↔r.lo u<a/\a<r.hi u:=by
 unfold FA;rw[aE,decide_eq_true_iff,decide_eq_true_iff]
def Iv(rs:List Rk)(u:Bool)(lo:Int):Nat->List Int
 |0=>[]
 |n+1=>Iv rs u lo n++if rs.any (FA u (lo+1+n))=true then [] else [lo+1+n]
def lns(rs:List Rk)(p:Rk)(u:Bool):List Int:=Iv rs u (p.lo u) (p.hi u-(p.lo u+1)).toNat
theorem KR{rs:List Rk}{u:Bool}{lo:Int}:∀{n:Nat}{a:Int},a∈Iv rs u lo n↔lo<a/\a<lo+1+n/\∀r∈rs,¬(r.lo u<a/\a<r.hi u)
 |0,a=>by
  rw[Iv];exact⟨λ h=>absurd h bx,λ h=>by lia⟩
 |n+1,a=>by
  rw[Iv,aF,KR]
  constructor
  .rintro(⟨h1,h2,h3⟩|h)
   .exact⟨h1,by lia,h3⟩
   .split at h
    .cases h
    .rename_i hn;cases ai.mp h;refine⟨by lia,by lia,λ r hr z=>hn ?_⟩;exact cY.mpr ⟨r,hr,brkR_iff.mpr z⟩
  .rintro⟨h1,h2,h3⟩;by_cases e:a=lo+1+n
   .right
    subst e;rw[if_neg (λ z=>by obtain⟨r,hr,hz⟩:=cY.mp z;exact h3 r hr (brkR_iff.mp hz))];exact ai.mpr rfl
   .exact .inl ⟨h1,by lia,h3⟩
theorem KU{rs:List Rk}{u:Bool}{lo:Int}:∀n:Nat,(Iv rs u lo n).length<=n
 |0=>ah _
 |n+1=>by
  have:=KU (rs:=rs) (u:=u) (lo:=lo) n;rw[Iv,av];split<;>simp<;>lia
theorem Gs{rs:List Rk}{p:Rk}{u:Bool}{a:Int}(h:p.ok):a∈lns rs p u↔p.lo u<a/\a<p.hi u/\∀r∈rs,¬(r.lo u<a/\a<r.hi u):=by
 have:p.lo u<p.hi u:=Fl h u;unfold lns;rw[KR]
 constructor
 .rintro⟨a1,a2,a3⟩;exact⟨a1,by lia,a3⟩
 .rintro⟨a1,a2,a3⟩;exact⟨a1,by lia,a3⟩
def E7(rs:List Rk)(p:Rk):List (Bool×Int):=(lns rs p true).map (λ a=>(true,a))++(lns rs p false).map (λ a=>(false,a))
theorem Hl{rs:List Rk}{p:Rk}{c:Bool×Int}(h:p.ok):c∈E7 rs p↔p.lo c.1<c.2/\c.2<p.hi c.1/\∀r∈rs,¬(r.lo c.1<c.2/\c.2<r.hi c.1):=by
 obtain⟨u,a⟩:=c;unfold E7;rw[aF,az,az]
 constructor
 .rintro(⟨b,hb,e⟩|⟨b,hb,e⟩)<;>cases e<;>exact(Gs h).mp hb
 .intro z;cases u
  .exact .inr ⟨a,(Gs h).mpr z,rfl⟩
  .exact .inl ⟨a,(Gs h).mpr z,rfl⟩
def thE(p:Rk):List (Bool×Int)->En
 |c::_=>.c c.1 (c.2-p.lo c.1)
 |[]=>.w none
def enL(L:List (Rk×Option Int))(p:Rk):En:=match L with
 |[g]=>.w g.2
 |_=>thE p (E7 (L.map (·.1)) p)
theorem PH{L:List (Rk×Option Int)}{p:Rk}(h:L.length≠1):enL L p=thE p (E7 (L.map (·.1)) p):=by
 match L,h with
 |[],_=>rfl
 |[g],h=>exact absurd rfl h
 |_::_::_,_=>rfl
def Ins(r p:Rk):Prop:=p.t<=r.t/\p.l<=r.l/\r.b<=p.b/\r.r<=p.r
instance (r p:Rk):Decidable (Ins r p):=inferInstanceAs (Decidable (_/\_/\_/\_))
def inP(L:List (Rk×Option Int))(p:Rk):List (Rk×Option Int):=L.filter λ g=>decide (Ins g.1 p)
theorem ins_iff{r p:Rk}:Ins r p↔∀u,p.lo u<=r.lo u/\r.hi u<=p.hi u:=by
 constructor
 .rintro⟨a,b,c,d⟩ u;cases u
  .exact⟨a,c⟩
  .exact⟨b,d⟩
 .intro h;exact⟨(h false).1,(h true).1,(h false).2,(h true).2⟩
theorem II{p:Rk}{u v:Bool}{k:Int}(k1:1<=k)(k2:k<p.len u):(p.fst u k).lo v=p.lo v/\(p.fst u k).hi v=(if u=v then p.lo u+k else p.hi v)/\(p.oth u k).lo v=(if u=v then p.lo u+k else p.lo v)/\(p.oth u k).hi v=p.hi v:=by
 cases u<;>cases v<;>exact⟨rfl,rfl,rfl,rfl⟩
theorem P1{L:List (Rk×Option Int)}{p:Rk}{u:Bool}{k:Int}(hL:∀g∈L,∀v,g.1.lo v<g.1.hi v)(k1:1<=k)(k2:k<p.len u)(nb:∀g∈inP L p,¬brk u (p.lo u+k) g) :
  inP L (p.fst u k)=(inP L p).filter (λ g=>decide (g.1.lo u<p.lo u+k))/\inP L (p.oth u k)=(inP L p).filter (λ g=>decide (p.lo u+k<=g.1.lo u)):=by
 rw[C4]at k2;have k2':k<p.len u:=by rw[C4];exact k2
 unfold inP;rw[List.filter_filter,List.filter_filter]
 constructor
 .refine List.filter_congr λ g hg=>?_;rw[b7,aE,decide_eq_true_iff,decide_eq_true_iff,decide_eq_true_iff];have lt:=hL g hg u
  constructor
  .intro z;have zz:=ins_iff.mp z;have zu:=zz u;obtain⟨_,r2,_,_⟩:=II (p:=p) (u:=u) (v:=u) k1 k2';rw[r2,if_pos rfl]at zu;refine⟨by lia,ins_iff.mpr λ v=>?_⟩;have zv:=zz v;obtain⟨q1,q2,_,_⟩:=II (p:=p) (u:=u) (v:=v) k1 k2';rw[q1,q2]at zv;by_cases e:u=v
   .subst e;rw[if_pos rfl]at zv;lia
   .rw[if_neg e]at zv;exact zv
  .rintro⟨a,b⟩;have nbg:=nb g (cw.mpr ⟨hg,decide_eq_true b⟩);have bb:=ins_iff.mp b;refine ins_iff.mpr λ v=>?_;have bv:=bb v;obtain⟨q1,q2,_,_⟩:=II (p:=p) (u:=u) (v:=v) k1 k2';rw[q1,q2];by_cases e:u=v
   .subst e;rw[if_pos rfl];exact⟨bv.1,dO λ z=>nbg ⟨a,by lia⟩⟩
   .rw[if_neg e];exact bv
 .refine List.filter_congr λ g hg=>?_;rw[b7,aE,decide_eq_true_iff,decide_eq_true_iff,decide_eq_true_iff];have lt:=hL g hg u
  constructor
  .intro z;have zz:=ins_iff.mp z;have zu:=zz u;obtain⟨_,_,r3,_⟩:=II (p:=p) (u:=u) (v:=u) k1 k2';rw[r3,if_pos rfl]at zu;refine⟨zu.1,ins_iff.mpr λ v=>?_⟩;have zv:=zz v;obtain⟨_,_,q3,q4⟩:=II (p:=p) (u:=u) (v:=v) k1 k2';rw[q3,q4]at zv;by_cases e:u=v
   .subst e;rw[if_pos rfl]at zv;lia
   .rw[if_neg e]at zv;exact zv
  .rintro⟨a,b⟩;have bb:=ins_iff.mp b;refine ins_iff.mpr λ v=>?_;have bv:=bb v;obtain⟨_,_,q3,q4⟩:=II (p:=p) (u:=u) (v:=v) k1 k2';rw[q3,q4];by_cases e:u=v
   .subst e;rw[if_pos rfl];exact⟨a,bv.2⟩
   .rw[if_neg e];exact bv
def IsF:Tr->List (Rk×Option Int)->Rk->Prop
 |.whole m,L,p=>L=[(p,m)]
 |.cut u k x y,L,p=>(E7 (L.map (·.1)) p).head?=some (u,p.lo u+k)/\IsF x (L.filter λ g=>decide (g.1.lo u<p.lo u+k)) (p.fst u k)/\IsF y (L.filter λ g=>decide (p.lo u+k<=g.1.lo u)) (p.oth u k)
def DF(L:List (Rk×Option Int))(p:Rk):Prop:=p.ok/\(∀u,0<=p.lo u/\p.hi u<=12)/\∃t,BD p t/\(inP L p).Perm (AK t p)
theorem NZ{L:List (Rk×Option Int)}(hL:∀g∈L,∀v,g.1.lo v<g.1.hi v):∀(n:Nat)(p:Rk),(p.len true+p.len false).toNat=n->DF L p->∃F,Oo (λ p=>enL (inP L p) p) (DF L) F p/\BD p F/\IsF F (inP L p) p/\(AK F p).Perm (inP L p):=by
 intro n
 induction n using Nat.strongRecOn with
 |ind n ih =>
  intro p hn df;have df0:=df;obtain⟨ok,bd,t,fit,pm⟩:=df;have len:=pm.length_eq;rw[ER]at len;by_cases h1:(inP L p).length=1
  .obtain⟨g,hg⟩:=c9.mp h1;obtain⟨m,rfl⟩:=RZ (len.symm.trans h1);rw[AK,hg]at pm;have e:=ai.mp (pm.mem_iff.mp (ai.mpr rfl));subst e;refine⟨.whole m,⟨df0,by show enL (inP L p) p=_;rw[hg];rfl⟩,trivial,hg,by rw[hg];exact bP _⟩
  .obtain⟨c,rest,hc⟩:∃c rest,E7 ((inP L p).map (·.1)) p=c::rest:=by
    cases t with
    |whole m=>exact absurd len h1
    |cut u0 k0 x0 y0 =>
     obtain⟨⟨k1,k2⟩,fx,fy⟩:=fitR_cut.mp fit;obtain⟨_,_,nb⟩:=Ew ok k1 k2 fx fy;rw[C4]at k2;have m:=(Hl (rs:=(inP L p).map (·.1)) (c:=(u0,p.lo u0+k0)) ok).mpr ⟨by show p.lo u0<p.lo u0+k0;lia,by show p.lo u0+k0<p.hi u0;lia,λ r hr z=>by
      obtain⟨g,hg,rfl⟩:=az.mp hr;exact nb g (by have:=pm.mem_iff.mp hg;rw[AK]at this;exact this) z⟩
     cases q:E7 ((inP L p).map (·.1)) p with
     |nil=>rw[q]at m;cases m
     |cons c r=>exact⟨c,r,rfl⟩
   obtain⟨u,a⟩:=c;obtain⟨a1,a2,nb⟩:=(Hl ok).mp (hc ▸ aD:(u,a)∈E7 ((inP L p).map (·.1)) p);have a1:p.lo u<a:=a1;have a2:a<p.hi u:=a2;obtain⟨k,rfl⟩:∃k,a=p.lo u+k:=⟨a-p.lo u,by lia⟩;have k1:1<=k:=by lia
   have k2:k<p.len u:=by rw[C4];lia
   have nb':∀g∈inP L p,¬brk u (p.lo u+k) g:=λ g hg z=>nb g.1 (az.mpr ⟨g,hg,rfl⟩) z;obtain⟨th,fa,fb,q1,q2⟩:=N8 ok fit pm k1 k2 nb';obtain⟨o1,o2⟩:=Kt (u:=u) ok k1 k2;obtain⟨l1,l2,lt1,lt2⟩:=Tn (u:=u) (a:=k) bd k1 k2;obtain⟨i1,i2⟩:=P1 hL k1 k2 nb';have d1:DF L (p.fst u k):=⟨o1,l1,_,fa,by rw[i1];exact q1⟩;have d2:DF L (p.oth u k):=⟨o2,l2,_,fb,by rw[i2];exact q2⟩;have pos1:0<=(p.fst u k).len true+(p.fst u k).len false:=by
    have:=Fl o1 true;have:=Fl o1 false;rw[C4,C4];lia
   have pos2:0<=(p.oth u k).len true+(p.oth u k).len false:=by
    have:=Fl o2 true;have:=Fl o2 false;rw[C4,C4];lia
   obtain⟨X,gx,fx,sx,px⟩:=ih _ (by lia) (p.fst u k) rfl d1;obtain⟨Y,gy,fy,sy,py⟩:=ih _ (by lia) (p.oth u k) rfl d2;refine⟨.cut u k X Y,⟨df0,?_,gx,gy⟩,fitR_cut.mpr ⟨⟨k1,k2⟩,fx,fy⟩,⟨by rw[hc];rfl,i1 ▸ sx,i2 ▸ sy⟩,?_⟩
   .show enL (inP L p) p=_;rw[PH h1,hc];show En.c u (p.lo u+k-p.lo u)=_;rw[show p.lo u+k-p.lo u=k by lia]
   .rw[AK];refine(px.append py).trans ?_;rw[i1,i2];exact(q1.append q2).trans ((CI (p:=p) th).symm.trans pm.symm)
theorem RL{M:List (Rk×Option Int)}{t:Tr}{p:Rk}(ok:p.ok)(fit:BD p t)(pm:M.Perm (AK t p))(h1:M.length≠1):E7 (M.map (·.1)) p≠[]:=λ q=>by
 have len:=pm.length_eq;rw[ER]at len;cases t with
 |whole m=>exact absurd len h1
 |cut u0 k0 x0 y0 =>
  obtain⟨⟨k1,k2⟩,fx,fy⟩:=fitR_cut.mp fit;obtain⟨_,_,nb⟩:=Ew ok k1 k2 fx fy;rw[C4]at k2;have m:=(Hl (rs:=M.map (·.1)) (c:=(u0,p.lo u0+k0)) ok).mpr ⟨by show p.lo u0<p.lo u0+k0;lia,by show p.lo u0+k0<p.hi u0;lia,λ r hr z=>by
   obtain⟨g,hg,rfl⟩:=az.mp hr;exact nb g (by have:=pm.mem_iff.mp hg;rw[AK]at this;exact this) z⟩
  rw[q]at m;cases m
def PnO(H:Hp)(ts:List (Addr×Rk)):Prop:=∀t∈ts,H t.1=some (.tup t.2.vs)
theorem PnO.same{H H':Hp}{ts:List (Addr×Rk)}(h:PnO H ts)(s:Same H H'):PnO H' ts:=λ t ht=>s _ _ (h t ht)
inductive Nl(vs:LUz)(H:Hp)(Q:VK)(E:XK):Prop
 |mk (a:Int) (b:Addr) (r:Rk) (u:Bool) (h0:vs=[.int a,.ref b,.int (sd u)]) (h1:H b=some (.tup r.vs)) (h2:Q (.bl (FA u a r)) H):Nl vs H Q E
def OA:Sp:=λ vs H Q E=>Nl vs H Q E
theorem Hd{f:Addr}{fd:FuncData}(F:Fun K "line_breaks" "line_breaks" Cz f fd):A2 P w K mg base CX0 1 f fd ["line","pane","side"] OA:=by
 have S:Ak ["line","pane","side"] ["line","pane","side"] (Ai Cz):=fsk;refine F.g S ?_;rintro vs H Q E ⟨a,b,r,u,rfl,hb,q⟩;refine⟨rfl,λ cdv A outer s hr=>?_⟩;refine⟨_,(Ah (Aq (EJ Df Df (As Ar (pv 1) (pv 2) (λ_ _=>rfl)) (pv 0) (As Ar (pv 1) (An A7 (pv 2) Ae) (λ_ _=>rfl))))),?_⟩;unfold FA at q;refine⟨_,rfl,_,rfl,b,_,_,_,rfl,rfl,SqT.of hb,MV,_,rfl,_,_,rfl,rfl,_,rfl,B0 (λ h1=>?_) (λ h1=>?_)⟩
 .rw[h1,Bool.true_and]at q;exact⟨_,rfl,_,rfl,_,_,rfl,rfl,b,_,_,_,rfl,rfl,SqT.of hb,R9,_,_,rfl,rfl,q⟩
 .rw[h1]at q;exact q
inductive Lw(vs:LUz)(H:Hp)(Q:VK)(E:XK):Prop
 |mk (a:Int) (l:Addr) (ts:List (Addr×Rk)) (u:Bool) (h0:vs=[.int a,.ref l,.int (sd u)]) (h1:H l=some (.lst (A9 ts))) (h2:PnO H ts) (h3:ts.length<=150) (h4:∀H',Same H H'->Q (.bl (!(rcs ts).any (FA u a))) H'):Lw vs H Q E
def Mu:Sp:=λ vs H Q E=>Lw vs H Q E
theorem Gi{f:Addr}{fd:FuncData}(F:Fun K "goes_through" "goes_through" Cd f fd)(T:Txt mg tk)(D_line_breaks:Ao P w K mg base 1 "line_breaks" ["line","pane","side"] OA):A2 P w K mg base CX0 2 f fd ["line","panes","side"] Mu:=by
 have S:Ak ["line","panes","side"] ["line","panes","side"] (Ai Cd):=fsk;refine F.g S ?_;rintro vs H Q E ⟨a,l,ts,u,rfl,hl,hat,few,q⟩;refine⟨rfl,λ cdv A outer s hr=>?_⟩;refine⟨_,(Ah (Aq (OQ (Av HW rfl T.z_any rfl (Aa (Bk rfl (A0 (pv 1)) (λ_ _ _ _ _=>pgk (nk ["pane","line","side"])) (λ_ _ _ _ _=>(Ap D_line_breaks hr (Aa (pv 1) (Aa (pv 0) (Aa (pv 2) Ac))))) (N:=["pane","line","side"]) (fr:=[none,some 0,some 2])) Ac))))),?_⟩;refine⟨_,rfl,l,rfl,⟨_,SqL.of hl⟩,λ acc hacc=>AN (K:=K) (a:=l) (ys:=A9 ts) (λ i xs σ H'=>(∃y,σ=[y,some (.int a),some (.int (sd u))])/\Same H H'/\xs=((rcs ts).take i).map λ p=>V.bl (FA u a p)) ⟨⟨none,rfl⟩,Same.new hacc,rfl⟩ (λ i xs σ H' _ _ hp=>SqL.of (hp.2.1 _ _ hl)) ?_ ?_⟩
 .rintro i x xs σ H' hx hi hl' hacc' ⟨⟨y,rfl⟩,s4,rfl⟩;obtain⟨t,ht,rfl⟩:=Bx hx;have hta:=s4 _ _ (hat t (ax ht));have er:(rcs ts)[i]?=some t.2:=by rw[ay,ht];rfl
  refine⟨_,rfl,_,rfl,_,rfl,a,t.1,t.2,u,rfl,hta,?_⟩;refine cNx.mk (aM (Al (by rw[AO];lia))) hi hl' hacc' ⟨⟨_,rfl⟩,λ c o e=>?_,?_⟩
  .rw[Af (Ag e hacc)];exact s4 c o e
  .rw[aK,er,aj];rfl
 .rintro xs σ H' hl' hacc' ⟨_,s4,rfl⟩;have e:(A9 ts).length=(rcs ts).length:=by rw[AO,aa]
  rw[e,aH]at hacc';have e2:List.map V.bl ((rcs ts).map (FA u a))=(rcs ts).map λ p=>V.bl (FA u a p):=by rw[aJ (l:=rcs ts)];rfl
  refine⟨acc,(rcs ts).map (FA u a),rfl,SqL.of (by rw[hacc',e2]),rfl,?_⟩;have:=q H' s4;have e3:((rcs ts).map (FA u a)).any id=(rcs ts).any (FA u a):=by rw[da];rfl
  rw[<-e3]at this;exact⟨_,rfl,this⟩
inductive Ng(vs:LUz)(H:Hp)(Q:VK)(E:XK):Prop
 |mk (b l:Addr) (p:Rk) (ts:List (Addr×Rk)) (u:Bool) (h0:vs=[.ref b,.ref l,.int (sd u)]) (h1:H b=some (.tup p.vs)) (h2:H l=some (.lst (A9 ts))) (h3:PnO H ts) (h4:ts.length<=150) (h5:p.ok) (h6:(∀u,0<=p.lo u/\p.hi u<=12)) (h7:∀c H',Same H H'->H' c=some (.lst ((lns (rcs ts) p u).map V.int))->Q (.ref c) H'):Ng vs H Q E
def LD:Sp:=λ vs H Q E=>Ng vs H Q E
theorem Fr{f:Addr}{fd:FuncData}(F:Fun K "lines_through" "lines_through" BG f fd)(T:Txt mg tk)(D_goes_through:Ao P w K mg base 2 "goes_through" ["line","panes","side"] Mu):A2 P w K mg base CX0 3 f fd ["block","panes","side"] LD:=by
 have S:Ak ["block","panes","side"] ["block","panes","side"] (Ai BG):=fsk;refine F.g S ?_;rintro vs H Q E ⟨b,l,p,ts,u,rfl,hb,hl,hat,few,pk,pb,q⟩;refine⟨rfl,λ cdv A outer s hr=>?_⟩;refine⟨_,(Ah (Aq (D2 rfl (AH rfl T.z_range (Aa (An A7 (As Ar (pv 0) (pv 2) (λ_ _=>rfl)) Ae) (Aa (As Ar (pv 0) (An A7 (pv 2) Ae) (λ_ _=>rfl)) Ac))) (λ_ _ _ _ _=>pgk (nk ["line","panes","side"])) (λ_ _ _ _ _=>(BK (Ap D_goes_through hr (Aa (pv 0) (Aa (pv 1) (Aa (pv 2) Ac)))))) (λ_ _ _ _ _=>(pv 0)) (N:=["line","panes","side"]) (fr:=[none,some 1,some 2])))),?_⟩;obtain⟨b0,b1⟩:=pb u;have hlt:=Fl pk u;refine⟨_,rfl,_,rfl,b,_,_,_,rfl,rfl,SqT.of hb,MV,_,_,rfl,rfl,_,rfl,_,rfl,_,_,rfl,rfl,b,_,_,_,rfl,rfl,SqT.of hb,R9,p.lo u+1,p.hi u,rfl,⟨by lia,by lia,by lia,by lia⟩,λ acc hacc=>Ll (lo:=p.lo u+1) (n:=(p.hi u-(p.lo u+1)).toNat) (λ i xs σ H'=>(∃y,σ=[y,some (.ref l),some (.int (sd u))])/\Same H H'/\xs=(Iv (rcs ts) u (p.lo u) i).map V.int) ⟨⟨none,rfl⟩,Same.new hacc,rfl⟩ ?_ ?_⟩
 .rintro i xs σ H' hi' hxl hacc' ⟨⟨y,rfl⟩,s1,rfl⟩;refine⟨_,rfl,_,rfl,_,rfl,p.lo u+1+i,l,ts,u,rfl,s1 _ _ hl,hat.same s1,few,λ H2 s2=>⟨_,rfl,?_⟩⟩;cases hb':(rcs ts).any (FA u (p.lo u+1+i)) with
  |true =>
   refine fSk.mk hi' hxl (s2 _ _ hacc') ⟨⟨_,rfl⟩,s1.trans s2,?_⟩;rw[Iv,hb',if_pos rfl,aY]
  |false =>
   refine⟨_,rfl,fNx.mk (aM (Al (by lia))) hi' hxl (s2 _ _ hacc') ⟨⟨_,rfl⟩,λ c o e=>?_,?_⟩⟩
   .rw[Af (Ag e hacc)];exact(s1.trans s2) c o e
   .rw[Iv,hb',if_neg ao,aj];rfl
 .rintro xs σ H' hxl hacc' ⟨_,s1,rfl⟩;exact q acc H' s1 hacc'
abbrev pns(ts:List PT):List (Addr×Rk):=ts.map λ t=>(t.2.1,t.2.2.1)
theorem M6(ts:List PT):rcs (pns ts)=(cons ts).map (·.1):=by
 show List.map _ (List.map _ ts)=List.map _ (List.map _ ts);rw[aJ,aJ];rfl
theorem P0{r p:Rk}:QR r.t r.l r.b r.r p.t p.l p.b p.r=decide (Ins r p):=by
 rw[b7,decide_eq_true_iff];unfold QR Ins;simp only[aE,decide_eq_true_eq];lia
def US(H:Hp)(l:Addr):Prop:=∀o,H l=some o->∃ps,o=.tbl ps
theorem QJ{H H':Hp}{l:Addr}(s:Uc H H')(h:H' l=none):US H l:=λ o e=>dO λ z=>by
 have:=s l o e (λ ps e'=>z ⟨ps,e'⟩);rw[h]at this;cases this
inductive Ii(vs:LUz)(H:Hp)(Q:VK)(E:XK):Prop
 |mk (b l:Addr) (p:Rk) (ts:List PT) (t:Tr) (h0:vs=[.ref b,.ref l]) (h1:H b=some (.tup p.vs)) (h2:H l=some (.lst (pcs ts))) (h3:PcO H ts) (h4:ts.length<=150) (h5:p.ok) (h6:(∀u,0<=p.lo u/\p.hi u<=12)) (h7:BD p t) (h8:(cons ts).Perm (AK t p)) (h9:∀e H',Same H H'->H' e=some (.tup (enV (enL (cons ts) p)))->Q (.ref e) H'):Ii vs H Q E
def IF:Sp:=λ vs H Q E=>Ii vs H Q E
theorem Qb{x:V}{r:LUz}:atI (x::r) 0=some x:=Kb (xs:=x::r) (j:=0) (v:=x) rfl
theorem JH{f:Addr}{fd:FuncData}(F:Fun K "entry_for" "entry_for" Dv f fd)(T:Txt mg tk)(D_lines_through:Ao P w K mg base 3 "lines_through" ["block","panes","side"] LD):A2 P w K mg base CX0 4 f fd ["block","some"] IF:=by
 have S:Ak ["block","some","panes","uprights","levels"] ["block","some"] (Ai Dv):=fsk;refine F.g S ?_;rintro vs H Q E ⟨b,l,p,ts,t,rfl,hb,hl,pc,few,pk,pb,fit,pm,q⟩;refine⟨rfl,λ cdv A outer s hr=>?_⟩;refine⟨_,(Ab (AG (Aw Ck (Av AS rfl T.z_len rfl (Aa (pv 1) Ac)) Ae (Az _)) (Ah (Aq (AB (Aa (AI (v:=.str "whole") rfl T.g_WHOLE ⟨_,rfl⟩) (Aa (As Ar (As CZ (pv 1) Ae (λ_ _=>rfl)) Ae (λ_ _=>rfl)) Ac))))) Ax)
  (Ab (El rfl (Aj (i:=2) S.nd rfl (ar rfl)) (A0 (pv 1)) (λ_ _ _ _ _=>(Gp (K:=K) (n:=2) rfl (Au (Aj (i:=0) (nk ["pane","mark"]) rfl (ar rfl)) (Au (Aj (i:=1) (nk ["pane","mark"]) rfl (ar rfl)) AU)))) (λ_ _ _ _ _=>(pv 0)) (N:=["pane","mark"]) (fr:=[none,none]))
  (Ab (Am (i:=3) S.nd rfl (ar rfl) (Ap D_lines_through hr (Aa (pv 0) (Aa (pv 2) (Aa (AI (v:=.int 1) rfl T.g_LEFT ⟨_,rfl⟩) Ac)))))
  (Ab (AG (EE (pv 3) (λ_=>rfl)) (Ah (Aq (AB (Aa (AI (v:=.str "upright") rfl T.g_UPRIGHT_cuts ⟨_,rfl⟩) (Aa (An C6 (As CZ (pv 3) Ae (λ_ _=>rfl)) (As Ar (pv 0) (AI (v:=.int 1) rfl T.g_LEFT ⟨_,rfl⟩) (λ_ _=>rfl))) Ac))))) Ax)
  (Ab (Am (i:=4) S.nd rfl (ar rfl) (Ap D_lines_through hr (Aa (pv 0) (Aa (pv 2) (Aa (AI (v:=.int 0) rfl T.g_TOP ⟨_,rfl⟩) Ac)))))
  (Ab (AG (EE (pv 4) (λ_=>rfl)) (Ah (Aq (AB (Aa (AI (v:=.str "level") rfl T.g_LEVEL_cuts ⟨_,rfl⟩) (Aa (An C6 (As CZ (pv 4) Ae (λ_ _=>rfl)) (As Ar (pv 0) (AI (v:=.int 0) rfl T.g_TOP ⟨_,rfl⟩) (λ_ _=>rfl))) Ac))))) Ax)
  (Ah (Aq (AB (Aa (AI (v:=.str "room") rfl T.g_ROOM ⟨_,rfl⟩) (Aa (pv 0) Ac))))))))))),?_⟩
 refine⟨_,rfl,l,_,rfl,.inl (SqL.of hl),rfl,_,rfl,B0 (λ c=>?_) (λ c=>?_)⟩
 .have c:=V.int.inj (of_decide_eq_true c);have c:ts.length=1:=by rw[aa]at c;lia
  obtain⟨x,rfl⟩:=c9.mp c;have hx:=pc x (ai.mpr rfl);exact⟨_,rfl,l,_,_,_,rfl,rfl,SqL.of hl,rfl,x.1,_,_,_,rfl,rfl,SqT.of hx.1,FQ,A1 2,λ e he=>q e _ (Same.new he) Ad⟩
 .have c1:(cons ts).length≠1:=λ z=>of_decide_eq_false c (by rw[aa]at z |-;rw[z];rfl);have ne:=RL pk fit pm c1;rw[PH c1]at q;refine⟨_,rfl,l,rfl,⟨_,SqL.of hl⟩,λ acc hacc=>AN (K:=K) (a:=l) (ys:=pcs ts) (λ i zs σ H'=>(∃y z,σ=[y,z])/\Same H H'/\zs=A9 ((pns ts).take i)) ⟨⟨none,none,rfl⟩,Same.new hacc,rfl⟩ (λ i zs σ H' _ _ hp=>SqL.of (hp.2.1 _ _ hl)) ?_ ?_⟩
  .rintro i x zs σ H' hx hi hl' hacc' ⟨⟨y,z,rfl⟩,hs,rfl⟩;obtain⟨u,hu,rfl⟩:=MA hx;obtain⟨g1,g2⟩:=(pc.same hs) u (ax hu);refine⟨u.1,_,rfl,SqT.of g1,rfl,_,_,rfl,_,_,rfl,rfl,_,rfl,?_⟩;refine cNx.mk (aM (Al (by rw[aa];lia))) hi hl' hacc' ⟨⟨_,_,rfl⟩,λ c o e=>?_,?_⟩
   .rw[Af (Ag e hacc)];exact hs c o e
   .unfold A9;rw[aK,ay,hu,aj];rfl
  rintro zs σ H1 hzl ac1 ⟨_,s1,rfl⟩;have e1:(pcs ts).length=(pns ts).length:=by rw[aa,aa]
  rw[e1,aH]at ac1;have pn1:PnO H1 (pns ts):=λ z hz=>by
   obtain⟨u,hu,rfl⟩:=az.mp hz;exact s1 _ _ (pc u hu).2
  have few':(pns ts).length<=150:=by rw[aa];exact few
  refine⟨_,rfl,_,rfl,b,acc,p,pns ts,true,rfl,s1 _ _ hb,ac1,pn1,few',pk,pb,λ c2 H2 s2 hc2=>?_⟩;rw[M6]at hc2;have s12:=s1.trans s2;cases q1:lns ((cons ts).map (·.1)) p true with
  |cons x r =>
   rw[q1]at hc2;have eT:E7 ((cons ts).map (·.1)) p=(true,x)::(r.map (λ a=>(true,a))++(lns ((cons ts).map (·.1)) p false).map (λ a=>(false,a))):=by unfold E7;rw[q1];rfl
   rw[eT]at q;refine⟨_,rfl,_,.inl ⟨_,SqL.of hc2,rfl⟩,Cq rfl ?_⟩;exact⟨_,rfl,c2,_,_,_,rfl,rfl,SqL.of hc2,Qb,_,rfl,b,_,_,_,rfl,rfl,SqT.of (s12 _ _ hb),MV (u:=true),_,_,rfl,rfl,A1 2,λ e he=>q e _ (s12.trans (Same.new he)) Ad⟩
  |nil =>
   rw[q1]at hc2;refine⟨_,rfl,_,.inl ⟨_,SqL.of hc2,rfl⟩,Bm rfl ?_⟩;refine⟨_,rfl,_,rfl,b,acc,p,pns ts,false,rfl,s12 _ _ hb,s2 _ _ ac1,pn1.same s2,few',pk,pb,λ c3 H3 s3 hc3=>?_⟩;rw[M6]at hc3;have s13:=s12.trans s3;cases q2:lns ((cons ts).map (·.1)) p false with
   |cons x r =>
    rw[q2]at hc3;have eT:E7 ((cons ts).map (·.1)) p=(false,x)::r.map (λ a=>(false,a)):=by unfold E7;rw[q1,q2];rfl
    rw[eT]at q;refine⟨_,rfl,_,.inl ⟨_,SqL.of hc3,rfl⟩,Cq rfl ?_⟩;exact⟨_,rfl,c3,_,_,_,rfl,rfl,SqL.of hc3,Qb,_,rfl,b,_,_,_,rfl,rfl,SqT.of (s13 _ _ hb),MV (u:=false),_,_,rfl,rfl,A1 2,λ e he=>q e _ (s13.trans (Same.new he)) Ad⟩
   |nil =>
    refine absurd ?_ ne;unfold E7;rw[q1,q2];rfl
def spE(en:Rk->En)(D:Rk->Prop):Sp:=λ vs H Q _=>∃(a:Addr)(p:Rk),vs=[.ref a]/\H a=some (.tup p.vs)/\D p/\∀e H',Same H H'->H' e=some (.tup (enV (en p)))->Q (.ref e) H'
inductive Qj(P:Program)(w:World)(K:Frag)(mg:MGz)(base:Heap)(vs:LUz)(H:Hp)(Q:VK)(E:XK):Prop
 |mk (a f:Addr) (p:Rk) (t:Tr) (en:Rk->En) (D:Rk->Prop) (h0:vs=[.ref a,.ref f]) (h1:H a=some (.tup p.vs)) (h2:FvOk P w K mg base 6 H f (spE en D)) (h3:Oo en D t p) (h4:t.nd<=400) (h5:∀l xs H',Same H H'->H l=none->H' l=some (.lst xs)->EnsAt H' xs (ents t)->Q (.ref l) H'):Qj P w K mg base vs H Q E
def Rx(P:Program)(w:World)(K:Frag)(mg:MGz)(base:Heap) :Sp:=λ vs H Q E=>Qj P w K mg base vs H Q E
abbrev Us(en:Rk->En)(D:Rk->Prop)(H:Hp)(a f:Addr)(t:Tr)(le lw:Addr)(m:Nat)(σ:St)(H':Hp):Prop:=∃(xs:LUz)(es:List En)(ws:List (Addr×Rk×Tr))(x4 x5:Option V),σ=[some (.ref a),some (.ref f),some (.ref le),some (.ref lw),x4,x5]/\Same H H'/\H' le=some (.lst xs)/\EnsAt H' xs es/\H' lw=some (.lst (Bn ws))/\PsAt H' ws/\(∀p∈ws,Oo en D p.2.2 p.2.1)/\es++Ev (trs ws)=ents t/\m=cnt (trs ws)
theorem Lb(e:En):inV ((enV e).headD .non) [V.str "upright",V.str "level"]=match e with
  |.w _=>false
  |.c _ _=>true:=by
 cases e with
 |w m =>
  show(eqV (V.str "upright") (V.str "whole")||(eqV (V.str "level") (V.str "whole")||false))=false;decide +kernel
 |c u k =>
  cases u
  .show(eqV (V.str "upright") (V.str "level")||(eqV (V.str "level") (V.str "level")||false))=true;decide +kernel
  .show(eqV (V.str "upright") (V.str "upright")||(eqV (V.str "level") (V.str "upright")||false))=true;decide +kernel
theorem Io{f:Addr}{fd:FuncData}(F:Fun K "entries_by" "entries_by" CP f fd)(T:Txt mg tk)(D_first_piece:Ao P w K mg base 1 "first_piece" ["piece","word","at"] O9)(D_other_piece:Ao P w K mg base 1 "other_piece" ["piece","word","at"] O7):A2 P w K mg base CX0 7 f fd ["sheet","entry_at"] (Rx P w K mg base):=by
 have S:Ak ["sheet","entry_at","entries","waiting","piece","entry"] ["sheet","entry_at"] (Ai CP):=fsk;refine F.g S ?_;rintro vs H Q E ⟨a,fv,p,t,en,D,rfl,ha,hfv,gr,hn,q⟩;refine⟨rfl,λ cdv A outer s hr=>?_⟩;refine⟨_,(Ab (Am (i:=2) S.nd rfl (ar rfl) (AY Ac))
  (Ab (Am (i:=3) S.nd rfl (ar rfl) (AY (Aa (pv 0) Ac)))
  (Ab (Dz PassesOwn.never (EE (pv 3) (λ_=>rfl)) (Ab (Am (i:=4) S.nd rfl (ar rfl) (D3 bn bX bW Hk (pv 3)))
  (Ab (Am (i:=5) S.nd rfl (ar rfl) (T3 (k:=6) hr (pv 1) (Aa (pv 4) Ac)))
  (Ab (AQ (CW (pv 2) (Aa (pv 5) Ac)))
  (Ah (AG (Aw NA (As Ar (pv 5) Ae (λ_ _=>rfl)) (AB (Aa (AI (v:=.str "upright") rfl T.g_UPRIGHT_cuts ⟨_,rfl⟩) (Aa (AI (v:=.str "level") rfl T.g_LEVEL_cuts ⟨_,rfl⟩) Ac))) rfl) (Ab (AQ (CW (pv 3) (Aa (Ap D_other_piece hr (Aa (pv 4) (Aa (As Ar (pv 5) Ae (λ_ _=>rfl)) (Aa (As Ar (pv 5) Ae (λ_ _=>rfl)) Ac)))) Ac)))
  (Ah (AQ (CW (pv 3) (Aa (Ap D_first_piece hr (Aa (pv 4) (Aa (As Ar (pv 5) Ae (λ_ _=>rfl)) (Aa (As Ar (pv 5) Ae (λ_ _=>rfl)) Ac)))) Ac))))) Ax))))))
  (Ah (Aq (pv 2)))))),?_⟩
 refine⟨A1 0,λ le hle=>⟨_,rfl,A1 1,λ lw hlw=>?_⟩⟩;have nel:le≠lw:=Ag Ad hlw;have s0:Same H (upd (upd H le (.lst [])) lw (.lst [.ref a])):=(Same.new hle).trans (Same.new hlw);have hlw0:H lw=none:=none_of (Same.new hle) hlw;refine⟨Us en D H a fv t le lw,
  ⟨_,[],[],[(a,p,t)],none,none,rfl,s0,by rw[Af nel];exact Ad,trivial,Ad,λ r hr=>?_,λ r hr=>?_,?_,rfl⟩,?_⟩
 .rw[ai.mp hr];exact s0 _ _ ha
 .rw[ai.mp hr];exact gr
 .show[]++Ev [(V.ref a,t)]=ents t;rw[F5];rfl
 rintro m σ H' ⟨xs,es,ws,x4,x5,rfl,s1,hl,hen,hw,hps,hgr,heq,rfl⟩;have tot:es.length+cnt (trs ws)=t.nd:=by rw[<-DA,<-heq,av,HH]
 rcases Ec ws with rfl|⟨ws0,r,rfl⟩
 .refine⟨_,rfl,_,.inl ⟨_,SqL.of hw,rfl⟩,Bm rfl ⟨_,rfl,q le xs H' s1 hle hl ?_⟩⟩;rw[<-heq];show EnsAt H' xs (es++[]);rw[aY];exact hen
 .refine⟨_,rfl,_,.inl ⟨_,SqL.of hw,rfl⟩,Cq (by simp) ⟨λ σ' H''=>∃m',m'<cnt (trs (ws0++[r]))/\Us en D H a fv t le lw m' σ' H'',λ σ' H'' z=>z,?_⟩⟩;obtain⟨pa,pk,pt⟩:=r;have hp0:=hps (pa,pk,pt) (by simp);have hg0:=hgr (pa,pk,pt) (by simp);refine⟨_,rfl,.inl ⟨rfl,_,SqL.of hw⟩,lw,_,_,rfl,rfl,hw,NM,?_⟩;rw[Oc];have k2:Kp H' (upd H' lw (.lst (Bn ws0))):=Kp.put hw;have s2:Same H (upd H' lw (.lst (Bn ws0))):=λ b o e=>by rw[Af (Ag e hlw0)];exact s1 b o e
  have l2:(upd H' lw (.lst (Bn ws0))) le=some (.lst xs):=by rw[Af nel];exact hl
  have w2:(upd H' lw (.lst (Bn ws0))) lw=some (.lst (Bn ws0)):=Ad;generalize upd H' lw (.lst (Bn ws0))=H2 at k2 s2 l2 w2 |-;have hp2:=k2 _ _ hp0 (by intro xs z;cases z);have ps2:PsAt H2 ws0:=λ r hr=>k2 _ _ (hps r (cH _ hr)) (by intro xs z;cases z);have gr2:∀r∈ws0,Oo en D r.2.2 r.2.1:=λ r hr=>hgr r (cH _ hr);have hen2:=hen.kp k2;rw[B9,B7]at heq;rw[B9,DD]at tot;have hxl:=hen.len;have np:=Pm pt;have hDp:D pk:=by cases pt<;>exact hg0.1
  refine⟨_,rfl,fv,spE en D,rfl,hfv.same s2,_,rfl,Same.refl H2,pa,pk,rfl,hp2,hDp,λ ea H3 s3 e3=>?_⟩;have l3:=s3 _ _ l2;refine⟨_,rfl,.inl ⟨rfl,_,SqL.of l3⟩,_,rfl,le,xs,.ref ea,rfl,rfl,l3,Al (by lia),?_⟩;have k4:Kp H3 (upd H3 le (.lst (xs++[.ref ea]))):=Kp.put l3;have s4:Same H (upd H3 le (.lst (xs++[.ref ea]))):=λ b o e=>by rw[Af (Ag e hle)];exact s3 b o (s2 b o e)
  have l4:(upd H3 le (.lst (xs++[.ref ea]))) le=some (.lst (xs++[.ref ea])):=Ad;have w4:(upd H3 le (.lst (xs++[.ref ea]))) lw=some (.lst (Bn ws0)):=by rw[Af (Ne.symm nel)];exact s3 _ _ w2
  have en4:EnsAt (upd H3 le (.lst (xs++[.ref ea]))) (xs++[.ref ea]) (es++[en pk]):=((hen2.kp (Hq s3)).kp k4).snoc (k4 _ _ e3 (by intro xs z;cases z));have kk:=(Hq s3).trans k4;have e4:=k4 _ _ e3 (by intro xs z;cases z);generalize upd H3 le (.lst (xs++[.ref ea]))=H4 at k4 s4 l4 w4 en4 kk e4 |-;have hp4:=kk _ _ hp2 (by intro xs z;cases z);have ps4:PsAt H4 ws0:=ps2.kp kk;cases pt with
  |whole m =>
   have een:en pk=.w m:=hg0.2;rw[een]at e4 en4;refine⟨_,rfl,ea,_,_,_,rfl,rfl,SqT.of e4,FR,A1 2,λ tt ntt=>?_⟩;obtain⟨H5,g,s5,e5⟩:=nw (.tup [.str "upright",.str "level"]) ntt;rw[g];refine⟨tt,_,rfl,.inr (SqT.of e5),rfl,rfl,_,rfl,Bm (by rw[if_neg ao];exact Lb (.w m)) ?_⟩;refine⟨cnt (trs ws0),by rw[B9,DD];exact bg _,_,_,ws0,_,_,rfl,s4.trans s5,s5 _ _ l4,en4.kp (Hq s5),s5 _ _ w4,ps4.kp (Hq s5),gr2,?_,rfl⟩;rw[<-heq,aW];rfl
  |cut u k y1 y2 =>
   obtain⟨_,een,g1,g2⟩:=hg0;have een:en pk=.c u k:=een;rw[een]at e4 en4;refine⟨_,rfl,ea,_,_,_,rfl,rfl,SqT.of e4,FR,A1 2,λ tt ntt=>?_⟩;obtain⟨H5,g,s5,e5⟩:=nw (.tup [.str "upright",.str "level"]) ntt;rw[g];refine⟨tt,_,rfl,.inr (SqT.of e5),rfl,rfl,_,rfl,Cq (by rw[if_neg ao];exact Lb (.c u k)) ?_⟩;have e55:=s5 _ _ e4;have w5:=s5 _ _ w4;have hp5:=s5 _ _ hp4;refine⟨_,rfl,.inl ⟨rfl,_,SqL.of w5⟩,_,rfl,_,rfl,ea,_,_,_,rfl,rfl,SqT.of e55,FR,_,rfl,ea,_,_,_,rfl,rfl,SqT.of e55,FQ,pa,pk,u,k,rfl,hp5,λ t6 n6=>?_⟩;obtain⟨H6,g,s6,e6⟩:=nw (.tup (pk.oth u k).vs) n6;rw[g];have w6:=s6 _ _ w5;have cl:=JZ (trs ws0);rw[aa]at cl;have ndp:(Tr.cut u k y1 y2).nd=y1.nd+y2.nd+1:=rfl;refine⟨lw,_,_,rfl,rfl,w6,Al (by rw[aa];lia),?_⟩;have k7:Kp H6 (upd H6 lw (.lst (Bn ws0++[.ref t6]))):=Kp.put w6;have s7:Same H (upd H6 lw (.lst (Bn ws0++[.ref t6]))):=λ b o e=>by rw[Af (Ag e hlw0)];exact s6 _ _ (s5 _ _ (s4 b o e))
   have l7:(upd H6 lw (.lst (Bn ws0++[.ref t6]))) le=some (.lst (xs++[.ref ea])):=by rw[Af nel];exact s6 _ _ (s5 _ _ l4)
   have w7:(upd H6 lw (.lst (Bn ws0++[.ref t6]))) lw=some (.lst (Bn ws0++[.ref t6])):=Ad;have kk7:=((Hq s5).trans (Hq s6)).trans k7;have e7:=k7 _ _ e6 (by intro xs z;cases z);generalize upd H6 lw (.lst (Bn ws0++[.ref t6]))=H7 at k7 s7 l7 w7 kk7 e7 |-;have ea7:=kk7 _ _ e4 (by intro xs z;cases z);have hp7:=kk7 _ _ hp4 (by intro xs z;cases z);refine⟨_,rfl,.inl ⟨rfl,_,SqL.of w7⟩,_,rfl,_,rfl,ea,_,_,_,rfl,rfl,SqT.of ea7,FR,_,rfl,ea,_,_,_,rfl,rfl,SqT.of ea7,FQ,pa,pk,u,k,rfl,hp7,λ t8 n8=>?_⟩;obtain⟨H8,g,s8,e8⟩:=nw (.tup (pk.fst u k).vs) n8;rw[g];have w8:=s8 _ _ w7;refine⟨lw,_,_,rfl,rfl,w8,Al (by rw[av,aa,aX];lia),?_⟩;have k9:Kp H8 (upd H8 lw (.lst (Bn ws0++[.ref t6]++[.ref t8]))):=Kp.put w8;have kk9:=(Hq s8).trans k9;have kall:=kk7.trans kk9;refine⟨cnt (trs (ws0++[(t6,pk.oth u k,y2)]++[(t8,pk.fst u k,y1)])),?_,xs++[.ref ea],es++[.c u k],ws0++[(t6,pk.oth u k,y2)]++[(t8,pk.fst u k,y1)],_,_,rfl,λ b o e=>?_,?_,en4.kp kall,?_,λ r hr=>?_,λ r hr=>?_,?_,rfl⟩
   .rw[B9,B9,DD,DD,B9,DD];show cnt (trs ws0)+y2.nd+y1.nd<cnt (trs ws0)+(y1.nd+y2.nd+1);lia
   .rw[Af (Ag e hlw0)];exact s8 b o (s7 b o e)
   .rw[Af nel];exact s8 _ _ l7
   .rw[Ad,IK,IK]
   .rcases aF.mp hr with hr|hr
    .rcases aF.mp hr with hr|hr
     .exact kall _ _ (ps4 r hr) (by intro xs z;cases z)
     .rw[ai.mp hr];exact kk9 _ _ e7 (by intro xs z;cases z)
    .rw[ai.mp hr];exact k9 _ _ e8 (by intro xs z;cases z)
   .rcases aF.mp hr with hr|hr
    .rcases aF.mp hr with hr|hr
     .exact gr2 r hr
     .rw[ai.mp hr];exact g2
    .rw[ai.mp hr];exact g1
   .rw[B9,B9,B7,B7,<-heq];show es++[.c u k]++(ents y1++(ents y2++Ev (trs ws0)))=es++(.c u k::(ents y1++ents y2)++Ev (trs ws0));simp[aW]
theorem EnsAt.tups{H H':Hp}(s:∀a xs,H a=some (.tup xs)->H' a=some (.tup xs)):∀{vs:LUz}{es:List En},EnsAt H vs es->EnsAt H' vs es
 |[],[],_=>trivial
 |v::r,e::q,h=>⟨let ⟨a,b,c⟩:=h.1;⟨a,b,s _ _ c⟩,EnsAt.tups s h.2⟩
 |[],_::_,h=>h
 |_::_,[],h=>h
theorem Le{α:Type}(p:α->Bool){L:List α}{i:Nat}{x:α}(h:L[i]?=some x):(L.take (i+1)).filter p=(L.take i).filter p++if p x=true then [x] else []:=by
 rw[aK,h,ba];show _=_;cases hx:p x with
 |true=>simp[hx]
 |false=>simp[hx]
def MF:Expr:=match (A5 Ba).getD 0 (.Pass ⟨0,0,0,0⟩) with
 |.Return (some (.Call _ [_,k] _ _)) _=>k
 |_=>.Constant .none 0 ⟨0,0,0,0⟩
def R6:Arguments:=match MF with|.Lambda p _ _ _=>p|_=>Bl Ba
def R7:Expr:=match MF with|.Lambda _ b _ _=>b|e=>e
def lamS3:Scope:=match MF with|.Lambda _ _ s _=>s|_=>Ai Ba
def EQ:Pos:=match MF with|.Lambda _ _ _ q=>q|_=>⟨0,0,0,0⟩
def DT:Str:="cut_up.<locals>.<lambda>"
theorem SM:Jg "block" ["some"] lamS3:=⟨rfl,rfl,rfl,rfl,λ_ _=>rfl,λ_=>rfl,λ y hy=>(by decide +kernel:∀p∈lamS3.names,p.2=.cell->p.1=("block":Str)) _ (PySem.mem_of_lookup hy) rfl,λ y hy=>(by decide +kernel:∀p∈lamS3.names,p.2=.free->p.1∈(["some"]:LSz)) _ (PySem.mem_of_lookup hy) rfl,by decide +kernel⟩
abbrev MU(L:Nat):List (Str×Addr):=[("some",L+1)]
inductive Jo(tb3:Addr)(vs:LUz)(H:Hp)(Q:VK)(E:XK):Prop
 |mk (a l:Addr) (p:Rk) (ts:List PT) (t:Tr) (h0:vs=[.ref a,.ref l]) (h1:H a=some (.tup p.vs)) (h2:H l=some (.lst (pcs ts))) (h3:PcO H ts) (h4:ts.length<=150) (h5:p.ok) (h6:(∀u,0<=p.lo u/\p.hi u<=12)) (h7:BD p t) (h8:(cons ts).Perm (AK t p)) (h9:TabOk EQ DT tb3 H) (h10:∀le xs F H',SameX tb3 H H'->TabOk EQ DT tb3 H'->H' le=some (.lst xs)->EnsAt H' xs (ents F)->F.nd<=400->BD p F->IsF F (cons ts) p->(AK F p).Perm (cons ts)->Q (.ref le) H'):Jo tb3 vs H Q E
def GF(tb3:Addr) :Sp:=λ vs H Q E=>Jo tb3 vs H Q E
theorem QT{L:List (Rk×Option Int)}{p:Rk}(h:∀g∈L,Ins g.1 p):inP L p=L:=cK.mpr λ g hg=>decide_eq_true (h g hg)
theorem Gd{ts:List PT}{i:Nat}{t:PT}(q:PT->Bool)(h:ts[i]?=some t):pcs ((ts.take (i+1)).filter q)=pcs ((ts.take i).filter q)++if q t=true then [.ref t.1] else []:=by
 rw[Le q h];show List.map _ _=_;rw[aj];split<;>rfl
theorem NE{f:Addr}{fd:FuncData}{c tb3:Addr}(F:FunC K "cut_up" "cut_up" Ba f fd c)(hC:JY K c tb3=true)(hB:SR K mg)(D_inside:Ao P w K mg base 1 "inside" ["one","other"] Ff)(D_entry_for:Ao P w K mg base 4 "entry_for" ["block","some"] IF)(D_entries_by:Ao P w K mg base 7 "entries_by" ["sheet","entry_at"] (Rx P w K mg base)) :
  A2 P w K mg base CX0 8 f fd ["sheet","some"] (GF tb3):=by
 have S:Ak ["sheet","some"] ["sheet","some"] (Ai Ba):=fsk;refine F.g S ?_;rintro vs H Q E ⟨a,l,p,ts,t,rfl,ha,hl,pc,few,pk,pb,fit,pm,tb,q⟩;refine⟨rfl,λ A outer s hr=>?_⟩;have hlam:=Sg (X:=(Cs CX0 P w K mg base ["sheet","some"] "cut_up" (Ai Ba) f (.ref c) A outer s H E).nox) (params:=R6) (body:=R7) (scope:=lamS3) (pos:=EQ) (qual:=DT) (clos:=MU s.heap.objs.size) rfl (codeTB_of hC) hB rfl rfl rfl;have hcl:∀p∈MU s.heap.objs.size,(Cs CX0 P w K mg base ["sheet","some"] "cut_up" (Ai Ba) f (.ref c) A outer s H E).nox.env.cells.lookup p.1=some p.2/\(Cs CX0 P w K mg base ["sheet","some"] "cut_up" (Ai Ba) f (.ref c) A outer s H E).nox.env.kindOf p.1=some .cell:=λ p hp=>by
  rw[ai.mp hp];exact⟨rfl,rfl⟩
 refine⟨_,(Ah (Aq (Sh (clos:=MU s.heap.objs.size) D_entries_by hr (Aa (pv 0) (Aa hlam Ac)) hcl (λ_=>rfl) rfl))),?_⟩;have inn:∀g∈cons ts,∀u,p.lo u<=g.1.lo u/\g.1.lo u<g.1.hi u/\g.1.hi u<=p.hi u:=λ g hg u=>F2 pk fit (pm.mem_iff.mp hg) u;have all:inP (cons ts) p=cons ts:=QT λ g hg=>ins_iff.mpr λ u=>⟨(inn g hg u).1,(inn g hg u).2.2⟩;obtain⟨G,gr,gfit,isf,gpm⟩:=NZ (L:=cons ts) (λ g hg v=>(inn g hg v).2.1) _ p rfl ⟨pk,pb,t,fit,by rw[all];exact pm⟩;rw[all]at isf gpm;have Gnd:G.nd<=400:=by
  have w1:1<=p.r-p.l:=by have:=pk.2;lia
  have h1:1<=p.b-p.t:=by have:=pk.1;lia
  have z1:=HI w1 h1 gfit;have b1:=pb true;have b2:=pb false;have z2:(p.r-p.l)*(p.b-p.t)<=12*12:=d9 (by have:0<=p.l:=b1.1;have:p.r<=12:=b1.2;lia) (by have:0<=p.t:=b2.1;have:p.b<=12:=b2.2;lia) (by lia) (by lia);have z3:=Pl G;lia
 have tbl:=tb.tbl;refine⟨_,rfl,TabOk.lamC tb λ c' fl ctv H1 s1 tab1 hf hc hnew=>?_⟩;have ne1:∀{x:Addr}{u:HO},H x=some u->(∀ps,u≠.tbl ps)->x≠tb3:=λ{x u} e n z=>by obtain⟨ps,e'⟩:=tbl;rw[z,e']at e;cases e;exact n _ rfl
 intro Lc CA;have tup1:∀{x:Addr}{xs:LUz},H x=some (.tup xs)->H1 x=some (.tup xs):=λ e=>s1 _ _ (ne1 e (by intro ps z;cases z)) e;have hl1:H1 l=some (.lst (pcs ts)):=s1 _ _ (ne1 hl (by intro ps z;cases z)) hl;have up:∀{x:Addr}{u:HO},H1 x=some u->(tkd H1 Lc) x=some u:=λ e=>by rw[AL (Em CA.new e)];exact e
 have fv:=QX (P:=P) (w:=w) (K:=K) (mg:=mg) (base:=base) (k:=5) (H:=tkd H1 Lc) (f:=fl) (c':=c') (params:=R6) (body:=R7) (scope:=lamS3) (qual:=DT) (pn:="block") (ctv:=ctv) (fs:=["some"]) (clos:=MU s.heap.objs.size) (cv:=[.ref l]) (L:=Lc)
  (sp:=spE (λ p=>enL (inP (cons ts) p) p) (DF (cons ts)))
  (up hf) (up hc) SM rfl (λ y=>?_) (λ x y cc h1 h2=>?_) (λ a o e=>G5 e) CA.has (λ p hp i v hi hv=>?_) (λ_ _=>.of_eq rfl) (λ vs H' Q' E' hsp=>by obtain⟨a',p',rfl,_⟩:=hsp;exact⟨_,rfl⟩)
  (λ A' outer' s' H' E' v Q' sm' hr' hsp=>?_)
 .refine⟨a,fl,p,G,_,_,rfl,up (tup1 ha),fv,gr,Gnd,λ le xs H2 s2 nl hle hens=>?_⟩;obtain⟨sU,hk⟩:=OD CA.new s2;exact⟨hk,q le xs G _ (s1.trans sU.x) (tab1.same sU) (Ju hk hle (by intro o z;cases z)) (hens.tups (λ a xs e=>Ju hk e (by intro o z;cases z))) Gnd gfit isf gpm⟩
 .constructor
  .rintro⟨cc,h⟩;have:=PySem.mem_of_lookup h;cases ai.mp this;simp
  .intro hy;rw[ai.mp hy];exact⟨_,rfl⟩
 .have m1:=ai.mp (PySem.mem_of_lookup h1);have m2:=ai.mp (PySem.mem_of_lookup h2);exact(congrArg Prod.fst m1).trans (congrArg Prod.fst m2).symm
 .have hp':=ai.mp hp;subst hp'
  match i,hi with
  |0,_ =>
   cases hv;exact CA.val _ hp 1 _ rfl rfl
 .obtain⟨a',p',ev,ha',⟨ok',bd',t',fit',pm'⟩,q'⟩:=hsp;cases ev;refine⟨_,(Ap D_entry_for hr' (Aa (pv 0) (Aa (D2 rfl (A0 (pv 1)) (λ_ _ _ _ _=>pgk (nk ["piece","block"])) (λ_ _ _ _ _=>(BK (Ap D_inside hr' (Aa (As (Bq (K:=K)) (pv 0) Ae (λ_ _=>rfl)) (Aa (pv 1) Ac))))) (λ_ _ _ _ _=>(pv 0)) (N:=["piece","block"]) (fr:=[none,some 0])) Ac))),?_⟩;have hL':∀a o,Lc.lookup a=some o->H' a=some (Bz a o):=λ a o e=>sm' _ _ (G5 e);have kp:∀{x:Addr}{u:HO},H1 x=some u->(∀o,u≠Bz x o)->(utk H' Lc) x=some u:=λ e n=>Ju hL' (sm' _ _ (up e)) n;have hau:=Ju hL' ha' (by intro o z;cases z);have hlu:=kp hl1 (by intro o z;cases z);have pcu:PcO (utk H' Lc) ts:=λ x hx=>⟨kp (tup1 (pc x hx).1) (by intro o z;cases z),kp (tup1 (pc x hx).2) (by intro o z;cases z)⟩;have sm2:∀{H2:Hp},Same (utk H' Lc) H2->Same H' (tkd H2 Lc):=λ{H2} s3 x o e=>by
   cases q:Lc.lookup x with
   |some o'=>rw[hL' x o' q]at e;cases e;exact G5 q
   |none=>rw[AL q];exact s3 _ _ (by rw[Bf q];exact e)
  refine⟨_,rfl,_,rfl,l,rfl,⟨_,SqL.of hlu⟩,λ acc hacc=>B8 (K:=K) (a:=l) (ys:=pcs ts) (λ i zs σ H2=>(∃y,σ=[y,some (.ref a')])/\Same (utk H' Lc) H2/\zs=pcs ((ts.take i).filter λ t=>decide (Ins t.2.2.1 p'))) ⟨⟨none,rfl⟩,Same.new hacc,rfl⟩ (λ i zs σ H2 _ _ hp=>SqL.of (hp.2.1 _ _ hlu)) ?_ ?_⟩
  .rintro i x zs σ H2 hx hi hl' hacc' ⟨⟨y,rfl⟩,hs,rfl⟩;obtain⟨z,hz,rfl⟩:=MA hx;obtain⟨g1,g2⟩:=(pcu.same hs) z (ax hz);have ft:=Gd (λ t:PT=>decide (Ins t.2.2.1 p')) hz;refine⟨_,rfl,z.1,_,_,_,rfl,rfl,SqT.of g1,FR,_,rfl,z.2.1,a',_,_,_,_,_,_,_,_,rfl,g2,hs _ _ hau,_,rfl,?_⟩;rw[P0];cases h3:decide (Ins z.2.2.1 p') with
   |true =>
    refine⟨_,rfl,fNx.mk (aM (Al (by rw[aa];lia))) hi hl' hacc' ⟨⟨_,rfl⟩,λ c o e=>by rw[Af (Ag e hacc)];exact hs c o e,?_⟩⟩;rw[ft,h3,if_pos rfl]
   |false=>exact fSk.mk hi hl' hacc' ⟨⟨_,rfl⟩,hs,by rw[ft,h3,if_neg ao,aY]⟩
  rintro zs σ H2 hzl ac2 ⟨_,s2,rfl⟩;rw[aa,aH]at ac2;have ec:cons (ts.filter λ t=>decide (Ins t.2.2.1 p'))=inP (cons ts) p':=by
   unfold inP;show List.map _ _=List.filter _ (List.map _ ts);rw[List.filter_map];rfl
  have fl:(ts.filter λ t=>decide (Ins t.2.2.1 p')).length<=ts.length:=br _ _;refine⟨a',acc,p',ts.filter λ t=>decide (Ins t.2.2.1 p'),t',rfl,s2 _ _ hau,ac2,λ x hx=>(pcu.same s2) x (cw.mp hx).1,by lia,ok',bd',fit',by rw[ec];exact pm',λ e H3 s3 e3 hno=>?_⟩;rw[ec]at e3;refine q' e _ (sm2 (s2.trans s3)) ?_;cases qo:Lc.lookup e with
  |some o=>rw[hno e o qo]at e3;cases e3
  |none=>rw[AL qo];exact e3
def tab(w h:Int):Int:=(([[1,2,4,8],[2,8,34,148],[4,34,320,3118],[8,148,3118,68480]]:List (List Int)).getD (w-1).toNat []).getD (h-1).toNat 0
def up(w:List Int):List Int:=w.dropLast++[w.getLastD 0+1]
def on(w:List Int):List Int:=w++[1]
def DY:Nat->List (List Int)
 |0=>[[1]]
 |n+1=>(DY n).map up++(DY n).map on
def bef(w h x y:Int):Bool:=decide (1<=x)&&decide (x<=w)&&(decide (1<=y)&&decide (y<=h))&&(decide (x<w)||decide (y<h))
def gin(w h x:Int):List Int->Int->Option Int
 |[],p=>some p
 |y::r,p=>if bef w h x y=true/\p.natAbs<1000000000/\(tab x y).natAbs<1000000000 then gin w h x r (p*tab x y) else none
def Iw(w h:Int)(ys:List Int):List Int->Int->Option Int
 |[],p=>some p
 |x::r,p=>(gin w h x ys p).bind λ q=>Iw w h ys r q
def tin(w h:Int)(c:List Int):List (List Int)->Int->Option Int
 |[],t=>some t
 |r::rs,t=>if ((c.length:Int)+(r.length:Int)-2) % 2=1 then (Iw w h r c 1).bind λ g=>tin w h c rs (t+g) else
  if (c.length:Int)+(r.length:Int)-2>0 then (Iw w h r c 1).bind λ g=>tin w h c rs (t-g) else tin w h c rs t
def L7(w h:Int)(rs:List (List Int)):List (List Int)->Int->Option Int
 |[],t=>some t
 |c::cs,t=>(tin w h c rs t).bind λ u=>L7 w h rs cs u
theorem TU{w:Int}(h1:1<=w)(h2:w<=4):w=1\/w=2\/w=3\/w=4:=by lia
theorem Ua{p:Int->Int->Bool}(h:([1,2,3,4]:List Int).all (λ w=>([1,2,3,4]:List Int).all λ h=>p w h)=true){w h':Int}(w1:1<=w)(w2:w<=4)(h1:1<=h')(h2:h'<=4):p w h'=true:=by
 have m:∀{z:Int},1<=z->z<=4->z∈([1,2,3,4]:List Int):=λ{z} a b=>by
  rcases TU a b with rfl|rfl|rfl|rfl<;>decide
 exact aU.mp (aU.mp h w (m w1 w2)) h' (m h1 h2)
theorem RM{w h:Int}(w1:1<=w)(w2:w<=4)(h1:1<=h)(h2:h<=4):L7 w h (DY (h-1).toNat) (DY (w-1).toNat) 1=some (tab w h) :=
 of_decide_eq_true (Ua (p:=λ w h=>decide (L7 w h (DY (h-1).toNat) (DY (w-1).toNat) 1=some (tab w h))) (by decide +kernel) w1 w2 h1 h2)
theorem Qm{n:Nat}(h:n<4):∀w∈DY n,w≠[]/\w.length<=4:=by
 have:∀n,n<4->∀w∈DY n,w≠[]/\w.length<=4:=by decide +kernel
 exact this n h
theorem Os{n:Nat}(h:n<4):(DY n).length<=8:=by
 have:∀n,n<4->(DY n).length<=8:=by decide +kernel
 exact this n h
theorem DL{α:Type}{xs:List α}{i:Nat}{x:α}(h:xs[i]?=some x):xs.drop i=x::xs.drop (i+1):=by
 obtain⟨hi,e⟩:=aG.mp h;rw[bM hi,e]
theorem ints_get{xs:List Int}{i:Nat}{x:V}(h:(xs.map V.int)[i]?=some x):∃z,xs[i]?=some z/\x=.int z:=by
 rw[ay]at h;cases e:xs[i]? with
 |none=>rw[e]at h;cases h
 |some z=>rw[e]at h;exact⟨z,rfl,(Option.some.inj h).symm⟩
def AX(ts:List (Addr×List Int)):LUz:=ts.map λ t=>V.ref t.1
def AtW(H:Hp)(ts:List (Addr×List Int)):Prop:=∀t∈ts,H t.1=some (.lst (t.2.map V.int))
theorem DI{ts:List (Addr×List Int)}{i:Nat}{x:V}(h:(AX ts)[i]?=some x):∃u,ts[i]?=some u/\x=.ref u.1:=by
 rw[AX,ay]at h;cases e:ts[i]? with
 |none=>rw[e]at h;cases h
 |some u=>rw[e]at h;exact⟨u,rfl,(Option.some.inj h).symm⟩
theorem Li(ys:LUz)(v:V):Ix (ys++[v]) none (some (-1))=ys:=by
 unfold Ix;have e1:HT.sIx (ys++[v]).length 0 none=0:=rfl;have e2:HT.sIx (ys++[v]).length (ys++[v]).length (some (-1))=ys.length:=by
  show(if (-1:Int)<0 then ((-1:Int)+((ys++[v]).length:Int)).toNat else min (-1:Int).toNat (ys++[v]).length)=_;rw[if_pos (by decide),av,aX];lia
 rw[e1,e2,eN,cC,List.take_left'];rfl
theorem Qo(ys:List Int)(z:Int):up (ys++[z])=ys++[z+1]:=by
 unfold up;rw[bN];simp
def cInv(H1:Hp)(acc:Addr)(f:List Int->List Int)(ts:List (Addr×List Int))(k:Nat)(zs:LUz)(σ:St)(H':Hp):Prop :=
 (∃y,σ=[y])/\Same H1 H'/\∃us,zs=AX us/\(∀u∈us,H' u.1=some (.lst (u.2.map V.int))/\u.1≠acc)/\us.map (·.2)=(ts.take k).map λ t=>f t.2
theorem cInv.start{H1:Hp}{acc:Addr}{f:List Int->List Int}{ts:List (Addr×List Int)}(h:H1 acc=none):cInv H1 acc f ts 0 [] [none] (upd H1 acc (.lst [])) :=
 ⟨⟨none,rfl⟩,Same.new h,[],rfl,λ u hu=>(nomatch hu),rfl⟩
theorem cInv.next{H1 H' H'':Hp}{acc r:Addr}{f:List Int->List Int}{ts:List (Addr×List Int)}{k:Nat}{zs:LUz}{σ σ':St}{u:Addr×List Int}(c:cInv H1 acc f ts k zs σ H')(h1:H1 acc=none)(ha:H' acc=some (.lst zs))(hu:ts[k]?=some u)(few:ts.length<=8)(hz:zs.length=k)
  (s:Same H' H'') (n:H' r=none) (e:H'' r=some (.lst ((f u.2).map V.int))) (hs:∃y,σ'=[y]):cNx acc (AX ts).length (cInv H1 acc f ts) k σ' (.ref r) H'':=by
 obtain⟨_,s1,us,rfl,h2,h3⟩:=c;have hk:=(aG.mp hu).1;have nr:r≠acc:=λ z=>by rw[z,ha]at n;cases n
 refine cNx.mk (aM (Al (by rw[AX,aa];lia))) (by rw[AX,aa];exact hk) hz (s _ _ ha) ⟨hs,λ b o eb=>?_,us++[(r,f u.2)],?_,λ v hv=>?_,?_⟩
 .rw[Af (Ag eb h1)];exact s b o (s1 b o eb)
 .rw[AX,AX,aj];rfl
 .rcases aF.mp hv with hv|hv
  .obtain⟨a,b⟩:=h2 v hv;exact⟨by rw[Af b];exact s _ _ a,b⟩
  .rw[ai.mp hv];exact⟨by rw[Af nr];exact e,nr⟩
 .rw[aj,h3,aK,hu,aj];rfl
def ky(x y:Int):List Key:=[Sum.inl x,Sum.inl y]
theorem Pr{x y x' y':Int}(h:ky x y=ky x' y'):x=x'/\y=y':=by
 unfold ky at h;simp only[List.cons.injEq,Sum.inl.injEq,and_true]at h;exact h
def Has(kvs:LKz)(w h:Int):Prop:=∀x y,bef w h x y=true->AV kvs (ky x y)=some (.int (tab x y))
inductive Nk(vs:LUz)(H:Hp)(Q:VK)(E:XK):Prop
 |mk (a b:Int) (h0:vs=[.int a,.int b]) (h1:1<=a) (h2:a<=4) (h3:1<=b) (h4:b<=4) (h5:∀H',Same H H'->Q .non H'):Nk vs H Q E
def LF:Sp:=λ vs H Q E=>Nk vs H Q E
inductive Ls(vs:LUz)(H:Hp)(Q:VK)(E:XK):Prop
 |mk (n:Int) (h0:vs=[.int n]) (h1:1<=n) (h2:n<=4) (h3:∀l ts H',Same H H'->H l=none->H' l=some (.lst (AX ts))->AtW H' ts->ts.map (λ t:Addr×List Int=>t.2)=DY (n-1).toNat->Q (.ref l) H'):Ls vs H Q E
def Mo:Sp:=λ vs H Q E=>Ls vs H Q E
inductive Lv(vs:LUz)(H:Hp)(Q:VK)(E:XK):Prop
 |mk (d c r:Addr) (kvs:LKz) (w h:Int) (xs ys:List Int) (R:Int) (h0:vs=[.ref d,.ref c,.ref r]) (h1:H d=some (.dT kvs)) (h2:H c=some (.lst (xs.map V.int))) (h3:H r=some (.lst (ys.map V.int))) (h4:Has kvs w h) (h5:Iw w h ys xs 1=some R) (h6:∀H',Same H H'->Q (.int R) H'):Lv vs H Q E
def Mt:Sp:=λ vs H Q E=>Lv vs H Q E
inductive Ji(vs:LUz)(H:Hp)(Q:VK)(E:XK):Prop
 |mk (d:Addr) (kvs:LKz) (w h:Int) (h0:vs=[.ref d,.int w,.int h]) (h1:H d=some (.dT kvs)) (h2:1<=w) (h3:w<=4) (h4:1<=h) (h5:h<=4) (h6:Has kvs w h) (h7:∀H',Same H H'->Q (.int (tab w h)) H'):Ji vs H Q E
def Km:Sp:=λ vs H Q E=>Ji vs H Q E
inductive Jp(vs:LUz)(H:Hp)(Q:VK)(E:XK):Prop
 |mk (w h:Int) (h0:vs=[.int w,.int h]) (h1:1<=w) (h2:w<=4) (h3:1<=h) (h4:h<=4) (h5:∀H',Same H H'->Q (.int (tab w h)) H'):Jp vs H Q E
def GH:Sp:=λ vs H Q E=>Jp vs H Q E
inductive Qk(K:Frag)(vs:LUz)(H:Hp)(Q:VK)(E:XK):Prop
 |mk (a:Addr) (ns:List Int) (k:Int) (h0:vs=[.ref a,.int k]) (h1:SqL K H a (ns.map V.int)) (h2:0<=k) (h3:k<1000) (h4:∀z H',Same H H'->Q (.int z) H'):Qk K vs H Q E
def Ry(K:Frag) :Sp:=λ vs H Q E=>Qk K vs H Q E
inductive Jn(vs:LUz)(H:Hp)(Q:VK)(E:XK):Prop
 |mk (n b:Int) (h0:vs=[.int n,.int b]) (h1:0<=b) (h2:b<=100) (h3:∀r,0<=r->Q (.int r) H):Jn vs H Q E
def Kn:Sp:=λ vs H Q E=>Jn vs H Q E
theorem T1:SQ 10 18:=⟨by decide,by decide,by decide⟩
theorem Fu{f:Addr}{fd:FuncData}(F:Fun K "check_counted" "check_counted" BJ f fd)(T:Txt mg tk)(D_is_whole:Ao P w K mg base 1 "is_whole" ["thing"] Dm) :
  A2 P w K mg base CX0 2 f fd ["width","height"] LF:=by
 have S:Ak ["width","height","side"] ["width","height"] (Ai BJ):=fsk;refine F.g S ?_;rintro vs H Q E ⟨a,b,rfl,a1,a4,b1,b4,q⟩;refine⟨rfl,λ cdv A outer s hr=>?_⟩;refine⟨_,(Ah (A4 PassesOwn.never rfl (LM (AB (Aa (pv 0) (Aa (pv 1) Ac)))) (Aj (i:=2) S.nd rfl (ar rfl)) (Ah (AG (PW.pt (GP (Cg (BK (Ap D_is_whole hr (Aa (pv 2) Ac)))) (Fn (Cg (GQ BN BN Ae (pv 2) (AI (v:=.int 4) rfl T.g_LONGEST_COUNTED ⟨_,rfl⟩)))))) (Ah BB) Ax)))),?_⟩;refine⟨_,rfl,_,rfl,A1 2,λ t ht=>⟨t,rfl,⟨_,SqT.of Ad⟩,MN (K:=K) (a:=t) (xs:=[.int a,.int b]) (λ i σ H'=>(∃y,σ=[some (.int a),some (.int b),y])/\H'=upd H t (.tup [.int a,.int b])) ⟨⟨none,rfl⟩,rfl⟩ (λ i σ H' _ hp=>by rw[hp.2];exact SqT.of Ad) ?_ ?_⟩⟩
 .rintro i x σ H' hx ⟨⟨y,rfl⟩,rfl⟩;obtain⟨z,rfl,z1,z4⟩:∃z,x=.int z/\1<=z/\z<=4:=by
   match i,hx with
   |0,hx=>cases hx;exact⟨a,rfl,a1,a4⟩
   |1,hx=>cases hx;exact⟨b,rfl,b1,b4⟩
   |i+2,hx=>cases hx
  refine⟨_,rfl,.int z,rfl,⟨_,rfl⟩,_,rfl,Bm rfl ?_⟩;exact⟨_,rfl,_,_,rfl,rfl,_,rfl,Cq (decide_eq_true z1) ⟨_,_,rfl,rfl,_,rfl,Bm (by rw[decide_eq_true z4];rfl) ⟨⟨_,rfl⟩,rfl⟩⟩⟩
 .rintro σ H' ⟨⟨y,rfl⟩,rfl⟩;exact q _ (Same.new ht)
theorem Ge{f:Addr}{fd:FuncData}(F:Fun K "ways_to_part" "ways_to_part" BZ f fd)(T:Txt mg tk):A2 P w K mg base CX0 1 f fd ["length"] Mo:=by
 have S:Ak ["length","ways","step","longer"] ["length"] (Ai BZ):=fsk;refine F.g S ?_;rintro vs H Q E ⟨n,rfl,n1,n2,q⟩;refine⟨rfl,λ cdv A outer s hr=>?_⟩;refine⟨_,(Ab (Am (i:=1) S.nd rfl (ar rfl) (AY (Aa (AY (Aa Ae Ac)) Ac)))
  (Ab (A4 PassesOwn.never rfl (AH rfl T.z_range (Aa Ae (Aa (pv 0) Ac))) (Aj (i:=2) S.nd rfl (ar rfl)) (Ab (El rfl (Aj (i:=3) S.nd rfl (ar rfl)) (A0 (pv 1)) (λ_ _ _ _ _=>pgk (nk ["way"])) (λ_ _ _ _ _=>(An JC (D1 (OB (K:=K)) (pv 0) EH (EG (Kz G2 Ae))) (AY (Aa (An A7 (As (Pw (K:=K)) (pv 0) (Kz G2 Ae) (λ_ _=>rfl)) Ae) Ac)))) (N:=["way"]) (fr:=[none]))
  (Ah (Am (i:=1) S.nd rfl (ar rfl) (An JC (pv 3) (Bk rfl (A0 (pv 1)) (λ_ _ _ _ _=>pgk (nk ["way"])) (λ_ _ _ _ _=>(An JC (pv 0) (AY (Aa Ae Ac)))) (N:=["way"]) (fr:=[none])))))))
  (Ah (Aq (pv 1))))),?_⟩
 refine⟨A1 1,λ a ha=>⟨A1 1,λ l hl=>?_⟩⟩;have sa:Same H (upd H a (.lst [.int 1])):=Same.new ha;have sl:Same (upd H a (.lst [.int 1])) (upd (upd H a (.lst [.int 1])) l (.lst [.ref a])):=Same.new hl;refine⟨_,rfl,1,n,rfl,⟨by lia,by lia,by lia,by lia⟩,AD (lo:=1) (n:=(n-1).toNat) (λ i σ H'=>∃l ts,(∃y z,σ=[some (.int n),some (.ref l),y,z])/\Same H H'/\H l=none/\H' l=some (.lst (AX ts))/\AtW H' ts/\ts.map (λ t:Addr×List Int=>t.2)=DY i)
  ⟨l,[(a,[1])],⟨none,none,rfl⟩,sa.trans sl,Gn sa hl,Ad,λ t ht=>?_,rfl⟩ ?_ ?_⟩
 .rw[ai.mp ht];exact sl _ _ Ad
 .rintro i σ H1 hi ⟨l,ts,⟨y,z,rfl⟩,s1,nl,hl,ht,hw⟩;have i3:i<4:=by lia
  have few:ts.length<=8:=by
   have:=Os i3;rw[<-hw,aa]at this;exact this
  have good:∀u∈ts,u.2≠[]/\u.2.length<=4:=λ u hu=>Qm i3 u.2 (by rw[<-hw];exact az.mpr ⟨u,hu,rfl⟩);refine⟨_,rfl,l,rfl,⟨_,SqL.of hl⟩,λ acc hacc=>AN (K:=K) (a:=l) (ys:=AX ts) (cInv H1 acc up ts) (cInv.start hacc) (λ k zs σ H' _ _ hp=>SqL.of (hp.2.1 _ _ hl)) ?_ ?_⟩
  .rintro k x zs σ H' hx hk hl' hacc' hp;obtain⟨⟨y,rfl⟩,hs,_⟩:=id hp;obtain⟨u,hu,rfl⟩:=DI hx;have hum:=ax hu;have hua:=hs _ _ (ht u hum);obtain⟨w0,e0,he⟩:∃w0 e0,u.2=w0++[e0]:=⟨u.2.dropLast,u.2.getLast (good u hum).1,(b6 _).symm⟩;have hl4:=(good u hum).2;rw[he,av,aX]at hl4;have em:u.2.map V.int=w0.map V.int++[.int e0]:=by rw[he,aj];rfl
   have ea:atI (u.2.map V.int) (-1)=some (.int e0):=by rw[em];exact Qc _ _
   have ec:Ix (u.2.map V.int) none (some (-1))=w0.map V.int:=by rw[em];exact Li _ _
   refine⟨_,rfl,_,rfl,_,rfl,u.1,_,rfl,SqL.of hua,λ c hc=>?_⟩;rw[show(-(1:Int))=-1 from rfl,ec];have sc:Same H' (upd H' c (.lst (w0.map V.int))):=Same.new hc;refine⟨_,rfl,_,rfl,u.1,_,_,_,rfl,rfl,SqL.of (sc _ _ hua),ea,_,_,rfl,rfl,A1 1,λ m hm=>?_⟩;have sm:Same (upd H' c (.lst (w0.map V.int))) (upd (upd H' c (.lst (w0.map V.int))) m (.lst [.int (e0+1)])):=Same.new hm;refine⟨c,m,w0.map V.int,[.int (e0+1)],rfl,rfl,sm _ _ Ad,Ad,aM (Al (by rw[aa,aX];lia)),λ r hr=>?_⟩;refine hp.next hacc hacc' hu few hl' ((sc.trans sm).trans (Same.new hr)) (Gn (sc.trans sm) hr) ?_ ⟨_,rfl⟩;rw[Ad,he,Qo,aj];rfl
  .rintro zs σ H2 hlen hacc2 ⟨⟨y0,rfl⟩,s2,us,rfl,hu2,hm2⟩;rw[AX,aa,aH]at hm2;refine⟨_,rfl,_,rfl,l,rfl,⟨_,SqL.of (s2 _ _ hl)⟩,λ acc' hacc'=>AN (K:=K) (a:=l) (ys:=AX ts) (cInv H2 acc' on ts) (cInv.start hacc') (λ k zs σ H' _ _ hp=>SqL.of (hp.2.1 _ _ (s2 _ _ hl))) ?_ ?_⟩
   .rintro k x zs σ H' hx hk hl' ha' hp;obtain⟨⟨y,rfl⟩,hs,_⟩:=id hp;obtain⟨u,hu,rfl⟩:=DI hx;have hum:=ax hu;have hua:=(s2.trans hs) _ _ (ht u hum);have hl4:=(good u hum).2;refine⟨_,rfl,A1 1,λ m hm=>?_⟩;have sm:Same H' (upd H' m (.lst [.int 1])):=Same.new hm;refine⟨u.1,m,u.2.map V.int,[.int 1],rfl,rfl,sm _ _ hua,Ad,aM (Al (by rw[aa,aX];lia)),λ r hr=>?_⟩;refine hp.next hacc' ha' hu few hl' (sm.trans (Same.new hr)) (Gn sm hr) ?_ ⟨_,rfl⟩;rw[Ad,on,aj];rfl
   .rintro zs σ H3 hlen3 hacc3 ⟨⟨y1,rfl⟩,s3,vs,rfl,hu3,hm3⟩;rw[AX,aa,aH]at hm3;have lu:us.length=ts.length:=by rw[<-aa (f:=λ t:Addr×List Int=>t.2),hm2,aa]
    have lv:vs.length=ts.length:=by rw[<-aa (f:=λ t:Addr×List Int=>t.2),hm3,aa]
    refine⟨acc,acc',AX us,AX vs,rfl,rfl,s3 _ _ hacc2,hacc3,aM (Al (by rw[AX,AX,aa,aa];lia)),λ r hr=>?_⟩;have sr:Same H3 (upd H3 r (.lst (AX us++AX vs))):=Same.new hr;refine⟨r,us++vs,⟨_,_,rfl⟩,((s1.trans s2).trans s3).trans sr,Gn ((s1.trans s2).trans s3) hr,?_,λ t hm=>?_,?_⟩
    .rw[Ad,AX,AX,AX,aj]
    .rcases aF.mp hm with hm|hm
     .exact sr _ _ (s3 _ _ (hu2 t hm).1)
     .exact sr _ _ (hu3 t hm).1
    .rw[aj,hm2,hm3,DY,<-hw,aJ,aJ];rfl
 .rintro σ H1 ⟨l,ts,⟨y,z,rfl⟩,s1,nl,hl,ht,hw⟩;exact⟨_,rfl,q l ts H1 s1 nl hl ht hw⟩
theorem UC{a b:Int}(h1:a.natAbs<1000000000)(h2:b.natAbs<1000000000):IntMulOk a b:=by
 have c:(2:Nat)^128=340282366920938463463374607431768211456:=by decide +kernel
 refine KM ?_ ?_<;>rw[c]<;>lia
theorem Fs{f:Addr}{fd:FuncData}(F:Fun K "count_of_grid" "count_of_grid" BH f fd):A2 P w K mg base CX0 1 f fd ["counts","columns","rows"] Mt:=by
 have S:Ak ["counts","columns","rows","product","width","height"] ["counts","columns","rows"] (Ai BH):=fsk;refine F.g S ?_;rintro vs H Q E ⟨d,c,r,kvs,w,h,xs,ys,R,rfl,hd,hc,hrr,has,hg,q⟩;refine⟨rfl,λ cdv A outer s hr=>?_⟩;have hu:=D8 hr;refine⟨_,(Ab (Am (i:=3) S.nd rfl (ar rfl) Ae)
  (Ab (A4 PassesOwn.never rfl (A0 (pv 1)) (Aj (i:=4) S.nd rfl (ar rfl)) (Ah (A4 PassesOwn.never rfl (A0 (pv 2)) (Aj (i:=5) S.nd rfl (ar rfl)) (Ah (Am (i:=3) S.nd rfl (ar rfl) (An Bo (pv 3) (DJ hu (pv 0) (AB (Aa (pv 4) (Aa (pv 5) Ac))) (λ_ _=>rfl))))))))
  (Ah (Aq (pv 3))))),?_⟩
 refine⟨_,rfl,c,rfl,⟨_,SqL.of hc⟩,Bc (K:=K) (a:=c) (xs:=xs.map V.int) (λ i σ H'=>Same H H'/\∃p x5 x6,σ=[some (.ref d),some (.ref c),some (.ref r),some (.int p),x5,x6]/\Iw w h ys (xs.drop i) p=some R)
  ⟨Same.refl H,1,none,none,rfl,hg⟩ (λ i σ H' _ hp=>SqL.of (hp.1 _ _ hc)) ?_ ?_⟩
 .rintro i x σ H1 hx ⟨s1,p,x5,x6,rfl,hg1⟩;obtain⟨z,hz,rfl⟩:=ints_get hx;rw[DL hz,Iw]at hg1;refine⟨_,rfl,r,rfl,⟨_,SqL.of (s1 _ _ hrr)⟩,Bc (K:=K) (a:=r) (xs:=ys.map V.int) (λ j σ H'=>Same H H'/\∃p x6,σ=[some (.ref d),some (.ref c),some (.ref r),some (.int p),some (.int z),x6]/\((gin w h z (ys.drop j) p).bind λ q=>Iw w h ys (xs.drop (i+1)) q)=some R)
   ⟨s1,p,x6,rfl,hg1⟩ (λ i σ H' _ hp=>SqL.of (hp.1 _ _ hrr)) ?_ ?_⟩
  .rintro j y σ H2 hy ⟨s2,p,x6,rfl,hg2⟩;obtain⟨y,hy',rfl⟩:=ints_get hy;rw[DL hy',gin]at hg2;split at hg2
   .rename_i hb;obtain⟨hb,p1,t1⟩:=hb;refine⟨_,rfl,_,rfl,_,rfl,_,rfl,A1 2,λ t ht=>?_⟩;have st:Same H2 (upd H2 t (.tup [.int z,.int y])):=Same.new ht;have dg:=DGet.t (k:=ky z y) ((s2.trans st) _ _ hd) (show(upd H2 t (.tup [.int z,.int y])) t=some (.tup ((ky z y).map kV)) from Ad);rw[has z y hb]at dg;exact⟨d,_,rfl,dg,_,_,rfl,rfl,UC p1 t1,s2.trans st,_,_,rfl,hg2⟩
   .cases hg2
  .rintro σ H2 ⟨s2,p,x6,rfl,hg2⟩;rw[aa,bD,gin]at hg2;exact⟨s2,p,_,_,rfl,hg2⟩
 .rintro σ H1 ⟨s1,p,x5,x6,rfl,hg1⟩;rw[aa,bD,Iw]at hg1;cases hg1;exact⟨_,rfl,q _ s1⟩
theorem DQ{f:Addr}{fd:FuncData}(F:Fun K "count_by_smaller" "count_by_smaller" Bt f fd)(T:Txt mg tk)(D_ways_to_part:Ao P w K mg base 1 "ways_to_part" ["length"] Mo)(D_count_of_grid:Ao P w K mg base 1 "count_of_grid" ["counts","columns","rows"] Mt):A2 P w K mg base CX0 2 f fd ["counts","width","height"] Km:=by
 have S:Ak ["counts","width","height","total","columns","rows","lines"] ["counts","width","height"] (Ai Bt):=fsk;refine F.g S ?_;rintro vs H Q E ⟨d,kvs,w,h,rfl,hd,w1,w2,h1,h2,has,q⟩;refine⟨rfl,λ cdv A outer s hr=>?_⟩;refine⟨_,(Ab (Am (i:=3) S.nd rfl (ar rfl) Ae)
  (Ab (A4 PassesOwn.never rfl (A0 (Ap D_ways_to_part hr (Aa (pv 1) Ac))) (Aj (i:=4) S.nd rfl (ar rfl)) (Ah (A4 PassesOwn.never rfl (A0 (Ap D_ways_to_part hr (Aa (pv 2) Ac))) (Aj (i:=5) S.nd rfl (ar rfl)) (Ab (Am (i:=6) S.nd rfl (ar rfl) (An C6 (An A7 (Av AS rfl T.z_len rfl (Aa (pv 4) Ac)) (Av AS rfl T.z_len rfl (Aa (pv 5) Ac))) Ae))
  (Ah (AG (Aw Ck (An Cj (pv 6) Ae) Ae (Az _)) (Ah (Ci (i:=3) S.nd rfl (ar rfl) (Ap D_count_of_grid hr (Aa (pv 0) (Aa (pv 4) (Aa (pv 5) Ac)))) Da)) (Ah (AG (Aw Pc (pv 6) Ae (Az _)) (Ah (Ci (i:=3) S.nd rfl (ar rfl) (Ap D_count_of_grid hr (Aa (pv 0) (Aa (pv 4) (Aa (pv 5) Ac)))) LY)) Ax))))))))
  (Ah (Aq (pv 3))))),?_⟩
 refine⟨_,rfl,w,rfl,w1,w2,λ l ts H1 s1 _ hl ht hw=>⟨l,rfl,⟨_,SqL.of hl⟩,Bc (K:=K) (a:=l) (xs:=AX ts) (λ i σ H'=>Same H1 H'/\∃t x4 x5 x6,σ=[some (.ref d),some (.int w),some (.int h),some (.int t),x4,x5,x6]/\L7 w h (DY (h-1).toNat) ((ts.drop i).map λ t:Addr×List Int=>t.2) t=some (tab w h)) ⟨Same.refl H1,1,none,none,none,rfl,?_⟩ (λ i σ H' _ hp=>SqL.of (hp.1 _ _ hl)) ?_ ?_⟩⟩
 .rw[cC,hw];exact RM w1 w2 h1 h2
 .rintro i x σ H2 hx ⟨s2,t,x4,x5,x6,rfl,hg⟩;obtain⟨u,hu,rfl⟩:=DI hx;rw[DL hu,aA,L7]at hg;have hua:=s2 _ _ (ht u (ax hu));refine⟨_,rfl,h,rfl,h1,h2,λ l' ts' H3 s3 _ hl' ht' hw'=>⟨l',rfl,⟨_,SqL.of hl'⟩,Bc (K:=K) (a:=l') (xs:=AX ts') (λ j σ H'=>Same H3 H'/\∃t x5 x6,σ=[some (.ref d),some (.int w),some (.int h),some (.int t),some (.ref u.1),x5,x6]/\((tin w h u.2 ((ts'.drop j).map λ t:Addr×List Int=>t.2) t).bind λ q=>L7 w h (DY (h-1).toNat) ((ts.drop (i+1)).map λ t:Addr×List Int=>t.2) q)=some (tab w h)) ⟨Same.refl H3,t,x5,x6,rfl,?_⟩ (λ j σ H' _ hp=>SqL.of (hp.1 _ _ hl')) ?_ ?_⟩⟩
  .rw[cC,hw'];exact hg
  .rintro j y σ H4 hy ⟨s4,t,x5,x6,rfl,hg2⟩;obtain⟨v,hv,rfl⟩:=DI hy;rw[DL hv,aA,tin]at hg2;have hva:=s4 _ _ (ht' v (ax hv));have hua4:=(s3.trans s4) _ _ hua;have hd4:H4 d=some (.dT kvs):=(s1.trans (s2.trans (s3.trans s4))) _ _ hd;rw[<-aa (f:=V.int) (as:=u.2),<-aa (f:=V.int) (as:=v.2)]at hg2;refine⟨_,rfl,u.1,_,rfl,.inl (SqL.of hua4),_,rfl,v.1,_,rfl,.inl (SqL.of hva),_,_,rfl,rfl,_,_,rfl,rfl,?_⟩;refine⟨_,rfl,_,_,rfl,rfl,(show(0:Int)<2 from by decide),rfl,_,rfl,B0 (λ hb=>?_) (λ hb=>?_)⟩
   .rw[if_pos (V.int.inj (of_decide_eq_true hb))]at hg2;cases eg:Iw w h v.2 u.2 1 with
    |none=>rw[eg]at hg2;cases hg2
    |some g =>
     rw[eg]at hg2;exact⟨_,rfl,_,rfl,_,rfl,_,rfl,d,u.1,v.1,kvs,w,h,u.2,v.2,g,rfl,hd4,hua4,hva,has,eg,λ H5 s5=>⟨_,_,rfl,rfl,s4.trans s5,_,_,_,rfl,hg2⟩⟩
   .rw[if_neg (λ z=>of_decide_eq_false hb (congrArg V.int z))]at hg2;refine⟨_,rfl,_,_,rfl,rfl,_,rfl,B0 (λ hc=>?_) (λ hc=>?_)⟩
    .rw[if_pos (of_decide_eq_true hc)]at hg2;cases eg:Iw w h v.2 u.2 1 with
     |none=>rw[eg]at hg2;cases hg2
     |some g =>
      rw[eg]at hg2;exact⟨_,rfl,_,rfl,_,rfl,_,rfl,d,u.1,v.1,kvs,w,h,u.2,v.2,g,rfl,hd4,hua4,hva,has,eg,λ H5 s5=>⟨_,_,rfl,rfl,s4.trans s5,_,_,_,rfl,hg2⟩⟩
    .rw[if_neg (of_decide_eq_false hc)]at hg2;exact⟨s4,_,_,_,rfl,hg2⟩
  .rintro σ H4 ⟨s4,t,x5,x6,rfl,hg2⟩;rw[AX,aa,bD,cj,tin]at hg2;exact⟨s2.trans (s3.trans s4),t,_,_,_,rfl,hg2⟩
 .rintro σ H2 ⟨s2,t,x4,x5,x6,rfl,hg⟩;rw[AX,aa,bD,cj,L7]at hg;cases hg;exact⟨_,rfl,q _ (s1.trans s2)⟩
theorem Pf{f:Addr}{fd:FuncData}(F:Fun K "count" "count" J0 f fd)(T:Txt mg tk)(D_check_counted:Ao P w K mg base 2 "check_counted" ["width","height"] LF)(D_count_by_smaller:Ao P w K mg base 2 "count_by_smaller" ["counts","width","height"] Km):A2 P w K mg base CX0 3 f fd ["width","height"] GH:=by
 have S:Ak ["width","height","counts","wide","high"] ["width","height"] (Ai J0):=fsk;refine F.g S ?_;rintro vs H Q E ⟨w,h,rfl,w1,w2,h1,h2,q⟩;refine⟨rfl,λ cdv A outer s hr=>?_⟩;have hu:=D8 hr;refine⟨_,(Ab (AQ (Ap D_check_counted hr (Aa (pv 0) (Aa (pv 1) Ac))))
  (Ab (Am (i:=2) S.nd rfl (ar rfl) GV)
  (Ab (A4 PassesOwn.never rfl (AH rfl T.z_range (Aa Ae (Aa (An A7 (pv 0) Ae) Ac))) (Aj (i:=3) S.nd rfl (ar rfl)) (Ah (A4 PassesOwn.never rfl (AH rfl T.z_range (Aa Ae (Aa (An A7 (pv 1) Ae) Ac))) (Aj (i:=4) S.nd rfl (ar rfl)) (Ah (EF hu (pv 2) (AB (Aa (pv 3) (Aa (pv 4) Ac))) (Ap D_count_by_smaller hr (Aa (pv 2) (Aa (pv 3) (Aa (pv 4) Ac)))) rfl)))))
  (Ah (Aq (DJ hu (pv 2) (AB (Aa (pv 0) (Aa (pv 1) Ac))) (λ_ _=>rfl))))))),?_⟩
 refine⟨_,rfl,_,rfl,w,h,rfl,w1,w2,h1,h2,λ H1 s1=>?_⟩;intro d hd;refine⟨_,rfl,_,_,rfl,rfl,1,w+1,rfl,⟨by lia,by lia,by lia,by lia⟩,AD (lo:=1) (n:=(w+1-1).toNat) (λ i σ H'=>(∃y z,σ=[some (.int w),some (.int h),some (.ref d),y,z])/\Same H1 H'/\∃kvs,H' d=some (.dT kvs)/\kvs.length<=4*i/\∀x y,1<=x->x<=(i:Int)->1<=y->y<=h->AV kvs (ky x y)=some (.int (tab x y)))
  ⟨⟨none,none,rfl⟩,Same.new hd,[],Ad,ah _,λ x y a b=>by lia⟩ ?_ ?_⟩
 .rintro i σ H2 hi ⟨⟨y,z,rfl⟩,s2,kvs,hk,hkl,ha⟩;refine⟨_,rfl,_,_,rfl,rfl,1,h+1,rfl,⟨by lia,by lia,by lia,by lia⟩,AD (lo:=1) (n:=(h+1-1).toNat) (λ j σ H'=>(∃z,σ=[some (.int w),some (.int h),some (.ref d),some (.int (1+(i:Int))),z])/\Same H1 H'/\∃kvs,H' d=some (.dT kvs)/\kvs.length<=4*i+j/\(∀x y,1<=x->x<=(i:Int)->1<=y->y<=h->AV kvs (ky x y)=some (.int (tab x y)))/\∀y,1<=y->y<=(j:Int)->AV kvs (ky (1+(i:Int)) y)=some (.int (tab (1+(i:Int)) y)))
   ⟨⟨z,rfl⟩,s2,kvs,hk,by lia,ha,λ y a b=>by lia⟩ ?_ ?_⟩
  .rintro j σ H3 hj ⟨⟨z,rfl⟩,s3,kv,hk3,hl3,b1,b2⟩;have has:Has kv (1+(i:Int)) (1+(j:Int)):=λ x y hb=>by
    unfold bef at hb;simp only[aE,de,decide_eq_true_eq]at hb;obtain⟨⟨⟨x1,x2⟩,y1,y2⟩,lt⟩:=hb;by_cases e:x=1+(i:Int)
    .subst e;exact b2 y y1 (by lia)
    .exact b1 x y x1 (by lia) y1 (by lia)
   refine⟨_,rfl,_,rfl,_,rfl,d,kv,1+(i:Int),1+(j:Int),rfl,hk3,by lia,by lia,by lia,by lia,has,λ H4 s4=>⟨_,rfl,_,rfl,_,rfl,A1 2,λ t ht=>?_⟩⟩;have hk4:(upd H4 t (.tup [.int (1+(i:Int)),.int (1+(j:Int))])) d=some (.dT kv):=Same.new ht _ _ (s4 _ _ hk3);refine⟨d,_,rfl,DPut.t (k:=ky (1+(i:Int)) (1+(j:Int))) hk4 Ad (Al (by lia)),⟨_,rfl⟩,λ b o e=>?_,_,Ad,?_,λ x y x1 x2 y1 y2=>?_,λ y y1 y2=>?_⟩
   .rw[Af (Ag e hd)];exact Same.new ht _ _ (s4 _ _ (s3 b o e))
   .have:=BC kv (ky (1+(i:Int)) (1+(j:Int))) (V.int (tab (1+(i:Int)) (1+(j:Int))));lia
   .rw[CB,if_neg (λ e=>by have:=(Pr e).1;lia)];exact b1 x y x1 x2 y1 y2
   .rw[CB];by_cases e:y=1+(j:Int)
    .rw[if_pos (by rw[e]),e]
    .rw[if_neg (λ z=>e (Pr z).2)];exact b2 y y1 (by lia)
  .rintro σ H3 ⟨⟨z,rfl⟩,s3,kv,hk3,hl3,b1,b2⟩;refine⟨⟨_,_,rfl⟩,s3,kv,hk3,by lia,λ x y x1 x2 y1 y2=>?_⟩;by_cases e:x=1+(i:Int)
   .rw[e];exact b2 y y1 (by lia)
   .exact b1 x y x1 (by lia) y1 y2
 .rintro σ H2 ⟨⟨y,z,rfl⟩,s2,kvs,hk,hkl,ha⟩;refine⟨_,rfl,_,rfl,_,rfl,A1 2,λ t ht=>?_⟩;have st:Same H2 (upd H2 t (.tup [.int w,.int h])):=Same.new ht;have dg:=DGet.t (k:=ky w h) (st _ _ hk) (show(upd H2 t (.tup [.int w,.int h])) t=some (.tup ((ky w h).map kV)) from Ad);rw[ha w h w1 (by lia) h1 (bf _)]at dg;exact⟨d,_,rfl,dg,q _ ((s1.trans s2).trans st)⟩
theorem NC{f:Addr}{fd:FuncData}(F:Fun K "_law_at" "_law_at" Fj f fd)(T:Txt mg tk):A2 P w K mg base CX0 1 f fd ["_law_script","_law_k"] (Ry K):=by
 have S:Ak ["_law_script","_law_k","_law_cell"] ["_law_script","_law_k"] (Ai Fj):=fsk;refine F.g S ?_;rintro vs H Q E ⟨a,ns,k,rfl,hS,hk0,hk1,q⟩;refine⟨rfl,λ cdv A outer s hr=>?_⟩;refine⟨_,(Ab (AG (Aw Df (pv 1) (Av AS rfl T.z_len rfl (Aa (pv 0) Ac)) (Az _)) (Ah (Aq (As CZ (pv 0) (pv 1) (λ_ _=>rfl)))) Ax)
  (Ab (Am (i:=2) S.nd rfl (ar rfl) Ae)
  (Ab (AG (Aw (Pa hr) (pv 0) (AY Ac) (Az _)) (Ah (Am (i:=2) S.nd rfl (ar rfl) (As CZ (pv 0) (An Cj (pv 1) (Av AS rfl T.z_len rfl (Aa (pv 0) Ac))) (λ_ _=>rfl)))) Ax)
  (Ah (Aq (An Cj (An Bo (An A7 (An A7 (An Cj (pv 2) Ae) (An Bo Ae (pv 1))) Ae) Ae) Ae)))))),?_⟩
 have fin:∀z:Int,IntMulOk (z % 1000003+104729*k+13) 48271:=λ z=>by
  have a:=bO z (b:=1000003) (by decide);have b:=bL z (b:=1000003) (by decide);exact EN (by lia) (by lia) (by decide) (by decide)
 refine⟨_,rfl,_,rfl,a,_,rfl,.inl hS,_,_,rfl,rfl,_,rfl,B0 (λ h=>?_) (λ h=>?_)⟩
 .have h':=of_decide_eq_true h;rw[aa]at h';obtain⟨z,hz⟩:=MW hk0 h';exact⟨_,rfl,_,rfl,a,_,_,_,rfl,rfl,hS,hz,q _ H (Same.refl H)⟩
 .refine⟨_,rfl,A1 0,λ e he=>?_⟩;obtain⟨H1,g,s1,e1⟩:=nw (.lst []) he;rw[g];refine⟨_,_,TD (s1.seq hS),T6 e1,⟨_,rfl⟩,⟨_,rfl⟩,NU _,_,rfl,B0 (λ h1=>?_) (λ h1=>?_)⟩
  .rw[if_pos rfl,deq,NV]at h1;have hne:ns≠[]:=λ z=>by rw[decide_eq_true z]at h1;cases h1
   have hpos:0<ns.length:=List.length_pos_iff.mpr hne;obtain⟨z,hz⟩:=MW (ns:=ns) (k:=k % (((ns.map V.int).length:Nat):Int)) (bO _ (by rw[aa];lia)) (by rw[aa];exact bL _ (by lia));refine⟨_,rfl,_,rfl,_,rfl,a,_,rfl,.inl (s1.seq hS),_,_,rfl,rfl,(by rw[aa];lia),a,_,_,_,rfl,rfl,s1.seq hS,hz,?_⟩;exact⟨_,rfl,_,_,rfl,rfl,(show(0:Int)<1000003 from by decide),_,rfl,_,_,rfl,rfl,EN (by decide) (by decide) (by lia) (by lia),_,_,rfl,rfl,_,_,rfl,rfl,_,_,rfl,rfl,fin _,_,_,rfl,rfl,(show(0:Int)<2147483647 from by decide),q _ H1 s1⟩
  .exact⟨_,rfl,_,_,rfl,rfl,(show(0:Int)<1000003 from by decide),_,rfl,_,_,rfl,rfl,EN (by decide) (by decide) (by lia) (by lia),_,_,rfl,rfl,_,_,rfl,rfl,_,_,rfl,rfl,fin _,_,_,rfl,rfl,(show(0:Int)<2147483647 from by decide),q _ H1 s1⟩
theorem JF{f:Addr}{fd:FuncData}(F:Fun K "_law_knead" "_law_knead" Bw f fd)(T:Txt mg tk):A2 P w K mg base CX0 1 f fd ["_law_number","_law_by"] Kn:=by
 have S:Ak ["_law_number","_law_by","_law_digits","_law_k","_law_found"] ["_law_number","_law_by"] (Ai Bw):=fsk;refine F.g S ?_;rintro vs H Q E ⟨n,b,rfl,b0,b1,q⟩;refine⟨rfl,λ cdv A outer s hr=>?_⟩;obtain⟨tt,htt,fin⟩:∃rd,PSs (Cs CX0 P w K mg base ["_law_number","_law_by","_law_digits","_law_k","_law_found"] "_law_knead" (Ai Bw) f cdv A outer s H E).nox ((A5 Bw).drop 2) rd /\
   ∀(d:Int)(x3:Option V),0<=d->rd { nx:=λ_ H'=>Q .non H',rt:=Q } [some (.int n),some (.int b),some (.int d),x3,none] H:=by
  refine⟨_,(Ab (AG (Aw Pc (pv 2) Ae (Az _)) (Ah (Aq (An Cj (pv 2) Ae))) Ax)
  (Ab (Am (i:=0) S.nd rfl (ar rfl) (An A7 (An Cj (pv 0) Ae) (An Bo Ae (pv 1))))
  (Ab (Am (i:=4) S.nd rfl (ar rfl) (An A7 Ae (pv 1)))
  (Ab (A4 PassesOwn.never rfl (CG rfl T.z_range (Aa Ae Ac)) (Aj (i:=3) S.nd rfl (ar rfl)) (Ab (Am (i:=4) S.nd rfl (ar rfl) (An Cj (An Bo (An A7 (An Bo (pv 4) Ae) (pv 0)) (An A7 (An Cj (pv 0) Ae) Ae)) Ae))
  (Ah (Am (i:=0) S.nd rfl (ar rfl) (An A7 (An A7 (An GZ (pv 0) Ae) (An Cj (pv 4) Ae)) (pv 3))))))
  (Ah (Aq (pv 4))))))),?_⟩
  intro d x3 d0;refine⟨_,rfl,_,_,rfl,rfl,_,rfl,B0 (λ h=>?_) (λ h=>?_)⟩
  .exact⟨_,rfl,_,_,rfl,rfl,(show(0:Int)<1000000000 from by decide),q _ (bO _ (by decide))⟩
  .have a:=bO n (b:=900001) (by decide);have c:=bL n (b:=900001) (by decide);refine⟨_,rfl,_,_,rfl,rfl,(show(0:Int)<900001 from by decide),_,rfl,_,_,rfl,rfl,EN (by decide) (by decide) (by lia) (by lia),_,_,rfl,rfl,_,rfl,_,_,rfl,rfl,3,rfl,by decide,by decide,?_⟩;refine AD (lo:=0) (n:=(3:Int).toNat) (λ i σ H'=>H'=H/\∃N F x2 x3,σ=[some (.int N),some (.int b),x2,x3,some (.int F)]/\0<=N/\N<=1000000/\0<=F/\F<=715827883) ⟨rfl,_,_,_,_,rfl,by lia,by lia,by lia,by lia⟩ ?_ ?_
   .rintro i σ H' hi ⟨rfl,N,F,x2,x3,rfl,n0,n1,f0,f1⟩;have hi3:i<3:=hi;have m0:=bO N (b:=8887) (by decide);have m1:=bL N (b:=8887) (by decide);refine⟨_,rfl,_,_,rfl,rfl,EN (by lia) (by lia) (by decide) (by decide),_,rfl,_,_,rfl,rfl,_,rfl,_,_,rfl,rfl,(show(0:Int)<8887 from by decide),_,_,rfl,rfl,_,_,rfl,rfl,EN (by lia) (by lia) (by lia) (by lia),_,_,rfl,rfl,(show(0:Int)<715827883 from by decide),?_⟩;have g0:=bO ((F*8191+N)*(N % 8887+5501)) (b:=715827883) (by decide);have g1:=bL ((F*8191+N)*(N % 8887+5501)) (b:=715827883) (by decide);generalize (F*8191+N)*(N % 8887+5501) % 715827883=F' at g0 g1 |-;refine⟨_,rfl,_,_,rfl,rfl,Rf _ (by decide) (by decide),_,rfl,_,_,rfl,rfl,(show(0:Int)<1013 from by decide),_,_,rfl,rfl,_,rfl,_,_,rfl,rfl,rfl,_,_,_,_,rfl,?_,?_,by lia,by lia⟩
    .lia
    .lia
   .rintro σ H' ⟨rfl,N,F,x2,x3,rfl,n0,n1,f0,f1⟩;exact⟨_,rfl,q _ f0⟩
 refine⟨_,(Ab (Am (i:=2) S.nd rfl (ar rfl) Ae)
  (Ab (AG (PW.pt (GP (Aw Df (pv 0) Ae (Az _)) (Fn (Aw Pd (pv 0) (An Sk Ae Ae) (Az _))))) (Ab (Am (i:=2) S.nd rfl (ar rfl) (Av PY rfl T.z_abs rfl (Aa (pv 0) Ac)))
  (Ah (A4 PassesOwn.never rfl (CG rfl T.z_range (Aa (pv 1) Ac)) (Aj (i:=3) S.nd rfl (ar rfl)) (Ah (Am (i:=2) S.nd rfl (ar rfl) (An GZ (pv 2) Ae)))))) Ax)
  htt)),?_⟩
 have loop:∀(d:Int),0<=d->(if d<0 then -d else d)=d:=λ d h=>by rw[if_neg (by lia)]
 refine⟨_,rfl,_,_,rfl,rfl,_,rfl,B0 (λ h=>?_) (λ h=>?_)⟩
 .refine S1 ⟨_,rfl,_,rfl,_,rfl,b,rfl,by lia,by lia,AD (lo:=0) (n:=b.toNat) (λ i σ H'=>H'=H/\∃d x3,σ=[some (.int n),some (.int b),some (.int d),x3,none]/\0<=d) ⟨rfl,_,_,rfl,by split<;>lia⟩ ?_ ?_⟩
  .rintro i σ H' hi ⟨rfl,d,x3,rfl,d0⟩;exact⟨_,rfl,_,_,rfl,rfl,Rf _ (by decide) (by decide),rfl,_,_,rfl,by lia⟩
  .rintro σ H' ⟨rfl,d,x3,rfl,d0⟩;exact fin d x3 d0
 .refine⟨_,rfl,_,_,rfl,rfl,T1,_,_,rfl,rfl,_,rfl,B0 (λ h1=>?_) (λ h1=>fin 0 none (by lia))⟩;refine⟨_,rfl,_,rfl,_,rfl,b,rfl,by lia,by lia,AD (lo:=0) (n:=b.toNat) (λ i σ H'=>H'=H/\∃d x3,σ=[some (.int n),some (.int b),some (.int d),x3,none]/\0<=d) ⟨rfl,_,_,rfl,by split<;>lia⟩ ?_ ?_⟩
  .rintro i σ H' hi ⟨rfl,d,x3,rfl,d0⟩;exact⟨_,rfl,_,_,rfl,rfl,Rf _ (by decide) (by decide),rfl,_,_,rfl,by lia⟩
  .rintro σ H' ⟨rfl,d,x3,rfl,d0⟩;exact fin d x3 d0
abbrev P4:=Int×Int×Int×Int
abbrev Nd:=Int×List P4
def Sq(w row c0:Int):Nat->Int->Int
 |0,f=>f
 |i+1,f=>Builtin.bitOr (Sq w row c0 i f) (1*2^(row*w+(c0+(i:Int))).toNat)
def QK(w:Int)(p:P4):Nat->Int
 |0=>0
 |i+1=>Sq w (p.1+(i:Int)) p.2.1 (p.2.2.2-p.2.1).toNat (QK w p i)
def KS(w:Int)(p:P4):Int:=QK w p (p.2.2.1-p.1).toNat
def G3(p:P4):LUz:=[.int p.1,.int p.2.1,.int p.2.2.1,.int p.2.2.2]
def SL(p:P4):Prop:=0<=p.1/\p.1<=30/\0<=p.2.1/\p.2.1<=30/\0<=p.2.2.1/\p.2.2.1<=30/\0<=p.2.2.2/\p.2.2.2<=30
inductive Lu(vs:LUz)(H:Hp)(Q:VK)(E:XK):Prop
 |mk (t:Addr) (p:P4) (w:Int) (h0:vs=[.ref t,.int w]) (h1:H t=some (.tup (G3 p))) (h2:SL p) (h3:1<=w) (h4:w<=4) (h5:Q (.int (KS w p)) H):Lu vs H Q E
def Mr:Sp:=λ vs H Q E=>Lu vs H Q E
theorem So{r w:Int}(r0:0<=r)(r1:r<=100)(w0:1<=w)(w1:w<=4):0<=r*w/\r*w<=400:=by
 have a:=Int.mul_nonneg r0 (show 0<=w by lia);have b:=d9 r1 w1 (by lia) (by decide);lia
theorem KB{f:Addr}{fd:FuncData}(F:Fun K "_law_mask" "_law_mask" Dx f fd)(T:Txt mg tk):A2 P w K mg base CX0 1 f fd ["_law_pane","_law_width"] Mr:=by
 have S:Ak ["_law_pane","_law_width","_law_found","_law_row","_law_column"] ["_law_pane","_law_width"] (Ai Dx):=fsk;refine F.g S ?_;rintro vs H Q E ⟨t,⟨p0,p1,p2,p3⟩,w,rfl,ht,⟨a0,a1,b0,b1,c0,c1,d0,d1⟩,w0,w1,q⟩;refine⟨rfl,λ cdv A outer s hr=>?_⟩;have ht:H t=some (.tup [.int p0,.int p1,.int p2,.int p3]):=ht;dsimp only at a0 a1 b0 b1 c0 c1 d0 d1;refine⟨_,(Ab (Am (i:=2) S.nd rfl (ar rfl) Ae)
  (Ab (A4 PassesOwn.never rfl (AH rfl T.z_range (Aa (As Ar (pv 0) Ae (λ_ _=>rfl)) (Aa (As Ar (pv 0) Ae (λ_ _=>rfl)) Ac))) (Aj (i:=3) S.nd rfl (ar rfl)) (Ah (A4 PassesOwn.never rfl (AH rfl T.z_range (Aa (As Ar (pv 0) Ae (λ_ _=>rfl)) (Aa (As Ar (pv 0) Ae (λ_ _=>rfl)) Ac))) (Aj (i:=4) S.nd rfl (ar rfl)) (Ah (Am (i:=2) S.nd rfl (ar rfl) (An R1 (pv 2) (An JB Ae (An A7 (An Bo (pv 3) (pv 1)) (pv 4)))))))))
  (Ah (Aq (pv 2))))),?_⟩
 refine⟨_,rfl,t,_,_,_,rfl,rfl,SqT.of ht,at0,_,rfl,t,_,_,_,rfl,rfl,SqT.of ht,at2,p0,p2,rfl,⟨by lia,by lia,by lia,by lia⟩,AD (lo:=p0) (n:=(p2-p0).toNat) (λ i σ H'=>H'=H/\∃x3 x4,σ=[some (.ref t),some (.int w),some (.int (QK w (p0,p1,p2,p3) i)),x3,x4]) ⟨rfl,none,none,rfl⟩ ?_ ?_⟩
 .rintro i σ H' hi ⟨rfl,x3,x4,rfl⟩;obtain⟨m0,m1⟩:=So (r:=p0+(i:Int)) (by lia) (by lia) w0 w1;refine⟨_,rfl,t,_,_,_,rfl,rfl,SqT.of ht,at1,_,rfl,t,_,_,_,rfl,rfl,SqT.of ht,at3,p1,p3,rfl,⟨by lia,by lia,by lia,by lia⟩,AD (lo:=p1) (n:=(p3-p1).toNat) (λ j σ H''=>H''=H'/\∃x4,σ=[some (.ref t),some (.int w),some (.int (Sq w (p0+(i:Int)) p1 j (QK w (p0,p1,p2,p3) i))),some (.int (p0+(i:Int))),x4]) ⟨rfl,_,rfl⟩ ?_ ?_⟩
  .rintro j σ H'' hj ⟨rfl,x4,rfl⟩;exact⟨_,rfl,_,rfl,_,rfl,_,_,rfl,rfl,EN (by lia) (by lia) (by lia) (by lia),_,rfl,_,_,rfl,rfl,_,_,rfl,rfl,⟨by lia,by lia,by decide⟩,_,_,rfl,rfl,rfl,_,rfl⟩
  .rintro σ H'' ⟨rfl,x4,rfl⟩;exact⟨rfl,_,_,rfl⟩
 .rintro σ H' ⟨rfl,x3,x4,rfl⟩;exact⟨_,rfl,q⟩
def DU:Nat->Int->Int->Option Int
 |0,_,_=>none
 |n+1,t,a=>if Builtin.bitAnd (t / 2^a.toNat) 1=1 then DU n t (a+1) else some a
def FP(w t row col right:Int)(ps:List P4):Nat->List Nd
 |0=>[]
 |i+1=>FP w t row col right ps i++[(Builtin.bitOr t (KS w (row,col,row+1+(i:Int),right)),ps++[(row,col,row+1+(i:Int),right)])]
def CU(w h t row col:Int)(ps:List P4):Nat->Int->List Nd
 |0,_=>[]
 |n+1,r=>if Builtin.bitAnd (t / 2^(row*w+r-1).toNat) 1=1 then [] else FP w t row col r ps (h+1-(row+1)).toNat++CU w h t row col ps n (r+1)
def Fk(w h:Int):Nat->List Nd->List (List P4)->Option (List (List P4))
 |0,b,f=>if b.isEmpty then some f else none
 |m+1,b,f=>match b.getLast? with
  |none=>some f
  |some (t,ps)=>if 500<b.length\/500<f.length\/20<ps.length then none else match DU 20 t 0 with
   |none=>none
   |some a=>if a=w*h then Fk w h m b.dropLast (f++[ps]) else Fk w h m (b.dropLast++CU w h t (a / w) (a % w) ps (w+1-(a % w+1)).toNat (a % w+1)) f
theorem OE(w h:Int)(m:Nat)(f:List (List P4)):Fk w h m [] f=some f:=by cases m<;>rfl
theorem Nz{w h:Int}{m:Nat}{b:List Nd}{t:Int}{ps:List P4}{f ts:List (List P4)}(e:Fk w h m (b++[(t,ps)]) f=some ts):∃m' a,m=m'+1/\b.length<=500/\f.length<=500/\ps.length<=20/\DU 20 t 0=some a /\
  (a=w*h->Fk w h m' b (f++[ps])=some ts)/\(a≠w*h->Fk w h m' (b++CU w h t (a / w) (a % w) ps (w+1-(a % w+1)).toNat (a % w+1)) f=some ts):=by
 cases m with
 |zero =>
  unfold Fk at e;rw[if_neg (by simp)]at e;cases e
 |succ m =>
  unfold Fk at e;rw[List.getLast?_concat]at e;dsimp only at e;rw[bN,av,aX]at e;split at e
  .cases e
  .rename_i hn;split at e
   .cases e
   .rename_i a ha;refine⟨m,a,rfl,by lia,by lia,by lia,ha,λ z=>?_,λ z=>?_⟩
    .rw[if_pos z]at e;exact e
    .rw[if_neg z]at e;exact e
def All2{α β:Type}(R:α->β->Prop):List α->List β->Prop
 |[],[]=>True
 |x::xs,y::ys=>R x y/\All2 R xs ys
 |[],_::_=>False
 |_::_,[]=>False
theorem All2.mono{α β:Type}{R R':α->β->Prop}(m:∀x y,R x y->R' x y):∀{xs:List α}{ys:List β},All2 R xs ys->All2 R' xs ys
 |[],[],_=>trivial
 |x::xs,y::ys,h=>⟨m _ _ h.1,All2.mono m h.2⟩
 |[],_::_,h=>h.elim
 |_::_,[],h=>h.elim
theorem All2.len{α β:Type}{R:α->β->Prop}:∀{xs:List α}{ys:List β},All2 R xs ys->xs.length=ys.length
 |[],[],_=>rfl
 |x::xs,y::ys,h=>by rw[aN,aN,All2.len h.2]
 |[],_::_,h=>h.elim
 |_::_,[],h=>h.elim
theorem All2.snoc{α β:Type}{R:α->β->Prop}{a:α}{b:β}(r:R a b):∀{xs:List α}{ys:List β},All2 R xs ys->All2 R (xs++[a]) (ys++[b])
 |[],[],_=>⟨r,trivial⟩
 |x::xs,y::ys,h=>⟨h.1,All2.snoc r h.2⟩
 |[],_::_,h=>h.elim
 |_::_,[],h=>h.elim
theorem All2.get{α β:Type}{R:α->β->Prop}:∀{xs:List α}{ys:List β}{i:Nat}{x:α},All2 R xs ys->xs[i]?=some x->∃y,ys[i]?=some y/\R x y
 |x::xs,y::ys,0,_,h,e=>by cases e;exact⟨y,rfl,h.1⟩
 |x::xs,y::ys,i+1,_,h,e=>All2.get (i:=i) h.2 e
 |[],[],_,_,_,e=>by cases e
 |[],_::_,_,_,h,_=>h.elim
 |_::_,[],_,_,h,_=>h.elim
theorem All2.last{α β:Type}{R:α->β->Prop}:∀{xs:List α}{ys:List β}{b:β},All2 R xs (ys++[b])->∃xs0 a,xs=xs0++[a]/\R a b/\All2 R xs0 ys
 |[x],[],b,h=>⟨[],x,rfl,h.1,trivial⟩
 |[],[],b,h=>h.elim
 |x::x'::xs,[],b,h=>h.2.elim
 |x::xs,y::ys,b,h=>by
  obtain⟨xs0,a,e,r,z⟩:=All2.last (xs:=xs) (ys:=ys) h.2;exact⟨x::xs0,a,by rw[e];rfl,r,h.1,z⟩
 |[],_::_,_,h=>h.elim
def TupAt(N:Addr->Prop)(H:Hp)(v:V)(p:P4):Prop:=∃t,v=.ref t/\N t/\H t=some (.tup (G3 p))
def PanAt(N:Addr->Prop)(H:Hp)(v:V)(ps:List P4):Prop:=∃a xs,v=.ref a/\N a/\H a=some (.lst xs)/\All2 (TupAt N H) xs ps
def NodAt(N:Addr->Prop)(H:Hp)(v:V)(n:Nd):Prop:=∃t u,v=.ref t/\N t/\H t=some (.tup [.int n.1,u])/\PanAt N H u n.2
def Kx(N:Addr->Prop)(H H':Hp):Prop:=∀b o,N b->H b=some o->H' b=some o
theorem Kx.of{N:Addr->Prop}{H H':Hp}(s:Same H H'):Kx N H H':=λ b o _ e=>s b o e
theorem TupAt.kx{N:Addr->Prop}{H H':Hp}(k:Kx N H H'){v:V}{p:P4}(h:TupAt N H v p):TupAt N H' v p:=let ⟨t,a,b,c⟩:=h;⟨t,a,b,k _ _ b c⟩
theorem PanAt.kx{N:Addr->Prop}{H H':Hp}(k:Kx N H H'){v:V}{ps:List P4}(h:PanAt N H v ps):PanAt N H' v ps:=let ⟨a,xs,e,n,c,d⟩:=h;⟨a,xs,e,n,k _ _ n c,d.mono λ_ _=>TupAt.kx k⟩
theorem NodAt.kx{N:Addr->Prop}{H H':Hp}(k:Kx N H H'){v:V}{n:Nd}(h:NodAt N H v n):NodAt N H' v n:=let ⟨t,u,e,b,c,d⟩:=h;⟨t,u,e,b,k _ _ b c,d.kx k⟩
theorem TupAt.any{N:Addr->Prop}{H:Hp}{v:V}{p:P4}(h:TupAt N H v p):TupAt (λ_=>True) H v p:=let ⟨t,a,_,c⟩:=h;⟨t,a,trivial,c⟩
theorem PanAt.any{N:Addr->Prop}{H:Hp}{v:V}{ps:List P4}(h:PanAt N H v ps):PanAt (λ_=>True) H v ps:=let ⟨a,xs,e,_,c,d⟩:=h;⟨a,xs,e,trivial,c,d.mono λ_ _=>TupAt.any⟩
def MB(p:P4):D:=.tup (.cons (.at (.int p.1)) (.cons (.at (.int p.2.1)) (.cons (.at (.int p.2.2.1)) (.cons (.at (.int p.2.2.2)) .nil))))
theorem OY{N:Addr->Prop}{H:Hp}{v:V}{p:P4}(h:TupAt N H v p):DIs K H (MB p) v/\dep (MB p)<=1:=by
 obtain⟨t,rfl,_,ht⟩:=h;unfold MB
 constructor
 .rw[DIs];refine⟨t,_,rfl,SqT.of ht,?_⟩;unfold G3;rw[DIss];refine⟨_,_,rfl,by rw[DIs];exact⟨rfl,rfl⟩,?_⟩;rw[DIss];refine⟨_,_,rfl,by rw[DIs];exact⟨rfl,rfl⟩,?_⟩;rw[DIss];refine⟨_,_,rfl,by rw[DIs];exact⟨rfl,rfl⟩,?_⟩;rw[DIss];exact⟨_,_,rfl,by rw[DIs];exact⟨rfl,rfl⟩,by rw[DIss]⟩
 .rw[dep,C7,C7,C7,C7,C7,dep,dep,dep,dep];lia
theorem Kd{β:Type}{R:V->β->Prop}{H:Hp}{n:Nat}(f:∀v y,R v y->∃d,DIs K H d v/\dep d<=n):∀{xs:LUz}{ys:List β},All2 R xs ys->∃ds,DIss K H ds xs/\C7 ds<=n/\Di ds .nil=decide (xs=[])
 |[],[],_=>⟨.nil,by rw[DIss],by rw[C7];lia,by rw[Di,decide_eq_true rfl]⟩
 |x::xs,y::ys,h=>by
  obtain⟨d,d1,d2⟩:=f x y h.1;obtain⟨ds,e1,e2,_⟩:=Kd f h.2;refine⟨.cons d ds,?_,?_,?_⟩
  .rw[DIss];exact⟨_,_,rfl,d1,e1⟩
  .rw[C7];lia
  .rw[decide_eq_false (λ z=>by cases z),Di]
   all_goals (intros;contradiction)
 |[],_::_,h=>h.elim
 |_::_,[],h=>h.elim
theorem OX{N:Addr->Prop}{H:Hp}{v:V}{ps:List P4}(h:PanAt N H v ps):∃d,DIs K H d v/\dep d<=2:=by
 obtain⟨a,xs,rfl,_,ha,al⟩:=h;obtain⟨ds,d1,d2,_⟩:=Kd (K:=K) (n:=1) (λ v y r=>⟨MB y,OY r⟩) al;exact⟨.lst ds,by rw[DIs];exact⟨a,xs,rfl,SqL.of ha,d1⟩,by rw[dep];lia⟩
theorem QI{N:Addr->Prop}{H:Hp}{v:V}{n:Nd}(h:NodAt N H v n):∃d,DIs K H d v/\dep d<=3:=by
 obtain⟨t,u,rfl,_,ht,hp⟩:=h;obtain⟨d,d1,d2⟩:=OX (K:=K) hp;refine⟨.tup (.cons (.at (.int n.1)) (.cons d .nil)),?_,?_⟩
 .rw[DIs];refine⟨t,_,rfl,SqT.of ht,?_⟩;rw[DIss];refine⟨_,_,rfl,by rw[DIs];exact⟨rfl,rfl⟩,?_⟩;rw[DIss];exact⟨_,_,rfl,d1,by rw[DIss]⟩
 .rw[dep,C7,C7,C7,dep];lia
def Cn(lo hi:P4->Int)(ps:List P4)(k:Nat):Bool:=ps.any λ p=>decide (lo p<(k:Int))&&decide ((k:Int)<hi p)
def EO(lo hi:P4->Int)(ps:List P4):Option Nat:=(Co (ps.map λ p=>(hi p).toNat)).dropLast.find? λ k=>!Cn lo hi ps k
def Ey:Nat->List P4->Option Bool
 |0,_=>none
 |n+1,ps=>if ps.length=1 then some true else
  match EO (λ p=>p.2.1) (λ p=>p.2.2.2) ps with
  |some k=>(Ey n (ps.filter λ p=>decide (p.2.2.2<=(k:Int)))).bind λ b=>if b=true then Ey n (ps.filter λ p=>decide (p.2.1>=(k:Int))) else some false
  |none=>match EO (λ p=>p.1) (λ p=>p.2.2.1) ps with
   |some k=>(Ey n (ps.filter λ p=>decide (p.2.2.1<=(k:Int)))).bind λ b=>if b=true then Ey n (ps.filter λ p=>decide (p.1>=(k:Int))) else some false
   |none=>some false
def okP(p:P4):Bool:=decide (1<=p.2.2.1)&&decide (p.2.2.1<=4)&&(decide (1<=p.2.2.2)&&decide (p.2.2.2<=4))
def Oh(ps:List P4):Bool:=(Ey 12 ps).getD false
theorem Gw:∀(n:Nat)(t a a0:Int),DU n t a=some a0->a<=a0/\a0<a+n
 |0,t,a,a0,h=>by unfold DU at h;cases h
 |n+1,t,a,a0,h=>by
  unfold DU at h;split at h
  .have:=Gw n t (a+1) a0 h;lia
  .cases h;lia
theorem HY(w t row col right:Int)(ps:List P4):∀i,(FP w t row col right ps i).length=i
 |0=>rfl
 |i+1=>by rw[FP,av,aX,HY]
inductive Nc(vs:LUz)(H:Hp)(Q:VK)(E:XK):Prop
 |mk (w h:Int) (ts:List (List P4)) (h0:vs=[.int w,.int h]) (h1:1<=w) (h2:w<=4) (h3:1<=h) (h4:h<=4) (h5:Fk w h 3000 [(0,[])] []=some ts) (h6:∀l xs H',Same H H'->H' l=some (.lst xs)->All2 (PanAt (λ_=>True) H') xs ts->Q (.ref l) H'):Nc vs H Q E
def O6:Sp:=λ vs H Q E=>Nc vs H Q E
abbrev Uj:LSz:=["_law_width","_law_height","_law_found","_law_begun","_law_taken","_law_panes","_law_at_here","_law_row","_law_column","_law_right","_law_bottom","_law_pane"]
theorem NL(xs:LUz)(v:V):(xs++[v])[(xs++[v]).length-1]?=some v:=by
 rw[av,aX,dE,ci (ah _),cN];rfl
theorem All2.app{α β:Type}{R:α->β->Prop}{xs:List α}{ys:List β}(h:All2 R xs ys):All2 R xs (ys++[]):=by rw[aY];exact h
theorem He{f:Addr}{fd:FuncData}(F:Fun K "_law_tilings" "_law_tilings" Ce f fd)(T:Txt mg tk)(D__law_mask:Ao P w K mg base 1 "_law_mask" ["_law_pane","_law_width"] Mr):A2 P w K mg base CX0 2 f fd ["_law_width","_law_height"] O6:=by
 have S:Ak Uj ["_law_width","_law_height"] (Ai Ce):=fsk;refine F.g S ?_;rintro vs H Q E ⟨w,h,ts,rfl,w1,w4,h1,h4,hts,q⟩;refine⟨rfl,λ cdv A outer s hr=>?_⟩;refine⟨_,(Ab (Am (i:=2) S.nd rfl (ar rfl) (AY Ac))
  (Ab (Am (i:=3) S.nd rfl (ar rfl) (AY (Aa (AB (Aa Ae (Aa (AY Ac) Ac))) Ac)))
  (Ab (Dz PassesOwn.never (Aw (Pa hr) (pv 3) (AY Ac) (Az _)) (Ab (LL (D3 bn bX bW Hk (pv 3)) (B4 rfl (Au (Aj (i:=4) S.nd rfl (ar rfl)) (Au (Aj (i:=5) S.nd rfl (ar rfl)) AU))))
  (Ab (Am (i:=6) S.nd rfl (ar rfl) Ae)
  (Ab (Dz PassesOwn.never (Aw Ck (An D5 (An OZ (pv 4) (pv 6)) Ae) Ae (Az _)) (Ah (Am (i:=6) S.nd rfl (ar rfl) (An A7 (pv 6) Ae))))
  (Ab (AG (Aw Ck (pv 6) (An Bo (pv 0) (pv 1)) (Az _)) (Ab (AQ (CW (pv 2) (Aa (pv 5) Ac)))
  (Ah Kw)) Ax)
  (Ab (LL (Av Lp rfl T.z_divmod rfl (Aa (pv 6) (Aa (pv 0) Ac))) (B4 rfl (Au (Aj (i:=7) S.nd rfl (ar rfl)) (Au (Aj (i:=8) S.nd rfl (ar rfl)) AU))))
  (Ah (A4 PassesOwn.never rfl (AH rfl T.z_range (Aa (An A7 (pv 8) Ae) (Aa (An A7 (pv 0) Ae) Ac))) (Aj (i:=9) S.nd rfl (ar rfl)) (Ab (AG (Aw Ck (An D5 (An OZ (pv 4) (An C6 (An A7 (An Bo (pv 7) (pv 0)) (pv 9)) Ae)) Ae) Ae (Az _)) (Ah ON) Ax)
  (Ah (A4 PassesOwn.never rfl (AH rfl T.z_range (Aa (An A7 (pv 7) Ae) (Aa (An A7 (pv 1) Ae) Ac))) (Aj (i:=10) S.nd rfl (ar rfl)) (Ab (Am (i:=11) S.nd rfl (ar rfl) (AB (Aa (pv 7) (Aa (pv 8) (Aa (pv 10) (Aa (pv 9) Ac))))))
  (Ah (AQ (CW (pv 3) (Aa (AB (Aa (An R1 (pv 4) (Ap D__law_mask hr (Aa (pv 11) (Aa (pv 0) Ac)))) (Aa (An JC (pv 5) (AY (Aa (pv 11) Ac))) Ac))) Ac))))))))))))))))
  (Ah (Aq (pv 2)))))),?_⟩
 refine⟨A1 0,λ lf nlf=>⟨A1 0,λ e0 ne0=>⟨A1 2,λ t0 nt0=>⟨A1 1,λ lb nlb=>?_⟩⟩⟩⟩;obtain⟨HA,g,sA,eA⟩:=nw (.lst []) nlf;rw[g] at ne0 nt0 nlb |-;obtain⟨HB,g,sB,eB⟩:=nw (.lst []) ne0;rw[g] at nt0 nlb |-;obtain⟨HC,g,sC,eC⟩:=nw (.tup [.int 0,.ref e0]) nt0;rw[g] at nlb |-;obtain⟨HD,g,sD,eD⟩:=nw (.lst [.ref t0]) nlb;rw[g];have n1:lf≠lb:=Ag (sC _ _ (sB _ _ eA)) nlb;have n2:e0≠lf:=λ z=>by rw[z,eA]at ne0;cases ne0
 have n3:e0≠lb:=Ag (sC _ _ eB) nlb;have n4:t0≠lf:=λ z=>by rw[z,sB _ _ eA]at nt0;cases nt0
 have n5:t0≠lb:=Ag eC nlb;have hlf0:H lf=none:=nlf;have hlb0:H lb=none:=(sA.trans (sB.trans sC)).free nlb
 let N:Addr->Prop:=λ a=>a≠lb/\a≠lf
 have QJ:∀{H':Hp}{x:Addr}{xs ys:LUz},H' lb=some (.lst xs)->H' lf=some (.lst ys)->H' x=none->N x:=λ{H' x xs ys} a b c=>⟨(λ z=>by rw[z,a]at c;cases c),(λ z=>by rw[z,b]at c;cases c)⟩;have Dy:∀{H':Hp}{xs:LUz},Kx N H' (upd H' lb (.lst xs)):=λ{H' xs} b o n e=>by rw[Af n.1];exact e
 have AZ:∀{H':Hp}{xs:LUz},Kx N H' (upd H' lf (.lst xs)):=λ{H' xs} b o n e=>by rw[Af n.2];exact e
 refine⟨λ m σ H'=>∃(b:List Nd)(fo:List (List P4))(xb xf:LUz)(x4 x5 x6 x7 x8 x9 x10 x11:Option V),σ=[some (.int w),some (.int h),some (.ref lf),some (.ref lb),x4,x5,x6,x7,x8,x9,x10,x11]/\Same H H'/\H' lb=some (.lst xb)/\H' lf=some (.lst xf)/\All2 (NodAt N H') xb b/\All2 (PanAt N H') xf fo/\Fk w h m b fo=some ts,
  ⟨3000,[(0,[])],[],[.ref t0],[],none,none,none,none,none,none,none,none,rfl,sA.trans (sB.trans (sC.trans sD)),eD,sD _ _ (sC _ _ (sB _ _ eA)),⟨⟨t0,.ref e0,rfl,⟨n5,n4⟩,sD _ _ eC,e0,[],rfl,⟨n3,n2⟩,sD _ _ (sC _ _ eB),trivial⟩,trivial⟩,trivial,hts⟩,?_⟩
 rintro m σ H1 ⟨b,fo,xb,xf,x4,x5,x6,x7,x8,x9,x10,x11,rfl,s1,hb,hf,ab,af,hrun⟩;refine⟨_,rfl,A1 0,λ e1 ne1=>?_⟩;obtain⟨H2,g,sE,eE⟩:=nw (.lst []) ne1;rw[g];have s2:=s1.trans sE;have hb2:=sE _ _ hb;have hf2:=sE _ _ hf;have ab2:=ab.mono λ_ _=>NodAt.kx (Kx.of sE);have af2:=af.mono λ_ _=>PanAt.kx (Kx.of sE);obtain⟨ds,d1,d2,d3⟩:=Kd (K:=K) (n:=3) (λ v y r=>QI r) ab2;have dx:DIs K H2 (.lst ds) (.ref lb):=by rw[DIs];exact⟨lb,xb,rfl,SqL.of hb2,d1⟩
 refine⟨_,_,dx,T6 eE,⟨_,rfl⟩,⟨_,rfl⟩,by rw[dep];lia,_,rfl,B0 (λ hc=>?_) (λ hc=>?_)⟩
 .rw[if_pos rfl,deq,d3]at hc;have xne:xb≠[]:=λ z=>by rw[decide_eq_true z]at hc;cases hc
  have bne:b≠[]:=λ z=>by
   have:=ab.len;rw[z]at this;exact xne (bT.mp this)
  obtain⟨b0,⟨t,ps⟩,rfl⟩:∃b0 nd,b=b0++[nd]:=⟨b.dropLast,b.getLast bne,(b6 bne).symm⟩;obtain⟨m',a,rfl,bl,fl,pl,hfree,hr1,hr2⟩:=Nz hrun;obtain⟨xb0,vn,rfl,hvn,ab0⟩:=All2.last ab2;obtain⟨tn,u,rfl,ntn,htn,hpan⟩:=hvn;have htn:H2 tn=some (.tup [.int t,u]):=htn;have hpan:PanAt N H2 u ps:=hpan;refine⟨λ σ' H'=>∃m2,m2<m'+1/\∃(b:List Nd)(fo:List (List P4))(xb xf:LUz)(x4 x5 x6 x7 x8 x9 x10 x11:Option V),σ'=[some (.int w),some (.int h),some (.ref lf),some (.ref lb),x4,x5,x6,x7,x8,x9,x10,x11]/\Same H H'/\H' lb=some (.lst xb)/\H' lf=some (.lst xf)/\All2 (NodAt N H') xb b/\All2 (PanAt N H') xf fo/\Fk w h m2 b fo=some ts,λ σ' H' z=>z,?_⟩;refine⟨_,rfl,.inl ⟨rfl,_,SqL.of hb2⟩,lb,_,.ref tn,rfl,rfl,hb2,NL _ _,?_⟩;rw[bN];have kB:Kx N H2 (upd H2 lb (.lst xb0)):=Dy;have s3:Same H (upd H2 lb (.lst xb0)):=λ c o z=>by rw[Af (Ag z hlb0)];exact s2 c o z
  have hb3:(upd H2 lb (.lst xb0)) lb=some (.lst xb0):=Ad;have hf3:(upd H2 lb (.lst xb0)) lf=some (.lst xf):=by rw[Af n1];exact hf2
  have htn3:=kB _ _ ntn htn;have pan3:=hpan.kx kB;have ab3:=ab0.mono λ_ _=>NodAt.kx kB;have af3:=af2.mono λ_ _=>PanAt.kx kB;generalize upd H2 lb (.lst xb0)=H3 at s3 hb3 hf3 htn3 pan3 ab3 af3 |-;refine⟨tn,_,rfl,SqT.of htn3,rfl,_,_,rfl,_,_,rfl,rfl,?_⟩;have fg:=Gw _ _ _ _ hfree;refine⟨λ k σ' H'=>∃c:Int,σ'=[some (.int w),some (.int h),some (.ref lf),some (.ref lb),some (.int t),some u,some (.int c),x7,x8,x9,x10,x11]/\H'=H3/\0<=c/\c<=20/\DU k t c=some a,⟨20,0,rfl,rfl,by decide,by decide,hfree⟩,?_⟩;rintro k σ' H4 ⟨c,rfl,eH,c0,c20,hk⟩;rw[eH];clear eH;cases k with
  |zero=>unfold DU at hk;cases hk
  |succ k =>
  have cg:=Gw _ _ _ _ hk;unfold DU at hk;refine⟨_,rfl,_,rfl,_,_,rfl,rfl,c0,_,_,rfl,rfl,rfl,_,rfl,B0 (λ hbit=>?_) (λ hbit=>?_)⟩
  .rw[if_pos (V.int.inj (of_decide_eq_true hbit))]at hk;have:=Gw _ _ _ _ hk;exact⟨λ σ' H'=>∃m',m'<k+1/\∃c:Int,σ'=[some (.int w),some (.int h),some (.ref lf),some (.ref lb),some (.int t),some u,some (.int c),x7,x8,x9,x10,x11]/\H'=H3/\0<=c/\c<=20/\DU m' t c=some a,λ σ' H' z=>z,_,rfl,_,_,rfl,rfl,k,bg _,c+1,rfl,rfl,by lia,by lia,hk⟩
  .rw[if_neg (λ z=>of_decide_eq_false hbit (congrArg V.int z))]at hk;have ca:c=a:=Option.some.inj hk;subst ca;have a20:c<20:=by lia
   have xfl:xf.length<=500:=by rw[af.len];exact fl
   have xbl:xb0.length<=500:=by rw[ab0.len];exact bl
   have sq:=So (r:=h) (by lia) (by lia) w1 w4;rw[Int.mul_comm]at sq;refine⟨_,rfl,_,rfl,_,rfl,_,_,rfl,rfl,EN (by lia) (by lia) (by lia) (by lia),rfl,_,rfl,B0 (λ he=>?_) (λ he=>?_)⟩
   .refine⟨_,rfl,.inl ⟨rfl,_,SqL.of hf3⟩,_,rfl,lf,xf,u,rfl,rfl,hf3,Al (by lia),m',bg _,b0,fo++[ps],xb0,xf++[u],_,_,_,_,_,_,_,_,rfl,λ c o z=>?_,?_,Ad,ab3.mono λ_ _=>NodAt.kx AZ,(af3.mono λ_ _=>PanAt.kx AZ).snoc (pan3.kx AZ),hr1 (V.int.inj (of_decide_eq_true he))⟩
    .rw[Af (Ag z hlf0)];exact s3 c o z
    .rw[Af (Ne.symm n1)];exact hb3
   .have hr3:=hr2 (λ z=>of_decide_eq_false he (congrArg V.int z));refine⟨_,rfl,_,rfl,c,w,rfl,⟨by lia,by lia⟩,λ p np=>⟨p,_,rfl,SqT.of Ad,rfl,_,_,rfl,_,_,rfl,rfl,?_⟩⟩;have r0:=Int.ediv_nonneg c0 (show 0<=w by lia);have r1:=Int.ediv_le_self w c0;have q0:=bO c (show w≠0 by lia);have q1:=bL c (show 0<w by lia);have sp:Same H3 (upd H3 p (.tup [.int (c / w),.int (c % w)])):=Same.new np;have s5:=s3.trans sp;have hb5:=sp _ _ hb3;have hf5:=sp _ _ hf3;have pan5:=pan3.kx (Kx.of sp);have ab5:=ab3.mono λ_ _=>NodAt.kx (Kx.of sp);have af5:=af3.mono λ_ _=>PanAt.kx (Kx.of sp);generalize upd H3 p (.tup [.int (c / w),.int (c % w)])=H5 at s5 hb5 hf5 pan5 ab5 af5 |-;generalize c / w=row at r0 r1 hr3 |-;generalize c % w=col at q0 q1 hr3 |-;obtain⟨mw0,mw1⟩:=So (r:=row) r0 (by lia) w1 w4;refine⟨_,rfl,_,_,rfl,rfl,_,rfl,_,_,rfl,rfl,col+1,w+1,rfl,⟨by lia,by lia,by lia,by lia⟩,AD (lo:=col+1) (n:=(w+1-(col+1)).toNat) (λ i σ H'=>∃(xs:LUz)(sofar:List Nd)(x9 x10 x11:Option V),σ=[some (.int w),some (.int h),some (.ref lf),some (.ref lb),some (.int t),some u,some (.int c),some (.int row),some (.int col),x9,x10,x11]/\Same H H'/\H' lb=some (.lst xs)/\H' lf=some (.lst xf)/\All2 (NodAt N H') xs (b0++sofar)/\All2 (PanAt N H') xf fo/\PanAt N H' u ps/\sofar.length<=5*i/\sofar++CU w h t row col ps ((w+1-(col+1)).toNat-i) (col+1+(i:Int))=CU w h t row col ps (w+1-(col+1)).toNat (col+1))
     ⟨xb0,[],_,_,_,rfl,s5,hb5,hf5,ab5.app,af5,pan5,aQ _,by rw[dc,eN];congr 1;lia⟩ ?_ ?_⟩
    .rintro i σ H6 hi ⟨xs,sofar,x9,x10,x11,rfl,s6,hb6,hf6,ab6,af6,pan6,sl6,tot⟩;obtain⟨k',hk'⟩:∃k',(w+1-(col+1)).toNat-i=k'+1:=⟨(w+1-(col+1)).toNat-i-1,by lia⟩;rw[hk',CU]at tot;refine⟨_,rfl,_,rfl,_,rfl,_,_,rfl,rfl,EN (by lia) (by lia) (by lia) (by lia),_,rfl,_,_,rfl,rfl,_,_,rfl,rfl,_,_,rfl,rfl,(by lia),_,_,rfl,rfl,rfl,_,rfl,B0 (λ hbit=>?_) (λ hbit=>?_)⟩
     .rw[if_pos (V.int.inj (of_decide_eq_true hbit)),aY]at tot;refine⟨m',bg _,b0++sofar,fo,xs,xf,_,_,_,_,_,_,_,_,rfl,s6,hb6,hf6,ab6,af6,?_⟩;rw[tot];exact hr3
     .rw[if_neg (λ z=>of_decide_eq_false hbit (congrArg V.int z))]at tot;refine⟨_,rfl,_,_,rfl,rfl,_,rfl,_,_,rfl,rfl,row+1,h+1,rfl,⟨by lia,by lia,by lia,by lia⟩,AD (lo:=row+1) (n:=(h+1-(row+1)).toNat) (λ j σ H'=>∃(xs:LUz)(x10 x11:Option V),σ=[some (.int w),some (.int h),some (.ref lf),some (.ref lb),some (.int t),some u,some (.int c),some (.int row),some (.int col),some (.int (col+1+(i:Int))),x10,x11]/\Same H H'/\H' lb=some (.lst xs)/\H' lf=some (.lst xf)/\All2 (NodAt N H') xs (b0++(sofar++FP w t row col (col+1+(i:Int)) ps j))/\All2 (PanAt N H') xf fo/\PanAt N H' u ps)
       ⟨xs,_,_,rfl,s6,hb6,hf6,by rw[FP,aY];exact ab6,af6,pan6⟩ ?_ ?_⟩
      .rintro j σ H7 hj ⟨xs,x10,x11,rfl,s7,hb7,hf7,ab7,af7,pan7⟩;refine⟨_,rfl,_,rfl,_,rfl,_,rfl,A1 4,λ tp ntp=>?_⟩;have Ntp:=QJ hb7 hf7 ntp;obtain⟨H8,g,s8,e8⟩:=nw (.tup [.int row,.int col,.int (row+1+(j:Int)),.int (col+1+(i:Int))]) ntp;rw[g];have e8:H8 tp=some (.tup (G3 (row,col,row+1+(j:Int),col+1+(i:Int)))):=e8;have hb8:=s8 _ _ hb7;have hf8:=s8 _ _ hf7;obtain⟨pa,xp,rfl,Npa,hpa,ap⟩:=pan7.kx (Kx.of s8);have xpl:=ap.len;refine⟨_,rfl,.inl ⟨rfl,_,SqL.of hb8⟩,_,rfl,_,rfl,_,rfl,tp,(row,col,row+1+(j:Int),col+1+(i:Int)),w,rfl,e8,⟨r0,by show row<=30;lia,q0,by show col<=30;lia,by show 0<=row+1+(j:Int);lia,by show row+1+(j:Int)<=30;lia,by show 0<=col+1+(i:Int);lia,by show col+1+(i:Int)<=30;lia⟩,w1,w4,_,_,rfl,rfl,_,rfl,_,rfl,A1 1,λ l1 nl1=>?_⟩;have s9:Same H8 (upd H8 l1 (.lst [.ref tp])):=Same.new nl1;refine⟨pa,l1,xp,_,rfl,rfl,s9 _ _ hpa,Ad,aM (Al (by rw[aX];lia)),λ l2 nl2=>⟨A1 2,λ tn2 ntn2=>?_⟩⟩;generalize upd H8 l1 (.lst [.ref tp])=H9 at s9 nl2 ntn2 |-;have hb9:=s9 _ _ hb8;have hf9:=s9 _ _ hf8;have N2:=QJ hb9 hf9 nl2;obtain⟨H10,g,s10,e10⟩:=nw (.lst (xp++[.ref tp])) nl2;rw[g] at ntn2 |-;have hb10:=s10 _ _ hb9;have hf10:=s10 _ _ hf9;have N3:=QJ hb10 hf10 ntn2;have s11:Same H10 (upd H10 tn2 (.tup [.int (Builtin.bitOr t (KS w (row,col,row+1+(j:Int),col+1+(i:Int)))),.ref l2])):=Same.new ntn2;have e11:(upd H10 tn2 (.tup [.int (Builtin.bitOr t (KS w (row,col,row+1+(j:Int),col+1+(i:Int)))),.ref l2])) tn2=some (.tup [.int (Builtin.bitOr t (KS w (row,col,row+1+(j:Int),col+1+(i:Int)))),.ref l2]):=Ad;have hb11:=s11 _ _ hb10;have hf11:=s11 _ _ hf10;have sAll:=s8.trans (s9.trans (s10.trans s11));have xsl:xs.length<=900:=by
        rw[ab7.len,av,av,HY];lia
       refine⟨lb,xs,.ref tn2,rfl,rfl,hb11,Al (by lia),xs++[.ref tn2],_,_,rfl,λ x o z=>?_,Ad,?_,?_,?_,?_⟩
       .rw[Af (Ag z hlb0)];exact sAll _ _ (s7 _ _ z)
       .rw[Af n1];exact hf11
       .rw[FP,<-aW,<-aW,aW b0];refine((ab7.mono λ_ _=>NodAt.kx (Kx.of sAll)).mono λ_ _=>NodAt.kx Dy).snoc (NodAt.kx Dy ⟨tn2,.ref l2,rfl,N3,e11,l2,xp++[.ref tp],rfl,N2,s11 _ _ e10,?_⟩);exact(ap.mono λ_ _=>TupAt.kx (Kx.of (s9.trans (s10.trans s11)))).snoc ⟨tp,rfl,Ntp,(s9.trans (s10.trans s11)) _ _ e8⟩
       .exact(af7.mono λ_ _=>PanAt.kx (Kx.of sAll)).mono λ_ _=>PanAt.kx Dy
       .exact PanAt.kx Dy ⟨pa,xp,rfl,Npa,(s9.trans (s10.trans s11)) _ _ hpa,ap.mono λ_ _=>TupAt.kx (Kx.of (s9.trans (s10.trans s11)))⟩
      .rintro σ H7 ⟨xs,x10,x11,rfl,s7,hb7,hf7,ab7,af7,pan7⟩;refine⟨xs,sofar++FP w t row col (col+1+(i:Int)) ps (h+1-(row+1)).toNat,_,_,_,rfl,s7,hb7,hf7,ab7,af7,pan7,?_,?_⟩
       .rw[av,HY];lia
       .rw[aW,<-tot];congr 2;have e1:(w+1-(col+1)).toNat-(i+1)=k':=by lia
        have e2:col+1+((i+1:Nat):Int)=col+1+(i:Int)+1:=by lia
        rw[e1,e2]
    .rintro σ H6 ⟨xs,sofar,x9,x10,x11,rfl,s6,hb6,hf6,ab6,af6,pan6,sl6,tot⟩;rw[cN,CU,aY]at tot;refine⟨m',bg _,b0++sofar,fo,xs,xf,_,_,_,_,_,_,_,_,rfl,s6,hb6,hf6,ab6,af6,?_⟩;rw[tot];exact hr3
 .rw[if_pos rfl,deq,d3]at hc;have xe:xb=[]:=by
   cases hd:decide (xb=[]) with
   |true=>exact of_decide_eq_true hd
   |false=>rw[hd]at hc;cases hc
  have be:b=[]:=by
   have:=ab.len;rw[xe]at this;exact bT.mp this.symm
  rw[be,OE]at hrun;cases hrun;exact⟨_,rfl,q lf xf H2 s2 hf2 (af2.mono λ_ _=>PanAt.any)⟩
def Mg(n:Nat)(lo hi:P4->Int)(ps:List P4)(k:Nat):Option Bool:=(Ey n (ps.filter λ p=>decide (hi p<=(k:Int)))).bind λ b=>if b=true then Ey n (ps.filter λ p=>decide (lo p>=(k:Int))) else some false
theorem Og(n:Nat)(ps:List P4):Ey (n+1) ps=if ps.length=1 then some true else match EO (λ p=>p.2.1) (λ p=>p.2.2.2) ps with
  |some k=>Mg n (λ p=>p.2.1) (λ p=>p.2.2.2) ps k
  |none=>match EO (λ p=>p.1) (λ p=>p.2.2.1) ps with
   |some k=>Mg n (λ p=>p.1) (λ p=>p.2.2.1) ps k
   |none=>some false:=rfl
theorem JO(g:P4->Int):∀{ps:List P4},(∀p∈ps,1<=g p)->(ps.map λ p:P4=>V.int (g p))=(ps.map λ p:P4=>(g p).toNat).map λ k:Nat=>V.int (k:Int)
 |[],_=>rfl
 |p::r,h=>by
  have a:=h p aD;rw[aA,aA,aA,JO g (ps:=r) λ x hx=>h x (aI _ hx),bU (by lia)]
theorem PP(xs:LUz):Ix xs none (some (-1))=xs.dropLast:=by
 by_cases e:xs=[]
 .subst e;rfl
 .rw[<-b6 e,Li,bN]
theorem Dd{ps:List P4}{c:P4->Bool}(h:ps.all okP=true):(ps.filter c).all okP=true:=by
 rw[aU]at h |-;exact λ x hx=>h x (cw.mp hx).1
inductive Nj(n:Nat)(vs:LUz)(H:Hp)(Q:VK)(E:XK):Prop
 |mk (v:V) (ps:List P4) (b:Bool) (h0:vs=[v]) (h1:PanAt (λ_=>True) H v ps) (h2:ps.all okP=true) (h3:ps.length<=20) (h4:Ey n ps=some b) (h5:∀H',Same H H'->Q (.bl b) H'):Nj n vs H Q E
def GG(n:Nat) :Sp:=λ vs H Q E=>Nj n vs H Q E
theorem UO{vs:LUz}{H:Hp}{Q:VK}{E:XK}:¬GG 0 vs H Q E:=by
 rintro⟨v,ps,b,_,_,_,_,h,_⟩;cases h
abbrev RB:LSz:=["_law_panes","_law_line","_law_first"]
theorem DG:Ak RB ["_law_panes"] (Ai Bb):=fsk
theorem Gg{f:Addr}{fd:FuncData}{n:Nat}(F:Fun K "_law_cuttable" "_law_cuttable" Bb f fd)(T:Txt mg tk)(D__law_cuttable:Ao P w K mg base (n+3) "_law_cuttable" ["_law_panes"] (GG n)):A2 P w K mg base CX0 (n+4) f fd ["_law_panes"] (GG (n+1)):=by
 have S:=DG;refine F.g S ?_;rintro vs H Q E ⟨v,ps,b,rfl,pan,ok,len,hcut,q⟩;refine⟨rfl,λ cdv A outer s hr=>?_⟩;obtain⟨a,xs,rfl,_,ha,al⟩:=pan;rw[Og]at hcut;have xl:=al.len;have szl:xs.length<=sizeLine:=aM (Al (by lia));have okB:∀p∈ps,(1<=p.2.2.1/\p.2.2.1<=4)/\1<=p.2.2.2/\p.2.2.2<=4:=λ p hp=>by
  have:=aU.mp ok p hp;unfold okP at this;simp only[aE,decide_eq_true_eq]at this;exact this
 obtain⟨v,hv⟩:∃v,v=V.ref a:=⟨_,rfl⟩;obtain⟨t2,h2,k2⟩:∃rd,PSs (Cs CX0 P w K mg base RB "_law_cuttable" (Ai Bb) f cdv A outer s H E).nox ((A5 Bb).drop 2) rd/\∀(x1 x2:Option V)(H1:Hp),Same H H1->(match EO (λ p=>p.1) (λ p=>p.2.2.1) ps with|some k=>Mg n (λ p=>p.1) (λ p=>p.2.2.1) ps k|none=>some false)=some b->rd { nx:=λ_ H'=>Q .non H',rt:=Q } [some v,x1,x2] H1:=by
  refine⟨_,(Ab (A4 PassesOwn.never rfl (A0 (D1 EB (M8 rfl rfl T.z_sorted rfl T.z_set (Bk rfl (A0 (pv 0)) (λ_ _ _ _ _=>pgk (nk ["_law_pane"])) (λ_ _ _ _ _=>(As (Bq (K:=K)) (pv 0) Ae (λ_ _=>rfl))) (N:=["_law_pane"]) (fr:=[none]))) EH (EG (Kz G2 Ae)))) (Aj (i:=1) S.nd rfl (di rfl)) (Ah (AG (Cg (BK (Av HW rfl T.z_any rfl (Aa (Bk rfl (A0 (pv 0)) (λ_ _ _ _ _=>pgk (nk ["_law_pane","_law_line"])) (λ_ _ _ _ _=>(C5 (BR Df (As (Bq (K:=K)) (pv 0) Ae (λ_ _=>rfl)) (pv 1) (Az _)) (CV (BR Df (pv 1) (As (Bq (K:=K)) (pv 0) Ae (λ_ _=>rfl)) (Az _))))) (N:=["_law_pane","_law_line"]) (fr:=[none,some 1])) Ac)))) (Ab (D0 rfl (Aj (i:=2) S.nd rfl (ar rfl)) (A0 (pv 0)) (λ_ _ _ _ _=>pgk (nk ["_law_pane","_law_line"])) (λ_ _ _ _ _=>(Aw BN (As (Bq (K:=K)) (pv 0) Ae (λ_ _=>rfl)) (pv 1) (Az _))) (λ_ _ _ _ _=>(pv 0)) (N:=["_law_pane","_law_line"]) (fr:=[none,some 1]))
  (Ah (Aq (C5 (Ap D__law_cuttable hr (Aa (pv 2) Ac) (by lia)) (CV (Ap D__law_cuttable hr (Aa (D2 rfl (A0 (pv 0)) (λ_ _ _ _ _=>pgk (nk ["_law_pane","_law_line"])) (λ_ _ _ _ _=>(Aw Pd (As (Bq (K:=K)) (pv 0) Ae (λ_ _=>rfl)) (pv 1) (Az _))) (λ_ _ _ _ _=>(pv 0)) (N:=["_law_pane","_law_line"]) (fr:=[none,some 1])) Ac) (by lia))))))) Ax)))
  (Ah (Aq FJ))),?_⟩
  intro x1 x2 H1 s1 hres;subst hv;have ha1:=s1 _ _ ha;have al1:=al.mono λ_ _=>TupAt.kx (Kx.of s1);refine⟨_,rfl,a,rfl,⟨_,SqL.of ha1⟩,λ acc na=>AN (K:=K) (a:=a) (ys:=xs) (λ i zs σ H'=>(∃y,σ=[y])/\Same H1 H'/\zs=(ps.take i).map λ p:P4=>V.int (p.2.2.1)) ⟨⟨none,rfl⟩,Same.new na,rfl⟩ (λ i zs σ H' _ _ hp=>SqL.of (hp.2.1 _ _ ha1)) ?_ ?_⟩
  .rintro i x zs σ H' hx hi hz hacc ⟨⟨y,rfl⟩,s2,rfl⟩;obtain⟨p,hp,t,rfl,_,ht⟩:=al1.get hx;exact⟨_,rfl,t,_,_,_,rfl,rfl,SqT.of (s2 _ _ ht),at2,cNx.mk szl hi hz hacc ⟨⟨_,rfl⟩,λ c o e=>by rw[Af (Ag e na)];exact s2 c o e,by rw[aK,hp,aj];rfl⟩⟩
  rintro zs σ H2 hz hacc ⟨_,s2,rfl⟩;rw[al1.len,aH]at hacc;refine⟨acc,ps.map λ p:P4=>(p.2.2.1).toNat,rfl,SqL.of (by rw[hacc,JO (λ p:P4=>p.2.2.1) λ p hp=>(okB p hp).1.1]),λ k hk=>?_,λ l3 nl3=>?_⟩
  .obtain⟨p,hp,rfl⟩:=az.mp hk;have:=(okB p hp).1;exact⟨by lia,by lia⟩
  have s3:Same H2 (upd H2 l3 (.lst ((Co (ps.map λ p:P4=>(p.2.2.1).toNat)).map λ k:Nat=>V.int (k:Int)))):=Same.new nl3;refine⟨_,rfl,_,rfl,l3,_,rfl,SqL.of Ad,λ l4 nl4=>?_⟩;rw[show(-(1:Int))=-1 from rfl,PP,<-List.map_dropLast];generalize upd H2 l3 (.lst ((Co (ps.map λ p:P4=>(p.2.2.1).toNat)).map λ k:Nat=>V.int (k:Int)))=H3 at s3 nl4 |-;obtain⟨H4,g,s4,e4⟩:=nw (.lst ((Co (ps.map λ p:P4=>(p.2.2.1).toNat)).dropLast.map λ k:Nat=>V.int (k:Int))) nl4;rw[g];have S4:=s1.trans (s2.trans (s3.trans s4));have hline:EO (λ p=>p.1) (λ p=>p.2.2.1) ps=(Co (ps.map λ p:P4=>(p.2.2.1).toNat)).dropLast.find? λ k=>!Cn (λ p=>p.1) (λ p=>p.2.2.1) ps k:=rfl;generalize (Co (ps.map λ p:P4=>(p.2.2.1).toNat)).dropLast=L at e4 hline |-;refine⟨l4,rfl,⟨_,SqL.of e4⟩,Bc (K:=K) (a:=l4) (xs:=L.map λ k:Nat=>V.int (k:Int)) (λ i σ H'=>(∃x1 x2,σ=[some (.ref a),x1,x2])/\Same H4 H'/\(L.drop i).find? (λ k=>!Cn (λ p=>p.1) (λ p=>p.2.2.1) ps k)=EO (λ p=>p.1) (λ p=>p.2.2.1) ps) ⟨⟨_,_,rfl⟩,Same.refl H4,by rw[cC,hline]⟩ (λ i σ H' _ hp=>SqL.of (hp.2.1 _ _ e4)) ?_ ?_⟩
  .rintro i x σ H5 hx ⟨⟨x1,x2,rfl⟩,s5,hfi⟩;obtain⟨k,hk,rfl⟩:∃k,L[i]?=some k/\x=.int (k:Int):=by
    rw[ay]at hx;cases e:L[i]? with
    |none=>rw[e]at hx;cases hx
    |some k=>rw[e]at hx;exact⟨k,rfl,(Option.some.inj hx).symm⟩
   rw[DL hk]at hfi;have S5:=S4.trans s5;have ha5:=S5 _ _ ha;have al5:=al.mono λ_ _=>TupAt.kx (Kx.of S5);refine⟨_,rfl,a,rfl,⟨_,SqL.of ha5⟩,λ acc5 na5=>AN (K:=K) (a:=a) (ys:=xs) (λ i zs σ H'=>(∃y,σ=[y,some (.int (k:Int))])/\Same H5 H'/\zs=(((ps.take i).map λ p:P4=>decide (p.1<(k:Int))&&decide ((k:Int)<p.2.2.1)).map V.bl)) ⟨⟨none,rfl⟩,Same.new na5,rfl⟩ (λ i zs σ H' _ _ hp=>SqL.of (hp.2.1 _ _ ha5)) ?_ ?_⟩
   .rintro i x zs σ H' hx hi hz hacc ⟨⟨y,rfl⟩,s6,rfl⟩;obtain⟨p,hp,t,rfl,_,ht⟩:=al5.get hx;have ht6:=s6 _ _ ht;have fin:∀bo:Bool,bo=(decide (p.1<(k:Int))&&decide ((k:Int)<p.2.2.1))->cNx acc5 xs.length (λ i zs σ H'=>(∃y,σ=[y,some (.int (k:Int))])/\Same H5 H'/\zs=(((ps.take i).map λ p:P4=>decide (p.1<(k:Int))&&decide ((k:Int)<p.2.2.1)).map V.bl)) i [some (.ref t),some (.int (k:Int))] (.bl bo) H':=λ bo hb =>
     cNx.mk szl hi hz hacc ⟨⟨_,rfl⟩,λ x o e=>by rw[Af (Ag e na5)];exact s6 x o e,by rw[aK,hp,aj,aj,hb];rfl⟩
    refine⟨_,rfl,t,_,_,_,rfl,rfl,SqT.of ht6,at0,_,rfl,_,_,rfl,rfl,_,rfl,B0 (λ d1=>?_) (λ d1=>fin false (by rw[d1];rfl))⟩;exact⟨_,rfl,_,rfl,t,_,_,_,rfl,rfl,SqT.of ht6,at2,_,_,rfl,rfl,fin _ (by rw[d1];rfl)⟩
   rintro zs σ H6 hz hacc ⟨_,s6,rfl⟩;rw[al1.len,aH]at hacc;have ec:(ps.map λ p:P4=>decide (p.1<(k:Int))&&decide ((k:Int)<p.2.2.1)).any id=Cn (λ p=>p.1) (λ p=>p.2.2.1) ps k:=by
    unfold Cn;rw[da];rfl
   refine⟨acc5,_,rfl,SqL.of hacc,rfl,_,rfl,?_⟩;rw[ec];rw[bu]at hfi;have S6:=S5.trans s6;have ha6:=S6 _ _ ha;have al6:=al.mono λ_ _=>TupAt.kx (Kx.of S6);cases hcr:Cn (λ p=>p.1) (λ p=>p.2.2.1) ps k with
   |true =>
    rw[hcr]at hfi;exact Bm rfl ⟨⟨_,_,rfl⟩,s5.trans s6,hfi⟩
   |false =>
    rw[hcr]at hfi;refine Cq rfl ?_;have hres:=hres;rw[<-hfi]at hres;have hres:Mg n (λ p=>p.1) (λ p=>p.2.2.1) ps k=some b:=hres;unfold Mg at hres;refine⟨_,rfl,a,rfl,⟨_,SqL.of ha6⟩,λ acc7 na7=>B8 (K:=K) (a:=a) (ys:=xs) (λ i zs σ H'=>(∃y,σ=[y,some (.int (k:Int))])/\Same H6 H'/\All2 (TupAt (λ_=>True) H6) zs ((ps.take i).filter λ p=>decide (p.2.2.1<=(k:Int)))) ⟨⟨none,rfl⟩,Same.new na7,trivial⟩ (λ i zs σ H' _ _ hp=>SqL.of (hp.2.1 _ _ ha6)) ?_ ?_⟩
    .rintro i x zs σ H' hx hi hz hacc ⟨⟨y,rfl⟩,s7,alz⟩;obtain⟨p,hp,tp⟩:=al6.get hx;obtain⟨t,rfl,_,ht⟩:=id tp;refine⟨_,rfl,t,_,_,_,rfl,rfl,SqT.of (s7 _ _ ht),at2,_,rfl,_,_,rfl,rfl,_,rfl,?_⟩;cases hd:decide (p.2.2.1<=(k:Int)) with
     |true=>exact⟨_,rfl,fNx.mk szl hi hz hacc ⟨⟨_,rfl⟩,λ x o e=>by rw[Af (Ag e na7)];exact s7 x o e,by rw[aK,hp,ba];simp only[bY,bC,bK,hd,if_true];exact alz.snoc tp⟩⟩
     |false=>exact fSk.mk hi hz hacc ⟨⟨_,rfl⟩,s7,by rw[aK,hp,ba];simp only[bY,bC,bK,hd];exact alz.app⟩
    rintro zs σ H7 hz7 hacc7 ⟨_,s7,al7⟩;rw[al1.len,aH]at al7;cases hA:Ey n (ps.filter λ p=>decide (p.2.2.1<=(k:Int))) with
    |none=>rw[hA]at hres;cases hres
    |some bA =>
    rw[hA]at hres;have S7:=S6.trans s7;have ha7:=S7 _ _ ha;have al7':=al.mono λ_ _=>TupAt.kx (Kx.of S7);refine⟨_,rfl,.ref acc7,_,bA,rfl,⟨acc7,zs,rfl,trivial,hacc7,al7.mono λ_ _=>TupAt.kx (Kx.of s7)⟩,Dd ok,aR (br _ _) len,hA,λ H8 s8=>⟨_,rfl,?_⟩⟩;have hres:(if bA=true then Ey n (ps.filter λ p=>decide (p.1>=(k:Int))) else some false)=some b:=hres;cases bA with
    |false =>
     rw[if_neg ao]at hres;cases hres;exact Bm rfl (q _ (S7.trans s8))
    |true =>
     rw[if_pos rfl]at hres;refine Cq rfl ?_;have S8:=S7.trans s8;have ha8:=S8 _ _ ha;have al8:=al.mono λ_ _=>TupAt.kx (Kx.of S8);refine⟨_,rfl,a,rfl,⟨_,SqL.of ha8⟩,λ acc9 na9=>B8 (K:=K) (a:=a) (ys:=xs) (λ i zs σ H'=>(∃y,σ=[y,some (.int (k:Int))])/\Same H8 H'/\All2 (TupAt (λ_=>True) H8) zs ((ps.take i).filter λ p=>decide (p.1>=(k:Int)))) ⟨⟨none,rfl⟩,Same.new na9,trivial⟩ (λ i zs σ H' _ _ hp=>SqL.of (hp.2.1 _ _ ha8)) ?_ ?_⟩
     .rintro i x zs σ H' hx hi hz hacc ⟨⟨y,rfl⟩,s9,alz⟩;obtain⟨p,hp,tp⟩:=al8.get hx;obtain⟨t,rfl,_,ht⟩:=id tp;refine⟨_,rfl,t,_,_,_,rfl,rfl,SqT.of (s9 _ _ ht),at0,_,rfl,_,_,rfl,rfl,_,rfl,?_⟩;cases hd:decide (p.1>=(k:Int)) with
      |true=>exact⟨_,rfl,fNx.mk szl hi hz hacc ⟨⟨_,rfl⟩,λ x o e=>by rw[Af (Ag e na9)];exact s9 x o e,by rw[aK,hp,ba];simp only[bY,bC,bK,hd,if_true];exact alz.snoc tp⟩⟩
      |false=>exact fSk.mk hi hz hacc ⟨⟨_,rfl⟩,s9,by rw[aK,hp,ba];simp only[bY,bC,bK,hd];exact alz.app⟩
     rintro zs9 σ H9 hz9 hacc9 ⟨_,s9,al9⟩;rw[al1.len,aH]at al9;exact⟨.ref acc9,_,b,rfl,⟨acc9,zs9,rfl,trivial,hacc9,al9.mono λ_ _=>TupAt.kx (Kx.of s9)⟩,Dd ok,aR (br _ _) len,hres,λ H10 s10=>q _ (S8.trans (s9.trans s10))⟩
  .rintro σ H5 ⟨⟨x1,x2,rfl⟩,s5,hfi⟩;rw[aa,bD,List.find?_nil]at hfi;rw[<-hfi]at hres;have S5:=S4.trans s5;cases hres;exact q _ S5
 refine⟨_,(Ab (AG (Aw Ck (Av AS rfl T.z_len rfl (Aa (pv 0) Ac)) Ae (Az _)) (Ah (Aq FJ)) Ax)
  (Ab (A4 PassesOwn.never rfl (A0 (D1 EB (M8 rfl rfl T.z_sorted rfl T.z_set (Bk rfl (A0 (pv 0)) (λ_ _ _ _ _=>pgk (nk ["_law_pane"])) (λ_ _ _ _ _=>(As (Bq (K:=K)) (pv 0) Ae (λ_ _=>rfl))) (N:=["_law_pane"]) (fr:=[none]))) EH (EG (Kz G2 Ae)))) (Aj (i:=1) S.nd rfl (di rfl)) (Ah (AG (Cg (BK (Av HW rfl T.z_any rfl (Aa (Bk rfl (A0 (pv 0)) (λ_ _ _ _ _=>pgk (nk ["_law_pane","_law_line"])) (λ_ _ _ _ _=>(C5 (BR Df (As (Bq (K:=K)) (pv 0) Ae (λ_ _=>rfl)) (pv 1) (Az _)) (CV (BR Df (pv 1) (As (Bq (K:=K)) (pv 0) Ae (λ_ _=>rfl)) (Az _))))) (N:=["_law_pane","_law_line"]) (fr:=[none,some 1])) Ac)))) (Ab (D0 rfl (Aj (i:=2) S.nd rfl (ar rfl)) (A0 (pv 0)) (λ_ _ _ _ _=>pgk (nk ["_law_pane","_law_line"])) (λ_ _ _ _ _=>(Aw BN (As (Bq (K:=K)) (pv 0) Ae (λ_ _=>rfl)) (pv 1) (Az _))) (λ_ _ _ _ _=>(pv 0)) (N:=["_law_pane","_law_line"]) (fr:=[none,some 1]))
  (Ah (Aq (C5 (Ap D__law_cuttable hr (Aa (pv 2) Ac) (by lia)) (CV (Ap D__law_cuttable hr (Aa (D2 rfl (A0 (pv 0)) (λ_ _ _ _ _=>pgk (nk ["_law_pane","_law_line"])) (λ_ _ _ _ _=>(Aw Pd (As (Bq (K:=K)) (pv 0) Ae (λ_ _=>rfl)) (pv 1) (Az _))) (λ_ _ _ _ _=>(pv 0)) (N:=["_law_pane","_law_line"]) (fr:=[none,some 1])) Ac) (by lia))))))) Ax)))
  h2)),?_⟩
 subst hv;have s1:Same H H:=Same.refl H;refine⟨_,rfl,a,_,rfl,.inl (SqL.of ha),rfl,_,rfl,B0 (λ e1=>?_) (λ e1=>?_)⟩
 .rw[if_pos (by have:=V.int.inj (of_decide_eq_true e1);lia)]at hcut;cases hcut;exact q _ s1
 .rw[if_neg (λ z=>of_decide_eq_false e1 (by rw[xl,z];rfl))]at hcut;have hres:=hcut;have ha1:=ha;have al1:=al;refine⟨_,rfl,a,rfl,⟨_,SqL.of ha1⟩,λ acc na=>AN (K:=K) (a:=a) (ys:=xs) (λ i zs σ H'=>(∃y,σ=[y])/\Same H H'/\zs=(ps.take i).map λ p:P4=>V.int (p.2.2.2)) ⟨⟨none,rfl⟩,Same.new na,rfl⟩ (λ i zs σ H' _ _ hp=>SqL.of (hp.2.1 _ _ ha1)) ?_ ?_⟩
  .rintro i x zs σ H' hx hi hz hacc ⟨⟨y,rfl⟩,s2,rfl⟩;obtain⟨p,hp,t,rfl,_,ht⟩:=al1.get hx;exact⟨_,rfl,t,_,_,_,rfl,rfl,SqT.of (s2 _ _ ht),at3,cNx.mk szl hi hz hacc ⟨⟨_,rfl⟩,λ c o e=>by rw[Af (Ag e na)];exact s2 c o e,by rw[aK,hp,aj];rfl⟩⟩
  rintro zs σ H2 hz hacc ⟨_,s2,rfl⟩;rw[al1.len,aH]at hacc;refine⟨acc,ps.map λ p:P4=>(p.2.2.2).toNat,rfl,SqL.of (by rw[hacc,JO (λ p:P4=>p.2.2.2) λ p hp=>(okB p hp).2.1]),λ k hk=>?_,λ l3 nl3=>?_⟩
  .obtain⟨p,hp,rfl⟩:=az.mp hk;have:=(okB p hp).2;exact⟨by lia,by lia⟩
  have s3:Same H2 (upd H2 l3 (.lst ((Co (ps.map λ p:P4=>(p.2.2.2).toNat)).map λ k:Nat=>V.int (k:Int)))):=Same.new nl3;refine⟨_,rfl,_,rfl,l3,_,rfl,SqL.of Ad,λ l4 nl4=>?_⟩;rw[show(-(1:Int))=-1 from rfl,PP,<-List.map_dropLast];generalize upd H2 l3 (.lst ((Co (ps.map λ p:P4=>(p.2.2.2).toNat)).map λ k:Nat=>V.int (k:Int)))=H3 at s3 nl4 |-;obtain⟨H4,g,s4,e4⟩:=nw (.lst ((Co (ps.map λ p:P4=>(p.2.2.2).toNat)).dropLast.map λ k:Nat=>V.int (k:Int))) nl4;rw[g];have S4:=s1.trans (s2.trans (s3.trans s4));have hline:EO (λ p=>p.2.1) (λ p=>p.2.2.2) ps=(Co (ps.map λ p:P4=>(p.2.2.2).toNat)).dropLast.find? λ k=>!Cn (λ p=>p.2.1) (λ p=>p.2.2.2) ps k:=rfl;generalize (Co (ps.map λ p:P4=>(p.2.2.2).toNat)).dropLast=L at e4 hline |-;refine⟨l4,rfl,⟨_,SqL.of e4⟩,Bc (K:=K) (a:=l4) (xs:=L.map λ k:Nat=>V.int (k:Int)) (λ i σ H'=>(∃x1 x2,σ=[some (.ref a),x1,x2])/\Same H4 H'/\(L.drop i).find? (λ k=>!Cn (λ p=>p.2.1) (λ p=>p.2.2.2) ps k)=EO (λ p=>p.2.1) (λ p=>p.2.2.2) ps) ⟨⟨_,_,rfl⟩,Same.refl H4,by rw[cC,hline]⟩ (λ i σ H' _ hp=>SqL.of (hp.2.1 _ _ e4)) ?_ ?_⟩
  .rintro i x σ H5 hx ⟨⟨x1,x2,rfl⟩,s5,hfi⟩;obtain⟨k,hk,rfl⟩:∃k,L[i]?=some k/\x=.int (k:Int):=by
    rw[ay]at hx;cases e:L[i]? with
    |none=>rw[e]at hx;cases hx
    |some k=>rw[e]at hx;exact⟨k,rfl,(Option.some.inj hx).symm⟩
   rw[DL hk]at hfi;have S5:=S4.trans s5;have ha5:=S5 _ _ ha;have al5:=al.mono λ_ _=>TupAt.kx (Kx.of S5);refine⟨_,rfl,a,rfl,⟨_,SqL.of ha5⟩,λ acc5 na5=>AN (K:=K) (a:=a) (ys:=xs) (λ i zs σ H'=>(∃y,σ=[y,some (.int (k:Int))])/\Same H5 H'/\zs=(((ps.take i).map λ p:P4=>decide (p.2.1<(k:Int))&&decide ((k:Int)<p.2.2.2)).map V.bl)) ⟨⟨none,rfl⟩,Same.new na5,rfl⟩ (λ i zs σ H' _ _ hp=>SqL.of (hp.2.1 _ _ ha5)) ?_ ?_⟩
   .rintro i x zs σ H' hx hi hz hacc ⟨⟨y,rfl⟩,s6,rfl⟩;obtain⟨p,hp,t,rfl,_,ht⟩:=al5.get hx;have ht6:=s6 _ _ ht;have fin:∀bo:Bool,bo=(decide (p.2.1<(k:Int))&&decide ((k:Int)<p.2.2.2))->cNx acc5 xs.length (λ i zs σ H'=>(∃y,σ=[y,some (.int (k:Int))])/\Same H5 H'/\zs=(((ps.take i).map λ p:P4=>decide (p.2.1<(k:Int))&&decide ((k:Int)<p.2.2.2)).map V.bl)) i [some (.ref t),some (.int (k:Int))] (.bl bo) H':=λ bo hb =>
     cNx.mk szl hi hz hacc ⟨⟨_,rfl⟩,λ x o e=>by rw[Af (Ag e na5)];exact s6 x o e,by rw[aK,hp,aj,aj,hb];rfl⟩
    refine⟨_,rfl,t,_,_,_,rfl,rfl,SqT.of ht6,at1,_,rfl,_,_,rfl,rfl,_,rfl,B0 (λ d1=>?_) (λ d1=>fin false (by rw[d1];rfl))⟩;exact⟨_,rfl,_,rfl,t,_,_,_,rfl,rfl,SqT.of ht6,at3,_,_,rfl,rfl,fin _ (by rw[d1];rfl)⟩
   rintro zs σ H6 hz hacc ⟨_,s6,rfl⟩;rw[al1.len,aH]at hacc;have ec:(ps.map λ p:P4=>decide (p.2.1<(k:Int))&&decide ((k:Int)<p.2.2.2)).any id=Cn (λ p=>p.2.1) (λ p=>p.2.2.2) ps k:=by
    unfold Cn;rw[da];rfl
   refine⟨acc5,_,rfl,SqL.of hacc,rfl,_,rfl,?_⟩;rw[ec];rw[bu]at hfi;have S6:=S5.trans s6;have ha6:=S6 _ _ ha;have al6:=al.mono λ_ _=>TupAt.kx (Kx.of S6);cases hcr:Cn (λ p=>p.2.1) (λ p=>p.2.2.2) ps k with
   |true =>
    rw[hcr]at hfi;exact Bm rfl ⟨⟨_,_,rfl⟩,s5.trans s6,hfi⟩
   |false =>
    rw[hcr]at hfi;refine Cq rfl ?_;have hres:=hres;rw[<-hfi]at hres;have hres:Mg n (λ p=>p.2.1) (λ p=>p.2.2.2) ps k=some b:=hres;unfold Mg at hres;refine⟨_,rfl,a,rfl,⟨_,SqL.of ha6⟩,λ acc7 na7=>B8 (K:=K) (a:=a) (ys:=xs) (λ i zs σ H'=>(∃y,σ=[y,some (.int (k:Int))])/\Same H6 H'/\All2 (TupAt (λ_=>True) H6) zs ((ps.take i).filter λ p=>decide (p.2.2.2<=(k:Int)))) ⟨⟨none,rfl⟩,Same.new na7,trivial⟩ (λ i zs σ H' _ _ hp=>SqL.of (hp.2.1 _ _ ha6)) ?_ ?_⟩
    .rintro i x zs σ H' hx hi hz hacc ⟨⟨y,rfl⟩,s7,alz⟩;obtain⟨p,hp,tp⟩:=al6.get hx;obtain⟨t,rfl,_,ht⟩:=id tp;refine⟨_,rfl,t,_,_,_,rfl,rfl,SqT.of (s7 _ _ ht),at3,_,rfl,_,_,rfl,rfl,_,rfl,?_⟩;cases hd:decide (p.2.2.2<=(k:Int)) with
     |true=>exact⟨_,rfl,fNx.mk szl hi hz hacc ⟨⟨_,rfl⟩,λ x o e=>by rw[Af (Ag e na7)];exact s7 x o e,by rw[aK,hp,ba];simp only[bY,bC,bK,hd,if_true];exact alz.snoc tp⟩⟩
     |false=>exact fSk.mk hi hz hacc ⟨⟨_,rfl⟩,s7,by rw[aK,hp,ba];simp only[bY,bC,bK,hd];exact alz.app⟩
    rintro zs σ H7 hz7 hacc7 ⟨_,s7,al7⟩;rw[al1.len,aH]at al7;cases hA:Ey n (ps.filter λ p=>decide (p.2.2.2<=(k:Int))) with
    |none=>rw[hA]at hres;cases hres
    |some bA =>
    rw[hA]at hres;have S7:=S6.trans s7;have ha7:=S7 _ _ ha;have al7':=al.mono λ_ _=>TupAt.kx (Kx.of S7);refine⟨_,rfl,.ref acc7,_,bA,rfl,⟨acc7,zs,rfl,trivial,hacc7,al7.mono λ_ _=>TupAt.kx (Kx.of s7)⟩,Dd ok,aR (br _ _) len,hA,λ H8 s8=>⟨_,rfl,?_⟩⟩;have hres:(if bA=true then Ey n (ps.filter λ p=>decide (p.2.1>=(k:Int))) else some false)=some b:=hres;cases bA with
    |false =>
     rw[if_neg ao]at hres;cases hres;exact Bm rfl (q _ (S7.trans s8))
    |true =>
     rw[if_pos rfl]at hres;refine Cq rfl ?_;have S8:=S7.trans s8;have ha8:=S8 _ _ ha;have al8:=al.mono λ_ _=>TupAt.kx (Kx.of S8);refine⟨_,rfl,a,rfl,⟨_,SqL.of ha8⟩,λ acc9 na9=>B8 (K:=K) (a:=a) (ys:=xs) (λ i zs σ H'=>(∃y,σ=[y,some (.int (k:Int))])/\Same H8 H'/\All2 (TupAt (λ_=>True) H8) zs ((ps.take i).filter λ p=>decide (p.2.1>=(k:Int)))) ⟨⟨none,rfl⟩,Same.new na9,trivial⟩ (λ i zs σ H' _ _ hp=>SqL.of (hp.2.1 _ _ ha8)) ?_ ?_⟩
     .rintro i x zs σ H' hx hi hz hacc ⟨⟨y,rfl⟩,s9,alz⟩;obtain⟨p,hp,tp⟩:=al8.get hx;obtain⟨t,rfl,_,ht⟩:=id tp;refine⟨_,rfl,t,_,_,_,rfl,rfl,SqT.of (s9 _ _ ht),at1,_,rfl,_,_,rfl,rfl,_,rfl,?_⟩;cases hd:decide (p.2.1>=(k:Int)) with
      |true=>exact⟨_,rfl,fNx.mk szl hi hz hacc ⟨⟨_,rfl⟩,λ x o e=>by rw[Af (Ag e na9)];exact s9 x o e,by rw[aK,hp,ba];simp only[bY,bC,bK,hd,if_true];exact alz.snoc tp⟩⟩
      |false=>exact fSk.mk hi hz hacc ⟨⟨_,rfl⟩,s9,by rw[aK,hp,ba];simp only[bY,bC,bK,hd];exact alz.app⟩
     rintro zs9 σ H9 hz9 hacc9 ⟨_,s9,al9⟩;rw[al1.len,aH]at al9;exact⟨.ref acc9,_,b,rfl,⟨acc9,zs9,rfl,trivial,hacc9,al9.mono λ_ _=>TupAt.kx (Kx.of s9)⟩,Dd ok,aR (br _ _) len,hres,λ H10 s10=>q _ (S8.trans (s9.trans s10))⟩
  .rintro σ H5 ⟨⟨x1,x2,rfl⟩,s5,hfi⟩;rw[aa,bD,List.find?_nil]at hfi;rw[<-hfi]at hres;have S5:=S4.trans s5;exact k2 _ _ _ S5 hres
abbrev BL:=List (Int×Int)
def kvB(d:BL):List (Key×V):=d.map λ p=>(Sum.inl p.1,V.int p.2)
def Dy(d:BL)(k v:Int):BL:=if d.any (λ p=>decide (p.1=k)) then d.map (λ p=>if p.1=k then (p.1,v) else p) else d++[(k,v)]
def F1(d:BL)(k:Int):Option Int:=(d.find? λ p=>decide (p.1=k)).map (·.2)
def BS(n:Int):Int:=1*2^(n-1).toNat-1
def A6(lines:Int):Nat->List Int
 |0=>[1]
 |k+1=>if Builtin.bitAnd lines (1*2^k)=0 then (A6 lines k).set ((A6 lines k).length-1) (((A6 lines k).getLast?).getD 0+1) else A6 lines k++[1]
def Db(a:Int×Int)(f:BL)(b:Int×Int):BL:=Dy f (Builtin.bitAnd a.1 b.1) ((F1 f (Builtin.bitAnd a.1 b.1)).getD 0+a.2*b.2)
def By(bs:BL)(f:BL)(a:Int×Int):BL:=bs.foldl (Db a) f
def MK(as bs:BL):BL:=as.foldl (By bs) []
def AJ(d:BL)(lines:Int):Int:=((d.filter λ p=>decide (Builtin.bitAnd p.1 lines=0)).map (·.2)).sum
theorem Sr(d:BL)(k:Int):((kvB d).any λ kv=>decide (kv.1=(Sum.inl k:Key)))=d.any (λ p=>decide (p.1=k)):=by
 unfold kvB;rw[da];refine congrArg (λ g=>d.any g) (funext λ p=>?_);show decide ((Sum.inl p.1:Key)=Sum.inl k)=_;exact decide_eq_decide.mpr ⟨λ h=>Sum.inl.inj h,λ h=>by rw[h]⟩
theorem Pt(d:BL)(k v:Int):Cp (kvB d) (Sum.inl k) (.int v)=kvB (Dy d k v):=by
 unfold Cp Dy;rw[Sr];split
 .unfold kvB;rw[aJ,aJ];refine du λ p _=>?_;show(if (Sum.inl p.1:Key)=Sum.inl k then _ else _)=_;by_cases h:p.1=k
  .rw[if_pos (by rw[h])];show _=((Sum.inl (if p.1=k then (p.1,v) else p).1:Key),V.int (if p.1=k then (p.1,v) else p).2);rw[if_pos h]
  .rw[if_neg (λ z=>h (Sum.inl.inj z))];show _=((Sum.inl (if p.1=k then (p.1,v) else p).1:Key),V.int (if p.1=k then (p.1,v) else p).2);rw[if_neg h]
 .unfold kvB;rw[aj];rfl
theorem Ps(d:BL)(k:Int):AV (kvB d) (Sum.inl k)=(F1 d k).map V.int:=by
 unfold AV F1 kvB
 induction d with
 |nil=>rfl
 |cons p r ih =>
  rw[aA,bu,bu];by_cases h:p.1=k
  .rw[decide_eq_true (show(Sum.inl p.1:Key)=Sum.inl k by rw[h]),decide_eq_true h];rfl
  .rw[decide_eq_false (show ¬(Sum.inl p.1:Key)=Sum.inl k from λ z=>h (Sum.inl.inj z)),decide_eq_false h];exact ih
theorem M3(d:BL)(k v:Int):(Dy d k v).length<=d.length+1:=by
 unfold Dy;split
 .rw[aa];exact bI _
 .rw[av];exact ah _
theorem Mv(bs f:BL)(a:Int×Int):(By bs f a).length<=f.length+bs.length:=by
 unfold By
 induction bs generalizing f with
 |nil=>exact ah _
 |cons b r ih =>
  have h1:=ih (Db a f b);have h2:(Db a f b).length<=f.length+1:=M3 _ _ _;rw[dR,aN];lia
theorem MG{d:BL}{i:Nat}{p:Key×V}(h:(kvB d)[i]?=some p):∃q,d[i]?=some q/\p=(Sum.inl q.1,V.int q.2):=by
 unfold kvB at h;rw[ay]at h;obtain⟨q,hq,e⟩:=aZ.mp h;exact⟨q,hq,e.symm⟩
theorem CY(d:BL):(kvB d).length=d.length:=aa _
inductive Ly(vs:LUz)(H:Hp)(Q:VK)(E:XK):Prop
 |mk (n:Int) (h0:vs=[.int n]) (h1:1<=n) (h2:n<=4) (h3:Q (.int (BS n)) H):Ly vs H Q E
def EA:Sp:=λ vs H Q E=>Ly vs H Q E
inductive Jk(vs:LUz)(H:Hp)(Q:VK)(E:XK):Prop
 |mk (lines len:Int) (h0:vs=[.int lines,.int len]) (h1:1<=len) (h2:len<=4) (h3:∀l H',Same H H'->H l=none->H' l=some (.lst ((A6 lines (len-1).toNat).map V.int))->Q (.ref l) H'):Jk vs H Q E
def CC:Sp:=λ vs H Q E=>Jk vs H Q E
inductive Ij(vs:LUz)(H:Hp)(Q:VK)(E:XK):Prop
 |mk (a b:Addr) (as bs:BL) (h0:vs=[.ref a,.ref b]) (h1:H a=some (.dK (kvB as))) (h2:H b=some (.dK (kvB bs))) (h3:a≠b) (h4:as.length<=8) (h5:bs.length<=8) (h6:(∀p∈bs,0<=p.2/\p.2<=1000000000)) (h7:∀l H',Same H H'->H l=none->H' l=some (.dK (kvB (MK as bs)))->Q (.ref l) H'):Ij vs H Q E
def IG:Sp:=λ vs H Q E=>Ij vs H Q E
inductive FS(vs:LUz)(H:Hp)(Q:VK)(E:XK):Prop
 |mk (a:Addr) (as:BL) (lines:Int) (h0:vs=[.ref a,.int lines]) (h1:H a=some (.dK (kvB as))) (h2:as.length<=100) (h3:∀H',Same H H'->Q (.int (AJ as lines)) H'):FS vs H Q E
def BX:Sp:=λ vs H Q E=>FS vs H Q E
theorem JI{f:Addr}{fd:FuncData}(F:Fun K "all_lines" "all_lines" Dw f fd):A2 P w K mg base CX0 1 f fd ["length"] EA:=by
 have S:Ak ["length"] ["length"] (Ai Dw):=fsk;refine F.g S ?_;rintro vs H Q E ⟨n,rfl,n1,n4,q⟩;refine⟨rfl,λ cdv A outer s hr=>?_⟩;refine⟨_,(Ah (Aq (An C6 (An JB Ae (An C6 (pv 0) Ae)) Ae))),?_⟩;exact⟨_,rfl,_,_,rfl,rfl,_,_,rfl,rfl,⟨by lia,by lia,by decide⟩,_,_,rfl,rfl,q⟩
theorem IL(lines:Int):∀k,1<=(A6 lines k).length/\(A6 lines k).length<=k+1
 |0=>⟨ah 1,ah 1⟩
 |k+1=>by
  have h:=IL lines k;rw[A6];split
  .rw[List.length_set];lia
  .rw[av];show 1<=(A6 lines k).length+1/\(A6 lines k).length+1<=_;lia
abbrev Rq:LSz:=["lines","length","parts","line"]
theorem Fq{f:Addr}{fd:FuncData}(F:Fun K "parts_between" "parts_between" BF f fd)(T:Txt mg tk):A2 P w K mg base CX0 1 f fd ["lines","length"] CC:=by
 have S:Ak Rq ["lines","length"] (Ai BF):=fsk;refine F.g S ?_;rintro vs H Q E ⟨lines,len,rfl,l1,l4,q⟩;refine⟨rfl,λ cdv A outer s hr=>?_⟩;refine⟨_,(Ab (Am (i:=2) S.nd rfl (ar rfl) (AY (Aa Ae Ac)))
  (Ab (A4 PassesOwn.never rfl (AH rfl T.z_range (Aa Ae (Aa (pv 1) Ac))) (Aj (i:=3) S.nd rfl (ar rfl)) (Ah (AG (EE (An D5 (pv 0) (An JB Ae (An C6 (pv 3) Ae))) (λ_=>rfl)) (Ah (AQ (CW (pv 2) (Aa Ae Ac)))) (Ah (Q9 (pv 2) (Kz G2 Ae) P6 Ae Da OC)))))
  (Ah (Aq (pv 2))))),?_⟩
 refine⟨A1 1,λ l nl=>?_⟩;refine nv nl λ H0 s0 e0=>?_;refine⟨_,rfl,1,len,rfl,⟨by lia,by lia,by lia,by lia⟩,AD (lo:=1) (n:=(len-1).toNat) (λ i σ H'=>(∃y,σ=[some (.int lines),some (.int len),some (.ref l),y])/\Same H H'/\H' l=some (.lst ((A6 lines i).map V.int))) ⟨⟨_,rfl⟩,s0,e0⟩ ?_ ?_⟩
 .rintro i σ H1 hi ⟨⟨y,rfl⟩,s1,h1⟩;obtain⟨pl,pu⟩:=IL lines i;refine⟨_,rfl,_,rfl,_,_,rfl,rfl,_,_,rfl,rfl,⟨by lia,by lia,by decide⟩,_,_,rfl,rfl,_,rfl,?_⟩;have ei:(1+(i:Int)-1).toNat=i:=by lia
  refine B0 (λ c=>?_) (λ c=>?_)
  .have c:¬Builtin.bitAnd lines (1*2^i)=0:=λ z=>by rw[ei,z]at c;cases c
   refine⟨_,rfl,.inl ⟨rfl,_,SqL.of h1⟩,l,_,_,rfl,rfl,h1,Al (by rw[aa];lia),⟨_,rfl⟩,λ y o e=>by rw[Af (Ag e nl)];exact s1 _ _ e,?_⟩;rw[A6,if_neg c,aj,Ad];rfl
  .have c:Builtin.bitAnd lines (1*2^i)=0:=by
    rw[ei]at c;exact(bne_eq_false_iff_eq).mp c
   obtain⟨z,hz⟩:∃z,(A6 lines i).getLast?=some z:=⟨_,List.getLast?_eq_some_getLast (λ z=>by rw[z]at pl;cases pl)⟩;refine⟨_,rfl,_,rfl,l,_,_,rfl,rfl,SqL.of h1,by rw[List.getLast?_map,hz];rfl,_,_,rfl,rfl,l,_,-1,(A6 lines i).length-1,rfl,rfl,h1,?_,⟨_,rfl⟩,λ y o e=>by rw[Af (Ag e nl)];exact s1 _ _ e,?_⟩
   .rw[aa];unfold ixN;rw[if_neg (by decide),if_pos (by lia)];exact congrArg some (by lia)
   .rw[A6,if_pos c,hz,Ad,List.map_set];rfl
 .rintro σ H1 ⟨⟨y,rfl⟩,s1,h1⟩;exact⟨_,rfl,q l H1 s1 nl h1⟩
abbrev Ul:LSz:=["by_lines","strips_by_lines","found","lines","many","more","times","both"]
theorem UB{a b:Int}(h0:0<=b)(h1:b<=1000000000):IntMulOk a b:=IntMulOk.of_right (by
 unfold Builtin.Int.intBits;split
 .exact aQ _
 .have:b.natAbs.log2<30:=(Nat.log2_lt (by intro z;simp_all)).mpr (by lia);lia)
theorem Hz{a:Addr}{ob:PySem.Obj}{d:BL}{g:TG}{tb:TS}{D:Dj}{σ:St}{H:Hp}(Pv:Nat->St->Hp->Prop)(h0:Pv 0 σ H)(hl:∀i σ H,i<=d.length->Pv i σ H->H a=some (.frz ob (.dK (kvB d))))
  (hs:∀i (p:Int×Int) σ H t,d[i]?=some p->Pv i σ H->H t=none->g (.ref t) σ (upd H t (.tup [.int p.1,.int p.2])) λ σ2 H2=>tb { D with nx:=Pv (i+1),ct:=Pv (i+1),bk:=D.nx } σ2 H2) (hd:∀σ H,Pv d.length σ H->D.nx σ H) :
  ∃W:Nat->Nat->St->Hp->Prop,(∃m,W 0 m σ H)/\∀i m σ H,W i m σ H ->
   ((Itm a ob).stop i H/\D.nx σ H)\/((Itm a ob).go i H/\∃N:St->Hp->Prop,(∀σ' H',N σ' H'->∃m',m'<m/\W (i+1) m' σ' H')/\∀x H',(Itm a ob).yld i H x H'->g x σ H' λ σ2 H2=>tb { D with nx:=N,ct:=N,bk:=D.nx } σ2 H2):=by
 refine Oa (kvs:=kvB d) Pv h0 (λ i σ H h=>hl i σ H (by rw[CY]at h;exact h)) (λ i p σ H t hp pv nt=>?_) (λ σ H pv=>hd σ H (by rw[CY]at pv;exact pv));obtain⟨q,hq,rfl⟩:=MG hp;exact hs i q σ H t hq pv nt
theorem MT(bs:BL):∀(as:BL)(f:BL),(as.foldl (By bs) f).length<=f.length+as.length*bs.length
 |[],f=>by simp
 |a::r,f=>by
  have h1:=MT bs r (By bs f a);have h2:=Mv bs f a;rw[dR,aN,eM];lia
theorem JG{f:Addr}{fd:FuncData}(F:Fun K "in_common" "in_common" Du f fd):A2 P w K mg base CX0 1 f fd ["by_lines","strips_by_lines"] IG:=by
 have S:Ak Ul ["by_lines","strips_by_lines"] (Ai Du):=fsk;refine F.g S ?_;rintro vs H Q E ⟨a,b,as,bs,rfl,ha,hb,nab,la,lb,sm,q⟩;refine⟨rfl,λ cdv A outer s hr=>?_⟩;have hu:=D8 hr;refine⟨_,(Ab (Am (i:=2) S.nd rfl (ar rfl) OS)
  (Ab (A4 PassesOwn.never rfl (GS (pv 0)) (B4 rfl (Au (Aj (i:=3) S.nd rfl (ar rfl)) (Au (Aj (i:=4) S.nd rfl (ar rfl)) AU))) (Ah (A4 PassesOwn.never rfl (GS (K0 (pv 1))) (B4 rfl (Au (Aj (i:=5) S.nd rfl (ar rfl)) (Au (Aj (i:=6) S.nd rfl (ar rfl)) AU))) (Ab (Am (i:=7) S.nd rfl (ar rfl) (An D5 (pv 3) (pv 5)))
  (Ah (EF hu (pv 2) (pv 7) (An A7 (OT hu (pv 2) (pv 7) Ae ⟨rfl,rfl,rfl,rfl⟩) (An Bo (pv 4) (pv 6))) rfl))))))
  (Ah (Aq (K0 (M7 (pv 2))))))),?_⟩
 refine λ l nl=>?_;refine nv nl λ H0 s0 e0=>?_;have al:a≠l:=Ag ha nl;have bl:b≠l:=Ag hb nl;refine⟨_,rfl,a,_,rfl,s0 _ _ ha,λ oa=>?_⟩;have keep:∀{G:Hp},(∀x o,x≠a->x≠b->H x=some o->G x=some o)->True:=λ_=>trivial;have nfz:∀o w,H b≠some (.frz o w):=λ o w z=>by rw[hb]at z;cases z
 refine Hz (a:=a) (ob:=oa) (d:=as) (λ i σ H'=>(∃y3 y4 y5 y6 y7,σ=[some (.ref a),some (.ref b),some (.ref l),y3,y4,y5,y6,y7])/\(∀x o,x≠a->x≠b->H x=some o->H' x=some o)/\H' a=some (.frz oa (.dK (kvB as)))/\(H' b=some (.dK (kvB bs))\/∃ob,H' b=some (.frz ob (.dK (kvB bs)))/\∀o w,H b≠some (.frz o w))/\H' l=some (.dK (kvB ((as.take i).foldl (By bs) [])))) ⟨⟨_,_,_,_,_,rfl⟩,λ x o na nb e=>by rw[Af na];exact s0 _ _ e,Ad,.inl (by rw[Af (Ne.symm nab)];exact s0 _ _ hb),by rw[Af (Ne.symm al)];exact e0⟩ (λ i σ H' _ hp=>hp.2.2.1) ?_ ?_
 .rintro i pa σ H1 t hpa ⟨⟨y3,y4,y5,y6,y7,rfl⟩,k1,fa,fb,fl⟩ nt;refine nv nt λ H2 s2 e2=>?_;refine⟨t,_,rfl,SqT.of e2,rfl,_,_,rfl,_,_,rfl,rfl,_,rfl,b,.dK (kvB bs),fb.imp (λ h=>s2 _ _ h) (λ⟨ob,h,n⟩=>⟨ob,s2 _ _ h,n⟩),b,_,rfl,Ad,λ ob=>?_⟩;rw[Jv];have ia:i<as.length:=(aG.mp hpa).1;have tk:(as.take (i+1)).foldl (By bs) []=By bs ((as.take i).foldl (By bs) []) pa:=by rw[aK,hpa,cA];rfl
  have fl2:((as.take i).foldl (By bs) []).length<=64:=by
   have:=MT bs (as.take i) [];rw[bB]at this;have:min i as.length*bs.length<=8*8:=dm (by lia) lb;simp only[b5]at *;lia
  refine Hz (a:=b) (ob:=ob) (d:=bs) (λ j σ H'=>(∃y5 y6 y7,σ=[some (.ref a),some (.ref b),some (.ref l),some (.int pa.1),some (.int pa.2),y5,y6,y7])/\(∀x o,x≠a->x≠b->H x=some o->H' x=some o)/\H' a=some (.frz oa (.dK (kvB as)))/\H' b=some (.frz ob (.dK (kvB bs)))/\H' l=some (.dK (kvB ((bs.take j).foldl (Db pa) ((as.take i).foldl (By bs) []))))) ⟨⟨_,_,_,rfl⟩,λ x o na nb e=>by rw[Af nb];exact s2 _ _ (k1 x o na nb e),by rw[Af nab];exact s2 _ _ fa,Ad,by rw[Af (Ne.symm bl)];exact s2 _ _ fl⟩ (λ i σ H' _ hp=>hp.2.2.2.1) ?_ ?_
  .rintro j pb σ H3 t3 hpb ⟨⟨y5,y6,y7,rfl⟩,k3,fa3,fb3,fl3⟩ nt3;refine nv nt3 λ H4 s4 e4=>?_;have fl4:=s4 _ _ fl3;have pm:=sm pb (ax hpb);have tkb:(bs.take (j+1)).foldl (Db pa) ((as.take i).foldl (By bs) [])=Db pa ((bs.take j).foldl (Db pa) ((as.take i).foldl (By bs) [])) pb:=by rw[aK,hpb,cA];rfl
   have lb4:((bs.take j).foldl (Db pa) ((as.take i).foldl (By bs) [])).length<=100:=aR (Mv (bs.take j) ((as.take i).foldl (By bs) []) pa) (by rw[bB];lia);generalize (bs.take j).foldl (Db pa) ((as.take i).foldl (By bs) [])=fd at fl4 tkb lb4;refine⟨t3,_,rfl,SqT.of e4,rfl,_,_,rfl,_,_,rfl,rfl,_,rfl,_,rfl,_,_,rfl,rfl,?_⟩;refine⟨_,rfl,l,rfl,.inl ⟨_,.inl fl4⟩,_,rfl,_,DGet.k (k:=Sum.inl (Builtin.bitAnd pa.1 pb.1)) fl4,?_⟩;rw[Ps,show((F1 fd (Builtin.bitAnd pa.1 pb.1)).map V.int).getD (.int 0)=V.int ((F1 fd (Builtin.bitAnd pa.1 pb.1)).getD 0) by cases F1 fd (Builtin.bitAnd pa.1 pb.1)<;>rfl];refine⟨_,rfl,_,rfl,_,_,rfl,rfl,UB pm.1 pm.2,_,_,rfl,rfl,_,rfl,_,rfl,l,_,rfl,DPut.k (k:=Sum.inl (Builtin.bitAnd pa.1 pb.1)) fl4 (Al (by rw[CY];lia)),⟨_,_,_,rfl⟩,λ x o na nb e=>?_,?_,?_,?_⟩
   .rw[Af (Ag e nl)];exact s4 _ _ (k3 x o na nb e)
   .rw[Af al];exact s4 _ _ fa3
   .rw[Af bl];exact s4 _ _ fb3
   .rw[Ad,Pt,tkb];rfl
  .rintro σ H3 ⟨⟨y5,y6,y7,rfl⟩,k3,fa3,fb3,fl3⟩;rw[aH]at fl3;exact⟨⟨_,_,_,_,_,rfl⟩,k3,fa3,.inr ⟨ob,fb3,nfz⟩,by rw[tk];exact fl3⟩
 .rintro σ H1 ⟨⟨y3,y4,y5,y6,y7,rfl⟩,k1,fa,fb,fl⟩;rw[aH]at fl;refine⟨_,rfl,a,oa,_,fa,(λ o w z=>by have z:H a=some (.frz o w):=z;rw[ha]at z;cases z),b,.dK (kvB bs),fb.imp (λ h=>by rw[Af (Ne.symm nab)];exact h) (λ⟨ob,h,n⟩=>⟨ob,by rw[Af (Ne.symm nab)];exact h,n⟩),q l _ (λ x o e=>?_) nl ?_⟩
  .by_cases xb:x=b
   .rw[xb,Ad,<-hb,<-xb,e]
   .rw[Af xb];by_cases xa:x=a
    .rw[xa,Ad,<-ha,<-xa,e]
    .rw[Af xa];exact k1 x o xa xb e
  .rw[Af (Ne.symm bl),Af (Ne.symm al)];exact fl
def D7(d:BL)(lines:Int):List Int:=(d.filter λ p=>decide (Builtin.bitAnd p.1 lines=0)).map (·.2)
theorem Ln{a:Addr}{ob:PySem.Obj}{d:BL}{g:TG}{tc:TT}{te:TE}{σ:St}{H1:Hp}{acc:Addr}{Qr:Hp->Prop}(Pv:Nat->LUz->St->Hp->Prop)(h0:Pv 0 [] σ (upd H1 acc (.lst [])))
  (hq:∀i xs σ H,i<=d.length->H acc=some (.lst xs)->Pv i xs σ H->H a=some (.frz ob (.dK (kvB d))))
  (hs:∀i (p:Int×Int) t xs σ H,d[i]?=some p->i<d.length->xs.length<=i->H acc=some (.lst xs)->Pv i xs σ H->H t=none->g (.ref t) σ (upd H t (.tup [.int p.1,.int p.2])) λ σ2 H2=>tc σ2 H2 λ b Hb=>match b with
   |true=>te σ2 Hb λ v H3=>fNx acc (kvB d).length Pv i σ2 v H3
   |false=>fSk acc (kvB d).length Pv i σ2 Hb)
  (hd:∀xs σ H,xs.length<=d.length->H acc=some (.lst xs)->Pv d.length xs σ H->Qr H) :
  ∃W:Nat->Nat->St->Hp->Prop,(∃m,W 0 m σ (upd H1 acc (.lst [])))/\∀i m σ1 H2,W i m σ1 H2 ->
   ((Itm a ob).stop i H2/\Qr H2)\/((Itm a ob).go i H2/\∀x H3,(Itm a ob).yld i H2 x H3->g x σ1 H3 λ σ4 H4=>tc σ4 H4 λ b Hb=>match b with
    |true=>te σ4 Hb λ v H5=>∃xs,H5 acc=some (.lst xs)/\xs.length<sizeLine/\∃m',m'<m/\W (i+1) m' σ4 (upd H5 acc (.lst (xs++[v])))
    |false=>∃m',m'<m/\W (i+1) m' σ4 Hb):=by
 have kl:=CY d;refine Lm (kvs:=kvB d) Pv h0 (λ i xs σ H h=>hq i xs σ H (by rw[<-kl];exact h)) (λ i p t xs σ H hp hi hx ha pv nt=>?_) (λ xs σ H hx ha pv=>hd xs σ H (by rw[<-kl];exact hx) ha (by rw[<-kl];exact pv));obtain⟨q,hq',rfl⟩:=MG hp;exact hs i q t xs σ H hq' (by rw[<-kl];exact hi) hx ha pv nt
theorem Gf{f:Addr}{fd:FuncData}(F:Fun K "rows_without" "rows_without" Ca f fd)(T:Txt mg tk):A2 P w K mg base CX0 1 f fd ["by_lines","lines"] BX:=by
 have S:Ak ["by_lines","lines"] ["by_lines","lines"] (Ai Ca):=fsk;refine F.g S ?_;rintro vs H Q E ⟨a,as,lines,rfl,ha,la,q⟩;refine⟨rfl,λ cdv A outer s hr=>?_⟩;refine⟨_,(Ah (Aq (Av HV rfl T.z_sum rfl (Aa (M7 (D2 rfl (GS (pv 0)) (λ_ _ _ _ _=>(Gp (K:=K) (n:=2) rfl (Au (Aj (i:=0) (nk ["others","many","lines"]) rfl (ar rfl)) (Au (Aj (i:=1) (nk ["others","many","lines"]) rfl (ar rfl)) AU)))) (λ_ _ _ _ _=>(Aw Ck (An D5 (pv 0) (pv 2)) Ae (Az _))) (λ_ _ _ _ _=>(pv 1)) (N:=["others","many","lines"]) (fr:=[none,none,some 1]))) Ac)))),?_⟩;refine⟨_,rfl,a,_,rfl,ha,λ oa acc hacc=>?_⟩;have na:a≠acc:=λ z=>by rw[<-z,Ad]at hacc;cases hacc
 refine Ln (a:=a) (ob:=oa) (d:=as) (λ i zs σ H'=>(∃x y,σ=[x,y,some (.int lines)])/\(∀x o,x≠a->H x=some o->H' x=some o)/\H' a=some (.frz oa (.dK (kvB as)))/\zs=(D7 (as.take i) lines).map V.int) ⟨⟨_,_,rfl⟩,λ x o xa e=>?_,by rw[Af na,Ad],rfl⟩ (λ i xs σ H' _ _ hp=>hp.2.2.1) ?_ ?_
 .rw[Af (λ z=>by rw[<-z,Af xa,e]at hacc;cases hacc),Af xa];exact e
 .rintro i p t zs σ H1 hp hi hz ha1 ⟨⟨x,y,rfl⟩,k1,fa,rfl⟩ nt;refine nv nt λ H2 s2 e2=>?_;have tk:(as.take (i+1))=as.take i++[p]:=by rw[aK,hp];rfl
  have a2:=s2 _ _ ha1;have hi':i<(kvB as).length:=by rw[CY];exact hi
  have kw:D7 (as.take (i+1)) lines=D7 (as.take i) lines++D7 [p] lines:=by
   rw[tk];unfold D7;rw[ba,aj]
  refine⟨t,_,rfl,SqT.of e2,rfl,_,_,rfl,_,_,rfl,rfl,_,rfl,_,rfl,_,_,rfl,rfl,rfl,_,rfl,?_⟩;by_cases c:Builtin.bitAnd p.1 lines=0
  .rw[decide_eq_true (show V.int (Builtin.bitAnd p.1 lines)=V.int 0 by rw[c])];refine⟨_,rfl,fNx.mk (aM (Al (by rw[CY];lia))) hi' hz a2 ⟨⟨_,_,rfl⟩,λ x o xa e=>?_,?_,?_⟩⟩
   .rw[Af (λ z=>by rw[z]at e;rw[Af (Ne.symm na),e]at hacc;cases hacc)];exact s2 _ _ (k1 x o xa e)
   .rw[Af na];exact s2 _ _ fa
   .rw[kw,aj];unfold D7;rw[eF (by exact decide_eq_true c)];rfl
  .rw[decide_eq_false (show ¬V.int (Builtin.bitAnd p.1 lines)=V.int 0 from λ z=>c (V.int.inj z))];refine fSk.mk hi' hz a2 ⟨⟨_,_,rfl⟩,λ x o xa e=>s2 _ _ (k1 x o xa e),s2 _ _ fa,?_⟩;have:D7 [p] lines=[]:=by unfold D7;rw[eG (by rw[decide_eq_true_iff];exact c)];rfl
   rw[kw,this,aY]
 .rintro zs σ H1 hz ha1 ⟨⟨x,y,rfl⟩,k1,fa,rfl⟩;rw[aH]at ha1;refine⟨a,oa,_,fa,(λ o w z=>by have z:H a=some (.frz o w):=z;rw[ha]at z;cases z),acc,_,rfl,SqL.of (by rw[Af (Ne.symm na)];exact ha1),rfl,q _ λ x o e=>?_⟩;by_cases xa:x=a
  .rw[xa,Ad,<-ha,<-xa,e]
  .rw[Af xa];exact k1 x o xa e
def stripT:List ((Int×Int)×BL):=[((1,1),[(0,1)]),((1,2),[(0,1)]),((2,1),[(0,1),(1,1)]),((1,3),[(0,1)]),((2,2),[(0,1),(1,3)]),((3,1),[(0,1),(1,1),(2,1),(3,1)]),((1,4),[(0,1)]),((2,3),[(0,1),(1,9)]),((3,2),[(0,1),(1,5),(2,5),(3,7)]),((4,1),[(0,1),(1,1),(2,1),(3,1),(4,1),(5,1),(6,1),(7,1)]),((2,4),[(0,1),(1,27)]),((3,3),[(0,1),(1,31),(2,31),(3,49)]),((4,2),[(0,1),(1,11),(2,7),(3,13),(4,11),(5,13),(6,13),(7,15)]),((3,4),[(0,1),(1,217),(2,217),(3,343)]),((4,3),[(0,1),(1,177),(2,85),(3,199),(4,177),(5,199),(6,199),(7,225)]),((4,4),[(0,1),(1,3183),(2,1471),(3,3265),(4,3183),(5,3265),(6,3265),(7,3375)])]
def AA(l t:Int):BL:=(stripT.lookup (l,t)).getD []
def A8(parts:List Int)(thick:Int):BL:=parts.foldl (λ f p=>MK f (AA thick p)) [(BS thick,1)]
def StAt(H:Hp)(st:Addr)(ok:Int->Int->Prop):Prop:=∃kvs:LKz,H st=some (.dT kvs)/\∀l t,ok l t->∃d,AV kvs [Sum.inl l,Sum.inl t]=some (.ref d)/\H d=some (.dK (kvB (AA l t)))
theorem StAt.same{H H':Hp}{st:Addr}{ok:Int->Int->Prop}(h:StAt H st ok)(s:Same H H'):StAt H' st ok:=by
 obtain⟨kvs,e,h⟩:=h;exact⟨kvs,s _ _ e,λ l t o=>let ⟨d,e1,e2⟩:=h l t o;⟨d,e1,s _ _ e2⟩⟩
inductive Ih(vs:LUz)(H:Hp)(Q:VK)(E:XK):Prop
 |mk (st l:Addr) (ps:List Int) (thick:Int) (h0:vs=[.ref st,.ref l,.int thick]) (h1:1<=thick) (h2:thick<=4) (h3:H l=some (.lst (ps.map V.int))) (h4:(∀p∈ps,1<=p/\p<=4)) (h5:StAt H st (λ a b=>a=thick/\b∈ps)) (h6:∀d H',Same H H'->H d=none->H' d=some (.dK (kvB (A8 ps thick)))->Q (.ref d) H'):Ih vs H Q E
def BU:Sp:=λ vs H Q E=>Ih vs H Q E
def KOk(d:BL):Prop:=(d.map (·.1)).Nodup/\∀p∈d,0<=p.1/\p.1<8
theorem KOk.len{d:BL}(h:KOk d):d.length<=8:=by
 have:=FK 8 (d.map (·.1)) h.1 λ x hx=>by
  obtain⟨p,hp,rfl⟩:=az.mp hx;exact h.2 p hp
 rw[aa]at this;exact this
theorem UP:∀a b:Fin 8,0<=Builtin.bitAnd (a.val:Int) (b.val:Int)/\Builtin.bitAnd (a.val:Int) (b.val:Int)<8:=by decide +kernel
theorem SJ{a b:Int}(a0:0<=a)(a1:a<8)(b0:0<=b)(b1:b<8):0<=Builtin.bitAnd a b/\Builtin.bitAnd a b<8:=by
 have:=UP ⟨a.toNat,by lia⟩ ⟨b.toNat,by lia⟩;rw[show((a.toNat:Nat):Int)=a by lia,show((b.toNat:Nat):Int)=b by lia]at this;exact this
theorem KOk.put{d:BL}(h:KOk d){k v:Int}(k0:0<=k)(k1:k<8):KOk (Dy d k v):=by
 unfold Dy;split
 .refine⟨?_,λ p hp=>?_⟩
  .rw[aJ,show((λ p:Int×Int=>p.1)∘λ p:Int×Int=>if p.1=k then (p.1,v) else p)=λ p=>p.1 from funext λ p=>by show(if p.1=k then (p.1,v) else p).1=p.1;split<;>rfl];exact h.1
  .obtain⟨q,hq,rfl⟩:=az.mp hp;have:=h.2 q hq;split<;>exact this
 .rename_i c;refine⟨?_,λ p hp=>?_⟩
  .rw[aj];refine List.nodup_append.mpr ⟨h.1,bZ.mpr ⟨(λ z=>nomatch z),cy⟩,λ x hx y hy e=>c ?_⟩;obtain⟨q,hq,rfl⟩:=az.mp hx;rw[ai.mp hy]at e;exact cY.mpr ⟨q,hq,decide_eq_true e⟩
  .rcases aF.mp hp with hp|hp
   .exact h.2 p hp
   .rw[ai.mp hp];exact⟨k0,k1⟩
theorem KOk.row{bs:BL}(hb:∀p∈bs,0<=p.1/\p.1<8){a:Int×Int}(a0:0<=a.1)(a1:a.1<8){f:BL}(h:KOk f):KOk (By bs f a):=by
 unfold By
 induction bs generalizing f with
 |nil=>exact h
 |cons b r ih =>
  have hb0:=hb b aD;have:=SJ a0 a1 hb0.1 hb0.2;exact ih (λ p hp=>hb p (aI _ hp)) (h.put this.1 this.2)
theorem KOk.com{bs:BL}(hb:∀p∈bs,0<=p.1/\p.1<8):∀{as f:BL},(∀p∈as,0<=p.1/\p.1<8)->KOk f->KOk (as.foldl (By bs) f)
 |[],f,_,h=>h
 |a::r,f,ha,h=>KOk.com hb (as:=r) (λ p hp=>ha p (aI _ hp)) (h.row hb (ha a aD).1 (ha a aD).2)
theorem Es{α:Type}{k:Int×Int}{v:α}:∀{l:List ((Int×Int)×α)},l.lookup k=some v->(k,v)∈l
 |[],h=>by cases h
 | (k',v')::r,h=>by
  rw[a9]at h;by_cases e:k=k'
  .rw[show(k==k')=true by rw[e];exact beq_self_eq_true _]at h;cases h;rw[e];exact aD
  .rw[show(k==k')=false from beq_eq_false_iff_ne.mpr e]at h;exact aI _ (Es h)
theorem Nw:stripT.all (λ e=>e.2.all (λ p=>decide (0<=p.1)&&decide (p.1<8)&&(decide (0<=p.2)&&decide (p.2<=1000000000)))&&decide (e.2.length<=8))=true:=by decide +kernel
theorem BW(l t:Int):(∀p∈AA l t,(0<=p.1/\p.1<8)/\0<=p.2/\p.2<=1000000000)/\(AA l t).length<=8:=by
 unfold AA;cases e:stripT.lookup (l,t) with
 |none=>exact⟨λ p hp=>(nomatch hp),aQ _⟩
 |some d =>
  have hm:((l,t),d)∈stripT:=Es e;have:=aU.mp Nw _ hm;rw[aE]at this;refine⟨λ p hp=>?_,of_decide_eq_true this.2⟩;have:=aU.mp this.1 p hp;rw[aE,aE,aE,decide_eq_true_iff,decide_eq_true_iff,decide_eq_true_iff,decide_eq_true_iff]at this;exact this
theorem Ke{n:Int}(n1:1<=n)(n4:n<=4):0<=BS n/\BS n<8:=by
 obtain⟨k,hk,rfl⟩:∃k:Nat,k<5/\n=k:=⟨n.toNat,by lia,by lia⟩
 match k,hk,n1 with
 |1,_,_=>decide
 |2,_,_=>decide
 |3,_,_=>decide
 |4,_,_=>decide
 |0,_,h=>lia
theorem EC{thick:Int}(n1:1<=thick)(n4:thick<=4)(ps:List Int):KOk (A8 ps thick):=by
 unfold A8;have h0:KOk [(BS thick,1)]:=⟨bZ.mpr ⟨(λ z=>nomatch z),cy⟩,λ p hp=>by rw[ai.mp hp];exact Ke n1 n4⟩;have:∀(ps:List Int)(f:BL),KOk f->KOk (ps.foldl (λ f p=>MK f (AA thick p)) f):=λ ps=>by
  induction ps with
  |nil=>exact λ f h=>h
  |cons p r ih=>exact λ f h=>ih _ (KOk.com (λ q hq=>((BW thick p).1 q hq).1) h.2 ⟨cy,λ q hq=>(nomatch hq)⟩)
 exact this ps _ h0
abbrev Qf:LSz:=["strips","parts","thick","found","part"]
theorem Fp{f:Addr}{fd:FuncData}(F:Fun K "rows_by_lines" "rows_by_lines" BE f fd)(D_all_lines:Ao P w K mg base 1 "all_lines" ["length"] EA)(D_in_common:Ao P w K mg base 1 "in_common" ["by_lines","strips_by_lines"] IG):A2 P w K mg base CX0 2 f fd ["strips","parts","thick"] BU:=by
 have S:Ak Qf ["strips","parts","thick"] (Ai BE):=fsk;refine F.g S ?_;rintro vs H Q E ⟨st,l,ps,thick,rfl,t1,t4,hl,p4,sa,q⟩;refine⟨rfl,λ cdv A outer s hr=>?_⟩;have hu:=D8 hr;refine⟨_,(Ab (Am (i:=3) S.nd rfl (ar rfl) (M9 (Ky (Ap D_all_lines hr (Aa (pv 2) Ac)) Ae M5) rfl rfl (by decide) (by decide)))
  (Ab (A4 PassesOwn.never rfl (A0 (pv 1)) (Aj (i:=4) S.nd rfl (ar rfl)) (Ah (Am (i:=3) S.nd rfl (ar rfl) (Ap D_in_common hr (Aa (pv 3) (Aa (DJ hu (pv 0) (AB (Aa (pv 2) (Aa (pv 4) Ac))) (λ_ _=>rfl)) Ac))))))
  (Ah (Aq (pv 3))))),?_⟩
 refine λ d nd=>⟨_,rfl,thick,rfl,t1,t4,Ad,[(Sum.inl (BS thick),.int 1)],rfl,(show 1<=15 by decide),?_⟩;rw[Jv,show Er [] [((Sum.inl (BS thick):Key),V.int 1)]=kvB [(BS thick,1)] from rfl];refine nv nd λ H0 s0 e0=>?_;refine⟨_,rfl,l,rfl,⟨_,SqL.of (s0 _ _ hl)⟩,Bc (K:=K) (a:=l) (xs:=ps.map V.int) (λ i σ H'=>∃(y4:Option V)(dd:Addr),σ=[some (.ref st),some (.ref l),some (.int thick),some (.ref dd),y4]/\Same H H'/\H dd=none/\H' dd=some (.dK (kvB (A8 (ps.take i) thick)))) ⟨_,d,rfl,s0,nd,e0⟩ (λ i σ H' _ hp=>by obtain⟨_,_,_,s',_⟩:=hp;exact SqL.of (s' _ _ hl)) ?_ ?_⟩
 .rintro i v σ H1 hv ⟨y4,dd,rfl,s1,ndd,hdd⟩;obtain⟨p,hp,rfl⟩:=ints_get hv;have pm:=ax hp;obtain⟨kvs,hst,hs⟩:=sa;obtain⟨sd,v1,v2⟩:=hs thick p ⟨rfl,pm⟩;have tk:A8 (ps.take (i+1)) thick=MK (A8 (ps.take i) thick) (AA thick p):=by
   unfold A8;rw[aK,hp,cA];rfl
  refine⟨_,rfl,_,rfl,_,rfl,_,rfl,A1 2,λ t nt=>?_⟩;refine nv nt λ H2 s2 e2=>?_;have s02:=s1.trans s2;have dg:DGet H2 st (.ref t) (some (.ref sd)):=by
   have:=DGet.t (H:=H2) (a:=st) (b:=t) (k:=[Sum.inl thick,Sum.inl p]) (s02 _ _ hst) e2;rw[v1]at this;exact this
  refine⟨st,_,rfl,dg,dd,sd,A8 (ps.take i) thick,AA thick p,rfl,s2 _ _ hdd,s02 _ _ v2,(λ z=>by rw[z,v2]at ndd;cases ndd),(EC t1 t4 _).len,(BW thick p).2,λ q hq=>((BW thick p).1 q hq).2,λ d3 H3 s3 n3 h3=>⟨_,d3,rfl,s02.trans s3,IQ s02 n3,by rw[tk];exact h3⟩⟩
 .rintro σ H1 ⟨y4,dd,rfl,s1,ndd,hdd⟩;rw[aa,aH]at hdd;exact⟨_,rfl,q dd H1 s1 ndd hdd⟩
def Mm(l t:Int):BL:=(List.range (BS l).toNat).foldl (λ f (i:Nat)=>Dy f ((i:Int)+1) (AJ (A8 (A6 ((i:Int)+1) (l-1).toNat) t) (BS t))) [(0,1)]
inductive Ig(vs:LUz)(H:Hp)(Q:VK)(E:XK):Prop
 |mk (st:Addr) (l t:Int) (h0:vs=[.ref st,.int l,.int t]) (h1:1<=l) (h2:l<=4) (h3:1<=t) (h4:t<=4) (h5:StAt H st (λ a b=>a=t/\1<=b/\b<l)) (h6:∀d H',Same H H'->H d=none->H' d=some (.dK (kvB (AA l t)))->Q (.ref d) H'):Ig vs H Q E
def IE:Sp:=λ vs H Q E=>Ig vs H Q E
theorem Nv:∀l t:Fin 5,0<l.val->0<t.val->Mm (l.val:Int) (t.val:Int)=AA l.val t.val:=by decide +kernel
theorem Nu{l t:Int}(l1:1<=l)(l4:l<=4)(t1:1<=t)(t4:t<=4):Mm l t=AA l t:=by
 have:=Nv ⟨l.toNat,by lia⟩ ⟨t.toNat,by lia⟩ (by show 0<l.toNat;lia) (by show 0<t.toNat;lia);rw[show((l.toNat:Nat):Int)=l by lia,show((t.toNat:Nat):Int)=t by lia]at this;exact this
theorem N7:∀(l:Fin 5)(i:Fin 8),0<l.val->(i.val:Int)<BS l.val->∀p∈A6 ((i.val:Int)+1) ((l.val:Int)-1).toNat,1<=p/\p<l.val:=by decide +kernel
theorem OW{l:Int}{i:Nat}(l1:1<=l)(l4:l<=4)(hi:(i:Int)<BS l):∀p∈A6 ((i:Int)+1) (l-1).toNat,1<=p/\p<l:=by
 have a8:=Ke l1 l4;have:=N7 ⟨l.toNat,by lia⟩ ⟨i,by lia⟩ (by show 0<l.toNat;lia) (by show(i:Int)<BS (l.toNat:Int);rw[show((l.toNat:Nat):Int)=l by lia];exact hi);rw[show((l.toNat:Nat):Int)=l by lia]at this;exact this
abbrev Rp:LSz:=["strips","length","thick","found","lines","by_lines"]
theorem DV{g:Nat->Int}{k:Nat->Int}:∀(n:Nat)(f:BL),((List.range n).foldl (λ f i=>Dy f (k i) (g i)) f).length<=f.length+n
 |0,f=>ah _
 |n+1,f=>by
  rw[bF,cA];have h1:=DV (g:=g) (k:=k) n f;have h2:=M3 ((List.range n).foldl (λ f i=>Dy f (k i) (g i)) f) (k n) (g n);exact aR h2 (by lia)
theorem EK{f:Addr}{fd:FuncData}(F:Fun K "strips_of_size" "strips_of_size" B3 f fd)(T:Txt mg tk)(D_all_lines:Ao P w K mg base 1 "all_lines" ["length"] EA)(D_parts_between:Ao P w K mg base 1 "parts_between" ["lines","length"] CC)(D_rows_by_lines:Ao P w K mg base 2 "rows_by_lines" ["strips","parts","thick"] BU)(D_rows_without:Ao P w K mg base 1 "rows_without" ["by_lines","lines"] BX):A2 P w K mg base CX0 3 f fd ["strips","length","thick"] IE:=by
 have S:Ak Rp ["strips","length","thick"] (Ai B3):=fsk;refine F.g S ?_;rintro vs H Q E ⟨st,l,t,rfl,l1,l4,t1,t4,sa,q⟩;refine⟨rfl,λ cdv A outer s hr=>?_⟩;have hu:=D8 hr;have a8:=Ke l1 l4;refine⟨_,(Ab (Am (i:=3) S.nd rfl (ar rfl) (M9 (Ky Ae Ae M5) rfl rfl (by decide) (by decide)))
  (Ab (A4 PassesOwn.never rfl (AH rfl T.z_range (Aa Ae (Aa (An A7 (Ap D_all_lines hr (Aa (pv 1) Ac)) Ae) Ac))) (Aj (i:=4) S.nd rfl (ar rfl)) (Ab (Am (i:=5) S.nd rfl (ar rfl) (Ap D_rows_by_lines hr (Aa (pv 0) (Aa (Ap D_parts_between hr (Aa (pv 4) (Aa (pv 1) Ac))) (Aa (pv 2) Ac)))))
  (Ah (EF hu (pv 3) (pv 4) (Ap D_rows_without hr (Aa (pv 5) (Aa (Ap D_all_lines hr (Aa (pv 2) Ac)) Ac))) rfl))))
  (Ah (Aq (pv 3))))),?_⟩
 refine λ d nd=>⟨Ad,[(Sum.inl 0,.int 1)],rfl,(show 1<=15 by decide),?_⟩;rw[Jv,show Er [] [((Sum.inl 0:Key),V.int 1)]=kvB [(0,1)] from rfl];refine nv nd λ H0 s0 e0=>?_;refine⟨_,rfl,l,rfl,l1,l4,_,_,rfl,rfl,1,BS l+1,rfl,⟨by lia,by lia,by lia,by lia⟩,?_⟩;refine AD (lo:=1) (n:=(BS l+1-1).toNat) (λ i σ H'=>∃(y4 y5:Option V),σ=[some (.ref st),some (.int l),some (.int t),some (.ref d),y4,y5]/\Same H H'/\H' d=some (.dK (kvB ((List.range i).foldl (λ f (i:Nat)=>Dy f ((i:Int)+1) (AJ (A8 (A6 ((i:Int)+1) (l-1).toNat) t) (BS t))) [(0,1)])))) ⟨_,_,rfl,s0,e0⟩ ?_ ?_
 .rintro i σ H1 hi ⟨y4,y5,rfl,s1,h1⟩;have hia:(i:Int)<BS l:=by lia
  have pin:=OW (i:=i) l1 l4 hia;rw[show(1:Int)+(i:Int)=(i:Int)+1 by lia];refine⟨_,rfl,_,rfl,_,rfl,(i:Int)+1,l,rfl,l1,l4,λ lp H2 s2 n2 h2=>⟨_,rfl,st,lp,_,t,rfl,t1,t4,h2,λ p hp=>⟨(pin p hp).1,by have:=(pin p hp).2;lia⟩,?_,λ dr H3 s3 n3 h3=>?_⟩⟩
  .obtain⟨kvs,hst,hs⟩:=sa;exact⟨kvs,(s1.trans s2) _ _ hst,λ a b ⟨ea,hb⟩=>let ⟨sd,v1,v2⟩:=hs a b ⟨ea,pin b hb⟩;⟨sd,v1,(s1.trans s2) _ _ v2⟩⟩
  .have s13:=s1.trans (s2.trans s3);refine⟨_,rfl,_,rfl,t,rfl,t1,t4,dr,_,BS t,rfl,h3,aR (EC t1 t4 _).len (by decide),λ H4 s4=>?_⟩;have h4:=(s2.trans (s3.trans s4)) _ _ h1;refine⟨_,rfl,_,rfl,d,_,rfl,DPut.k (k:=Sum.inl ((i:Int)+1)) h4 (Al (by rw[CY];exact aR (DV i [(0,1)]) (by show 1+i<=1000;lia))),_,_,rfl,λ x o e=>?_,?_⟩
   .rw[Af (Ag e nd)];exact(s13.trans s4) _ _ e
   .rw[Ad,Pt,bF,cA];rfl
 .rintro σ H1 ⟨y4,y5,rfl,s1,h1⟩;rw[show(BS l+1-1).toNat=(BS l).toNat by lia]at h1;exact⟨_,rfl,q d H1 s1 nd (by rw[<-Nu l1 l4 t1 t4];exact h1)⟩
theorem T7{a b:Int}(h0:0<=a)(h1:a<=1000000000):IntMulOk a b:=IntMulOk.of_left (by
 unfold Builtin.Int.intBits;split
 .exact aQ _
 .have:a.natAbs.log2<30:=(Nat.log2_lt (by intro z;simp_all)).mpr (by lia);lia)
def TZ(fs lt:BL)(common:Int)(i:Nat):Int:=(F1 fs (i:Int)).getD 0*AJ lt (Builtin.bitAnd common (i:Int))
def Br(fs lt:BL)(common:Int)(n:Nat):Int:=((List.range n).map (TZ fs lt common)).sum
inductive Ik(vs:LUz)(H:Hp)(Q:VK)(E:XK):Prop
 |mk (a b:Addr) (fs lt:BL) (common:Int) (n:Nat) (h0:vs=[.ref a,.ref b,.int common,.int n]) (h1:H a=some (.dK (kvB fs))) (h2:H b=some (.dK (kvB lt))) (h3:lt.length<=8) (h4:n<=8) (h5:(∀i:Nat,i<n->∃v,F1 fs (i:Int)=some v/\0<=v/\v<=1000000000)) (h6:∀H',Same H H'->Q (.int (Br fs lt common n)) H'):Ik vs H Q E
def Fg:Sp:=λ vs H Q E=>Ik vs H Q E
abbrev Lq:LSz:=["firsts","later","common","lines"]
theorem Ha{f:Addr}{fd:FuncData}(F:Fun K "rows_before" "rows_before" Cw f fd)(T:Txt mg tk)(D_rows_without:Ao P w K mg base 1 "rows_without" ["by_lines","lines"] BX):A2 P w K mg base CX0 2 f fd ["firsts","later","common","lines"] Fg:=by
 have S:Ak Lq Lq (Ai Cw):=fsk;refine F.g S ?_;rintro vs H Q E ⟨a,b,fs,lt,common,n,rfl,ha,hb,lb,n8,al,q⟩;refine⟨rfl,λ cdv A outer s hr=>?_⟩;have hu:=D8 hr;refine⟨_,(Ah (Aq (Av HV rfl T.z_sum rfl (Aa (Bk rfl (CG rfl T.z_range (Aa (pv 3) Ac)) (λ_ _ _ _ _=>pgk (nk ["less","firsts","later","common"])) (λ_ _ _ _ _=>(An Bo (DJ hu (pv 1) (pv 0) (λ_ _=>rfl)) (Ap D_rows_without hr (Aa (pv 2) (Aa (An D5 (pv 3) (pv 0)) Ac))))) (N:=["less","firsts","later","common"]) (fr:=[none,some 0,some 1,some 2])) Ac)))),?_⟩;refine⟨_,rfl,n,rfl,by lia,by lia,λ acc hacc=>HQ (lo:=0) (n:=(n:Int).toNat) (λ i zs σ H'=>(∃x,σ=[x,some (.ref a),some (.ref b),some (.int common)])/\Same H H'/\zs=((List.range i).map (TZ fs lt common)).map V.int) ⟨⟨_,rfl⟩,Same.new hacc,rfl⟩ ?_ ?_⟩
 .rintro i zs σ H1 hi hl ha1 ⟨⟨x,rfl⟩,s1,rfl⟩;rw[dJ];obtain⟨v,hv,v0,v1⟩:=al i (by lia);have dg:DGet H1 a (.int (i:Int)) (some (.int v)):=by
   have:=DGet.k (H:=H1) (k:=Sum.inl (i:Int)) (s1 _ _ ha);rw[Ps,hv]at this;exact this
  refine⟨_,rfl,_,rfl,a,_,rfl,dg,_,rfl,_,rfl,_,rfl,_,_,rfl,rfl,b,lt,Builtin.bitAnd common (i:Int),rfl,s1 _ _ hb,by lia,λ H2 s2=>⟨_,_,rfl,rfl,T7 v0 v1,?_⟩⟩;refine cNx.mk (aM (Al (by lia))) hi hl (s2 _ _ ha1) ⟨⟨_,rfl⟩,λ x o e=>?_,?_⟩
  .rw[Af (Ag e hacc)];exact s2 _ _ (s1 _ _ e)
  .rw[bF,aj,aj];show _=_++[V.int ((F1 fs (i:Int)).getD 0*AJ lt (Builtin.bitAnd common (i:Int)))];rw[hv];rfl
 .rintro zs σ H1 hl ha1 ⟨_,s1,rfl⟩;rw[bQ]at ha1;exact⟨acc,_,rfl,SqL.of ha1,rfl,q H1 s1⟩
def MO(fs lt:BL)(common number:Int):Nat->Nat->Option Nat
 |0,_=>none
 |k+1,n=>if n<fs.length then (if Br fs lt common (n+1)<=number then MO fs lt common number k (n+1) else some n) else none
def NH(b:Int)(q:P4):P4:=(q.2.1,b+q.1,q.2.2.2,b+q.2.2.1)
def Ks(sb:Int->Int->Nat->Int->Option (List P4))(thick:Int):List Int->Int->Int->Int->Option (List P4)
 |[],_,_,_=>some []
 |p::rest,common,number,b=>(MO (AA thick p) (A8 rest thick) common number 9 0).bind λ n =>
  if 0<AJ (A8 rest thick) (Builtin.bitAnd common n)/\AJ (A8 rest thick) (Builtin.bitAnd common n)<=1000000000 then
   (sb thick p n ((number-Br (AA thick p) (A8 rest thick) common n) / AJ (A8 rest thick) (Builtin.bitAnd common n))).bind λ ps =>
    (Ks sb thick rest (Builtin.bitAnd common n) ((number-Br (AA thick p) (A8 rest thick) common n) % AJ (A8 rest thick) (Builtin.bitAnd common n)) (b+p)).map λ r=>ps.map (NH b)++r
  else none
def CN:Nat->Int->Int->Nat->Int->Option (List P4)
 |0,_,_,_,_=>none
 |k+1,a,b,n,number=>if n=0 then some [(0,0,b,a)] else Ks (CN k) b (A6 n (a-1).toNat) (BS b) number 0
def PnL(H:Hp)(l:Addr)(out:List P4):Prop:=∃ts:List (Addr×P4),H l=some (.lst (A9 ts))/\(∀t∈ts,H t.1=some (.tup (G3 t.2)))/\ts.map (·.2)=out
theorem PnL.same{H H':Hp}{l:Addr}{out:List P4}(h:PnL H l out)(s:Same H H'):PnL H' l out:=by
 obtain⟨ts,a,b,c⟩:=h;exact⟨ts,s _ _ a,λ t ht=>s _ _ (b t ht),c⟩
def InM(m:Int)(a b:Int):Prop:=1<=a/\a<=m/\1<=b/\b<=m
inductive FT(k:Nat)(vs:LUz)(H:Hp)(Q:VK)(E:XK):Prop
 |mk (st sz:Addr) (a b m:Int) (n:Nat) (number:Int) (out:List P4) (h0:vs=[.ref st,.ref sz,.int n,.int number]) (h1:H sz=some (.tup [.int a,.int b])) (h2:m<=4) (h3:InM m a b) (h4:StAt H st (InM m)) (h5:n<=7) (h6:CN k a b n number=some out) (h7:out.length<=100) (h8:∀l H',Same H H'->H l=none->PnL H' l out->Q (.ref l) H'):FT k vs H Q E
def B1(k:Nat) :Sp:=λ vs H Q E=>FT k vs H Q E
inductive Jj(k:Nat)(vs:LUz)(H:Hp)(Q:VK)(E:XK):Prop
 |mk (st l:Addr) (ps:List Int) (thick m common number:Int) (out:List P4) (h0:vs=[.ref st,.ref l,.int thick,.int common,.int number]) (h1:H l=some (.lst (ps.map V.int))) (h2:m<=4) (h3:(∀p∈ps,InM m thick p)) (h4:StAt H st (InM m)) (h5:ps.length<=4) (h6:Ks (CN k) thick ps common number 0=some out) (h7:out.length<=100) (h8:∀l' H',Same H H'->H l'=none->PnL H' l' out->Q (.ref l') H'):Jj k vs H Q E
def Dn(k:Nat) :Sp:=λ vs H Q E=>Jj k vs H Q E
theorem LC:stripT.all (λ e=>(List.range e.2.length).all λ i=>(F1 e.2 (i:Int)).isSome)=true:=by decide +kernel
theorem P7{d:BL}{k v:Int}(h:F1 d k=some v):(k,v)∈d:=by
 unfold F1 at h;obtain⟨p,hp,rfl⟩:=aZ.mp h;have:=List.find?_some hp;have e:p.1=k:=of_decide_eq_true this;rw[<-e];exact List.mem_of_find?_eq_some hp
theorem Fe{l t:Int}{i:Nat}(h:i<(AA l t).length):∃v,F1 (AA l t) (i:Int)=some v/\0<=v/\v<=1000000000:=by
 have so:=(BW l t).1;unfold AA at h so |-;cases e:stripT.lookup (l,t) with
 |none=>rw[e]at h;cases h
 |some d =>
  rw[e]at h so;have:=aU.mp (aU.mp LC _ (Es e)) i (bi.mpr h);obtain⟨v,hv⟩:=cr.mp this;exact⟨v,hv,(so _ (P7 hv)).2⟩
theorem Lj{ps:List Int}{i:Nat}:Ix (ps.map V.int) (some ((i:Int)+1)) none=(ps.drop (i+1)).map V.int:=by
 unfold Ix;rw[<-List.map_drop,<-List.map_take,aa];unfold HT.sIx;simp only[];rw[if_neg (by lia)];have e:min ((i:Int)+1).toNat ps.length=min (i+1) ps.length:=by rw[show((i:Int)+1).toNat=i+1 by lia]
 rw[e];congr 1;by_cases h:i+1<=ps.length
 .rw[Nat.min_eq_left h,eI (by rw[dM];lia)]
 .rw[Nat.min_eq_right (by lia),bD,List.drop_eq_nil_of_le (by lia),List.take_nil]
abbrev Kf:LSz:=["strips","parts","thick","common","number","panes","begin","place","part","firsts","later","lines","rest","strip"]
theorem NB{f:Addr}{fd:FuncData}{k:Nat}(F:Fun K "row_by" "row_by" Cb f fd)(T:Txt mg tk)(D_rows_by_lines:Ao P w K mg base 2 "rows_by_lines" ["strips","parts","thick"] BU)(D_rows_before:Ao P w K mg base 2 "rows_before" ["firsts","later","common","lines"] Fg)(D_rows_without:Ao P w K mg base 1 "rows_without" ["by_lines","lines"] BX)(D_strip_by:Ao P w K mg base (2*k+3) "strip_by" ["strips","size","lines","number"] (B1 k)):A2 P w K mg base CX0 (2*k+4) f fd ["strips","parts","thick","common","number"] (Dn k):=by
 have S:Ak Kf ["strips","parts","thick","common","number"] (Ai Cb):=fsk;refine F.g S ?_;rintro vs H Q E ⟨st,l,ps,thick,m,common,number,out,rfl,hl,m4,pm,sa,p4,hrow,few,q⟩;refine⟨rfl,λ cdv A outer s hr=>?_⟩;have hu:=D8 hr;obtain⟨tA,hA,kA⟩:∃rd,PSs (Cs CX0 P w K mg base Kf "row_by" (Ai Cb) f cdv A outer s H E).nox ((JT (nth (A5 Cb) 2)).drop 4) rd/\∀(common number b p:Int)(n:Nat)(rest:List Int)(fa la pl:Addr)(acc ps':List P4)(w1 w7 w12 w13:Option V)(D:Dj)(H1:Hp),Same H H1->H pl=none->InM m thick p->H1 fa=some (.dK (kvB (AA thick p)))->H1 la=some (.dK (kvB (A8 rest thick)))->PnL H1 pl acc->n<(AA thick p).length->0<AJ (A8 rest thick) (Builtin.bitAnd common n)->AJ (A8 rest thick) (Builtin.bitAnd common n)<=1000000000 ->
   CN k thick p n ((number-Br (AA thick p) (A8 rest thick) common n) / AJ (A8 rest thick) (Builtin.bitAnd common n))=some ps'->acc.length+ps'.length<=100 ->
   (∀w12 w13 H',Same H H'->PnL H' pl (acc++ps'.map (NH b))->D.nx [some (.ref st),w1,some (.int thick),some (.int (Builtin.bitAnd common n)),some (.int ((number-Br (AA thick p) (A8 rest thick) common n) % AJ (A8 rest thick) (Builtin.bitAnd common n))),some (.ref pl),some (.int (b+p)),w7,some (.int p),some (.ref fa),some (.ref la),some (.int n),w12,w13] H') ->
   rd D [some (.ref st),w1,some (.int thick),some (.int common),some (.int number),some (.ref pl),some (.int b),w7,some (.int p),some (.ref fa),some (.ref la),some (.int n),w12,w13] H1:=by
  refine⟨_,(Ab (Ci (i:=4) S.nd rfl (ar rfl) (Ap D_rows_before hr (Aa (pv 9) (Aa (pv 10) (Aa (pv 3) (Aa (pv 11) Ac)))) (by lia)) LY)
  (Ab (Am (i:=3) S.nd rfl (ar rfl) (An D5 (pv 3) (pv 11)))
  (Ab (Am (i:=12) S.nd rfl (ar rfl) (Ap D_rows_without hr (Aa (pv 10) (Aa (pv 3) Ac)) (by lia)))
  (Ab (Am (i:=13) S.nd rfl (ar rfl) (Ap D_strip_by hr (Aa (pv 0) (Aa (AB (Aa (pv 2) (Aa (pv 8) Ac))) (Aa (pv 11) (Aa (An GZ (pv 4) (pv 12)) Ac)))) (by lia)))
  (Ab (AQ (OU bn dU dS IR (pv 5) (Aa (Bk rfl (A0 (pv 13)) (λ_ _ _ _ _=>(Gp (K:=K) (n:=4) rfl (Au (Aj (i:=0) (nk ["top","left","bottom","right","begin"]) rfl (ar rfl)) (Au (Aj (i:=1) (nk ["top","left","bottom","right","begin"]) rfl (ar rfl)) (Au (Aj (i:=2) (nk ["top","left","bottom","right","begin"]) rfl (ar rfl)) (Au (Aj (i:=3) (nk ["top","left","bottom","right","begin"]) rfl (ar rfl)) AU)))))) (λ_ _ _ _ _=>(AB (Aa (pv 1) (Aa (An A7 (pv 4) (pv 0)) (Aa (pv 3) (Aa (An A7 (pv 4) (pv 2)) Ac)))))) (N:=["top","left","bottom","right","begin"]) (fr:=[none,none,none,none,some 6])) Ac)))
  (Ab (Am (i:=4) S.nd rfl (ar rfl) (An Cj (pv 4) (pv 12)))
  (Ah (Ci (i:=6) S.nd rfl (di rfl) (pv 8) Da)))))))),?_⟩
  intro common number b p n rest fa la pl acc ps' w1 w7 w12 w13 D H1 s1 npl ip ha hla hpl nl pos big hsb few' qq;have r8:=(EC ip.1 (by have:=ip.2.1;lia) rest).len;have n8:=(BW thick p).2;refine⟨_,rfl,_,rfl,_,rfl,_,rfl,_,rfl,fa,la,AA thick p,A8 rest thick,common,n,rfl,ha,hla,r8,by lia,(λ i hi=>Fe (l:=thick) (t:=p) (by lia)),λ H2 s2=>⟨_,_,rfl,rfl,_,rfl,_,rfl,_,_,rfl,rfl,?_⟩⟩;have e1:(λ i j:Int=>i-j) number (Br (AA thick p) (A8 rest thick) common n)=number-Br (AA thick p) (A8 rest thick) common n:=rfl;rw[e1];clear e1;generalize number-Br (AA thick p) (A8 rest thick) common n=num at hsb qq;refine⟨_,rfl,_,rfl,la,A8 rest thick,Builtin.bitAnd common n,rfl,s2 _ _ hla,by lia,λ H3 s3=>⟨_,rfl,_,rfl,_,rfl,A1 2,λ t nt=>?_⟩⟩;generalize AJ (A8 rest thick) (Builtin.bitAnd common n)=r at hsb qq pos big;refine nv nt λ H4 s4 e4=>?_;have s14:=s2.trans (s3.trans s4);refine⟨_,rfl,_,rfl,_,rfl,_,_,rfl,rfl,Rf _ pos (by lia),st,t,thick,p,m,n,num / r,ps',rfl,e4,m4,ip,sa.same (s1.trans s14),by lia,hsb,by lia,λ ls H5 s5 n5 ⟨us,u1,u2,u3⟩=>?_⟩;obtain⟨ts,p1,p2,p3⟩:=hpl;have s15:=s14.trans s5;have tl:=congrArg List.length p3;have ul:=congrArg List.length u3;rw[aa]at tl ul;refine⟨_,rfl,.inl ⟨rfl,_,SqL.of (s15 _ _ p1)⟩,_,rfl,ls,rfl,⟨_,SqL.of u1⟩,λ acc' hacc=>AN (K:=K) (a:=ls) (ys:=A9 us) (λ i zs σ H'=>(∃x0 x1 x2 x3,σ=[x0,x1,x2,x3,some (.int b)])/\Same H5 H'/\∃ws:List (Addr×P4),zs=A9 ws/\(∀t∈ws,H' t.1=some (.tup (G3 t.2)))/\ws.map (·.2)=(ps'.map (NH b)).take i) ⟨⟨_,_,_,_,rfl⟩,Same.new hacc,[],rfl,(λ t ht=>nomatch ht),rfl⟩ (λ i zs σ H' _ _ hp=>SqL.of (hp.2.1 _ _ u1)) ?_ ?_⟩
  .rintro i v zs σ H6 hv hi hz ha6 ⟨⟨x0,x1,x2,x3,rfl⟩,s6,ws,rfl,w2,w3⟩;obtain⟨u,hu',rfl⟩:=Bx hv;have um:=ax hu';have u6:H6 u.1=some (.tup [.int u.2.1,.int u.2.2.1,.int u.2.2.2.1,.int u.2.2.2.2]):=s6 _ _ (u2 u um);refine⟨u.1,_,rfl,SqT.of u6,rfl,_,_,rfl,_,_,rfl,_,_,rfl,_,_,rfl,rfl,_,rfl,_,rfl,_,rfl,_,_,rfl,rfl,_,rfl,_,rfl,_,rfl,_,_,rfl,rfl,A1 4,λ t7 n7=>?_⟩;obtain⟨H7,e,s7,e7⟩:=nw (.tup (G3 (NH b u.2))) n7;have e:upd H6 t7 (.tup [.int u.2.2.1,.int (b+u.2.1),.int u.2.2.2.2,.int (b+u.2.2.2.1)])=H7:=e;rw[e];clear e;have ha7:=s7 _ _ ha6;have kp:∀{x:Addr}{xs:LUz}{o:LUz},H7 x=some (.tup xs)->(upd H7 acc' (.lst o)) x=some (.tup xs):=λ h=>by rw[Af (AR h ha7 (by intro z;cases z))];exact h
   have hp:ps'[i]?=some u.2:=by rw[<-u3,ay,hu'];rfl
   refine cNx.mk (aM (Al (by rw[AO];lia))) hi hz ha7 ⟨⟨_,_,_,_,rfl⟩,λ x o e=>?_,ws++[(t7,NH b u.2)],by rw[A9,A9,aj];rfl,λ t ht=>?_,?_⟩
   .rw[Af (Ag e hacc)];exact s7 _ _ (s6 _ _ e)
   .rcases aF.mp ht with ht|ht
    .exact kp (s7 _ _ (w2 t ht))
    .rw[ai.mp ht];exact kp e7
   .rw[aj,w3,aK,ay,hp];rfl
  .rintro zs σ H6 hz ha6 ⟨_,s6,ws,rfl,w2,w3⟩;rw[AO,ul,<-aa (f:=NH b),aH]at w3;have wl:=congrArg List.length w3;rw[aa,aa]at wl;have s16:=s15.trans s6;have pl6:=s16 _ _ p1;refine⟨pl,acc',A9 ts,A9 ws,rfl,rfl,pl6,ha6,aM (Al (by rw[AO,AO];lia)),?_⟩;have ea:A9 ts++A9 ws=A9 (ts++ws):=by rw[A9,A9,A9,aj]
   rw[ea];have kp:∀{x:Addr}{xs:LUz},H6 x=some (.tup xs)->(upd H6 pl (.lst (A9 (ts++ws)))) x=some (.tup xs):=λ h=>by rw[Af (AR h pl6 (by intro z;cases z))];exact h
   refine⟨_,rfl,_,rfl,_,_,rfl,rfl,pos,_,rfl,_,rfl,_,_,rfl,rfl,qq _ _ _ (λ x o e=>?_) ⟨ts++ws,Ad,λ t ht=>?_,by rw[aj,p3,w3]⟩⟩
   .rw[Af (Ag e npl)];exact s16 _ _ (s1 _ _ e)
   .rcases aF.mp ht with ht|ht
    .exact kp (s16 _ _ (p2 t ht))
    .exact kp (w2 t ht)
 obtain⟨tB,hB,kB⟩:∃rd,PSs (Cs CX0 P w K mg base Kf "row_by" (Ai Cb) f cdv A outer s H E).nox (JT (nth (A5 Cb) 2)) rd/\∀(i:Nat)(common number b p:Int)(rest:List Int)(pl:Addr)(acc r:List P4)(w9 w10 w11 w12 w13:Option V)(D:Dj)(H1:Hp),Same H H1->H pl=none->ps[i]?=some p->ps.drop (i+1)=rest->PnL H1 pl acc->Ks (CN k) thick (p::rest) common number b=some r->acc.length+r.length<=100 ->
   (∀common number r' acc' w9 w10 w11 w12 w13 H',Same H H'->PnL H' pl acc'->Ks (CN k) thick rest common number (b+p)=some r'->acc'++r'=acc++r->D.nx [some (.ref st),some (.ref l),some (.int thick),some (.int common),some (.int number),some (.ref pl),some (.int (b+p)),some (.int i),some (.int p),w9,w10,w11,w12,w13] H') ->
   rd D [some (.ref st),some (.ref l),some (.int thick),some (.int common),some (.int number),some (.ref pl),some (.int b),some (.int i),some (.int p),w9,w10,w11,w12,w13] H1:=by
  refine⟨_,(Ab (Am (i:=9) S.nd rfl (ar rfl) (DJ hu (pv 0) (AB (Aa (pv 2) (Aa (pv 8) Ac))) (λ_ _=>rfl)))
  (Ab (Am (i:=10) S.nd rfl (ar rfl) (Ap D_rows_by_lines hr (Aa (pv 0) (Aa (D1 EB (pv 1) (EG (An A7 (pv 7) Ae)) EH) (Aa (pv 2) Ac))) (by lia)))
  (Ab (Am (i:=11) S.nd rfl (ar rfl) Ae)
  (Ab (Dz PassesOwn.never (Aw BN (Ap D_rows_before hr (Aa (pv 9) (Aa (pv 10) (Aa (pv 3) (Aa (An A7 (pv 11) Ae) Ac)))) (by lia)) (pv 4) (Az _)) (Ah (Ci (i:=11) S.nd rfl (ar rfl) Ae Da)))
  hA)))),?_⟩
  intro i common number b p rest pl acc r w9 w10 w11 w12 w13 D H1 s1 npl hp hd hpl hrow few qq;have ip:=pm p (ax hp);rw[Ks]at hrow;obtain⟨n,hn,hrow⟩:=bS.mp hrow;split at hrow
  case isFalse=>cases hrow
  rename_i hpos;obtain⟨ps',hsb,hrow⟩:=bS.mp hrow;obtain⟨r',hr',rfl⟩:=aZ.mp hrow;obtain⟨kvs,hst,hs⟩:=sa;obtain⟨sd,v1,v2⟩:=hs thick p ip;refine⟨_,rfl,_,rfl,_,rfl,A1 2,λ t nt=>?_⟩;refine nv nt λ H2 s2 e2=>?_;have s02:=s1.trans s2;have dg:DGet H2 st (.ref t) (some (.ref sd)):=by
   have:=DGet.t (H:=H2) (a:=st) (b:=t) (k:=[Sum.inl thick,Sum.inl p]) (s02 _ _ hst) e2;rw[v1]at this;exact this
  refine⟨st,_,rfl,dg,_,rfl,_,rfl,_,rfl,_,_,rfl,rfl,_,rfl,l,_,rfl,SqL.of (s02 _ _ hl),λ lr nlr=>?_⟩;rw[Lj,hd];refine nv nlr λ H3 s3 e3=>?_;have s03:=s02.trans s3;have pr:∀x∈rest,x∈ps:=λ x hx=>eZ (by rw[hd];exact hx);refine⟨_,rfl,st,lr,rest,thick,rfl,ip.1,by have:=ip.2.1;lia,e3,λ x hx=>⟨(pm x (pr x hx)).2.2.1,by have:=(pm x (pr x hx)).2.2.2;lia⟩,⟨kvs,s03 _ _ hst,λ a c ⟨ea,hc⟩=>?_⟩,λ la H4 s4 n4 h4=>?_⟩
  .rw[ea];obtain⟨sd,v1,v2⟩:=hs thick c (pm c (pr c hc));exact⟨sd,v1,s03 _ _ v2⟩
  have s04:=s03.trans s4;have s14:=s2.trans (s3.trans s4);have n8:=(BW thick p).2;have r8:=(EC ip.1 (by have:=ip.2.1;lia) rest).len;refine⟨λ c σ H'=>∃j:Nat,σ=[some (.ref st),some (.ref l),some (.int thick),some (.int common),some (.int number),some (.ref pl),some (.int b),some (.int i),some (.int p),some (.ref sd),some (.ref la),some (.int j),w12,w13]/\Same H4 H'/\MO (AA thick p) (A8 rest thick) common number c j=some n,⟨9,0,rfl,Same.refl _,hn⟩,?_⟩;rintro c σ H5 ⟨j,rfl,s5,hj⟩;have s05:=s04.trans s5;cases c with
  |zero=>cases hj
  |succ c =>
   rw[MO]at hj;split at hj
   case isFalse=>cases hj
   rename_i jl;refine⟨_,rfl,_,rfl,_,rfl,_,rfl,_,_,rfl,rfl,sd,la,AA thick p,A8 rest thick,common,j+1,rfl,s05 _ _ v2,s5 _ _ h4,r8,by lia,(λ x hx=>Fe (by lia)),λ H6 s6=>⟨_,rfl,_,_,rfl,rfl,_,rfl,?_⟩⟩;by_cases hc:Br (AA thick p) (A8 rest thick) common (j+1)<=number
   .rw[if_pos hc]at hj;refine Cq (decide_eq_true hc) ⟨_,λ σ' H' h=>⟨c,bg c,h⟩,_,rfl,_,_,rfl,rfl,j+1,rfl,s5.trans s6,hj⟩
   .rw[if_neg hc]at hj;cases hj;refine Bm (decide_eq_false hc) ?_;have s06:=s05.trans s6;have s16:=s14.trans (s5.trans s6);have few2:=few;rw[av,aa]at few2;exact kA common number b p _ rest sd la pl acc ps' _ _ _ _ D H6 s06 npl ip (s06 _ _ v2) ((s5.trans s6) _ _ h4) (hpl.same s16) jl hpos.1 hpos.2 hsb (by lia) λ w12 w13 H' s' pn=>qq _ _ r' _ _ _ _ _ _ H' s' pn hr' (by rw[aW])
 refine⟨_,(Ab (Am (i:=5) S.nd rfl (ar rfl) (AY Ac))
  (Ab (Am (i:=6) S.nd rfl (di rfl) Ae)
  (Ab (A4 PassesOwn.never rfl (Go rfl T.z_enumerate (Aa (pv 1) Ac)) (B4 rfl (Au (Aj (i:=7) S.nd rfl (ar rfl)) (Au (Aj (i:=8) S.nd rfl (ar rfl)) AU))) hB)
  (Ah (Aq (pv 5)))))),?_⟩
 refine⟨A1 0,λ pl npl=>?_⟩;refine nv npl λ H0 s0 e0=>?_;refine⟨_,rfl,l,rfl,⟨_,SqL.of (s0 _ _ hl)⟩,ET (K:=K) (a:=l) (xs:=ps.map V.int) (λ i σ H'=>∃(common number b:Int)(acc r:List P4)(w7 w8 w9 w10 w11 w12 w13:Option V),σ=[some (.ref st),some (.ref l),some (.int thick),some (.int common),some (.int number),some (.ref pl),some (.int b),w7,w8,w9,w10,w11,w12,w13]/\Same H H'/\PnL H' pl acc/\Ks (CN k) thick (ps.drop i) common number b=some r/\acc++r=out) ⟨common,number,0,[],out,_,_,_,_,_,_,_,rfl,s0,⟨[],e0,(λ t ht=>nomatch ht),rfl⟩,hrow,rfl⟩ (λ i σ H' _ hp=>by obtain⟨_,_,_,_,_,_,_,_,_,_,_,_,_,s',_⟩:=hp;exact SqL.of (s' _ _ hl)) ?_ ?_⟩
 .rintro i v σ H1 t hv ⟨common,number,b,acc,r,w7,w8,w9,w10,w11,w12,w13,rfl,s1,pn,hr1,ho⟩ nt;obtain⟨p,hp,rfl⟩:=ints_get hv;refine nv nt λ H2 s2 e2=>?_;have il:=(aG.mp hp).1;have dr:ps.drop i=p::ps.drop (i+1):=by rw[bM il];rw[ag il]at hp;rw[Option.some.inj hp]
  rw[dr]at hr1;refine⟨t,_,rfl,SqT.of e2,rfl,_,_,rfl,_,_,rfl,rfl,kB i common number b p _ pl acc r _ _ _ _ _ _ H2 (s1.trans s2) npl hp rfl (pn.same s2) hr1 (by rw[<-av,ho];exact few) λ c' n' r' a' y9 y10 y11 y12 y13 H' s' pn' hr' he=>⟨c',n',_,a',r',_,_,_,_,_,_,_,rfl,s',pn',hr',by rw[he];exact ho⟩⟩
 .rintro σ H1 ⟨common,number,b,acc,r,w7,w8,w9,w10,w11,w12,w13,rfl,s1,pn,hr1,ho⟩;rw[aa,bD]at hr1;cases hr1;rw[aY]at ho;exact⟨_,rfl,q pl H1 s1 npl (by rw[<-ho];exact pn)⟩
theorem Kl{vs:LUz}{H:Hp}{Q:VK}{E:XK}:¬B1 0 vs H Q E:=by
 rintro⟨st,sz,a,b,m,n,number,out,_,_,_,_,_,_,h,_⟩;cases h
theorem N6:∀(a:Fin 5)(n:Fin 8),0<a.val->(∀p∈A6 (n.val:Int) ((a.val:Int)-1).toNat,1<=p/\p<=a.val)/\(A6 (n.val:Int) ((a.val:Int)-1).toNat).length<=4:=by decide +kernel
theorem D4{a:Int}{n:Nat}(a1:1<=a)(a4:a<=4)(n7:n<=7):(∀p∈A6 (n:Int) (a-1).toNat,1<=p/\p<=a)/\(A6 (n:Int) (a-1).toNat).length<=4:=by
 have:=N6 ⟨a.toNat,by lia⟩ ⟨n,by lia⟩ (by show 0<a.toNat;lia);rw[show((a.toNat:Nat):Int)=a by lia]at this;exact this
theorem E1:Ak ["strips","size","lines","number"] ["strips","size","lines","number"] (Ai Ed):=fsk
theorem K6{f:Addr}{fd:FuncData}{k:Nat}(F:Fun K "strip_by" "strip_by" Ed f fd)(D_all_lines:Ao P w K mg base 1 "all_lines" ["length"] EA)(D_parts_between:Ao P w K mg base 1 "parts_between" ["lines","length"] CC)(D_row_by:Ao P w K mg base (2*k+4) "row_by" ["strips","parts","thick","common","number"] (Dn k)):A2 P w K mg base CX0 (2*k+5) f fd ["strips","size","lines","number"] (B1 (k+1)):=by
 have S:=E1;refine F.g S ?_;rintro vs H Q E ⟨st,sz,a,b,m,n,number,out,rfl,hsz,m4,⟨a1,am,b1,bm⟩,sa,n7,hs,few,q⟩;refine⟨rfl,λ cdv A outer s hr=>?_⟩;rw[CN]at hs;refine⟨_,(Ab (AG (Aw Ck (pv 2) Ae (Az _)) (Ah (Aq (AY (Aa (AB (Aa Ae (Aa Ae (Aa (As Ar (pv 1) Ae (λ_ _=>rfl)) (Aa (As Ar (pv 1) Ae (λ_ _=>rfl)) Ac))))) Ac)))) Ax)
  (Ah (Aq (Ap D_row_by hr (Aa (pv 0) (Aa (Ap D_parts_between hr (Aa (pv 2) (Aa (As Ar (pv 1) Ae (λ_ _=>rfl)) Ac)) (by lia)) (Aa (As Ar (pv 1) Ae (λ_ _=>rfl)) (Aa (Ap D_all_lines hr (Aa (As Ar (pv 1) Ae (λ_ _=>rfl)) Ac) (by lia)) (Aa (pv 3) Ac))))) (by lia))))),?_⟩
 refine⟨_,rfl,rfl,_,rfl,?_⟩;by_cases c:n=0
 .rw[if_pos c]at hs;cases hs;refine Cq (decide_eq_true (by rw[c];rfl)) ?_;refine⟨_,rfl,sz,_,_,_,rfl,rfl,SqT.of hsz,FQ,_,rfl,sz,_,_,_,rfl,rfl,SqT.of hsz,FR,A1 4,λ t nt=>?_⟩;obtain⟨H1,e,s1,e1⟩:=nw (.tup (G3 (0,0,b,a))) nt;have e:upd H t (.tup [.int 0,.int 0,.int b,.int a])=H1:=e;rw[e];clear e;refine⟨A1 1,λ l nl=>q l _ (s1.trans (Same.new nl)) (IQ s1 nl) ⟨[(t,(0,0,b,a))],Ad,λ u hu=>?_,rfl⟩⟩;rw[ai.mp hu];exact(Same.new nl) _ _ e1
 .rw[if_neg c]at hs;refine Bm (decide_eq_false (λ z=>c (by have:=V.int.inj z;lia))) ?_;have pl:=D4 (n:=n) a1 (by lia) n7;refine⟨_,rfl,_,rfl,_,rfl,sz,_,_,_,rfl,rfl,SqT.of hsz,FR,(n:Int),a,rfl,a1,by lia,λ lp H1 s1 n1 h1=>?_⟩;refine⟨_,rfl,sz,_,_,_,rfl,rfl,SqT.of (s1 _ _ hsz),FQ,_,rfl,sz,_,_,_,rfl,rfl,SqT.of (s1 _ _ hsz),FQ,b,rfl,b1,by lia,_,rfl,?_⟩;exact⟨st,lp,_,b,m,BS b,number,out,rfl,h1,m4,λ p hp=>⟨b1,bm,(pl.1 p hp).1,by have:=(pl.1 p hp).2;lia⟩,sa.same s1,pl.2,hs,few,λ l' H2 s2 n2 pn=>q l' H2 (s1.trans s2) (IQ s1 n2) pn⟩
def LB(d:BL):Int:=(d.map (·.2)).sum
theorem JQ(d:BL):(kvB d).map (·.2)=(d.map (·.2)).map V.int:=by unfold kvB;rw[aJ,aJ];rfl
def O0(w h:Int):Nat->Nat->Int->Option (Nat×Int)
 |0,_,_=>none
 |k+1,n,number=>if n<=7 then (if LB (A8 (A6 n (w-1).toNat) h)<=number then O0 w h k (n+1) (number-LB (A8 (A6 n (w-1).toNat) h)) else some (n,number)) else none
def GW(w h number:Int):Option (List P4):=(O0 w h 9 0 number).bind λ x=>Ks (CN 9) h (A6 x.1 (w-1).toNat) 0 x.2 0
inductive FW(vs:LUz)(H:Hp)(Q:VK)(E:XK):Prop
 |mk (st:Addr) (ww hh m number:Int) (out:List P4) (h0:vs=[.ref st,.int ww,.int hh,.int number]) (h1:m<=4) (h2:InM m ww hh) (h3:StAt H st (InM m)) (h4:GW ww hh number=some out) (h5:out.length<=100) (h6:∀l H',Same H H'->H l=none->PnL H' l out->Q (.ref l) H'):FW vs H Q E
def GC:Sp:=λ vs H Q E=>FW vs H Q E
theorem T4:∀a:Fin 5,0<a.val->A6 0 ((a.val:Int)-1).toNat=[(a.val:Int)]:=by decide +kernel
theorem Sj{a:Int}(a1:1<=a)(a4:a<=4):A6 ((0:Nat):Int) (a-1).toNat=[a]:=by
 have:=T4 ⟨a.toNat,by lia⟩ (by show 0<a.toNat;lia);rw[show((a.toNat:Nat):Int)=a by lia]at this;exact this
abbrev Om:LSz:=["strips","width","height","number","lines","many"]
theorem K8{f:Addr}{fd:FuncData}(F:Fun K "panes_by" "panes_by" Ef f fd)(T:Txt mg tk)(D_parts_between:Ao P w K mg base 1 "parts_between" ["lines","length"] CC)(D_rows_by_lines:Ao P w K mg base 2 "rows_by_lines" ["strips","parts","thick"] BU)(D_row_by:Ao P w K mg base 22 "row_by" ["strips","parts","thick","common","number"] (Dn 9)):A2 P w K mg base CX0 23 f fd ["strips","width","height","number"] GC:=by
 have S:Ak Om ["strips","width","height","number"] (Ai Ef):=fsk;refine F.g S ?_;rintro vs H Q E ⟨st,ww,hh,m,number,out,rfl,m4,⟨w1,wm,h1,hm⟩,sa,hp,few,q⟩;refine⟨rfl,λ cdv A outer s hr=>?_⟩;obtain⟨⟨n,num⟩,hn,hrow⟩:=bS.mp hp;have sr:∀{H':Hp}{ps:List Int},Same H H'->(∀p∈ps,1<=p/\p<=ww)->StAt H' st (λ a b=>a=hh/\b∈ps):=λ s' hps=>by
  obtain⟨kvs,hst,hs⟩:=sa;exact⟨kvs,s' _ _ hst,λ a b ⟨ea,hb⟩=>by
   rw[ea];obtain⟨sd,v1,v2⟩:=hs hh b ⟨h1,hm,(hps b hb).1,by have:=(hps b hb).2;lia⟩;exact⟨sd,v1,s' _ _ v2⟩⟩
 refine⟨_,(Ab (Am (i:=4) S.nd rfl (ar rfl) Ae)
  (Ab (Am (i:=5) S.nd rfl (ar rfl) (Av F8 rfl T.z_sum rfl (Aa (D3 bR cm cR Ep (Ap D_rows_by_lines hr (Aa (pv 0) (Aa (AY (Aa (pv 1) Ac)) (Aa (pv 2) Ac))))) Ac)))
  (Ab (Dz PassesOwn.never (Aw BN (pv 5) (pv 3) (Az _)) (Ab (Ci (i:=3) S.nd rfl (ar rfl) (pv 5) LY)
  (Ab (Ci (i:=4) S.nd rfl (ar rfl) Ae Da)
  (Ah (Am (i:=5) S.nd rfl (ar rfl) (Av F8 rfl T.z_sum rfl (Aa (D3 bR cm cR Ep (Ap D_rows_by_lines hr (Aa (pv 0) (Aa (Ap D_parts_between hr (Aa (pv 4) (Aa (pv 1) Ac))) (Aa (pv 2) Ac))))) Ac)))))))
  (Ah (Aq (Ap D_row_by hr (Aa (pv 0) (Aa (Ap D_parts_between hr (Aa (pv 4) (Aa (pv 1) Ac))) (Aa (pv 2) (Aa Ae (Aa (pv 3) Ac))))))))))),?_⟩
 refine⟨_,rfl,_,rfl,A1 1,λ l0 n0=>?_⟩;refine nv n0 λ H0 s0 e0=>?_;refine⟨_,rfl,st,l0,[ww],hh,rfl,h1,by lia,e0,λ p hp=>by rw[ai.mp hp];exact⟨w1,by lia⟩,sr s0 (λ p hp=>by rw[ai.mp hp];exact⟨w1,bf _⟩),λ d1 H1 s1 n1 hd1=>⟨.inr (.inr (.inl ⟨rfl,.inl ⟨_,hd1⟩⟩)),d1,_,rfl,rfl,hd1,λ v nvw=>?_⟩⟩;refine nv nvw λ H2 s2 e2=>?_;have s02:=s0.trans (s1.trans s2);refine⟨v,d1,_,_,rfl,e2,s2 _ _ hd1,JQ _,rfl,?_⟩;refine⟨λ c σ H'=>∃(j:Nat)(nm:Int),σ=[some (.ref st),some (.int ww),some (.int hh),some (.int nm),some (.int j),some (.int (LB (A8 (A6 j (ww-1).toNat) hh)))]/\Same H H'/\O0 ww hh c j nm=some (n,num),⟨9,0,number,by rw[Sj w1 (by lia)];rfl,s02,hn⟩,?_⟩;rintro c σ H3 ⟨j,nm,rfl,s3,hj⟩;cases c with
 |zero=>cases hj
 |succ c =>
  rw[O0]at hj;split at hj
  case isFalse=>cases hj
  rename_i j7;refine⟨_,rfl,_,rfl,_,_,rfl,rfl,_,rfl,?_⟩;by_cases hc:LB (A8 (A6 j (ww-1).toNat) hh)<=nm
  .rw[if_pos hc]at hj;have j8:j+1<=7:=by
    cases c with
    |zero=>cases hj
    |succ c =>
     rw[O0]at hj;split at hj
     .assumption
     .cases hj
   have pl:=D4 (n:=j+1) w1 (by lia) j8;refine Cq (decide_eq_true hc) ⟨_,λ σ' H' h=>⟨c,bg c,h⟩,_,rfl,_,rfl,_,_,rfl,rfl,_,rfl,_,_,rfl,rfl,_,rfl,_,rfl,_,rfl,((j+1:Nat):Int),ww,rfl,w1,by lia,λ lp H4 s4 n4 h4=>⟨_,rfl,st,lp,_,hh,rfl,h1,by lia,h4,λ p hp=>⟨(pl.1 p hp).1,by have:=(pl.1 p hp).2;lia⟩,sr (s3.trans s4) pl.1,λ d5 H5 s5 n5 h5=>⟨.inr (.inr (.inl ⟨rfl,.inl ⟨_,h5⟩⟩)),d5,_,rfl,rfl,h5,λ v nvw=>?_⟩⟩⟩;refine nv nvw λ H6 s6 e6=>?_;exact⟨v,d5,_,_,rfl,e6,s6 _ _ h5,JQ _,rfl,j+1,_,rfl,s3.trans (s4.trans (s5.trans s6)),hj⟩
  .rw[if_neg hc]at hj;cases hj;refine Bm (decide_eq_false hc) ?_;have pl:=D4 (n:=n) w1 (by lia) j7;refine⟨_,rfl,_,rfl,_,rfl,(n:Int),ww,rfl,w1,by lia,λ lp H4 s4 n4 h4=>⟨_,rfl,_,rfl,st,lp,_,hh,m,0,num,out,rfl,h4,m4,λ p hp=>⟨h1,hm,(pl.1 p hp).1,by have:=(pl.1 p hp).2;lia⟩,sa.same (s3.trans s4),pl.2,hrow,few,λ l' H5 s5 n5 pn=>q l' H5 (s3.trans (s4.trans s5)) (IQ (s3.trans s4) n5) pn⟩⟩
abbrev rk(q:P4):Rk:=⟨q.1,q.2.1,q.2.2.1,q.2.2.2⟩
def B6(ps:List P4)(len thick:Int):Int:=((lns (ps.map rk) ⟨0,0,thick,len⟩ true).map λ l=>1*2^(l-1).toNat).sum
inductive FZ(vs:LUz)(H:Hp)(Q:VK)(E:XK):Prop
 |mk (l:Addr) (ps:List P4) (len thick:Int) (h0:vs=[.ref l,.int len,.int thick]) (h1:PnL H l ps) (h2:ps.length<=100) (h3:1<=len) (h4:len<=4) (h5:1<=thick) (h6:thick<=4) (h7:∀H',Same H H'->Q (.int (B6 ps len thick)) H'):FZ vs H Q E
def Ea:Sp:=λ vs H Q E=>FZ vs H Q E
theorem QL{rs:List Rk}{thick len:Int}(h:len<=12):(lns rs ⟨0,0,thick,len⟩ true).length<=12:=by
 unfold lns;refine aR (KU _) ?_;show(len-(0+1)).toNat<=12;lia
theorem KA{f:Addr}{fd:FuncData}(F:Fun K "lines_of" "lines_of" Eh f fd)(T:Txt mg tk)(D_lines_through:Ao P w K mg base 3 "lines_through" ["block","panes","side"] LD):A2 P w K mg base CX0 4 f fd ["panes","length","thick"] Ea:=by
 have S:Ak ["panes","length","thick"] ["panes","length","thick"] (Ai Eh):=fsk;refine F.g S ?_;rintro vs H Q E ⟨l,ps,len,thick,rfl,⟨ts,p1,p2,p3⟩,few,l1,l4,t1,t4,q⟩;refine⟨rfl,λ cdv A outer s hr=>?_⟩;have tl:=congrArg List.length p3;rw[aa]at tl;refine⟨_,(Ah (Aq (Av HV rfl T.z_sum rfl (Aa (Bk rfl (A0 (Ap D_lines_through hr (Aa (AB (Aa Ae (Aa Ae (Aa (pv 2) (Aa (pv 1) Ac))))) (Aa (pv 0) (Aa (AI (v:=.int 1) rfl T.g_LEFT ⟨_,rfl⟩) Ac))))) (λ_ _ _ _ _=>pgk (nk ["line"])) (λ_ _ _ _ _=>(An JB Ae (An C6 (pv 0) Ae))) (N:=["line"]) (fr:=[none])) Ac)))),?_⟩;refine⟨_,rfl,_,rfl,A1 4,λ b nb=>?_⟩;refine nv nb λ H0 s0 e0=>?_;have rr:A9 (ts.map λ t=>(t.1,rk t.2))=A9 ts:=by rw[A9,A9,aJ];rfl
 have rc:rcs (ts.map λ t=>(t.1,rk t.2))=ps.map rk:=by rw[rcs,aJ,<-p3,aJ];rfl
 have ok:Rk.ok ⟨0,0,thick,len⟩:=⟨by show(0:Int)<thick;lia,by show(0:Int)<len;lia⟩;refine⟨_,rfl,b,l,⟨0,0,thick,len⟩,ts.map λ t=>(t.1,rk t.2),true,rfl,e0,by rw[rr];exact s0 _ _ p1,λ t ht=>?_,by rw[aa];lia,ok,λ u=>by cases u;exact⟨bf _,by show thick<=12;lia⟩;exact⟨bf _,by show len<=12;lia⟩,λ c H1 s1 h1=>?_⟩
 .obtain⟨u,hu,rfl⟩:=az.mp ht;exact s0 _ _ (p2 u hu)
 rw[rc]at h1;have ml:∀a∈lns (ps.map rk) ⟨0,0,thick,len⟩ true,0<a/\a<4:=λ a ha=>by
  have:=(Gs ok).mp ha;exact⟨this.1,by have h2:a<len:=this.2.1;lia⟩
 have s01:=s0.trans s1;have ll:(lns (ps.map rk) ⟨0,0,thick,len⟩ true).length<=12:=QL (by show len<=12;lia);have q':∀H',Same H H'->Q (.int ((lns (ps.map rk) ⟨0,0,thick,len⟩ true).map λ l=>1*2^(l-1).toNat).sum) H':=q;generalize lns (ps.map rk) ⟨0,0,thick,len⟩ true=ls at h1 ml ll q';refine⟨c,rfl,⟨_,SqL.of h1⟩,λ acc hacc=>AN (K:=K) (a:=c) (ys:=ls.map V.int) (λ i zs σ H'=>(∃x,σ=[x])/\Same H1 H'/\zs=((ls.take i).map λ l=>(1*2^(l-1).toNat:Int)).map V.int) ⟨⟨_,rfl⟩,Same.new hacc,rfl⟩ (λ i zs σ H' _ _ hp=>SqL.of (hp.2.1 _ _ h1)) ?_ ?_⟩
 .rintro i v zs σ H2 hv hi hz ha2 ⟨⟨x,rfl⟩,s2,rfl⟩;obtain⟨a,ha,rfl⟩:=ints_get hv;have am:=ml a (ax ha);refine⟨_,rfl,_,_,rfl,rfl,_,_,rfl,rfl,⟨by lia,by lia,by decide⟩,cNx.mk (aM (Al (by rw[aa];lia))) hi hz ha2 ⟨⟨_,rfl⟩,λ x o e=>?_,?_⟩⟩
  .rw[Af (Ag e hacc)];exact s2 _ _ e
  .rw[aK,ha,aj,aj];rfl
 .rintro zs σ H2 hz ha2 ⟨_,s2,rfl⟩;rw[aa,aH]at ha2;exact⟨acc,_,rfl,SqL.of ha2,rfl,q' H2 (s01.trans s2)⟩
def atF(ps:List P4)(b p:Int):List P4:=(ps.filter λ q=>decide (b<=q.2.1)&&decide (q.2.1<b+p)).map λ q=>(q.2.1-b,q.1,q.2.2.2-b,q.2.2.1)
inductive FU(vs:LUz)(H:Hp)(Q:VK)(E:XK):Prop
 |mk (l:Addr) (ps:List P4) (b p:Int) (h0:vs=[.ref l,.int b,.int p]) (h1:PnL H l ps) (h2:ps.length<=100) (h3:∀l' H',Same H H'->H l'=none->PnL H' l' (atF ps b p)->Q (.ref l') H'):FU vs H Q E
def GA:Sp:=λ vs H Q E=>FU vs H Q E
theorem K7{f:Addr}{fd:FuncData}(F:Fun K "strip_at" "strip_at" Ee f fd)(T:Txt mg tk):A2 P w K mg base CX0 1 f fd ["panes","begin","part"] GA:=by
 have S:Ak ["panes","begin","part","inner"] ["panes","begin","part"] (Ai Ee):=fsk;refine F.g S ?_;rintro vs H Q E ⟨l,ps,b,p,rfl,⟨ts,p1,p2,p3⟩,few,q⟩;refine⟨rfl,λ cdv A outer s hr=>?_⟩;have tl:=congrArg List.length p3;rw[aa]at tl;refine⟨_,(Ab (D0 rfl (Aj (i:=3) S.nd rfl (ar rfl)) (A0 (pv 0)) (λ_ _ _ _ _=>pgk (nk ["pane","begin","part"])) (λ_ _ _ _ _=>(GQ BN Df (pv 1) (As (Bq (K:=K)) (pv 0) (AI (v:=.int 1) rfl T.g_LEFT ⟨_,rfl⟩) (λ_ _=>rfl)) (An A7 (pv 1) (pv 2)))) (λ_ _ _ _ _=>(pv 0)) (N:=["pane","begin","part"]) (fr:=[none,some 1,some 2]))
  (Ah (Aq (Bk rfl (A0 (pv 3)) (λ_ _ _ _ _=>(Gp (K:=K) (n:=4) rfl (Au (Aj (i:=0) (nk ["top","left","bottom","right","begin"]) rfl (ar rfl)) (Au (Aj (i:=1) (nk ["top","left","bottom","right","begin"]) rfl (ar rfl)) (Au (Aj (i:=2) (nk ["top","left","bottom","right","begin"]) rfl (ar rfl)) (Au (Aj (i:=3) (nk ["top","left","bottom","right","begin"]) rfl (ar rfl)) AU)))))) (λ_ _ _ _ _=>(AB (Aa (An C6 (pv 1) (pv 4)) (Aa (pv 0) (Aa (An C6 (pv 3) (pv 4)) (Aa (pv 2) Ac)))))) (N:=["top","left","bottom","right","begin"]) (fr:=[none,none,none,none,some 1]))))),?_⟩
 refine⟨_,rfl,l,rfl,⟨_,SqL.of p1⟩,λ acc hacc=>B8 (K:=K) (a:=l) (ys:=A9 ts) (λ i zs σ H'=>(∃x,σ=[x,some (.int b),some (.int p)])/\Same H H'/\∃us:List (Addr×P4),zs=A9 us/\(∀t∈us,H' t.1=some (.tup (G3 t.2)))/\us.map (·.2)=(ps.take i).filter λ q=>decide (b<=q.2.1)&&decide (q.2.1<b+p)) ⟨⟨_,rfl⟩,Same.new hacc,[],rfl,(λ t ht=>nomatch ht),rfl⟩ (λ i zs σ H' _ _ hp=>SqL.of (hp.2.1 _ _ p1)) ?_ ?_⟩
 .rintro i v zs σ H1 hv hi hz ha1 ⟨⟨x,rfl⟩,s1,us,rfl,u2,u3⟩;obtain⟨u,hu',rfl⟩:=Bx hv;have u1:H1 u.1=some (.tup [.int u.2.1,.int u.2.2.1,.int u.2.2.2.1,.int u.2.2.2.2]):=s1 _ _ (p2 u (ax hu'));have hp:ps[i]?=some u.2:=by rw[<-p3,ay,hu'];rfl
  have tk:ps.take (i+1)=ps.take i++[u.2]:=by rw[aK,hp];rfl
  have kp:∀{x:Addr}{xs o:LUz},H1 x=some (.tup xs)->(upd H1 acc (.lst o)) x=some (.tup xs):=λ h=>by rw[Af (AR h ha1 (by intro z;cases z))];exact h
  have no:(decide (b<=u.2.2.1)&&decide (u.2.2.1<b+p))=false->us.map (·.2)=(ps.take (i+1)).filter λ q=>decide (b<=q.2.1)&&decide (q.2.1<b+p):=λ z=>by
   rw[tk,ba,u3,eG (by rw[z];decide),bK,aY]
  refine⟨_,rfl,_,rfl,u.1,_,_,_,rfl,rfl,SqT.of u1,at1,_,_,rfl,rfl,_,rfl,?_⟩;by_cases c1:b<=u.2.2.1
  .refine Cq (decide_eq_true c1) ⟨_,rfl,_,rfl,_,_,rfl,rfl,_,_,rfl,rfl,_,rfl,?_⟩;by_cases c2:u.2.2.1<b+p
   .rw[decide_eq_true c2];refine⟨_,rfl,fNx.mk (aM (Al (by rw[AO];lia))) hi hz ha1 ⟨⟨_,rfl⟩,λ x o e=>by rw[Af (Ag e hacc)];exact s1 _ _ e,us++[u],by rw[A9,A9,aj];rfl,λ t ht=>?_,?_⟩⟩
    .rcases aF.mp ht with ht|ht
     .exact kp (u2 t ht)
     .rw[ai.mp ht];exact kp u1
    .rw[tk,ba,aj,u3,eF (by rw[decide_eq_true c1,decide_eq_true c2];rfl)];rfl
   .rw[decide_eq_false c2];exact fSk.mk hi hz ha1 ⟨⟨_,rfl⟩,s1,us,rfl,u2,no (by rw[decide_eq_false c2,dk])⟩
  .refine Bm (decide_eq_false c1) ⟨_,rfl,?_⟩;exact fSk.mk hi hz ha1 ⟨⟨_,rfl⟩,s1,us,rfl,u2,no (by rw[decide_eq_false c1];rfl)⟩
 .rintro zs σ H1 hz ha1 ⟨⟨x,rfl⟩,s1,us,rfl,u2,u3⟩;rw[AO,tl,aH]at u3;have ul:=br (λ q:P4=>decide (b<=q.2.1)&&decide (q.2.1<b+p)) ps;have ul2:=congrArg List.length u3;rw[aa]at ul2;refine⟨_,rfl,acc,rfl,⟨_,SqL.of ha1⟩,λ acc2 hacc2=>AN (K:=K) (a:=acc) (ys:=A9 us) (λ i zs σ H'=>(∃x0 x1 x2 x3,σ=[x0,x1,x2,x3,some (.int b)])/\Same H1 H'/\∃ws:List (Addr×P4),zs=A9 ws/\(∀t∈ws,H' t.1=some (.tup (G3 t.2)))/\ws.map (·.2)=(atF ps b p).take i) ⟨⟨_,_,_,_,rfl⟩,Same.new hacc2,[],rfl,(λ t ht=>nomatch ht),rfl⟩ (λ i zs σ H' _ _ hp=>SqL.of (hp.2.1 _ _ ha1)) ?_ ?_⟩
  .rintro i v zs σ H6 hv hi hz ha6 ⟨⟨x0,x1,x2,x3,rfl⟩,s6,ws,rfl,w2,w3⟩;obtain⟨u,hu',rfl⟩:=Bx hv;have u6:H6 u.1=some (.tup [.int u.2.1,.int u.2.2.1,.int u.2.2.2.1,.int u.2.2.2.2]):=s6 _ _ (u2 u (ax hu'));refine⟨u.1,_,rfl,SqT.of u6,rfl,_,_,rfl,_,_,rfl,_,_,rfl,_,_,rfl,rfl,_,rfl,_,rfl,_,_,rfl,rfl,_,rfl,_,rfl,_,rfl,_,_,rfl,rfl,_,rfl,A1 4,λ t7 n7=>?_⟩;obtain⟨H7,e,s7,e7⟩:=nw (.tup (G3 (u.2.2.1-b,u.2.1,u.2.2.2.2-b,u.2.2.2.1))) n7;have e:upd H6 t7 (.tup [.int (u.2.2.1-b),.int u.2.1,.int (u.2.2.2.2-b),.int u.2.2.2.1])=H7:=e;rw[e];clear e;have ha7:=s7 _ _ ha6;have kp:∀{x:Addr}{xs o:LUz},H7 x=some (.tup xs)->(upd H7 acc2 (.lst o)) x=some (.tup xs):=λ h=>by rw[Af (AR h ha7 (by intro z;cases z))];exact h
   have hp:(ps.filter λ q=>decide (b<=q.2.1)&&decide (q.2.1<b+p))[i]?=some u.2:=by rw[<-u3,ay,hu'];rfl
   refine cNx.mk (aM (Al (by rw[AO];lia))) hi hz ha7 ⟨⟨_,_,_,_,rfl⟩,λ x o e=>?_,ws++[(t7,(u.2.2.1-b,u.2.1,u.2.2.2.2-b,u.2.2.2.1))],by rw[A9,A9,aj];rfl,λ t ht=>?_,?_⟩
   .rw[Af (Ag e hacc2)];exact s7 _ _ (s6 _ _ e)
   .rcases aF.mp ht with ht|ht
    .exact kp (s7 _ _ (w2 t ht))
    .rw[ai.mp ht];exact kp e7
   .rw[aj,w3,aK];unfold atF;rw[ay,hp];rfl
  .rintro zs σ H6 hz ha6 ⟨_,s6,ws,rfl,w2,w3⟩;have al:(atF ps b p).length=us.length:=by unfold atF;rw[aa];exact ul2.symm
   rw[AO,<-al,aH]at w3;exact q acc2 H6 (s1.trans s6) (IQ s1 hacc2) ⟨ws,ha6,w2,w3⟩
def KG(ns:List P4->Int->Int->Nat->Option Int)(thick:Int)(ps:List P4):List Int->Int->Int->Option Int
 |[],_,_=>some 0
 |p::rest,common,b =>
  if 0<=B6 (atF ps b p) thick p/\(B6 (atF ps b p) thick p).toNat<(AA thick p).length then
   (ns (atF ps b p) thick p (B6 (atF ps b p) thick p).toNat).bind λ x =>
    if 0<=x/\x<=1000000000 then (KG ns thick ps rest (Builtin.bitAnd common (B6 (atF ps b p) thick p)) (b+p)).map λ y=>Br (AA thick p) (A8 rest thick) common (B6 (atF ps b p) thick p).toNat+x*AJ (A8 rest thick) (Builtin.bitAnd common (B6 (atF ps b p) thick p))+y
    else none
  else none
def KF:Nat->List P4->Int->Int->Nat->Option Int
 |0,_,_,_,_=>none
 |k+1,ps,a,b,n=>if n=0 then some 0 else KG (KF k) b ps (A6 n (a-1).toNat) (BS b) 0
inductive FY(k:Nat)(vs:LUz)(H:Hp)(Q:VK)(E:XK):Prop
 |mk (st l sz:Addr) (ps:List P4) (a b m:Int) (n:Nat) (out:Int) (h0:vs=[.ref st,.ref l,.ref sz,.int n]) (h1:PnL H l ps) (h2:ps.length<=100) (h3:H sz=some (.tup [.int a,.int b])) (h4:m<=4) (h5:InM m a b) (h6:StAt H st (InM m)) (h7:n<=7) (h8:KF k ps a b n=some out) (h9:∀H',Same H H'->Q (.int out) H'):FY k vs H Q E
def B2(k:Nat) :Sp:=λ vs H Q E=>FY k vs H Q E
inductive Jm(k:Nat)(vs:LUz)(H:Hp)(Q:VK)(E:XK):Prop
 |mk (st l lp:Addr) (ps:List P4) (parts:List Int) (thick m common out:Int) (h0:vs=[.ref st,.ref l,.ref lp,.int thick,.int common]) (h1:PnL H l ps) (h2:ps.length<=100) (h3:H lp=some (.lst (parts.map V.int))) (h4:m<=4) (h5:(∀p∈parts,InM m thick p)) (h6:StAt H st (InM m)) (h7:parts.length<=4) (h8:KG (KF k) thick ps parts common 0=some out) (h9:∀H',Same H H'->Q (.int out) H'):Jm k vs H Q E
def Do(k:Nat) :Sp:=λ vs H Q E=>Jm k vs H Q E
theorem SI(ps:List P4)(b p:Int):(atF ps b p).length<=ps.length:=by unfold atF;rw[aa];exact br _ _
abbrev Na:LSz:=["strips","panes","parts","thick","common","number","begin","place","part","later","strip","lines"]
theorem EL{f:Addr}{fd:FuncData}{k:Nat}(F:Fun K "number_in_rows" "number_in_rows" AW f fd)(T:Txt mg tk)(D_rows_by_lines:Ao P w K mg base 2 "rows_by_lines" ["strips","parts","thick"] BU)(D_strip_at:Ao P w K mg base 1 "strip_at" ["panes","begin","part"] GA)(D_lines_of:Ao P w K mg base 4 "lines_of" ["panes","length","thick"] Ea)(D_rows_before:Ao P w K mg base 2 "rows_before" ["firsts","later","common","lines"] Fg)(D_rows_without:Ao P w K mg base 1 "rows_without" ["by_lines","lines"] BX)(D_number_in_strips:Ao P w K mg base (2*k+5) "number_in_strips" ["strips","panes","size","lines"] (B2 k)):A2 P w K mg base CX0 (2*k+6) f fd ["strips","panes","parts","thick","common"] (Do k):=by
 have S:Ak Na ["strips","panes","parts","thick","common"] (Ai AW):=fsk;refine F.g S ?_;rintro vs H Q E ⟨st,l,lp,ps,parts,thick,m,common,out,rfl,pn,few,hl,m4,pm,sa,p4,hnum,q⟩;refine⟨rfl,λ cdv A outer s hr=>?_⟩;have hu:=D8 hr;obtain⟨tB,hB,kB⟩:∃rd,PSs (Cs CX0 P w K mg base Na "number_in_rows" (Ai AW) f cdv A outer s H E).nox (JT (nth (A5 AW) 2)) rd/\∀(i:Nat)(common number b p y:Int)(rest:List Int)(w9 w10 w11:Option V)(D:Dj)(H1:Hp),Same H H1->parts[i]?=some p->parts.drop (i+1)=rest->KG (KF k) thick ps (p::rest) common b=some y ->
   (∀common number' y' w9 w10 w11 H',Same H H'->KG (KF k) thick ps rest common (b+p)=some y'->number'+y'=number+y->D.nx [some (.ref st),some (.ref l),some (.ref lp),some (.int thick),some (.int common),some (.int number'),some (.int (b+p)),some (.int i),some (.int p),w9,w10,w11] H') ->
   rd D [some (.ref st),some (.ref l),some (.ref lp),some (.int thick),some (.int common),some (.int number),some (.int b),some (.int i),some (.int p),w9,w10,w11] H1:=by
  refine⟨_,(Ab (Am (i:=9) S.nd rfl (ar rfl) (Ap D_rows_by_lines hr (Aa (pv 0) (Aa (D1 EB (pv 2) (EG (An A7 (pv 7) Ae)) EH) (Aa (pv 3) Ac))) (by lia)))
  (Ab (Am (i:=10) S.nd rfl (ar rfl) (Ap D_strip_at hr (Aa (pv 1) (Aa (pv 6) (Aa (pv 8) Ac))) (by lia)))
  (Ab (Am (i:=11) S.nd rfl (ar rfl) (Ap D_lines_of hr (Aa (pv 10) (Aa (pv 3) (Aa (pv 8) Ac))) (by lia)))
  (Ab (Ci (i:=5) S.nd rfl (ar rfl) (Ap D_rows_before hr (Aa (DJ hu (pv 0) (AB (Aa (pv 3) (Aa (pv 8) Ac))) (λ_ _=>rfl)) (Aa (pv 9) (Aa (pv 4) (Aa (pv 11) Ac)))) (by lia)) Da)
  (Ab (Am (i:=4) S.nd rfl (ar rfl) (An D5 (pv 4) (pv 11)))
  (Ab (Ci (i:=5) S.nd rfl (ar rfl) (An Bo (Ap D_number_in_strips hr (Aa (pv 0) (Aa (pv 10) (Aa (AB (Aa (pv 3) (Aa (pv 8) Ac))) (Aa (pv 11) Ac)))) (by lia)) (Ap D_rows_without hr (Aa (pv 9) (Aa (pv 4) Ac)) (by lia))) Da)
  (Ah (Ci (i:=6) S.nd rfl (ar rfl) (pv 8) Da)))))))),?_⟩
  intro i common number b p y rest w9 w10 w11 D H1 s1 hp hd hnum qq;have ip:=pm p (ax hp);rw[KG]at hnum;split at hnum
  case isFalse=>cases hnum
  rename_i hl0;obtain⟨x,hx,hnum⟩:=bS.mp hnum;split at hnum
  case isFalse=>cases hnum
  rename_i hxs;obtain⟨y',hy',rfl⟩:=aZ.mp hnum;have pr:∀x∈rest,x∈parts:=λ x hx=>eZ (by rw[hd];exact hx);obtain⟨kvs,hst,hs⟩:=id sa;obtain⟨sd,v1,v2⟩:=hs thick p ip;have t4:thick<=4:=by have:=ip.2.1;lia
  have q4:p<=4:=by have:=ip.2.2.2;lia
  have r8:=(EC ip.1 t4 rest).len;have n8:=(BW thick p).2;refine⟨_,rfl,_,rfl,_,rfl,_,_,rfl,rfl,_,rfl,lp,_,rfl,SqL.of (s1 _ _ hl),λ lr nlr=>?_⟩;rw[Lj,hd];refine nv nlr λ H2 s2 e2=>?_;have s02:=s1.trans s2;refine⟨_,rfl,st,lr,rest,thick,rfl,ip.1,t4,e2,λ x hx=>⟨(pm x (pr x hx)).2.2.1,by have:=(pm x (pr x hx)).2.2.2;lia⟩,⟨kvs,s02 _ _ hst,λ a c ⟨ea,hc⟩=>?_⟩,λ la H3 s3 n3 h3=>?_⟩
  .rw[ea];obtain⟨sd,v1,v2⟩:=hs thick c (pm c (pr c hc));exact⟨sd,v1,s02 _ _ v2⟩
  have s03:=s02.trans s3;refine⟨_,rfl,_,rfl,_,rfl,l,ps,b,p,rfl,pn.same s03,few,λ ls H4 s4 n4 pn4=>?_⟩;have s04:=s03.trans s4;have fa:(atF ps b p).length<=100:=aR (SI ps b p) few;refine⟨_,rfl,_,rfl,_,rfl,ls,atF ps b p,thick,p,rfl,pn4,fa,ip.1,t4,ip.2.2.1,q4,λ H5 s5=>?_⟩;have s05:=s04.trans s5;obtain⟨n,hn⟩:∃n:Nat,B6 (atF ps b p) thick p=(n:Int):=⟨_,(bU hl0.1).symm⟩;rw[hn]at hl0 hx hy' qq |-;rw[bQ]at hl0 hx qq;refine⟨_,rfl,_,rfl,_,rfl,_,rfl,A1 2,λ t nt=>?_⟩;refine nv nt λ H6 s6 e6=>?_;have s06:=s05.trans s6;have s36:=s4.trans (s5.trans s6);have dg:DGet H6 st (.ref t) (some (.ref sd)):=by
   have:=DGet.t (H:=H6) (a:=st) (b:=t) (k:=[Sum.inl thick,Sum.inl p]) (s06 _ _ hst) e6;rw[v1]at this;exact this
  refine⟨st,_,rfl,dg,_,rfl,_,rfl,_,rfl,sd,la,AA thick p,A8 rest thick,common,n,rfl,s06 _ _ v2,s36 _ _ h3,r8,by lia,(λ x hx=>Fe (by lia)),λ H7 s7=>⟨_,_,rfl,rfl,_,rfl,_,rfl,_,_,rfl,rfl,?_⟩⟩;refine⟨_,rfl,_,rfl,_,rfl,_,rfl,_,rfl,A1 2,λ t2 nt2=>?_⟩;refine nv nt2 λ H8 s8 e8=>?_;have s08:=s06.trans (s7.trans s8);have s48:=s5.trans (s6.trans (s7.trans s8));refine⟨_,rfl,st,ls,t2,atF ps b p,thick,p,m,n,x,rfl,pn4.same s48,fa,e8,m4,ip,sa.same s08,by lia,hx,λ H9 s9=>⟨_,rfl,_,rfl,la,_,Builtin.bitAnd common n,rfl,(s4.trans (s48.trans s9)) _ _ h3,by lia,λ H10 s10=>⟨_,_,rfl,rfl,T7 hxs.1 hxs.2,_,_,rfl,rfl,_,rfl,_,rfl,_,_,rfl,rfl,?_⟩⟩⟩;refine qq _ _ y' _ _ _ H10 (s08.trans (s9.trans s10)) hy' ?_;show number+Br (AA thick p) (A8 rest thick) common n+x*AJ (A8 rest thick) (Builtin.bitAnd common n)+y'=_;lia
 refine⟨_,(Ab (Am (i:=5) S.nd rfl (ar rfl) Ae)
  (Ab (Am (i:=6) S.nd rfl (ar rfl) Ae)
  (Ab (A4 PassesOwn.never rfl (Go rfl T.z_enumerate (Aa (pv 2) Ac)) (B4 rfl (Au (Aj (i:=7) S.nd rfl (ar rfl)) (Au (Aj (i:=8) S.nd rfl (ar rfl)) AU))) hB)
  (Ah (Aq (pv 5)))))),?_⟩
 refine⟨_,rfl,lp,rfl,⟨_,SqL.of hl⟩,ET (K:=K) (a:=lp) (xs:=parts.map V.int) (λ i σ H'=>∃(common number b y:Int)(w7 w8 w9 w10 w11:Option V),σ=[some (.ref st),some (.ref l),some (.ref lp),some (.int thick),some (.int common),some (.int number),some (.int b),w7,w8,w9,w10,w11]/\Same H H'/\KG (KF k) thick ps (parts.drop i) common b=some y/\number+y=out) ⟨common,0,0,out,_,_,_,_,_,rfl,Same.refl _,hnum,dJ _⟩ (λ i σ H' _ hp=>by obtain⟨_,_,_,_,_,_,_,_,_,_,s',_⟩:=hp;exact SqL.of (s' _ _ hl)) ?_ ?_⟩
 .rintro i v σ H1 t hv ⟨common,number,b,y,w7,w8,w9,w10,w11,rfl,s1,hr1,ho⟩ nt;obtain⟨p,hp,rfl⟩:=ints_get hv;refine nv nt λ H2 s2 e2=>?_;have il:=(aG.mp hp).1;have dr:parts.drop i=p::parts.drop (i+1):=by rw[bM il];rw[ag il]at hp;rw[Option.some.inj hp]
  rw[dr]at hr1;exact⟨t,_,rfl,SqT.of e2,rfl,_,_,rfl,_,_,rfl,rfl,kB i common number b p y _ _ _ _ _ H2 (s1.trans s2) hp rfl hr1 λ c' n' y' y9 y10 y11 H' s' hr' he=>⟨c',n',_,y',_,_,_,_,_,rfl,s',hr',by rw[he];exact ho⟩⟩
 .rintro σ H1 ⟨common,number,b,y,w7,w8,w9,w10,w11,rfl,s1,hr1,ho⟩;rw[aa,bD]at hr1;cases hr1;rw[eW]at ho;exact⟨_,rfl,by rw[ho];exact q H1 s1⟩
theorem KI{vs:LUz}{H:Hp}{Q:VK}{E:XK}:¬B2 0 vs H Q E:=by
 rintro⟨st,l,sz,ps,a,b,m,n,out,_,_,_,_,_,_,_,_,h,_⟩;cases h
theorem Bu:Ak ["strips","panes","size","lines"] ["strips","panes","size","lines"] (Ai Bs):=fsk
theorem DP{f:Addr}{fd:FuncData}{k:Nat}(F:Fun K "number_in_strips" "number_in_strips" Bs f fd)(D_all_lines:Ao P w K mg base 1 "all_lines" ["length"] EA)(D_parts_between:Ao P w K mg base 1 "parts_between" ["lines","length"] CC)(D_number_in_rows:Ao P w K mg base (2*k+6) "number_in_rows" ["strips","panes","parts","thick","common"] (Do k)):A2 P w K mg base CX0 (2*k+7) f fd ["strips","panes","size","lines"] (B2 (k+1)):=by
 have S:=Bu;refine F.g S ?_;rintro vs H Q E ⟨st,l,sz,ps,a,b,m,n,out,rfl,pn,few,hsz,m4,⟨a1,am,b1,bm⟩,sa,n7,hs,q⟩;refine⟨rfl,λ cdv A outer s hr=>?_⟩;rw[KF]at hs;refine⟨_,(Ab (AG (Aw Ck (pv 3) Ae (Az _)) (Ah (Aq Ae)) Ax)
  (Ah (Aq (Ap D_number_in_rows hr (Aa (pv 0) (Aa (pv 1) (Aa (Ap D_parts_between hr (Aa (pv 3) (Aa (As Ar (pv 2) Ae (λ_ _=>rfl)) Ac)) (by lia)) (Aa (As Ar (pv 2) Ae (λ_ _=>rfl)) (Aa (Ap D_all_lines hr (Aa (As Ar (pv 2) Ae (λ_ _=>rfl)) Ac) (by lia)) Ac))))) (by lia))))),?_⟩
 refine⟨_,rfl,rfl,_,rfl,?_⟩;by_cases c:n=0
 .rw[if_pos c]at hs;cases hs;exact Cq (decide_eq_true (by rw[c];rfl)) (q H (Same.refl _))
 .rw[if_neg c]at hs;refine Bm (decide_eq_false (λ z=>c (by have:=V.int.inj z;lia))) ?_;have pl:=D4 (n:=n) a1 (by lia) n7;refine⟨_,rfl,_,rfl,_,rfl,_,rfl,sz,_,_,_,rfl,rfl,SqT.of hsz,FR,(n:Int),a,rfl,a1,by lia,λ lp H1 s1 n1 h1=>?_⟩;refine⟨_,rfl,sz,_,_,_,rfl,rfl,SqT.of (s1 _ _ hsz),FQ,_,rfl,sz,_,_,_,rfl,rfl,SqT.of (s1 _ _ hsz),FQ,b,rfl,b1,by lia,?_⟩;exact⟨st,l,lp,ps,_,b,m,BS b,out,rfl,pn.same s1,few,h1,m4,λ p hp=>⟨b1,bm,(pl.1 p hp).1,by have:=(pl.1 p hp).2;lia⟩,sa.same s1,pl.2,hs,λ H2 s2=>q H2 (s1.trans s2)⟩
theorem EM{w h:Int}{ls ld:Addr}:(HE w h ls ld).lookup ("panes":Str)=none:=Re _ _ _ _ (by decide +kernel) (by decide +kernel) (by decide +kernel) (by decide +kernel)
abbrev mks(ps:List Rc):List (Rk×Option Int):=ps.map λ r=>(r,none)
inductive Ie(tb3 C:Addr)(vs:LUz)(H:Hp)(Q:VK)(E:XK):Prop
 |mk (a dx ls ld:Addr) (w h:Int) (ts:List (Addr×Rc)) (kvs:LKz) (t:Tr) (h0:vs=[.ref a]) (h1:PanelAt C H a w h ts dx ls ld kvs) (h2:TabOk EQ DT tb3 H) (h3:BD ⟨0,0,h,w⟩ t) (h4:(mks (rcs ts)).Perm (AK t ⟨0,0,h,w⟩)) (h5:∀v H',SameX tb3 H H'->TabOk EQ DT tb3 H'->Q v H'):Ie tb3 C vs H Q E
def ID(tb3 C:Addr) :Sp:=λ vs H Q E=>Ie tb3 C vs H Q E
theorem LO{f tb3:Addr}{fd:FuncData}(F:Fun K "tree_of" "tree_of" Fh f fd)(T:Txt mg tk)(PC:Qd K C)(M_Panel_panes:Qg P w K mg base 1 C "panes" ["self"] (E8 C))(D_cut_up:Ao P w K mg base 8 "cut_up" ["sheet","some"] (GF tb3))(D_tree_from:Ao P w K mg base 4 "tree_from" ["entries"] (Jx K cW cU cL)) :
  A2 P w K mg base CX0 9 f fd ["panel"] (ID tb3 C):=by
 have S:Ak ["panel","entries","word","number"] ["panel"] (Ai Fh):=fsk;refine F.g S ?_;rintro vs H Q E ⟨a,dx,ls,ld,ww,hh,ts,kvs,tr,rfl,pn,tab,fit,pm,q⟩;refine⟨rfl,λ cdv A outer s hr=>?_⟩;have gw:=pn.sw;have gh:=pn.sh;have few:=pn.few;refine⟨_,(Ab (Am (i:=1) S.nd rfl (ar rfl) (Ap D_cut_up hr (Aa (AB (Aa Ae (Aa Ae (Aa (B5 (pv 0) rfl) (Aa (B5 (pv 0) rfl) Ac))))) (Aa (Bk rfl (A0 (J9 M_Panel_panes hr (pv 0))) (λ_ _ _ _ _=>pgk (nk ["pane"])) (λ_ _ _ _ _=>(AB (Aa (pv 0) (Aa Sf Ac)))) (N:=["pane"]) (fr:=[none])) Ac))))
  (Ab (A4 PassesOwn.never rfl (A0 (pv 1)) (B4 rfl (Au (Aj (i:=2) S.nd rfl (ar rfl)) (Au (Aj (i:=3) S.nd rfl (ar rfl)) AU))) (Ah (AG (Aw Ck (pv 2) (AI (v:=.str "room") rfl T.g_ROOM ⟨_,rfl⟩) (Az _)) (Ah BB) Ax)))
  (Ah (Aq (Ap D_tree_from hr (Aa (pv 1) Ac)))))),?_⟩
 refine⟨_,rfl,a,C,dx,_,_,rfl,pn.ob,PC.cl,PC.n_height,F4 _ _ _ _,_,rfl,a,C,dx,_,_,rfl,pn.ob,PC.cl,PC.n_width,F3 _ _ _ _,A1 4,λ ta hta=>?_⟩;refine nv hta λ H0 s0 e0=>?_;have pn0:=pn.same s0;refine⟨_,rfl,a,dx,_,rfl,pn0.ob,EM,a,dx,ls,ld,ww,hh,ts,kvs,rfl,pn0,λ l hl=>?_⟩;refine nv hl λ H1 s1 e1=>?_;have at1':=(pn0.same s1).ats;refine⟨l,rfl,⟨_,SqL.of e1⟩,λ acc hacc=>AN (K:=K) (a:=l) (ys:=A9 ts) (λ i zs σ H'=>(∃y,σ=[y])/\Same H1 H'/\∃us:List PT,zs=pcs us/\PcO H' us/\cons us=(mks (rcs ts)).take i) ⟨⟨none,rfl⟩,Same.new hacc,[],rfl,λ x hx=>(nomatch hx),rfl⟩ (λ i zs σ H' _ _ hp=>SqL.of (hp.2.1 _ _ e1)) ?_ ?_⟩
 .rintro i x zs σ H' hx hi hl' hacc' ⟨⟨y,rfl⟩,hs,us,rfl,hus,em⟩;obtain⟨u,hu',rfl⟩:=Bx hx;refine⟨_,rfl,A1 2,λ t ht=>?_⟩;have nat:acc≠t:=Ag hacc' ht;refine nv ht λ H2 s2 e2=>?_;have ac2:=s2 _ _ hacc';have rl:(A9 ts).length=ts.length:=aa _;have up:∀{b:Addr}{vs:LUz}{o:LUz},H2 b=some (.tup vs)->(upd H2 acc (.lst o)) b=some (.tup vs):=λ h=>by rw[Af (AR h ac2 (by intro z;cases z))];exact h
  refine cNx.mk (aM (Al (by lia))) hi hl' ac2 ⟨⟨_,rfl⟩,λ c o e=>?_,us++[(t,u.1,u.2,none)],by rw[OV],λ x hx=>?_,?_⟩
  .rw[Af (Ag e hacc)];exact(hs.trans s2) c o e
  .rcases aF.mp hx with hx|hx
   .exact⟨up ((hus.same s2) x hx).1,up ((hus.same s2) x hx).2⟩
   .rw[ai.mp hx];exact⟨up e2,up ((hs.trans s2) _ _ (at1' u (ax hu')))⟩
  .have:(mks (rcs ts))[i]?=some (u.2,none):=by rw[ay,ay,hu'];rfl
   rw[Oi,em,aK,this];rfl
 rintro zs σ H2 hzl ac2 ⟨_,s2,us,rfl,hus,em⟩;have rl:(A9 ts).length=(mks (rcs ts)).length:=by rw[aa,aa,aa]
 rw[rl,aH]at em;have ul:us.length=ts.length:=by
  have:=congrArg List.length em;rw[aa,aa,aa]at this;exact this
 have s02:=s0.trans (s1.trans s2);refine⟨ta,acc,⟨0,0,hh,ww⟩,us,tr,rfl,(s1.trans s2) _ _ e0,ac2,hus,by lia,⟨by show(0:Int)<hh;lia,by show(0:Int)<ww;lia⟩,(λ u=>by cases u;exact⟨bf _,by show hh<=12;lia⟩;exact⟨bf _,by show ww<=12;lia⟩),fit,by rw[em];exact pm,tab.same s02,λ le xs G H3 sx tab3 hle hens nd fit' isf gp=>?_⟩;have sN:SameX tb3 H H3:=s02.x.trans sx;refine⟨_,rfl,le,rfl,⟨_,SqL.of hle⟩,Bc (K:=K) (a:=le) (xs:=xs) (λ i σ H'=>(∃x2 x3,σ=[some (.ref a),some (.ref le),x2,x3])/\H'=H3) ⟨⟨_,_,rfl⟩,rfl⟩ (λ i σ H' _ hp=>by rw[hp.2];exact SqL.of hle) ?_ ?_⟩
 .rintro i x σ H' hx ⟨⟨x2,x3,rfl⟩,rfl⟩;obtain⟨e,ea,he,rfl,hen⟩:=hens.get hx
  match e,hen with
  |.w m,hen=>exact⟨ea,_,rfl,SqT.of hen,rfl,_,_,rfl,_,_,rfl,rfl,_,rfl,rfl,_,rfl,Bm (by decide +kernel) ⟨⟨_,_,rfl⟩,rfl⟩⟩
  |.c true k,hen=>exact⟨ea,_,rfl,SqT.of hen,rfl,_,_,rfl,_,_,rfl,rfl,_,rfl,rfl,_,rfl,Bm (by decide +kernel) ⟨⟨_,_,rfl⟩,rfl⟩⟩
  |.c false k,hen=>exact⟨ea,_,rfl,SqT.of hen,rfl,_,_,rfl,_,_,rfl,rfl,_,rfl,rfl,_,rfl,Bm (by decide +kernel) ⟨⟨_,_,rfl⟩,rfl⟩⟩
 .rintro σ H' ⟨⟨x2,x3,rfl⟩,rfl⟩;exact⟨_,rfl,le,xs,G,rfl,SqL.of hle,hens,nd,λ v H4 s4 ob=>q v H4 (sN.trans s4.x) (tab3.same s4)⟩
inductive Jq(vs:LUz)(H:Hp)(Q:VK)(E:XK):Prop
 |mk (n:Int) (h0:vs=[.int n]) (h1:1<=n) (h2:n<=4) (h3:∀st H',Same H H'->StAt H' st (InM n)->Q (.ref st) H'):Jq vs H Q E
def GI:Sp:=λ vs H Q E=>Jq vs H Q E
inductive FX(C:Addr)(vs:LUz)(H:Hp)(Q:VK)(E:XK):Prop
 |mk (ww hh number:Int) (out:List P4) (h0:vs=[.int ww,.int hh,.int number]) (h1:1<=ww) (h2:ww<=4) (h3:1<=hh) (h4:hh<=4) (h5:0<=number) (h6:number<tab ww hh) (h7:GW ww hh number=some out) (h8:Tiles ww hh (out.map rk)) (h9:out.length<=52) (h10:∀a dx ls ld ts kvs H',Same H H'->H a=none->PanelAt C H' a ww hh ts dx ls ld kvs->(rcs ts).Perm (out.map rk)->Q (.ref a) H'):FX C vs H Q E
def GD(C:Addr) :Sp:=λ vs H Q E=>FX C vs H Q E
theorem Pp(a b:Int):(a<=if b>a then b else a)/\(b<=if b>a then b else a)/\((if b>a then b else a)=a\/(if b>a then b else a)=b):=by split<;>lia
theorem K9{f:Addr}{fd:FuncData}(F:Fun K "panel_by" "panel_by" Eg f fd)(T:Txt mg tk)(K_Panel:Lr P w K mg base 4 "Panel" C ["self","width","height","panes"] (GJ K C))(D_is_whole:Ao P w K mg base 1 "is_whole" ["thing"] Dm)(D_count:Ao P w K mg base 3 "count" ["width","height"] GH)(D_all_strips:Ao P w K mg base 4 "all_strips" ["longest"] GI)(D_panes_by:Ao P w K mg base 23 "panes_by" ["strips","width","height","number"] GC):A2 P w K mg base CX0 24 f fd ["width","height","number"] (GD C):=by
 have S:Ak ["width","height","number","many"] ["width","height","number"] (Ai Eg):=fsk;refine F.g S ?_;rintro vs H Q E ⟨ww,hh,number,out,rfl,w1,w4,h1,h4,n0,nt,hp,til,few,q⟩;refine⟨rfl,λ cdv A outer s hr=>?_⟩;refine⟨_,(Ab (Am (i:=3) S.nd rfl (ar rfl) (Ap D_count hr (Aa (pv 0) (Aa (pv 1) Ac))))
  (Ab (AG (PW.pt (GP (Cg (BK (Ap D_is_whole hr (Aa (pv 2) Ac)))) (Fn (Cg (GQ BN Df Ae (pv 2) (pv 3)))))) (Ah BB) Ax)
  (Ah (Aq (K1 K_Panel hr (Aa (pv 0) (Aa (pv 1) (Aa (Ap D_panes_by hr (Aa (Ap D_all_strips hr (Aa (Av (Ja rfl) rfl T.z_max rfl (Aa (pv 0) (Aa (pv 1) Ac))) Ac)) (Aa (pv 0) (Aa (pv 1) (Aa (pv 2) Ac))))) Ac)))))))),?_⟩
 refine⟨_,rfl,_,rfl,ww,hh,rfl,w1,w4,h1,h4,λ H1 s1=>?_⟩;refine⟨_,rfl,.int number,rfl,⟨_,rfl⟩,_,rfl,Bm rfl ?_⟩;refine⟨_,rfl,_,_,rfl,rfl,_,rfl,Cq (decide_eq_true n0) ⟨_,rfl,_,_,rfl,rfl,_,rfl,Bm (by rw[decide_eq_true nt];rfl) ?_⟩⟩;obtain⟨m1,m2,m3⟩:=Pp ww hh;refine⟨_,rfl,_,rfl,_,rfl,_,rfl,_,_,rfl,_,rfl,by lia,by lia,λ st H2 s2 sa=>⟨_,rfl,_,rfl,_,rfl,st,ww,hh,_,number,out,rfl,?_,⟨w1,m1,h1,m2⟩,sa,hp,by lia,λ l H3 s3 nl ⟨ts,t1,t2,t3⟩=>?_⟩⟩
 .lia
 intro x dx nx ndx nex;have s03:=s1.trans (s2.trans s3);have sB:Same H3 (upd (upd H3 dx (.own x)) x (.ins C dx [])):=λ b o e=>by rw[Af (Ag e nx),Af (Ag e ndx)];exact e
 have eB:(upd (upd H3 dx (.own x)) x (.ins C dx [])) x=some (.ins C dx []):=Ad;generalize upd (upd H3 dx (.own x)) x (.ins C dx [])=HB at sB eB |-;have rr:A9 (ts.map λ t=>(t.1,rk t.2))=A9 ts:=by rw[A9,A9,aJ];rfl
 have rc:rcs (ts.map λ t=>(t.1,rk t.2))=out.map rk:=by rw[rcs,aJ,<-t3,aJ];rfl
 have tl:=congrArg List.length t3;rw[aa]at tl;refine⟨x,dx,l,ww,hh,ts.map λ t=>(t.1,rk t.2),rfl,eB,SqL.of (by rw[rr];exact sB _ _ t1),λ t ht=>?_,by rw[rc];exact til,by rw[aa];lia,⟨w1,by lia⟩,⟨h1,by lia⟩,λ ts' ls ld kvs H4 sx pm pn=>⟨rfl,q x dx ls ld ts' kvs H4 (λ y o e=>sx _ _ (Ag (s03 _ _ e) nx) (sB _ _ (s03 _ _ e))) (IQ s03 nx) pn (by rw[<-rc];exact pm.map _)⟩⟩;obtain⟨u,hu,rfl⟩:=az.mp ht;exact sB _ _ (t2 u hu)
abbrev p4(r:Rc):P4:=(r.t,r.l,r.b,r.r)
def QH(ps:List P4)(ww hh:Int):Option Int:=if 0<=B6 ps ww hh/\B6 ps ww hh<=7 then (KG (KF 9) hh ps (A6 (B6 ps ww hh) (ww-1).toNat) 0 0).map λ y=>y+((List.range (B6 ps ww hh).toNat).map λ(i:Nat)=>LB (A8 (A6 i (ww-1).toNat) hh)).sum else none
inductive EZ(tb3 C:Addr)(vs:LUz)(H:Hp)(Q:VK)(E:XK):Prop
 |mk (a dx ls ld:Addr) (w h:Int) (ts:List (Addr×Rc)) (kvs:LKz) (t:Tr) (out:Int) (h0:vs=[.ref a]) (h1:PanelAt C H a w h ts dx ls ld kvs) (h2:w<=4) (h3:h<=4) (h4:TabOk EQ DT tb3 H) (h5:BD ⟨0,0,h,w⟩ t) (h6:(mks (rcs ts)).Perm (AK t ⟨0,0,h,w⟩)) (h7:QH ((rcs ts).map p4) w h=some out) (h8:∀H',SameX tb3 H H'->TabOk EQ DT tb3 H'->Q (.int out) H'):EZ tb3 C vs H Q E
def FG(tb3 C:Addr) :Sp:=λ vs H Q E=>EZ tb3 C vs H Q E
theorem PanelAt.pnl{C:Addr}{H:Hp}{a:Addr}{w h:Int}{ts:List (Addr×Rc)}{dx ls ld:Addr}{kvs:LKz}(p:PanelAt C H a w h ts dx ls ld kvs){l:Addr}(n:H l=none):PnL (upd H l (.lst (A9 ts))) l ((rcs ts).map p4):=by
 refine⟨ts.map λ t=>(t.1,p4 t.2),by rw[Ad,A9,A9,aJ];rfl,λ t ht=>?_,by rw[rcs,aJ,aJ];rfl⟩;obtain⟨u,hu,rfl⟩:=az.mp ht;exact(Same.new n) _ _ (p.ats u hu)
theorem PanelAt.tb{C T:Addr}{pos:Pos}{qual:Str}{H H':Hp}{a:Addr}{w h:Int}{ts:List (Addr×Rc)}{dx ls ld:Addr}{kvs:LKz}(p:PanelAt C H a w h ts dx ls ld kvs)(s:SameX T H H')(hT:TabOk pos qual T H):PanelAt C H' a w h ts dx ls ld kvs:=by
 obtain⟨ps,eT,_⟩:=hT;have k:∀{y:Addr}{o:HO},H y=some o->(∀ps,o≠.tbl ps)->H' y=some o:=λ e no=>s _ _ (λ z=>by rw[z,eT]at e;exact no _ (Option.some.inj e).symm) e;exact⟨k p.ob (by intro ps z;cases z),k p.lst (by intro ps z;cases z),k p.dic (by intro ps z;cases z),λ t ht=>k (p.ats t ht) (by intro ps z;cases z),p.til,p.few,p.srt,p.look,p.sw,p.sh⟩
abbrev Uk:LSz:=["panel","strips","lines","number","less"]
theorem JE{f tb3:Addr}{fd:FuncData}(F:Fun K "number_of" "number_of" Dt f fd)(T:Txt mg tk)(PC:Qd K C)(M_Panel_panes:Qg P w K mg base 1 C "panes" ["self"] (E8 C))(D_check_counted:Ao P w K mg base 2 "check_counted" ["width","height"] LF)(D_tree_of:Ao P w K mg base 9 "tree_of" ["panel"] (ID tb3 C))(D_all_strips:Ao P w K mg base 4 "all_strips" ["longest"] GI)(D_lines_of:Ao P w K mg base 4 "lines_of" ["panes","length","thick"] Ea)(D_parts_between:Ao P w K mg base 1 "parts_between" ["lines","length"] CC)(D_rows_by_lines:Ao P w K mg base 2 "rows_by_lines" ["strips","parts","thick"] BU)(D_number_in_rows:Ao P w K mg base 24 "number_in_rows" ["strips","panes","parts","thick","common"] (Do 9)):A2 P w K mg base CX0 25 f fd ["panel"] (FG tb3 C):=by
 have S:Ak Uk ["panel"] (Ai Dt):=fsk;refine F.g S ?_;rintro vs H Q E ⟨a,dx,ls,ld,ww,hh,ts,kvs,tr,out,rfl,pn,w4,h4,tab,fit,pm,hn,q⟩;refine⟨rfl,λ cdv A outer s hr=>?_⟩;have gw:=pn.sw;have gh:=pn.sh;have few:=pn.few;unfold QH at hn;split at hn
 case isFalse=>cases hn
 rename_i hl0;obtain⟨y,hy,rfl⟩:=aZ.mp hn;obtain⟨n,en⟩:∃n:Nat,B6 ((rcs ts).map p4) ww hh=(n:Int):=⟨_,(bU hl0.1).symm⟩;rw[en]at hl0 hy q;rw[bQ]at q;have pl:=λ(j:Nat)(hj:j<=n)=>D4 (n:=j) gw.1 w4 (by lia);have rl:((rcs ts).map p4).length<=100:=by rw[aa,aa];lia
 refine⟨_,(Ab (AQ (Ap D_check_counted hr (Aa (B5 (pv 0) rfl) (Aa (B5 (pv 0) rfl) Ac))))
  (Ab (AQ (Ap D_tree_of hr (Aa (pv 0) Ac)))
  (Ab (Am (i:=1) S.nd rfl (ar rfl) (Ap D_all_strips hr (Aa (Av (Ja rfl) rfl T.z_max rfl (Aa (B5 (pv 0) rfl) (Aa (B5 (pv 0) rfl) Ac))) Ac)))
  (Ab (Am (i:=2) S.nd rfl (ar rfl) (Ap D_lines_of hr (Aa (J9 M_Panel_panes hr (pv 0)) (Aa (B5 (pv 0) rfl) (Aa (B5 (pv 0) rfl) Ac)))))
  (Ab (Am (i:=3) S.nd rfl (ar rfl) (Ap D_number_in_rows hr (Aa (pv 1) (Aa (J9 M_Panel_panes hr (pv 0)) (Aa (Ap D_parts_between hr (Aa (pv 2) (Aa (B5 (pv 0) rfl) Ac))) (Aa (B5 (pv 0) rfl) (Aa Ae Ac)))))))
  (Ab (A4 PassesOwn.never rfl (CG rfl T.z_range (Aa (pv 2) Ac)) (Aj (i:=4) S.nd rfl (ar rfl)) (Ah (Ci (i:=3) S.nd rfl (ar rfl) (Av F8 rfl T.z_sum rfl (Aa (D3 bR cm cR Ep (Ap D_rows_by_lines hr (Aa (pv 1) (Aa (Ap D_parts_between hr (Aa (pv 4) (Aa (B5 (pv 0) rfl) Ac))) (Aa (B5 (pv 0) rfl) Ac))))) Ac)) Da)))
  (Ah (Aq (pv 3))))))))),?_⟩
 refine⟨_,rfl,a,C,dx,_,_,rfl,pn.ob,PC.cl,PC.n_width,F3 _ _ _ _,_,rfl,a,C,dx,_,_,rfl,pn.ob,PC.cl,PC.n_height,F4 _ _ _ _,ww,hh,rfl,gw.1,w4,gh.1,h4,λ H1 s1=>?_⟩;have pn1:=pn.same s1;refine⟨_,rfl,a,dx,ls,ld,ww,hh,ts,kvs,tr,rfl,pn1,tab.same s1,fit,pm,λ v H2 s2 tab2=>?_⟩;have pn2:=pn1.tb s2 (tab.same s1);have x2:SameX tb3 H H2:=s1.x.trans s2;obtain⟨m1,m2,m3⟩:=Pp ww hh;refine⟨_,rfl,a,C,dx,_,_,rfl,pn2.ob,PC.cl,PC.n_width,F3 _ _ _ _,_,rfl,a,C,dx,_,_,rfl,pn2.ob,PC.cl,PC.n_height,F4 _ _ _ _,_,_,rfl,_,rfl,by lia,by lia,λ st H3 s3 sa=>?_⟩;have pn3:=pn2.same s3;refine⟨_,rfl,a,dx,_,rfl,pn3.ob,EM,a,dx,ls,ld,ww,hh,ts,kvs,rfl,pn3,λ l nl=>?_⟩;have pl4:=pn3.pnl nl;obtain⟨H4,e,s4,_⟩:=nw (.lst (A9 ts)) nl;rw[e]at pl4 |-;clear e;have pn4:=pn3.same s4;refine⟨_,rfl,a,C,dx,_,_,rfl,pn4.ob,PC.cl,PC.n_width,F3 _ _ _ _,_,rfl,a,C,dx,_,_,rfl,pn4.ob,PC.cl,PC.n_height,F4 _ _ _ _,l,_,ww,hh,rfl,pl4,rl,gw.1,w4,gh.1,h4,λ H5 s5=>?_⟩;rw[en];have pn5:=pn4.same s5;refine⟨_,rfl,_,rfl,a,dx,_,rfl,pn5.ob,EM,a,dx,ls,ld,ww,hh,ts,kvs,rfl,pn5,λ l6 nl6=>?_⟩;have pl6:=pn5.pnl nl6;obtain⟨H6,e,s6,_⟩:=nw (.lst (A9 ts)) nl6;rw[e]at pl6 |-;clear e;have pn6:=pn5.same s6;refine⟨_,rfl,_,rfl,a,C,dx,_,_,rfl,pn6.ob,PC.cl,PC.n_width,F3 _ _ _ _,(n:Int),ww,rfl,gw.1,w4,λ lp H7 s7 n7 h7=>?_⟩;have pn7:=pn6.same s7;have s37:=s4.trans (s5.trans (s6.trans s7));refine⟨_,rfl,a,C,dx,_,_,rfl,pn7.ob,PC.cl,PC.n_height,F4 _ _ _ _,st,l6,lp,_,_,hh,_,0,y,rfl,pl6.same s7,rl,h7,?_,λ p hp=>⟨gh.1,m2,((pl n (ah n)).1 p hp).1,by have:=((pl n (ah n)).1 p hp).2;lia⟩,sa.same s37,(pl n (ah n)).2,hy,λ H8 s8=>?_⟩
 .lia
 have s38:=s37.trans s8;have x8:SameX tb3 H H8:=x2.trans ((s3.trans s38).x);have tab8:=tab2.same (s3.trans s38);have pn8:=pn7.same s8;have sa8:=sa.same s38;refine⟨_,rfl,n,rfl,by lia,by lia,AD (lo:=0) (n:=(n:Int).toNat) (λ i σ H'=>(∃w4,σ=[some (.ref a),some (.ref st),some (.int n),some (.int (y+((List.range i).map λ(i:Nat)=>LB (A8 (A6 i (ww-1).toNat) hh)).sum)),w4])/\Same H8 H') ⟨⟨_,by rw[List.range_zero,cj,List.sum_nil,eW];rfl⟩,Same.refl _⟩ ?_ ?_⟩
 .rintro i σ H9 hi ⟨⟨w4',rfl⟩,s9⟩;rw[dJ];have hi:i<n:=by lia
  have pn9:=pn8.same s9;have pi:=pl i (by lia);refine⟨_,rfl,_,rfl,_,rfl,_,rfl,a,C,dx,_,_,rfl,pn9.ob,PC.cl,PC.n_width,F3 _ _ _ _,(i:Int),ww,rfl,gw.1,w4,λ l10 H10 s10 n10 h10=>?_⟩;have pn10:=pn9.same s10;refine⟨_,rfl,a,C,dx,_,_,rfl,pn10.ob,PC.cl,PC.n_height,F4 _ _ _ _,st,l10,_,hh,rfl,gh.1,h4,h10,λ p hp=>⟨(pi.1 p hp).1,by have:=(pi.1 p hp).2;lia⟩,?_,λ d H11 s11 n11 h11=>⟨.inr (.inr (.inl ⟨rfl,.inl ⟨_,h11⟩⟩)),d,_,rfl,rfl,h11,λ v nvw=>?_⟩⟩
  .obtain⟨kvs,hst,hs⟩:=sa8;exact⟨kvs,(s9.trans s10) _ _ hst,λ a b ⟨ea,hb⟩=>by
    rw[ea];obtain⟨sd,v1,v2⟩:=hs hh b ⟨gh.1,m2,(pi.1 b hb).1,by have:=(pi.1 b hb).2;lia⟩;exact⟨sd,v1,(s9.trans s10) _ _ v2⟩⟩
  refine nv nvw λ H12 s12 e12=>?_;refine⟨v,d,_,_,rfl,e12,s12 _ _ h11,JQ _,rfl,_,_,rfl,rfl,⟨some (.int (i:Int)),?_⟩,s9.trans (s10.trans (s11.trans s12))⟩;rw[bF,aj,cI];show _=[_,_,_,some (V.int (_+(_+(LB (A8 (A6 (i:Int) (ww-1).toNat) hh)+0)))),_];rw[eW,<-Int.add_assoc];rfl
 .rintro σ H9 ⟨⟨w4',rfl⟩,s9⟩;rw[bQ];exact⟨_,rfl,q H9 (x8.trans s9.x) (tab8.same s9)⟩
def szs(i n:Nat):List (List Int):=(List.range i).flatMap λ(a:Nat)=>(List.range n).map λ(b:Nat)=>[(a:Int)+1,(b:Int)+1]
theorem szs_mem{i n:Nat}{z:List Int}:z∈szs i n↔∃a b:Nat,a<i/\b<n/\z=[(a:Int)+1,(b:Int)+1]:=by
 unfold szs;rw[List.mem_flatMap]
 constructor
 .rintro⟨a,ha,hz⟩;obtain⟨b,hb,rfl⟩:=az.mp hz;exact⟨a,b,bi.mp ha,bi.mp hb,rfl⟩
 .rintro⟨a,b,ha,hb,rfl⟩;exact⟨a,bi.mpr ha,az.mpr ⟨b,bi.mpr hb,rfl⟩⟩
theorem Jw{n:Nat}:∀i,(szs i n).length=i*n
 |0=>by unfold szs;simp
 |i+1=>by
  have h:=Jw (n:=n) i;unfold szs at h |-;rw[bF,dw,av,h,eM];simp
theorem OL{κ:Type}[DecidableEq κ](kvs:List (κ×V))(k:κ)(v:V):(Cp kvs k v).length<=kvs.length+1:=by
 unfold Cp;split
 .rw[aa];exact bI _
 .rw[av];exact ah _
abbrev Rr:LSz:=["longest","sizes","length","strips","thick"]
theorem Ip{f:Addr}{fd:FuncData}(F:Fun K "all_strips" "all_strips" CQ f fd)(T:Txt mg tk)(D_strips_of_size:Ao P w K mg base 3 "strips_of_size" ["strips","length","thick"] IE):A2 P w K mg base CX0 4 f fd ["longest"] GI:=by
 have S:Ak Rr ["longest"] (Ai CQ):=fsk;refine F.g S ?_;rintro vs H Q E ⟨n,rfl,n1,n4,q⟩;refine⟨rfl,λ cdv A outer s hr=>?_⟩;have hu:=D8 hr;obtain⟨m,rfl⟩:∃m:Nat,n=m:=⟨n.toNat,by lia⟩;refine⟨_,(Ab (Am (i:=1) S.nd rfl (ar rfl) (AY Ac))
  (Ab (A4 PassesOwn.never rfl (AH rfl T.z_range (Aa Ae (Aa (An A7 (pv 0) Ae) Ac))) (Aj (i:=2) S.nd rfl (di rfl)) (Ah (AQ (OU bn dU dS IR (pv 1) (Aa (Bk rfl (AH rfl T.z_range (Aa Ae (Aa (An A7 (pv 0) Ae) Ac))) (λ_ _ _ _ _=>pgk (nk ["thick","length"])) (λ_ _ _ _ _=>(AB (Aa (pv 1) (Aa (pv 0) Ac)))) (N:=["thick","length"]) (fr:=[none,some 2])) Ac)))))
  (Ab (Am (i:=3) S.nd rfl (ar rfl) GV)
  (Ab (A4 PassesOwn.never rfl (A0 (LN rfl T.z_sorted rfl T.z_sum (Aa (pv 1) Ac))) (B4 rfl (Au (Aj (i:=2) S.nd rfl (di rfl)) (Au (Aj (i:=4) S.nd rfl (ar rfl)) AU))) (Ah (EF hu (pv 3) (AB (Aa (pv 2) (Aa (pv 4) Ac))) (Ap D_strips_of_size hr (Aa (pv 3) (Aa (pv 2) (Aa (pv 4) Ac)))) rfl)))
  (Ah (Aq (pv 3))))))),?_⟩
 refine⟨A1 0,λ l nl=>?_⟩;refine nv nl λ H0 s0 e0=>?_;refine⟨_,rfl,_,_,rfl,rfl,1,(m:Int)+1,rfl,⟨by lia,by lia,by lia,by lia⟩,AD (lo:=1) (n:=((m:Int)+1-1).toNat) (λ i σ H'=>(∃y2,σ=[some (.int m),some (.ref l),y2,none,none])/\Same H H'/\∃ts:List (Addr×List Int),H' l=some (.lst (A9 ts))/\(∀t∈ts,H' t.1=some (.tup (t.2.map V.int)))/\ts.map (·.2)=szs i m) ⟨⟨_,rfl⟩,s0,[],e0,(λ t ht=>nomatch ht),rfl⟩ ?_ ?_⟩
 .rintro i σ H1 hi ⟨⟨y2,rfl⟩,s1,ts,t1,t2,t3⟩;refine⟨_,rfl,.inl ⟨rfl,_,SqL.of t1⟩,_,rfl,_,_,rfl,rfl,1,(m:Int)+1,rfl,⟨by lia,by lia,by lia,by lia⟩,λ acc hacc=>HQ (lo:=1) (n:=((m:Int)+1-1).toNat) (λ j zs σ H'=>(∃x,σ=[x,some (.int (1+(i:Int)))])/\Same H1 H'/\∃us:List (Addr×List Int),zs=A9 us/\(∀t∈us,H' t.1=some (.tup (t.2.map V.int)))/\us.map (·.2)=(List.range j).map λ(b:Nat)=>[(i:Int)+1,(b:Int)+1]) ⟨⟨_,rfl⟩,Same.new hacc,[],rfl,(λ t ht=>nomatch ht),rfl⟩ ?_ ?_⟩
  .rintro j zs σ H2 hj hz ha2 ⟨⟨x,rfl⟩,s2,us,rfl,u2,u3⟩;refine⟨_,rfl,_,rfl,A1 2,λ t nt=>?_⟩;obtain⟨H3,e,s3,e3⟩:=nw (.tup ([(i:Int)+1,(j:Int)+1].map V.int)) nt;have e:upd H2 t (.tup [.int (1+(i:Int)),.int (1+(j:Int))])=H3:=by rw[Int.add_comm 1 (i:Int),Int.add_comm 1 (j:Int)];exact e
   rw[e];clear e;have ha3:=s3 _ _ ha2;have kp:∀{x:Addr}{xs o:LUz},H3 x=some (.tup xs)->(upd H3 acc (.lst o)) x=some (.tup xs):=λ h=>by rw[Af (AR h ha3 (by intro z;cases z))];exact h
   refine cNx.mk (aM (Al (by lia))) hj hz ha3 ⟨⟨_,rfl⟩,λ x o e=>?_,us++[(t,[(i:Int)+1,(j:Int)+1])],by rw[A9,A9,aj];rfl,λ u hu=>?_,?_⟩
   .rw[Af (Ag e hacc)];exact s3 _ _ (s2 _ _ e)
   .rcases aF.mp hu with hu|hu
    .exact kp (s3 _ _ (u2 u hu))
    .rw[ai.mp hu];exact kp e3
   .rw[aj,u3,bF,aj];rfl
  .rintro zs σ H2 hz ha2 ⟨_,s2,us,rfl,u2,u3⟩;rw[show((m:Int)+1-1).toNat=m by lia]at u3 hz;have tl:=congrArg List.length t3;rw[aa,Jw]at tl;have l2:=s2 _ _ t1;have:i*m<=4*4:=dm (by lia) (by lia);refine⟨l,acc,A9 ts,A9 us,rfl,rfl,l2,ha2,aM (Al (by rw[AO,AO];rw[AO]at hz;lia)),⟨_,rfl⟩,λ x o e=>?_,ts++us,by rw[Ad,A9,A9,A9,aj],λ t ht=>?_,?_⟩
   .rw[Af (Ag e nl)];exact s2 _ _ (s1 _ _ e)
   .rw[Af (λ z=>by
     rcases aF.mp ht with ht|ht
     .have:=s2 _ _ (t2 t ht);rw[z,l2]at this;cases this
     .have:=u2 t ht;rw[z,l2]at this;cases this)]
    rcases aF.mp ht with ht|ht
    .exact s2 _ _ (t2 t ht)
    .exact u2 t ht
   .rw[aj,t3,u3];unfold szs;rw[bF,dw];simp
 .rintro σ H1 ⟨⟨y2,rfl⟩,s1,ts,t1,t2,t3⟩;rw[show((m:Int)+1-1).toNat=m by lia]at t3;have tl:=congrArg List.length t3;rw[aa,Jw]at tl;have:m*m<=4*4:=dm (by lia) (by lia);refine λ d nd=>?_;refine nv nd λ H2 s2 e2=>?_;refine⟨_,rfl,l,ts,rfl,SqL.of (s2 _ _ t1),by lia,rfl,λ t ht=>s2 _ _ (t2 t ht),λ lr ts' nlr pm srt=>?_⟩;refine nv nlr λ H3 s3 e3=>?_;have s13:=s1.trans (s2.trans s3);have mem:∀t∈ts',H3 t.1=some (.tup (t.2.map V.int))/\∃a b:Nat,a<m/\b<m/\t.2=[(a:Int)+1,(b:Int)+1]:=λ t ht=>by
   have h:=pm.mem_iff.mp ht;exact⟨(s2.trans s3) _ _ (t2 t h),szs_mem.mp (by rw[<-t3];exact az.mpr ⟨t,h,rfl⟩)⟩
  refine⟨lr,rfl,⟨_,SqL.of e3⟩,Bc (K:=K) (a:=lr) (xs:=A9 ts') (λ i σ H'=>(∃y2 y4,σ=[some (.int m),some (.ref l),y2,some (.ref d),y4])/\(∀x o,x≠d->H3 x=some o->H' x=some o)/\∃kvs:LKz,H' d=some (.dT kvs)/\kvs.length<=i/\∀j,j<i->∀t,ts'[j]?=some t->∀a b:Int,t.2=[a,b]->∃dd,AV kvs [Sum.inl a,Sum.inl b]=some (.ref dd)/\H' dd=some (.dK (kvB (AA a b)))) ⟨⟨_,_,rfl⟩,(λ x o _ e=>e),[],s3 _ _ e2,ah _,(λ j hj=>absurd hj (Nat.not_lt_zero j))⟩ (λ i σ H' _ hp=>SqL.of (hp.2.1 _ _ (AR e3 (s3 _ _ e2) (by intro z;cases z)) e3)) ?_ ?_⟩
  .rintro i v σ H4 hv ⟨⟨y2,y4,rfl⟩,k4,kvs,h4,kl,hj⟩;obtain⟨t,ht,rfl⟩:=Bx hv;obtain⟨h3,a,b,am,bm,et⟩:=mem t (ax ht);rw[et]at h3;have d3:=s3 _ _ e2;have h4t:H4 t.1=some (.tup [.int ((a:Int)+1),.int ((b:Int)+1)]):=k4 _ _ (AR h3 d3 (by intro z;cases z)) h3;have il:=(aG.mp ht).1;have tl':ts'.length=m*m:=by rw[pm.length_eq];exact tl
   refine⟨t.1,_,rfl,SqT.of h4t,rfl,_,_,rfl,_,_,rfl,rfl,_,rfl,_,rfl,_,rfl,d,(a:Int)+1,(b:Int)+1,rfl,by lia,by lia,by lia,by lia,⟨kvs,h4,λ x y ⟨ex,y1,y2⟩=>?_⟩,λ dd H5 s5 n5 h5=>⟨_,rfl,_,rfl,_,rfl,A1 2,λ t6 n6=>?_⟩⟩
   .have hm:[x,y]∈szs m m:=szs_mem.mpr ⟨b,(y-1).toNat,bm,by lia,by rw[ex,show(((y-1).toNat:Nat):Int)+1=y by lia]⟩;rw[<-t3]at hm;obtain⟨u,hu,eu⟩:=az.mp hm;obtain⟨j,hj'⟩:=eR.mp (pm.mem_iff.mpr hu);refine hj j ?_ u hj' x y eu;refine Nat.lt_of_not_le λ le=>?_;have jl:=(aG.mp hj').1;rw[ag jl]at hj';rw[ag il]at ht;have e1:ts'[j].2=[x,y]:=by rw[Option.some.inj hj'];exact eu
    have e4:ts'[i].2=[(a:Int)+1,(b:Int)+1]:=by rw[Option.some.inj ht];exact et
    have ne:i≠j:=λ z=>by
     subst z;rw[e1]at e4;have:=(List.cons.inj (List.cons.inj e4).2).1;have:=(List.cons.inj e4).1;lia
    have:=cq.mp srt i j (by rw[aa];exact il) (by rw[aa];exact jl) (by lia);rw[List.getElem_map,List.getElem_map,e1,e4]at this;simp only[List.sum_cons,List.sum_nil]at this;lia
   .refine nv n6 λ H6 s6 e6=>?_;have s46:=s5.trans s6;have h6:=s46 _ _ h4;have d6:=s6 _ _ h5;refine⟨d,_,rfl,DPut.t (k:=[Sum.inl ((a:Int)+1),Sum.inl ((b:Int)+1)]) h6 e6 (Al (by lia)),⟨_,_,rfl⟩,λ x o xd e=>by rw[Af xd];exact s46 _ _ (k4 x o xd e),_,Ad,aR (OL _ _ _) (by lia),λ j hj2 u hu x y eu=>?_⟩;rw[CB];by_cases c:([Sum.inl x,Sum.inl y]:List Key)=[Sum.inl ((a:Int)+1),Sum.inl ((b:Int)+1)]
    .rw[if_pos c];have c1:x=(a:Int)+1:=Sum.inl.inj (List.cons.inj c).1;have c2:y=(b:Int)+1:=Sum.inl.inj (List.cons.inj (List.cons.inj c).2).1;exact⟨dd,rfl,by rw[Af (AR d6 h6 (by intro z;cases z)),c1,c2];exact d6⟩
    .rw[if_neg c];have ji:j≠i:=λ z=>by
      rw[z,ht]at hu;cases hu;rw[et]at eu;exact c (by rw[<-(List.cons.inj eu).1,<-(List.cons.inj (List.cons.inj eu).2).1])
     obtain⟨d7,v1,v2⟩:=hj j (by lia) u hu x y eu;exact⟨d7,v1,by rw[Af (AR (s46 _ _ v2) h6 (by intro z;cases z))];exact s46 _ _ v2⟩
  .rintro σ H4 ⟨⟨y2,y4,rfl⟩,k4,kvs,h4,kl,hj⟩;refine⟨_,rfl,q d H4 (λ x o e=>k4 _ _ (Ag (s1 _ _ e) nd) (s13 _ _ e)) ⟨kvs,h4,λ x y ⟨x1,x2,y1,y2⟩=>?_⟩⟩;have hm:[x,y]∈szs m m:=szs_mem.mpr ⟨(x-1).toNat,(y-1).toNat,by lia,by lia,by rw[show(((x-1).toNat:Nat):Int)+1=x by lia,show(((y-1).toNat:Nat):Int)+1=y by lia]⟩;rw[<-t3]at hm;obtain⟨u,hu,eu⟩:=az.mp hm;obtain⟨j,hj'⟩:=eR.mp (pm.mem_iff.mpr hu);exact hj j (by rw[AO];exact(aG.mp hj').1) u hj' x y eu
def NW(p:Rc):List Rc->List Rc
 |[]=>[p]
 |q::r=>if key p.ls<=key q.ls then p::q::r else q::NW p r
def CF:List Rc->List Rc
 |[]=>[]
 |p::r=>NW p (CF r)
theorem F0(p:Rc):∀l,(NW p l).Perm (p::l)
 |[]=>bP _
 |q::r=>by
  unfold NW;split
  .exact bP _
  .exact((F0 p r).cons q).trans (List.Perm.swap p q r)
theorem GK:∀l,(CF l).Perm l
 |[]=>bP _
 |p::r=>(F0 p _).trans ((GK r).cons p)
theorem La{p:Rc}:∀{l:List Rc},GB.Srt l->GB.Srt (NW p l)
 |[],_=>List.pairwise_singleton _ _
 |q::r,h=>by
  unfold GB.Srt at h |-;rw[aA,cQ]at h;unfold NW;split
  .rename_i le;rw[aA,aA,cQ,cQ];refine⟨λ x hx=>?_,h⟩;rcases aP.mp hx with rfl|hx
   .exact le
   .exact dL le (h.1 x hx)
  .rename_i nl;rw[aA,cQ];refine⟨λ x hx=>?_,La h.2⟩;obtain⟨y,hy,rfl⟩:=az.mp hx;rcases aP.mp ((F0 p r).mem_iff.mp hy) with rfl|hy
   .lia
   .exact h.1 _ (az.mpr ⟨y,hy,rfl⟩)
theorem IH:∀l,GB.Srt (CF l)
 |[]=>List.Pairwise.nil
 |p::r=>La (IH r)
def inB(w h:Int)(p:Rc):Bool:=decide (0<=p.t)&&decide (p.t<p.b)&&decide (p.b<=h)&&(decide (0<=p.l)&&decide (p.l<p.r)&&decide (p.r<=w))
theorem LZ{w h:Int}{p:Rc}(x:inB w h p=true):p.In w h:=by
 unfold inB at x;simp only[aE,decide_eq_true_eq]at x;exact⟨x.1.1.1,x.1.1.2,x.1.2,x.2.1.1,x.2.1.2,x.2.2⟩
theorem GM{w h:Int}{ps qs:List Rc}(b1:w<=12)(b2:h<=12)(hp:ps.all (inB w h)=true)(e:qs.Perm ps)(s:GB.Srt qs):qs=CF ps :=
 GB.sorted_same (w:=w) (h:=h) (λ p hq=>LZ (aU.mp hp p (e.mem_iff.mp hq))) b1 b2 (e.trans (GK ps).symm) s (IH ps)
def apB(p q:Rc):Bool:=decide (p.b<=q.t)||decide (q.b<=p.t)||(decide (p.r<=q.l)||decide (q.r<=p.l))
def Rm:List Rc->Bool
 |[]=>true
 |p::r=>r.all (apB p)&&Rm r
theorem MY:∀{ps:List Rc},Rm ps=true->ps.Pairwise GB.Apart
 |[],_=>.nil
 |p::r,h=>by
  unfold Rm at h;rw[aE]at h;refine .cons (λ q hq x c a b=>?_) (MY h.2);have z:=aU.mp h.1 q hq;unfold apB at z;simp only[de,decide_eq_true_eq]at z;obtain⟨a1,a2,a3,a4⟩:=a;obtain⟨b1,b2,b3,b4⟩:=b;lia
def TM(p:Rc)(r c:Int):Bool:=decide (p.t<=r)&&decide (r<p.b)&&(decide (p.l<=c)&&decide (c<p.r))
def Qq(w h:Int)(ps:List Rc):Bool:=ps.all (inB w h)&&Rm ps&&(List.range h.toNat).all λ r=>(List.range w.toNat).all λ c=>ps.any λ p=>TM p (r:Int) (c:Int)
theorem Qp{w h:Int}{ps:List Rc}(x:Qq w h ps=true):Tiles w h ps:=by
 unfold Qq at x;simp only[aE]at x;refine⟨λ p hp=>LZ (aU.mp x.1.1 p hp),MY x.1.2,λ r c r0 r1 c0 c1=>?_⟩;have z:=aU.mp (aU.mp x.2 r.toNat (bi.mpr (by lia))) c.toNat (bi.mpr (by lia));rw[bU r0,bU c0]at z;obtain⟨p,hp,hb⟩:=cY.mp z;unfold TM at hb;simp only[aE,decide_eq_true_eq]at hb;exact⟨p,hp,hb.1.1,hb.1.2,hb.2.1,hb.2.2⟩
def Ld:Tr->Int->Int->Bool
 |.whole _,_,_=>true
 |.cut true k x y,w,h=>decide (1<=k)&&decide (k<w)&&(Ld x k h&&Ld y (w-k) h)
 |.cut false k x y,w,h=>decide (1<=k)&&decide (k<h)&&(Ld x w k&&Ld y w (h-k))
theorem EV:∀{t:Tr}{w h:Int},Ld t w h=true->Fit t w h
 |.whole _,_,_,_=>by rw[Fit];trivial
 |.cut true k x y,w,h,e=>by
  unfold Ld at e;simp only[aE,decide_eq_true_eq]at e;rw[Fit,if_pos rfl];exact⟨e.1.1,e.1.2,EV e.2.1,EV e.2.2⟩
 |.cut false k x y,w,h,e=>by
  unfold Ld at e;simp only[aE,decide_eq_true_eq]at e;rw[Fit,if_neg ao];exact⟨e.1.1,e.1.2,EV e.2.1,EV e.2.2⟩
def R5(u:Bool)(z:Int)(p:Rc):Bool:=if u then decide (p.r<=z)||decide (z<=p.l) else decide (p.b<=z)||decide (z<=p.t)
def Kj:Nat->Rc->List Rc->Option Tr
 |0,_,_=>none
 |n+1,p,ps=>if ps.length=1 then some (.whole none) else
  match ((List.range (p.r-p.l-1).toNat).find? λ(k:Nat)=>ps.all (R5 true (p.l+1+(k:Int)))) with
  |some k=>(Kj n ⟨p.t,p.l,p.b,p.l+1+(k:Int)⟩ (ps.filter λ q=>decide (q.r<=p.l+1+(k:Int)))).bind λ x=>(Kj n ⟨p.t,p.l+1+(k:Int),p.b,p.r⟩ (ps.filter λ q=>decide (p.l+1+(k:Int)<=q.l))).map λ y=>.cut true (1+(k:Int)) x y
  |none=>match ((List.range (p.b-p.t-1).toNat).find? λ(k:Nat)=>ps.all (R5 false (p.t+1+(k:Int)))) with
   |some k=>(Kj n ⟨p.t,p.l,p.t+1+(k:Int),p.r⟩ (ps.filter λ q=>decide (q.b<=p.t+1+(k:Int)))).bind λ x=>(Kj n ⟨p.t+1+(k:Int),p.l,p.b,p.r⟩ (ps.filter λ q=>decide (p.t+1+(k:Int)<=q.t))).map λ y=>.cut false (1+(k:Int)) x y
   |none=>none
def Oy(w h:Int)(ps:List Rc):Bool:=match Kj 9 ⟨0,0,h,w⟩ ps with
 |none=>false
 |some t=>Ld t w h&&decide ((mks ps).Perm (AK t ⟨0,0,h,w⟩))
theorem Ox{w h:Int}{ps:List Rc}(x:Oy w h ps=true):∃t,BD ⟨0,0,h,w⟩ t/\(mks ps).Perm (AK t ⟨0,0,h,w⟩):=by
 unfold Oy at x;split at x
 .cases x
 .rename_i t _;rw[aE,decide_eq_true_eq]at x;refine⟨t,?_,x.2⟩;have:=EV x.1;unfold BD;rw[Int.sub_zero,Int.sub_zero];exact this
def LK(ks:List (List Rc))(k:List Rc):List (List Rc):=if k∈ks then ks else ks++[k]
def CK:List (List P4)->List (List Rc)->List (List Rc)
 |[],ks=>ks
 |ps::r,ks=>CK r (if Oh ps then LK ks (CF (ps.map rk)) else ks)
def soF(w h:Int)(n:Nat):List Rc:=CF (((GW w h n).getD []).map rk)
def okN(w h:Int)(due:List (List Rc))(n:Nat):Bool:=match GW w h n with
 |none=>false
 |some out=>decide (out.length<=52)&&Qq w h (out.map rk)&&(decide (soF w h n∈due)&&decide (QH ((soF w h n).map p4) w h=some (n:Int))&&Oy w h (soF w h n))
def okS(w h:Int):Bool:=match Fk w h 3000 [(0,[])] [] with
 |none=>false
 |some ts=>ts.all (λ ps=>(Ey 12 ps).isSome&&ps.all okP&&decide (ps.length<=20)&&(ps.map rk).all (inB w h))&&decide (ts.length<=500)&&(decide (((CK ts []).length:Int)=tab w h)&&(List.range (tab w h).toNat).all (okN w h (CK ts [])))
def sizes:List (Int×Int):=[(1,1),(1,2),(2,1),(1,3),(3,1),(1,4),(4,1),(2,2),(2,3),(3,2)]
theorem Pe:sizes.all (λ s=>okS s.1 s.2)=true:=by decide +kernel
theorem Sn(SIZES_OK:sizes.all (λ s=>okS s.1 s.2)=true){ww hh:Int}(m:(ww,hh)∈sizes):∃ts,Fk ww hh 3000 [(0,[])] []=some ts/\(∀ps∈ts,(∃b,Ey 12 ps=some b)/\ps.all okP=true/\ps.length<=20/\(ps.map rk).all (inB ww hh)=true)/\ts.length<=500/\((CK ts []).length:Int)=tab ww hh/\(∀n:Nat,(n:Int)<tab ww hh->okN ww hh (CK ts []) n=true)/\1<=ww/\ww<=4/\1<=hh/\hh<=4:=by
 have o:=aU.mp SIZES_OK _ m;have bd:∀s∈sizes,1<=s.1/\s.1<=4/\1<=s.2/\s.2<=4:=by decide
 have bd:=bd _ m;have o:okS ww hh=true:=o;unfold okS at o;split at o
 .cases o
 .rename_i ts e;simp only[aE,decide_eq_true_eq]at o;refine⟨ts,e,λ ps hp=>?_,o.1.2,o.2.1,λ n hn=>aU.mp o.2.2 n (bi.mpr (by lia)),bd⟩;have z:=aU.mp o.1.1 ps hp;simp only[aE,decide_eq_true_eq]at z;exact⟨cr.mp z.1.1.1,z.1.1.2,z.1.2,z.2⟩
theorem Pg{ww hh:Int}{due:List (List Rc)}{n:Nat}(x:okN ww hh due n=true):∃out,GW ww hh n=some out/\out.length<=52/\Tiles ww hh (out.map rk)/\(out.map rk).all (inB ww hh)=true/\soF ww hh n=CF (out.map rk)/\soF ww hh n∈due/\QH ((soF ww hh n).map p4) ww hh=some (n:Int)/\∃t,BD ⟨0,0,hh,ww⟩ t/\(mks (soF ww hh n)).Perm (AK t ⟨0,0,hh,ww⟩):=by
 unfold okN at x;split at x
 .cases x
 .rename_i out e;simp only[aE,decide_eq_true_eq]at x;obtain⟨⟨a,b⟩,⟨c,d⟩,t⟩:=x;have b2:=b;unfold Qq at b2;simp only[aE]at b2;exact⟨out,e,a,Qp b,b2.1.1,by unfold soF;rw[e];rfl,c,d,Ox t⟩
theorem SA{A:Around}{k:Nat}(hr:Room k A):A.units+2<cLine:=cS (Nat.add_le_add_left (by decide:2<=64) _) hr.units
theorem IY:∀(a:List (List P4))(x:List P4)(ks:List (List Rc)),CK (a++[x]) ks=if Oh x then LK (CK a ks) (CF (x.map rk)) else CK a ks
 |[],_,_=>rfl
 |y::r,x,ks=>IY r x _
theorem OK(ks:List (List Rc))(k:List Rc):(LK ks k).length<=ks.length+1:=by
 unfold LK;split
 .lia
 .rw[av];exact ah _
theorem HL:∀(a:List (List P4))(ks:List (List Rc)),(CK a ks).length<=ks.length+a.length
 |[],_=>ah _
 |y::r,ks=>by
  have h:=HL r (if Oh y then LK ks (CF (y.map rk)) else ks);have h2:=OK ks (CF (y.map rk));rw[CK,aN];split at h
  .rename_i c;rw[if_pos c];lia
  .rename_i c;rw[if_neg c];lia
abbrev kP(p:Rc):List Key:=[.inl p.t,.inl p.l,.inl p.b,.inl p.r]
def kL(ps:List Rc):List (List Key):=ps.map kP
theorem Hv:∀x y,kL x=kL y->x=y
 |[],[],_=>rfl
 |p::x,q::y,e=>by
  unfold kL at e;rw[aA,aA]at e;injection e with e1 e2;injection e1 with a e1;injection e1 with b e1;injection e1 with c e1;injection e1 with d;cases p;cases q;cases a;cases b;cases c;cases d;rw[Hv x y e2]
 |[],_::_,e=>by cases e
 |_::_,[],e=>by cases e
theorem JM{H:Hp}:∀{ts:List (Addr×Rc)},At H ts->Nest H (kL (rcs ts)) (A9 ts)
 |[],_=>trivial
 |t::ts,h=>⟨⟨t.1,rfl,h t aD⟩,JM λ u hu=>h u (aI _ hu)⟩
theorem PanAt.nx{d:Addr}{φ:Heap->Prop}{H:Hp}{v:V}{ps:List P4}(hd:H d=some (.ext φ))(h:PanAt (λ_=>True) H v ps):PanAt (λ b=>b≠d) H v ps:=by
 obtain⟨a,xs,e,_,c,al⟩:=h;exact⟨a,xs,e,AR c hd (λ z=>nomatch z),c,al.mono λ x p z=>let ⟨t,e,_,c⟩:=z;⟨t,e,AR c hd (λ z=>nomatch z),c⟩⟩
theorem Ml{H:Hp}:∀{xs:LUz}{ps:List P4},All2 (TupAt (λ_=>True) H) xs ps->∃ts:List (Addr×Rc),xs=A9 ts/\At H ts/\rcs ts=ps.map rk
 |[],[],_=>⟨[],rfl,λ_ h=>(nomatch h),rfl⟩
 |x::xs,p::ps,h=>by
  obtain⟨ts,e1,e2,e3⟩:=Ml h.2;obtain⟨t,rfl,_,ht⟩:=h.1;refine⟨(t,rk p)::ts,by rw[e1];rfl,λ u hu=>?_,by rw[rcs,aA,aA,<-e3]⟩;rcases aP.mp hu with rfl|hu
  .exact ht
  .exact e2 u hu
 |[],_::_,h=>h.elim
 |_::_,[],h=>h.elim
abbrev Nb:LSz:=["_law_script","_law_sizes","_law_width","_law_height","_law_due","_law_panes","_law_met","_law_number","_law_panel"]
theorem RA:Ak Nb ["_law_script"] (Ai Ct):=fsk
def st0:Stmt:=(A5 Ct).getD 0 (.Pass ⟨0,0,0,0⟩)
def mk0:Stmt->Expr->Stmt
 |.Assign ts _ q,e=>.Assign ts e q
 |s,_=>s
def ME:Expr:=match st0 with
 |.Assign _ l _=>l
 |_=>.Constant .none 0 ⟨0,0,0,0⟩
def R4:Expr->List Expr
 |.List es _=>es
 |_=>[]
def R3:Expr->Pos
 |.List _ p=>p
 |_=>⟨0,0,0,0⟩
def kss:List (List Int):=[[1,1],[1,2],[2,1],[1,3],[3,1],[1,4],[4,1],[2,2],[2,3],[3,2]]
theorem Sa:mk0 st0 (.List (R4 ME) (R3 ME))=st0:=rfl
theorem Rj:A5 Ct=st0::(A5 Ct).drop 1:=rfl
theorem ST:IC (R4 ME)=some kss:=rfl
theorem Ss{k:Nat}(kl:k<10):∃w h,(w,h)∈sizes/\kss[k]?=some [w,h]:=by
 obtain rfl|rfl|rfl|rfl|rfl|rfl|rfl|rfl|rfl|rfl:k=0\/k=1\/k=2\/k=3\/k=4\/k=5\/k=6\/k=7\/k=8\/k=9:=by lia
 all_goals exact⟨_,_,by decide,rfl⟩
theorem UL{f:Addr}{cdv:Value}{A:Around}{outer:List Env}{s:Shared}{H:Hp}{E:XK}{des:List Expr}{dp:Pos}(hod:IC des=some kss) :
  ∃t,PS (Cs CX0 P w K mg base Nb "law" (Ai Ct) f cdv A outer s H E).nox (mk0 st0 (.List des dp)) t/\∀(D:Dj)(x:Option V)(H0:Hp),(∀(l:Addr)(ts:List Addr)(H1:Hp),Same H0 H1->TupsAt ts kss H1->H1 l=some (.lst (ts.map V.ref))->D.nx [x,some (.ref l),none,none,none,none,none,none,none] H1)->t D [x,none,none,none,none,none,none,none,none] H0:=by
 have S:=RA;refine⟨_,(Am (i:=1) S.nd rfl (ar rfl) (QC hod (by decide))),?_⟩;intro D x H0 q ts HT sT tA;refine⟨by rw[aa,tA.len];exact aM (Al (by decide)),λ l nl=>?_⟩;have sl:Same HT (upd HT l (.lst (ts.map V.ref))):=Same.new nl;exact q l ts _ (sT.trans sl) (tA.same sl) Ad
inductive Nh(tb3:Addr)(K:Frag)(vs:LUz)(H:Hp)(Q:VK)(E:XK):Prop
 |mk (a:Addr) (ns:List Int) (h0:vs=[.ref a]) (h1:SqL K H a (ns.map V.int)) (h2:ns.length<=63) (h3:H tb3=some (.tbl #[])) (h4:∀H',Q (.bl true) H'):Nh tb3 K vs H Q E
def sp_law(tb3:Addr)(K:Frag) :Sp:=λ vs H Q E=>Nh tb3 K vs H Q E
theorem Sm{f tb3:Addr}{fd:FuncData}(F:Fun K "law" "law" Ct f fd)(T:Txt mg tk)(D__law_at:Ao P w K mg base 1 "_law_at" ["_law_script","_law_k"] (Ry K))(D__law_knead:Ao P w K mg base 1 "_law_knead" ["_law_number","_law_by"] Kn)(D__law_tilings:Ao P w K mg base 2 "_law_tilings" ["_law_width","_law_height"] O6)
  (D__law_cuttable:Ao P w K mg base 15 "_law_cuttable" ["_law_panes"] (GG 12)) (D_count:Ao P w K mg base 3 "count" ["width","height"] GH) (D_panel_by:Ao P w K mg base 24 "panel_by" ["width","height","number"] (GD C)) (M_Panel_panes:Qg P w K mg base 1 C "panes" ["self"] (E8 C)) (K_Panel:Lr P w K mg base 4 "Panel" C ["self","width","height","panes"] (GJ K C))
  (D_number_of:Ao P w K mg base 25 "number_of" ["panel"] (FG tb3 C)):A2 P w K mg base CX0 26 f fd ["_law_script"] (sp_law tb3 K):=by
 have S:=RA;refine F.g S ?_;rintro vs H Q E ⟨a,ns,rfl,hS,hlen,htb,q⟩;refine⟨rfl,λ cdv A outer s hr=>?_⟩;have hu2:=SA hr;obtain⟨tC,hC,kC⟩:∃rd,PSs (Cs CX0 P w K mg base Nb "law" (Ai Ct) f cdv A outer s H E).nox ((A5 Ct).drop 4) rd/\∀(x0 x1 x5:Option V)(d:Addr)(xs:NK)(ww hh:Int)(ts:List (List P4))(H1:Hp),1<=ww->ww<=4->1<=hh->hh<=4->((CK ts []).length:Int)=tab ww hh->(∀n:Nat,(n:Int)<tab ww hh->okN ww hh (CK ts []) n=true)->(CK ts []).length<=500->NdAt P w H1 d xs->D6 xs=(CK ts []).map kL->H1 tb3=some (.tbl #[]) ->
   rd { nx:=λ_ H'=>Q .non H',rt:=Q } [x0,x1,some (.int ww),some (.int hh),some (.ref d),x5,none,none,none] H1:=by
  refine⟨_,(Ab (AG (Aw Pb (Ap D_count hr (Aa (pv 2) (Aa (pv 3) Ac))) (Av DN rfl T.z_len rfl (Aa (pv 4) Ac)) (Az _)) (Ah (Aq FJ)) Ax)
  (Ab (Am (i:=6) S.nd rfl (ar rfl) (K2 (P:=P) (wo:=w)))
  (Ab (A4 PassesOwn.never rfl (CG rfl T.z_range (Aa (Av DN rfl T.z_len rfl (Aa (pv 4) Ac)) Ac)) (Aj (i:=7) S.nd rfl (ar rfl)) (Ab (Am (i:=8) S.nd rfl (ar rfl) (Ap D_panel_by hr (Aa (pv 2) (Aa (pv 3) (Aa (pv 7) Ac)))))
  (Ab (Am (i:=5) S.nd rfl (ar rfl) (CH C8 rfl T.z_tuple rfl (Aa (J9 M_Panel_panes hr (pv 8)) Ac)))
  (Ab (AG (PW.pt (GP (Aw (N9 hu2) (pv 5) (pv 4) rfl) (GP (Aw (Sl hu2) (pv 5) (pv 6) rfl) (Fn (Aw Pb (Ap D_number_of hr (Aa (K1 K_Panel hr (Aa (pv 2) (Aa (pv 3) (Aa (CH EX rfl T.z_list rfl (Aa (pv 5) Ac)) Ac)))) Ac)) (pv 7) (Az _)))))) (Ah (Aq FJ)) Ax)
  (Ah (M4 hu2 (pv 6) (pv 5) FJ rfl))))))
  (Ah (Aq (BR Ck (Av DN rfl T.z_len rfl (Aa (pv 6) Ac)) (Av DN rfl T.z_len rfl (Aa (pv 4) Ac)) (Az _))))))),?_⟩
  intro x0 x1 x5 d xs ww hh ts H1 w1 w4 h1 h4 cnt okn d5 nd hk tab1;have xl:xs.length=(CK ts []).length:=by have:=congrArg List.length hk;unfold D6 at this;rw[aa,aa]at this;exact this
  refine⟨_,rfl,_,rfl,ww,hh,rfl,w1,w4,h1,h4,λ H2 s2=>?_⟩;have nd2:NdAt P w H2 d xs:=nd.keep (λ o e=>s2 _ _ e) λ b ys e=>s2 _ _ e;refine⟨_,rfl,d,xs,rfl,nd2,?_⟩;have cnt':tab ww hh=((xs.length:Nat):Int):=by rw[xl];exact cnt.symm
  refine⟨rfl,_,rfl,Bm (by rw[cnt',decide_eq_true rfl];rfl) ?_⟩;intro m nm nmA;have s3:Same H2 (upd H2 m (NdO P w m [])):=Same.new nm;have ndm:d≠m:=Ag nd2.1 nm;generalize upd H2 m (NdO P w m [])=H3 at nmA s3 |-;have nd3:NdAt P w H3 d xs:=nd2.keep (λ o e=>s3 _ _ e) λ b ys e=>s3 _ _ e;have tab3:TabOk EQ DT tb3 H3:=TabOk.new ((s2.trans s3) _ _ tab1);refine⟨_,rfl,d,xs,rfl,nd3,_,rfl,by lia,by lia,AD (lo:=0) (n:=((xs.length:Nat):Int).toNat) (λ i σ H'=>(∃x5 x7 x8,σ=[x0,x1,some (.int ww),some (.int hh),some (.ref d),x5,some (.ref m),x7,x8])/\NdAt P w H' d xs/\TabOk EQ DT tb3 H'/\∃ys,NdAt P w H' m ys/\D6 ys=((List.range i).map (soF ww hh)).map kL) ⟨⟨_,_,_,rfl⟩,nd3,tab3,[],nmA,rfl⟩ ?_ ?_⟩
  .rintro i σ H4 hi ⟨⟨x5,x7,x8,rfl⟩,nd4,tab4,ys,ny4,ky⟩;have hi':i<xs.length:=by lia
   obtain⟨out,ho,few,til,ins,so,mem,num,tr,fit,pmt⟩:=Pg (okn i (by lia));rw[dJ];refine⟨_,rfl,_,rfl,_,rfl,ww,hh,(i:Int),out,rfl,w1,w4,h1,h4,by lia,by lia,ho,til,few,λ a2 dx ls ld tz kvs H5 s5 na pn pm=>?_⟩;have so5:rcs tz=soF ww hh i:=by rw[so];exact GM (w:=ww) (h:=hh) (by lia) (by lia) ins pm pn.srt
   refine⟨_,rfl,a2,dx,_,rfl,pn.ob,EM,a2,dx,ls,ld,ww,hh,tz,kvs,rfl,pn,λ l6 nl6=>?_⟩;refine nv nl6 λ H6 s6 e6=>?_;refine⟨l6,_,rfl,.inl ⟨SqL.of e6,λ t7 nt7=>?_⟩⟩;refine nv nt7 λ H7 s7 e7=>?_;have s47:=s5.trans (s6.trans s7);have pn7:=pn.same (s6.trans s7);have nk7:NAt H7 t7 (kL (soF ww hh i)):=⟨_,e7,by rw[<-so5];exact JM pn7.ats⟩;have nd7:NdAt P w H7 d xs:=nd4.keep (λ o e=>s47 _ _ e) λ b ys e=>s47 _ _ e;have ny7:NdAt P w H7 m ys:=ny4.keep (λ o e=>s47 _ _ e) λ b ys e=>s47 _ _ e;have i1:(atKey xs (kL (soF ww hh i))).isSome=true:=by
    cases hq:(atKey xs (kL (soF ww hh i))).isSome with
    |true=>rfl
    |false=>rw[EY Hv _ hk,decide_eq_false_iff_not]at hq;exact absurd mem hq
   have nm:soF ww hh i∉(List.range i).map (soF ww hh):=λ z=>by
    obtain⟨j,hj,ej⟩:=az.mp z;have hj:=bi.mp hj;obtain⟨_,_,_,_,_,_,_,numj,_⟩:=Pg (okn j (by lia));rw[ej,num]at numj;have:=Option.some.inj numj;lia
   have i2:(atKey ys (kL (soF ww hh i))).isSome=false:=by rw[EY Hv _ ky,decide_eq_false_iff_not];exact nm
   refine⟨_,rfl,_,rfl,d,t7,xs,_,rfl,rfl,nd7,nk7,_,rfl,Bm (by rw[i1];rfl) ⟨_,rfl,_,rfl,m,t7,ys,_,rfl,rfl,ny7,nk7,_,rfl,Bm (by rw[i2];rfl) ?_⟩⟩;refine⟨_,rfl,_,rfl,_,rfl,t7,_,rfl,.inr (SqT.of e7),λ l8 nl8=>?_⟩;refine nv nl8 λ H8 s8 e8=>?_;have pn8:=pn7.same s8;intro x9 dx9 nx9 ndx9 nex9;have sB:Same H8 (upd (upd H8 dx9 (.own x9)) x9 (.ins C dx9 [])):=λ b o e=>by rw[Af (Ag e nx9),Af (Ag e ndx9)];exact e
   have eB:(upd (upd H8 dx9 (.own x9)) x9 (.ins C dx9 [])) x9=some (.ins C dx9 []):=Ad;generalize upd (upd H8 dx9 (.own x9)) x9 (.ins C dx9 [])=HB at sB eB |-;have tzl:tz.length<=52:=pn.few;refine⟨x9,dx9,l8,ww,hh,tz,rfl,eB,SqL.of (sB _ _ e8),pn8.ats.same sB,pn8.til,tzl,⟨w1,by lia⟩,⟨h1,by lia⟩,λ tz' ls9 ld9 kvs9 H9 sx pm9 pn9=>⟨rfl,?_⟩⟩;have s79:Same H7 H9:=λ y o e=>sx _ _ (Ag (s8 _ _ e) nx9) (sB _ _ (s8 _ _ e));have so9:rcs tz'=soF ww hh i:=by
    rw[so];exact GM (w:=ww) (h:=hh) (by lia) (by lia) ins ((pm9.map _).trans pm) pn9.srt
   refine⟨x9,dx9,ls9,ld9,ww,hh,tz',kvs9,tr,(i:Int),rfl,pn9,w4,h4,TabOk.same tab4 (s47.trans s79),fit,by rw[so9];exact pmt,by rw[so9];exact num,λ H10 s10 tab10=>?_⟩;obtain⟨tps,etb,_⟩:=TabOk.same tab4 (s47.trans s79);have nd9:NdAt P w H9 d xs:=nd7.keep (λ o e=>s79 _ _ e) λ b ys e=>s79 _ _ e;have ny9:NdAt P w H9 m ys:=ny7.keep (λ o e=>s79 _ _ e) λ b ys e=>s79 _ _ e;have k10:∀b ys,H9 b=some (.tup ys)->H10 b=some (.tup ys):=λ b ys e=>s10 _ _ (AR e etb (λ z=>nomatch z)) e;have nd10:NdAt P w H10 d xs:=nd9.keep (λ o e=>s10 _ _ (AR nd9.1 etb (λ z=>nomatch z)) e) k10;have ny10:NdAt P w H10 m ys:=ny9.keep (λ o e=>s10 _ _ (AR ny9.1 etb (λ z=>nomatch z)) e) k10;have nk10:NAt H10 t7 (kL (soF ww hh i)):=(nk7.keep λ b ys e=>s79 _ _ e).keep k10;have yl:ys.length=i:=by have:=congrArg List.length ky;unfold D6 at this;rw[aa,aa,aa,cz]at this;exact this
   refine⟨_,rfl,rfl,_,rfl,Bm (by rw[decide_eq_true rfl];rfl) ⟨_,rfl,_,rfl,m,t7,ys,_,rfl,rfl,rfl,ny10,nk10,by lia,λ ny11 nc=>⟨⟨_,_,_,rfl⟩,?_,?_,_,ny11,?_⟩⟩⟩
   .refine nd10.keep (λ o e=>?_) λ b ys e=>?_
    .rw[Af ndm];exact e
    .rw[Af (AR e ny10.1 (λ z=>nomatch z))];exact e
   .obtain⟨ps,e1,e2,e3⟩:=tab10;refine⟨ps,by rw[Af (AR e1 ny10.1 (λ z=>nomatch z))];exact e1,e2,?_⟩;rcases e3 with e3|⟨c,c1,c2⟩
    .exact .inl e3
    .exact .inr ⟨c,c1,by rw[Af (nc _ _ c2)];exact c2⟩
   .rw[FF Hv _ ky,bF,aj];congr 1;exact if_neg nm
  .rintro σ H4 ⟨⟨x5,x7,x8,rfl⟩,nd4,tab4,ys,ny4,ky⟩;rw[bQ]at ky;have yl:ys.length=xs.length:=by have:=congrArg List.length ky;unfold D6 at this;rw[aa,aa,aa,cz]at this;exact this
   refine⟨_,rfl,m,ys,rfl,ny4,_,rfl,d,xs,rfl,nd4,rfl,?_⟩;rw[yl,decide_eq_true rfl];exact q _
 obtain⟨tB,hB,kB⟩:∃rd,PSs (Cs CX0 P w K mg base Nb "law" (Ai Ct) f cdv A outer s H E).nox ((A5 Ct).drop 2) rd/\∀(x0 x1:Option V)(ww hh:Int)(H1:Hp),(ww,hh)∈sizes->H1 tb3=some (.tbl #[])->rd { nx:=λ_ H'=>Q .non H',rt:=Q } [x0,x1,some (.int ww),some (.int hh),none,none,none,none,none] H1:=by
  refine⟨_,(Ab (Am (i:=4) S.nd rfl (ar rfl) (K2 (P:=P) (wo:=w)))
  (Ab (A4 PassesOwn.never rfl (A0 (Ap D__law_tilings hr (Aa (pv 2) (Aa (pv 3) Ac)))) (Aj (i:=5) S.nd rfl (ar rfl)) (Ah (AG (BK (Ap D__law_cuttable hr (Aa (pv 5) Ac))) (Ah (M4 hu2 (pv 4) (CH C8 rfl T.z_tuple rfl (Aa (Av EW rfl T.z_sorted rfl (Aa (pv 5) Ac)) Ac)) FJ rfl)) Ax)))
  hC)),?_⟩
  intro x0 x1 ww hh H1 m tab1;obtain⟨ts,hr0,hcut,tl,hdl,okn,w1,w4,h1,h4⟩:=Sn Pe m;intro d nd ndA;obtain⟨H2,g,s1,_⟩:=nw (NdO P w d []) nd;rw[g] at ndA |-;refine⟨_,rfl,_,rfl,ww,hh,ts,rfl,w1,w4,h1,h4,hr0,λ l xs H3 s3 hl al=>⟨l,rfl,⟨_,SqL.of hl⟩,?_⟩⟩;have ndA3:NdAt P w H3 d []:=ndA.keep (λ o e=>s3 _ _ e) λ b ys e=>s3 _ _ e;have al3:=al.mono λ_ _=>PanAt.nx ndA3.1;have nl:l≠d:=AR hl ndA3.1 (λ z=>nomatch z);have xl:=al.len;refine Bc (K:=K) (a:=l) (xs:=xs) (λ i σ H'=>(∃x5,σ=[x0,x1,some (.int ww),some (.int hh),some (.ref d),x5,none,none,none])/\SameX d H3 H'/\∃ys,NdAt P w H' d ys/\D6 ys=(CK (ts.take i) []).map kL) ⟨⟨_,rfl⟩,SameX.refl,[],ndA3,rfl⟩ (λ i σ H' _ hp=>SqL.of (hp.2.1 _ _ nl hl)) ?_ ?_
  .rintro i x σ H' hx ⟨⟨x5,rfl⟩,sx,ys,ny,ky⟩;obtain⟨ps,hps,pan⟩:=al3.get hx;obtain⟨⟨b,hb⟩,ok,pl,ins⟩:=hcut ps (ax hps);have pan':=(pan.kx λ b o nb e=>sx b o nb e).any;have tk:CK (ts.take (i+1)) []=if Oh ps then LK (CK (ts.take i) []) (CF (ps.map rk)) else CK (ts.take i) []:=by rw[aK,hps];exact IY _ _ _
   have cb:Oh ps=b:=by unfold Oh;rw[hb];rfl
   refine⟨_,rfl,x,ps,b,rfl,pan',ok,pl,hb,λ H5 s5=>⟨_,rfl,?_⟩⟩;have n5:NdAt P w H5 d ys:=ny.keep (λ o e=>s5 _ _ e) λ b ys e=>s5 _ _ e;cases b with
   |false =>
    refine Bm rfl ⟨⟨_,rfl⟩,sx.trans s5.x,ys,n5,?_⟩;rw[tk,cb,if_neg ao];exact ky
   |true =>
    refine Cq rfl ?_;have pan5:=pan'.kx (Kx.of s5);obtain⟨pa,zs,rfl,_,hpa,alz⟩:=pan5;obtain⟨tz,rfl,atz,rz⟩:=Ml alz;have ins':(rcs tz).all (inB ww hh)=true:=by rw[rz];exact ins
    have inn:∀t∈tz,t.2.In ww hh:=λ t ht=>LZ (aU.mp ins' _ (az.mpr ⟨t,ht,rfl⟩));have zl:tz.length=ps.length:=by have:=congrArg List.length rz;rw[aa,aa]at this;exact this
    refine⟨_,rfl,_,rfl,pa,tz.map λ t=>(t.1,t.2.ls),3,GB.key,rfl,by rw[aJ];exact SqL.of hpa,by rw[aa];lia,?_,?_,λ l6 us nl6 pm srt=>?_⟩
    .intro z hz;obtain⟨t,ht,rfl⟩:=az.mp hz;exact⟨rfl,atz t ht⟩
    .intro z hz y hy;obtain⟨t,ht,rfl⟩:=az.mp hz;obtain⟨u,hu',rfl⟩:=az.mp hy;exact GB.key_lt (inn t ht) (inn u hu') (by lia) (by lia) (by lia) (by lia)
    obtain⟨tz',pm',rfl⟩:=GU pm rfl;have srt':GB.Srt (rcs tz'):=by
     unfold GB.Srt;rw[aJ]at srt |-;exact srt
    have so:rcs tz'=CF (ps.map rk):=by
     rw[<-rz];exact GM (w:=ww) (h:=hh) (by lia) (by lia) ins' (pm'.map _) srt'
    refine nv nl6 λ H6 s6 e6=>?_;refine⟨l6,_,rfl,.inl ⟨SqL.of e6,λ l7 nl7=>?_⟩⟩;refine nv nl7 λ H7 s7 e7=>?_;have s57:=s6.trans s7;have n7:NdAt P w H7 d ys:=n5.keep (λ o e=>s57 _ _ e) λ b ys e=>s57 _ _ e;have nk:NAt H7 l7 (kL (CF (ps.map rk))):=⟨_,e7,by
     rw[<-so,aJ];exact JM λ t ht=>s57 _ _ (atz t (pm'.mem_iff.mp ht))⟩
    have yl:ys.length=(CK (ts.take i) []).length:=by have:=congrArg List.length ky;unfold D6 at this;rw[aa,aa]at this;exact this
    have tkl:=HL (ts.take i) [];have til:=List.length_take_le i ts;have ti2:(ts.take i).length<=ts.length:=by rw[bB];lia
    have ylt:ys.length<1000:=by rw[b5]at tkl;lia
    refine⟨d,l7,ys,_,rfl,rfl,rfl,n7,nk,ylt,λ n8 _=>⟨⟨_,rfl⟩,sx.trans (s5.x.trans (s57.x.trans SameX.upd)),_,n8,?_⟩⟩;rw[FF Hv _ ky,tk,cb,if_pos rfl];unfold LK;split<;>rfl
  .rintro σ H4 ⟨⟨x5,rfl⟩,sx,ys,ny,ky⟩;rw[xl,aH]at ky;have dl:=HL ts [];have tab3:=(s1.trans s3) _ _ tab1;have tab4:=sx _ _ (AR tab3 ndA3.1 (λ z=>nomatch z)) tab3;exact kC _ _ _ d ys ww hh ts H4 w1 w4 h1 h4 hdl okn (by rw[b5]at dl;lia) ny ky tab4
 obtain⟨t0,h0,k0⟩:=UL (P:=P) (w:=w) (K:=K) (mg:=mg) (base:=base) (f:=f) (cdv:=cdv) (A:=A) (outer:=outer) (s:=s) (H:=H) (E:=E) (dp:=R3 ME) ST;rw[Sa]at h0;rw[Rj];generalize st0=st at h0 |-;refine⟨_,Ab h0 (Ab (LL (As CZ (pv 1) (An Cj (Ap D__law_knead hr (Aa (Ap D__law_at hr (Aa (pv 0) (Aa Ae Ac))) (Aa Ae Ac))) Ae) (λ_ _=>rfl)) (B4 rfl (Au (Aj (i:=2) S.nd rfl (ar rfl)) (Au (Aj (i:=3) S.nd rfl (ar rfl)) AU))))
  hB),?_⟩
 refine k0 _ _ H λ l ts GL sA tA el=>?_;refine⟨_,rfl,_,rfl,a,ns,0,rfl,sA.seq hS,by decide,by decide,λ z HZ sz=>⟨z,1,rfl,by decide,by decide,λ r g=>⟨_,_,rfl,rfl,(show(0:Int)<10 by decide),?_⟩⟩⟩;obtain⟨t,ww,hh,m,hat,ht⟩:∃t w h,(w,h)∈sizes/\atI (ts.map V.ref) (r % 10)=some (V.ref t)/\GL t=some (.tup [.int w,.int h]):=by
  have g0:=bO r (b:=10) (by decide);have g1:=bL r (b:=10) (by decide);obtain⟨k,ek⟩:=Int.eq_ofNat_of_zero_le g0;rw[ek];have kl:k<10:=by lia
  obtain⟨w,h,m,hg⟩:=Ss kl;obtain⟨t,h1,h2⟩:=tA.get hg;refine⟨t,w,h,m,?_,h2⟩;exact Kb (by rw[ay,h1];rfl)
 exact⟨l,_,_,_,rfl,rfl,SqL.of (sz _ _ el),hat,t,_,rfl,SqT.of (sz _ _ ht),rfl,_,_,rfl,_,_,rfl,rfl,kB _ _ ww hh HZ m ((sA.trans sz) _ _ htb)⟩
def icB(K:Frag)(C:Addr):Bool:=plainGet K C Str.empty&&(hasDictIn K C&&(plainOver K C&&((findIn K (.ref C) "__setattr__"==some (some (.builtin "object.__setattr__")))&&((findIn K (.ref C) "__class__"==some (some (.builtin "object.__class__"))) &&
 ((specialIn K (.builtin "object.__class__") "__get__"==some (some (.builtin "getset_descriptor.__get__")))&&((takesIn K (.builtin "object.__class__")==some true)&&((mroIn K C (.type "object")==some true)&&(makesIn K C&&keepIn K (.ref C)))))))))
theorem Ma{C:Addr}(h:icB K C=true):On K C/\makesIn K C=true/\keepIn K (.ref C)=true:=by
 unfold icB at h;simp only[aE,beq_iff_eq]at h;obtain⟨a,b,c,d,e,f,g,i,j,l⟩:=h;exact⟨⟨⟨a,b,c,d⟩,e,f,g,i⟩,j,l⟩
def Su(K:Frag)(cT cW cU cL:Addr):Bool:=([(cW,"mark"),(cU,"at"),(cU,"first"),(cU,"other"),(cL,"at"),(cL,"first"),(cL,"other")]:List (Addr×Str)).all (λ p=>findIn K (.ref p.1) p.2==some none) &&
 ([(cW,cW,true),(cW,cU,false),(cW,cL,false),(cU,cW,false),(cL,cW,false),(cU,cU,true),(cU,cL,false),(cL,cU,false),(cL,cL,true),(cW,cT,true),(cU,cT,true),(cL,cT,true)]:List (Addr×Addr×Bool)).all (λ p=>kitOne K (.ref p.1) (.ref p.2.1)==some p.2.2)
theorem Tm(h:Su K cT cW cU cL=true)(iW:On K cW)(iU:On K cU)(iL:On K cL)(gT:mg "Tree"=some (.ref cT))(gW:mg "Whole"=some (.ref cW))(gU:mg "Upright"=some (.ref cU))(gL:mg "Level"=some (.ref cL)):RT mg K cT cW cU cL:=by
 unfold Su at h;rw[aE,aU,aU]at h;obtain⟨h1,h2⟩:=h;have f1:∀p∈([(cW,"mark"),(cU,"at"),(cU,"first"),(cU,"other"),(cL,"at"),(cL,"first"),(cL,"other")]:List (Addr×Str)),findIn K (.ref p.1) p.2=some none:=λ p hp=>beq_iff_eq.mp (h1 p hp);have f2:∀p∈([(cW,cW,true),(cW,cU,false),(cW,cL,false),(cU,cW,false),(cL,cW,false),(cU,cU,true),(cU,cL,false),(cL,cU,false),(cL,cL,true),(cW,cT,true),(cU,cT,true),(cL,cT,true)]:List (Addr×Addr×Bool)),kitOne K (.ref p.1) (.ref p.2.1)=some p.2.2:=λ p hp=>beq_iff_eq.mp (h2 p hp);simp only[List.forall_mem_cons,bx,false_implies,implies_true,and_true]at f1 f2;obtain⟨a1,a2,a3,a4,a5,a6,a7⟩:=f1;obtain⟨k1,k2,k3,k4,k5,k6,k7,k8,k9,k10,k11,k12⟩:=f2;refine⟨gT,gW,gU,gL,iW,?_,a1,?_,?_,?_,k1,?_,?_,?_,k10,?_⟩
 .intro u;cases u;exact iL;exact iU
 .intro u;cases u;exact a5;exact a2
 .intro u;cases u;exact a6;exact a3
 .intro u;cases u;exact a7;exact a4
 .intro u;cases u;exact k3;exact k2
 .intro u;cases u;exact k5;exact k4
 .intro u v;cases u<;>cases v;exact k9;exact k8;exact k7;exact k6
 .intro u;cases u;exact k12;exact k11
end
theorem QO{α β:Type}{us:List α}{p:β}{ps:List β}(h:us.length=(p::ps).length):∃u vs,us=u::vs/\vs.length=ps.length:=by
 cases us with
 |nil=>cases h
 |cons u vs=>exact⟨u,vs,rfl,Nat.succ.inj h⟩
theorem QN{α β:Type}{us:List α}(h:us.length=([]:List β).length):us=[]:=bT.mp h
abbrev FB(K:Frag)(x qual:Str)(st:Stmt)(f:Addr):Prop:=∃fd,Fun K x qual st f fd
abbrev FI(K:Frag)(x:Str)(st:Stmt)(f:Addr):Prop:=nsIn K mainGlobals x=some (some (.ref f))/\FB K x x st f
abbrev MI(K:Frag)(C:Addr)(x qual:Str)(st:Stmt)(f:Addr):Prop:=findIn K (.ref C) x=some (some (.ref f))/\isFn K (.ref f)=true/\FB K x qual st f
structure HC(P:Program)(w:World)(K:Frag)(mg:MGz)(base:Heap):Prop where
 ex:∃h:Heap,K.In h/\h.Ns mainGlobals mg
abbrev BOk(x qual:Str)(st:Stmt)(ps:LSz):Prop:=∀(kV doc pm:Value)(an:Option Addr)(cdv ct:Value)(us:LWz),us.length=ps.length->bindArgs (fnOf x qual (Bl st) (A5 st) (Ai st) .none kV doc pm an cdv ct) ⟨us,[]⟩=pure (ps.zip us)
section
variable{P:Program}{w:World}{K:Frag}{mg:MGz}{base:Heap}{x qual:Str}{st:Stmt}{f C:Addr}{n:Nat}{ps:LSz}{sp:Sp}{v:Value}
theorem HC.g(c:HC P w K mg base)(a:nsIn K mainGlobals x=some (some v)):mg x=some v:=let ⟨_,X,G⟩:=c.ex;mg_of X G a
theorem HC.d(c:HC P w K mg base)(i:FI K x st f)(ok:∀fd,Fun K x x st f fd->A2 P w K mg base CX0 n f fd ps sp)(hb:BOk x x st ps:=by intro _ _ _ _ _ _ us hl;(repeat (obtain⟨_,_,e,h⟩:=QO hl;clear hl;subst e;have hl:=h;clear h));cases QN hl;rfl):Ao P w K mg base n x ps sp:=let ⟨a,_,F⟩:=i;⟨_,_,ok _ F,c.g a,F.kp,F.binds hb⟩
theorem HC.m(_:HC P w K mg base)(l:Cls K C)(i:MI K C x qual st f)(ok:∀fd,Fun K x qual st f fd->A2 P w K mg base CX0 n f fd ps sp)(hb:BOk x qual st ps:=by intro _ _ _ _ _ _ us hl;(repeat (obtain⟨_,_,e,h⟩:=QO hl;clear hl;subst e;have hl:=h;clear h));cases QN hl;rfl):Qg P w K mg base n C x ps sp:=let ⟨a,b,_,F⟩:=i;⟨l,_,_,⟨a,b,F.kp⟩,ok _ F,F.binds hb⟩
theorem HC.k{cn:Str}(c:HC P w K mg base)(m:makesIn K C=true)(k:keepIn K (.ref C)=true)(ac:nsIn K mainGlobals cn=some (some (.ref C)))(i:MI K C "__init__" qual st f)(ok:∀fd,Fun K "__init__" qual st f fd->A2 P w K mg base CX0 n f fd ps sp)(hb:BOk "__init__" qual st ps:=by intro _ _ _ _ _ _ us hl;(repeat (obtain⟨_,_,e,h⟩:=QO hl;clear hl;subst e;have hl:=h;clear h));cases QN hl;rfl):Lr P w K mg base n cn C ps sp:=let ⟨a,b,_,F⟩:=i;⟨_,_,⟨m,a,b,k⟩,ok _ F,c.g ac,F.binds hb⟩
end
theorem all_mk{l:OpenLaw}{w:World}{K:Frag}{h:Heap}{mg:MGz}{fa:Addr}(X:K.In h)(G:h.Ns mainGlobals mg)(hfa:mg "law"=some (.ref fa))
  {C:Addr} (aC:nsIn K mainGlobals "Panel"=some (some (.ref C)))
  (pg_C:plainGet K C Str.empty=true)
  (hd_C:hasDictIn K C=true)
  (po_C:plainOver K C=true)
  (sa_C:findIn K (.ref C) "__setattr__"=some (some (.builtin "object.__setattr__")))
  (mk_C:makesIn K C=true)
  (kc_C:keepIn K (.ref C)=true)
  (n_C_width:findIn K (.ref C) "width"=some none)
  (n_C_height:findIn K (.ref C) "height"=some none)
  (n_C_sorted_panes:findIn K (.ref C) "sorted_panes"=some none)
  (n_C_by_square:findIn K (.ref C) "by_square"=some none)
  {cT:Addr} (aT:nsIn K mainGlobals "Tree"=some (some (.ref cT)))
  {cW:Addr} (aC_cW:nsIn K mainGlobals "Whole"=some (some (.ref cW))) (ic_cW:icB K cW=true)
  {f_cW:Addr} {od_cW an_cW:Option Addr} {sl_cW:AOz} {oc_cW kV_cW dc_cW pm_cW cd_cW ct_cW:Value} {T_cW:Addr} {to_cW:Value} {td_cW:Option Addr} {ts_cW:AOz} {ti_cW:Array Value} {tn_cW:Nat} (a_cWcW:findIn K (.ref cW) "__init__"=some (some (.ref f_cW))) (i_cW:isFn K (.ref f_cW)=true) (l_cW:K.lookup f_cW=some ⟨oc_cW,od_cW,.func (fnOf "__init__" "Whole.__init__" (Bl Bj) (A5 Bj) (Ai Bj) (.ref T_cW) kV_cW dc_cW pm_cW an_cW cd_cW ct_cW),sl_cW⟩) (cc_cW:codeIn K cd_cW "Whole.__init__"=true) (k_cW:keepIn K (.ref f_cW)=true) (lT_cW:K.lookup T_cW=some ⟨to_cW,td_cW,.seq ti_cW tn_cW,ts_cW⟩) (eT_cW:ti_cW=#[.none])
  {cU:Addr} (aC_cU:nsIn K mainGlobals "Upright"=some (some (.ref cU))) (ic_cU:icB K cU=true)
  {f_cU:Addr} (h_cUcU:MI K cU "__init__" "Upright.__init__" Cf f_cU)
  {cL:Addr} (aC_cL:nsIn K mainGlobals "Level"=some (some (.ref cL))) (ic_cL:icB K cL=true)
  {f_cL:Addr} (h_cLcL:MI K cL "__init__" "Level.__init__" CT f_cL)
  (kit:Su K cT cW cU cL=true)
  {f0:Addr} (h0:FI K "is_whole" Ei f0)
  {f1:Addr} (h1:FI K "is_side" Fi f1)
  {f2:Addr} (h2:FI K "is_rectangle" Cc f2)
  {f3:Addr} (h3:FI K "inside" GO f3)
  {f4:Addr} (h4:FI K "squares_of" CO f4)
  {f5:Addr} (h5:FI K "check_sides" C1 f5)
  {f6:Addr} (h6:FI K "check_panes" C2 f6)
  {f7:Addr} (h7:FI K "panes_by_square" Bv f7)
  {f8:Addr} (h8:FI K "check_covered" BI f8)
  {f9:Addr} (h9C:MI K C "__init__" "Panel.__init__" CS f9)
  {f10:Addr} (h10C:MI K C "panes" "Panel.panes" C3 f10)
  {f11:Addr} (h11:FI K "line_breaks" Cz f11)
  {f12:Addr} (h12:FI K "goes_through" Cd f12)
  {f13:Addr} (h13:FI K "lines_through" BG f13)
  {f14:Addr} (h14:FI K "check_counted" BJ f14)
  {f15:Addr} (h15:FI K "ways_to_part" BZ f15)
  {f16:Addr} (h16:FI K "count_of_grid" BH f16)
  {f17:Addr} (h17:FI K "count_by_smaller" Bt f17)
  {f18:Addr} (h18:FI K "count" J0 f18)
  {f19:Addr} (h19:FI K "cut_from" Ej f19)
  {f20:Addr} (h20:FI K "tree_from" Dr f20)
  {f21:Addr} (h21:FI K "first_piece" C0 f21)
  {f22:Addr} (h22:FI K "other_piece" Cy f22)
  {f23:Addr} (h23:FI K "entries_by" CP f23)
  {f24:Addr} (h24:FI K "entry_for" Dv f24)
  {f25:Addr} {od25 an25:Option Addr} {sl25:AOz} {oc25 kV25 dc25 pm25 cd25 ct25:Value} (a25:nsIn K mainGlobals "cut_up"=some (some (.ref f25))) (l25:K.lookup f25=some ⟨oc25,od25,.func (fnOf "cut_up" "cut_up" (Bl Ba) (A5 Ba) (Ai Ba) .none kV25 dc25 pm25 an25 cd25 ct25),sl25⟩) (cc25:codeIn K cd25 "cut_up"=true) (k25:keepIn K (.ref f25)=true) {c25 tb3:Addr} (ec25:cd25=.ref c25) (hC25:JY K c25 tb3=true)
  {f26:Addr} (h26:FI K "tree_of" Fh f26)
  {f27:Addr} (h27:FI K "all_lines" Dw f27)
  {f28:Addr} (h28:FI K "parts_between" BF f28)
  {f29:Addr} (h29:FI K "in_common" Du f29)
  {f30:Addr} (h30:FI K "rows_without" Ca f30)
  {f31:Addr} (h31:FI K "rows_by_lines" BE f31)
  {f32:Addr} (h32:FI K "strips_of_size" B3 f32)
  {f33:Addr} (h33:FI K "all_strips" CQ f33)
  {f34:Addr} (h34:FI K "rows_before" Cw f34)
  {f35:Addr} (h35:FI K "strip_by" Ed f35)
  {f36:Addr} (h36:FI K "row_by" Cb f36)
  {f37:Addr} (h37:FI K "panes_by" Ef f37)
  {f38:Addr} (h38:FI K "panel_by" Eg f38)
  {f39:Addr} (h39:FI K "lines_of" Eh f39)
  {f40:Addr} (h40:FI K "strip_at" Ee f40)
  {f41:Addr} (h41:FI K "number_in_strips" Bs f41)
  {f42:Addr} (h42:FI K "number_in_rows" AW f42)
  {f43:Addr} (h43:FI K "number_of" Dt f43)
  {f44:Addr} (h44:FI K "_law_at" Fj f44)
  {f45:Addr} (h45:FI K "_law_knead" Bw f45)
  {f46:Addr} (h46:FI K "_law_mask" Dx f46)
  {f47:Addr} (h47:FI K "_law_tilings" Ce f47)
  {f48:Addr} (h48:FI K "_law_cuttable" Bb f48)
  {f49:Addr} (h49:FI K "law" Ct f49)
  {bm:Addr} {bsl:AOz} (abm:nsIn K mainGlobals "__builtins__"=some (some (.ref bm))) (lbm:K.lookup bm=some ⟨.type "module",some builtinsNs,.plain,bsl⟩) (nbm1:bm≠builtinsNs) (nbm2:bm≠mainGlobals)
  (z0:nsIn K mainGlobals "isinstance"=some none)
  (z1:nsIn K mainGlobals "int"=some none)
  (z2:nsIn K mainGlobals "bool"=some none)
  (z3:nsIn K mainGlobals "tuple"=some none)
  (z4:nsIn K mainGlobals "list"=some none)
  (z5:nsIn K mainGlobals "len"=some none)
  (z6:nsIn K mainGlobals "range"=some none)
  (z7:nsIn K mainGlobals "all"=some none)
  (z8:nsIn K mainGlobals "any"=some none)
  (z9:nsIn K mainGlobals "sorted"=some none)
  (z10:nsIn K mainGlobals "reversed"=some none)
  (z11:nsIn K mainGlobals "max"=some none)
  (z12:nsIn K mainGlobals "enumerate"=some none)
  (z13:nsIn K mainGlobals "sum"=some none)
  (z14:nsIn K mainGlobals "set"=some none)
  (z15:nsIn K mainGlobals "divmod"=some none)
  (z16:nsIn K mainGlobals "abs"=some none)
  {tk0:Tok} (g0:nsIn K mainGlobals "LONGEST_SIDE"=some (some (.int 12 tk0)))
  {tk1:Tok} (g1:nsIn K mainGlobals "MOST_PANES"=some (some (.int 52 tk1)))
  {tk2:Tok} (g2:nsIn K mainGlobals "WHOLE"=some (some (.str "whole" tk2)))
  {tk3:Tok} (g3:nsIn K mainGlobals "UPRIGHT_cuts"=some (some (.str "upright" tk3)))
  {tk4:Tok} (g4:nsIn K mainGlobals "LEVEL_cuts"=some (some (.str "level" tk4)))
  {tk5:Tok} (g5:nsIn K mainGlobals "TOP"=some (some (.int 0 tk5)))
  {tk6:Tok} (g6:nsIn K mainGlobals "LEFT"=some (some (.int 1 tk6)))
  {tk7:Tok} (g7:nsIn K mainGlobals "ROOM"=some (some (.str "room" tk7)))
  {tk8:Tok} (g8:nsIn K mainGlobals "LONGEST_COUNTED"=some (some (.int 4 tk8)))
  : ∃fd:FuncData,(∀(s:Shared)(v:Value),BindsTo s fd ⟨[v],[]⟩ [("_law_script",v)])/\∀base:Heap,K.In base->base.Ns mainGlobals mg->A2 l.prog w K mg base CX0 26 fa fd ["_law_script"] (sp_law tb3 K):=by
 have e:=hfa.symm.trans (mg_of X G h49.1);cases e;have T:Txt mg (tk0,tk1,tk2,tk3,tk4,tk5,tk6,tk7,tk8):=⟨mg_none_of X G z0,mg_none_of X G z1,mg_none_of X G z2,mg_none_of X G z3,mg_none_of X G z4,mg_none_of X G z5,mg_none_of X G z6,mg_none_of X G z7,mg_none_of X G z8,mg_none_of X G z9,mg_none_of X G z10,mg_none_of X G z11,mg_none_of X G z12,mg_none_of X G z13,mg_none_of X G z14,mg_none_of X G z15,mg_none_of X G z16,mg_of X G g0,mg_of X G g1,mg_of X G g2,mg_of X G g3,mg_of X G g4,mg_of X G g5,mg_of X G g6,mg_of X G g7,mg_of X G g8⟩;have PC:Qd K C:=⟨⟨pg_C,hd_C,po_C,sa_C⟩,n_C_width,n_C_height,n_C_sorted_panes,n_C_by_square⟩;obtain⟨I_cW,mk_cW,kc_cW⟩:=Ma ic_cW;obtain⟨I_cU,mk_cU,kc_cU⟩:=Ma ic_cU;obtain⟨I_cL,mk_cL,kc_cL⟩:=Ma ic_cL;have R0:RT mg K cT cW cU cL:=Tm kit I_cW I_cU I_cL (mg_of X G aT) (mg_of X G aC_cW) (mg_of X G aC_cU) (mg_of X G aC_cL);have hB0:SR K mg:=⟨bm,bsl,mg_of X G abm,nbm1,nbm2,lbm⟩;have F_cW:FunD K "__init__" "Whole.__init__" Bj f_cW _:=⟨⟨_,_,_,_,_,_,_,_,_,_,_,tn_cW,rfl,l_cW,cc_cW,lT_cW,by rw[eT_cW]⟩,k_cW⟩;have b_cW:=F_cW.binds (ps:=["self","mark"]) (ds:=[]) λ_ _ _ _ _ _ _ us hl=>by obtain⟨u0,u1,rfl⟩:=UD ((aY us) ▸ hl);exact⟨_,rfl,rfl⟩
 have F25:=QY (st:=Ba) l25 cc25 k25 ec25;have b25:=F25.fn.binds (ps:=["sheet","some"]) λ_ _ _ _ _ _ us hl=>by (repeat (obtain⟨_,_,e,h⟩:=QO hl;clear hl;subst e;have hl:=h;clear h));cases QN hl;rfl
 obtain⟨ha49,fd,F49⟩:=h49;obtain⟨oc,od,kV,doc,pm,an,cdv,ct,osl,rfl,lk,hcd⟩:=id F49.ex;refine⟨fnOf "law" "law" (Bl Ct) (A5 Ct) (Ai Ct) .none kV doc pm an cdv ct,λ s v=>.of_eq rfl,λ base _ _=>?_⟩;have c:HC l.prog w K mg base:=⟨h,X,G⟩;have K_Whole:Lr l.prog w K mg base 1 "Whole" cW ["self","mark"] (O8 cW):=⟨_,_,⟨mk_cW,a_cWcW,i_cW,kc_cW⟩,Iq F_cW R0,mg_of X G aC_cW,b_cW⟩;have K_Upright:=c.k mk_cU kc_cU aC_cU h_cUcU λ_ F=>Gj F R0;have K_Level:=c.k mk_cL kc_cL aC_cL h_cLcL λ_ F=>Is F R0;have D_is_whole:=c.d h0 λ_ F=>KC F T;have D_is_side:=c.d h1 λ_ F=>LP F T D_is_whole;have D_is_rectangle:=c.d h2 λ_ F=>Gh F T D_is_whole;have D_inside:=c.d h3 λ_ F=>ND F;have D_squares_of:=c.d h4 λ_ F=>Im F T;have D_check_sides:=c.d h5 λ_ F=>Hg F D_is_side;have D_check_panes:=c.d h6 λ_ F=>Hh F T D_is_rectangle D_inside;have D_panes_by_square:=c.d h7 λ_ F=>Eo F T D_squares_of;have D_check_covered:=c.d h8 λ_ F=>Ft F D_squares_of;have K_Panel:=c.k mk_C kc_C aC h9C λ_ F=>Ir F T PC D_check_sides D_check_panes D_panes_by_square D_check_covered;have M_Panel_panes:=c.m ⟨pg_C,hd_C,po_C,sa_C⟩ h10C λ_ F=>Hi F T PC;have D_line_breaks:=c.d h11 λ_ F=>Hd F;have D_goes_through:=c.d h12 λ_ F=>Gi F T D_line_breaks;have D_lines_through:=c.d h13 λ_ F=>Fr F T D_goes_through;have D_check_counted:=c.d h14 λ_ F=>Fu F T D_is_whole;have D_ways_to_part:=c.d h15 λ_ F=>Ge F T;have D_count_of_grid:=c.d h16 λ_ F=>Fs F;have D_count_by_smaller:=c.d h17 λ_ F=>DQ F T D_ways_to_part D_count_of_grid;have D_count:=c.d h18 λ_ F=>Pf F T D_check_counted D_count_by_smaller;have D_cut_from:=c.d (sp:=Eb cW cU cL) h19 λ_ F=>KD F T K_Upright K_Level;have D_tree_from:=c.d (sp:=Jx K cW cU cL) h20 λ_ F=>JD F T R0 K_Whole D_cut_from;have D_first_piece:=c.d h21 λ_ F=>Hf F T;have D_other_piece:=c.d h22 λ_ F=>Hc F T;have D_entries_by:=c.d h23 λ_ F=>Io F T D_first_piece D_other_piece;have D_entry_for:=c.d h24 λ_ F=>JH F T D_lines_through;have D_cut_up:Ao l.prog w K mg base 8 "cut_up" ["sheet","some"] (GF tb3):=⟨_,_,NE F25 hC25 hB0 D_inside D_entry_for D_entries_by,mg_of X G a25,k25,b25⟩;have D_tree_of:=c.d h26 λ_ F=>LO F T PC M_Panel_panes D_cut_up D_tree_from;have D_all_lines:=c.d h27 λ_ F=>JI F;have D_parts_between:=c.d h28 λ_ F=>Fq F T;have D_in_common:=c.d h29 λ_ F=>JG F;have D_rows_without:=c.d h30 λ_ F=>Gf F T;have D_rows_by_lines:=c.d h31 λ_ F=>Fp F D_all_lines D_in_common;have D_strips_of_size:=c.d h32 λ_ F=>EK F T D_all_lines D_parts_between D_rows_by_lines D_rows_without;have D_all_strips:=c.d h33 λ_ F=>Ip F T D_strips_of_size;have D_rows_before:=c.d h34 λ_ F=>Ha F T D_rows_without;have g_row_by:∀n:Nat,Ao l.prog w K mg base (2*n+3) "strip_by" ["strips","size","lines","number"] (B1 n)->Ao l.prog w K mg base (2*n+4) "row_by" ["strips","parts","thick","common","number"] (Dn n):=λ n z=>c.d h36 λ_ F=>NB F T D_rows_by_lines D_rows_before D_rows_without z;have A_row_by:∀n:Nat,Ao l.prog w K mg base (2*n+3) "strip_by" ["strips","size","lines","number"] (B1 n)/\Ao l.prog w K mg base (2*n+4) "row_by" ["strips","parts","thick","common","number"] (Dn n):=λ n=>by
  induction n with
  |zero=>exact⟨c.d h35 λ_ F=>EU F E1 λ_ _ _ _=>Kl,g_row_by 0 (c.d h35 λ_ F=>EU F E1 λ_ _ _ _=>Kl)⟩
  |succ n ih =>
   have z:Ao l.prog w K mg base (2*(n+1)+3) "strip_by" ["strips","size","lines","number"] (B1 (n+1)):=c.d h35 λ_ F=>K6 F D_all_lines D_parts_between ih.2;exact⟨z,g_row_by (n+1) z⟩
 have D_row_by:=(A_row_by 9).2;have D_panes_by:=c.d h37 λ_ F=>K8 F T D_parts_between D_rows_by_lines D_row_by;have D_panel_by:=c.d h38 λ_ F=>K9 F T K_Panel D_is_whole D_count D_all_strips D_panes_by;have D_lines_of:=c.d h39 λ_ F=>KA F T D_lines_through;have D_strip_at:=c.d h40 λ_ F=>K7 F T;have g_number_in_rows:∀n:Nat,Ao l.prog w K mg base (2*n+5) "number_in_strips" ["strips","panes","size","lines"] (B2 n)->Ao l.prog w K mg base (2*n+6) "number_in_rows" ["strips","panes","parts","thick","common"] (Do n):=λ n z=>c.d h42 λ_ F=>EL F T D_rows_by_lines D_strip_at D_lines_of D_rows_before D_rows_without z;have A_number_in_rows:∀n:Nat,Ao l.prog w K mg base (2*n+5) "number_in_strips" ["strips","panes","size","lines"] (B2 n)/\Ao l.prog w K mg base (2*n+6) "number_in_rows" ["strips","panes","parts","thick","common"] (Do n):=λ n=>by
  induction n with
  |zero=>exact⟨c.d h41 λ_ F=>EU F Bu λ_ _ _ _=>KI,g_number_in_rows 0 (c.d h41 λ_ F=>EU F Bu λ_ _ _ _=>KI)⟩
  |succ n ih =>
   have z:Ao l.prog w K mg base (2*(n+1)+5) "number_in_strips" ["strips","panes","size","lines"] (B2 (n+1)):=c.d h41 λ_ F=>DP F D_all_lines D_parts_between ih.2;exact⟨z,g_number_in_rows (n+1) z⟩
 have D_number_in_rows:=(A_number_in_rows 9).2;have D_number_of:=c.d h43 λ_ F=>JE F T PC M_Panel_panes D_check_counted D_tree_of D_all_strips D_lines_of D_parts_between D_rows_by_lines D_number_in_rows;have D__law_at:=c.d h44 λ_ F=>NC F T;have D__law_knead:=c.d h45 λ_ F=>JF F T;have D__law_mask:=c.d h46 λ_ F=>KB F T;have D__law_tilings:=c.d h47 λ_ F=>He F T D__law_mask;have A__law_cuttable:∀n:Nat,Ao l.prog w K mg base (n+3) "_law_cuttable" ["_law_panes"] (GG n):=λ n=>by
  induction n with
  |zero=>exact c.d h48 λ_ F=>EU F DG λ_ _ _ _=>UO
  |succ n ih=>exact c.d h48 λ_ F=>Gg F T ih
 have D__law_cuttable:=A__law_cuttable 12;exact Sm F49 T D__law_at D__law_knead D__law_tilings D__law_cuttable D_count D_panel_by M_Panel_panes K_Panel D_number_of
theorem walk(tb3:Addr){l:OpenLaw}{q:Program}{loose:LSz}{XP:(MGz)->Heap->Prop}{YP:World->Heap->Prop}{d:DefRec}{K:Params->Frag}{Ts:List Addr}(hm_tb3:tb3∈Ts)(hn:l.most=some 63)(hdf:d.params.defaults=[])
  (hY:∀(w:World)(h:Heap),YP w h->(K w.params).In h) (hT:∀(w:World)(h:Heap),YP w h->∀T∈Ts,h.get? T=some (tabObj #[])/\(K w.params).lookup T=none/\∃c,CodeHd h c T)
  (F:∀(w:World)(mg:MGz)(fa:Addr)(h:Heap),(K w.params).In h->h.Ns mainGlobals mg->mg d.name=some (.ref fa) ->
   ∃fd:FuncData,(∀(s:Shared)(u:Value),BindsTo s fd ⟨[u],[]⟩ [("_law_script",u)])/\∀base:Heap,(K w.params).In base->base.Ns mainGlobals mg->A2 l.prog w (K w.params) mg base CX0 26 fa fd ["_law_script"] (sp_law tb3 (K w.params))) :
  WalkO q loose XP YP l.row.toRowW d [] (λ f vs=>PySem.call f vs) :=
 L2.walk_ofT (n:=63) (k:=26) (x:="_law_script") (CX:=λ_=>CX0) (sp:=λ w=>sp_law tb3 (K w.params)) hn (by decide) hdf ⟨rfl,by decide,by decide⟩ hY hT F (λ_ _ a ns hl hO hS=>⟨a,ns,rfl,hS,hl,hO.2 tb3 hm_tb3,λ_=>rfl⟩) λ_ _ _ _ _ z=>z
end K44
open PySem PySem.W PyProof.Rows
set_option maxRecDepth 100000 in
set_option maxHeartbeats 0 in
theorem PySem.Challenge.cw_glazebench_k44_whole_all_panels_of_a_siz_holds : PySem.Challenge.rw_glazebench_k44_whole_all_panels_of_a_siz.Holds := by
 refine KH.prep fun said => ?_
 have fx : ∀ s, KH.Xp PySem.Challenge.pw_glazebench_k44_whole_all_panels_of_a_siz s = true → XL (KH.qv PySem.Challenge.pw_glazebench_k44_whole_all_panels_of_a_siz) [] (s.heap.nsMap mainGlobals) s.heap := fun s e => xl_of s (ff.mp e).1
 have fr : ∀ s, KH.Xp PySem.Challenge.pw_glazebench_k44_whole_all_panels_of_a_siz s = true → RecFacts (RowW.records (OpenRow.toRowW PySem.Challenge.rw_glazebench_k44_whole_all_panels_of_a_siz.row)) s.heap := fun s e => recFacts_of (ff.mp e).2
 refine holds_open (XP := XL (KH.qv PySem.Challenge.pw_glazebench_k44_whole_all_panels_of_a_siz) []) KH.left (L2.hookT (kHook KH.KK KH.kas KH.kas_is) KH.Ts).of (L2.hookT (kHook KH.KK KH.kas KH.kas_is) KH.Ts).keeps fx XL.keeps (by rfl) (by rfl) (by rfl) fr (by rfl) said (by decide +kernel) ?hb ?hw ?hc
 case hb => exact ⟨rfl,rfl, rfl,rfl, rfl, by decide +kernel⟩
 case hw => w_witness2
 case hc =>
  k_fill
  refine K44.walk (l := PySem.Challenge.rw_glazebench_k44_whole_all_panels_of_a_siz) (Ts := KH.Ts) 577 (by simp [KH.Ts]) rfl rfl (fun w h Y => PySem.W.kIn_of Y.1) ?HT ?F
  case HT =>
   intro w h Y T hT
   refine ⟨Y.2 T hT, ?_⟩
   have hT : T ∈ [577] := hT
   simp only [aP, bx, or_false] at hT
   subst hT
   ·exact ⟨by kernel_rfl, 581, L2.codeTB_of (c := 581) (T := 577) (by kernel_rfl) h (PySem.W.kIn_of Y.1)⟩
  case F =>
   intro w mg fa h KX G hmg
   refine' K44.all_mk (tb3 := 577) KX G hmg ?my_aC ?my_pg_C ?my_hd_C ?my_po_C ?my_sa_C ?my_mk_C ?my_kc_C ?my_n_C_width ?my_n_C_height ?my_n_C_sorted_panes ?my_n_C_by_square ?my_aT ?my_aC_cW ?my_ic_cW ?my_a_cWcW ?my_i_cW ?my_l_cW ?my_cc_cW ?my_k_cW ?my_lT_cW ?my_eT_cW ?my_aC_cU ?my_ic_cU ?my_h_cUcU ?my_aC_cL ?my_ic_cL ?my_h_cLcL ?my_kit ?my_h0 ?my_h1 ?my_h2 ?my_h3 ?my_h4 ?my_h5 ?my_h6 ?my_h7 ?my_h8 ?my_h9C ?my_h10C ?my_h11 ?my_h12 ?my_h13 ?my_h14 ?my_h15 ?my_h16 ?my_h17 ?my_h18 ?my_h19 ?my_h20 ?my_h21 ?my_h22 ?my_h23 ?my_h24 ?my_a25 ?my_l25 ?my_cc25 ?my_k25 ?my_ec25 ?my_hC25 ?my_h26 ?my_h27 ?my_h28 ?my_h29 ?my_h30 ?my_h31 ?my_h32 ?my_h33 ?my_h34 ?my_h35 ?my_h36 ?my_h37 ?my_h38 ?my_h39 ?my_h40 ?my_h41 ?my_h42 ?my_h43 ?my_h44 ?my_h45 ?my_h46 ?my_h47 ?my_h48 ?my_h49 ?my_abm ?my_lbm ?my_nbm1 ?my_nbm2 ?my_z0 ?my_z1 ?my_z2 ?my_z3 ?my_z4 ?my_z5 ?my_z6 ?my_z7 ?my_z8 ?my_z9 ?my_z10 ?my_z11 ?my_z12 ?my_z13 ?my_z14 ?my_z15 ?my_z16 ?my_g0 ?my_g1 ?my_g2 ?my_g3 ?my_g4 ?my_g5 ?my_g6 ?my_g7 ?my_g8
   (case my_aC => k_is); (case my_pg_C => k_is); (case my_hd_C => k_is); (case my_po_C => k_is); (case my_sa_C => k_is); (case my_mk_C => k_is); (case my_kc_C => k_is); (case my_n_C_width => k_is)
   (case my_n_C_height => k_is); (case my_n_C_sorted_panes => k_is); (case my_n_C_by_square => k_is); (case my_aT => k_is); (case my_aC_cW => k_is); (case my_a_cWcW => k_is); (case my_i_cW => k_is); (case my_l_cW => k_is)
   (case my_cc_cW => k_is); (case my_k_cW => k_is); (case my_lT_cW => k_is); (case my_aC_cU => k_is); (case my_aC_cL => k_is); (case my_a25 => k_is); (case my_l25 => k_is); (case my_cc25 => k_is)
   (case my_k25 => k_is); (case my_abm => k_is); (case my_lbm => k_is); (case my_z0 => k_is); (case my_z1 => k_is); (case my_z2 => k_is); (case my_z3 => k_is); (case my_z4 => k_is)
   (case my_z5 => k_is); (case my_z6 => k_is); (case my_z7 => k_is); (case my_z8 => k_is); (case my_z9 => k_is); (case my_z10 => k_is); (case my_z11 => k_is); (case my_z12 => k_is)
   (case my_z13 => k_is); (case my_z14 => k_is); (case my_z15 => k_is); (case my_z16 => k_is); (case my_g0 => k_is); (case my_g1 => k_is); (case my_g2 => k_is); (case my_g3 => k_is)
   (case my_g4 => k_is); (case my_g5 => k_is); (case my_g6 => k_is); (case my_g7 => k_is); (case my_g8 => k_is); (case my_eT_cW => rfl); (case my_ec25 => rfl); (case my_ic_cW => kernel_rfl)
   (case my_ic_cU => kernel_rfl); (case my_ic_cL => kernel_rfl); (case my_kit => kernel_rfl); (case my_hC25 => kernel_rfl); (case my_nbm1 => decide); (case my_nbm2 => decide)
   case my_h_cUcU | my_h_cLcL | my_h9C | my_h10C => exact ⟨by k_is, by k_is, _, ⟨⟨_,_,_,_,_,_,_,_,_,rfl, by k_is, by k_is⟩, by k_is⟩⟩
   case my_h0 | my_h1 | my_h2 | my_h3 | my_h4 | my_h5 | my_h6 | my_h7 | my_h8 | my_h11 | my_h12 | my_h13 | my_h14 | my_h15 | my_h16 | my_h17 | my_h18 | my_h19 | my_h20 | my_h21 | my_h22 | my_h23 | my_h24 | my_h26 | my_h27 | my_h28 | my_h29 | my_h30 | my_h31 | my_h32 | my_h33 | my_h34 | my_h35 | my_h36 | my_h37 | my_h38 | my_h39 | my_h40 | my_h41 | my_h42 | my_h43 | my_h44 | my_h45 | my_h46 | my_h47 | my_h48 | my_h49 => exact ⟨by k_is, _, ⟨⟨_,_,_,_,_,_,_,_,_,rfl, by k_is, by k_is⟩, by k_is⟩⟩
