import PyProof.Rows.All
import Wide.All
import OpenK.AllK
import Wide.FinOn
import Lean
import PyProof.EqAt
import PyProof.EqKinds
import PyProof.TupleCall
import PyProof.Rows.SortRuns
import PyProof.NeKinds
import PyProof.ExcAttrAll.ValueError
import PyProof.StationsW
import PyProof.PassesOwn
import PyProof.RulesAs
import PyProof.NsDelKeeps
import PyProof.CompMap
import PyProof.DictItems
import KE.KPairComp
import KE.KMinKey
import KE.KDictList
import KE.KDictOf
import KE.KEqDict
import PyProof.DictIter
import PyProof.DictWalks
import PyProof.Rows.DictUnroll
import KE.KRevIter
import KE.KLam
import KE.KSortKey
import KE.KSortTup
import PyProof.Rows.StrJoin2
import PyProof.Rows.StrNews
import PyProof.StrLawsTight
import PyProof.StrWalks
import PyProof.StrBlockH
import KE.KIntText
import KE.LcSums
import KE.KNest
import PyProof.ZipIter
import KE.KItemsList
import KE.KDictSum
import PyProof.Rows.SetFrom
import PyProof.Draws
import KE.KDictLaws
import PyProof.SumWalkG
import PyProof.Rows.TupIter
import PyProof.WalksMore
import PyProof.SetRoads
import PySem.Challenge.RW_glazebench_k42_panels_by_numbers
set_option Elab.async false
set_option linter.all false
set_option maxRecDepth 100000
open List renaming length_map→aa,mem_singleton→af,getElem?_eq_getElem→ag,map_append→ai,size_toArray→aj,mem_map→ao,mem_append_right→av,mem_cons_self→aw,mem_cons_of_mem→ay,mem_append→az,mem_of_getElem?→aA,map_map→aB,getElem?_map→aE,getElem?_eq_some_iff→aF,length_append→aH,all_eq_true→aI,map_cons→aJ,length_cons→aL,take_length→aM,mem_cons→aO,mem_range→aQ,append_nil→aR,take_succ→aS,getD_eq_getElem?_getD→aU,lookup_cons→aX,append_assoc→aZ,getElem?_eq_none→be,not_mem_nil→bi,length_singleton→bx,mem_append_left→bB,filter_append→bC,map_congr_left→bE,range_succ→bH,getElem_mem→bL,drop_length→bM,nodup_cons→bP,find?_cons→bQ,length_filter_le→bY,pairwise_iff_getElem→bZ,drop_eq_getElem_cons→b5,sum_append→b6,mem_filter→b7,map_nil→b9,filter_eq_self→cj,length_take→cm,dropLast_concat_getLast→cw,nodup_nil→cB,sum_nil→cC,any_eq_true→cE,foldl_append→cP,filter_eq_nil_iff→cQ,ext_getElem?→cR,sum_cons→cX,dropLast_concat→cZ,length_nil→c7,getElem?_range→c9,map_singleton→de,getElem?_append_right→dh,drop_zero→di,filter_congr→dq,any_cons→du,length_eq_zero_iff→dw,filter_cons→dy,length_eq_one_iff→dC,getElem?_set_self→dD,nil_append→dG,getElem?_toArray→dJ,contains_iff_mem→dL,map_eq_cons_iff→dN,getElem?_set_ne→dO,getD→dR,flatMap_append→dU,filterMap_cons→dW,all_cons→dY,zip_cons_cons→ee,contains_cons→ef,nodup_append→ez,length_range→eA,any_map→eE,length_drop→eQ,cons_append→eR,map_id→eU,range_zero→eW,of_mem_zip→eX,forIn_cons→eY,filter_nil→eZ,filter_map→fc,nodup_iff_pairwise_ne→fq,mem_of_find?_eq_some→fA,pairwise_singleton→fC,filter_cons_of_pos→fD,filter_cons_of_neg→fE,take_of_length_le→fF,take_append_drop→fL,mem_iff_getElem?→fM,pairwise_append→fP,mem_of_mem_drop→fQ
open PySem.Heap renaming get?_push_of_some→ae,lt_size→ak,get?_push_size→ar,get?_update_self→bg,size_push→bq,get?_update_ne→bS,get?_update_other→bU,get?_push_ne→cA,size_update→dz,get?_none_of_le→fS
open Nat renaming le_refl→ah,ne_of_lt→aD,lt_of_lt_of_le→aK,le_of_lt→aN,zero_le→aP,le_trans→aV,lt_succ_of_lt→bc,lt_succ_self→br,lt_irrefl→bG,le_succ→bJ,le_antisymm→b8,lt_of_le_of_lt→cK,lt_or_ge→cV,ne_of_gt→db,le_of_eq→dF,pow_le_pow_right→dP,mul_le_mul→dQ,add_le_add_left→dX,add_assoc→d9,sub_self→eJ,min_self→eK,lt_of_succ_lt→eM,le_add_right→eS,not_lt_zero→fj,not_lt→fz,zero_add→fH,succ_mul→fJ,lt_trans→fK,le_of_ble_eq_true→fO
open Bool renaming false_ne_true→aq,false_eq_true→au,and_eq_true→ax,not_true→bV,and_false→bX,or_eq_true→cx,eq_iff_iff→cy,and_true→dZ,not_eq_true'→eI,or_true→fG,and_eq_true_iff→fT
open Array renaming length_toList→aW,getElem?_eq_some_iff→aY,getElem?_eq_getElem→bn,forIn_toList→bW,getElem?_eq_none→cq,getElem?_toList→cz,getD_eq_getD_getElem?→da,mem_toList_iff→dM,toArray_toList→fN,toList_append→fU
open Int renaming le_refl→a9,emod_nonneg→bj,emod_lt_of_pos→bp,toNat_of_nonneg→bF,toNat_natCast→bR,add_zero→ce,zero_add→cu,sub_zero→dc,lt_of_lt_of_le→dk,add_comm→dH,mul_le_mul→dS,add_assoc→eh,le_trans→eN
open Option renaming map_eq_some_iff→ba,map_some→bO,bind_some→bT,bind_eq_some_iff→cI,isSome_iff_exists→dm,isSome_map→d8
open PySem.F renaming slot_dict_valueiterator_next→bD,plainAttrs_list→bI,called_set→bK,plainAttrs_dict→ci,slot_dict_values→cH,type_list_pop→cM,slot_list_pop→cO,type_dict_values→dj,slot_dict_get→dA,args_dict_valueiterator_next_1→dE,entry_dict_valueiterator_next→dI,slot_dict_values_iter→ej,attrBase_ValueError→eP,type_list_extend→fg,slot_list_extend→fh,slot_dict_items→fk,args_dict_get_3→fm,entry_dict_get→fu,slot_set_iter→fB
open Or renaming inl→bN,inr→dv
open List.Perm renaming refl→cJ,of_eq→fR
open Prod renaming ext→cY,mk→dB
open PySem renaming wpAny_bind→jc,Addr→jd,wpAny_pure→je,Shared→jf,Value→jg,wpAny→jh,Program→jk,model→jm,mainGlobals→jq,FuncData→jr,sizeLine→jt,World→ju,starEach→jv,Around→jx,Heap→jy,wpAny_mono→jA,Expr→jB,sizeLine_eq→jC,Str→jD,Stmt→jE,wpAny_Call_Name_kw→jG,wpAny_holding→jI,wpAny_call_entry→jJ,wpAny_truthy_bool→jK,wpAny_setState_of→jL,wpAny_newObj_type→jM,compareOp→jO,importedModules→jP,rawInt→jR,sysModules→jS,wpAny_typeNameOfWhole_valiter→jT,codeAny→jU,treeTable→jV,wpAny_loadPart_at→jW,backTo→jX,codeAny_mono→jY,Scope→jZ,wpAny_forIn_list→j0,wpAny_setField→j4,cLine→j5,wpAny_passesOwn→j6,wpAny_specialOf→j9,wpAny_comprehension_free→kc,wpAny_typeNameOf_valiter→ke,wpAny_isInstance→kh,wpAny_call→ki,tupleKind_room_in1→kj,wpAny_execs_nil→km,wpAny_standAt→kq,wpAny_attempt→kt,wpAny_ite_split→kG,Tok→kH,wpAny_pyIter_list→kI,binaryOp→kJ,plainObj_wpAny_Assign_Attribute→kM,wpAny_isOneOf_valiter→kN,isSubtype_tuple_tuple→kO,DictEntry→kQ,wpAny_askSetting→kR,wpAny_newList→kT,codeAny_call_builtin→kU,wpAny_of_eq→kW,wpAny_field→kX,codeAny_builtin→kY,wpAny_isSubtype_exc→kZ,wpAny_loadPart→lg,wpAny_fieldsOf→lm,wpAny_tupleItemsOf→lq,wpAny_seqItems→lx,carriedByValue→ly,wpAny_pyIter_slot→lA,wpAny_dictEntries→lB,Params→lC,GenState→lD,wpAny_execs_cons→lE,wpAny_lookBehind→lF,pastItsLine_dict→lG,Env→lH,Result→lI,intKind_is→lL
open PySem.W renaming Frag→jw,findIn→jH,mg_none_of→jN,boot_heap→jQ,kitOne→ka,nsIn→kg,keepIn→ku,kia_one→kK,any_some→lc,looks_findIn→lJ,callWith_K→lK
open PyProof.Rows renaming seqObj→jz,listUpdate_at→kr,seqEpoch_at→lz
open PySem.Challenge renaming pw_glazebench_k42_panels_by_numbers→lS
theorem jj{c:Prop}{h:Decidable c}(n:¬c){α:Sort u}{t e:α}:ite c t e=e:=if_neg n
theorem jn{p:Prop}[Decidable p](h:p):decide p=true:=decide_eq_true h
theorem jo{c:Prop}{h:Decidable c}(n:c){α:Sort u}{t e:α}:ite c t e=t:=if_pos n
theorem jp{p:Prop}[Decidable p]:decide p=true↔p:=decide_eq_true_iff
theorem js{p:Prop}[Decidable p](h:¬p):decide p=false:=decide_eq_false h
theorem jF{p:Prop}[Decidable p](h:decide p=true):p:=of_decide_eq_true h
noncomputable abbrev VPz:=PySem.Value→PySem.Shared→Prop
noncomputable abbrev PNz:=List (PySem.Addr × PySem.Obj)
noncomputable abbrev MGz:=PySem.Str→Option PySem.Value
noncomputable abbrev AOz:=Array (Option PySem.Value)
noncomputable abbrev LSz:=List PySem.Str
noncomputable abbrev LWz:=List PySem.Value
namespace L2
open PySem.W
open PySem PySem.Spec PyProof.Rows
noncomputable abbrev Key:=Sum Int jD
noncomputable def IK:Key->jg->Bool
 |.inl k,v=>Value.isInt k v
 |.inr x,v=>Value.isStrOf x v
noncomputable def Xz(w:ju):Key->Int
 |.inl k=>hashInt k
 |.inr x=>hashStr w x
theorem AQ:∀{k:Key}{v:jg},IK k v=true->(∃i t,k=Sum.inl i/\v=Value.int i t)\/(∃x t,k=Sum.inr x/\v=Value.str x t)
 |.inl i,v,h=>by
  obtain⟨t,e⟩:=Value.isInt_shape (k:=i) (v:=v) h;exact .inl ⟨i,t,rfl,e⟩
 |.inr x,v,h=>by
  obtain⟨t,e⟩:=Value.isStrOf_shape (x:=x) (v:=v) h;exact .inr ⟨x,t,rfl,e⟩
theorem Qs(i:Int)(t:kH):IK (.inl i) (.int i t)=true:=by simp[IK,Value.isInt]
theorem Qq(x:jD)(t:kH):IK (.inr x) (.str x t)=true:=by simp[IK,Value.isStrOf]
theorem Vp(a b:Int):decide ((Sum.inl a:Key)=Sum.inl b)=(a==b):=by
 by_cases e:a=b
 .subst e;simp
 .have h:¬(Sum.inl a:Key)=Sum.inl b:=λ q=>e (Sum.inl.inj q);rw[js h];exact(beq_eq_false_iff_ne.mpr e).symm
theorem Vl(a b:jD):decide ((Sum.inr a:Key)=Sum.inr b)=decide (a=b):=by
 by_cases e:a=b
 .subst e;simp
 .have h:¬(Sum.inr a:Key)=Sum.inr b:=λ q=>e (Sum.inr.inj q);rw[js h,js e]
theorem Vo(a:Int)(b:jD):decide ((Sum.inl a:Key)=Sum.inr b)=false:=js (λ q=>nomatch q)
theorem Vm(a:jD)(b:Int):decide ((Sum.inr a:Key)=Sum.inl b)=false:=js (λ q=>nomatch q)
noncomputable def AA(prog:jk)(w:ju):PySem.KeyKind prog w Key where
 is:=IK
 hash:=Xz w
 inj:=λ v a b ha hb=>by
  rcases AQ ha with ⟨i,t,rfl,rfl⟩|⟨x,t,rfl,rfl⟩
  .rcases AQ hb with ⟨j,u,rfl,e⟩|⟨y,u,rfl,e⟩
   .injection e with e1 _;rw[e1]
   .exact nomatch e
  .rcases AQ hb with ⟨j,u,rfl,e⟩|⟨y,u,rfl,e⟩
   .exact nomatch e
   .injection e with e1 _;rw[e1]
 byValue:=λ k v h=>by
  rcases AQ h with ⟨i,t,rfl,rfl⟩|⟨x,t,rfl,rfl⟩<;>rfl
 pyHash:=λ hv h=>by
  rcases AQ hv with ⟨i,t,rfl,rfl⟩|⟨x,t,rfl,rfl⟩
  .exact wpAny_pyHash_int h
  .exact wpAny_pyHash_str h
 eqBool:=λ hu hv h=>by
  rcases AQ hu with ⟨i,t,rfl,rfl⟩|⟨x,t,rfl,rfl⟩
  .rcases AQ hv with ⟨j,u,rfl,rfl⟩|⟨y,u,rfl,rfl⟩
   .rw[Vp]at h;exact wpAny_eqBool_int h
   .rw[Vo]at h;exact SeqAt.EqAt.int_str i t y u _ _ _ _ h
  .rcases AQ hv with ⟨j,u,rfl,rfl⟩|⟨y,u,rfl,rfl⟩
   .rw[Vm]at h;exact SeqAt.EqAt.str_int x t j u _ _ _ _ h
   .rw[Vl]at h;exact wpAny_eqBool_str h
 «strs»:=λ k x t v h=>by
  rcases AQ h with ⟨i,u,rfl,e⟩|⟨y,u,rfl,e⟩
  .exact nomatch e
  .injection e with e1 _;subst e1;cases v<;>rfl
theorem M6(prog:jk)(w:ju)(i:Int)(t:kH):(AA prog w).is (.inl i) (.int i t)=true:=Qs i t
theorem M5(prog:jk)(w:ju)(x:jD)(t:kH):(AA prog w).is (.inr x) (.str x t)=true:=Qq x t
inductive V where
 |non|bl (b:Bool)|int (i:Int)|str (x:jD)|byt (b:Array UInt8)|flt (b:UInt64)|ref (a:jd)|ty (n:String)
 deriving DecidableEq
noncomputable abbrev LKz:=List (List Key×V)
noncomputable abbrev LFz:=List (jD×V)
noncomputable abbrev LUz:=List V
noncomputable def RelV:V->jg->Prop
 |.non,u=>u=Value.none
 |.bl b,u=>u=Value.bool b
 |.int i,u=>∃t,u=Value.int i t
 |.str x,u=>∃t,u=Value.str x t
 |.byt b,u=>∃t,u=Value.bytes b t
 |.flt b,u=>∃t,u=Value.float b t
 |.ref a,u=>u=Value.ref a
 |.ty n,u=>u=Value.type n
noncomputable abbrev Vals:LUz->LWz->Prop:=Paired RelV
theorem Vals.length{xs:LUz}{us:LWz}(r:Vals xs us):xs.length=us.length:=Paired.length r
theorem Vals.get:∀{xs:LUz}{us:LWz}{i:Nat}{x:V},Vals xs us->xs[i]?=some x->∃u,us[i]?=some u/\RelV x u
 |_,_,_,_,.nil,e=>by simp at e
 |_,_,0,_,.cons r _,e=>by simp at e;subst e;exact⟨_,rfl,r⟩
 |_,_,i+1,x,.cons _ t,e=>by
  obtain⟨u,h1,h2⟩:=Vals.get (i:=i) (x:=x) t (by simpa using e);exact⟨u,by simpa using h1,h2⟩
theorem Vals.set{x:V}{u:jg}(r:RelV x u):∀{xs:LUz}{us:LWz}(i:Nat),Vals xs us->Vals (xs.set i x) (us.set i u)
 |_,_,_,.nil=>.nil
 |_,_,0,.cons _ t=>.cons r t
 |_,_,i+1,.cons q t=>.cons q (Vals.set r i t)
theorem Vals.append:∀{xs ys:LUz}{us ws:LWz},Vals xs us->Vals ys ws->Vals (xs++ys) (us++ws)
 |_,_,_,_,.nil,s=>s
 |_,_,_,_,.cons r t,s=>.cons r (Vals.append t s)
theorem Vals.take:∀{xs:LUz}{us:LWz}(n:Nat),Vals xs us->Vals (xs.take n) (us.take n)
 |_,_,0,_=>.nil
 |_,_,_+1,.nil=>.nil
 |_,_,n+1,.cons r t=>.cons r (Vals.take n t)
theorem Vals.drop:∀{xs:LUz}{us:LWz}(n:Nat),Vals xs us->Vals (xs.drop n) (us.drop n)
 |_,_,0,r=>r
 |_,_,_+1,.nil=>.nil
 |_,_,n+1,.cons _ t=>Vals.drop n t
noncomputable def RelO:Option V->Option jg->Prop
 |some v,some u=>RelV v u
 |none,none=>True
 |_,_=>False
noncomputable def KV{κ:Type}:List (κ×V)->List (κ×jg)->Prop:=Paired λ(p:κ×V)(q:κ×jg)=>p.1=q.1/\RelV p.2 q.2
noncomputable def kV:Key->V
 |.inl i=>.int i
 |.inr x=>.str x
inductive HO where
 |lst (xs:LUz)
 |tup (xs:LUz)
 |dK (kvs:List (Key×V))|dT (kvs:LKz)
 |set (S:Int->Bool) (n:Nat)
 |ins (C dx:jd) (fs:LFz)
 |own (x:jd)
 |xd (fs:LFz)
 |met (f x:jd)
 |rng (lo hi:Int)
 |frz (o:Obj) (u:HO)
 |tbl (ps:Array jg)
 |ext (φ:jy->Prop)
noncomputable abbrev Hp:=jd->Option HO
noncomputable def upd(H:Hp)(a:jd)(o:HO):Hp:=λ b=>if b=a then some o else H b
theorem Ae{H:Hp}{a:jd}{o:HO}:upd H a o a=some o:=by unfold upd;rw[jo rfl]
theorem Ad{H:Hp}{a b:jd}{o:HO}(h:b≠a):upd H a o b=H b:=by unfold upd;rw[jj h]
theorem KU{H:Hp}{a:jd}{o u:HO}:upd (upd H a o) a u=upd H a u:=by
 funext b;unfold upd;split<;>rfl
theorem Bp{H:Hp}{a b:jd}{o u:HO}(h:H a=some o)(h':H b=some u)(d:o≠u):a≠b:=by
 intro e;subst e;rw[h]at h';exact d (Option.some.inj h')
theorem Ag{H:Hp}{a b:jd}{o:HO}(h:H a=some o)(h':H b=none):a≠b:=by
 intro e;subst e;rw[h]at h';cases h'
section
variable(P:jk)(w:ju)
noncomputable def ObjOk(H:Hp)(h:jy)(a:jd):HO->Prop
 |.lst xs=>xs.length<=jt/\∃(its:LWz)(n:Nat),Vals xs its/\h.get? a=some { cls:=.type "list",data:=.seq its.toArray n }
 |.tup xs=>xs.length<=jt/\∃its:LWz,Vals xs its/\IsTup h a its.toArray
 |.dK kvs=>kvs.length<=jt/\(a==jS)=false/\∃vs,KV kvs vs/\h.DictOf (AA P w) a vs
 |.dT kvs=>kvs.length<=jt/\(a==jS)=false/\∃xs:List (List Key×jd×jg),
   Paired (λ(p:List Key×V)(q:List Key×jd×jg)=>p.1=q.1/\H q.2.1=some (.tup (p.1.map kV))/\RelV p.2 q.2.2) kvs xs /\
   ∃o es ep,h.get? a=some o/\o.ExactDict/\o.data=.dict es ep/\es.toList=xs.map (entryOfKey (tupleKind (AA P w)))/\(xs.map (·.1)).Nodup
 |.set S n=>h.SetOf (intKind P w) a S n
 |.ins C dx fs=>H dx=some (.own a)/\fs.length<=1000/\dx≠a/\h.get? a=some (instObj C dx) /\
   ∃mA,h.Ns1 dx mA/\(∀f,RelO (fs.lookup f) (mA f))/\PySem.Within mA (fs.map (·.1))
 |.own _=>∃o,h.get? a=some o
 |.xd fs=>∃mA,h.Ns1 a mA/\∀f,RelO (fs.lookup f) (mA f)
 |.rng lo hi=>∃t u v,h.get? a=some { cls:=.type "range",data:=.fields #[.int lo t,.int hi u,.int 1 v] }
 |.frz o u=>h.get? a=some o/\ObjOk H h a u
 |.tbl ps=>h.get? a=some { cls:=.none,data:=.fields ps }
 |.met f x=>h.get? a=some (methodObj (.ref f) (.ref x))
 |.ext φ=>φ h/\(∃o,h.get? a=some o)/\∀h1 h2:jy,φ h1->(∀o,h1.get? a=some o->h2.get? a=some o)->φ h2
noncomputable def HOk(H:Hp)(h:jy):Prop:=∀a o,H a=some o->ObjOk P w H h a o
end
section
variable{P:jk}{w:ju}{H H':Hp}{h h':jy}{a:jd}{o:HO}
theorem ObjOk.lt(x:ObjOk P w H h a o):a<h.objs.size:=by
 cases o with
 |lst xs=>obtain⟨_,_,_,_,e⟩:=x;exact ak e
 |tup xs=>obtain⟨_,_,_,p⟩:=x;exact p.lt
 |dK kvs=>obtain⟨_,_,_,_,o,_,_,e,_⟩:=x;exact ak e
 |dT kvs=>obtain⟨_,_,_,_,o,_,_,e,_⟩:=x;exact ak e
 |set S n=>obtain⟨o,_,_,_,e,_⟩:=x;exact ak e
 |ins C dx fs=>obtain⟨_,_,_,e,_⟩:=x;exact ak e
 |own y=>obtain⟨_,e⟩:=x;exact ak e
 |xd fs=>obtain⟨_,⟨_,_,_,e,_⟩,_⟩:=x;exact ak e
 |rng lo hi=>obtain⟨_,_,_,e⟩:=x;exact ak e
 |frz ob u=>obtain⟨e,_⟩:=x;exact ak e
 |tbl ps=>exact ak (show h.get? a=some _ from x)
 |met f y=>exact ak (show h.get? a=some _ from x)
 |ext φ=>obtain⟨_,⟨_,e⟩,_⟩:=x;exact ak e
theorem Paired.mapP{α β:Type}{F G:α->β->Prop}:∀{l₁:List α}{l₂:List β},Paired F l₁ l₂->(∀a b,F a b->G a b)->Paired G l₁ l₂
 |_,_,.nil,_=>.nil
 |_,_,.cons r t,f=>.cons (f _ _ r) (Paired.mapP t f)
theorem ObjOk.stay(x:ObjOk P w H h a o)(k:∀b u,(b=a\/H b=some (.own a))->h.get? b=some u->h'.get? b=some u)
  (ho:∀b,H b=some (.own a)->H' b=some (.own a)) (ht:∀b xs,H b=some (.tup xs)->H' b=some (.tup xs)):ObjOk P w H' h' a o:=by
 induction o with
 |lst xs=>obtain⟨z,its,n,r,e⟩:=x;exact⟨z,its,n,r,k _ _ (.inl rfl) e⟩
 |tup xs=>obtain⟨z,its,r,ob,e,c⟩:=x;exact⟨z,its,r,ob,k _ _ (.inl rfl) e,c⟩
 |dK kvs=>obtain⟨z,y,vs,r,ob,es,ep,e,c⟩:=x;exact⟨z,y,vs,r,ob,es,ep,k _ _ (.inl rfl) e,c⟩
 |dT kvs =>
  obtain⟨z,y,xs,r,ob,es,ep,e,c⟩:=x;exact⟨z,y,xs,Paired.mapP r λ p q z=>⟨z.1,ht _ _ z.2.1,z.2.2⟩,ob,es,ep,k _ _ (.inl rfl) e,c⟩
 |set S n=>obtain⟨ob,es,ep,t,e,c⟩:=x;exact⟨ob,es,ep,t,k _ _ (.inl rfl) e,c⟩
 |ins C dx fs =>
  obtain⟨d,z,ne,e,mA,⟨od,es,ep,e2,c⟩,r⟩:=x;exact⟨ho _ d,z,ne,k _ _ (.inl rfl) e,mA,⟨od,es,ep,k _ _ (.inr d) e2,c⟩,r⟩
 |own y=>obtain⟨ob,e⟩:=x;exact⟨ob,k _ _ (.inl rfl) e⟩
 |xd fs=>obtain⟨mA,⟨od,es,ep,e,c⟩,r⟩:=x;exact⟨mA,⟨od,es,ep,k _ _ (.inl rfl) e,c⟩,r⟩
 |rng lo hi=>obtain⟨t,u,v,e⟩:=x;exact⟨t,u,v,k _ _ (.inl rfl) e⟩
 |frz ob u ih=>obtain⟨e,q⟩:=x;exact⟨k _ _ (.inl rfl) e,ih q⟩
 |tbl ps =>
  have e:h.get? a=some { cls:=.none,data:=.fields ps }:=x;show h'.get? a=some { cls:=.none,data:=.fields ps };exact k a _ (.inl rfl) e
 |met f y =>
  have e:h.get? a=some (methodObj (.ref f) (.ref y)):=x;show h'.get? a=some (methodObj (.ref f) (.ref y));exact k a _ (.inl rfl) e
 |ext φ=>obtain⟨p,⟨o,e⟩,st⟩:=x;exact⟨st _ _ p λ o q=>k _ _ (.inl rfl) q,⟨o,k _ _ (.inl rfl) e⟩,st⟩
theorem HOk.lt(x:HOk P w H h)(e:H a=some o):a<h.objs.size:=(x a o e).lt
theorem HOk.fresh(x:HOk P w H h)(e:h.objs.size<=a):H a=none:=by
 cases q:H a with
 |none=>rfl
 |some u=>exact absurd (aK (x.lt q) e) (bG _)
theorem HOk.kept(x:HOk P w H h)(k:∀b u,h.get? b=some u->h'.get? b=some u):HOk P w H h':=λ a o e =>
 (x a o e).stay (λ b u _ q=>k b u q) (λ_ q=>q) λ_ _ q=>q
theorem HOk.laid(x:HOk P w H h)(k:∀b u,h.get? b=some u->h'.get? b=some u)(hp:h.objs.size<=a)(new:ObjOk P w (upd H a o) h' a o):HOk P w (upd H a o) h':=λ b u e=>by
 have hn:=x.fresh hp;by_cases hb:b=a
 .subst hb;rw[Ae]at e;cases e;exact new
 .rw[Ad hb]at e;exact(x b u e).stay (λ c v _ q=>k c v q) (λ c q=>by rw[Ad (Ag q hn)];exact q) λ c xs q=>by rw[Ad (Ag q hn)];exact q
end
noncomputable def Rd(H:Hp)(a:jd)(u:HO):Prop:=H a=some u\/∃o,H a=some (.frz o u)
theorem Rd.ok{P:jk}{w:ju}{H:Hp}{h:jy}{a:jd}{u:HO}(r:Rd H a u)(x:HOk P w H h):ObjOk P w H h a u:=by
 rcases r with r|⟨o,r⟩
 .exact x a u r
 .obtain⟨_,q⟩:=x a _ r;exact q
noncomputable def Mut:Option HO->Prop
 |some (.lst _)=>True
 |some (.dK _)=>True
 |some (.dT _)=>True
 |some (.set _ _)=>True
 |some (.ins _ _ _)=>True
 |some (.ext _)=>True
 |_=>False
section
variable{P:jk}{w:ju}{H:Hp}{h h':jy}{x e:jd}{o':HO}
theorem HOk.write(ok:HOk P w H h)(mu:Mut (H x))(he:e=x\/H e=some (.own x))(k:∀b u,b≠e->h.get? b=some u->h'.get? b=some u)(heo:∃u,h'.get? e=some u)
  (new:ObjOk P w (upd H x o') h' x o'):HOk P w (upd H x o') h':=λ b u q=>by
 have nown:∀c y,H c=some (.own y)->c≠x:=λ c y r z=>by subst z;rw[r]at mu;exact mu
 have ntup:∀c xs,H c=some (.tup xs)->c≠x:=λ c xs r z=>by subst z;rw[r]at mu;exact mu
 by_cases hb:b=x
 .subst hb;rw[Ae]at q;cases q;exact new
 .rw[Ad hb]at q;by_cases hbe:b=e
  .have q':H b=some (.own x):=by
    rcases he with z|z
    .exact absurd (hbe.trans z) hb
    .rw[hbe];exact z
   rw[q]at q';cases q';obtain⟨v,hv⟩:=heo;exact⟨v,by rw[hbe];exact hv⟩
  .refine(ok b u q).stay (λ c v hc r=>k c v ?_ r) (λ c r=>by rw[Ad (nown c b r)];exact r) λ c xs r=>by rw[Ad (ntup c xs r)];exact r
   rcases hc with rfl|hc
   .exact hbe
   .rintro rfl;rcases he with z|z
    .exact nown c b hc z
    .rw[hc]at z;cases z;exact hb rfl
end
structure Un(fs ex:List jd)(H H':Hp)(h h':jy):Prop where
 keep:∀b o,h.get? b=some o->H b=none->b∉fs->b∉ex->h'.get? b=some o
 slot:∀b o,h.get? b=some o->H b=none->b∈fs->b∉ex->∃sl,h'.get? b=some { o with slots:=sl }
 free:∀b o,h.get? b=some o->H b=none->b∉ex->H' b=none
 there:∀b o,h.get? b=some o->b∉ex->∃o',h'.get? b=some o'
 tups:∀b xs,H b=some (.tup xs)->H' b=some (.tup xs)
 frzs:∀b o u,H b=some (.frz o u)->H' b=some (.frz o u)
 tbls:∀b ps,H b=some (.tbl ps)->∃more,H' b=some (.tbl (ps++more))
section
variable{fs fs' ex ex':List jd}{H H1 H2:Hp}{h h1 h2 h':jy}{a x e:jd}{o:HO}
theorem Un.any(u:Un fs ex H H1 h h1){b:jd}{ob:Obj}(q:h.get? b=some ob)(n:H b=none)(hx:b∉ex):∃sl,h1.get? b=some { ob with slots:=sl }:=by
 by_cases hb:b∈fs
 .exact u.slot b ob q n hb hx
 .exact⟨ob.slots,u.keep b ob q n hb hx⟩
theorem Un.kept(k:∀b u,h.get? b=some u->h'.get? b=some u):Un fs ex H H h h' :=
 ⟨λ b ob q _ _ _=>k b ob q,λ b ob q _ _ _=>⟨ob.slots,k b ob q⟩,λ_ _ _ n _=>n,λ b ob q _=>⟨ob,k b ob q⟩,λ_ _ q=>q,λ_ _ _ q=>q,λ_ ps q=>⟨#[],by rw[q];simp⟩⟩
theorem Un.refl:Un fs ex H H h h:=Un.kept λ_ _ q=>q
theorem Un.laid(k:∀b u,h.get? b=some u->h'.get? b=some u)(hp:h.objs.size<=a)(hn:H a=none):Un fs ex H (upd H a o) h h' where
 keep:=λ b u q _ _ _=>k b u q
 slot:=λ b u q _ _ _=>⟨u.slots,k b u q⟩
 free:=λ b u q n _=>by rw[Ad (aD (aK (ak q) hp))];exact n
 there:=λ b u q _=>⟨u,k b u q⟩
 tups:=λ b xs q=>by rw[Ad (Ag q hn)];exact q
 frzs:=λ b u xs q=>by rw[Ad (Ag q hn)];exact q
 tbls:=λ b ps q=>⟨#[],by rw[Ad (Ag q hn),q];simp⟩
theorem Un.write(mu:Mut (H x))(he:e=x\/H e=some (.own x))(k:∀b u,b≠e->h.get? b=some u->h'.get? b=some u)(heo:∃u,h'.get? e=some u):Un fs ex H (upd H x o) h h':=by
 have hx:∀b,H b=none->b≠x:=λ b n z=>by subst z;rw[n]at mu;exact mu
 have hb:∀b,H b=none->b≠e:=λ b n z=>by
  subst z;rcases he with r|r
  .exact hx b n r
  .rw[n]at r;cases r
 have hm:∀b u,H b=some u->¬Mut (some u)->b≠x:=λ b u q nm z=>by subst z;rw[q]at mu;exact nm mu
 refine⟨λ b u q n _ _=>k b u (hb b n) q,λ b u q n _ _=>⟨u.slots,k b u (hb b n) q⟩,λ b u q n _=>by rw[Ad (hx b n)];exact n,λ b u q _=>?_,
  λ b xs q=>by rw[Ad (hm b _ q λ z=>z)];exact q,λ b u xs q=>by rw[Ad (hm b _ q λ z=>z)];exact q,λ b ps q=>⟨#[],by rw[Ad (hm b _ q λ z=>z),q];simp⟩⟩
 by_cases hbe:b=e
 .subst hbe;exact heo
 .exact⟨u,k b u hbe q⟩
end
noncomputable def trk(h:jy)(H:Hp):List jd:=(List.range h.objs.size).filter λ a=>(H a).isSome
noncomputable def L3(h:jy)(H:Hp):jy:=hideAll h (trk h H)
theorem Qx(h:jy)(H:Hp):(L3 h H).objs.size=h.objs.size:=hideAll_size _ _
theorem Sf{h:jy}{H:Hp}{b:jd}{o:Obj}(e:h.get? b=some o)(n:H b=none):(L3 h H).get? b=some o :=
 hideAll_get _ e λ hm=>by
  have q:(H b).isSome=true:=(b7.mp hm).2;rw[n]at q;simp at q
theorem T5{h:jy}{H:Hp}{b:jd}{o:Obj}(e:(L3 h H).get? b=some o):h.get? b=some o/\H b=none:=by
 have e':h.get? b=some o:=of_hideAll (trk h H) e;refine⟨e',?_⟩;cases q:H b with
 |none=>rfl
 |some x =>
  have hm:b∈trk h H:=b7.mpr ⟨aQ.mpr (ak e'),by simp[q]⟩;have z:(L3 h H).get? b=none:=hideAll_none (trk h H) hm;rw[z]at e;cases e
structure Mod(K:jw)(mg:MGz)(ja:jy):Prop where
 kin:K.In ja
 glob:ja.Ns jq mg
 blt:∃mb,ja.Ns builtinsNs mb/\∀x:jD,x≠"__name__"->mb x=bootBuiltins x
 nolimit:ja.NoLimit
structure Cx where
 prog:jk
 w:ju
 K:jw
 mg:MGz
 ja:jy
 A:jx
 N:LSz
 s₀:jf
 H₀:Hp
 env:lH
 i6:List lH
 stack:List lH
 ex:List jd
 fn:jD->Bool
 calm:Bool
 pn:PNz
 xe:VPz
noncomputable def frs(l:List lH):List jd:=l.filterMap (·.frame)
noncomputable abbrev Cx.fs(X:Cx):List jd:=frs X.i6
noncomputable def Vis(sc:jZ)(x:jD):Prop:=sc.names.lookup x=some .local\/sc.names.lookup x=some .cell\/sc.names.lookup x=some .free
noncomputable def Loc(sc:jZ)(x:jD):Prop:=sc.names.lookup x=some .local\/sc.names.lookup x=some .cell
noncomputable def XC(env:lH)(h:jy)(m:MGz)(x:jD)(u:jg):Prop :=
 (env.kindOf x=some .local/\m x=some u)\/((env.kindOf x=some .cell\/env.kindOf x=some .free)/\∃c,env.cells.lookup x=some c/\h.IsCell c (some u))
structure Cx.Ok(X:Cx):Prop where
 mod:Mod X.K X.mg X.ja
 kind:X.env.scope.kind=.function
 glob:X.env.globals=jq
 blt:X.env.builtins=builtinsNs
 above:X.s₀.heap.objs.size<=X.env.locals
 inj:∀x y c,X.env.cells.lookup x=some c->X.env.cells.lookup y=some c->x=y
 has:∀x,(X.env.kindOf x=some .cell\/X.env.kindOf x=some .free)->∃c,X.env.cells.lookup x=some c
 cab:∀x c,X.fn x=true->X.env.cells.lookup x=some c->X.s₀.heap.objs.size<=c
 hd:X.calm=true->X.A.handled=none
 frames:X.A.frames=some X.stack
 stk:X.stack=X.i6\/(X.stack=X.env::X.i6/\X.env.frame=some X.env.locals)
 exf:∀b∈X.ex,b≠X.env.locals/\∀x c,X.env.cells.lookup x=some c->c≠b
 bs:∀b o,X.ja.get? b=some o->X.s₀.heap.get? b=some o/\X.H₀ b=none
 bsz:X.ja.objs.size<=X.s₀.heap.objs.size
 noex:∀b o,X.ja.get? b=some o->b∉X.ex
 exfs:∀b∈X.ex,b∉X.fs
 funs:X.s₀.heap.FunFrames X.ja X.i6
 frf:∀b∈X.fs,X.H₀ b=none
structure Inv(X:Cx)(iZ:PNz)(σ:List (Option V))(H:Hp)(s:jf):Prop where
 ok:X.Ok
 os:s.os=X.s₀.os
 bare:AllBare s.gens
 ja:Un X.fs X.ex X.H₀ H X.s₀.heap s.heap
 loc:∃m,s.heap.Ns X.env.locals m/\∀(i:Nat)(x:jD)(v:V),X.N[i]?=some x->σ[i]?=some (some v)->Vis X.env.scope x->∃u,RelV v u/\XC X.env s.heap m x u
 cell:∀x c,X.env.cells.lookup x=some c->∃v,s.heap.IsCell c v
 free:H X.env.locals=none
 freeC:∀x c,X.env.cells.lookup x=some c->H c=none
 pin:∀p∈X.pn++iZ,s.heap.get? p.1=some p.2/\H p.1=none/\p.1≠X.env.locals/\p.1∉X.fs/\∀v,p.2.data≠.cell v
 hok:HOk X.prog X.w H s.heap
 len:σ.length=X.N.length
section
variable{X:Cx}{iZ:PNz}{σ:List (Option V)}{H H':Hp}{s:jf}{h':jy}
theorem Cx.Ok.nofr(ok:X.Ok){b:jd}{o:Obj}(e:X.ja.get? b=some o):b∉X.fs:=λ hb=>by
 have:=(ok.funs.mem hb).1;rw[e]at this;cases this
theorem Inv.bs(I:Inv X iZ σ H s):∀b o,X.ja.get? b=some o->s.heap.get? b=some o/\H b=none:=λ b o e =>
 ⟨I.ja.keep b o (I.ok.bs b o e).1 (I.ok.bs b o e).2 (I.ok.nofr e) (I.ok.noex b o e),I.ja.free b o (I.ok.bs b o e).1 (I.ok.bs b o e).2 (I.ok.noex b o e)⟩
theorem Inv.bk(I:Inv X iZ σ H s):∀b o,X.ja.get? b=some o->s.heap.get? b=some o:=λ b o e=>(I.bs b o e).1
theorem Inv.mod(I:Inv X iZ σ H s):Mod X.K X.mg X.ja:=I.ok.mod
theorem Inv.kIn(I:Inv X iZ σ H s):X.K.In s.heap:=I.ok.mod.kin.keeps I.bk
theorem Inv.lt(I:Inv X iZ σ H s):X.env.locals<s.heap.objs.size:=let ⟨_,hn,_⟩:=I.loc;hn.lt
theorem Inv.sz(I:Inv X iZ σ H s):X.s₀.heap.objs.size<=s.heap.objs.size:=aV I.ok.above (aN I.lt)
theorem Inv.nofs(I:Inv X iZ σ H s){a:jd}(h:s.heap.objs.size<=a):a∉X.fs:=λ hb=>by
 obtain⟨_,o,ho,_⟩:=I.ok.funs.mem hb;exact absurd (aK (ak ho) (aV I.sz h)) (bG _)
theorem Inv.cne(I:Inv X iZ σ H s):∀x c,X.env.cells.lookup x=some c->c≠X.env.locals:=λ x c e z=>by
 obtain⟨v,o,ho,hd⟩:=I.cell x c e;obtain⟨m,⟨o',es,ep,ho',hd',_⟩,_⟩:=I.loc;rw[z,ho']at ho;cases ho;rw[hd']at hd;cases hd
theorem Inv.funs(I:Inv X iZ σ H s):s.heap.FunFrames X.ja X.i6:=by
 have all:∀(l:List lH),(∀b∈frs l,b∈X.fs)->X.s₀.heap.FunFrames X.ja l->s.heap.FunFrames X.ja l:=by
  intro l
  induction l with
  |nil=>intro _ _;trivial
  |cons env r ih =>
   intro hs hl;obtain⟨hk,⟨L,o,hf,hn,ho,hd⟩,hr⟩:=hl;have hL:L∈X.fs:=hs L (by unfold frs;rw[dW,hf];exact aw);obtain⟨sl,e⟩:=I.ja.slot L o ho (I.ok.frf L hL) hL λ z=>I.ok.exfs L z hL;exact⟨hk,⟨L,_,hf,hn,e,hd⟩,ih (λ b hb=>hs b (by unfold frs;rw[dW,hf];exact ay _ hb)) hr⟩
 exact all X.i6 (λ_ hb=>hb) I.ok.funs
theorem Inv.stack(I:Inv X iZ σ H s):s.heap.FunFrames X.ja X.stack:=by
 rcases I.ok.stk with e|⟨e,hf⟩
 .rw[e];exact I.funs
 .rw[e];obtain⟨m,hn,_⟩:=I.loc;refine .cons (by rw[I.ok.kind];decide) hf hn ?_ I.funs;exact fS (aV I.ok.bsz I.ok.above)
theorem Inv.stkSub(I:Inv X iZ σ H s):∀b∈frs X.stack,b∈X.env.locals::X.fs:=λ b hb=>by
 rcases I.ok.stk with e|⟨e,hf⟩
 .rw[e]at hb;exact ay _ hb
 .rw[e]at hb;unfold frs at hb;rw[dW,hf]at hb;exact hb
theorem Inv.stkFree(I:Inv X iZ σ H s):∀b∈frs X.stack,H b=none:=λ b hb=>by
 rcases aO.mp (I.stkSub b hb) with e|hb
 .rw[e];exact I.free
 .obtain⟨_,o,ho,_⟩:=I.ok.funs.mem hb;exact I.ja.free b o ho (I.ok.frf b hb) λ z=>I.ok.exfs b z hb
theorem Inv.step{g':Array lD}{t':Nat}{d':Drawn}{ch:List jd}(I:Inv X iZ σ H s)
  (hch:∀b∈ch,(b∈X.ex\/X.s₀.heap.objs.size<=b)/\b≠X.env.locals/\(∀x c,X.env.cells.lookup x=some c->c≠b)/\∀p∈X.pn++iZ,p.1≠b)
  (keep:∀b o,b≠X.env.locals->b∉X.fs->b∉ch->s.heap.get? b=some o->H b=none->h'.get? b=some o)
  (slot:∀b o,b≠X.env.locals->b∈X.fs->b∉ch->s.heap.get? b=some o->H b=none->∃sl,h'.get? b=some { o with slots:=sl }) (free:∀b o,b∉ch->s.heap.get? b=some o->H b=none->H' b=none)
  (there:∀b o,b∉ch->s.heap.get? b=some o->∃o',h'.get? b=some o')
  (tups:∀b xs,H b=some (.tup xs)->H' b=some (.tup xs)) (frzs:∀b o u,H b=some (.frz o u)->H' b=some (.frz o u)) (tbls:∀b ps,H b=some (.tbl ps)->∃more,H' b=some (.tbl (ps++more)))
  (ns:∀m,s.heap.Ns X.env.locals m->h'.Ns X.env.locals m) (hok:HOk X.prog X.w H' h') (hg:AllBare g') :
  Inv X iZ σ H' { s with heap:=h',gens:=g',drawn:=d',toks:=t' }:=by
 have neL:∀b o,X.s₀.heap.get? b=some o->b≠X.env.locals:=λ b o e=>aD (aK (ak e) I.ok.above);have neC:∀b o,X.s₀.heap.get? b=some o->b∉X.ex->b∉ch:=λ b o e hx hb=>by
  rcases(hch b hb).1 with z|z
  .exact hx z
  .exact absurd (aK (ak e) z) (bG _)
 have cellK:∀x c,X.env.cells.lookup x=some c->∀v,s.heap.IsCell c v->h'.IsCell c v:=λ x c e v ⟨o,ho,hd⟩=>by
  have nch:c∉ch:=λ z=>(hch c z).2.2.1 x c e rfl;by_cases hc:c∈X.fs
  .obtain⟨sl,q⟩:=slot c o (I.cne x c e) hc nch ho (I.freeC x c e);exact⟨_,q,hd⟩
  .exact⟨o,keep c o (I.cne x c e) hc nch ho (I.freeC x c e),hd⟩
 refine⟨I.ok,I.os,hg,⟨λ b o e n hb hx=>?_,λ b o e n hb hx=>?_,λ b o e n hx=>?_,λ b o e hx=>?_,λ b xs e=>tups b xs (I.ja.tups b xs e),λ b o xs e=>frzs b o xs (I.ja.frzs b o xs e),λ b ps e=>?_⟩,?_,λ x c e=>?_,?_,λ x c e=>?_,λ p hp=>?_,hok,I.len⟩
 .exact keep b o (neL b o e) hb (neC b o e hx) (I.ja.keep b o e n hb hx) (I.ja.free b o e n hx)
 .obtain⟨sl,e1⟩:=I.ja.slot b o e n hb hx;obtain⟨sl',e2⟩:=slot b _ (neL b o e) hb (neC b o e hx) e1 (I.ja.free b o e n hx);exact⟨sl',e2⟩
 .obtain⟨o',e1⟩:=I.ja.there b o e hx;exact free b o' (neC b o e hx) e1 (I.ja.free b o e n hx)
 .obtain⟨o',e1⟩:=I.ja.there b o e hx;exact there b o' (neC b o e hx) e1
 .obtain⟨m1,e1⟩:=I.ja.tbls b ps e;obtain⟨m2,e2⟩:=tbls b _ e1;exact⟨m1++m2,by rw[e2,Array.append_assoc]⟩
 .obtain⟨m,hn,hl⟩:=I.loc;refine⟨m,ns m hn,λ i x v e1 e2 e3=>?_⟩;obtain⟨u,r,l⟩:=hl i x v e1 e2 e3;refine⟨u,r,?_⟩;rcases l with l|⟨k,c,e,z⟩
  .exact .inl l
  .exact .inr ⟨k,c,e,cellK x c e _ z⟩
 .obtain⟨v,z⟩:=I.cell x c e;exact⟨v,cellK x c e v z⟩
 .obtain⟨m,⟨o,_,_,ho,_⟩,_⟩:=I.loc;exact free _ o (λ z=>(hch _ z).2.1 rfl) ho I.free
 .obtain⟨v,o,ho,hd⟩:=I.cell x c e;exact free c o (λ z=>(hch c z).2.2.1 x c e rfl) ho (I.freeC x c e)
 .obtain⟨e,n,ne,nf,d⟩:=I.pin p hp;have nch:p.1∉ch:=λ z=>(hch p.1 z).2.2.2 p hp rfl;exact⟨keep p.1 p.2 ne nf nch e n,free p.1 p.2 nch e n,ne,nf,d⟩
theorem Inv.un{t':Nat}(I:Inv X iZ σ H s)(u:Un X.fs [] H H' s.heap h')(hok:HOk X.prog X.w H' h'):Inv X iZ σ H' { s with heap:=h',toks:=t' }:=by
 obtain⟨m,⟨o,es,ep,ho,r⟩,_⟩:=id I.loc;obtain⟨sl,hL⟩:=u.any ho I.free (by simp);exact I.step (g':=s.gens) (d':=s.drawn) (ch:=[]) (λ_ z=>nomatch z) (λ b o _ hb _ e n=>u.keep b o e n hb (by simp)) (λ b o _ hb _ e n=>u.slot b o e n hb (by simp)) (λ b o _ e n=>u.free b o e n (by simp)) (λ b o _ e=>u.there b o e (by simp)) u.tups u.frzs u.tbls (λ m' hm=>by
  obtain⟨o',es',ep',ho',r'⟩:=hm;rw[ho]at ho';cases ho';exact⟨_,es',ep',hL,r'⟩) hok I.bare
theorem Inv.call{g':Array lD}{t':Nat}{d':Drawn}{ch:List jd}(I:Inv X iZ σ H s)(u:Un (frs X.stack) ch H H' s.heap h')(hok:HOk X.prog X.w H' h')(hg:AllBare g')
  (hch:∀b∈ch,(b∈X.ex\/X.s₀.heap.objs.size<=b)/\b≠X.env.locals/\(∀x c,X.env.cells.lookup x=some c->c≠b)/\∀p∈X.pn++iZ,p.1≠b) :
  Inv X iZ σ H' { s with heap:=h',gens:=g',drawn:=d',toks:=t' }:=by
 obtain⟨m,⟨o,es,ep,ho,r⟩,_⟩:=id I.loc;obtain⟨sl,hL⟩:=u.any ho I.free λ z=>(hch _ z).2.1 rfl;exact I.step (ch:=ch) hch (λ b o hL hb hc e n=>u.keep b o e n (λ z=>(aO.mp (I.stkSub b z)).elim hL hb) hc) (λ b o _ _ hc e n=>u.any e n hc) (λ b o hc e n=>u.free b o e n hc) (λ b o hc e=>u.there b o e hc) u.tups u.frzs u.tbls (λ m' hm=>by
  obtain⟨o',es',ep',ho',r'⟩:=hm;rw[ho]at ho';cases ho';exact⟨_,es',ep',hL,r'⟩) hok hg
theorem Inv.turned{t':Nat}{it:jd}(I:Inv X iZ σ H s)(k:∀b o,b≠it->s.heap.get? b=some o->h'.get? b=some o)(hn:H it=none)(hL:it≠X.env.locals)
  (h1:it∈X.ex\/X.s₀.heap.objs.size<=it) (h2:∀x c,X.env.cells.lookup x=some c->c≠it) (h3:∀p∈X.pn++iZ,p.1≠it):Inv X iZ σ H { s with heap:=h',toks:=t' }:=by
 have nit:∀b u,H b=some u->b≠it:=λ b u e z=>by rw[z,hn]at e;cases e
 refine I.step (g':=s.gens) (d':=s.drawn) (ch:=[it]) (λ b hb=>?_) (λ b o _ _ hc e _=>k b o (λ z=>hc (by simp[z])) e) (λ b o _ _ hc e _=>⟨o.slots,k b o (λ z=>hc (by simp[z])) e⟩) (λ_ _ _ _ n=>n)
  (λ b o hc e=>⟨o,k b o (λ z=>hc (by simp[z])) e⟩) (λ_ _ e=>e) (λ_ _ _ e=>e) (λ b ps e=>⟨#[],by rw[e];simp⟩) (λ m hm=>?_) (λ b u e=>?_) I.bare
 .have e:b=it:=by simpa using hb
  subst e;exact⟨h1,hL,h2,h3⟩
 .obtain⟨o,es,ep,ho,r⟩:=hm;exact⟨o,es,ep,k _ o (Ne.symm hL) ho,r⟩
 .refine(I.hok b u e).stay (λ c v hc q=>k c v ?_ q) (λ_ q=>q) λ_ _ q=>q;rcases hc with z|z
  .rw[z];exact nit b u e
  .exact nit c _ z
theorem Inv.tok(I:Inv X iZ σ H s)(t:Nat):Inv X iZ σ H { s with toks:=t }:=I.un (h':=s.heap) (t':=t) Un.refl I.hok
theorem Inv.kept{t':Nat}(I:Inv X iZ σ H s)(k:∀b u,s.heap.get? b=some u->h'.get? b=some u):Inv X iZ σ H { s with heap:=h',toks:=t' }:=I.un (Un.kept k) (I.hok.kept k)
theorem Inv.laid{a:jd}{o:HO}{t':Nat}(I:Inv X iZ σ H s)(k:∀b u,s.heap.get? b=some u->h'.get? b=some u)(hp:s.heap.objs.size<=a)(new:ObjOk X.prog X.w (upd H a o) h' a o) :
  Inv X iZ σ (upd H a o) { s with heap:=h',toks:=t' }:=I.un (Un.laid k hp (I.hok.fresh hp)) (I.hok.laid k hp new)
theorem Inv.write{x e:jd}{o:HO}{t':Nat}(I:Inv X iZ σ H s)(mu:Mut (H x))(he:e=x\/H e=some (.own x))(k:∀b u,b≠e->s.heap.get? b=some u->h'.get? b=some u)(heo:∃u,h'.get? e=some u)
  (new:ObjOk X.prog X.w (upd H x o) h' x o):Inv X iZ σ (upd H x o) { s with heap:=h',toks:=t' }:=I.un (Un.write mu he k heo) (I.hok.write mu he k heo new)
theorem Inv.pins_of{iZ':PNz}(I:Inv X iZ σ H s)(h:∀p∈iZ',s.heap.get? p.1=some p.2/\H p.1=none/\p.1≠X.env.locals/\p.1∉X.fs/\∀v,p.2.data≠.cell v):Inv X iZ' σ H s :=
 ⟨I.ok,I.os,I.bare,I.ja,I.loc,I.cell,I.free,I.freeC,λ p hp=>(az.mp hp).elim (λ z=>I.pin p (bB _ z)) (h p),I.hok,I.len⟩
theorem IC{N:LSz}(hN:N.Nodup){i j:Nat}{x:jD}(a:N[i]?=some x)(b:N[j]?=some x):i=j:=by
 obtain⟨h1,e1⟩:=aF.mp a;obtain⟨h2,e2⟩:=aF.mp b;exact(List.getElem_inj hN).mp (e1.trans e2.symm)
theorem PH{M:Model}{A:jx}{E:VPz}{i:Nat}{x:jD}{v:V}{u:jg}{Q:Unit->jf->Prop}(I:Inv X iZ σ H s)(hN:X.N.Nodup)(hi:X.N[i]?=some x)(hx:Loc X.env.scope x)(r:RelV v u)
  (h:∀s',Inv X iZ (σ.set i (some v)) H s'->(∃a,Heap.SameBut a s.heap s'.heap/\(a=X.env.locals\/X.env.cells.lookup x=some a))->Q () s') (hf:X.fn x=true\/X.env.scope.names.lookup x=some .local:=by first|exact .inl rfl|exact .inr rfl|assumption):jh M A (storeName X.env x u) Q E s:=by
 obtain⟨m,hn,hl⟩:=id I.loc;have hcls:(X.env.scope.kind==.class||(X.env.scope.kind==.module&&X.env.locals != X.env.globals))=false:=by rw[I.ok.kind];rfl
 have hiσ:i<σ.length:=by rw[I.len];exact(aF.mp hi).1
 have cne:=I.cne;have tracked:∀{a:jd}{h':jy},(∃o,s.heap.get? a=some o/\H a=none)->Heap.SameBut a s.heap h'->HOk X.prog X.w H h':=λ{a h'} ha hs b ob e=>by
  obtain⟨_,_,hfree⟩:=ha;refine(I.hok b ob e).stay (λ c w' hc q=>(hs.2 c ?_).trans q) (λ_ q=>q) λ_ _ q=>q;rintro rfl;rcases hc with rfl|hc
  .rw[hfree]at e;cases e
  .rw[hfree]at hc;cases hc
 rcases hx with hk|hk
 .refine wpAny_storeName_local hk hn (λ h' hn' hs=>?_) hcls;obtain⟨oL,_,_,hoL,_⟩:=id hn;refine h _ ⟨I.ok,I.os,I.bare,⟨λ b o e n hb hx=>?_,λ b o e n hb hx=>?_,I.ja.free,λ b o e hx=>?_,I.ja.tups,I.ja.frzs,I.ja.tbls⟩,⟨_,hn',λ j y v' e1 e2 e3=>?_⟩,λ y c e=>?_,I.free,I.freeC,λ p hp=>?_,tracked ⟨oL,hoL,I.free⟩ hs,by simpa using I.len⟩ ⟨_,hs,.inl rfl⟩
  .exact(hs.2 b (aD (aK (ak e) I.ok.above))).trans (I.ja.keep b o e n hb hx)
  .obtain⟨sl,e1⟩:=I.ja.slot b o e n hb hx;exact⟨sl,(hs.2 b (aD (aK (ak e) I.ok.above))).trans e1⟩
  .obtain⟨o',e1⟩:=I.ja.there b o e hx;exact⟨o',(hs.2 b (aD (aK (ak e) I.ok.above))).trans e1⟩
  .by_cases hj:j=i
   .subst hj;rw[hi]at e1;cases e1;rw[dD hiσ]at e2;cases e2;exact⟨u,r,.inl ⟨hk,by simp⟩⟩
   .rw[dO (Ne.symm hj)]at e2;obtain⟨u',r',q⟩:=hl j y v' e1 e2 e3;refine⟨u',r',?_⟩;rcases q with ⟨k,e⟩|⟨k,c,e,z⟩
    .refine .inl ⟨k,?_⟩;have:y≠x:=λ e=>hj (IC hN e1 (e ▸ hi));simp[this,e]
    .exact .inr ⟨k,c,e,z.sameBut hs (cne y c e)⟩
  .obtain⟨w',z⟩:=I.cell y c e;exact⟨w',z.sameBut hs (cne y c e)⟩
  .obtain⟨e,n,ne,nf,d⟩:=I.pin p hp;exact⟨(hs.2 p.1 ne).trans e,n,ne,nf,d⟩
 .have hfn:X.fn x=true:=by
   rcases hf with z|z
   .exact z
   .rw[z]at hk;cases hk
  obtain⟨c,hc⟩:=I.ok.has x (.inl hk);obtain⟨w',z⟩:=I.cell x c hc;refine wpAny_storeName_cell I.ok.kind hk hc z (λ h' hc' hs=>?_);obtain⟨oc,hoc,hocd⟩:=id z;refine h { s with heap:=h' } ⟨I.ok,I.os,I.bare,⟨λ b o e n hb hx=>?_,λ b o e n hb hx=>?_,I.ja.free,λ b o e hx=>?_,I.ja.tups,I.ja.frzs,I.ja.tbls⟩,⟨m,hn.sameBut hs (Ne.symm (cne x c hc)),λ j y v' e1 e2 e3=>?_⟩,λ y c' e=>?_,I.free,I.freeC,λ p hp=>?_,tracked ⟨oc,hoc,I.freeC x c hc⟩ hs,by simpa using I.len⟩ ⟨c,hs,.inr hc⟩
  .exact(hs.2 b (aD (aK (ak e) (I.ok.cab x c hfn hc)))).trans (I.ja.keep b o e n hb hx)
  .obtain⟨sl,e1⟩:=I.ja.slot b o e n hb hx;exact⟨sl,(hs.2 b (aD (aK (ak e) (I.ok.cab x c hfn hc)))).trans e1⟩
  .obtain⟨o',e1⟩:=I.ja.there b o e hx;exact⟨o',(hs.2 b (aD (aK (ak e) (I.ok.cab x c hfn hc)))).trans e1⟩
  .by_cases hj:j=i
   .subst hj;rw[hi]at e1;cases e1;rw[dD hiσ]at e2;cases e2;exact⟨u,r,.inr ⟨.inl hk,c,hc,hc'⟩⟩
   .rw[dO (Ne.symm hj)]at e2;obtain⟨u',r',q⟩:=hl j y v' e1 e2 e3;refine⟨u',r',?_⟩;rcases q with q|⟨k,c',e,z'⟩
    .exact .inl q
    .refine .inr ⟨k,c',e,z'.sameBut hs ?_⟩;rintro rfl;exact hj (IC hN e1 (I.ok.inj _ _ _ e hc ▸ hi))
  .by_cases hcc:c'=c
   .subst hcc;exact⟨_,hc'⟩
   .obtain⟨w2,z2⟩:=I.cell y c' e;exact⟨w2,z2.sameBut hs hcc⟩
  .obtain⟨e,n,ne,nf,d⟩:=I.pin p hp;refine⟨(hs.2 p.1 ?_).trans e,n,ne,nf,d⟩;intro q;rw[q,hoc]at e;have q':oc=p.2:=Option.some.inj e;exact d w' (by rw[<-q'];exact hocd)
theorem DC{M:Model}{A:jx}{E:VPz}{i:Nat}{x:jD}{v:V}{u:jg}{Q:Unit->jf->Prop}(I:Inv X iZ σ H s)(hN:X.N.Nodup)(hi:X.N[i]?=some x)(hx:Loc X.env.scope x)(r:RelV v u)
  (h:∀s',Inv X iZ (σ.set i (some v)) H s'->Q () s') (hf:X.fn x=true\/X.env.scope.names.lookup x=some .local:=by first|exact .inl rfl|exact .inr rfl|assumption):jh M A (storeName X.env x u) Q E s :=
 PH I hN hi hx r (λ s' I' _=>h s' I') hf
theorem Inv.call'{s':jf}{ch:List jd}(I:Inv X iZ σ H s)(ho:s'.os=s.os)(u:Un (frs X.stack) ch H H' s.heap s'.heap)(hok:HOk X.prog X.w H' s'.heap)(hg:AllBare s'.gens)
  (hch:∀b∈ch,(b∈X.ex\/X.s₀.heap.objs.size<=b)/\b≠X.env.locals/\(∀x c,X.env.cells.lookup x=some c->c≠b)/\∀p∈X.pn++iZ,p.1≠b):Inv X iZ σ H' s':=by
 obtain⟨h',g',d',t',o'⟩:=s';have e:o'=s.os:=ho;subst e;exact I.call (g':=g') (t':=t') (d':=d') u hok hg hch
end
noncomputable abbrev XK:=jg->Option jd->Hp->Prop
noncomputable abbrev St:=List (Option V)
noncomputable abbrev VK:=V->Hp->Prop
noncomputable abbrev TE:=St->Hp->VK->Prop
noncomputable abbrev TT:=St->Hp->(Bool->Hp->Prop)->Prop
noncomputable abbrev TA:=St->Hp->(LUz->Hp->Prop)->Prop
structure DA where
 nx:St->Hp->Prop
 rt:VK
 bk:St->Hp->Prop:=λ_ _=>False
 ct:St->Hp->Prop:=λ_ _=>False
noncomputable abbrev TS:=DA->St->Hp->Prop
noncomputable def EP(X:Cx)(iZ:PNz)(σ:St)(Q:VK)(u:jg)(s':jf):Prop:=∃v H',Inv X iZ σ H' s'/\RelV v u/\Q v H'
noncomputable def TP(X:Cx)(iZ:PNz)(σ:St)(Q:Bool->Hp->Prop)(b:Bool)(s':jf):Prop:=∃H',Inv X iZ σ H' s'/\Q b H'
noncomputable def AP(X:Cx)(iZ:PNz)(σ:St)(Q:LUz->Hp->Prop)(us:LWz)(s':jf):Prop:=∃vs H',Inv X iZ σ H' s'/\Vals vs us/\Q vs H'
noncomputable def SP(X:Cx)(iZ:PNz)(D:DA)(f:Flow)(s':jf):Prop :=
 match f with
 |.next=>∃σ' H',Inv X iZ σ' H' s'/\D.nx σ' H'
 |.brk=>∃σ' H',Inv X iZ σ' H' s'/\D.bk σ' H'
 |.cont=>∃σ' H',Inv X iZ σ' H' s'/\D.ct σ' H'
 |.ret u=>∃v σ' H',Inv X iZ σ' H' s'/\RelV v u/\D.rt v H'
noncomputable def PE(X:Cx)(e:jB)(t:TE):Prop :=
 ∀(iZ:PNz)(s:jf)(σ:St)(H:Hp)(Q:VK),Inv X iZ σ H s->t σ H Q->jh (jm X.prog X.w) X.A (eval e X.env) (EP X iZ σ Q) X.xe s
noncomputable def PT(X:Cx)(e:jB)(t:TT):Prop :=
 ∀(iZ:PNz)(s:jf)(σ:St)(H:Hp)(Q:Bool->Hp->Prop),Inv X iZ σ H s->t σ H Q->jh (jm X.prog X.w) X.A (isTrue e X.env (eval e X.env)) (TP X iZ σ Q) X.xe s
noncomputable def PW(X:Cx)(e:jB)(t:TT):Prop :=
 ∀(whole:Sem jg)(iZ:PNz)(s:jf)(σ:St)(H:Hp)(Q:Bool->Hp->Prop),Inv X iZ σ H s->t σ H Q->jh (jm X.prog X.w) X.A (isTrue e X.env whole) (TP X iZ σ Q) X.xe s
theorem PW.pt{X:Cx}{e:jB}{t:TT}(h:PW X e t):PT X e t:=h _
noncomputable def PA(X:Cx)(es:List jB)(t:TA):Prop :=
 ∀(pos:Pos)(iZ:PNz)(s:jf)(σ:St)(H:Hp)(Q:LUz->Hp->Prop),Inv X iZ σ H s->t σ H Q->jh (jm X.prog X.w) X.A (spliced (jX pos (jv es X.env))) (AP X iZ σ Q) X.xe s
noncomputable def PS(X:Cx)(st:jE)(t:TS):Prop :=
 ∀(iZ:PNz)(s:jf)(σ:St)(H:Hp)(D:DA),Inv X iZ σ H s->t D σ H->jh (jm X.prog X.w) X.A (exec st X.env) (SP X iZ D) X.xe s
noncomputable def PSs(X:Cx)(st:List jE)(t:TS):Prop :=
 ∀(iZ:PNz)(s:jf)(σ:St)(H:Hp)(D:DA),Inv X iZ σ H s->t D σ H->jh (jm X.prog X.w) X.A (execs st X.env) (SP X iZ D) X.xe s
theorem thn{α:Type}{t:Sem α}{Q Q':α->jf->Prop}{M:Model}{A:jx}{E:VPz}{s:jf}(h:jh M A t Q E s)(hQ:∀a s,Q a s->Q' a s):jh M A t Q' E s:=jA h hQ λ_ _ x=>x
section
variable{X:Cx}
inductive WU(i:Nat)(σ:St)(H:Hp)(Q:VK):Prop
 |mk (v:V) (e:σ[i]?=some (some v)) (q:Q v H):WU i σ H Q
noncomputable def Fu(i:Nat):TE:=λ σ H Q=>WU i σ H Q
inductive IBl(x:V)(Q:Bool->Prop):Prop
 |mk (c:Bool) (e:x=.bl c) (q:Q c):IBl x Q
noncomputable def tC(v:V):TE:=λ_ H Q=>Q v H
theorem UY{i:Nat}{x:jD}{pos:Pos}(hN:X.N[i]?=some x)(hv:Vis X.env.scope x)(hd:(x==("__debug__":jD))=false:=by decide)(hcd:(x==("__classdict__":jD))=false:=by decide):PE X (.Name x pos) (Fu i):=by
 intro iZ s σ H Q I h;obtain⟨v,e,h⟩:=h;obtain⟨m,hn,hl⟩:=I.loc;obtain⟨u,r,l⟩:=hl i x v hN e hv;have fin:EP X iZ σ Q u s:=⟨v,H,I,r,h⟩;rcases l with ⟨hk,hm⟩|⟨hk,c,hc,hcell⟩
 .exact wpAny_Name (wpAny_loadName_local I.ok.kind hk hn hm fin) hd
 .rcases hk with hk|hk
  .exact wpAny_Name (wpAny_loadName_cell I.ok.kind hk hc hcell fin) hd
  .exact wpAny_Name (wpAny_loadName_free I.ok.kind hk hc hcell fin hcd) hd
theorem Ac{i j pos}:PE X (.Constant (.int i) j pos) (tC (.int i)):=λ_ _ _ H _ I h=>wpAny_Constant_int ⟨.int i,H,I.tok _,⟨_,rfl⟩,h⟩
theorem E5{b j pos}:PE X (.Constant (.bool b) j pos) (tC (.bl b)):=λ_ _ _ H _ I h=>Constant_bool ⟨.bl b,H,I,rfl,h⟩
theorem Gd{j pos}:PE X (.Constant .none j pos) (tC .non):=λ_ _ _ H _ I h=>Constant_none ⟨.non,H,I,rfl,h⟩
theorem DT{x j pos}:PE X (.Constant (.str x) j pos) (tC (.str x)):=λ_ _ _ H _ I h=>Calls.Constant_str ⟨.str x,H,I.tok _,⟨_,rfl⟩,h⟩
noncomputable def Gl(X:Cx)(x:jD):Prop:=X.env.kindOf x=some .globalImplicit
theorem Dr{E:VPz}{iZ:PNz}{s:jf}{σ:St}{H:Hp}{x:jD}{u:jg}{pos:Pos}{Q:VPz}(I:Inv X iZ σ H s)(hg:Gl X x)(hm:X.mg x=some u)(h:Q u s)
  (hd:(x==("__debug__":jD))=false:=by decide):jh (jm X.prog X.w) X.A (eval (.Name x pos) X.env) Q E s :=
 Calls.Name_function_global I.ok.kind hg (Calls.loadGlobal_global (by rw[I.ok.glob];exact I.mod.glob.keeps I.bk) hm h) hd
theorem BS{E:VPz}{iZ:PNz}{s:jf}{σ:St}{H:Hp}{x:jD}{u:jg}{pos:Pos}{Q:VPz}(I:Inv X iZ σ H s)(hg:Gl X x)(hm:X.mg x=none)(hv:bootBuiltins x=some u)(h:Q u s)
  (hn:x≠"__name__":=by decide) (hd:(x==("__debug__":jD))=false:=by decide):jh (jm X.prog X.w) X.A (eval (.Name x pos) X.env) Q E s:=by
 obtain⟨mb,h1,h2⟩:=I.mod.blt;exact Calls.Name_function_global I.ok.kind hg (Calls.loadGlobal_builtin (by rw[I.ok.glob];exact I.mod.glob.keeps I.bk) hm (by rw[I.ok.blt];exact h1.keeps I.bk) ((h2 x hn).trans hv) h) hd
theorem AF{x:jD}{v:V}{u:jg}{pos:Pos}(hg:Gl X x)(hm:X.mg x=some u)(r:RelV v u)(hd:(x==("__debug__":jD))=false:=by decide):PE X (.Name x pos) (tC v) :=
 λ_ _ _ H _ I h=>Dr I hg hm ⟨v,H,I,r,h⟩ hd
theorem Dq{x:jD}{v:V}{u:jg}{pos:Pos}(hg:Gl X x)(hm:X.mg x=none)(hv:bootBuiltins x=some u)(r:RelV v u)(hn:x≠"__name__":=by decide)(hd:(x==("__debug__":jD))=false:=by decide):PE X (.Name x pos) (tC v) :=
 λ_ _ _ H _ I h=>BS I hg hm hv ⟨v,H,I,r,h⟩ hn hd
variable{a b:jB}{ta tb:TE}{pos:Pos}
noncomputable def PC(X:Cx)(op:CmpOp)(a b:jB)(t:TE):Prop :=
 ∀(iZ:PNz)(s:jf)(σ:St)(H:Hp)(Q:VK),Inv X iZ σ H s->t σ H Q ->
  jh (jm X.prog X.w) X.A (eval a X.env) (λ v s₁=>jh (jm X.prog X.w) X.A (eval b X.env) (λ u s₂=>jh (jm X.prog X.w) X.A (jO op v u) (EP X iZ σ Q) X.xe s₂) X.xe s₁) X.xe s
noncomputable def tB(t:TE):TT:=λ σ H Q=>t σ H λ x H1=>IBl x λ c=>Q c H1
theorem Rs{op:CmpOp}{t:TE}(h:PC X op a b t)(h1:behindInMarks op b=false:=by first|exact nobehind _ (by decide) (by decide)|rfl):PT X (.Compare a [op] [b] pos) (tB t):=by
 intro iZ s σ H Q I hw;refine wpAny_isTrue_Compare1 (thn (h iZ s σ H _ I hw) λ v s1 h1=>thn h1 λ u s2 h2=>thn h2 λ c s3 hz_=>?_) h1;obtain⟨x,H1,I1,r1,q1⟩:=hz_;obtain⟨d,rfl,q⟩:=q1;cases r1;exact jK ⟨H1,I1,q⟩
theorem Bg{e:jB}{t:TE}(h:PE X e t)(he:∀whole,isTrue e X.env whole=(do let v <-whole;standAt e.pos;holding [v] (truthy v)):=by intro _;rfl):PT X e (tB t):=by
  intro iZ s σ H Q I hw;refine isTrue_plain (thn (h iZ s σ H _ I hw) λ v s1 hz_=>?_) (he _);obtain⟨x,H1,I1,r1,q1⟩:=hz_;obtain⟨d,rfl,q⟩:=q1;cases r1;exact jK ⟨H1,I1,q⟩
variable{tA tB':TT}{rest:List jB}
noncomputable def Xg(t u:TT):TT:=λ σ H Q=>t σ H λ c H1=>if c=true then u σ H1 Q else Q false H1
noncomputable def tOr(t u:TT):TT:=λ σ H Q=>t σ H λ c H1=>if c=true then Q true H1 else u σ H1 Q
noncomputable def VQ(t:TT):TT:=λ σ H Q=>t σ H λ c H1=>Q (!c) H1
theorem O1(ha:PT X a tA):PW X (.BoolOp .And [a] pos) tA:=by
 intro wh iZ s σ H Q I h;refine isTrue_and (thn (ha iZ s σ H Q I h) λ c s1 e=>?_);cases c with
 |true=>exact isTrue_and_nil e
 |false=>exact e
theorem DR(ha:PT X a tA):PW X (.BoolOp .Or [a] pos) tA:=by
 intro wh iZ s σ H Q I h;refine isTrue_or (thn (ha iZ s σ H Q I h) λ c s1 e=>?_);cases c with
 |false=>exact isTrue_or_nil e
 |true=>exact e
theorem Rp(ha:PT X a tA)(hb:PW X (.BoolOp .And (b::rest) pos) tB'):PW X (.BoolOp .And (a::b::rest) pos) (Xg tA tB'):=by
 intro wh iZ s σ H Q I h;refine isTrue_and (thn (ha iZ s σ H _ I h) λ c s1 hz_=>?_);obtain⟨H1,I1,q1⟩:=hz_;cases c with
 |true=>exact hb wh iZ s1 σ H1 Q I1 q1
 |false=>exact⟨H1,I1,q1⟩
theorem F1(ha:PT X a tA)(hb:PW X (.BoolOp .Or (b::rest) pos) tB'):PW X (.BoolOp .Or (a::b::rest) pos) (tOr tA tB'):=by
 intro wh iZ s σ H Q I h;refine isTrue_or (thn (ha iZ s σ H _ I h) λ c s1 hz_=>?_);obtain⟨H1,I1,q1⟩:=hz_;cases c with
 |true=>exact⟨H1,I1,q1⟩
 |false=>exact hb wh iZ s1 σ H1 Q I1 q1
theorem Br(ha:PT X a tA):PT X (.UnaryOp .Not a pos) (VQ tA):=by
 intro iZ s σ H Q I h;exact isTrue_not (ha iZ s σ H (λ c H1=>Q (!c) H1) I h)
noncomputable def QU(ta tb:TE):TE:=λ σ H Q=>ta σ H λ x H1=>IBl x λ c=>if c=true then tb σ H1 Q else Q (.bl false) H1
noncomputable def VP(ta:TE):TE:=λ σ H Q=>ta σ H λ x H1=>IBl x λ c=>Q (.bl (!c)) H1
theorem Ck{op}{t:TE}(h:PE X a t):PE X (.BoolOp op [a] pos) t:=λ iZ s σ H Q I hw=>BoolOp_one (h iZ s σ H Q I hw)
theorem BG(ha:PE X a ta)(hb:PE X (.BoolOp .And (b::rest) pos) tb):PE X (.BoolOp .And (a::b::rest) pos) (QU ta tb):=by
 intro iZ s σ H Q I h;refine BoolOp_and (thn (ha iZ s σ H _ I h) λ v s1 hz_=>?_);obtain⟨x,H1,I1,r1,q1⟩:=hz_;obtain⟨c,rfl,q1⟩:=q1;cases r1;refine jK ?_;cases c with
 |true=>exact hb iZ s1 σ H1 Q I1 q1
 |false=>exact⟨.bl false,H1,I1,rfl,q1⟩
theorem N6(ha:PE X a ta):PE X (.UnaryOp .Not a pos) (VP ta):=by
 intro iZ s σ H Q I h;refine UnaryOp_ (thn (ha iZ s σ H _ I h) λ v s1 hz_=>?_);obtain⟨x,H1,I1,r1,q1⟩:=hz_;obtain⟨c,rfl,q1⟩:=q1;cases r1;exact not_of (jK ⟨.bl (!c),H1,I1,rfl,q1⟩)
end
noncomputable def SqL(K:jw)(H:Hp)(a:jd)(xs:LUz):Prop :=
 Rd H a (.lst xs) \/
  ∃(o:Obj)(its:Array jg)(n:Nat),K.lookup a=some o/\o.cls=.type "list"/\o.dict=none/\o.data=.seq its n/\its.size<=jt/\Vals xs its.toList
noncomputable def SqT(K:jw)(H:Hp)(a:jd)(xs:LUz):Prop :=
 Rd H a (.tup xs) \/
  ∃(o:Obj)(its:Array jg)(n:Nat),K.lookup a=some o/\o.cls=.type "tuple"/\o.data=.seq its n/\its.size<=jt/\Vals xs its.toList
noncomputable def X9:jg->Option V
 |.none=>some .non
 |.bool b=>some (.bl b)
 |.int i _=>some (.int i)
 |.str x _=>some (.str x)
 |.bytes b _=>some (.byt b)
 |.float b _=>some (.flt b)
 |.ref a=>some (.ref a)
 |.type n=>some (.ty n)
 |_=>none
theorem RelV.abs{x:V}{u:jg}(r:RelV x u):X9 u=some x:=by
 cases x with
 |non=>cases r;rfl
 |bl _=>cases r;rfl
 |int _=>obtain⟨t,rfl⟩:=r;rfl
 |str _=>obtain⟨t,rfl⟩:=r;rfl
 |byt _=>obtain⟨t,rfl⟩:=r;rfl
 |flt _=>obtain⟨t,rfl⟩:=r;rfl
 |ref _=>cases r;rfl
 |ty _=>cases r;rfl
theorem RelV.inj{x y:V}{u:jg}(r:RelV x u)(q:RelV y u):x=y:=Option.some.inj (r.abs.symm.trans q.abs)
theorem Vals.inj:∀{xs ys:LUz}{us:LWz},Vals xs us->Vals ys us->xs=ys
 |_,_,_,.nil,.nil=>rfl
 |_,_,_,.cons r t,.cons r' t'=>by rw[r.inj r',Vals.inj t t']
section
variable{X:Cx}{iZ:PNz}{σ:St}{H:Hp}{s:jf}{a:jd}{xs ys:LUz}
theorem SqL.of{K:jw}(h:H a=some (.lst xs)):SqL K H a xs:=.inl (.inl h)
theorem SqT.of{K:jw}(h:H a=some (.tup xs)):SqT K H a xs:=.inl (.inl h)
theorem Inv.list(I:Inv X iZ σ H s)(h:SqL X.K H a xs):∃its:LWz,Vals xs its/\PlainL s.heap a its.toArray/\xs.length<=jt:=by
 rcases h with h|⟨o,its,n,hk,hc,hd,hs,hz,r⟩
 .obtain⟨z,its,n,r,e⟩:=h.ok I.hok;exact⟨its,r,⟨_,n,e,rfl,rfl,rfl⟩,z⟩
 .refine⟨its.toList,r,⟨o,n,I.kIn a o hk,hc,hd,by simpa using hs⟩,?_⟩;have e:=r.length;simp only[aW]at e;lia
theorem Inv.tuple(I:Inv X iZ σ H s)(h:SqT X.K H a xs):∃its:LWz,Vals xs its/\IsTup s.heap a its.toArray/\xs.length<=jt:=by
 rcases h with h|⟨o,its,n,hk,hc,hs,hz,r⟩
 .obtain⟨z,its,r,p⟩:=h.ok I.hok;exact⟨its,r,p,z⟩
 .refine⟨its.toList,r,⟨o,I.kIn a o hk,hc,n,by simpa using hs⟩,?_⟩;have e:=r.length;simp only[aW]at e;lia
theorem Inv.list_inj(I:Inv X iZ σ H s)(h:SqL X.K H a xs)(h':SqL X.K H a ys):xs=ys:=by
 obtain⟨its,r,⟨o,n,e,_,_,d⟩,_⟩:=I.list h;obtain⟨its',r',⟨o',n',e',_,_,d'⟩,_⟩:=I.list h';rw[e]at e';cases e';rw[d]at d';injection d' with d1 _;have:its=its':=by simpa using congrArg Array.toList d1
 subst this;exact r.inj r'
theorem Inv.tuple_inj(I:Inv X iZ σ H s)(h:SqT X.K H a xs)(h':SqT X.K H a ys):xs=ys:=by
 obtain⟨its,r,⟨o,e,_,n,d⟩,_⟩:=I.tuple h;obtain⟨its',r',⟨o',e',_,n',d'⟩,_⟩:=I.tuple h';rw[e]at e';cases e';rw[d]at d';injection d' with d1 _;have:its=its':=by simpa using congrArg Array.toList d1
 subst this;exact r.inj r'
end
noncomputable abbrev Cx.wish(X:Cx)(E:VPz):Cx:={ X with xe:=E }
noncomputable abbrev Cx.nox(X:Cx):Cx:=X.wish λ_ _=>False
theorem Cx.Ok.wish{X:Cx}(ok:X.Ok)(E:VPz):(X.wish E).Ok :=
 ⟨ok.mod,ok.kind,ok.glob,ok.blt,ok.above,ok.inj,ok.has,ok.cab,ok.hd,ok.frames,ok.stk,ok.exf,ok.bs,ok.bsz,ok.noex,ok.exfs,ok.funs,ok.frf⟩
theorem Cx.Ok.unwish{X:Cx}{E:VPz}(ok:(X.wish E).Ok):X.Ok :=
 ⟨ok.mod,ok.kind,ok.glob,ok.blt,ok.above,ok.inj,ok.has,ok.cab,ok.hd,ok.frames,ok.stk,ok.exf,ok.bs,ok.bsz,ok.noex,ok.exfs,ok.funs,ok.frf⟩
section
variable{X:Cx}{iZ:PNz}{σ:St}{H:Hp}{s:jf}{E:VPz}
theorem Inv.wish(I:Inv X iZ σ H s)(E:VPz):Inv (X.wish E) iZ σ H s:=⟨I.ok.wish E,I.os,I.bare,I.ja,I.loc,I.cell,I.free,I.freeC,I.pin,I.hok,I.len⟩
theorem Inv.unwish(I:Inv (X.wish E) iZ σ H s):Inv X iZ σ H s:=⟨I.ok.unwish,I.os,I.bare,I.ja,I.loc,I.cell,I.free,I.freeC,I.pin,I.hok,I.len⟩
theorem SP.unwish{D:DA}{f:Flow}{s':jf}(h:SP (X.wish E) iZ D f s'):SP X iZ D f s':=by
 cases f with
 |next=>obtain⟨σ',H',I,q⟩:=h;exact⟨σ',H',I.unwish,q⟩
 |brk=>obtain⟨σ',H',I,q⟩:=h;exact⟨σ',H',I.unwish,q⟩
 |cont=>obtain⟨σ',H',I,q⟩:=h;exact⟨σ',H',I.unwish,q⟩
 |ret u=>obtain⟨v,σ',H',I,r,q⟩:=h;exact⟨v,σ',H',I.unwish,r,q⟩
theorem PSs.nox{st:List jE}{t:TS}(h:PSs X.nox st t):PSs X st t:=λ iZ s σ H D I hw =>
 jA (h iZ s σ H D (I.wish _) hw) (λ_ _ q=>q.unwish) λ_ _ z=>False.elim z
end
section
variable{X:Cx}{st:jE}{rest:List jE}{t u:TS}{e:jB}{te:TE}{pos:Pos}
noncomputable def Ut:TS:=λ D σ H=>D.nx σ H
noncomputable def UJ(t u:TS):TS:=λ D σ H=>t { D with nx:=u D } σ H
theorem A1:PSs X [] Ut:=λ_ _ σ H _ I h=>km ⟨σ,H,I,h⟩
theorem Ab(h1:PS X st t)(h2:PSs X rest u):PSs X (st::rest) (UJ t u):=by
 intro iZ s σ H D I h;refine lE (thn (h1 iZ s σ H { D with nx:=u D } I h) λ f s1 q=>?_);cases f with
 |next =>
  obtain⟨σ',H',I',q⟩:=q;exact h2 iZ s1 σ' H' D I' q
 |ret v=>exact q
 |brk=>exact q
 |cont=>exact q
theorem Af(h1:PS X st t):PSs X [st] t:=by
 intro iZ s σ H D I h;refine lE (thn (h1 iZ s σ H D I h) λ f s1 q=>?_);cases f with
 |next=>exact km q
 |ret v=>exact q
 |brk=>exact q
 |cont=>exact q
theorem Inv.quiet{iZ:PNz}{σ:St}{H:Hp}{s:jf}(I:Inv X iZ σ H s):interactive X.env=false:=by simp[interactive,I.ok.kind]
noncomputable def VU(te:TE):TS:=λ D σ H=>te σ H λ_ H1=>D.nx σ H1
theorem Bh(he:PE X e te)(hs:swapsWith e none pos.line X.env=pure false:=by rfl):PS X (.Expr e pos) (VU te):=by
 intro iZ s σ H D I h;exact wpAny_Expr_any (thn (he iZ s σ H _ I h) λ v s1 ⟨x,H1,I1,r1,q1⟩=>⟨σ,H1,I1,q1⟩) I.quiet hs
noncomputable def VO(te:TE):TS:=λ D σ H=>te σ H D.rt
theorem Am(he:PE X e te):PS X (.Return (some e) pos) (VO te):=by
 intro iZ s σ H D I h;exact wpAny_Return_some (thn (he iZ s σ H _ I h) λ v s1 ⟨x,H1,I1,r1,q1⟩=>⟨x,σ,H1,I1,r1,q1⟩)
noncomputable def VS(c:TT)(t u:TS):TS:=λ D σ H=>c σ H λ b H1=>if b=true then t D σ H1 else u D σ H1
theorem AK{c:jB}{a b:List jE}{tc:TT}(hc:PT X c tc)(ha:PSs X a t)(hb:PSs X b u):PS X (.If c a b pos) (VS tc t u):=by
 intro iZ s σ H D I h;refine wpAny_If (thn (hc iZ s σ H _ I h) λ d s1 hz_=>?_);obtain⟨H1,I1,q1⟩:=hz_;cases d with
 |true=>exact ha iZ s1 σ H1 D I1 q1
 |false=>exact hb iZ s1 σ H1 D I1 q1
noncomputable def UK:TS:=λ_ _ _=>False
theorem CY:PS X st UK:=λ_ _ _ _ _ _ h=>h.elim
end
noncomputable abbrev TG:=V->St->Hp->(St->Hp->Prop)->Prop
noncomputable abbrev TGs:=LUz->St->Hp->(St->Hp->Prop)->Prop
noncomputable def PG(X:Cx)(target:jB)(t:TG):Prop :=
 ∀(iZ:PNz)(s:jf)(σ:St)(H:Hp)(v:V)(u:jg)(Q:St->Hp->Prop),Inv X iZ σ H s->RelV v u->t v σ H Q ->
  jh (jm X.prog X.w) X.A (assign target X.env u) (λ_ s'=>∃σ' H',Inv X iZ σ' H' s'/\Q σ' H') X.xe s
noncomputable def PGs(X:Cx)(ts:List jB)(t:TGs):Prop :=
 ∀(iZ:PNz)(s:jf)(σ:St)(H:Hp)(vs:LUz)(us:LWz)(Q:St->Hp->Prop),Inv X iZ σ H s->Vals vs us->t vs σ H Q ->
  jh (jm X.prog X.w) X.A (assignInOrder ((assignEach ts X.env).map (·.2)) us) (λ_ s'=>∃σ' H',Inv X iZ σ' H' s'/\Q σ' H') X.xe s
noncomputable abbrev VE:=V->V->V->Hp->(Hp->Prop)->Prop
noncomputable def WP(X:Cx)(t:VE):Prop :=
 ∀(iZ:PNz)(s:jf)(σ:St)(H:Hp)(o i v:V)(ov iv u:jg)(Q:Hp->Prop),Inv X iZ σ H s->RelV o ov->RelV i iv->RelV v u->t o i v H Q ->
  jh (jm X.prog X.w) X.A (setItem ov iv u) (λ_ s'=>∃H',Inv X iZ σ H' s'/\Q H') X.xe s
noncomputable abbrev TIp:=V->V->Hp->VK->Prop
noncomputable def PIp(X:Cx)(op:Operator)(t:TIp):Prop :=
 ∀(iZ:PNz)(s:jf)(σ:St)(H:Hp)(x y:V)(v u:jg)(Q:VK),Inv X iZ σ H s->RelV x v->RelV y u->t x y H Q ->
  jh (jm X.prog X.w) X.A (inplaceOp op v u) (EP X iZ σ Q) X.xe s
section
variable{X:Cx}{pos:Pos}
noncomputable def E7(i:Nat):TG:=λ v σ H Q=>Q (σ.set i (some v)) H
theorem AR{i:Nat}{x:jD}(hN:X.N.Nodup)(hi:X.N[i]?=some x)(hx:Loc X.env.scope x)(hf:X.fn x=true\/X.env.scope.names.lookup x=some .local:=by first|exact .inl rfl|exact .inr rfl|assumption):PG X (.Name x pos) (E7 i):=by
 intro iZ s σ H v u Q I r h;exact wpAny_assign_Name (DC I hN hi hx r (λ s' I'=>⟨_,H,I',h⟩) hf)
theorem AW(i:Nat){x:jD}(hN:X.N.Nodup)(hi:X.N[i]?=some x:=by rfl)(hx:Loc X.env.scope x:=by exact bN rfl)(hf:X.fn x=true\/X.env.scope.names.lookup x=some .local:=by first|exact .inl rfl|exact .inr rfl|assumption):PG X (.Name x pos) (E7 i):=AR hN hi hx hf
noncomputable def X3:TGs:=λ vs σ H Q=>vs=[]/\Q σ H
noncomputable def W9(t:TG)(u:TGs):TGs:=λ vs σ H Q=>∃v r,vs=v::r/\t v σ H λ σ' H'=>u r σ' H' Q
theorem Bx:PGs X [] X3:=by
 intro iZ s σ H vs us Q I r h;obtain⟨e,h⟩:=h;subst e;cases r;exact assignInOrder_nil ⟨σ,H,I,h⟩
theorem A2{e:jB}{es:List jB}{t:TG}{u:TGs}(h1:PG X e t)(h2:PGs X es u)
  (hs:(assignEach (e::es) X.env).map (·.2)=assign e X.env::(assignEach es X.env).map (·.2):=by rfl):PGs X (e::es) (W9 t u):=by
 intro iZ s σ H vs us Q I r h;obtain⟨v,vr,e1,h⟩:=h;subst e1;cases r with
 |cons r rr =>
  rw[hs];refine assignInOrder_cons (thn (h1 iZ s σ H _ _ _ I r h) λ_ s1 hz_=>?_);obtain⟨σ1,H1,I1,q1⟩:=hz_;exact h2 iZ s1 σ1 H1 _ _ Q I1 rr q1
inductive U6(K:jw)(n:Nat)(t:TGs)(v:V)(σ:St)(H:Hp)(Q:St->Hp->Prop):Prop
 |mk (a:jd) (xs:LUz) (e:v=.ref a) (s:SqT K H a xs) (l:xs.length=n) (q:t xs σ H Q):U6 K n t v σ H Q
noncomputable def W8(K:jw)(n:Nat)(t:TGs):TG:=λ v σ H Q=>U6 K n t v σ H Q
theorem CO{es:List jB}{k:Nat}{t:TGs}{n:Nat}(hc:X.calm=true)(h:PGs X es t)
  (hn:(assignEach es X.env).length=n:=by rfl) (hst:(assignEach es X.env).findIdx? (·.1)=none:=by rfl):PG X (.Tuple es k pos) (W8 X.K n t):=by
 intro iZ s σ H v u Q I r hw;obtain⟨a,xs,e1,hq,hl,hw⟩:=hw;subst e1;cases r;obtain⟨its,rv,ht,hz⟩:=I.tuple hq;refine assign_Tuple_tuple (I.ok.hd hc) ht (by simp[hn,<-hl,rv.length]) hst λ h' hx=>?_;have I1:Inv X iZ σ H { s with heap:=h' }:=I.kept (t':=s.toks) λ b o e=>hx b o (aD (ak e)) e;exact h iZ _ σ H xs _ Q I1 (by simpa using rv) hw
noncomputable def P8(te:TE)(g:TG):TS:=λ D σ H=>te σ H λ x H1=>g x σ H1 D.nx
theorem N2{i:Nat}{x:jD}{e:jB}{te:TE}{pos':Pos}(hN:X.N.Nodup)(hi:X.N[i]?=some x)(hx:Loc X.env.scope x)(he:PE X e te)(hs:swapsWith e (some (.Name x pos')) pos.line X.env=pure false:=by rfl)(hf:X.fn x=true\/X.env.scope.names.lookup x=some .local:=by first|exact .inl rfl|exact .inr rfl|assumption) :
  PS X (.Assign [.Name x pos'] e pos) (P8 te (E7 i)):=by
 intro iZ s σ H D I h;refine wpAny_Assign_Name (thn (he iZ s σ H _ I h) λ v s1 hz_=>?_) hs;obtain⟨y,H1,I1,r1,q1⟩:=hz_;exact DC I1 hN hi hx r1 (λ s2 I2=>⟨_,H1,I2,q1⟩) hf
theorem Av(i:Nat){x:jD}{e:jB}{te:TE}{pos':Pos}(hN:X.N.Nodup)(he:PE X e te)(hi:X.N[i]?=some x:=by rfl)(hx:Loc X.env.scope x:=by exact bN rfl)(hs:swapsWith e (some (.Name x pos')) pos.line X.env=pure false:=by rfl)(hf:X.fn x=true\/X.env.scope.names.lookup x=some .local:=by first|exact .inl rfl|exact .inr rfl|assumption) :
  PS X (.Assign [.Name x pos'] e pos) (P8 te (E7 i)):=N2 hN hi hx he hs hf
noncomputable def Xf(i:Nat)(te:TE)(ti:TIp):TS:=λ D σ H=>∃x,σ[i]?=some (some x)/\te σ H λ y H1=>ti x y H1 λ z H2=>D.nx (σ.set i (some z)) H2
theorem C7{i:Nat}{x:jD}{e:jB}{te:TE}{op:Operator}{ti:TIp}{pos':Pos}(hN:X.N.Nodup)(hi:X.N[i]?=some x)(hx:Loc X.env.scope x)(he:PE X e te)(ho:PIp X op ti)(hf:X.fn x=true\/X.env.scope.names.lookup x=some .local:=by first|exact .inl rfl|exact .inr rfl|assumption) :
  PS X (.AugAssign (.Name x pos') op e pos) (Xf i te ti):=by
 intro iZ s σ H D I h;obtain⟨v,e1,h⟩:=h;obtain⟨m,hn,hl⟩:=I.loc;have vis:Vis X.env.scope x:=by rcases hx with k|k;exact .inl k;exact .inr (.inl k)
 obtain⟨u,r,l⟩:=hl i x v hi e1 vis;refine wpAny_AugAssign_Name ?_;have go:jh (jm X.prog X.w) X.A (eval e X.env) (λ w s₂=>jh (jm X.prog X.w) X.A (inplaceOp op u w) (λ r s₃=>jh (jm X.prog X.w) X.A (storeName X.env x r) (λ_=>SP X iZ D .next) X.xe s₃) X.xe s₂) X.xe s:=by
  refine thn (he iZ s σ H _ I h) λ w s1 hz_=>?_;obtain⟨y,H1,I1,r1,q1⟩:=hz_;refine thn (ho iZ s1 σ H1 v y u w _ I1 r r1 q1) λ z s2 hz_=>?_;obtain⟨zv,H2,I2,r2,q2⟩:=hz_;exact DC I2 hN hi hx r2 (λ s3 I3=>⟨_,H2,I3,q2⟩) hf
 rcases l with ⟨hk,hm⟩|⟨hk,c,hc,hcell⟩
 .exact wpAny_loadName_local I.ok.kind hk hn hm go
 .rcases hk with hk|hk
  .exact wpAny_loadName_cell I.ok.kind hk hc hcell go
  .rcases hx with k|k
   .have:X.env.scope.names.lookup x=some .free:=hk;rw[k]at this;cases this
   .have:X.env.scope.names.lookup x=some .free:=hk;rw[k]at this;cases this
noncomputable def VY(to ti te:TE)(tget:V->V->Hp->VK->Prop)(tip:TIp)(tset:VE):TS:=λ D σ H=>to σ H λ o H1=>ti σ H1 λ i H2=>tget o i H2 λ x H3=>te σ H3 λ y H4=>tip x y H4 λ z H5=>tset o i z H5 λ H6=>D.nx σ H6
noncomputable def WQ(X:Cx)(t:V->V->Hp->VK->Prop):Prop :=
 ∀(iZ:PNz)(s:jf)(σ:St)(H:Hp)(o i:V)(ov iv:jg)(Q:VK),Inv X iZ σ H s->RelV o ov->RelV i iv->t o i H Q ->
  jh (jm X.prog X.w) X.A (getItem ov iv) (EP X iZ σ Q) X.xe s
theorem Tv{o i e:jB}{to ti te:TE}{tget:V->V->Hp->VK->Prop}{tip:TIp}{tset:VE}{op:Operator}{tpos:Pos}(ho:PE X o to)(hi:PE X i ti)(hg:WQ X tget)(he:PE X e te)(hp:PIp X op tip)(hs:WP X tset)
    (ha:∀ov iv new,augStore i ov iv new=(do holding [new,ov,iv] (setItem ov iv new);release [new,ov,iv] [];pure .next):=by intros;rfl):PS X (.AugAssign (.Subscript o i tpos) op e pos) (VY to ti te tget tip tset):=by
  intro iZ s σ H D I h;refine wpAny_AugAssign_SubscriptAny (thn (ho iZ s σ H _ I h) λ ov s1 hz_=>?_) ha;obtain⟨x1,H1,I1,r1,q1⟩:=hz_;refine thn (hi iZ s1 σ H1 _ I1 q1) λ iv s2 hz_=>?_;obtain⟨x2,H2,I2,r2,q2⟩:=hz_;refine thn (hg iZ s2 σ H2 x1 x2 ov iv _ I2 r1 r2 q2) λ old s3 hz_=>?_;obtain⟨x3,H3,I3,r3,q3⟩:=hz_;refine thn (he iZ s3 σ H3 _ I3 q3) λ v s4 hz_=>?_;obtain⟨x4,H4,I4,r4,q4⟩:=hz_;refine thn (hp iZ s4 σ H4 x3 x4 old v _ I4 r3 r4 q4) λ new s5 hz_=>?_;obtain⟨x5,H5,I5,r5,q5⟩:=hz_;exact thn (hs iZ s5 σ H5 x1 x2 x5 ov iv new _ I5 r1 r2 r5 q5) λ_ s6 ⟨H6,I6,q6⟩=>⟨σ,H6,I6,q6⟩
noncomputable def ipI(f:Int->Int->Int):TIp:=λ x y H Q=>∃i j,x=.int i/\y=.int j/\Q (.int (f i j)) H
theorem Dv:PIp X .Add (ipI λ i j=>i+j):=by
 intro iZ s σ H x y v u Q I r1 r2 h;obtain⟨i,j,e1,e2,q⟩:=h;subst e1;subst e2;obtain⟨t,rfl⟩:=r1;obtain⟨t',rfl⟩:=r2;exact iadd_int ⟨.int _,H,I.tok _,⟨_,rfl⟩,q⟩
theorem NR:PIp X .Sub (ipI λ i j=>i-j):=by
 intro iZ s σ H x y v u Q I r1 r2 h;obtain⟨i,j,e1,e2,q⟩:=h;subst e1;subst e2;obtain⟨t,rfl⟩:=r1;obtain⟨t',rfl⟩:=r2;exact isub_int ⟨.int _,H,I.tok _,⟨_,rfl⟩,q⟩
noncomputable def UH(c:TT)(tb:TS):TS:=λ D σ H=>∃W:Nat->St->Hp->Prop,(∃m,W m σ H)/\∀m σ H,W m σ H ->
 c σ H λ b H1=>if b=true then ∃N:St->Hp->Prop,(∀σ' H',N σ' H'->∃m',m'<m/\W m' σ' H')/\tb { D with nx:=N,ct:=N,bk:=D.nx } σ H1 else D.nx σ H1
theorem Ij{c:jB}{body:List jE}{tc:TT}{tb:TS}(hp:PassesOwn (jm X.prog X.w) X.A X.env X.xe)(hc:PT X c tc)(hb:PSs X body tb):PS X (.While c body [] pos) (UH tc tb):=by
 intro iZ s σ H D I h;obtain⟨W,⟨m0,w0⟩,turn⟩:=h;refine wpAny_While (codeAny_whileLoop (λ n s'=>∃σ' H',Inv X iZ σ' H' s'/\W n σ' H') ?_ m0 ⟨σ,H,I,w0⟩);rintro n s1 ⟨σ1,H1,I1,w1⟩;refine j6 hp (thn (hc iZ s1 σ1 H1 _ I1 (turn n σ1 H1 w1)) λ b s2 hz_=>?_);obtain⟨H2,I2,q2⟩:=hz_;cases b with
 |true =>
  obtain⟨N,hN,q2⟩:=q2;rw[jo rfl];refine j6 hp (thn (hb iZ s2 σ1 H2 _ I2 q2) λ f s3 q3=>?_);cases f with
  |next =>
   obtain⟨σ3,H3,I3,n3⟩:=q3;obtain⟨m',hm,w3⟩:=hN σ3 H3 n3;exact⟨m',hm,σ3,H3,I3,w3⟩
  |cont =>
   obtain⟨σ3,H3,I3,n3⟩:=q3;obtain⟨m',hm,w3⟩:=hN σ3 H3 n3;exact⟨m',hm,σ3,H3,I3,w3⟩
  |brk=>exact q3
  |ret v=>exact q3
 |false =>
  rw[jj aq];exact km ⟨σ1,H2,I2,q2⟩
end
structure It where
 go:Nat->Hp->Prop
 yld:Nat->Hp->V->Hp->Prop
 stop:Nat->Hp->Prop
noncomputable def Fq(X:Cx)(iZ:PNz)(H:Hp)(b:jd):Prop :=
 H b=none/\b≠X.env.locals/\b∉X.fs/\(b∈X.ex\/X.s₀.heap.objs.size<=b)/\(∀x c,X.env.cells.lookup x=some c->c≠b)/\∀p∈X.pn++iZ,p.1≠b
theorem Inv.fpOk{X:Cx}{iZ:PNz}{σ:St}{H H':Hp}{s:jf}{b:jd}(I:Inv X iZ σ H s)(hb:s.heap.objs.size<=b)(hn:H' b=none):Fq X iZ H' b:=by
 refine⟨hn,db (aK I.lt hb),I.nofs hb,.inr (aV I.sz hb),λ x c e z=>?_,λ p hp z=>?_⟩
 .obtain⟨v,q⟩:=I.cell x c e;exact absurd (aK q.lt (by rw[z];exact hb)) (bG _)
 .exact absurd (aK (ak (I.pin p hp).1) (by rw[z];exact hb)) (bG _)
structure MV(P:jk)(w:ju)(K:jw)(tg:jB)(J:It)(fp:List jd)(it:jd)(tn:Nat->jy->Prop):Prop where
 mem:it∈fp
 obj:∀i h,tn i h->∀b∈fp,∃o,h.get? b=some o/\∀v,o.data≠.cell v
 keep:∀i h h',tn i h->(∀b∈fp,∀o,h.get? b=some o->h'.get? b=some o)->tn i h'
 item:∀(X:Cx),X.prog=P->X.w=w->X.K=K->X.calm=true->∀(i:Nat)(iZ:PNz)(s:jf)(σ:St)(H:Hp)(E:VPz),Inv X iZ σ H s->(∀b∈fp,Fq X iZ H b)->tn i s.heap->J.go i H ->
  jh (jm P w) X.A (pyNext (.ref it)) (λ r s1=>∃u,r=some u /\
   jh (jm P w) X.A (letOwnedTupleGo tg (.ref it) u) (λ_ s2=>∃x H',Inv X iZ σ H' s2/\RelV x u/\J.yld i H x H'/\tn (i+1) s2.heap/\∀b∈fp,H' b=none) E s1) E s
 done:∀(X:Cx),X.prog=P->X.w=w->X.K=K->X.calm=true->∀(i:Nat)(iZ:PNz)(s:jf)(σ:St)(H:Hp)(E:VPz),Inv X iZ σ H s->(∀b∈fp,Fq X iZ H b)->tn i s.heap->J.stop i H ->
  jh (jm P w) X.A (pyNext (.ref it)) (λ r s1=>r=none/\Inv X iZ σ H s1) E s
 self:∀(A:jx)(i:Nat)(s:jf)(Q:VPz)(E:VPz),tn i s.heap->Q (.ref it) s->jh (jm P w) A (pyIter (.ref it)) Q E s
noncomputable abbrev TI:=St->Hp->(It->Hp->Prop)->Prop
noncomputable def PIE(X:Cx)(iZ:PNz)(σ:St)(tg:jB)(R:It->Hp->Prop)(itv:jg)(s2:jf):Prop :=
 ∃(it:jd)(fp:List jd)(tn:Nat->jy->Prop)(J:It)(H':Hp),itv=.ref it/\Inv X iZ σ H' s2/\MV X.prog X.w X.K tg J fp it tn/\tn 0 s2.heap/\(∀b∈fp,Fq X iZ H' b)/\R J H'
noncomputable def PI(X:Cx)(tg iter:jB)(wi:TI):Prop :=
 ∀(iZ:PNz)(s:jf)(σ:St)(H:Hp)(R:It->Hp->Prop),Inv X iZ σ H s->wi σ H R ->
  jh (jm X.prog X.w) X.A (eval iter X.env) (λ v s1=>jh (jm X.prog X.w) X.A (pyIter v) (PIE X iZ σ tg R) X.xe s1) X.xe s
theorem OT{M:Model}{A:jx}{E:VPz}{s:jf}{tg:jB}{it:jd}{u:jg}{o:Obj}{n:String}{vs:Array jg}{Q:Unit->jf->Prop}(ho:s.heap.get? it=some o)(hc:o.cls=.type n)(hd:o.data=.fields vs)
    (hn:["enumerate","zip","dict_itemiterator","dict_reverseitemiterator","odict_iterator","itertools.zip_longest","itertools.pairwise"].contains n=false) (hQ:Q () s):jh M A (letOwnedTupleGo tg (.ref it) u) Q E s:=by
  unfold letOwnedTupleGo;cases tg<;>first
    |exact je hQ
    | (cases u<;>first
        |exact je hQ
        | (refine jc (wpAny_load ho ?_)
           rw[hc,hd];show jh M A (if (["enumerate","zip","dict_itemiterator","dict_reverseitemiterator","odict_iterator","itertools.zip_longest","itertools.pairwise"].contains n&&vs[0]?==some (jR _))=true then _ else _) Q E s;rw[jj (by intro h;rw[hn,Bool.false_and]at h;cases h)];exact je hQ))
noncomputable def Itl(K:jw)(a:jd):It :=
 ⟨λ i H=>∃xs x,SqL K H a xs/\xs[i]?=some x,λ i H x H'=>H'=H/\∀xs,SqL K H a xs->xs[i]?=some x,λ i H=>∃xs,SqL K H a xs/\xs.length<=i⟩
noncomputable def Itt(K:jw)(a:jd):It :=
 ⟨λ i H=>∃xs x,SqT K H a xs/\xs[i]?=some x,λ i H x H'=>H'=H/\∀xs,SqT K H a xs->xs[i]?=some x,λ i H=>∃xs,SqT K H a xs/\xs.length<=i⟩
noncomputable def Itr(lo:Int)(n:Nat):It:=⟨λ i _=>i<n,λ i H x H'=>H'=H/\x=.int (lo+i),λ i _=>n<=i⟩
theorem P3{P:jk}{w:ju}{K:jw}{tg:jB}(a it:jd):MV P w K tg (Itl K a) [it] it (λ i h=>h.IsListIter it a i) where
 mem:=by simp
 obj:=λ i h st b hb=>by
  have e:b=it:=by simpa using hb
  subst e;obtain⟨o,e,c,d⟩:=st;exact⟨o,e,λ v z=>by rw[d]at z;cases z⟩
 keep:=λ i h h' st k=>st.at λ o e=>k it (by simp) o e
 item:=by
  intro X hP hw hK hc i iZ s σ H E I hf st hg;subst hP hw hK;obtain⟨xs,x,hq,hx⟩:=hg;obtain⟨its,rv,p,hz⟩:=I.list hq;obtain⟨u,hu,ru⟩:=rv.get hx;obtain⟨f0,f1,f2,f3,f4,f5⟩:=hf it (by simp);refine wpAny_pyNext_list_item st p.isList (x:=u) (by simpa using hu) λ h' st' sb=>?_;have I1:Inv X iZ σ H { s with heap:=h' }:=I.turned (t':=s.toks) (λ b o hb e=>(sb.2 b hb).trans e) f0 f1 f3 f4 f5;obtain⟨o,e,c,d⟩:=id st';exact⟨u,rfl,OT (s:={ s with heap:=h' }) e c d (by decide) ⟨x,H,I1,ru,⟨rfl,λ ys hy=>by rw[I.list_inj hy hq];exact hx⟩,st',λ b hb=>(hf b hb).1⟩⟩
 done:=by
  intro X hP hw hK hc i iZ s σ H E I hf st hg;subst hP hw hK;obtain⟨xs,hq,hx⟩:=hg;obtain⟨its,rv,p,hz⟩:=I.list hq;obtain⟨f0,f1,f2,f3,f4,f5⟩:=hf it (by simp);have hl:=rv.length;exact wpAny_pyNext_list_end (I.ok.hd hc) st p.isList (by simp;lia) λ h' eb=>⟨rfl,I.turned (t':=s.toks) (λ b o hb e=>eb b o hb e) f0 f1 f3 f4 f5⟩
 self:=λ_ _ _ _ _ st h=>wpAny_pyIter_listiter st h
theorem Nk{P:jk}{w:ju}{K:jw}{tg:jB}(a it:jd):MV P w K tg (Itt K a) [it] it (λ i h=>h.IsTupleIter it a i) where
 mem:=by simp
 obj:=λ i h st b hb=>by
  have e:b=it:=by simpa using hb
  subst e;obtain⟨o,e,c,d⟩:=st;exact⟨o,e,λ v z=>by rw[d]at z;cases z⟩
 keep:=λ i h h' st k=>st.at λ o e=>k it (by simp) o e
 item:=by
  intro X hP hw hK hc i iZ s σ H E I hf st hg;subst hP hw hK;obtain⟨xs,x,hq,hx⟩:=hg;obtain⟨its,rv,p,hz⟩:=I.tuple hq;obtain⟨u,hu,ru⟩:=rv.get hx;obtain⟨f0,f1,f2,f3,f4,f5⟩:=hf it (by simp);refine wpAny_pyNext_tuple_item st (show s.heap.IsTuple a its.toArray from p) (x:=u) (by simpa using hu) λ h' st' sb=>?_;have I1:Inv X iZ σ H { s with heap:=h' }:=I.turned (t':=s.toks) (λ b o hb e=>(sb.2 b hb).trans e) f0 f1 f3 f4 f5;obtain⟨o,e,c,d⟩:=id st';exact⟨u,rfl,OT (s:={ s with heap:=h' }) e c d (by decide) ⟨x,H,I1,ru,⟨rfl,λ ys hy=>by rw[I.tuple_inj hy hq];exact hx⟩,st',λ b hb=>(hf b hb).1⟩⟩
 done:=by
  intro X hP hw hK hc i iZ s σ H E I hf st hg;subst hP hw hK;obtain⟨xs,hq,hx⟩:=hg;obtain⟨its,rv,p,hz⟩:=I.tuple hq;obtain⟨f0,f1,f2,f3,f4,f5⟩:=hf it (by simp);have hl:=rv.length;exact wpAny_pyNext_tuple_end (I.ok.hd hc) st (show s.heap.IsTuple a its.toArray from p) (by simp;lia) λ h' eb=>⟨rfl,I.turned (t':=s.toks) (λ b o hb e=>eb b o hb e) f0 f1 f3 f4 f5⟩
 self:=λ_ _ _ _ _ st h=>wpAny_pyIter_tupleiter st h
theorem Nl{P:jk}{w:ju}{K:jw}{tg:jB}(it:jd)(lo:Int)(n:Nat):MV P w K tg (Itr lo n) [it] it (λ i h=>IsRangeIter h it (lo+(i:Nat)*1) ((n:Int)-(i:Nat)) 1) where
 mem:=by simp
 obj:=λ i h st b hb=>by
  have e:b=it:=by simpa using hb
  subst e;exact⟨_,st,λ v z=>by
   have z':Data.fields _=Data.cell v:=z;cases z'⟩
 keep:=λ i h h' st k=>k it (by simp) _ st
 item:=by
  intro X hP hw hK hc i iZ s σ H E I hf st hg;subst hP hw hK;obtain⟨f0,f1,f2,f3,f4,f5⟩:=hf it (by simp);have W:=Walks.range (prog:=X.prog) (w:=X.w) (I.ok.hd hc) it lo 1 n;refine W.item i s _ _ hg st λ v h' tk hv st' kk=>?_;obtain⟨t,rfl⟩:=hv;have I1:Inv X iZ σ H { s with heap:=h',toks:=tk }:=I.turned (λ b o hb e=>kk b o (by simpa using hb) e) f0 f1 f3 f4 f5;refine⟨_,rfl,OT (s:={ s with heap:=h',toks:=tk }) (n:="range_iterator") st' rfl rfl (by decide) ⟨.int (lo+i),H,I1,⟨t,?_⟩,⟨rfl,rfl⟩,st',λ b hb=>(hf b hb).1⟩⟩;rw[Int.mul_one]
 done:=by
  intro X hP hw hK hc i iZ s σ H E I hf st hg;subst hP hw hK;obtain⟨f0,f1,f2,f3,f4,f5⟩:=hf it (by simp);exact wpAny_pyNext_range_end (I.ok.hd hc) st (by have:n<=i:=hg;lia) λ h' eb=>⟨rfl,I.turned (t':=s.toks) (λ b o hb e=>eb b o hb e) f0 f1 f3 f4 f5⟩
 self:=λ_ _ _ _ _ st h=>wpAny_pyIter_rangeiter st h
section
variable{X:Cx}{tg:jB}
inductive VH(x:V)(S Q:jd->Prop):Prop
 |mk (a:jd) (e:x=.ref a) (s:S a) (q:Q a):VH x S Q
noncomputable def MG(K:jw)(tl:TE):TI:=λ σ H R=>tl σ H λ x H1=>VH x (λ a=>∃xs,SqL K H1 a xs) λ a=>R (Itl K a) H1
noncomputable def X1(K:jw)(tl:TE):TI:=λ σ H R=>tl σ H λ x H1=>VH x (λ a=>∃xs,SqT K H1 a xs) λ a=>R (Itt K a) H1
theorem A6{l:jB}{tl:TE}(hl:PE X l tl):PI X tg l (MG X.K tl):=by
 intro iZ s σ H R I h;refine thn (hl iZ s σ H _ I h) λ v s1 hz_=>?_;obtain⟨x,H1,I1,r1,q1⟩:=hz_;obtain⟨a,e,⟨xs,hq⟩,q⟩:=q1;subst e;cases r1;obtain⟨its,rv,p,hz⟩:=I1.list hq;refine kI p.isList ?_;refine⟨s1.heap.objs.size,[s1.heap.objs.size],_,_,H1,rfl,I1.kept (t':=s1.toks) λ b o e=>ae _ e,P3 a _,⟨_,ar _ rfl,rfl,rfl⟩,λ b hb=>?_,q⟩;have e:b=s1.heap.objs.size:=by simpa using hb
 subst e;exact I1.fpOk (ah _) (I1.hok.fresh (ah _))
theorem N3{l:jB}{tl:TE}(hl:PE X l tl):PI X tg l (X1 X.K tl):=by
 intro iZ s σ H R I h;refine thn (hl iZ s σ H _ I h) λ v s1 hz_=>?_;obtain⟨x,H1,I1,r1,q1⟩:=hz_;obtain⟨a,e,⟨xs,hq⟩,q⟩:=q1;subst e;cases r1;obtain⟨its,rv,p,hz⟩:=I1.tuple hq;refine wpAny_pyIter_tuple (show s1.heap.IsTuple a its.toArray from p) ?_;refine⟨s1.heap.objs.size,[s1.heap.objs.size],_,_,H1,rfl,I1.kept (t':=s1.toks) λ b o e=>ae _ e,Nk a _,⟨_,ar _ rfl,rfl,rfl⟩,λ b hb=>?_,q⟩;have e:b=s1.heap.objs.size:=by simpa using hb
 subst e;exact I1.fpOk (ah _) (I1.hok.fresh (ah _))
theorem Me{iZ:PNz}{σ:St}{H:Hp}{s:jf}{R:It->Hp->Prop}{E:VPz}{lo hi:Int}{t u v:kH}{tk:Nat}(I:Inv X iZ σ H s)(h1:-(2^62)<=lo)(h2:lo<2^62)(h3:-(2^62)<=hi)(h4:hi<2^62)
  (q:R (Itr lo (hi-lo).toNat) H):jh (jm X.prog X.w) X.A (pyIter (.ref s.heap.objs.size)) (PIE X iZ σ tg R) E { s with heap:=s.heap.push { cls:=.type "range",data:=.fields #[.int lo t,.int hi u,.int 1 v] },toks:=tk }:=by
 refine wpAny_pyIter_range (IsRange.new ..) (small_one h1 h2 h3 h4) ?_;have I1:Inv X iZ σ H { s with heap:=s.heap.push { cls:=.type "range",data:=.fields #[.int lo t,.int hi u,.int 1 v] },toks:=tk }:=I.kept λ b o e=>ae _ e;refine⟨(s.heap.push { cls:=.type "range",data:=.fields #[.int lo t,.int hi u,.int 1 v] }).objs.size,[(s.heap.push { cls:=.type "range",data:=.fields #[.int lo t,.int hi u,.int 1 v] }).objs.size],_,_,H,rfl,
  I1.kept (t':=tk) λ b o e=>ae _ e,Nl _ lo (hi-lo).toNat,?_,λ b hb=>?_,q⟩
 .have e1:lo+((0:Nat):Int)*1=lo:=by simp
  have e2:(((hi-lo).toNat:Nat):Int)-((0:Nat):Int)=Builtin.Range.rangeSize lo hi 1:=by rw[rangeSize_one];split<;>lia
  show IsRangeIter _ _ (lo+((0:Nat):Int)*1) ((((hi-lo).toNat:Nat):Int)-((0:Nat):Int)) 1;rw[e1,e2];exact ar _ rfl
 .have e:b=(s.heap.push { cls:=.type "range",data:=.fields #[.int lo t,.int hi u,.int 1 v] }).objs.size:=by simpa using hb
  subst e;exact I1.fpOk (ah _) (I1.hok.fresh (ah _))
inductive U7(vs:LUz)(R:Int->Prop):Prop
 |mk (j:Int) (e:vs=[.int j]) (l:-(2^62)<=j) (h:j<2^62) (q:R j):U7 vs R
noncomputable def W5(ta:TA):TI:=λ σ H R=>ta σ H λ vs H1=>U7 vs λ j=>R (Itr 0 j.toNat) H1
noncomputable def W4(ta:TA):TI:=λ σ H R=>ta σ H λ vs H1=>∃i j:Int,vs=[.int i,.int j]/\(-(2^62)<=i/\i<2^62/\-(2^62)<=j/\j<2^62)/\R (Itr i (j-i).toNat) H1
theorem CZ{a:jB}{ta:TA}{p pos:Pos}(hg:Gl X "range")(hm:X.mg "range"=none)(ha:PA X [a] ta)(hs:jv [a] X.env=[(false,eval a X.env)]:=by rfl):PI X tg (.Call (.Name "range" p) [a] [] pos) (W5 ta):=by
 intro iZ s σ H R I h;refine Call_ (BS I hg hm boot_range (PyProof.Rows.callWith_type1 (thn (ha pos iZ s σ H _ I h) λ us s1 hz_=>?_) hs rfl));obtain⟨vs,H1,I1,r1,q1⟩:=hz_;obtain⟨j,e,q1,q2,q⟩:=q1;subst e;cases r1 with
 |cons r rr =>
  cases rr;obtain⟨t,rfl⟩:=r;exact call_range_1 (Me I1 (by lia) (by lia) q1 q2 (by simpa using q))
theorem Bm{a b:jB}{ta:TA}{p pos:Pos}(hg:Gl X "range")(hm:X.mg "range"=none)(ha:PA X [a,b] ta)(hs:jv [a,b] X.env=[(false,eval a X.env),(false,eval b X.env)]:=by rfl)(hs2:jv [b] X.env=[(false,eval b X.env)]:=by rfl) :
  PI X tg (.Call (.Name "range" p) [a,b] [] pos) (W4 ta):=by
 intro iZ s σ H R I h;refine Call_ (BS I hg hm boot_range (PyProof.Rows.callWith_type1 (thn (ha pos iZ s σ H _ I h) λ us s1 hz_=>?_) (by rw[hs,hs2]) (by rw[hs2];rfl)));obtain⟨vs,H1,I1,r1,q1⟩:=hz_;obtain⟨i,j,e,⟨q1,q2,q3,q4⟩,q⟩:=q1;subst e;cases r1 with
 |cons r rr =>
  cases rr with
  |cons r' rr =>
   cases rr;obtain⟨t,rfl⟩:=r;obtain⟨t',rfl⟩:=r';exact call_range_2 (Me I1 q1 q2 q3 q4 q)
noncomputable def VT(wi:TI)(g:TG)(tb:TS):TS:=λ D σ H=>wi σ H λ J H1=>∃W:Nat->Nat->St->Hp->Prop,(∃m,W 0 m σ H1)/\∀i m σ H,W i m σ H ->
 (J.stop i H/\D.nx σ H)\/(J.go i H/\∃N:St->Hp->Prop,(∀σ' H',N σ' H'->∃m',m'<m/\W (i+1) m' σ' H')/\∀x H',J.yld i H x H'->g x σ H' λ σ2 H2=>tb { D with nx:=N,ct:=N,bk:=D.nx } σ2 H2)
noncomputable def Lh(fp:List jd)(h:jy):PNz:=fp.filterMap λ b=>(h.get? b).map λ o=>(b,o)
theorem AX{fp:List jd}{h:jy}{b:jd}{o:Obj}(hb:b∈fp)(e:h.get? b=some o):(b,o)∈Lh fp h:=List.mem_filterMap.mpr ⟨b,hb,by rw[e];rfl⟩
theorem Qe{fp:List jd}{h:jy}{p:jd×Obj}(hp:p∈Lh fp h):p.1∈fp/\h.get? p.1=some p.2:=by
 obtain⟨b,hb,e⟩:=List.mem_filterMap.mp hp;cases q:h.get? b with
 |none=>rw[q]at e;cases e
 |some o =>
  rw[q]at e;have e':(b,o)=p:=Option.some.inj e;subst e';exact⟨hb,q⟩
theorem Inv.pinned{iZ:PNz}{σ:St}{H:Hp}{s:jf}{fp:List jd}(I:Inv X iZ σ H s)(hf:∀b∈fp,Fq X iZ H b)(ho:∀b∈fp,∃o,s.heap.get? b=some o/\∀v,o.data≠.cell v):Inv X (iZ++Lh fp s.heap) σ H s :=
 I.pins_of λ p hp=>(az.mp hp).elim (λ z=>I.pin p (av _ z)) λ z=>by
  obtain⟨hb,e⟩:=Qe z;obtain⟨f0,f1,f2,_⟩:=hf p.1 hb;obtain⟨o,e',d⟩:=ho p.1 hb;rw[e]at e';cases e';exact⟨e,f0,f1,f2,d⟩
theorem Inv.unpinned{iZ pl:PNz}{σ:St}{H:Hp}{s:jf}(I:Inv X (iZ++pl) σ H s):Inv X iZ σ H s:=I.pins_of λ p hp=>I.pin p (av _ (bB _ hp))
theorem AE{iter:jB}{body:List jE}{wi:TI}{g:TG}{tb:TS}{pos:Pos}(hp:PassesOwn (jm X.prog X.w) X.A X.env X.xe)(hc:X.calm=true)(hi:PI X tg iter wi)(hg:PG X tg g)(hb:PSs X body tb)
  (hs:∀x,foldedSetIterable iter X.env x=pure x:=by intro _;rfl):PS X (.For tg iter body [] pos) (VT wi g tb):=by
 intro iZ s σ H D I h;refine wpAny_For (thn (hi iZ s σ H _ I h) λ v s1 h1=>thn h1 λ itv s2 h2=>?_) hs;obtain⟨it,fp,tn,J,H2,e,I2,T,st2,f2,W,⟨m0,w0⟩,turn⟩:=h2;subst e;have stat:∀{H':Hp},(∀b∈fp,H' b=none)->∀b∈fp,Fq X iZ H' b:=λ hn b hb=>⟨hn b hb,(f2 b hb).2⟩;refine codeAny_forLoop_any (λ n s'=>∃i σ' H',Inv X iZ σ' H' s'/\tn i s'.heap/\(∀b∈fp,H' b=none)/\W i n σ' H') ?_ m0 ⟨0,σ,H2,I2,st2,λ b hb=>(f2 b hb).1,w0⟩;rintro n s3 ⟨i,σ3,H3,I3,st3,fr3,w3⟩;rcases turn i n σ3 H3 w3 with ⟨stop,qn⟩|⟨go,N,hN,step⟩
 .refine j6 hp (thn (T.done X rfl rfl rfl hc i iZ s3 σ3 H3 X.xe I3 (stat fr3) st3 stop) λ r s4 hz_=>?_);obtain⟨hr,I4⟩:=hz_;subst hr;exact km ⟨σ3,H3,I4,qn⟩
 .refine j6 hp (thn (T.item X rfl rfl rfl hc i iZ s3 σ3 H3 X.xe I3 (stat fr3) st3 go) λ r s4 hz_=>?_);obtain⟨u,hr,h4⟩:=hz_;subst hr;refine j6 hp (thn h4 λ_ s5 hz_=>?_);obtain⟨x,H5,I5,r5,y5,st5,fr5⟩:=hz_;have I5':=I5.pinned (stat fr5) (T.obj _ _ st5);refine j6 hp (thn (hg _ s5 σ3 H5 x u _ I5' r5 (step x H5 y5)) λ_ s6 hz_=>?_);obtain⟨σ6,H6,I6,q6⟩:=hz_;refine j6 hp (thn (hb _ s6 σ6 H6 _ I6 q6) λ f s7 q7=>?_);have again:∀{σ7:St}{H7:Hp},Inv X (iZ++Lh fp s5.heap) σ7 H7 s7->N σ7 H7->∃m,m<n/\∃i σ' H',Inv X iZ σ' H' s7/\tn i s7.heap/\(∀b∈fp,H' b=none)/\W i m σ' H':=λ{σ7 H7} I7 n7=>by
   obtain⟨m',hm,w7⟩:=hN σ7 H7 n7;refine⟨m',hm,i+1,σ7,H7,I7.unpinned,T.keep _ _ _ st5 λ b hb o e=>(I7.pin (b,o) (av _ (av _ (AX hb e)))).1,λ b hb=>?_,w7⟩;obtain⟨o,e,d⟩:=T.obj _ _ st5 b hb;exact(I7.pin (b,o) (av _ (av _ (AX hb e)))).2.1
  cases f with
  |next=>obtain⟨σ7,H7,I7,n7⟩:=q7;exact again I7 n7
  |cont=>obtain⟨σ7,H7,I7,n7⟩:=q7;exact again I7 n7
  |brk=>obtain⟨σ7,H7,I7,q7⟩:=q7;exact⟨σ7,H7,I7.unpinned,q7⟩
  |ret v=>obtain⟨x7,σ7,H7,I7,r7,q7⟩:=q7;exact⟨x7,σ7,H7,I7.unpinned,r7,q7⟩
end
theorem Bu{K:jw}{a:jd}{xs:LUz}{g:TG}{tb:TS}{D:DA}{σ:St}{H:Hp}(Pv:Nat->St->Hp->Prop)(h0:Pv 0 σ H)(hl:∀i σ H,i<=xs.length->Pv i σ H->SqL K H a xs)
  (hs:∀i x σ H,xs[i]?=some x->Pv i σ H->g x σ H λ σ2 H2=>tb { D with nx:=Pv (i+1),ct:=Pv (i+1),bk:=D.nx } σ2 H2) (hd:∀σ H,Pv xs.length σ H->D.nx σ H) :
  ∃W:Nat->Nat->St->Hp->Prop,(∃m,W 0 m σ H)/\∀i m σ H,W i m σ H ->
   ((Itl K a).stop i H/\D.nx σ H)\/((Itl K a).go i H/\∃N:St->Hp->Prop,(∀σ' H',N σ' H'->∃m',m'<m/\W (i+1) m' σ' H')/\∀x H',(Itl K a).yld i H x H'->g x σ H' λ σ2 H2=>tb { D with nx:=N,ct:=N,bk:=D.nx } σ2 H2):=by
 refine⟨λ i m σ H=>m=xs.length-i/\i<=xs.length/\Pv i σ H,⟨xs.length,by simp,aP _,h0⟩,?_⟩;rintro i m σ H ⟨rfl,hi,p⟩;have q:=hl i σ H hi p;by_cases hlt:i<xs.length
 .refine .inr ⟨⟨xs,xs[i],q,by simp[hlt]⟩,Pv (i+1),λ σ' H' p'=>⟨xs.length-(i+1),by lia,rfl,hlt,p'⟩,λ x H' y=>?_⟩;obtain⟨e,y⟩:=y;subst e;exact hs i x σ _ (y xs q) p
 .have e:i=xs.length:=by lia
  subst e;exact .inl ⟨⟨xs,q,ah _⟩,hd σ H p⟩
theorem OU{K:jw}{a:jd}{xs:LUz}{g:TG}{tb:TS}{D:DA}{σ:St}{H:Hp}(Pv:Nat->St->Hp->Prop)(h0:Pv 0 σ H)(hl:∀i σ H,i<=xs.length->Pv i σ H->SqT K H a xs)
  (hs:∀i x σ H,xs[i]?=some x->Pv i σ H->g x σ H λ σ2 H2=>tb { D with nx:=Pv (i+1),ct:=Pv (i+1),bk:=D.nx } σ2 H2) (hd:∀σ H,Pv xs.length σ H->D.nx σ H) :
  ∃W:Nat->Nat->St->Hp->Prop,(∃m,W 0 m σ H)/\∀i m σ H,W i m σ H ->
   ((Itt K a).stop i H/\D.nx σ H)\/((Itt K a).go i H/\∃N:St->Hp->Prop,(∀σ' H',N σ' H'->∃m',m'<m/\W (i+1) m' σ' H')/\∀x H',(Itt K a).yld i H x H'->g x σ H' λ σ2 H2=>tb { D with nx:=N,ct:=N,bk:=D.nx } σ2 H2):=by
 refine⟨λ i m σ H=>m=xs.length-i/\i<=xs.length/\Pv i σ H,⟨xs.length,by simp,aP _,h0⟩,?_⟩;rintro i m σ H ⟨rfl,hi,p⟩;have q:=hl i σ H hi p;by_cases hlt:i<xs.length
 .refine .inr ⟨⟨xs,xs[i],q,by simp[hlt]⟩,Pv (i+1),λ σ' H' p'=>⟨xs.length-(i+1),by lia,rfl,hlt,p'⟩,λ x H' y=>?_⟩;obtain⟨e,y⟩:=y;subst e;exact hs i x σ _ (y xs q) p
 .have e:i=xs.length:=by lia
  subst e;exact .inl ⟨⟨xs,q,ah _⟩,hd σ H p⟩
theorem AT{lo:Int}{n:Nat}{g:TG}{tb:TS}{D:DA}{σ:St}{H:Hp}(Pv:Nat->St->Hp->Prop)(h0:Pv 0 σ H)
  (hs:∀i σ H,i<n->Pv i σ H->g (.int (lo+i)) σ H λ σ2 H2=>tb { D with nx:=Pv (i+1),ct:=Pv (i+1),bk:=D.nx } σ2 H2) (hd:∀σ H,Pv n σ H->D.nx σ H) :
  ∃W:Nat->Nat->St->Hp->Prop,(∃m,W 0 m σ H)/\∀i m σ H,W i m σ H ->
   ((Itr lo n).stop i H/\D.nx σ H)\/((Itr lo n).go i H/\∃N:St->Hp->Prop,(∀σ' H',N σ' H'->∃m',m'<m/\W (i+1) m' σ' H')/\∀x H',(Itr lo n).yld i H x H'->g x σ H' λ σ2 H2=>tb { D with nx:=N,ct:=N,bk:=D.nx } σ2 H2):=by
 refine⟨λ i m σ H=>m=n-i/\i<=n/\Pv i σ H,⟨n,by simp,aP _,h0⟩,?_⟩;rintro i m σ H ⟨rfl,hi,p⟩;by_cases hlt:i<n
 .refine .inr ⟨hlt,Pv (i+1),λ σ' H' p'=>⟨n-(i+1),by lia,rfl,hlt,p'⟩,λ x H' y=>?_⟩;obtain⟨e,y⟩:=y;subst e y;exact hs i σ _ hlt p
 .have e:i=n:=by lia
  subst e;exact .inl ⟨ah _,hd σ H p⟩
noncomputable abbrev R2:=V->V->Hp->VK->Prop
noncomputable def OpR(X:Cx)(f:jg->jg->Sem jg)(r:R2):Prop :=
 ∀(iZ:PNz)(s:jf)(σ:St)(H:Hp)(x y:V)(v u:jg)(Q:VK),Inv X iZ σ H s->RelV x v->RelV y u->r x y H Q ->
  jh (jm X.prog X.w) X.A (f v u) (EP X iZ σ Q) X.xe s
noncomputable def UnR(X:Cx)(f:jg->Sem jg)(r:V->Hp->VK->Prop):Prop :=
 ∀(iZ:PNz)(s:jf)(σ:St)(H:Hp)(x:V)(v:jg)(Q:VK),Inv X iZ σ H s->RelV x v->r x H Q ->
  jh (jm X.prog X.w) X.A (f v) (EP X iZ σ Q) X.xe s
noncomputable def BK(X:Cx)(f:jg)(r:LUz->Hp->VK->Prop):Prop :=
 ∀(iZ:PNz)(s:jf)(σ:St)(H:Hp)(xs:LUz)(us:LWz)(Q:VK),Inv X iZ σ H s->Vals xs us->r xs H Q ->
  jh (jm X.prog X.w) X.A (call f us) (EP X iZ σ Q) X.xe s
noncomputable def XA(X:Cx)(r:V->Hp->(Bool->Hp->Prop)->Prop):Prop :=
 ∀(iZ:PNz)(s:jf)(σ:St)(H:Hp)(x:V)(v:jg)(Q:Bool->Hp->Prop),Inv X iZ σ H s->RelV x v->r x H Q ->
  jh (jm X.prog X.w) X.A (truthy v) (TP X iZ σ Q) X.xe s
noncomputable def tOp(r:R2)(ta tb:TE):TE:=λ σ H Q=>ta σ H λ x H1=>tb σ H1 λ y H2=>r x y H2 Q
noncomputable def tUn(r:V->Hp->VK->Prop)(ta:TE):TE:=λ σ H Q=>ta σ H λ x H1=>r x H1 Q
inductive II1(C:Int->Int->Prop)(g:Int->Int->V)(x y:V)(H:Hp)(Q:VK):Prop
 |mk (i j:Int) (e1:x=.int i) (e2:y=.int j) (c:C i j) (q:Q (g i j) H):II1 C g x y H Q
inductive II0(g:Int->Int->V)(x y:V)(H:Hp)(Q:VK):Prop
 |mk (i j:Int) (e1:x=.int i) (e2:y=.int j) (q:Q (g i j) H):II0 g x y H Q
inductive IU(g:Int->V)(x:V)(H:Hp)(Q:VK):Prop
 |mk (i:Int) (e:x=.int i) (q:Q (g i) H):IU g x H Q
noncomputable def rI(C:Int->Int->Prop)(g:Int->Int->V):R2:=λ x y H Q=>II1 C g x y H Q
noncomputable def rI0(g:Int->Int->V):R2:=λ x y H Q=>II0 g x y H Q
noncomputable def rU(g:Int->V):V->Hp->VK->Prop:=λ x H Q=>IU g x H Q
section
variable{X:Cx}{a b c:jB}{ta tb tc:TE}{pos:Pos}
theorem V7(ha:PE X a ta)(hb:PE X b tb){iZ:PNz}{s:jf}{σ:St}{H:Hp}{R:V->V->Hp->Prop}(I:Inv X iZ σ H s)
  (h:ta σ H λ x H1=>tb σ H1 λ y H2=>R x y H2) {Q:VPz} {f:jg->jg->Sem jg}
  (hf:∀v u s2 x y H2,Inv X iZ σ H2 s2->RelV x v->RelV y u->R x y H2->jh (jm X.prog X.w) X.A (f v u) Q X.xe s2) :
  jh (jm X.prog X.w) X.A (eval a X.env) (λ v s₁=>jh (jm X.prog X.w) X.A (eval b X.env) (λ u s₂=>jh (jm X.prog X.w) X.A (f v u) Q X.xe s₂) X.xe s₁) X.xe s:=by
 refine thn (ha iZ s σ H _ I h) λ v s1 hz_=>?_;obtain⟨x,H1,I1,r1,q1⟩:=hz_;refine thn (hb iZ s1 σ H1 _ I1 q1) λ u s2 hz_=>?_;obtain⟨y,H2,I2,r2,q2⟩:=hz_;exact hf v u s2 x y H2 I2 r1 r2 q2
theorem Ap{op:Operator}{r:R2}(ho:OpR X (kJ op) r)(ha:PE X a ta)(hb:PE X b tb):PE X (.BinOp a op b pos) (tOp r ta tb):=by
 intro iZ s σ H Q I h;exact wpAny_BinOp (V7 ha hb I h λ v u s2 x y H2 I2 rx ry q=>ho iZ s2 σ H2 x y v u Q I2 rx ry q)
theorem Im{op:UnaryOp}{r:V->Hp->VK->Prop}(ho:UnR X (unaryOp op) r)(ha:PE X a ta):PE X (.UnaryOp op a pos) (tUn r ta):=by
 intro iZ s σ H Q I h;exact UnaryOp_ (thn (ha iZ s σ H _ I h) λ v s1 ⟨x,H1,I1,r1,q1⟩=>ho iZ s1 σ H1 x v Q I1 r1 q1)
theorem opI{f:jg->jg->Sem jg}{C:Int->Int->Prop}{g:Int->Int->Int}
  (rule:∀(i j:Int)(t u:kH)(s:jf)(Q:VPz)(E:VPz),C i j->Q (.int (g i j) s.toks) { s with toks:=s.toks+1 }->jh (jm X.prog X.w) X.A (f (.int i t) (.int j u)) Q E s) :
  OpR X f (rI C λ i j=>.int (g i j)):=by
 intro iZ s σ H x y v u Q I rx ry h;obtain⟨i,j,rfl,rfl,hc,q⟩:=h;obtain⟨t,rfl⟩:=rx;obtain⟨t',rfl⟩:=ry;exact rule i j t t' s _ _ hc ⟨.int (g i j),H,I.tok _,⟨_,rfl⟩,q⟩
theorem Ve{f:jg->jg->Sem jg}{g:Int->Int->Int}
  (rule:∀(i j:Int)(t u:kH)(s:jf)(Q:VPz)(E:VPz),Q (.int (g i j) s.toks) { s with toks:=s.toks+1 }->jh (jm X.prog X.w) X.A (f (.int i t) (.int j u)) Q E s) :
  OpR X f (rI0 λ i j=>.int (g i j)):=by
 intro iZ s σ H x y v u Q I rx ry h;obtain⟨i,j,rfl,rfl,q⟩:=h;obtain⟨t,rfl⟩:=rx;obtain⟨t',rfl⟩:=ry;exact rule i j t t' s _ _ ⟨.int (g i j),H,I.tok _,⟨_,rfl⟩,q⟩
theorem T4{f:jg->jg->Sem jg}{g:Int->Int->Bool}
  (rule:∀(i j:Int)(t u:kH)(s:jf)(Q:VPz)(E:VPz),Q (.bool (g i j)) s->jh (jm X.prog X.w) X.A (f (.int i t) (.int j u)) Q E s) :
  OpR X f (rI0 λ i j=>.bl (g i j)):=by
 intro iZ s σ H x y v u Q I rx ry h;obtain⟨i,j,rfl,rfl,q⟩:=h;obtain⟨t,rfl⟩:=rx;obtain⟨t',rfl⟩:=ry;exact rule i j t t' s _ _ ⟨.bl (g i j),H,I,rfl,q⟩
noncomputable def QH(i j:Int):Prop:=0<=j/\j<=1000000/\i.natAbs<2^64
theorem AC:OpR X (kJ .Add) (rI0 λ i j=>.int (i+j)):=Ve λ_ _ _ _ _ _ _ q=>add_int q
theorem Cl:OpR X (kJ .Sub) (rI0 λ i j=>.int (i-j)):=Ve λ_ _ _ _ _ _ _ q=>sub_int q
theorem Bj:OpR X (kJ .Mod) (rI (λ_ j=>0<j) λ i j=>.int (i % j)):=opI λ i j _ _ _ _ _ hc q=>by
 have h1:(0:Int)<j:=hc;exact mod_int' (by lia) (by rw[Int.fmod_eq_emod_of_nonneg i (by lia)];exact q)
theorem Lj:OpR X (kJ .Pow) (rI QH λ i j=>.int (i^j.toNat)):=opI λ_ _ _ _ _ _ _ hc q=>pow_int_small hc.1 hc.2.1 hc.2.2 q
theorem NA:OpR X (kJ .LShift) (rI QH λ i j=>.int (i*2^j.toNat)):=opI λ_ _ _ _ _ _ _ hc q=>lshift_int_small hc.1 hc.2.1 hc.2.2 q
theorem Gh:OpR X (kJ .BitAnd) (rI0 λ i j=>.int (Builtin.bitAnd i j)):=Ve λ_ _ _ _ _ _ _ q=>and_int q
theorem unI{f:jg->Sem jg}{g:Int->Int}
  (rule:∀(i:Int)(t:kH)(s:jf)(Q:VPz)(E:VPz),Q (.int (g i) s.toks) { s with toks:=s.toks+1 }->jh (jm X.prog X.w) X.A (f (.int i t)) Q E s) :
  UnR X f (rU λ i=>.int (g i)):=by
 intro iZ s σ H x v Q I rx h;obtain⟨i,rfl,q⟩:=h;obtain⟨t,rfl⟩:=rx;exact rule i t s _ _ ⟨.int (g i),H,I.tok _,⟨_,rfl⟩,q⟩
theorem ED:UnR X (unaryOp .USub) (rU λ i=>.int (-i)):=unI λ_ _ _ _ _ q=>neg_int q
end
noncomputable def Wa:V->V->Bool
 |.non,.non=>true|.non,.int _=>true|.int _,.non=>true|.non,.bl _=>true|.bl _,.non=>true|.non,.str _=>true|.str _,.non=>true
 |.int _,.int _=>true|.bl _,.bl _=>true|.str _,.str _=>true|.byt _,.byt _=>true
 |.int _,.str _=>true|.str _,.int _=>true|.bl _,.str _=>true|.str _,.bl _=>true
 |_,_=>false
noncomputable def rEq:R2:=λ x y H Q=>Wa x y=true/\Q (.bl (decide (x=y))) H
noncomputable def rNe:R2:=λ x y H Q=>Wa x y=true/\Q (.bl (!decide (x=y))) H
theorem OZ{i j:Int}:decide (V.int i=V.int j)=(i==j):=by
 rw[cy];simp
theorem Sw{i j:Bool}:decide (V.bl i=V.bl j)=(i==j):=by
 rw[cy];simp
theorem OY{i j:jD}:decide (V.str i=V.str j)=(i==j):=by
 rw[cy];simp
theorem Pa{i j:Array UInt8}:decide (V.byt i=V.byt j)=(i.toList==j.toList):=by
 rw[cy];cases i;cases j;simp
section
variable{X:Cx}{a b c:jB}{ta tb tc:TE}{pos:Pos}
theorem AI{iZ:PNz}{σ:St}{H:Hp}{s:jf}{Q:VK}{k k':Bool}(I:Inv X iZ σ H s)(q:Q (.bl k) H)(e:k=k'):EP X iZ σ Q (.bool k') s:=by
 subst e;exact⟨.bl k,H,I,rfl,q⟩
theorem op_eq:OpR X (jO .Eq) rEq:=by
 intro iZ s σ H x y v u Q I rx ry h;obtain⟨hs,q⟩:=h;cases x with
 |non =>
  cases rx;cases y with
  |non=>cases ry;exact PySem.EqNone.eq_none_none (AI I q (by simp))
  |bl j=>cases ry;exact PySem.EqNone.eq_none_bool (AI I q (by simp))
  |int j=>obtain⟨t',rfl⟩:=ry;exact PySem.EqNone.eq_none_int (AI I q (by simp))
  |str j=>obtain⟨t',rfl⟩:=ry;exact PySem.EqNone.eq_none_str (AI I q (by simp))
  |_=>exact absurd (show false=true from hs) aq
 |bl i =>
  cases rx;cases y with
  |non=>cases ry;exact PySem.EqNone.eq_bool_none (AI I q (by simp))
  |bl j=>cases ry;exact eq_bool (AI I q Sw)
  |str j=>obtain⟨t',rfl⟩:=ry;exact PySem.EqMixed.eq_bool_str (AI I q (by simp))
  |_=>exact absurd (show false=true from hs) aq
 |int i =>
  obtain⟨t,rfl⟩:=rx;cases y with
  |non=>cases ry;exact PySem.EqNone.eq_int_none (AI I q (by simp))
  |int j=>obtain⟨t',rfl⟩:=ry;exact eq_int (AI I q OZ)
  |str j=>obtain⟨t',rfl⟩:=ry;exact PySem.EqMixed.eq_int_str (AI I q (by simp))
  |_=>exact absurd (show false=true from hs) aq
 |str i =>
  obtain⟨t,rfl⟩:=rx;cases y with
  |non=>cases ry;exact PySem.EqNone.eq_str_none (AI I q (by simp))
  |bl j=>cases ry;exact PySem.EqMixed.eq_str_bool (AI I q (by simp))
  |int j=>obtain⟨t',rfl⟩:=ry;exact PySem.EqMixed.eq_str_int (AI I q (by simp))
  |str j=>obtain⟨t',rfl⟩:=ry;exact eq_str (AI I q OY)
  |_=>exact absurd (show false=true from hs) aq
 |byt i =>
  obtain⟨t,rfl⟩:=rx;cases y with
  |byt j=>obtain⟨t',rfl⟩:=ry;exact eq_bytes (AI I q Pa)
  |_=>exact absurd (show false=true from hs) aq
 |_=>cases y<;>exact absurd (show false=true from hs) aq
theorem Mn:OpR X (jO .NotEq) rNe:=by
 intro iZ s σ H x y v u Q I rx ry h;obtain⟨hs,q⟩:=h;cases x with
 |non =>
  cases rx;cases y with
  |non=>cases ry;exact PySem.EqNone.ne_none_none (AI I q (by simp))
  |bl j=>cases ry;exact PySem.EqNone.ne_none_bool (AI I q (by simp))
  |int j=>obtain⟨t',rfl⟩:=ry;exact PySem.EqNone.ne_none_int (AI I q (by simp))
  |str j=>obtain⟨t',rfl⟩:=ry;exact PySem.EqNone.ne_none_str (AI I q (by simp))
  |_=>exact absurd (show false=true from hs) aq
 |bl i =>
  cases rx;cases y with
  |non=>cases ry;exact PySem.EqNone.ne_bool_none (AI I q (by simp))
  |bl j=>cases ry;exact ne_bool (AI I q (congrArg not Sw))
  |str j=>obtain⟨t',rfl⟩:=ry;exact PySem.EqMixed.ne_bool_str (AI I q (by simp))
  |_=>exact absurd (show false=true from hs) aq
 |int i =>
  obtain⟨t,rfl⟩:=rx;cases y with
  |non=>cases ry;exact PySem.EqNone.ne_int_none (AI I q (by simp))
  |int j=>obtain⟨t',rfl⟩:=ry;exact ne_int (AI I q (congrArg not OZ))
  |str j=>obtain⟨t',rfl⟩:=ry;exact PySem.EqMixed.ne_int_str (AI I q (by simp))
  |_=>exact absurd (show false=true from hs) aq
 |str i =>
  obtain⟨t,rfl⟩:=rx;cases y with
  |non=>cases ry;exact PySem.EqNone.ne_str_none (AI I q (by simp))
  |bl j=>cases ry;exact PySem.EqMixed.ne_str_bool (AI I q (by simp))
  |int j=>obtain⟨t',rfl⟩:=ry;exact PySem.EqMixed.ne_str_int (AI I q (by simp))
  |str j=>obtain⟨t',rfl⟩:=ry;exact ne_str (AI I q (congrArg not OY))
  |_=>exact absurd (show false=true from hs) aq
 |byt i =>
  obtain⟨t,rfl⟩:=rx;cases y with
  |byt j=>obtain⟨t',rfl⟩:=ry;exact ne_bytes (AI I q (congrArg not Pa))
  |_=>exact absurd (show false=true from hs) aq
 |_=>cases y<;>exact absurd (show false=true from hs) aq
theorem D4:OpR X (jO .Lt) (rI0 λ i j=>.bl (decide (i<j))):=T4 λ_ _ _ _ _ _ _ q=>lt_int q
theorem Co:OpR X (jO .LtE) (rI0 λ i j=>.bl (decide (i<=j))):=T4 λ_ _ _ _ _ _ _ q=>le_int q
theorem R7:OpR X (jO .Gt) (rI0 λ i j=>.bl (decide (j<i))):=T4 λ_ _ _ _ _ _ _ q=>gt_int q
theorem R8:OpR X (jO .GtE) (rI0 λ i j=>.bl (decide (j<=i))):=T4 λ_ _ _ _ _ _ _ q=>ge_int q
theorem Vd:OpR X (jO .Is) (λ x y H Q=>y=.non/\Q (.bl (decide (x=.non))) H):=by
 intro iZ s σ H x y v u Q I rx ry h;obtain⟨rfl,q⟩:=h;cases ry;refine is_none_gen (AI I q ?_);cases x<;>first
  | (cases rx;rfl)
  | (obtain⟨t,rfl⟩:=rx;rfl)
theorem OpR.or{f:jg->jg->Sem jg}{r r':R2}(h:OpR X f r)(h':OpR X f r'):OpR X f (λ x y H Q=>r x y H Q\/r' x y H Q):=by
 intro iZ s σ H x y v u Q I rx ry q;rcases q with q|q
 .exact h iZ s σ H x y v u Q I rx ry q
 .exact h' iZ s σ H x y v u Q I rx ry q
theorem RC(b:jB){op:CmpOp}(h:op≠.In:=by decide)(h2:op≠.NotIn:=by decide):behindInMarks op b=false:=by
 have e1:(op==CmpOp.In)=false:=by cases op<;>first|rfl|exact absurd rfl h
 have e2:(op==CmpOp.NotIn)=false:=by cases op<;>first|rfl|exact absurd rfl h2
 cases b<;>simp[behindInMarks,e1,e2]
theorem By{op:CmpOp}{r:R2}(ho:OpR X (jO op) r)(ha:PE X a ta)(hb:PE X b tb)(hm:behindInMarks op b=false:=by exact RC _):PE X (.Compare a [op] [b] pos) (tOp r ta tb):=by
 intro iZ s σ H Q I h;exact wpAny_Compare1 (V7 ha hb I h λ v u s2 x y H2 I2 rx ry q=>ho iZ s2 σ H2 x y v u Q I2 rx ry q) hm
noncomputable def Oe(t:TE):TT:=λ σ H Q=>t σ H λ x H'=>IBl x λ k=>Q k H'
theorem A4{op:CmpOp}{r:R2}(ho:OpR X (jO op) r)(ha:PE X a ta)(hb:PE X b tb)(hm:behindInMarks op b=false:=by exact RC _):PT X (.Compare a [op] [b] pos) (Oe (tOp r ta tb)):=by
 intro iZ s σ H Q I h;refine wpAny_isTrue_Compare1 (thn (ha iZ s σ H _ I h) λ v s1 ⟨x,H1,I1,r1,q1⟩=>thn (hb iZ s1 σ H1 _ I1 q1) λ u s2 ⟨y,H2,I2,r2,q2⟩ =>
  thn (ho iZ s2 σ H2 x y v u _ I2 r1 r2 q2) λ c s3 ⟨z,H3,I3,r3,k,e,q3⟩=>?_) hm
 subst e;cases r3;exact jK ⟨H3,I3,q3⟩
noncomputable def QT(r r':R2)(ta tb tc:TE):TE:=λ σ H Q=>ta σ H λ x H1=>tb σ H1 λ y H2=>r x y H2 λ z H3=>IBl z λ k =>
 (if k=true then tc σ H3 λ w' H4=>r' y w' H4 Q else Q (.bl false) H3)
theorem F6{op op':CmpOp}{r r':R2}(ho:OpR X (jO op) r)(ho':OpR X (jO op') r')(ha:PE X a ta)(hb:PE X b tb)(hc:PE X c tc)
  (hm:lastMarks [op,op'] [b,c]=false:=by with_unfolding_all rfl):PE X (.Compare a [op,op'] [b,c] pos) (QT r r' ta tb tc):=by
 intro iZ s σ H Q I h;refine Compare_chain (thn (ha iZ s σ H _ I h) λ v s1 ⟨x,H1,I1,r1,q1⟩=>chain_link (thn (hb iZ s1 σ H1 _ I1 q1) λ u s2 ⟨y,H2,I2,r2,q2⟩ =>
  thn (ho iZ s2 σ H2 x y v u _ I2 r1 r2 q2) λ d s3 ⟨z,H3,I3,r3,k,e,q3⟩=>?_)) hm
 subst e;cases r3;refine jK ?_;cases k with
 |false=>exact ite_ff ⟨.bl false,H3,I3,rfl,q3⟩
 |true=>exact ite_tt (chain_last (thn (hc iZ s3 σ H3 _ I3 q3) λ w' s4 ⟨z',H4,I4,r4,q4⟩=>ho' iZ s4 σ H4 y z' u w' Q I4 r2 r4 q4))
theorem Ii{op op':CmpOp}{r r':R2}(ho:OpR X (jO op) r)(ho':OpR X (jO op') r')(ha:PE X a ta)(hb:PE X b tb)(hc:PE X c tc)
  (hm:lastMarks [op,op'] [b,c]=false:=by with_unfolding_all rfl):PT X (.Compare a [op,op'] [b,c] pos) (Oe (QT r r' ta tb tc)):=by
 intro iZ s σ H Q I h;refine isTrue_chain (thn (ha iZ s σ H _ I h) λ v s1 ⟨x,H1,I1,r1,q1⟩=>test_link (thn (hb iZ s1 σ H1 _ I1 q1) λ u s2 ⟨y,H2,I2,r2,q2⟩ =>
  thn (ho iZ s2 σ H2 x y v u _ I2 r1 r2 q2) λ d s3 ⟨z,H3,I3,r3,k,e,q3⟩=>?_)) hm
 subst e;cases r3;refine jK ?_;cases k with
 |false =>
  obtain⟨k',e',q'⟩:=q3;cases e';exact ite_ff ⟨H3,I3,q'⟩
 |true =>
  refine ite_tt (test_last (thn (hc iZ s3 σ H3 _ I3 q3) λ w' s4 ⟨z',H4,I4,r4,q4⟩=>thn (ho' iZ s4 σ H4 y z' u w' _ I4 r2 r4 q4) λ d' s5 ⟨z2,H5,I5,r5,k2,e2,q5⟩=>?_));subst e2;cases r5;exact jK ⟨H5,I5,q5⟩
noncomputable def WL(K:jw)(x:V)(H:Hp)(k:Bool):Prop :=
 match x with
 |.non=>k=false
 |.bl b=>k=b
 |.int i=>k=(i != 0)
 |.str y=>y.length<=jt/\k=((y.length:Int) != 0)
 |.byt y=>y.size<=jt/\k=((y.size:Int) != 0)
 |.ref p=>(∃xs,SqL K H p xs/\k=!xs.isEmpty)\/(∃xs,SqT K H p xs/\k=!xs.isEmpty)\/∃kvs,H p=some (.dK kvs)/\k=!kvs.isEmpty
 |_=>False
theorem NP{κ:Type}{kvs:List (κ×V)}{vs:List (κ×jg)}(r:KV kvs vs):(!vs.isEmpty)=!kvs.isEmpty:=by
 cases r<;>rfl
theorem IN{xs:LUz}{its:LWz}(r:Vals xs its):(!its.toArray.isEmpty)=!xs.isEmpty:=by
 cases r<;>simp
theorem Gw:(jt:Nat)<2^63:=by rw[jC];decide
theorem UF:XA X (λ x H Q=>∃k,WL X.K x H k/\Q k H):=by
 intro iZ s σ H x v Q I rx h;obtain⟨k,e,q⟩:=h;have hl:=Gw;have hs:jt=16777216:=jC;cases x with
 |non =>
  cases rx;have e':k=false:=e;subst e';exact truthy_none ⟨H,I,q⟩
 |bl b =>
  cases rx;have e':k=b:=e;subst e';exact jK ⟨H,I,q⟩
 |int i =>
  obtain⟨t,rfl⟩:=rx;have e':k=(i != 0):=e;subst e';exact PySem.P.truthy_int ⟨H,I,q⟩
 |str y =>
  obtain⟨t,rfl⟩:=rx;obtain⟨hy,e'⟩:y.length<=jt/\k=((y.length:Int) != 0):=e;subst e';exact PySem.P.truthy_str (by lia) ⟨H,I.tok _,q⟩
 |byt y =>
  obtain⟨t,rfl⟩:=rx;obtain⟨hy,e'⟩:y.size<=jt/\k=((y.size:Int) != 0):=e;subst e';exact truthy_bytes (by lia) ⟨H,I.tok _,q⟩
 |ref p =>
  cases rx;have e':(∃xs,SqL X.K H p xs/\k=!xs.isEmpty)\/(∃xs,SqT X.K H p xs/\k=!xs.isEmpty)\/∃kvs,H p=some (.dK kvs)/\k=!kvs.isEmpty:=e;rcases e' with ⟨xs,hx,e'⟩|⟨xs,hx,e'⟩|⟨kvs,hx,e'⟩
  .subst e';obtain⟨its,r,pl,hz⟩:=I.list hx;have hlen:=r.length;exact wpAny_truthy_list pl.isList (by simp only[aj];lia) ⟨H,I.tok _,by rw[IN r];exact q⟩
  .subst e';obtain⟨its,r,pl,hz⟩:=I.tuple hx;have hlen:=r.length;exact truthy_tuple pl (by simp only[aj];lia) ⟨H,I.tok _,by rw[IN r];exact q⟩
  .subst e';obtain⟨hz,hS,vs,r,m⟩:kvs.length<=jt/\(p==jS)=false/\∃vs,KV kvs vs/\s.heap.DictOf (AA X.prog X.w) p vs:=I.hok p _ hx;have hlen:kvs.length=vs.length:=Paired.length r;exact wpAny_truthy_dict hS m (by lia) ⟨H,I.tok _,by rw[NP r];exact q⟩
 |_=>exact(show False from e).elim
theorem F2(ha:PE X a ta)(he:∀whole,isTrue a X.env whole=(do let v <-whole;standAt a.pos;holding [v] (truthy v))) :
    PT X a (λ σ H Q=>ta σ H λ x H'=>∃k,WL X.K x H' k/\Q k H'):=by
  intro iZ s σ H Q I h;exact isTrue_plain (thn (ha iZ s σ H _ I h) λ v s1 ⟨x,H1,I1,r1,q1⟩=>UF iZ s1 σ H1 x v Q I1 r1 q1) (he _)
theorem D0{x:V}{us:LWz}(r:Vals [x] us):∃u,us=[u]/\RelV x u:=by
 cases r with
 |cons r1 r2=>cases r2;exact⟨_,rfl,r1⟩
theorem LQ{x y:V}{us:LWz}(r:Vals [x,y] us):∃u w',us=[u,w']/\RelV x u/\RelV y w':=by
 cases r with
 |cons r1 r2 =>
  cases r2 with
  |cons r3 r4=>cases r4;exact⟨_,_,rfl,r1,r3⟩
theorem S3:BK X (.builtin "abs") (λ xs H Q=>∃i,xs=[.int i]/\Q (.int (if i<0 then -i else i)) H):=by
 intro iZ s σ H xs us Q I r h;obtain⟨i,rfl,q⟩:=h;obtain⟨u,rfl,t,rfl⟩:=D0 r;exact call_abs_int λ u tk=>⟨.int (if i<0 then -i else i),H,I.tok _,⟨_,rfl⟩,q⟩
theorem K4(hc:X.calm=true):BK X (.builtin "max") (λ xs H Q=>∃i j,xs=[.int i,.int j]/\Q (.int (if j>i then j else i)) H):=by
 intro iZ s σ H xs us Q I r h;obtain⟨i,j,rfl,q⟩:=h;obtain⟨u,w',rfl,⟨t,rfl⟩,⟨t',rfl⟩⟩:=LQ r;refine max_two_ints (I.ok.hd hc) λ h' tk k=>⟨_,H,I.kept k,?_,q⟩;by_cases hj:j>i
 .rw[jo hj,jo hj];exact⟨_,rfl⟩
 .rw[jj hj,jj hj];exact⟨_,rfl⟩
theorem K3(hc:X.calm=true):BK X (.builtin "min") (λ xs H Q=>∃i j,xs=[.int i,.int j]/\Q (.int (if j<i then j else i)) H):=by
 intro iZ s σ H xs us Q I r h;obtain⟨i,j,rfl,q⟩:=h;obtain⟨u,w',rfl,⟨t,rfl⟩,⟨t',rfl⟩⟩:=LQ r;refine min_two_ints (I.ok.hd hc) λ h' tk k=>⟨_,H,I.kept k,?_,q⟩;by_cases hj:j<i
 .rw[jo hj,jo hj];exact⟨_,rfl⟩
 .rw[jj hj,jj hj];exact⟨_,rfl⟩
end
structure ObjM(h:jy)(x dx C:jd)(mA:MGz):Prop where
 obj:h.get? x=some (instObj C dx)
 ns:h.Ns1 dx mA
 ne:dx≠x
theorem Kq{h:jy}{dx:jd}{mA:MGz}(n:h.Ns1 dx mA):∃od,h.get? dx=some od/\∀name,lookIn name od=some (mA name):=by
 obtain⟨o,es,ep,ho,hd,hk,_,hm⟩:=n;refine⟨o,ho,λ name=>?_⟩;have e:=hm name;unfold nsFind findBy at e;rw[<-Array.find?_toList]at e;unfold lookIn;rw[hd];dsimp only;split
 .rename_i y q;rw[q]at e;exact congrArg some e
 .rename_i q;rw[q]at e;have a:es.toList.any (·.refKey)=false:=by
   rw[List.any_eq_false];intro y hy;obtain⟨z,t,hkey⟩:=hk y (dM.mp hy);simp[DictEntry.refKey,hkey]
  have a':¬es.toList.any (·.refKey)=true:=by rw[a];exact aq
  rw[jj a'];exact congrArg some e
theorem ObjM.look{h:jy}{x dx C:jd}{mA:MGz}(I:ObjM h x dx C mA):∃od,InstAt h x (instObj C dx) C (some od)/\∀name,lookIn name od=some (mA name) :=
 let ⟨od,ho,hl⟩:=Kq I.ns
 ⟨od,⟨I.obj,rfl,rfl,ho⟩,hl⟩
section
variable{prog:jk}{w:ju}{A:jx}{E:VPz}{s:jf}{K:jw}{x dx C f:jd}{mA:MGz}{name:jD}{v:jg}
theorem TQ{expr:Bool}{Q:VPz}(X:K.In s.heap)(I:ObjM s.heap x dx C mA)(hg:plainGet K C name=true)(hh:hasDictIn K C=true)
  (ha:jH K (.ref C) name=some none) (hv:mA name=some v) (hv':handedIn v=true) (h:Q v { s with toks:=s.toks+1 }) :
  jh (jm prog w) A (getAttr (.ref x) name expr) Q E s:=by
 obtain⟨od,J,hl⟩:=I.look;exact get_value X J (plainGet_of hg).1 (findObj_own hh ha rfl (by rw[hl,hv])) hv' h
theorem Sh{pl:Sem Bool}{Q:jg×LWz->jf->Prop}(X:K.In s.heap)(I:ObjM s.heap x dx C mA)(hg:plainGet K C name=true)
  (hf:jH K (.ref C) name=some (some (.ref f))) (ht:isFn K (.ref f)=true) (hv:mA name=none) (h:Q (.ref f,[.ref x]) s) :
  jh (jm prog w) A (getMethod (.ref x) name pl) Q E s:=by
 obtain⟨od,J,hl⟩:=I.look;exact method_fn X J (plainGet_of hg).1 (plainGet_of hg).2 hf (beq_iff_eq.mp ht) (by show(lookIn name od).map (·.isSome)=some false;rw[hl,hv];rfl) h
theorem Th{ns:LSz}{Q:Unit->jf->Prop}(X:K.In s.heap)(I:ObjM s.heap x dx C mA)
  (hs:jH K (.ref C) "__setattr__"=some (some (.builtin "object.__setattr__"))) (hp:plainOver K C=true) (ht:takerIn K C name=some none) (hh:hasDictIn K C=true)
  (hw:PySem.Within mA ns) (hsz:ns.length<=jt)
  (h:∀h',ObjM h' x dx C (λ y=>if y=name then some v else mA y)->Heap.SameBut dx s.heap h'->Q () { s with heap:=h',toks:=s.toks+2 }) :
  jh (jm prog w) A (setAttr (.ref x) name v) Q E s:=by
 obtain⟨od,J,hl⟩:=I.look;refine set_plain X J hs (osa_open (s:={ s with toks:=s.toks+1 }) (r:=none) X J hp ht λ b=>?_);obtain⟨cd,hc,hd'⟩:=lc hh;have hx:s.heap.get? x=some ⟨.ref C,some dx,.plain,#[]⟩:=I.obj;refine jc (je (jc (jc (lg hx (jc (Looks.here (s:={ s with toks:=s.toks+1 }) (looks_clsIn X hc) ?_))))));rw[hd'];refine je (a:=some dx) (jc (je (jc ?_)));refine wpAny_nsSet1 (s:={ s with toks:=s.toks+1 }) I.ns λ h' hn2 hs2=>?_;obtain⟨oD,esD,epD,hoD,hdD,hcD⟩:=hn2.count (PySem.Within.cons name v hw);refine jc (lF hoD (by rw[hdD];exact lG (aV hcD (by rw[aL];lia))) ?_);exact je (h _ ⟨(hs2.2 _ (Ne.symm I.ne)).trans I.obj,hn2,I.ne⟩ hs2)
theorem RL{R:lI->jf->Prop}{vs:LWz}{kw:List (jD×jg)}(X:K.In s.heap)(hm:makesIn K C=true)
  (hi:jH K (.ref C) "__init__"=some (some (.ref f))) (hf:typeIn K (.ref f)=some (.type "function"))
  (h:jU (jm prog w) (A.under (.builtin "type.__call__" ⟨.ref C::vs,kw⟩)) (.call (.ref f) ⟨.ref (s.heap.objs.size+1)::vs,kw⟩) (InitBack (s.heap.objs.size+1) R)
   { s with heap:=(s.heap.push emptyDict).push (instObj C s.heap.objs.size) }) :
  jU (jm prog w) A (.call (.ref C) ⟨vs,kw⟩) R s:=by
 obtain⟨hh,g,d,t,os⟩:=s;exact make_core (makes_of X hm) (lJ X hi) (λ self=>bind_fn X self hf) (.inl rfl) h
end
noncomputable def Bf(f:jD)(v:V):LFz->LFz
 |[]=>[(f,v)]
 | (g,x)::r=>if g=f then (g,v)::r else (g,x)::Bf f v r
theorem A5(f g:jD)(v:V):∀fs:LFz,(Bf f v fs).lookup g=if g=f then some v else fs.lookup g
 |[]=>by
  show List.lookup g [(f,v)]=_;by_cases h:g=f
  .have hb:(g==f)=true:=beq_iff_eq.mpr h;simp only[List.lookup,hb,jo h]
  .have hb:(g==f)=false:=beq_eq_false_iff_ne.mpr h;simp only[List.lookup,hb,jj h]
 | (k,x)::r=>by
  have ih:=A5 f g v r;rw[show Bf f v ((k,x)::r)=(if k=f then (k,v)::r else (k,x)::Bf f v r) from rfl];by_cases hk:k=f
  .rw[jo hk];by_cases h:g=k
   .have hb:(g==k)=true:=beq_iff_eq.mpr h;simp only[List.lookup,hb,jo (h.trans hk)]
   .have hb:(g==k)=false:=beq_eq_false_iff_ne.mpr h;simp only[List.lookup,hb,jj (λ e:g=f=>h (e.trans hk.symm))]
  .rw[jj hk];by_cases h:g=k
   .have hb:(g==k)=true:=beq_iff_eq.mpr h;simp only[List.lookup,hb,jj (λ e:g=f=>hk (h.symm.trans e))]
   .have hb:(g==k)=false:=beq_eq_false_iff_ne.mpr h;simp only[List.lookup,hb];exact ih
theorem Da(f:jD)(v:V):∀fs:LFz,f∈(Bf f v fs).map (·.1)/\∀g,g∈fs.map (·.1)->g∈(Bf f v fs).map (·.1)
 |[]=>⟨by simp[Bf],λ g h=>by simp at h⟩
 | (k,x)::r=>by
  obtain⟨i1,i2⟩:=Da f v r;rw[show Bf f v ((k,x)::r)=(if k=f then (k,v)::r else (k,x)::Bf f v r) from rfl];by_cases hk:k=f
  .rw[jo hk];subst hk;exact⟨by simp,λ g h=>by simpa using h⟩
  .rw[jj hk];refine⟨?_,λ g h=>?_⟩
   .rw[aJ];exact ay _ i1
   .rw[aJ]at h |-;rcases aO.mp h with e|e
    .exact aO.mpr (.inl e)
    .exact ay _ (i2 g e)
theorem GD(f:jD)(v:V):∀fs:LFz,(Bf f v fs).length<=fs.length+1
 |[]=>by simp[Bf]
 | (k,x)::r=>by
  have ih:=GD f v r;rw[show Bf f v ((k,x)::r)=(if k=f then (k,v)::r else (k,x)::Bf f v r) from rfl];by_cases hk:k=f
  .rw[jo hk,aL,aL];lia
  .rw[jj hk,aL,aL];lia
theorem RelO.some_of{v:V}{o:Option jg}(r:RelO (some v) o):∃u,o=some u/\RelV v u:=by
 cases o with
 |none=>exact(show False from r).elim
 |some u=>exact⟨u,rfl,r⟩
theorem RelO.none_of{o:Option jg}(r:RelO none o):o=none:=by
 cases o with
 |none=>rfl
 |some u=>exact(show False from r).elim
theorem Ky{v:V}{u:jg}(r:RelV v u):handedIn u=true:=by
 cases v with
 |non=>cases(show u=Value.none from r);rfl
 |bl b=>cases(show u=Value.bool b from r);rfl
 |int i=>obtain⟨t,e⟩:=(show ∃t,u=Value.int i t from r);cases e;rfl
 |str x=>obtain⟨t,e⟩:=(show ∃t,u=Value.str x t from r);cases e;rfl
 |byt b=>obtain⟨t,e⟩:=(show ∃t,u=Value.bytes b t from r);cases e;rfl
 |flt b=>obtain⟨t,e⟩:=(show ∃t,u=Value.float b t from r);cases e;rfl
 |ref a=>cases(show u=Value.ref a from r);rfl
 |ty n=>cases(show u=Value.type n from r);rfl
section
variable{P:jk}{w:ju}{H H':Hp}{h h':jy}{a C dx:jd}{fs fs':LFz}
theorem Hr(hok:HOk P w H h)(e:H a=some (.ins C dx fs)):∃mA,ObjM h a dx C mA/\(∀f,RelO (fs.lookup f) (mA f))/\PySem.Within mA (fs.map (·.1))/\fs.length<=1000/\H dx=some (.own a):=by
 obtain⟨d,z,ne,ob,mA,n,r,q⟩:=(show ObjOk P w H h a (.ins C dx fs) from hok a _ e);exact⟨mA,⟨ob,n,ne⟩,r,q,z,d⟩
end
structure Cls(K:jw)(C:jd):Prop where
 pg:plainGet K C Str.empty=true
 hd:hasDictIn K C=true
 po:plainOver K C=true
 sa:jH K (.ref C) "__setattr__"=some (some (.builtin "object.__setattr__"))
theorem Cls.get{K:jw}{C:jd}(c:Cls K C)(f:jD):plainGet K C f=true:=c.pg
noncomputable def NoAttr(K:jw)(C:jd)(f:jD):Prop:=jH K (.ref C) f=some none
theorem NoAttr.taker{K:jw}{C:jd}{f:jD}(n:NoAttr K C f):takerIn K C f=some none:=by
 unfold takerIn;rw[show jH K (.ref C) f=some none from n];rfl
structure VG(K:jw)(C:jd)(m:jD)(f:jd):Prop where
 at_:jH K (.ref C) m=some (some (.ref f))
 fn:isFn K (.ref f)=true
 kp:ku K (.ref f)=true
section
variable{X:Cx}{iZ:PNz}{σ:St}{H:Hp}{s:jf}{a C dx:jd}{fs:LFz}{f:jD}{v:V}{A:jx}{E:VPz}
theorem NT{b:Bool}{Q:VPz}(I:Inv X iZ σ H s)(e:H a=some (.ins C dx fs))(c:Cls X.K C)(n:NoAttr X.K C f)(l:fs.lookup f=some v)
  (h:∀u s',Inv X iZ σ H s'->RelV v u->Q u s'):jh (jm X.prog X.w) A (getAttr (.ref a) f b) Q E s:=by
 obtain⟨mA,O,r,_,_,_⟩:=Hr I.hok e;obtain⟨u,hu,ru⟩:=RelO.some_of (v:=v) (o:=mA f) (by rw[<-l];exact r f);exact TQ I.kIn O (c.get f) c.hd n hu (Ky ru) (h u _ (I.tok _) ru)
theorem NS{m:jD}{g:jd}{pl:Sem Bool}{Q:jg×LWz->jf->Prop}(I:Inv X iZ σ H s)(e:H a=some (.ins C dx fs))(c:Cls X.K C)(k:VG X.K C m g)(l:fs.lookup m=none)
  (h:Q (.ref g,[.ref a]) s):jh (jm X.prog X.w) A (getMethod (.ref a) m pl) Q E s:=by
 obtain⟨mA,O,r,_,_,_⟩:=Hr I.hok e;have hn:mA m=none:=RelO.none_of (by rw[<-l];exact r m);exact Sh I.kIn O (c.get m) k.at_ k.fn hn h
theorem Ny{y:V}{u:jg}{Q:Unit->jf->Prop}(I:Inv X iZ σ H s)(e:H a=some (.ins C dx fs))(c:Cls X.K C)(n:NoAttr X.K C f)(hl:fs.length<1000)(ry:RelV y u)
  (h:∀s',Inv X iZ σ (upd H a (.ins C dx (Bf f y fs))) s'->Q () s'):jh (jm X.prog X.w) A (setAttr (.ref a) f u) Q E s:=by
 obtain⟨mA,O,r,wi,_,ho⟩:=Hr I.hok e;have hz:(fs.map (·.1)).length<=jt:=by rw[aa,jC];lia
 refine Th I.kIn O c.sa c.po n.taker c.hd wi hz λ h' O' sb=>h _ ?_;have hd:∃o,h'.get? dx=some o:=let ⟨o,_,_,e',_⟩:=O'.ns;⟨o,e'⟩;refine I.write (x:=a) (e:=dx) (by rw[e];exact True.intro) (.inr ho) (λ b q hb z=>(sb.2 b hb).trans z) hd ?_;refine⟨by rw[Ad O.ne];exact ho,?_,O.ne,O'.obj,_,O'.ns,λ g=>?_,λ g hg=>?_⟩
 .have:=GD f y fs;lia
 .show RelO ((Bf f y fs).lookup g) (if g=f then some u else mA g);rw[A5];by_cases q:g=f
  .rw[jo q,jo q];exact ry
  .rw[jj q,jj q];exact r g
 .by_cases q:g=f
  .rw[q];exact(Da f y fs).1
  .refine(Da f y fs).2 g (wi g λ z=>hg ?_);show(if g=f then some u else mA g)=none;rw[jj q];exact z
theorem Inv.made(I:Inv X iZ σ H s):Inv X iZ σ (upd (upd H s.heap.objs.size (.own (s.heap.objs.size+1))) (s.heap.objs.size+1) (.ins C s.heap.objs.size []))
  { s with heap:=(s.heap.push emptyDict).push (instObj C s.heap.objs.size) }:=by
 have e1:(s.heap.push emptyDict).get? s.heap.objs.size=some emptyDict:=ar s.heap rfl;have e2:((s.heap.push emptyDict).push (instObj C s.heap.objs.size)).get? (s.heap.objs.size+1)=some (instObj C s.heap.objs.size):=by
  have:=ar (s.heap.push emptyDict) (o:=instObj C s.heap.objs.size) rfl;rwa [bq]at this
 have e3:(s.heap.push emptyDict).Ns s.heap.objs.size (λ_=>none):=⟨emptyDict,#[],_,e1,rfl,(λ e he=>absurd he (by simp)),λ_=>rfl⟩;have I1:=I.laid (a:=s.heap.objs.size) (o:=.own (s.heap.objs.size+1)) (h':=s.heap.push emptyDict) (t':=s.toks) (λ b u q=>ae _ q) (ah _) ⟨_,e1⟩;refine I1.laid (a:=s.heap.objs.size+1) (o:=.ins C s.heap.objs.size []) (t':=s.toks) (λ b u q=>ae _ q) (dF (bq _ _)) ?_;have ne:s.heap.objs.size≠s.heap.objs.size+1:=aD (br _);refine⟨by rw[Ad ne,Ae],aP _,ne,e2,λ_=>none,(Heap.Ns1.of_empty e3).at λ o q=>ae _ q,λ_=>True.intro,λ y hy=>absurd rfl hy⟩
theorem Pg{prog:jk}{w:ju}{env:lH}{e:jB}{f:jD}{pos:Pos}{s:jf}{Q:VPz}(hb:attributeBase e f env (eval e env)=eval e env)
  (h:jh (jm prog w) A (eval e env) (λ o s₁=>jh (jm prog w) A (getAttr o f true) Q E s₁) E s):jh (jm prog w) A (eval (.Attribute e f pos) env) Q E s :=
 Attribute_any_ h (by rw[arm_eval_Attribute,hb])
end
inductive WX(K:jw)(f:jD)(x:V)(H:Hp)(Q:VK):Prop
 |mk (a C dx:jd) (fs:LFz) (v:V) (e:x=.ref a) (h:H a=some (.ins C dx fs)) (c:Cls K C) (n:NoAttr K C f) (l:fs.lookup f=some v) (q:Q v H):WX K f x H Q
noncomputable def Xc(K:jw)(ta:TE)(f:jD):TE:=λ σ H Q=>ta σ H λ x H1=>WX K f x H1 Q
noncomputable def Xj(K:jw)(ta tv:TE)(f:jD):TS:=λ D σ H=>tv σ H λ y H1=>ta σ H1 λ x H2=>∃a C dx fs,x=.ref a/\H2 a=some (.ins C dx fs)/\Cls K C/\NoAttr K C f/\fs.length<1000 /\
 D.nx σ (upd H2 a (.ins C dx (Bf f y fs)))
section
variable{X:Cx}{o e value:jB}{f:jD}{pos pos' tpos:Pos}{ta tv:TE}
theorem B9(he:PE X e ta)(hb:attributeBase e f X.env (eval e X.env)=eval e X.env):PE X (.Attribute e f pos) (Xc X.K ta f):=by
 intro iZ s σ H Q I h;refine Pg hb (thn (he iZ s σ H _ I h) λ u s1 hz_=>?_);obtain⟨x,H1,I1,rx,a,C,dx,fs,v,ex,ea,c,n,l,q⟩:=hz_;subst ex;obtain rfl:u=Value.ref a:=rx;exact NT I1 ea c n l λ u' s2 I2 ru=>⟨v,H1,I2,ru,q⟩
theorem C6(ha:PE X o ta)(hv:PE X value tv)(hs:swapsWith value (some (.Attribute o f pos')) pos.line X.env=pure false):PS X (.Assign [.Attribute o f pos'] value pos) (Xj X.K ta tv f):=by
 intro iZ s σ H D I h;refine kM (thn (hv iZ s σ H _ I h) λ u s1 hz_=>?_) hs;obtain⟨y,H1,I1,ry,q⟩:=hz_;refine thn (ha iZ s1 σ H1 _ I1 q) λ ov s2 hz_=>?_;obtain⟨x,H2,I2,rx,a,C,dx,fs,ex,ea,c,n,l,q2⟩:=hz_;subst ex;obtain rfl:ov=Value.ref a:=rx;exact Ny I2 ea c n l ry λ s3 I3=>⟨σ,_,I3,q2⟩
end
section
variable{X:Cx}{iZ:PNz}{σ:St}{H:Hp}{s:jf}{A:jx}{E:VPz}{Q:VPz}{c:jg}{b:Bool}
inductive G4(K:jw)(H:Hp):V->jg->Prop where
 |non:G4 K H .non (.type "NoneType")
 |bl (x:Bool):G4 K H (.bl x) (.type "bool")
 |int (i:Int):G4 K H (.int i) (.type "int")
 |str (x:jD):G4 K H (.str x) (.type "str")
 |flt (x:UInt64):G4 K H (.flt x) (.type "float")
 |lst {a:jd} {xs:LUz} (e:H a=some (.lst xs)):G4 K H (.ref a) (.type "list")
 |frz {a:jd} {o:Obj} {xs:LUz} (e:H a=some (.frz o (.lst xs))):G4 K H (.ref a) (.type "list")
 |tup {a:jd} {xs:LUz} (e:H a=some (.tup xs)):G4 K H (.ref a) (.type "tuple")
 |dK {a:jd} {kvs:List (Key×V)} (e:H a=some (.dK kvs)):G4 K H (.ref a) (.type "dict")
 |dT {a:jd} {kvs:LKz} (e:H a=some (.dT kvs)):G4 K H (.ref a) (.type "dict")
 |ins {a C dx:jd} {fs:LFz} (e:H a=some (.ins C dx fs)) (cl:Cls K C) (ha:jH K (.ref C) "__class__"=some (some (.builtin "object.__class__")))
   (hn:specialIn K (.builtin "object.__class__") "__get__"=some (some (.builtin "getset_descriptor.__get__"))) (htk:takesIn K (.builtin "object.__class__")=some true)
   (hm:mroIn K C (.type "object")=some true):G4 K H (.ref a) (.ref C)
theorem Ku{x:V}{u t:jg}(I:Inv X iZ σ H s)(rx:RelV x u)(ty:G4 X.K H x t)(e:ka X.K t c=some b)(h:∀tk,Q (.bool b) { s with toks:=tk }) :
  jh (jm X.prog X.w) A (call (.builtin "isinstance") [u,c]) Q E s:=by
 cases ty with
 |non=>cases(show u=Value.none from rx);exact kK kitx_none I.kIn True.intro e (λ z=>nomatch z) h
 |bl y=>cases(show u=Value.bool y from rx);exact kK kitx_bool I.kIn True.intro e (λ z=>nomatch z) h
 |int i=>obtain⟨t,q⟩:=(show ∃t,u=Value.int i t from rx);cases q;exact kK kitx_int I.kIn True.intro e (λ z=>nomatch z) h
 |str y=>obtain⟨t,q⟩:=(show ∃t,u=Value.str y t from rx);cases q;exact kK kitx_str I.kIn True.intro e (λ z=>nomatch z) h
 |flt y=>obtain⟨t,q⟩:=(show ∃t,u=Value.float y t from rx);cases q;exact kK kitx_float I.kIn True.intro e (λ z=>nomatch z) h
 |@lst a xs ea =>
  cases(show u=Value.ref a from rx);obtain⟨_,_,n,_,h1⟩:=(show ObjOk X.prog X.w H s.heap a (.lst xs) from I.hok a _ ea);exact kK kitx_list I.kIn ⟨_,h1,rfl⟩ e (λ z=>nomatch z) h
 |@frz a ob xs ea =>
  cases(show u=Value.ref a from rx);obtain⟨_,_,_,n,_,h1⟩:=(show ObjOk X.prog X.w H s.heap a (.frz ob (.lst xs)) from I.hok a _ ea);exact kK kitx_list I.kIn ⟨_,h1,rfl⟩ e (λ z=>nomatch z) h
 |@tup a xs ea =>
  cases(show u=Value.ref a from rx);obtain⟨_,_,_,p⟩:=(show ObjOk X.prog X.w H s.heap a (.tup xs) from I.hok a _ ea);obtain⟨o,h1,h2,_⟩:=p;exact kK kitx_tuple I.kIn ⟨o,h1,h2⟩ e (λ z=>nomatch z) h
 |@dK a kvs ea =>
  cases(show u=Value.ref a from rx);obtain⟨_,_,vs,_,p⟩:=(show ObjOk X.prog X.w H s.heap a (.dK kvs) from I.hok a _ ea);obtain⟨o,es,ep,h1,h2,_⟩:=p;exact kK kitx_dict I.kIn ⟨o,h1,h2.1⟩ e (λ z=>nomatch z) h
 |@dT a kvs ea =>
  cases(show u=Value.ref a from rx);obtain⟨_,_,xs,_,o,es,ep,h1,h2,_⟩:=(show ObjOk X.prog X.w H s.heap a (.dT kvs) from I.hok a _ ea);exact kK kitx_dict I.kIn ⟨o,h1,h2.1⟩ e (λ z=>nomatch z) h
 |@ins a C dx fs ea cl ha hn htk hm =>
  cases(show u=Value.ref a from rx);obtain⟨mA,O,_⟩:=Hr I.hok ea;obtain⟨od,J,_⟩:=O.look;exact kK (kitx_own (cl.get _) cl.hd ha hn htk hm) I.kIn J e (λ z=>nomatch z) h
end
structure Room(k:Nat)(A:jx):Prop where
 hd:A.handled=none
 dp:A.depth+3*k+5<recursionLimit
 un:A.units+16*k+200<j5
theorem Room.mono{j k:Nat}{A:jx}(r:Room k A)(h:j<=k):Room j A:=⟨r.hd,by have:=r.dp;lia,by have:=r.un;lia⟩
theorem Room.deeper{k:Nat}{A:jx}(r:Room (k+1) A)(env:lH):Room k (A.deeper env) :=
 ⟨r.hd,by have:=r.dp;show A.depth+1+3*k+5<_;lia,by have:=r.un;show A.units+3+16*k+200<_;lia⟩
theorem NL{A:jx}{C:jd}{us:LWz}{kw:List (jD×jg)}:(A.under (.builtin "type.__call__" ⟨.ref C::us,kw⟩)).depth=A.depth+1:=by
 first|rfl|simp[Around.under,Code.weight,Code.isCreation,Code.isGuard,Code.isCaller,Code.frames,Code.isFrame,guardIds]
theorem NK{A:jx}{C:jd}{us:LWz}{kw:List (jD×jg)}:(A.under (.builtin "type.__call__" ⟨.ref C::us,kw⟩)).units=A.units+1:=by
 first|rfl|simp[Around.under,Code.cUnits,Code.frames,Code.isFrame]
theorem Room.make{k:Nat}{A:jx}(r:Room (k+1) A)(C:jd)(us:LWz)(kw:List (jD×jg)):Room k (A.under (.builtin "type.__call__" ⟨.ref C::us,kw⟩)) :=
 ⟨r.hd,by have:=r.dp;rw[NL];lia,by have:=r.un;rw[NK];lia⟩
theorem Room.depth{k:Nat}{A:jx}(r:Room k A):A.depth<recursionLimit:=by have:=r.dp;lia
theorem Room.units{k:Nat}{A:jx}(r:Room k A):A.units+64<j5:=by have:=r.un;lia
noncomputable def Nr:TA:=λ_ H Q=>Q [] H
noncomputable def JT(ta:TE)(tr:TA):TA:=λ σ H Q=>ta σ H λ x H1=>tr σ H1 λ xs H2=>Q (x::xs) H2
section
variable{X:Cx}{e:jB}{es:List jB}{te:TE}{t:TA}{pos:Pos}
theorem EX:PA X [] Nr:=λ_ _ _ _ H Q I h=>Calls.spliced_nil ⟨[],H,I,.nil,h⟩
theorem Aa(ha:PE X e te)(hr:PA X es t)(hs:jv (e::es) X.env=(false,eval e X.env)::jv es X.env:=by rfl):PA X (e::es) (JT te t):=by
 intro pos iZ s σ H Q I h;rw[hs];show jh _ _ (spliced ((false,eval e X.env)::jX pos (jv es X.env))) _ _ s;refine Calls.spliced_cons (thn (ha iZ s σ H _ I h) λ u s1 hz_=>?_);obtain⟨x,H1,I1,r1,q1⟩:=hz_;exact thn (hr pos iZ s1 σ H1 _ I1 q1) λ us s2 ⟨xs,H2,I2,r2,q2⟩=>⟨x::xs,H2,I2,.cons r1 r2,q2⟩
theorem Aj(ha:PE X e te)(hs:jv [e] X.env=[(false,eval e X.env)]:=by rfl):PA X [e] (JT te Nr):=Aa ha EX hs
noncomputable def Xa(t:TA):TE:=λ σ H Q=>t σ H λ xs H1=>xs.length<=jt/\∀p,H1 p=none->Q (.ref p) (upd H1 p (.tup xs))
noncomputable def Xb(t:TA):TE:=λ σ H Q=>t σ H λ xs H1=>xs.length<=jt/\∀p,H1 p=none->Q (.ref p) (upd H1 p (.lst xs))
theorem AB{x1}(h:PA X es t):PE X (.Tuple es x1 pos) (Xa t):=by
 intro iZ s σ H Q I hq;refine wpAny_Tuple_spliced (thn (h pos iZ s σ H _ I hq) λ us s1 ⟨xs,H1,I1,r,z,q⟩=>⟨by rw[<-r.length];exact z,?_⟩);have hf:H1 s1.heap.objs.size=none:=I1.hok.fresh (ah _);refine⟨.ref s1.heap.objs.size,upd H1 s1.heap.objs.size (.tup xs),I1.laid (t':=s1.toks) (λ b u e=>ae _ e) (ah _) ?_,rfl,q _ hf⟩;exact⟨z,us,r,⟨_,ar _ rfl,rfl,_,rfl⟩⟩
theorem B8(h:PA X es t):PE X (.List es pos) (Xb t):=by
 intro iZ s σ H Q I hq;refine wpAny_List_spliced (thn (h pos iZ s σ H _ I hq) λ us s1 ⟨xs,H1,I1,r,z,q⟩=>⟨by rw[<-r.length];exact z,?_⟩);have hf:H1 s1.heap.objs.size=none:=I1.hok.fresh (ah _);refine⟨.ref s1.heap.objs.size,upd H1 s1.heap.objs.size (.lst xs),I1.laid (t':=s1.toks) (λ b u e=>ae _ e) (ah _) ?_,rfl,q _ hf⟩;exact⟨z,us,0,r,ar _ rfl⟩
end
noncomputable abbrev Sp:=LUz->Hp->VK->XK->Prop
noncomputable abbrev CXT:=List lH->Hp->jf->XK->jg->jf->Prop
structure Env0(P:jk)(w:ju)(K:jw)(mg:MGz)(ja:jy)(A:jx)(i6:List lH)(s:jf)(H:Hp):Prop where
 frames:A.frames=some i6
 mod:Mod K mg ja
 bs:∀b o,ja.get? b=some o->s.heap.get? b=some o/\H b=none
 bsz:ja.objs.size<=s.heap.objs.size
 funs:s.heap.FunFrames ja i6
 frf:∀b∈frs i6,H b=none
 hok:HOk P w H s.heap
 bare:AllBare s.gens
noncomputable def CE(i6:List lH)(P:jk)(w:ju)(H:Hp)(s:jf)(Q:VK)(u:jg)(s':jf):Prop :=
 ∃v H',s'.os=s.os/\AllBare s'.gens/\Un (frs i6) [] H H' s.heap s'.heap/\HOk P w H' s'.heap/\RelV v u/\Q v H'
noncomputable def CR(CX:CXT)(i6:List lH)(P:jk)(w:ju)(H:Hp)(s:jf)(Q:VK)(E:XK)(r:lI)(s':jf):Prop :=
 match r with
 |.ok (.ret u)=>CE i6 P w H s Q u s'
 |.ok _=>False
 |.error e=>CX i6 H s E e s'
structure A3(P:jk)(w:ju)(K:jw)(mg:MGz)(ja:jy)(CX:CXT)(k:Nat)(f:jd)(fd:jr)(ps:LSz)(sp:Sp):Prop where
 len:∀vs H Q E,sp vs H Q E->vs.length=ps.length
 run:∀(A:jx)(i6:List lH)(s:jf)(H:Hp)(args:Args)(us:LWz)(vs:LUz)(Q:VK)(E:XK),Room k A->Env0 P w K mg ja A i6 s H->BindsTo s fd args (ps.zip us)->Vals vs us->sp vs H Q E ->
  jU (jm P w) A (.call (.ref f) args) (CR CX i6 P w H s Q E) s
theorem Env0.make{P:jk}{w:ju}{K:jw}{mg:MGz}{ja:jy}{A:jx}{i6:List lH}{s:jf}{H:Hp}(e:Env0 P w K mg ja A i6 s H)(C:jd)(us:LWz)(kw:List (jD×jg)) :
  Env0 P w K mg ja (A.under (.builtin "type.__call__" ⟨.ref C::us,kw⟩)) i6 s H:=⟨by first|exact e.frames|(simpa [Around.under,Code.envs,Code.isFrame,pushEnvs] using e.frames),e.mod,e.bs,e.bsz,e.funs,e.frf,e.hok,e.bare⟩
section
variable{X:Cx}{iZ:PNz}{σ:St}{H:Hp}{s s':jf}
theorem Inv.env0(I:Inv X iZ σ H s):Env0 X.prog X.w X.K X.mg X.ja X.A X.stack s H :=
 ⟨I.ok.frames,I.ok.mod,I.bs,aV I.ok.bsz I.sz,I.stack,I.stkFree,I.hok,I.bare⟩
theorem Inv.after{Q:VK}{u:jg}(I:Inv X iZ σ H s)(h:CE X.stack X.prog X.w H s Q u s'):EP X iZ σ Q u s':=by
 obtain⟨v,H',os,bare,un,hok,r,q⟩:=h;obtain⟨hh,g,d,t,os'⟩:=s';obtain rfl:os'=s.os:=os;exact⟨v,H',I.call (h':=hh) (g':=g) (d':=d) (t':=t) (ch:=[]) un hok bare (λ b z=>absurd z (by simp)),r,q⟩
end
noncomputable def HL(sp:Sp)(dvs:LUz)(E:XK)(t:TA):TE:=λ σ H Q=>t σ H λ vs H1=>sp (vs++dvs) H1 Q E
noncomputable def Uu(C:jd)(m:jD)(sp:Sp)(dvs:LUz)(E:XK)(ta:TE)(t:TA):TE:=λ σ H Q=>ta σ H λ x H1=>∃a dx fs,x=.ref a/\H1 a=some (.ins C dx fs)/\fs.lookup m=none /\
 t σ H1 λ vs H2=>sp (x::(vs++dvs)) H2 Q E
noncomputable def Uv(C:jd)(sp:Sp)(dvs:LUz)(E:XK)(t:TA):TE:=λ σ H Q=>t σ H λ vs H1=>∀x dx,H1 x=none->H1 dx=none->dx≠x ->
 sp (.ref x::(vs++dvs)) (upd (upd H1 dx (.own x)) x (.ins C dx [])) (λ v H2=>v=.non/\Q (.ref x) H2) E
noncomputable def Binds(K:jw)(fd:jr)(ps:LSz)(ds:LWz):Prop :=
 ∀(s:jf)(us:LWz),K.In s.heap->(us++ds).length=ps.length->BindsTo s fd ⟨us,[]⟩ (ps.zip (us++ds))
theorem Binds.all{K:jw}{fd:jr}{ps:LSz}(h:∀us:LWz,us.length=ps.length->bindArgs fd ⟨us,[]⟩=pure (ps.zip us)):Binds K fd ps []:=λ s us _ hl=>by
 rw[aR]at hl |-;exact .of_eq (h us hl)
noncomputable def CQ(CX:CXT)(X:Cx)(E:XK):Prop:=∀(iZ:PNz)(σ:St)(H:Hp)(s:jf)(e:jg)(s':jf),Inv X iZ σ H s->CX X.stack H s E e s'->X.xe e s'
section
variable{X:Cx}{CX:CXT}{k:Nat}{f C:jd}{fd:jr}{ps:LSz}{sp:Sp}{dvs:LUz}{ds:LWz}{E:XK}{x m:jD}{p pos apos:Pos}{e o:jB}{es:List jB}{ta:TE}{t:TA}
theorem Rj{iZ:PNz}{σ:St}{H:Hp}{s:jf}{Q:VK}{us:LWz}{vs:LUz}(F:A3 X.prog X.w X.K X.mg X.ja CX k f fd ps sp)(hr:Room k X.A)(hb:Binds X.K fd ps ds)(hd:Vals dvs ds)(hx:CQ CX X E)
  (I:Inv X iZ σ H s) (r:Vals vs us) (h:sp (vs++dvs) H Q E):jh (jm X.prog X.w) X.A (call (.ref f) us) (EP X iZ σ Q) X.xe s:=by
 have r2:Vals (vs++dvs) (us++ds):=r.append hd;have hl:(us++ds).length=ps.length:=by rw[<-r2.length];exact F.len _ _ _ _ h
 refine ki (jY (F.run X.A X.stack s H ⟨us,[]⟩ (us++ds) (vs++dvs) Q E hr I.env0 (hb s us I.kIn hl) r2 h) λ r s' hq=>?_);cases r with
 |error e=>exact hx iZ σ H s e s' I hq
 |ok fl =>
  cases fl with
  |ret u=>exact I.after hq
  |next=>exact False.elim hq
  |brk=>exact False.elim hq
  |cont=>exact False.elim hq
theorem OC(F:A3 X.prog X.w X.K X.mg X.ja CX k f fd ps sp)(hr:Room k X.A)(hg:Gl X x)(hm:X.mg x=some (.ref f))(hk:ku X.K (.ref f)=true)(hb:Binds X.K fd ps ds)(hd:Vals dvs ds)(hx:CQ CX X E)
  (ha:PA X (e::es) t) (hdb:(x==("__debug__":jD))=false:=by decide) (he:jv (e::es) X.env=(false,eval e X.env)::jv es X.env:=by rfl) (hpl:(jX pos (jv es X.env)).any (·.1)=false:=by rfl) :
  PE X (.Call (.Name x p) (e::es) [] pos) (HL sp dvs E t):=by
 intro iZ s σ H Q I h;refine jG (Dr I hg hm ?_ hdb);refine lK (h₀:=X.ja) I.ok.mod.kin hk (thn (ha pos iZ s σ H _ I h) λ us s1 ⟨vs,H1,I1,r,q⟩=>⟨I1.kIn,?_⟩) he hpl;exact Rj F hr hb hd hx I1 r q
theorem Rw{pl:Sem Bool}(he:PE X o ta)(c:Cls X.K C)(hm:VG X.K C m f)(F:A3 X.prog X.w X.K X.mg X.ja CX k f fd ps sp)(hr:Room k X.A)(hb:Binds X.K fd ps ds)(hd:Vals dvs ds)(hx:CQ CX X E)
    (ht:eval (.Call (.Attribute o m apos) [] [] pos) X.env=(do
      let ov <-eval o X.env
      standAt apos.atName
      let (f,first) <-holding [ov] (getMethod ov m pl)
      callWith pos f first (jX pos (jv [] X.env)) (backToKw pos (keywordEach [] X.env))):=by rfl) :
    PE X (.Call (.Attribute o m apos) [] [] pos) (Uu C m sp dvs E ta Nr):=by
  intro iZ s σ H Q I h;refine methodCall_KW (pl:=pl) (thn (he iZ s σ H _ I h) λ u s1 hz_=>?_) ht;obtain⟨x,H1,I1,rx,a,dx,fs,ex,ea,l,q⟩:=hz_;subst ex;obtain rfl:u=Value.ref a:=rx;refine NS I1 ea c hm l ?_;exact callWith_K0 (first:=[.ref a]) I1.kIn hm.kp (Rj (us:=[.ref a]) (vs:=[.ref a]) F hr hb hd hx I1 (.cons rfl .nil) q)
structure Mk(K:jw)(C f:jd):Prop where
 makes:makesIn K C=true
 init:jH K (.ref C) "__init__"=some (some (.ref f))
 fn:isFn K (.ref f)=true
 kp:ku K (.ref C)=true
theorem Ri{iZ:PNz}{σ:St}{H:Hp}{s:jf}{Q:VK}{us:LWz}{vs:LUz}(M:Mk X.K C f)(F:A3 X.prog X.w X.K X.mg X.ja CX k f fd ps sp)(hr:Room (k+1) X.A)(hb:Binds X.K fd ps ds)(hd:Vals dvs ds)
  (hx:CQ CX X E) (I:Inv X iZ σ H s) (r:Vals vs us)
  (h:∀x dx,H x=none->H dx=none->dx≠x->sp (.ref x::(vs++dvs)) (upd (upd H dx (.own x)) x (.ins C dx [])) (λ v H2=>v=.non/\Q (.ref x) H2) E) :
  jh (jm X.prog X.w) X.A (call (.ref C) us) (EP X iZ σ Q) X.xe s:=by
 have hq:=h (s.heap.objs.size+1) s.heap.objs.size (I.hok.fresh (bJ _)) (I.hok.fresh (ah _)) (aD (br _));have I2:=Inv.made (C:=C) I;have r2:Vals (V.ref (s.heap.objs.size+1)::(vs++dvs)) (Value.ref (s.heap.objs.size+1)::(us++ds)):=.cons rfl (r.append hd);have hl:(Value.ref (s.heap.objs.size+1)::us++ds).length=ps.length:=by
  have e:=r2.length;rw[F.len _ _ _ _ hq]at e;exact e.symm
 refine ki (RL (f:=f) I.kIn M.makes M.init (beq_iff_eq.mp M.fn) (jY (F.run _ X.stack _ _ ⟨Value.ref (s.heap.objs.size+1)::us,[]⟩ (Value.ref (s.heap.objs.size+1)::(us++ds)) _ _ E (hr.make C us [])
  (I2.env0.make C us []) (hb _ (Value.ref (s.heap.objs.size+1)::us) I2.kIn hl) r2 hq) λ r s' hq'=>?_))
 cases r with
 |error e=>exact hx iZ σ _ _ e s' I2 hq'
 |ok fl =>
  cases fl with
  |ret u =>
   obtain⟨v,H',I3,rv,ev,q3⟩:=I2.after hq';subst ev;exact⟨rv,⟨V.ref (s.heap.objs.size+1),H',I3,rfl,q3⟩⟩
  |next=>exact False.elim hq'
  |brk=>exact False.elim hq'
  |cont=>exact False.elim hq'
theorem Tx(M:Mk X.K C f)(F:A3 X.prog X.w X.K X.mg X.ja CX k f fd ps sp)(hr:Room (k+1) X.A)(hg:Gl X x)(hm:X.mg x=some (.ref C))(hb:Binds X.K fd ps ds)(hd:Vals dvs ds)(hx:CQ CX X E)
  (ha:PA X (e::es) t) (hdb:(x==("__debug__":jD))=false:=by decide) (he:jv (e::es) X.env=(false,eval e X.env)::jv es X.env:=by rfl) (hpl:(jX pos (jv es X.env)).any (·.1)=false:=by rfl) :
  PE X (.Call (.Name x p) (e::es) [] pos) (Uv C sp dvs E t):=by
 intro iZ s σ H Q I h;refine jG (Dr I hg hm ?_ hdb);refine lK (h₀:=X.ja) I.ok.mod.kin M.kp (thn (ha pos iZ s σ H _ I h) λ us s1 ⟨vs,H1,I1,r,q⟩=>⟨I1.kIn,?_⟩) he hpl;exact Ri M F hr hb hd hx I1 r q
end
structure Ak(N P:LSz)(sc:jZ):Prop where
 kind:sc.kind=.function
 co:sc.isCoroutine=false
 gen:sc.isGenerator=false
 nd:N.Nodup
 pre:N.take P.length=P
 par:∀x∈P,sc.names.lookup x=some .local\/sc.names.lookup x=some .cell
 nofree:∀y∈sc.names,y.2≠.free
theorem fsc{N P:List jD}{sc:jZ}(a:sc.kind=.function:=by rfl)(b:sc.isCoroutine=false:=by rfl)(c:sc.isGenerator=false:=by rfl)(d:N.Nodup:=by decide +kernel)(e:N.take P.length=P:=by rfl)(f:∀x∈P,sc.names.lookup x=some .local\/sc.names.lookup x=some .cell:=by decide +kernel)(g:∀y∈sc.names,y.2≠.free:=by decide +kernel):Ak N P sc:=⟨a,b,c,d,e,f,g⟩
theorem K5{kindOf:jD->Option NameKind}{x:jD}:∀{binds:List (jD×jg)}{m:MGz},(∀v,(x,v)∉binds)->bindL kindOf binds m x=m x
 |[],_,_=>rfl
 | (n,v)::r,m,h=>by
  unfold bindL;rw[K5 λ w hw=>h w (ay _ hw)];split
  .have:x≠n:=by rintro rfl;exact h v aw
   simp[this]
  .rfl
theorem K7{kindOf:jD->Option NameKind}{x:jD}:∀{binds:List (jD×jg)}{m:MGz},(∀v,(x,v)∉binds)->bindC kindOf binds m x=m x
 |[],_,_=>rfl
 | (n,v)::r,m,h=>by
  unfold bindC;rw[K7 λ w hw=>h w (ay _ hw)];split
  .rfl
  .have:x≠n:=by rintro rfl;exact h v aw
   simp[this]
theorem K6{kindOf:jD->Option NameKind}{x:jD}{v:jg}:∀{P:LSz}{vs:LWz}{i:Nat}{m:MGz},P.Nodup->P[i]?=some x->vs[i]?=some v->kindOf x=some .local ->
  bindL kindOf (P.zip vs) m x=some v
 |[],_,_,_,_,h,_,_=>by simp at h
 |_::_,[],_,_,_,_,h,_=>by simp at h
 |p::P,w::vs,0,m,nd,h1,h2,hk=>by
  simp at h1 h2;subst h1;subst h2;show bindL kindOf ((p,w)::P.zip vs) m p=_;unfold bindL;rw[K5 λ v hv=>(bP.mp nd).1 (eX hv).1,jo hk];simp
 |p::P,w::vs,i+1,m,nd,h1,h2,hk=>by
  show bindL kindOf ((p,w)::P.zip vs) m x=_;unfold bindL;exact K6 (i:=i) (bP.mp nd).2 (by simpa using h1) (by simpa using h2) hk
theorem K8{kindOf:jD->Option NameKind}{x:jD}{v:jg}:∀{P:LSz}{vs:LWz}{i:Nat}{m:MGz},P.Nodup->P[i]?=some x->vs[i]?=some v->kindOf x≠some .local ->
  bindC kindOf (P.zip vs) m x=some v
 |[],_,_,_,_,h,_,_=>by simp at h
 |_::_,[],_,_,_,_,h,_=>by simp at h
 |p::P,w::vs,0,m,nd,h1,h2,hk=>by
  simp at h1 h2;subst h1;subst h2;show bindC kindOf ((p,w)::P.zip vs) m p=_;unfold bindC;rw[K7 λ v hv=>(bP.mp nd).1 (eX hv).1,jj hk];simp
 |p::P,w::vs,i+1,m,nd,h1,h2,hk=>by
  show bindC kindOf ((p,w)::P.zip vs) m x=_;unfold bindC;exact K8 (i:=i) (bP.mp nd).2 (by simpa using h1) (by simpa using h2) hk
noncomputable def start(N:LSz)(vs:LUz):St:=vs.map some++List.replicate (N.length-vs.length) none
noncomputable def B3(CX:CXT)(P:jk)(w:ju)(K:jw)(mg:MGz)(ja:jy)(N:LSz)(i9:jD)(scope:jZ)(f:jd)(cd:jg)(A:jx)(i6:List lH)(s:jf)(H:Hp)(E:XK):Cx where
 prog:=P
 w:=w
 K:=K
 mg:=mg
 ja:=ja
 A:=A.deeper (envOfC i9 scope s.heap.objs.size f cd)
 N:=N
 s₀:=s
 H₀:=H
 env:=envOfC i9 scope s.heap.objs.size f cd
 i6:=i6
 stack:=envOfC i9 scope s.heap.objs.size f cd::i6
 ex:=[]
 calm:=true
 fn:=λ_=>true
 pn:=[]
 xe:=λ e s'=>jh (jm P w) (A.deeper (envOfC i9 scope s.heap.objs.size f cd)) (leaving (envOfC i9 scope s.heap.objs.size f cd) e) (λ_ s''=>CX i6 H s E e s'') (λ e' s''=>CX i6 H s E e' s'') s'
theorem MU{sc:jZ}{n:Nat}{x:jD}(h:sc.names.lookup x=some .cell):∃c,(cellsFrom n sc.names []).lookup x=some c:=by
 have q:=cellsFrom_some sc.names n [] (.inl h);exact dm.mp q
theorem Qt{CX:CXT}{P:jk}{w:ju}{K:jw}{mg:MGz}{ja:jy}{N ps:LSz}{i9:jD}{scope:jZ}{f:jd}{cd:jg}{A:jx}{i6:List lH}{s s1:jf}{H:Hp}{E:XK}{us:LWz}{vs:LUz}
  (S:Ak N ps scope) (hd:A.handled=none) (e0:Env0 P w K mg ja A i6 s H) (hl:vs.length=ps.length) (r:Vals vs us)
  (x:InCallC s s.heap.objs.size (bindL (envOfC i9 scope s.heap.objs.size f cd).kindOf (ps.zip us) λ_=>none) (cellsFrom (s.heap.objs.size+1) scope.names []) (bindC (envOfC i9 scope s.heap.objs.size f cd).kindOf (ps.zip us) λ_=>none) s1) :
  Inv (B3 CX P w K mg ja N i9 scope f cd A i6 s H E) [] (start N vs) H s1:=by
 have hpl:ps.length<=N.length:=by have:=congrArg List.length S.pre;rw[cm]at this;lia
 obtain⟨h1,tk,rfl,hk⟩:=x.done;have noA:∀b:jd,b∉(B3 CX P w K mg ja N i9 scope f cd A i6 s H E).ex:=λ b z=>absurd (show b∈([]:List jd) from z) (by simp);refine⟨⟨e0.mod,S.kind,rfl,rfl,ah _,λ y z c h1 h2=>?_,λ y hy=>?_,λ y c _ h=>?_,λ_=>hd,Around.frames_deeper e0.frames,.inr ⟨rfl,rfl⟩,λ b z=>absurd z (noA b),e0.bs,e0.bsz,λ b _ _=>noA b,λ b z=>absurd z (noA b),e0.funs,e0.frf⟩,
  rfl,e0.bare,Un.kept hk,⟨_,x.toInCall.ns,λ i y v h1 h2 h3=>?_⟩,λ y c h=>⟨_,x.cell y c h⟩,e0.hok.fresh (ah _),λ y c h=>?_,λ p hp=>absurd (show p∈([]:PNz) from hp) (by simp),e0.hok.kept hk,?_⟩
 .exact name_of_addr x.apart (PySem.mem_of_lookup h1) (PySem.mem_of_lookup h2)
 .have hy:scope.names.lookup y=some .cell\/scope.names.lookup y=some .free:=hy;rcases hy with hy|hy
  .exact MU hy
  .exact absurd rfl (S.nofree _ (PySem.mem_of_lookup hy))
 .exact aN (x.above y c (PySem.mem_of_lookup h))
 .have hi:i<vs.length:=by
   unfold start at h2;by_cases hi:i<vs.length
   .exact hi
   .rw[dh (by simpa using hi)]at h2;rw[List.getElem?_replicate]at h2;split at h2<;>cases h2
  have ha:vs[i]?=some v:=by
   unfold start at h2;rw[List.getElem?_append_left (by simpa using hi),aE]at h2;cases e:vs[i]? with
   |none=>rw[e]at h2;cases h2
   |some a=>rw[e]at h2;cases h2;rfl
  obtain⟨u,hu,rv⟩:=r.get ha;have hp:ps[i]?=some y:=by
   rw[<-S.pre,List.getElem?_take_of_lt (by lia)];exact h1
  have ndP:ps.Nodup:=by rw[<-S.pre];exact S.nd.sublist (List.take_sublist _ _)
  refine⟨u,rv,?_⟩;rcases S.par y (aA hp) with k|k
  .exact .inl ⟨k,K6 ndP hp hu k⟩
  .obtain⟨c,e⟩:=MU (n:=s.heap.objs.size+1) k;refine .inr ⟨.inl k,c,e,?_⟩;have q:=x.cell y c e;rw[K8 ndP hp hu (by show scope.names.lookup y≠_;rw[k];decide)]at q;exact q
 .exact e0.hok.fresh (aN (x.above y c (PySem.mem_of_lookup h)))
 .unfold start;show _=N.length;rw[aH,aa,List.length_replicate];lia
theorem OV{CX:CXT}{P:jk}{w:ju}{K:jw}{mg:MGz}{ja:jy}{k:Nat}{f:jd}{name i9:jD}{params:Arguments}{body:List jE}{scope:jZ}{dV kV doc pm cdv ct oc:jg}{an od:Option jd}
  {osl:AOz} {N ps:LSz} {sp:Sp} (lk:K.lookup f=some ⟨oc,od,.func (fnOf name i9 params body scope dV kV doc pm an cdv ct),osl⟩) (hcd:codeIn K cdv i9=true) (S:Ak N ps scope)
  (len:∀vs H Q E,sp vs H Q E->vs.length=ps.length)
  (hbody:∀(A:jx)(i6:List lH)(s:jf)(H:Hp)(vs:LUz)(Q:VK)(E:XK),Room k (A.deeper (envOfC i9 scope s.heap.objs.size f cdv))->sp vs H Q E ->
   ∃t,PSs (B3 CX P w K mg ja N i9 scope f cdv A i6 s H E) body t/\t { nx:=λ_ H'=>Q .non H',rt:=Q } (start N vs) H) :
  A3 P w K mg ja CX (k+1) f (fnOf name i9 params body scope dV kV doc pm an cdv ct) ps sp:=by
 refine⟨len,λ A i6 s H args us vs Q E hr e0 hb r hsp=>?_⟩;have hl:=len _ _ _ _ hsp;have KX:K.In s.heap:=e0.mod.kin.keeps λ b o e=>(e0.bs b o e).1;have lim:s.heap.NoLimit:=e0.mod.nolimit.keeps λ b o e=>(e0.bs b o e).1;have hkind:∀y∈ps.zip us,scope.names.lookup y.1=some .local\/(scope.names.lookup y.1=some .cell/\((cellsFrom (s.heap.objs.size+1) scope.names []).lookup y.1).isSome=true):=λ⟨n,v⟩ hy=>by
  rcases S.par n (eX hy).1 with q|q
  .exact .inl q
  .exact .inr ⟨q,cellsFrom_some _ _ _ (.inl q)⟩
 refine codeAny_call_function hr.depth (KX _ _ lk) rfl S.co S.gen rfl (codeRec_of KX hcd) (hb _ _ _ _ ?_);refine wpAny_newFunctionEnv_cells S.kind hkind λ env he s1 x=>?_;subst he;refine⟨lim.keeps x.toInCall.keep,codeAny_func ?_⟩;obtain⟨t,ht,hq⟩:=hbody A i6 s H vs Q E (hr.deeper _) hsp;have I:Inv (B3 CX P w K mg ja N i9 scope f cdv A i6 s H E) [] (start N vs) H s1:=Qt S hr.hd e0 hl r x;refine jA (ht [] s1 (start N vs) H _ I hq) (λ fl s' hs=>?_) λ e s' hs=>hs;have fin:∀{σ':St}{H':Hp}{v:V}{u:jg},Inv (B3 CX P w K mg ja N i9 scope f cdv A i6 s H E) [] σ' H' s'->RelV v u->Q v H'->CE i6 P w H s Q u s' :=
  λ{σ' H' v u} J rv q=>⟨v,H',J.os,J.bare,J.ja,J.hok,rv,q⟩
 cases fl with
 |ret u =>
  obtain⟨v,σ',H',J,rv,q⟩:=hs;exact fin J rv q
 |next =>
  obtain⟨σ',H',J,q⟩:=hs;exact fin (v:=V.non) (u:=Value.none) J rfl q
 |brk =>
  obtain⟨_,_,_,q⟩:=hs;exact False.elim q
 |cont =>
  obtain⟨_,_,_,q⟩:=hs;exact False.elim q
section
variable{X:Cx}{x:jD}{p pos:Pos}{e:jB}{es:List jB}{t:TA}{id T:String}{r:LUz->Hp->VK->Prop}
noncomputable def tCB(r:LUz->Hp->VK->Prop)(t:TA):TE:=λ σ H Q=>t σ H λ vs H1=>r vs H1 Q
theorem Ry(hc:BK X (.builtin id) r)(hg:Gl X x)(hm:X.mg x=none)(hv:bootBuiltins x=some (.builtin id))(ha:PA X (e::es) t)(hn:x≠"__name__":=by decide)(hdb:(x==("__debug__":jD))=false:=by decide)
  (he:jv (e::es) X.env=(false,eval e X.env)::jv es X.env:=by rfl) (hpl:(jX pos (jv es X.env)).any (·.1)=false:=by rfl):PE X (.Call (.Name x p) (e::es) [] pos) (tCB r t):=by
 intro iZ s σ H Q I h;refine jG (BS I hg hm hv ?_ hn hdb);exact PyProof.Rows.callWith_builtin1 (thn (ha pos iZ s σ H _ I h) λ us s1 ⟨vs,H1,I1,r1,q1⟩=>hc iZ s1 σ H1 vs us Q I1 r1 q1) he hpl
theorem AL(hc:BK X (.builtin id) r)(hm:X.mg x=none)(ha:PA X (e::es) t)(hg:Gl X x:=by rfl)(hv:bootBuiltins x=some (.builtin id):=by rfl)(hn:x≠"__name__":=by decide)(hdb:(x==("__debug__":jD))=false:=by decide)
  (he:jv (e::es) X.env=(false,eval e X.env)::jv es X.env:=by rfl) (hpl:(jX pos (jv es X.env)).any (·.1)=false:=by rfl):PE X (.Call (.Name x p) (e::es) [] pos) (tCB r t):=Ry hc hg hm hv ha hn hdb he hpl
theorem Gf(hc:BK X (.type T) r)(hg:Gl X x)(hm:X.mg x=none)(hv:bootBuiltins x=some (.type T))(ha:PA X (e::es) t)(hn:x≠"__name__":=by decide)(hdb:(x==("__debug__":jD))=false:=by decide)
  (he:jv (e::es) X.env=(false,eval e X.env)::jv es X.env:=by rfl) (hpl:(jX pos (jv es X.env)).any (·.1)=false:=by rfl):PE X (.Call (.Name x p) (e::es) [] pos) (tCB r t):=by
 intro iZ s σ H Q I h;refine jG (BS I hg hm hv ?_ hn hdb);exact PyProof.Rows.callWith_type1 (thn (ha pos iZ s σ H _ I h) λ us s1 ⟨vs,H1,I1,r1,q1⟩=>hc iZ s1 σ H1 vs us Q I1 r1 q1) he hpl
end
end L2
namespace HT
open PySem.W
open PySem PyProof.Rows
noncomputable def lexLt:List Int->List Int->Bool
 |[],[]=>false
 |[],_::_=>true
 |_::_,[]=>false
 |x::xs,y::ys=>if x=y then lexLt xs ys else decide (x<y)
theorem lexLt_cons(x y:Int)(xs ys:List Int):lexLt (x::xs) (y::ys)=if x=y then lexLt xs ys else decide (x<y):=rfl
theorem lexLt_nil_nil:lexLt [] []=false:=rfl
section
variable{prog:jk}{w:ju}{A:jx}{E:VPz}{s:jf}
noncomputable def sIx(n d:Nat):Option Int->Nat
 |none=>d
 |some v=>if v<0 then (v+(n:Int)).toNat else min v.toNat n
end
end HT
namespace L2
open PySem.W
open PySem PySem.Spec PyProof.Rows
noncomputable abbrev TO:=St->Hp->(Option Int->Hp->Prop)->Prop
noncomputable def PO(X:Cx)(e:Option jB)(t:TO):Prop :=
 ∀(iZ:PNz)(s:jf)(σ:St)(H:Hp)(Q:Option Int->Hp->Prop),Inv X iZ σ H s->t σ H Q ->
  jh (jm X.prog X.w) X.A (evalPart e X.env) (λ u s'=>∃o H',Inv X iZ σ H' s'/\IsPart u o/\Q o H') X.xe s
noncomputable def Of:TO:=λ_ H Q=>Q none H
noncomputable def Us(t:TE):TO:=λ σ H Q=>t σ H λ x H1=>∃i,x=.int i/\Q (some i) H1
theorem Ff{ns:List Int}:∀{us:LWz},Vals (ns.map V.int) us->IntsAre us ns:=by
 induction ns with
 |nil=>intro us r;rw[b9]at r;cases r;exact .nil
 |cons n ns ih =>
  intro us r;rw[aJ]at r;cases r with
  |cons r1 r2 =>
   obtain⟨t,e⟩:=r1;subst e;exact .cons n t (ih r2)
section
variable{X:Cx}{e:jB}{te:TE}{lo hi:Option jB}{tl th:TO}{pos p2:Pos}
theorem F4:PO X none Of:=by
 intro iZ s σ H Q I h;rw[evalPart_none];exact je ⟨none,H,I,.none,h⟩
theorem F3(h:PE X e te):PO X (some e) (Us te):=by
 intro iZ s σ H Q I hw;rw[evalPart_some];refine thn (h iZ s σ H _ I hw) λ u s1 hz_=>?_;obtain⟨x,H1,I1,r1,q1⟩:=hz_;obtain⟨i,rfl,q⟩:=q1;obtain⟨t,rfl⟩:=r1;exact⟨some i,H1,I1,.int i t,q⟩
noncomputable def SlR(X:Cx)(r:V->Option Int->Option Int->Hp->VK->Prop):Prop :=
 ∀(iZ:PNz)(s:jf)(σ:St)(H:Hp)(x:V)(v vl vu:jg)(lo hi:Option Int)(sl:jd)(Q:VK),Inv X iZ σ H s->RelV x v->s.heap.IsSliceOf sl vl vu .none->IsPart vl lo->IsPart vu hi->r x lo hi H Q ->
  ∃T id,typeLookup (.type T) "__getitem__"=pure (some (.builtin id))/\s.TypeIs v T/\jh (jm X.prog X.w) X.A (getItem v (.ref sl)) (EP X iZ σ Q) X.xe s
noncomputable def tSl(r:V->Option Int->Option Int->Hp->VK->Prop)(te:TE)(tl th:TO):TE:=λ σ H Q=>te σ H λ x H1=>tl σ H1 λ l H2=>th σ H2 λ u H3=>r x l u H3 Q
theorem DU{r:V->Option Int->Option Int->Hp->VK->Prop}(hr:SlR X r)(he:PE X e te)(hl:PO X lo tl)(hu:PO X hi th):PE X (.Subscript e (.Slice lo hi none p2) pos) (tSl r te tl th):=by
 intro iZ s σ H Q I h;refine Subscript_ (thn (he iZ s σ H _ I h) λ v s1 hz_=>?_);obtain⟨x,H1,I1,r1,q1⟩:=hz_;refine wpAny_Slice (thn (hl iZ s1 σ H1 _ I1 q1) λ vl s2 hz_=>?_);obtain⟨l,H2,I2,pl,q2⟩:=hz_;refine thn (hu iZ s2 σ H2 _ I2 q2) λ vu s3 hz_=>?_;obtain⟨u,H3,I3,pu,q3⟩:=hz_;rw[evalPart_none];refine je ?_;have I4:Inv X iZ σ H3 { s3 with heap:=s3.heap.push { cls:=.type "slice",data:=.fields #[vl,vu,.none] } }:=I3.kept (t':=s3.toks) λ b ob q=>ae _ q;obtain⟨T,id,hT,ht,hg⟩:=hr iZ { s3 with heap:=s3.heap.push { cls:=.type "slice",data:=.fields #[vl,vu,.none] } } σ H3 x v vl vu l u s3.heap.objs.size Q I4 r1 (Heap.IsSliceOf.new ..) pl pu q3;show jh (jm X.prog X.w) X.A (subscriptTail e (.Slice lo hi none p2) v (.ref s3.heap.objs.size)) (EP X iZ σ Q) X.xe { s3 with heap:=s3.heap.push { cls:=.type "slice",data:=.fields #[vl,vu,.none] } };exact tail_any (ops:=[.ref s3.heap.objs.size,v]) ht hT hg (by with_unfolding_all rfl)
noncomputable def JK(xs:LUz)(lo hi:Option Int):LUz:=(xs.drop (HT.sIx xs.length 0 lo)).take (HT.sIx xs.length xs.length hi-HT.sIx xs.length 0 lo)
theorem MP(xs:LUz)(lo hi:Option Int):(JK xs lo hi).length<=xs.length:=by
 unfold JK;rw[cm,eQ];lia
end
noncomputable def ixN(n:Nat)(i:Int):Option Nat:=if 0<=i then (if i<n then some i.toNat else none) else if -(n:Int)<=i then some (i+n).toNat else none
noncomputable def atI{α:Type}(xs:List α)(i:Int):Option α:=(ixN xs.length i).bind λ j=>xs[j]?
theorem OP{n:Nat}{i:Int}{j:Nat}(h:ixN n i=some j):seqIndex? i n=some j/\j<n/\-(n:Int)<=i/\i<n:=by
 unfold ixN at h;by_cases h0:0<=i
 .rw[jo h0]at h;by_cases h1:i<n
  .rw[jo h1]at h;have e:i.toNat=j:=Option.some.inj h;exact⟨by rw[seqIndex_of h0 h1,e],by lia,by lia,h1⟩
  .rw[jj h1]at h;cases h
 .rw[jj h0]at h;by_cases h1:-(n:Int)<=i
  .rw[jo h1]at h;have e:(i+n).toNat=j:=Option.some.inj h;exact⟨by rw[seqIndex_neg (by lia) h1,e],by lia,h1,by lia⟩
  .rw[jj h1]at h;cases h
theorem Pk{α:Type}{xs:List α}{i:Int}{v:α}(h:atI xs i=some v):∃j,seqIndex? i xs.length=some j/\xs[j]?=some v/\j<xs.length/\-(xs.length:Int)<=i/\i<xs.length:=by
 unfold atI at h;cases e:ixN xs.length i with
 |none=>rw[e]at h;cases h
 |some j =>
  rw[e]at h;obtain⟨h1,h2,h3,h4⟩:=OP e;exact⟨j,h1,h,h2,h3,h4⟩
theorem LK{α:Type}{xs:List α}{j:Nat}{v:α}(h:xs[j]?=some v):atI xs (j:Int)=some v:=by
 have hj:j<xs.length:=(aF.mp h).1;have e:ixN xs.length (j:Int)=some j:=by
  unfold ixN;rw[jo (by lia),jo (by lia)];simp
 unfold atI;rw[e];exact h
theorem SG{α:Type}(xs:List α)(v:α):atI (xs++[v]) (-1)=some v:=by
 have hl:(xs++[v]).length=xs.length+1:=by simp
 have e:ixN (xs++[v]).length (-1)=some xs.length:=by
  unfold ixN;rw[hl,jj (by decide),jo (by lia)];congr 1;lia
 unfold atI;rw[e];show(xs++[v])[xs.length]?=some v;simp
noncomputable def Um(b:jB):Prop:=∀o i,subscripted b false o i=operate [o,i] (getItem o i)
noncomputable def IxR(X:Cx)(r:R2):Prop :=
 ∀(value slice:jB)(iZ:PNz)(s:jf)(σ:St)(H:Hp)(x y:V)(v u:jg)(Q:VK),Inv X iZ σ H s->RelV x v->RelV y u->r x y H Q ->
  subscripted slice false v u=operate [v,u] (getItem v u)->jh (jm X.prog X.w) X.A (subscriptTail value slice v u) (EP X iZ σ Q) X.xe s
noncomputable def MtR(X:Cx)(id:String)(r:V->LUz->Hp->VK->Prop):Prop :=
 ∀(iZ:PNz)(s:jf)(σ:St)(H:Hp)(x:V)(xs:LUz)(v:jg)(us:LWz)(Q:VK),Inv X iZ σ H s->RelV x v->Vals xs us->r x xs H Q ->
  jh (jm X.prog X.w) X.A (call (.builtin id) (v::us)) (EP X iZ σ Q) X.xe s
section
variable{X:Cx}{a b:jB}{ta tb:TE}{pos:Pos}
theorem Ax{r:R2}(hr:IxR X r)(ha:PE X a ta)(hb:PE X b tb)(hs:Um b:=by exact λ_ _=>rfl):PE X (.Subscript a b pos) (tOp r ta tb):=by
 intro iZ s σ H Q I h;exact Subscript_ (V7 ha hb I h λ v u s2 x y H2 I2 rx ry q=>hr a b iZ s2 σ H2 x y v u Q I2 rx ry q (hs _ _))
inductive WW(K:jw)(x y:V)(H:Hp)(Q:VK):Prop
 |mk (p:jd) (xs:LUz) (i:Int) (v:V) (e1:x=.ref p) (e2:y=.int i) (s:SqL K H p xs) (a:atI xs i=some v) (q:Q v H):WW K x y H Q
inductive WV(K:jw)(x y:V)(H:Hp)(Q:VK):Prop
 |mk (p:jd) (xs:LUz) (i:Int) (v:V) (e1:x=.ref p) (e2:y=.int i) (s:SqT K H p xs) (a:atI xs i=some v) (q:Q v H):WV K x y H Q
noncomputable def Wm(K:jw):R2:=λ x y H Q=>WW K x y H Q
noncomputable def UW(K:jw):R2:=λ x y H Q=>WV K x y H Q
theorem Du:IxR X (Wm X.K):=by
 intro value slice iZ s σ H x y v u Q I rx ry h hs;obtain⟨p,xs,i,z,rfl,rfl,hq,he,q⟩:=h;cases rx;obtain⟨t,rfl⟩:=ry;obtain⟨its,r,pl,hz⟩:=I.list hq;obtain⟨j,h1,h2,h3,h4,h5⟩:=Pk he;obtain⟨w,ew,rw'⟩:=r.get h2;have hl:=r.length;have hn:=Gw;have fin:EP X iZ σ Q w s:=⟨z,H,I,rw',q⟩;by_cases h0:0<=i
 .have hj:i.toNat=j:=by
   rw[seqIndex_of h0 h5]at h1;exact Option.some.inj h1
  exact item_listR pl.isList h0 (by lia) (by rw[hj];simpa using ew) fin hs
 .have hj:(i+(its.toArray.size:Int)).toNat=j:=by
   rw[seqIndex_neg (by lia) h4]at h1;rw[aj,<-hl];exact Option.some.inj h1
  exact subscriptTail_builtinR (x:=w) pl.isList.typeIs slot_list_getitem.lookup
   (wpAny_getItem_list_neg (Q:=λ r s'=>r=w/\EP X iZ σ Q r s') pl.isList (by lia) (by rw[aj]<;>lia) (by lia) (by rw[hj];simpa using ew) ⟨rfl,fin⟩) hs
theorem Aw:IxR X (UW X.K):=by
 intro value slice iZ s σ H x y v u Q I rx ry h hs;obtain⟨p,xs,i,z,rfl,rfl,hq,he,q⟩:=h;cases rx;obtain⟨t,rfl⟩:=ry;obtain⟨its,r,pl,hz⟩:=I.tuple hq;obtain⟨j,h1,h2,h3,h4,h5⟩:=Pk he;obtain⟨w,ew,rw'⟩:=r.get h2;have hl:=r.length;have hn:=Gw;have fin:EP X iZ σ Q w s:=⟨z,H,I,rw',q⟩;exact subscriptTail_builtinR (x:=w) pl.typeIs slot_tuple_getitem.lookup
  (getItem_tuple (j:=j) (Q:=λ r s'=>r=w/\EP X iZ σ Q r s') pl (by lia) (by lia) (by rw[aj,<-hl];exact h1) (by simpa using ew) ⟨rfl,fin⟩) hs
theorem NJ(its:LWz)(n j:Nat)(u:jg):Obj.mapSeq (·.setIfInBounds j u) { cls:=.type "list",data:=.seq its.toArray n }={ cls:=.type "list",data:=.seq (its.set j u).toArray n }:=by
 simp[Obj.mapSeq]
theorem Inv.lst{iZ:PNz}{σ:St}{H:Hp}{s:jf}{p:jd}{xs:LUz}(I:Inv X iZ σ H s)(h:H p=some (.lst xs)) :
  ∃(its:LWz)(n:Nat),Vals xs its/\s.heap.get? p=some { cls:=.type "list",data:=.seq its.toArray n }/\xs.length<=jt:=by
 obtain⟨z,its,n,r,e⟩:=I.hok p _ h;exact⟨its,n,r,e,z⟩
theorem Inv.lstUpd{iZ:PNz}{σ:St}{H:Hp}{s:jf}{p:jd}{xs ys:LUz}{its its':LWz}{n n':Nat}{f:Obj->Obj}(I:Inv X iZ σ H s)(h:H p=some (.lst xs))
  (ho:s.heap.get? p=some { cls:=.type "list",data:=.seq its.toArray n }) (hf:f { cls:=.type "list",data:=.seq its.toArray n }={ cls:=.type "list",data:=.seq its'.toArray n' }) (r:Vals ys its') (hz:ys.length<=jt) (t:Nat) :
  Inv X iZ σ (upd H p (.lst ys)) { s with heap:=s.heap.update p f,toks:=t }:=by
 have e:(s.heap.update p f).get? p=some { cls:=.type "list",data:=.seq its'.toArray n' }:=by
  rw[bg f ho (by rw[hf]<;>rfl),hf]
 refine I.write (x:=p) (e:=p) (by rw[h];trivial) (.inl rfl) (λ b u hb q=>(bU _ _ (Ne.symm hb)).trans q) ⟨_,e⟩ ?_;exact⟨hz,its',n',r,e⟩
noncomputable def Wl:V->V->V->Hp->(Hp->Prop)->Prop:=λ o i v H Q=>∃p xs k j,o=.ref p/\i=.int k/\H p=some (.lst xs)/\ixN xs.length k=some j/\Q (upd H p (.lst (xs.set j v)))
theorem Re:WP X Wl:=by
 intro iZ s σ H o i v ov iv u Q I ro ri rv h;obtain⟨p,xs,k,j,rfl,rfl,hp,hj,q⟩:=h;cases ro;obtain⟨t,rfl⟩:=ri;obtain⟨its,n,r,ho,hz⟩:=I.lst hp;obtain⟨h1,h2,h3,h4⟩:=OP hj;have hl:=r.length;have hn:=Gw;have I':Inv X iZ σ (upd H p (.lst (xs.set j v))) { s with heap:=s.heap.update p (Obj.mapSeq (·.setIfInBounds j u)) } :=
  I.lstUpd hp ho (NJ its n j u) (r.set rv j) (by rw[List.length_set];exact hz) s.toks
 by_cases h0:0<=k
 .have hk:k.toNat=j:=by
   rw[seqIndex_of h0 h4]at h1;exact Option.some.inj h1
  exact ki_setAt ho h0 (by lia) (by rw[aj,<-hl];exact h4) (by rw[hk];exact⟨_,I',q⟩)
 .have hk:(k+(its.toArray.size:Int)).toNat=j:=by
   rw[seqIndex_neg (by lia) h3]at h1;rw[aj,<-hl];exact Option.some.inj h1
  exact ki_setBack ho (by lia) (by rw[aj,<-hl];exact h3) (by lia) (by rw[hk];exact⟨_,I',q⟩)
theorem Lb(lo hi:Option Int)(n:Nat):(sliceBounds lo hi none n).1=((HT.sIx n 0 lo:Nat):Int)/\(sliceBounds lo hi none n).2.1=((HT.sIx n n hi:Nat):Int)/\(sliceBounds lo hi none n).2.2=1:=by
 refine⟨?_,?_,rfl⟩
 .cases lo with
  |none=>simp[sliceBounds,HT.sIx]
  |some i =>
   simp only[sliceBounds,HT.sIx,Option.getD_none,show(1:Int)>0 by decide,if_true];by_cases h:i<0
   .simp only[h,if_true]<;>lia
   .simp only[h,if_false]<;>lia
 .cases hi with
  |none=>simp[sliceBounds,HT.sIx]
  |some i =>
   simp only[sliceBounds,HT.sIx,Option.getD_none,show(1:Int)>0 by decide,if_true];by_cases h:i<0
   .simp only[h,if_true]<;>lia
   .simp only[h,if_false]<;>lia
theorem J1(its:LWz)(lo hi:Option Int):slicePick its.toArray lo hi none=((its.drop (HT.sIx its.length 0 lo)).take (HT.sIx its.length its.length hi-HT.sIx its.length 0 lo)).toArray:=by
 obtain⟨h1,h2,h3⟩:=Lb lo hi its.toArray.size;unfold slicePick;rw[h1,h2,h3];simp only[sliceRange_one,pick_run,aj]<;>rfl
noncomputable def UV(K:jw):V->Option Int->Option Int->Hp->VK->Prop:=λ x lo hi H Q=>∃a xs,x=.ref a/\SqL K H a xs/\∀p,H p=none->Q (.ref p) (upd H p (.lst (JK xs lo hi)))
theorem Fz:SlR X (UV X.K):=by
 intro iZ s σ H x v vl vu lo hi sl Q I rx hs pl pu h;obtain⟨a,xs,rfl,hx,q⟩:=h;cases rx;obtain⟨its,r,ht,hz⟩:=I.list hx;have hlen:=r.length;refine⟨"list",_,slot_list_getitem.lookup,ht.isList.typeIs,?_⟩;refine wpAny_getItem_list_slice ht.isList hs pl pu .none (by simp) ?_ (by rw[aj]<;>lia);rw[J1,<-hlen];refine⟨.ref s.heap.objs.size,_,I.laid (t':=s.toks) (o:=.lst (JK xs lo hi)) (λ b ob q=>ae _ q) (ah _) ?_,rfl,q _ (I.hok.fresh (ah _))⟩;exact⟨aV (MP xs lo hi) hz,_,0,(r.drop (HT.sIx xs.length 0 lo)).take (HT.sIx xs.length xs.length hi-HT.sIx xs.length 0 lo),ar _ rfl⟩
noncomputable def BN:V->Bool
 |.non=>true
 |.bl _=>true
 |.int _=>true
 |.str _=>true
 |_=>false
noncomputable def eqV:V->V->Bool
 |.non,.non=>true
 |.bl a,.bl b=>a==b
 |.bl a,.int b=>(if a then 1 else 0)==b
 |.int a,.bl b=>a==(if b then 1 else 0)
 |.int a,.int b=>a==b
 |.str a,.str b=>a==b
 |_,_=>false
theorem NX{A:jx}{s:jf}{y x:V}{u v:jg}(ry:RelV y u)(rx:RelV x v)(fy:BN y=true)(fx:BN x=true):SeqAt.EqAt A s u v (eqV y x):=by
 cases y with
 |non =>
  cases ry;cases x with
  |non=>cases rx;exact SeqAt.EqAt.same _
  |bl b=>cases rx;exact SeqAt.EqAt.none_bool b
  |int b=>obtain⟨t,rfl⟩:=rx;exact SeqAt.EqAt.none_int b t
  |str b=>obtain⟨t,rfl⟩:=rx;exact SeqAt.EqAt.none_str b t
  |_=>exact absurd (show false=true from fx) aq
 |bl a =>
  cases ry;cases x with
  |non=>cases rx;exact SeqAt.EqAt.bool_none a
  |bl b=>cases rx;exact SeqAt.EqAt.bool_bool a b
  |int b=>obtain⟨t,rfl⟩:=rx;exact SeqAt.EqAt.bool_int a b t
  |str b=>obtain⟨t,rfl⟩:=rx;exact SeqAt.EqAt.bool_str a b t
  |_=>exact absurd (show false=true from fx) aq
 |int a =>
  obtain⟨t',rfl⟩:=ry;cases x with
  |non=>cases rx;exact SeqAt.EqAt.int_none a t'
  |bl b=>cases rx;exact SeqAt.EqAt.int_bool a t' b
  |int b=>obtain⟨t,rfl⟩:=rx;exact SeqAt.EqAt.int_int a t' b t
  |str b=>obtain⟨t,rfl⟩:=rx;exact SeqAt.EqAt.int_str a t' b t
  |_=>exact absurd (show false=true from fx) aq
 |str a =>
  obtain⟨t',rfl⟩:=ry;cases x with
  |non=>cases rx;exact SeqAt.EqAt.str_none a t'
  |bl b=>cases rx;exact SeqAt.EqAt.str_bool a t' b
  |int b=>obtain⟨t,rfl⟩:=rx;exact SeqAt.EqAt.str_int a t' b t
  |str b=>obtain⟨t,rfl⟩:=rx;exact SeqAt.EqAt.str_str a t' b t
  |_=>exact absurd (show false=true from fx) aq
 |_=>exact absurd (show false=true from fy) aq
noncomputable def eqU(x:V)(u:jg):Bool:=match u with
 |.none=>eqV .non x
 |.bool b=>eqV (.bl b) x
 |.int i _=>eqV (.int i) x
 |.str z _=>eqV (.str z) x
 |_=>false
theorem Sm{x y:V}{u:jg}(r:RelV y u)(f:BN y=true):eqU x u=eqV y x:=by
 cases y with
 |non=>cases r;rfl
 |bl b=>cases r;rfl
 |int i=>obtain⟨t,rfl⟩:=r;rfl
 |str z=>obtain⟨t,rfl⟩:=r;rfl
 |_=>exact absurd (show false=true from f) aq
theorem LL{x:V}:∀{xs:LUz}{us:LWz},Vals xs us->xs.all BN=true->us.any (eqU x)=xs.any λ y=>eqV y x
 |_,_,.nil,_=>rfl
 |y::xs,u::us,.cons r t,f=>by
  rw[dY,ax]at f;rw[du,du,Sm r f.1,LL t f.2]
theorem IG{A:jx}{s:jf}{x:V}{v:jg}(rx:RelV x v)(fx:BN x=true):∀{xs:LUz}{us:LWz},Vals xs us->xs.all BN=true->∀u∈us,SeqAt.EqAt A s u v (eqU x u)
 |_,_,.nil,_=>λ u hu=>by cases hu
 |y::xs,u::us,.cons r t,f=>λ u' hu=>by
  rw[dY,ax]at f;rcases aO.mp hu with rfl|hu
  .rw[Sm r f.1];exact NX r rx f.1 fx
  .exact IG rx fx t f.2 u' hu
noncomputable def inV(x:V)(xs:LUz):Bool:=xs.any λ y=>eqV y x
noncomputable def rIn(K:jw)(neg:Bool):R2:=λ x y H Q=>∃p xs,y=.ref p/\(SqL K H p xs\/SqT K H p xs)/\BN x=true/\xs.all BN=true/\Q (.bl (if neg then !inV x xs else inV x xs)) H
theorem PZ:OpR X (jO .In) (rIn X.K false):=by
 intro iZ s σ H x y v u Q I rx ry h;obtain⟨p,xs,rfl,hq,fx,fs,q⟩:=h;cases ry;rcases hq with hq|hq
 .obtain⟨its,r,pl,hz⟩:=I.list hq;refine SeqAt.in_listAt (eqU x) pl.isList (λ w hw=>IG rx fx r fs w (by simpa using hw)) ⟨.bl _,H,I,rfl,?_⟩;rw[show its.toArray.any (eqU x)=its.any (eqU x) by simp,LL r fs];exact q
 .obtain⟨its,r,pl,hz⟩:=I.tuple hq;refine SeqAt.in_tupleAt (eqU x) pl (λ w hw=>IG rx fx r fs w (by simpa using hw)) ⟨.bl _,H,I,rfl,?_⟩;rw[show its.toArray.any (eqU x)=its.any (eqU x) by simp,LL r fs];exact q
theorem AV:BK X (.builtin "len") (λ xs H Q=>∃p ys,xs=[.ref p]/\(SqL X.K H p ys\/SqT X.K H p ys)/\Q (.int ys.length) H):=by
 intro iZ s σ H xs us Q I r h;obtain⟨p,ys,rfl,hq,q⟩:=h;obtain⟨u,rfl,rx⟩:=D0 r;cases rx;have hn:=Gw;rcases hq with hq|hq
 .obtain⟨its,r',pl,hz⟩:=I.list hq;have hlen:=r'.length;exact Calls.call_len_list pl.isList (by simp only[aj]<;>lia) ⟨.int ys.length,H,I.tok _,⟨s.toks+1,by rw[aj,hlen]⟩,q⟩
 .obtain⟨its,r',pl,hz⟩:=I.tuple hq;have hlen:=r'.length;exact len_tuple pl (by simp only[aj]<;>lia) ⟨.int ys.length,H,I.tok _,⟨s.toks+1,by rw[aj,hlen]⟩,q⟩
theorem LJ:BK X (.type "list") (λ xs H Q=>∃p ys,xs=[.ref p]/\(SqL X.K H p ys\/SqT X.K H p ys)/\∀l,H l=none->Q (.ref l) (upd H l (.lst ys))):=by
 intro iZ s σ H xs us Q I r h;obtain⟨p,ys,rfl,hq,q⟩:=h;obtain⟨u,rfl,rx⟩:=D0 r;cases rx;have fin:∀(its:LWz),Vals ys its->ys.length<=jt->∀(h':jy)(c':Nat),(∀b o',s.heap.get? b=some o'->h'.get? b=some o') ->
   h'.get? s.heap.objs.size=some { cls:=.type "list",dict:=none,data:=.seq its.toArray c',slots:=#[] }->EP X iZ σ Q (.ref s.heap.objs.size) { s with heap:=h' }:=λ its r' hz h' c' kp e =>
  ⟨.ref s.heap.objs.size,_,I.laid (t':=s.toks) kp (ah _) (show ObjOk X.prog X.w _ h' _ (.lst ys) from ⟨hz,its,c',r',e⟩),rfl,q _ (I.hok.fresh (ah _))⟩
 rcases hq with hq|hq
 .obtain⟨its,r',pl,hz⟩:=I.list hq;have hlen:=r'.length;obtain⟨o,ho,hc,n,hd⟩:=pl.isList;exact call_list_seq p (.inl rfl) ho hc hd (λ h' c' kp e=>fin its r' hz h' c' kp e) (by simp only[aj]<;>lia)
 .obtain⟨its,r',pl,hz⟩:=I.tuple hq;have hlen:=r'.length;obtain⟨o,ho,hc,n,hd⟩:=pl;exact call_list_seq p (.inr rfl) ho hc hd (λ h' c' kp e=>fin its r' hz h' c' kp e) (by simp only[aj]<;>lia)
theorem E9:BK X (.type "tuple") (λ xs H Q=>∃p ys,xs=[.ref p]/\((SqL X.K H p ys/\∀l,H l=none->Q (.ref l) (upd H l (.tup ys)))\/(SqT X.K H p ys/\Q (.ref p) H))):=by
 intro iZ s σ H xs us Q I r h;obtain⟨p,ys,rfl,h⟩:=h;obtain⟨u,rfl,rx⟩:=D0 r;cases rx;rcases h with ⟨hq,q⟩|⟨hq,q⟩
 .obtain⟨its,r',pl,hz⟩:=I.list hq;have hlen:=r'.length;refine call_tuple_list pl.isList (λ h' kp=>?_) (by simp only[aj]<;>lia);have I1:Inv X iZ σ H { s with heap:=h' }:=I.kept (t':=s.toks) kp;have I2:Inv X iZ σ (upd H h'.objs.size (.tup ys)) { s with heap:=h'.push { cls:=.type "tuple",data:=.seq its.toArray } } :=
   I1.laid (t':=s.toks) (λ b o e=>ae _ e) (ah _) (show ObjOk X.prog X.w _ _ _ (.tup ys) from ⟨hz,its,r',IsTup.new _ _⟩)
  exact⟨.ref h'.objs.size,_,I2,rfl,q _ (I1.hok.fresh (ah _))⟩
 .obtain⟨its,r',pl,hz⟩:=I.tuple hq;exact call_tuple_same pl ⟨.ref p,H,I,rfl,q⟩
noncomputable def tyV(K:jw)(T:String)(x:V)(H:Hp):Prop:=match x with
 |.str _=>T="str"
 |.int _=>T="int"
 |.ref p=>(T="list"/\∃xs,SqL K H p xs)\/(T="tuple"/\∃o,K.lookup p=some o/\o.cls=.type "tuple"/\o.dict=none) \/
   (T="dict"/\((∃kvs,H p=some (.dK kvs))\/∃kvs,H p=some (.dT kvs)))\/(T="set"/\∃S n,H p=some (.set S n))
 |_=>False
theorem QL{iZ:PNz}{σ:St}{H:Hp}{s:jf}{T:String}{x:V}{v:jg}(I:Inv X iZ σ H s)(r:RelV x v)(ty:tyV X.K T x H) :
  s.TypeIs v T/\∀a,v=.ref a->∃ob,s.heap.get? a=some ob/\ob.dict=none:=by
 cases x with
 |str z =>
  obtain⟨t,rfl⟩:=r;cases(show T="str" from ty);exact⟨typeIs_str s z t,λ_ e=>nomatch e⟩
 |int i =>
  obtain⟨t,rfl⟩:=r;cases(show T="int" from ty);exact⟨typeIs_int s i t,λ_ e=>nomatch e⟩
 |ref p =>
  cases r;rcases ty with ⟨rfl,xs,hq⟩|⟨rfl,o,hk,hc,hd⟩|⟨rfl,hk⟩|⟨rfl,S,n,hk⟩
  .obtain⟨its,_,pl,_⟩:=I.list hq;refine⟨pl.isList.typeIs,λ a e=>?_⟩;cases e;obtain⟨o,n,e,c,hd,_⟩:=pl;exact⟨o,e,hd⟩
  .refine⟨⟨o,I.kIn p o hk,hc⟩,λ a e=>?_⟩;cases e;exact⟨o,I.kIn _ o hk,hd⟩
  .have z:∃o,s.heap.get? p=some o/\o.ExactDict:=by
    rcases hk with ⟨kvs,hk⟩|⟨kvs,hk⟩
    .obtain⟨_,_,_,_,o,_,_,e,ex,_⟩:=I.hok p _ hk;exact⟨o,e,ex⟩
    .obtain⟨_,_,_,_,o,_,_,e,ex,_⟩:=I.hok p _ hk;exact⟨o,e,ex⟩
   obtain⟨o,e,ex⟩:=z;refine⟨⟨o,e,ex.1⟩,λ a e2=>?_⟩;cases e2;exact⟨o,e,ex.2.1⟩
  .obtain⟨o,_,_,_,e,ex,_⟩:=I.hok p _ hk;refine⟨⟨o,e,ex.1⟩,λ a e2=>?_⟩;cases e2;exact⟨o,e,ex.2.1⟩
 |_=>exact False.elim ty
noncomputable def Xe(K:jw)(T:String)(r:V->LUz->Hp->VK->Prop)(to:TE):TE:=λ σ H Q=>to σ H λ x H1=>tyV K T x H1/\r x [] H1 Q
noncomputable def tBM(K:jw)(T:String)(r:V->LUz->Hp->VK->Prop)(to:TE)(t:TA):TE:=λ σ H Q=>to σ H λ x H1=>tyV K T x H1/\t σ H1 λ xs H2=>r x xs H2 Q
variable{o e:jB}{es:List jB}{to:TE}{t:TA}{name:jD}{apos cpos:Pos}{T id:String}{r:V->LUz->Hp->VK->Prop}
theorem EV(pa:PlainAttrs T)(slot:Slot T name id)(hty:typeOf (.builtin id)=pure (.type "method_descriptor"))(hm:MtR X id r)(ho:PE X o to)
  (hbase:attributeBase o name X.env (eval o X.env)=eval o X.env:=by rfl) (hline:(apos.endLine==cpos.line)=true:=by rfl):PE X (.Call (.Attribute o name apos) [] [] cpos) (Xe X.K T r to):=by
 intro iZ s σ H Q I h;refine wpAny_Call_method0_late hbase hline (thn (ho iZ s σ H _ I h) λ v s1 hz_=>?_);obtain⟨x,H1,I1,r1,ty,q1⟩:=hz_;obtain⟨h1,h2⟩:=QL I1 r1 ty;exact⟨T,id,pa,slot,hty,h1,h2,Calls.callWith_builtin rfl (PySem.evalArgs_none (hm iZ s1 σ H1 x [] v [] Q I1 r1 .nil q1))⟩
theorem Rz(pa:PlainAttrs T)(slot:Slot T name id)(hty:typeOf (.builtin id)=pure (.type "method_descriptor"))(hm:MtR X id r)(ho:PE X o to)(ha:PA X (e::es) t)
  (hbase:attributeBase o name X.env (eval o X.env)=eval o X.env:=by rfl)
  (hfew:((jX cpos (jv (e::es) X.env)).all (λ x=>!x.1)&&(backToKw cpos (keywordEach [] X.env)).all (λ x=>x.1.isSome)
  &&decide ((e::es).length+([]:List Keyword).length+(if ([]:List Keyword).isEmpty then 0 else 1)<30))=true:=by rfl)
  (hline:(apos.endLine==cpos.line)=true:=by rfl) (hs:jv (e::es) X.env=(false,eval e X.env)::jv es X.env:=by rfl) (hplain:(jX cpos (jv es X.env)).any (·.1)=false:=by rfl) :
  PE X (.Call (.Attribute o name apos) (e::es) [] cpos) (tBM X.K T r to t):=by
 intro iZ s σ H Q I h;refine wpAny_Call_method_late hbase hfew hline rfl (thn (ho iZ s σ H _ I h) λ v s1 hz_=>?_);obtain⟨x,H1,I1,r1,ty,q1⟩:=hz_;obtain⟨h1,h2⟩:=QL I1 r1 ty;refine⟨T,id,pa,slot,hty,h1,h2,?_⟩;have hA:=ha cpos iZ s1 σ H1 _ I1 q1;rw[hs]at hA |-;refine Calls.callWith_builtin (by show(false||(jX cpos (jv es X.env)).any (·.1))=false;rw[hplain]<;>rfl) (Calls.evalArgs_plain ?_);exact thn hA λ us s2 ⟨vs,H2,I2,r2,q2⟩=>hm iZ s2 σ H2 x vs v us Q I2 r1 r2 q2
end
noncomputable def MtM(X:Cx)(id:String)(r:V->LUz->Hp->VK->Prop):Prop :=
 ∀(iZ:PNz)(s:jf)(σ:St)(H:Hp)(x:V)(xs:LUz)(v:jg)(us:LWz)(Q:VK),Inv X iZ σ H s->RelV x v->Vals xs us->r x xs H Q ->
  jh (jm X.prog X.w) X.A (call (.builtin id) (v::us)) (EP X iZ σ Q) X.xe s
theorem Vals.one:∀{x:V}{us:LWz},Vals [x] us->∃u,us=[u]/\RelV x u
 |_,_,.cons r .nil=>⟨_,rfl,r⟩
theorem Vals.zero:∀{us:LWz},Vals [] us->us=[]
 |_,.nil=>rfl
theorem Vals.dropLast{xs:LUz}{us:LWz}(h:Vals xs us):Vals xs.dropLast us.dropLast:=by
 induction h with
 |nil=>exact .nil
 |cons r t ih =>
  cases t with
  |nil=>exact .nil
  |cons q t'=>exact .cons r ih
theorem NW{α:Type}(l:List α):l.eraseIdx (l.length-1)=l.dropLast:=by
 induction l with
 |nil=>rfl
 |cons a r ih =>
  cases r with
  |nil=>rfl
  |cons b r =>
   have e:(a::b::r).length-1=((b::r).length-1)+1:=by
    have h1:(a::b::r).length=r.length+2:=rfl;have h2:(b::r).length=r.length+1:=rfl;lia
   rw[e,List.eraseIdx_cons_succ,ih]
   all_goals rfl
section
variable{X:Cx}{iZ:PNz}{σ:St}{H:Hp}{s:jf}{l b:jd}{xs ys zs:LUz}
theorem Inv.lset{its its':LWz}{n:Nat}{f:Array jg->Array jg}{t':Nat}(I:Inv X iZ σ H s)(hH:H l=some (.lst xs))
  (e:s.heap.get? l=some { cls:=.type "list",data:=.seq its.toArray n }) (hf:f its.toArray=its'.toArray) (hv:Vals ys its') (hz:ys.length<=jt) :
  Inv X iZ σ (upd H l (.lst ys)) { s with heap:=s.heap.update l (Obj.mapSeq f),toks:=t' }:=by
 have q:=PySem.IsL.update e f;rw[hf]at q;refine I.write (x:=l) (e:=l) (by rw[hH];exact trivial) (.inl rfl) (λ b' u hb hu=>(bU s.heap (Obj.mapSeq f) (Ne.symm hb)).trans hu) ⟨_,q⟩ ?_;exact⟨hz,its',_,hv,q⟩
theorem Inv.lnew{its:LWz}{t':Nat}(I:Inv X iZ σ H s)(hv:Vals ys its)(hz:ys.length<=jt) :
  Inv X iZ σ (upd H s.heap.objs.size (.lst ys)) { s with heap:=s.heap.push { cls:=.type "list",data:=.seq its.toArray },toks:=t' } :=
 I.laid (λ_ _ q=>ae _ q) (ah _) ⟨hz,its,0,hv,ar _ rfl⟩
theorem Inv.fresh(I:Inv X iZ σ H s):H s.heap.objs.size=none:=I.hok.fresh (ah _)
theorem Inv.lstM(I:Inv X iZ σ H s)(hH:H l=some (.lst xs)):xs.length<=jt/\∃(its:LWz)(n:Nat),Vals xs its/\xs.length=its.length/\s.heap.get? l=some { cls:=.type "list",data:=.seq its.toArray n }:=by
 obtain⟨z,its,n,r,e⟩:=I.hok l _ hH;exact⟨z,its,n,r,r.length,e⟩
theorem RB{n:Nat}(h:n<=jt):Builtin.List.listTooLong n=false:=by
 unfold Builtin.List.listTooLong;exact js (by lia)
end
section
variable{X:Cx}
noncomputable def O0:V->LUz->Hp->VK->Prop:=λ x vs H Q=>∃l xs y,x=.ref l/\vs=[y]/\H l=some (.lst xs)/\xs.length<jt/\Q .non (upd H l (.lst (xs++[y])))
theorem Gq:MtM X "list.append" O0:=by
 intro iZ s σ H x vs v us Q I rx rv h;obtain⟨l,xs,y,rfl,rfl,hH,hz,q⟩:=h;cases rx;obtain⟨u,rfl,ru⟩:=rv.one;obtain⟨z,its,n,r,hl,e⟩:=I.lstM hH;refine call_meets F.slot_list_append ⟨_,e,rfl⟩ F.entry_list_append (F.args_list_append_2 _ _) (PySem.list_append l its.toArray n u (by rw[aj];lia)) ⟨e,?_⟩;refine⟨.non,_,I.lset (its':=its++[u]) hH e (by simp) (r.append (.cons ru .nil)) ?_,rfl,q⟩;rw[aH,bx];lia
noncomputable def Tt:V->LUz->Hp->VK->Prop:=λ x vs H Q=>∃l b xs zs,x=.ref l/\vs=[.ref b]/\H l=some (.lst xs)/\H b=some (.lst zs)/\xs.length+zs.length<=jt/\Q .non (upd H l (.lst (xs++zs)))
theorem Km:MtM X "list.extend" Tt:=by
 intro iZ s σ H x vs v us Q I rx rv h;obtain⟨l,b,xs,zs,rfl,rfl,hH,hB,hz,q⟩:=h;cases rx;obtain⟨u,rfl,ru⟩:=rv.one;cases ru;obtain⟨z,its,n,r,hl,e⟩:=I.lstM hH;obtain⟨z2,its2,n2,r2,hl2,e2⟩:=I.lstM hB;have hsz:its.toArray.size+its2.toArray.size<=jt:=by rw[aj,aj];lia
 have hlong:¬(!its.toArray.isEmpty&&Builtin.List.listTooLong (its.toArray.size+its2.toArray.size))=true:=by
  rw[RB hsz,bX];exact aq
 refine call_meets F.slot_list_extend ⟨_,e,rfl⟩ F.entry_list_extend (F.args_list_extend_2 _ _)
  (AutoSeq1.list_extend_list_list_0 l its.toArray n b its2.toArray n2 hlong (by rw[aj];lia) (by lia)) ⟨e,e2,?_⟩
 refine⟨.non,_,I.lset (its':=its++its2) hH e (by simp) (r.append r2) ?_,rfl,q⟩;rw[aH];lia
noncomputable def Xo:V->LUz->Hp->VK->Prop:=λ x vs H Q=>∃l xs y,x=.ref l/\vs=[]/\H l=some (.lst xs)/\xs[xs.length-1]?=some y/\Q y (upd H l (.lst xs.dropLast))
theorem Lu:MtM X "list.pop" Xo:=by
 intro iZ s σ H x vs v us Q I rx rv h;obtain⟨l,xs,y,rfl,rfl,hH,hy,q⟩:=h;cases rx;have hus:=rv.zero;subst hus;obtain⟨z,its,n,r,hl,e⟩:=I.lstM hH;obtain⟨u,hu,ru⟩:=r.get hy;have hy':its.toArray[its.toArray.size-1]?=some u:=by
  show its.toArray[its.length-1]?=some u;rw[<-cz,<-hl];exact hu
 refine call_meets F.slot_list_pop ⟨_,e,rfl⟩ F.entry_list_pop (F.args_list_pop_1 _) (MeetsSeq.list_pop_last l its.toArray n u hy' (by rw[aj];lia)) ⟨e,?_⟩;refine⟨y,_,I.lset (its':=its.dropLast) hH e ?_ r.dropLast ?_,ru,q⟩
 .show its.toArray.eraseIdxIfInBounds (its.toArray.size-1)=its.dropLast.toArray;rw[aj,List.eraseIdxIfInBounds_toArray,NW]
 .rw[List.length_dropLast];lia
inductive WY(x y:V)(H:Hp)(Q:VK):Prop
 |mk (l b:jd) (xs zs:LUz) (e1:x=.ref l) (e2:y=.ref b) (h1:H l=some (.lst xs)) (h2:H b=some (.lst zs)) (n:xs.length+zs.length<=jt) (q:∀p,H p=none->Q (.ref p) (upd H p (.lst (xs++zs)))):WY x y H Q
noncomputable def Xq:R2:=λ x y H Q=>WY x y H Q
theorem NC:OpR X (kJ .Add) Xq:=by
 intro iZ s σ H x y v u Q I rx ry h;obtain⟨l,b,xs,zs,rfl,rfl,hH,hB,hz,q⟩:=h;cases rx;cases ry;obtain⟨z,its,n,r,hl,e⟩:=I.lstM hH;obtain⟨z2,its2,n2,r2,hl2,e2⟩:=I.lstM hB;refine PySem.P.add_list e e2 ?_ (by rw[aj,aj];lia);have ea:its.toArray++its2.toArray=(its++its2).toArray:=by simp
 rw[ea];exact⟨.ref _,_,I.lnew (t':=s.toks) (r.append r2) (by rw[aH];lia),rfl,q _ I.fresh⟩
end
end L2
namespace Att
open PySem.W
open PySem PySem.Calls PyProof.Rows
theorem Hg{P:lC}{h:jy}:∀(ns:List Int)(vs:LWz),WellAll P h vs (ns.map WData.int)->IntsAre vs ns:=by
 intro ns
 induction ns with
 |nil =>
  intro vs w;rw[b9]at w;cases w;exact .nil
 |cons n ns ih =>
  intro vs w;rw[aJ]at w;cases w with
  |cons a b =>
   cases a;exact .cons _ _ (ih _ b)
theorem PK{l:OpenLaw}{n:Nat}(hn:l.most=some n){P:lC}{h:jy}{args:List WData}{vals:LWz}
  (hpre:l.row.toRowW.claim.pre args=true) (hwl:WellAll P h vals args) :
  ∃a vs ns,vals=[Value.ref a]/\args=[WData.list (ns.map WData.int)]/\h.get? a=some { cls:=.type "list",data:=.seq vs.toArray }/\IntsAre vs ns/\ns.length<=n:=by
 have hsh:WShape.hasAll [] args [.list .int]=true:=(pre_splitW hpre).1;have hc:l.pre.holds [] { args:=args }=true:=(pre_splitW hpre).2;obtain⟨d,r,rfl,h1,h2⟩:=hasAllW_cons hsh;obtain rfl:=hasAllW_nil h2;obtain⟨xs,rfl,h3⟩:=hasW_list h1;obtain⟨ns,rfl⟩:=items_int h3;have hlen:ns.length<=n:=by
  unfold OpenLaw.pre at hc;have h4:(WTm.not (.lt (.lit (.int (n:Int))) (.len (.arg 0)))).holds [] { args:=[.list (ns.map .int)] }=true:=by
   have h4:=(holds_andW hc).1;rw[hn]at h4;exact h4
  have h5:=condW_of h4 (w_not (w_lt w_lit (w_len_list (w_arg rfl))));rw[aa]at h5;refine Nat.le_of_not_lt λ q=>?_;have q':(n:Int)<((ns.length:Nat):Int):=by lia
  first
   | (rw[jn q']at h5;exact absurd h5 (by decide))
   | (simp at h5;lia)
 cases hwl with
 |cons w1 w2 =>
  cases w2;cases w1 with
  |list ho hall=>exact⟨_,_,ns,rfl,rfl,ho,Hg ns _ hall,hlen⟩
theorem PR(l:OpenLaw)(args:List WData):l.row.toRowW.claim.post args (.bool true) args=true :=
 postW_of (r:=l.row.toRowW) (X:=(true==true))
  (show WShape.has [] (.bool true) .bool=true by first|rfl|decide|simp[WShape.has,WShape.arms,WShape.armsAll])
  (show(WTm.eq .res (.lit (.bool true))).value [] { args:=args,res:=some (.bool true),after:=args }=some (.bool (true==true)) from w_eq_bool (w_res rfl) w_lit) rfl
theorem attach_call{l:OpenLaw}{n:Nat}{q:jk}{loose:LSz}{XP:(MGz)->jy->Prop}{YP:ju->jy->Prop}{d:DefRec}
  (hn:l.most=some n) (hdf:d.params.defaults=[])
  (call:∀(w:ju)(s₀ s₁:jf)(mg mb:MGz)(fa:jd)(o:Obj)(pm cd doc:jg)(a:jd)(vs:LWz)(ns:List Int),
   Ground q loose [] XP w s₀ mg mb s₁.heap->YP w s₁.heap ->
   s₁.heap.get? fa=some o->o.data=.func (docDef d.name d.params d.body d.scope pm cd doc)->s₁.heap.CodeRec cd d.name->mg d.name=some (.ref fa) ->
   s₁.heap.get? a=some { cls:=.type "list",data:=.seq vs.toArray }->IntsAre vs ns->ns.length<=n->s₁.gens=#[] ->
   jU (jm l.prog w) callerA (.call (.ref fa) ⟨[.ref a],[]⟩) (λ r s'=>r=.ok (.ret (.bool true))/\OldK s₁.heap s'.heap/\s'.os=s₁.os/\AllBare s'.gens) s₁) :
  WalkO q loose XP YP l.row.toRowW d [] (λ f vs=>PySem.call f vs):=by
 intro w s₀ s₁ mg mb G Y fa o pm cd doc dV kV ho hd hcd hD hmg hg args vals as hpre hlay hrd hwl hlo;obtain rfl:dV=.none:=Dflts.none hD hdf;obtain rfl:kV=.none:=Dflts.noKw hD;obtain⟨a,vs,ns,rfl,rfl,hobj,hints,hlen⟩:=PK hn hpre hwl;refine enter_call (jY (call w s₀ s₁ mg mb fa o pm cd doc a vs ns G Y ho (fd_plain hd) hcd hmg hobj hints hlen hg) λ r s' hq=>?_);obtain⟨rfl,h2,h3,h4⟩:=hq;exact⟨.inl ⟨.bool true,.bool true,[],rfl,λ_=>rfl,.bool true,PR l _,λ_=>⟨List.Pairwise.nil,λ_ hm=>(nomatch hm)⟩⟩,h2,h3,h4⟩
end Att
namespace L2
open PySem.W
open PySem PySem.Spec PyProof.Rows
theorem FU:∀{vs:LWz}{ns:List Int},IntsAre vs ns->Vals (ns.map V.int) vs
 |_,_,.nil=>.nil
 |_,_,.cons n t h=>.cons ⟨t,rfl⟩ (FU h)
end L2
namespace L2
open PySem.W
open PySem PySem.Spec PyProof.Rows
noncomputable def Bq(s:jE)(j:Nat):jE:=match s with
 |.ClassDef _ _ _ body _ _ _ _ _ _ _=>body.getD j (.Pass ⟨0,0,0,0⟩)
 |_=>.Pass ⟨0,0,0,0⟩
noncomputable def Bz(s:jE):Arguments:=match s with
 |.FunctionDef _ a _ _ _ _ _ _ _ _=>a
 |_=>{ posonlyargs:=[],args:=[],vararg:=none,kwonlyargs:=[],kw_defaults:=[],kwarg:=none,defaults:=[] }
noncomputable def A7(s:jE):List jE:=match s with
 |.FunctionDef _ _ b _ _ _ _ _ _ _=>b
 |_=>[]
noncomputable def Ah(s:jE):jZ:=match s with
 |.FunctionDef _ _ _ _ _ _ sc _ _ _=>sc
 |_=>{ kind:=.function,names:=[],isGenerator:=false,isCoroutine:=false }
noncomputable abbrev CX0:CXT:=λ_ _ _ _ _ _=>False
noncomputable abbrev E0:XK:=λ_ _ _=>False
theorem Ke{X:Cx}:CQ CX0 X E0:=λ_ _ _ _ _ _ _ h=>h.elim
structure Fun(K:jw)(x i9:jD)(st:jE)(f:jd)(fd:jr):Prop where
 ex:∃(oc:jg)(od:Option jd)(kV doc pm:jg)(an:Option jd)(cdv ct:jg)(osl:AOz),
  fd=fnOf x i9 (Bz st) (A7 st) (Ah st) .none kV doc pm an cdv ct/\K.lookup f=some ⟨oc,od,.func fd,osl⟩/\codeIn K cdv i9=true
 kp:ku K (.ref f)=true
section
variable{P:jk}{w:ju}{K:jw}{mg:MGz}{ja:jy}
theorem Fun.ok{x i9:jD}{st:jE}{f:jd}{fd:jr}{N ps:LSz}{k:Nat}{sp:Sp}(F:Fun K x i9 st f fd)(S:Ak N ps (Ah st))(len:∀vs H Q E,sp vs H Q E->vs.length=ps.length)
  (hbody:∀(cdv:jg)(A:jx)(i6:List lH)(s:jf)(H:Hp)(vs:LUz)(Q:VK)(E:XK),Room k (A.deeper (envOfC i9 (Ah st) s.heap.objs.size f cdv))->sp vs H Q E ->
   ∃t,PSs (B3 CX0 P w K mg ja N i9 (Ah st) f cdv A i6 s H E).nox (A7 st) t/\t { nx:=λ_ H'=>Q .non H',rt:=Q } (start N vs) H):A3 P w K mg ja CX0 (k+1) f fd ps sp:=by
 obtain⟨oc,od,kV,doc,pm,an,cdv,ct,osl,rfl,lk,hcd⟩:=F.ex;refine OV lk hcd S len λ A i6 s H vs Q E hr hsp=>?_;obtain⟨t,h,q⟩:=hbody cdv A i6 s H vs Q E hr hsp;exact⟨t,h.nox,q⟩
theorem Fun.binds{x i9:jD}{st:jE}{f:jd}{fd:jr}{ps:LSz}(F:Fun K x i9 st f fd)
  (h:∀(kV doc pm:jg)(an:Option jd)(cdv ct:jg)(us:LWz),us.length=ps.length->bindArgs (fnOf x i9 (Bz st) (A7 st) (Ah st) .none kV doc pm an cdv ct) ⟨us,[]⟩=pure (ps.zip us)):Binds K fd ps []:=by
 obtain⟨oc,od,kV,doc,pm,an,cdv,ct,osl,rfl,lk,hcd⟩:=F.ex;exact .all (h kV doc pm an cdv ct)
end
theorem Ea{A:jx}{k:Nat}(hr:Room k A):A.units+1<j5:=cK (dX (by decide:1<=64) _) hr.units
theorem An{n:Nat}(h:n<=1000):n<jt:=cK h (by decide)
section
variable{X:Cx}
theorem pv(i:Nat){x:jD}{pos:Pos}(hN:X.N[i]?=some x:=by rfl)(hv:Vis X.env.scope x:=by first|exact bN rfl|exact dv (bN rfl)|exact dv (dv rfl))(hd:(x==("__debug__":jD))=false:=by decide)
  (hcd:(x==("__classdict__":jD))=false:=by decide):PE X (.Name x pos) (Fu i):=UY hN hv hd hcd
noncomputable abbrev Ai{X:Cx}:=@pv X 0
noncomputable abbrev Al{X:Cx}:=@pv X 1
noncomputable abbrev Ar{X:Cx}:=@pv X 2
noncomputable abbrev Az{X:Cx}:=@pv X 3
noncomputable abbrev AG{X:Cx}:=@pv X 4
noncomputable abbrev B0{X:Cx}:=@pv X 5
end
theorem Sa{A B:Prop}(h:B):if false=true then A else B:=by
 rw[jj aq];exact h
theorem NN{A B:Prop}(h:A):if true=true then A else B:=by
 rw[jo rfl];exact h
noncomputable def Same(H H':Hp):Prop:=∀b o,H b=some o->H' b=some o
theorem Same.refl(H:Hp):Same H H:=λ_ _ h=>h
theorem Same.trans{H H1 H2:Hp}(a:Same H H1)(b:Same H1 H2):Same H H2:=λ c o h=>b c o (a c o h)
theorem Same.seq{K:jw}{H H':Hp}{a:jd}{xs:LUz}(e:Same H H')(h:SqL K H a xs):SqL K H' a xs:=by
 rcases h with (h|⟨o,h⟩)|h
 .exact .inl (.inl (e _ _ h))
 .exact .inl (.inr ⟨o,e _ _ h⟩)
 .exact .inr h
end L2
set_option maxHeartbeats 4000000
namespace L2
open PySem.W
open PySem PyProof.Rows
noncomputable def Ko{α β:Type}(oS:jk->LSz->LSz->(jf->Bool)->Bool->jf->α)(ms:LSz)(p q:jk)(lo:LSz)(Xt:jf->Bool)(Yf:jf->β)(h0:jy)(s:jf):Bool×α×β :=
 ((((staticsOk ms h0 s.heap&&namesBound p s.heap)&&gensDone s)&&laidKept h0 s.heap),oS q lo ms Xt true s,Yf s)
noncomputable abbrev Eh(P:lC)(os:OsState):jf:=Shared.mk (jQ P) (Array.mk []) boot_drawn boot_toks os
theorem Ql{p q:jk}{lo:LSz}{Xt:jf->Bool}{β:Type}{Yf:jf->β}{Ya:ju->β}{N m:Nat}{an:Option jg}
  (bo:∀w:ju,Option.map (λ s=>(s.heap,s.gens,s.drawn,s.toks)) (fencedOpening jV p w N)=some (jQ w.params,Array.mk [],boot_drawn,boot_toks))
  (sz:∀w:ju,((jQ w.params).isNs jq,(jQ w.params).objs.size,(jQ w.params).nsMap jq "__annotations__")=(true,m,an))
  (rn:∀(w:ju)(os:OsState),Option.map (Ko openSeen (jP p.main.body) p q lo Xt Yf (jQ w.params)) (topRun jV p w m an N (Eh w.params os) (topStub p))=some (true,openGood q lo,Ya w)) :
  LeftO p q lo Xt Yf Ya N:=by
 intro w;obtain⟨s0,e0,e1⟩:=ba.mp (bo w);obtain⟨hp,gs,dr,tk,os⟩:=s0;simp only[dB.injEq]at e1;obtain⟨rfl,rfl,rfl,rfl⟩:=e1;have z:=sz w;simp only[dB.injEq]at z;obtain⟨z1,z2,z3⟩:=z;obtain⟨s1,r1,r2⟩:=ba.mp (rn w os);unfold Ko at r2;simp only[dB.injEq]at r2;obtain⟨l1,l2,l3⟩:=r2;have tf:topFrom jV p w N (Eh w.params os)=some s1:=by
  unfold topFrom;dsimp only;rw[z1,z2,z3];show Option.bind (topRun jV p w m an N (Eh w.params os) (topStub p)) _=_;rw[r1];show(match (((staticsOk (jP p.main.body) (jQ w.params) s1.heap&&namesBound p s1.heap)&&gensDone s1)&&laidKept (jQ w.params) s1.heap) with|true=>some s1|false=>none)=_;rw[l1]
 unfold openEnds;rw[e0];show Option.map _ (topFrom jV p w N (Eh w.params os))=_;rw[tf];exact congrArg some (cY l2 l3)
noncomputable def QO:List Obj->Nat->BT->BT
 |[],_,t=>t
 |o::r,i,t=>QO r (i+1) (t.ins i o)
noncomputable def Cp(ok:Thread->Bool)(stp:SharedT->Thread->Option (SharedT×Thread)):Nat->SharedT->Thread->Option SharedT
 |0,_,_=>none
 |n+1,s,t=>match through t with
  |true=>some s
  |false=>match ok t with
   |false=>none
   |true=>match stp s t with
    |some (s1,t1)=>Cp ok stp n s1 t1
    |none=>none
theorem HI{tb:String->Option Builtin}{p:jk}{w:ju}{m:Nat}{an:Option jg}:∀{n:Nat}{s s1:SharedT}{t:Thread},Cp (stepOk m an) (stepT (denote tb) p w) n s t=some s1->topRun tb p w m an n s.abs t=some s1.abs
 |0,_,_,_,h=>by cases h
 |n+1,s,s1,t,h=>by
  rw[Cp]at h;rw[topRun];cases ht:through t with
  |true=>rw[ht]at h;cases h;rfl
  |false =>
   rw[ht]at h;cases hk:stepOk m an t with
   |false=>rw[hk]at h;cases h
   |true =>
    rw[hk]at h;cases hs:stepT (denote tb) p w s t with
    |none=>rw[hs]at h;cases h
    |some r =>
     obtain⟨s2,t2⟩:=r;rw[hs]at h;rw[stepT_spec hs];exact HI h
noncomputable def WI(P:lC):BT:=QO (jQ P).objs.toList 0 .nil
noncomputable def Ev(P:lC)(os:OsState):SharedT:=SharedT.mk (WI P) 11 (jQ P).life (Array.mk []) boot_drawn boot_toks os
theorem SA(P:lC)(os:OsState):(Ev P os).abs=Eh P os:=by kernel_rfl
theorem UU{p q:jk}{lo ms:LSz}{Xt:jf->Bool}{α β:Type}{Yf:jf->β}{N m:Nat}{an:Option jg}{w:ju}{os:OsState}{r:Bool×α×β}{oS:jk->LSz->LSz->(jf->Bool)->Bool->jf->α}
  (h:Option.map (λ s=>Ko oS ms p q lo Xt Yf (jQ w.params) (SharedT.abs s)) (Cp (stepOk m an) (stepT (denote jV) p w) N (Ev w.params os) (topStub p))=some r) :
  Option.map (Ko oS ms p q lo Xt Yf (jQ w.params)) (topRun jV p w m an N (Eh w.params os) (topStub p))=some r:=by
 obtain⟨s,e,z⟩:=ba.mp h;have e:=HI e;rw[SA]at e;rw[e];exact congrArg some z
theorem W1{σ α β:Type}{r:Option σ}{f:σ->Bool}{g:σ->α}{k:σ->β}{a:α}{b:β}(h1:r.map f=some true)(h2:r.map g=some a)(h3:r.map k=some b):r.map (λ s=>(f s,g s,k s))=some (true,a,b):=by
 cases r with
 |none=>cases h1
 |some s =>
  have e1:=Option.some.inj h1;have e2:=Option.some.inj h2;have e3:=Option.some.inj h3;exact congrArg some (cY e1 (cY e2 e3))
noncomputable def W0(ms:LSz)(p:jk)(h0:jy)(s:jf):Bool:=(((staticsOk ms h0 s.heap&&namesBound p s.heap)&&gensDone s)&&laidKept h0 s.heap)
noncomputable def WN(N m:Nat)(an:Option jg){p p':jk}{sT:(Code->Sem Fin)->jk->ju->SharedT->Thread->Option (SharedT×Thread)}{dn:(String->Option Builtin)->Code->Sem Fin}{tT:String->Option Builtin}{iM:List jE->LSz}{oS:∀(q:jk)(lo ms:LSz)(Xt:jf->Bool)(g0:Bool)(s:jf),_}(h1:@stepT=sT)(h0:@denote=dn)(h2:jV=tT)(h3:@jP=iM)(h4:@openSeen=oS)(h5:p=p'):Prop:=∀(w:ju)(os:OsState),Option.map (λ s=>W0 (iM p'.main.body) p' (jQ w.params) (SharedT.abs s)) (Cp (stepOk m an) (sT (dn tT) p' w) N (Ev w.params os) (topStub p'))=some true
noncomputable def RunB(N m:Nat)(an:Option jg)(q:jk->jk)(lo:LSz)(Xt:jk->jf->Bool){p p':jk}{sT:(Code->Sem Fin)->jk->ju->SharedT->Thread->Option (SharedT×Thread)}{dn:(String->Option Builtin)->Code->Sem Fin}{tT:String->Option Builtin}{iM:List jE->LSz}{oS:∀(q:jk)(lo ms:LSz)(Xt:jf->Bool)(g0:Bool)(s:jf),_}(h1:@stepT=sT)(h0:@denote=dn)(h2:jV=tT)(h3:@jP=iM)(h4:@openSeen=oS)(h5:p=p'):Prop:=∀(w:ju)(os:OsState),Option.map (λ s=>oS (q p') lo (iM p'.main.body) (Xt p') true (SharedT.abs s)) (Cp (stepOk m an) (sT (dn tT) p' w) N (Ev w.params os) (topStub p'))=some (openGood (q p') lo)
noncomputable def WM(N m:Nat)(an:Option jg){β:Type}(Yf:jf->β)(Ya:ju->β){p p':jk}{sT:(Code->Sem Fin)->jk->ju->SharedT->Thread->Option (SharedT×Thread)}{dn:(String->Option Builtin)->Code->Sem Fin}{tT:String->Option Builtin}{iM:List jE->LSz}{oS:∀(q:jk)(lo ms:LSz)(Xt:jf->Bool)(g0:Bool)(s:jf),_}(h1:@stepT=sT)(h0:@denote=dn)(h2:jV=tT)(h3:@jP=iM)(h4:@openSeen=oS)(h5:p=p'):Prop:=∀(w:ju)(os:OsState),Option.map (λ s=>Yf (SharedT.abs s)) (Cp (stepOk m an) (sT (dn tT) p' w) N (Ev w.params os) (topStub p'))=some (Ya w)
theorem Tm{q:jk->jk}{lo:LSz}{Xt:jk->jf->Bool}{β:Type}{Yf:jf->β}{Ya:ju->β}{N m:Nat}{an:Option jg}{p p':jk}{sT:(Code->Sem Fin)->jk->ju->SharedT->Thread->Option (SharedT×Thread)}{dn:(String->Option Builtin)->Code->Sem Fin}{tT:String->Option Builtin}{iM:List jE->LSz}{oS:∀(q:jk)(lo ms:LSz)(Xt:jf->Bool)(g0:Bool)(s:jf),_}{h1:@stepT=sT}{h0:@denote=dn}{h2:jV=tT}{h3:@jP=iM}{h4:@openSeen=oS}{h5:p=p'}
  (rA:WN N m an h1 h0 h2 h3 h4 h5) (rB:RunB N m an q lo Xt h1 h0 h2 h3 h4 h5) (rC:WM N m an Yf Ya h1 h0 h2 h3 h4 h5) :
  ∀(w:ju)(os:OsState),Option.map (Ko openSeen (jP p.main.body) p (q p) lo (Xt p) Yf (jQ w.params)) (topRun jV p w m an N (Eh w.params os) (topStub p))=some (true,openGood (q p) lo,Ya w):=by
 subst h1 h0 h2 h3 h4 h5;exact λ w os=>UU (W1 (rA w os) (rB w os) (rC w os))
open PySem.Spec
noncomputable def hookT(K:Hook)(Ts:List jd):Hook :=
 ⟨K.α×List (Option Obj),λ s=>(K.obs s,Ts.map λ T=>s.heap.get? T),λ w=>(K.val w,Ts.map λ_=>some (tabObj #[])),λ w h=>K.says w h/\∀T∈Ts,h.get? T=some (tabObj #[]),
  λ w s e=>⟨K.of w s (dB.inj e).1,λ T hT=>by
   have e2:=(dB.inj e).2;have:=List.map_eq_map_iff.mp e2 T hT;exact this⟩,λ w h h' x k=>⟨K.keeps w h h' x.1 k,λ T hT=>k _ _ (x.2 T hT)⟩⟩
noncomputable def JQ{β:Type _}(N m:Nat)(an:Option jg)(q:jk->jk)(lo:LSz)(Xt:jk->jf->Bool)(g:type_of% (openGood (q default) lo)->β)(b:jk->β){p p':jk}{sT:(Code->Sem Fin)->jk->ju->SharedT->Thread->Option (SharedT×Thread)}{dn:(String->Option Builtin)->Code->Sem Fin}{tT:String->Option Builtin}{iM:List jE->LSz}{oS:∀(q:jk)(lo ms:LSz)(Xt:jf->Bool)(g0:Bool)(s:jf),_}(h1:@stepT=sT)(h0:@denote=dn)(h2:jV=tT)(h3:@jP=iM)(h4:@openSeen=oS)(h5:p=p'):Prop:=∀(w:ju)(os:OsState),Option.map (λ s=>g (oS (q p') lo (iM p'.main.body) (Xt p') true (SharedT.abs s))) (Cp (stepOk m an) (sT (dn tT) p' w) N (Ev w.params os) (topStub p'))=some (b (q p'))
theorem RunB.of5{N m:Nat}{an:Option jg}{q:jk->jk}{lo:LSz}{Xt:jk->jf->Bool}{p p':jk}{sT:(Code->Sem Fin)->jk->ju->SharedT->Thread->Option (SharedT×Thread)}{dn:(String->Option Builtin)->Code->Sem Fin}{tT:String->Option Builtin}{iM:List jE->LSz}{oS:∀(q:jk)(lo ms:LSz)(Xt:jf->Bool)(g0:Bool)(s:jf),_}{h1:@stepT=sT}{h0:@denote=dn}{h2:jV=tT}{h3:@jP=iM}{h4:@openSeen=oS}{h5:p=p'}(r1:JQ N m an q lo Xt (λ x=>x.1) (expectedOf) h1 h0 h2 h3 h4 h5)(r2:JQ N m an q lo Xt (λ x=>(x.2.1,x.2.2.1)) (λ_=>(bltViewBooted,true)) h1 h0 h2 h3 h4 h5)(r3:JQ N m an q lo Xt (λ x=>(x.2.2.2.1,x.2.2.2.2.1)) (λ q=>(true,pinGoodD (drecsOf q))) h1 h0 h2 h3 h4 h5)(r4:JQ N m an q lo Xt (λ x=>(x.2.2.2.2.2.1,x.2.2.2.2.2.2.1)) (λ q=>(plainGoodE q (looseW q lo),plainGoodD q lo)) h1 h0 h2 h3 h4 h5)(r5:JQ N m an q lo Xt (λ x=>x.2.2.2.2.2.2.2) (λ q=>(wideGood q,clsGoodW q lo)) h1 h0 h2 h3 h4 h5):RunB N m an q lo Xt h1 h0 h2 h3 h4 h5:=λ w os=>by
 have e1:=r1 w os;have e2:=r2 w os;have e3:=r3 w os;have e4:=r4 w os;have e5:=r5 w os;show Option.map _ _=_;generalize Cp _ _ _ _ _=r at e1 e2 e3 e4 e5 |-;cases r with
 |none=>cases e1
 |some s =>
  have e1:=Option.some.inj e1;have e2:=dB.inj (Option.some.inj e2);have e3:=dB.inj (Option.some.inj e3);have e4:=dB.inj (Option.some.inj e4);have e5:=Option.some.inj e5;exact congrArg some (cY e1 (cY e2.1 (cY e2.2 (cY e3.1 (cY e3.2 (cY e4.1 (cY e4.2 e5)))))))
end L2
namespace KH
open PySem.W
open PySem PyProof.Rows L2
noncomputable def top(i:Nat):jE:=lS.main.body.getD i (.Pass ⟨0,0,0,0⟩)
noncomputable def kE(P:lC)(x:jD)(t:kH)(v:jg):kQ:=⟨PyData.keyHash P x,.str x t,v⟩
noncomputable abbrev fo(a b:jD)(e:jE)(d m:jg)(c:jd):Obj:=⟨(.type "function"),none,(.func (fnOf a b (Bz e) (A7 e) (Ah e) d .none .none m none (.ref c) .none)),#[]⟩
noncomputable abbrev cp(a b:jD)(t u v:kH)(l n:Int)(r:jd)(i:Int)(p:jd)(q x y:jg)(j k:Int)(z:kH):Obj:=⟨(.type "code"),none,(.fields #[(.str a t),(.str b u),(.str "/claim/cut.py" v),(.int l 0),(.int n 0),(.int (0) 0),(.int (0) 0),(.int (3) 0),(.ref r),(.bool true),(.int i 0),(.ref p),.none,q,x,y,(.int j 0),(.int k 0),(.str "/claim/cut.py" z)]),#[]⟩
noncomputable abbrev co(a b:jD)(t u v:kH)(l n:Int)(r:jd)(i:Int)(p q x y:jd)(j k:Int)(z:kH):Obj:=⟨(.type "code"),none,(.fields #[(.str a t),(.str b u),(.str "/claim/cut.py" v),(.int l 0),(.int n 0),(.int (0) 0),(.int (0) 0),(.int (3) 0),(.ref r),(.bool true),(.int i 0),(.ref p),.none,(.ref q),(.ref x),(.ref y),(.int j 0),(.int k 0),(.str "/claim/cut.py" z)]),#[]⟩
noncomputable def KK:lC->jw:=λ P=>(nat_lit 2,⟨.none,none,(.dict #[] 0),#[]⟩)::(nat_lit 3,⟨(.type "dict"),none,(.dict #[kE P "__name__" 165 (.str "law_glazebench_k42_panels_by_numbers" 1184),kE P "__doc__" 166 .none,kE P "__package__" 167 .none,kE P "__loader__" 168 (.builtin "__main__.__loader__#opaque"),kE P "__spec__" 169 .none,kE P "__annotations__" 170 (.ref 6),kE P "__builtins__" 171 (.ref 4),kE P "__file__" 173 (.str "/claim/cut.py" 172),kE P "__cached__" 174 .none,kE P "_wall" 193 (.ref 21),kE P "GlassError" 213 (.ref 31),kE P "NoSide" 238 (.ref 51),kE P "TooMany" 263 (.ref 70),kE P "NoPane" 288 (.ref 89),kE P "Overlap" 313 (.ref 108),kE P "Bare" 338 (.ref 127),kE P "NoBlock" 363 (.ref 146),kE P "Stuck" 392 (.ref 165),kE P "NoNumber" 417 (.ref 184),kE P "LONGEST_SIDE" 421 (.int (12) 420),kE P "MOST_PANES" 423 (.int (52) 422),kE P "is_whole" 430 (.ref 193),kE P "is_side" 437 (.ref 200),kE P "is_rectangle" 443 (.ref 205),kE P "inside" 452 (.ref 212),kE P "squares_of" 462 (.ref 219),kE P "check_sides" 471 (.ref 226),kE P "check_panes" 481 (.ref 233),kE P "panes_by_square" 492 (.ref 240),kE P "check_covered" 501 (.ref 247),kE P "Panel" 554 (.ref 283),kE P "TOP" 558 (.int (0) 557),kE P "LEFT" 560 (.int (1) 559),kE P "apart" 569 (.ref 294),kE P "is_block" 575 (.ref 299),kE P "check_block" 583 (.ref 306),kE P "panes_in" 589 (.ref 311),kE P "line_breaks" 598 (.ref 318),kE P "goes_through" 604 (.ref 323),kE P "lines_through" 610 (.ref 328),kE P "LONGEST_COUNTED" 614 (.int (4) 613),kE P "check_counted" 623 (.ref 335),kE P "ways_to_part" 629 (.ref 340),kE P "count_of_grid" 641 (.ref 347),kE P "count_by_smaller" 654 (.ref 354),kE P "count" 665 (.ref 361),kE P "WHOLE" 669 (.str "whole" 668),kE P "UPRIGHT_cuts" 671 (.str "upright" 670),kE P "LEVEL_cuts" 673 (.str "level" 672),kE P "Tree" 730 (.ref 404),kE P "Whole" 755 (.ref 426),kE P "Upright" 784 (.ref 445),kE P "Level" 813 (.ref 464),kE P "kind_of" 820 (.ref 473),kE P "entry_of" 828 (.ref 480),kE P "entries_of" 838 (.ref 487),kE P "cut_from" 848 (.ref 494),kE P "tree_from" 860 (.ref 501),kE P "entries_by" 872 (.ref 508),kE P "first_piece" 881 (.ref 515),kE P "other_piece" 890 (.ref 522),kE P "LEVEL_leads" 894 (.str "level" 893),kE P "UPRIGHT_leads" 896 (.str "upright" 895),kE P "runs" 906 (.ref 529),kE P "columns_parted" 912 (.ref 534),kE P "rows_parted" 918 (.ref 539),kE P "level_leads" 930 (.ref 546),kE P "upright_leads" 936 (.ref 551),kE P "leads" 945 (.ref 558),kE P "lies_on" 953 (.ref 565),kE P "turn" 959 (.ref 570),kE P "ROOM" 963 (.str "room" 962),kE P "entry_for" 969 (.ref 575),kE P "cut_up" 978 (.ref 582),kE P "pane_broken" 984 (.ref 587),kE P "breaks_of" 997 (.ref 594),kE P "one_longer" 1008 (.ref 601),kE P "four_that_turn" 1014 (.ref 606),kE P "tree_of" 1020 (.ref 611),kE P "all_lines" 1029 (.ref 618),kE P "parts_between" 1039 (.ref 625),kE P "in_common" 1053 (.ref 632),kE P "rows_by_lines" 1064 (.ref 639),kE P "rows_without" 1070 (.ref 644),kE P "strips_of_size" 1082 (.ref 651),kE P "all_strips" 1088 (.ref 656),kE P "rows_before" 1094 (.ref 661),kE P "row_by" 1100 (.ref 666),kE P "strip_by" 1110 (.ref 673),kE P "panes_by" 1122 (.ref 680),kE P "panel_by" 1132 (.ref 687),kE P "lines_of" 1138 (.ref 692),kE P "strip_at" 1144 (.ref 697),kE P "number_in_rows" 1162 (.ref 704),kE P "number_in_strips" 1172 (.ref 711),kE P "number_of" 1183 (.ref 718),kE P "_law_at" 1194 (.ref 725),kE P "_law_more" 1200 (.ref 730),kE P "_law_knead" 1211 (.ref 737),kE P "_law_whole" 1219 (.ref 744),kE P "_law_cuttable" 1225 (.ref 749),kE P "_law_refused" 1237 (.ref 756),kE P "_law_same" 1245 (.ref 763),kE P "_law_drawn_number" 1254 (.ref 770),kE P "law" 1260 (.ref 775)] 105),#[]⟩)::(nat_lit 30,⟨(.type "dict"),none,(.dict #[kE P "__module__" 203 (.str "glazebench.errors" 194),kE P "__firstlineno__" 207 (.int (5) 206),kE P "__static_attributes__" 208 (.ref 29),kE P "__weakref__" 210 (.ref 32),kE P "__doc__" 211 .none] 3),#[]⟩)::(nat_lit 31,⟨(.type "type"),none,(.cls { name:="GlassError",bases:=[(.type "ValueError")],mro:=[(.ref 31),(.type "ValueError"),(.type "Exception"),(.type "BaseException"),(.type "object")],ns:=30,qualname:="GlassError",hasDict:=true,slotNames:=[],subclasses:=[(.ref 51),(.ref 70),(.ref 89),(.ref 108),(.ref 127),(.ref 146),(.ref 165),(.ref 184)],abstract:=false,collection:=none,hasDel:=false }),#[some (.ref 22),none,some (.str "GlassError" 196),some (.str "GlassError" 204),some (.builtin "ValueError.__new__"),some (.bool true)]⟩)::(nat_lit 32,⟨(.type "getset_descriptor"),none,(.fields #[(.str "__weakref__" 209),(.ref 31),(.builtin "ExceptionGroup.__weakref__"),.none]),#[]⟩)::(nat_lit 47,co "__init__" "NoSide.__init__" 226 227 228 9 2 42 181 43 44 45 46 231 9 232)::(nat_lit 48,fo "__init__" "NoSide.__init__" (Bq (top 3) 0) .none (.str "glazebench.errors" 194) 47)::(nat_lit 50,⟨(.type "dict"),none,(.dict #[kE P "__module__" 221 (.str "glazebench.errors" 194),kE P "__firstlineno__" 225 (.int (7) 224),kE P "__init__" 233 (.ref 48),kE P "__static_attributes__" 235 (.ref 49),kE P "__doc__" 236 .none] 2),#[]⟩)::(nat_lit 51,⟨(.type "type"),none,(.cls { name:="NoSide",bases:=[(.ref 31)],mro:=[(.ref 51),(.ref 31),(.type "ValueError"),(.type "Exception"),(.type "BaseException"),(.type "object")],ns:=50,qualname:="NoSide",hasDict:=true,slotNames:=[],subclasses:=[],abstract:=false,collection:=none,hasDel:=false }),#[some (.ref 35),none,some (.str "NoSide" 214),some (.str "NoSide" 222),some (.builtin "ValueError.__new__"),some (.bool true)]⟩)::(nat_lit 180,co "__init__" "NoNumber.__init__" 405 406 407 39 2 175 181 176 177 178 179 410 39 411)::(nat_lit 181,fo "__init__" "NoNumber.__init__" (Bq (top 10) 0) .none (.str "glazebench.errors" 194) 180)::(nat_lit 183,⟨(.type "dict"),none,(.dict #[kE P "__module__" 400 (.str "glazebench.errors" 194),kE P "__firstlineno__" 404 (.int (37) 403),kE P "__init__" 412 (.ref 181),kE P "__static_attributes__" 414 (.ref 182),kE P "__doc__" 415 .none] 2),#[]⟩)::(nat_lit 184,⟨(.type "type"),none,(.cls { name:="NoNumber",bases:=[(.ref 31)],mro:=[(.ref 184),(.ref 31),(.type "ValueError"),(.type "Exception"),(.type "BaseException"),(.type "object")],ns:=183,qualname:="NoNumber",hasDict:=true,slotNames:=[],subclasses:=[],abstract:=false,collection:=none,hasDel:=false }),#[some (.ref 168),none,some (.str "NoNumber" 393),some (.str "NoNumber" 401),some (.builtin "ValueError.__new__"),some (.bool true)]⟩)::(nat_lit 192,co "is_whole" "is_whole" 424 425 426 44 1 187 181 188 189 190 191 428 44 429)::(nat_lit 193,fo "is_whole" "is_whole" (top 14) .none (.str "glazebench.panels" 418) 192)::(nat_lit 199,co "is_side" "is_side" 431 432 433 46 1 194 181 195 196 197 198 435 46 436)::(nat_lit 200,fo "is_side" "is_side" (top 15) .none (.str "glazebench.panels" 418) 199)::(nat_lit 204,cp "is_rectangle" "is_rectangle" 438 439 440 48 1 201 181 202 .none .none (.ref 203) 441 48 442)::(nat_lit 205,fo "is_rectangle" "is_rectangle" (top 16) .none (.str "glazebench.panels" 418) 204)::(nat_lit 211,co "inside" "inside" 444 445 446 54 2 206 181 207 208 209 210 450 54 451)::(nat_lit 212,fo "inside" "inside" (top 17) .none (.str "glazebench.panels" 418) 211)::(nat_lit 218,co "squares_of" "squares_of" 453 454 455 57 1 213 181 214 215 216 217 460 57 461)::(nat_lit 219,fo "squares_of" "squares_of" (top 18) .none (.str "glazebench.panels" 418) 218)::(nat_lit 225,co "check_sides" "check_sides" 463 464 465 63 2 220 181 221 222 223 224 469 63 470)::(nat_lit 226,fo "check_sides" "check_sides" (top 19) .none (.str "glazebench.panels" 418) 225)::(nat_lit 232,co "check_panes" "check_panes" 472 473 474 67 2 227 181 228 229 230 231 479 67 480)::(nat_lit 233,fo "check_panes" "check_panes" (top 20) .none (.str "glazebench.panels" 418) 232)::(nat_lit 239,co "panes_by_square" "panes_by_square" 482 483 484 73 1 234 181 235 236 237 238 490 73 491)::(nat_lit 240,fo "panes_by_square" "panes_by_square" (top 21) .none (.str "glazebench.panels" 418) 239)::(nat_lit 246,co "check_covered" "check_covered" 493 494 495 81 2 241 181 242 243 244 245 499 81 500)::(nat_lit 247,fo "check_covered" "check_covered" (top 22) .none (.str "glazebench.panels" 418) 246)::(nat_lit 258,cp "__init__" "Panel.__init__" 514 515 516 87 4 255 181 256 .none .none (.ref 257) 517 87 518)::(nat_lit 259,fo "__init__" "Panel.__init__" (Bq (top 23) 0) .none (.str "glazebench.panels" 418) 258)::(nat_lit 265,co "panes" "Panel.panes" 520 521 522 99 1 260 181 261 262 263 264 524 99 525)::(nat_lit 266,fo "panes" "Panel.panes" (Bq (top 23) 1) .none (.str "glazebench.panels" 418) 265)::(nat_lit 282,⟨(.type "dict"),none,(.dict #[kE P "__module__" 509 (.str "glazebench.panels" 418),kE P "__firstlineno__" 513 (.int (85) 512),kE P "__init__" 519 (.ref 259),kE P "panes" 526 (.ref 266),kE P "pane_at" 535 (.ref 273),kE P "turned" 542 (.ref 280),kE P "__static_attributes__" 547 (.ref 281),kE P "__dict__" 549 (.ref 284),kE P "__weakref__" 551 (.ref 285),kE P "__doc__" 552 .none] 4),#[]⟩)::(nat_lit 283,⟨(.type "type"),none,(.cls { name:="Panel",bases:=[(.type "object")],mro:=[(.ref 283),(.type "object")],ns:=282,qualname:="Panel",hasDict:=true,slotNames:=[],subclasses:=[],abstract:=false,collection:=none,hasDel:=false }),#[none,none,some (.str "Panel" 502),some (.str "Panel" 510),some (.builtin "object.__new__"),some (.bool true)]⟩)::(nat_lit 284,⟨(.type "getset_descriptor"),none,(.fields #[(.str "__dict__" 548),(.ref 283),(.builtin "function.__dict__"),(.builtin "function.__dict__#set")]),#[]⟩)::(nat_lit 285,⟨(.type "getset_descriptor"),none,(.fields #[(.str "__weakref__" 550),(.ref 283),(.builtin "ExceptionGroup.__weakref__"),.none]),#[]⟩)::(nat_lit 317,co "line_breaks" "line_breaks" 590 591 592 123 3 312 181 313 314 315 316 596 123 597)::(nat_lit 318,fo "line_breaks" "line_breaks" (top 31) .none (.str "glazebench.blocks" 555) 317)::(nat_lit 322,cp "goes_through" "goes_through" 599 600 601 125 3 319 181 320 .none .none (.ref 321) 602 125 603)::(nat_lit 323,fo "goes_through" "goes_through" (top 32) .none (.str "glazebench.blocks" 555) 322)::(nat_lit 327,cp "lines_through" "lines_through" 605 606 607 127 3 324 181 325 .none .none (.ref 326) 608 127 609)::(nat_lit 328,fo "lines_through" "lines_through" (top 33) .none (.str "glazebench.blocks" 555) 327)::(nat_lit 334,co "check_counted" "check_counted" 615 616 617 131 2 329 181 330 331 332 333 621 131 622)::(nat_lit 335,fo "check_counted" "check_counted" (top 36) .none (.str "glazebench.counts" 611) 334)::(nat_lit 339,cp "ways_to_part" "ways_to_part" 624 625 626 135 1 336 181 337 .none .none (.ref 338) 627 135 628)::(nat_lit 340,fo "ways_to_part" "ways_to_part" (top 37) .none (.str "glazebench.counts" 611) 339)::(nat_lit 346,co "count_of_grid" "count_of_grid" 630 631 632 141 3 341 181 342 343 344 345 639 141 640)::(nat_lit 347,fo "count_of_grid" "count_of_grid" (top 38) .none (.str "glazebench.counts" 611) 346)::(nat_lit 353,co "count_by_smaller" "count_by_smaller" 642 643 644 147 3 348 181 349 350 351 352 652 147 653)::(nat_lit 354,fo "count_by_smaller" "count_by_smaller" (top 39) .none (.str "glazebench.counts" 611) 353)::(nat_lit 360,co "count" "count" 655 656 657 157 2 355 181 356 357 358 359 663 157 664)::(nat_lit 361,fo "count" "count" (top 40) .none (.str "glazebench.counts" 611) 360)::(nat_lit 403,⟨(.type "dict"),none,(.dict #[kE P "__module__" 681 (.str "glazebench.cuts" 666),kE P "__firstlineno__" 685 (.int (168) 684),kE P "leaves" 691 (.ref 373),kE P "depth" 698 (.ref 380),kE P "turned" 705 (.ref 387),kE P "fits" 714 (.ref 394),kE P "same" 722 (.ref 401),kE P "__static_attributes__" 723 (.ref 402),kE P "__dict__" 725 (.ref 405),kE P "__weakref__" 727 (.ref 406),kE P "__doc__" 728 .none] 4),#[]⟩)::(nat_lit 404,⟨(.type "type"),none,(.cls { name:="Tree",bases:=[(.type "object")],mro:=[(.ref 404),(.type "object")],ns:=403,qualname:="Tree",hasDict:=true,slotNames:=[],subclasses:=[(.ref 426),(.ref 445),(.ref 464)],abstract:=false,collection:=none,hasDel:=false }),#[none,none,some (.str "Tree" 674),some (.str "Tree" 682),some (.builtin "object.__new__"),some (.bool true)]⟩)::(nat_lit 405,⟨(.type "getset_descriptor"),none,(.fields #[(.str "__dict__" 724),(.ref 404),(.builtin "function.__dict__"),(.builtin "function.__dict__#set")]),#[]⟩)::(nat_lit 406,⟨(.type "getset_descriptor"),none,(.fields #[(.str "__weakref__" 726),(.ref 404),(.builtin "ExceptionGroup.__weakref__"),.none]),#[]⟩)::(nat_lit 416,⟨(.type "tuple"),none,(.seq #[.none] 0),#[]⟩)::(nat_lit 422,co "__init__" "Whole.__init__" 743 744 745 186 2 417 181 418 419 420 421 748 186 749)::(nat_lit 423,fo "__init__" "Whole.__init__" (Bq (top 46) 0) (.ref 416) (.str "glazebench.cuts" 666) 422)::(nat_lit 425,⟨(.type "dict"),none,(.dict #[kE P "__module__" 738 (.str "glazebench.cuts" 666),kE P "__firstlineno__" 742 (.int (184) 741),kE P "__init__" 750 (.ref 423),kE P "__static_attributes__" 752 (.ref 424),kE P "__doc__" 753 .none] 2),#[]⟩)::(nat_lit 426,⟨(.type "type"),none,(.cls { name:="Whole",bases:=[(.ref 404)],mro:=[(.ref 426),(.ref 404),(.type "object")],ns:=425,qualname:="Whole",hasDict:=true,slotNames:=[],subclasses:=[],abstract:=false,collection:=none,hasDel:=false }),#[some (.ref 409),none,some (.str "Whole" 731),some (.str "Whole" 739),some (.builtin "object.__new__"),some (.bool true)]⟩)::(nat_lit 441,co "__init__" "Upright.__init__" 768 769 770 190 4 436 181 437 438 439 440 775 190 776)::(nat_lit 442,fo "__init__" "Upright.__init__" (Bq (top 47) 0) .none (.str "glazebench.cuts" 666) 441)::(nat_lit 444,⟨(.type "dict"),none,(.dict #[kE P "__module__" 763 (.str "glazebench.cuts" 666),kE P "__firstlineno__" 767 (.int (188) 766),kE P "__init__" 777 (.ref 442),kE P "__static_attributes__" 781 (.ref 443),kE P "__doc__" 782 .none] 2),#[]⟩)::(nat_lit 445,⟨(.type "type"),none,(.cls { name:="Upright",bases:=[(.ref 404)],mro:=[(.ref 445),(.ref 404),(.type "object")],ns:=444,qualname:="Upright",hasDict:=true,slotNames:=[],subclasses:=[],abstract:=false,collection:=none,hasDel:=false }),#[some (.ref 429),none,some (.str "Upright" 756),some (.str "Upright" 764),some (.builtin "object.__new__"),some (.bool true)]⟩)::(nat_lit 460,co "__init__" "Level.__init__" 797 798 799 196 4 455 181 456 457 458 459 804 196 805)::(nat_lit 461,fo "__init__" "Level.__init__" (Bq (top 48) 0) .none (.str "glazebench.cuts" 666) 460)::(nat_lit 463,⟨(.type "dict"),none,(.dict #[kE P "__module__" 792 (.str "glazebench.cuts" 666),kE P "__firstlineno__" 796 (.int (194) 795),kE P "__init__" 806 (.ref 461),kE P "__static_attributes__" 810 (.ref 462),kE P "__doc__" 811 .none] 2),#[]⟩)::(nat_lit 464,⟨(.type "type"),none,(.cls { name:="Level",bases:=[(.ref 404)],mro:=[(.ref 464),(.ref 404),(.type "object")],ns:=463,qualname:="Level",hasDict:=true,slotNames:=[],subclasses:=[],abstract:=false,collection:=none,hasDel:=false }),#[some (.ref 448),none,some (.str "Level" 785),some (.str "Level" 793),some (.builtin "object.__new__"),some (.bool true)]⟩)::(nat_lit 493,co "cut_from" "cut_from" 839 840 841 216 4 488 181 489 490 491 492 846 216 847)::(nat_lit 494,fo "cut_from" "cut_from" (top 52) .none (.str "glazebench.cuts" 666) 493)::(nat_lit 500,co "tree_from" "tree_from" 849 850 851 220 1 495 181 496 497 498 499 858 220 859)::(nat_lit 501,fo "tree_from" "tree_from" (top 53) .none (.str "glazebench.cuts" 666) 500)::(nat_lit 507,co "entries_by" "entries_by" 861 862 863 230 2 502 181 503 504 505 506 870 230 871)::(nat_lit 508,fo "entries_by" "entries_by" (top 54) .none (.str "glazebench.cuts" 666) 507)::(nat_lit 514,co "first_piece" "first_piece" 873 874 875 241 3 509 181 510 511 512 513 879 241 880)::(nat_lit 515,fo "first_piece" "first_piece" (top 55) .none (.str "glazebench.cuts" 666) 514)::(nat_lit 521,co "other_piece" "other_piece" 882 883 884 245 3 516 181 517 518 519 520 888 245 889)::(nat_lit 522,fo "other_piece" "other_piece" (top 56) .none (.str "glazebench.cuts" 666) 521)::(nat_lit 574,cp "entry_for" "entry_for" 964 965 966 291 2 571 181 572 .none .none (.ref 573) 967 291 968)::(nat_lit 575,fo "entry_for" "entry_for" (top 70) .none (.str "glazebench.rooms" 960) 574)::(nat_lit 581,co "cut_up" "cut_up" 970 971 972 302 2 576 181 577 578 579 580 976 302 977)::(nat_lit 582,fo "cut_up" "cut_up" (top 71) .none (.str "glazebench.rooms" 960) 581)::(nat_lit 610,cp "tree_of" "tree_of" 1015 1016 1017 325 1 607 181 608 .none .none (.ref 609) 1018 325 1019)::(nat_lit 611,fo "tree_of" "tree_of" (top 76) .none (.str "glazebench.rooms" 960) 610)::(nat_lit 617,co "all_lines" "all_lines" 1023 1024 1025 332 1 612 181 613 614 615 616 1027 332 1028)::(nat_lit 618,fo "all_lines" "all_lines" (top 78) .none (.str "glazebench.numbers" 1021) 617)::(nat_lit 624,co "parts_between" "parts_between" 1030 1031 1032 334 2 619 181 620 621 622 623 1037 334 1038)::(nat_lit 625,fo "parts_between" "parts_between" (top 79) .none (.str "glazebench.numbers" 1021) 624)::(nat_lit 631,co "in_common" "in_common" 1040 1041 1042 342 2 626 181 627 628 629 630 1051 342 1052)::(nat_lit 632,fo "in_common" "in_common" (top 80) .none (.str "glazebench.numbers" 1021) 631)::(nat_lit 638,co "rows_by_lines" "rows_by_lines" 1054 1055 1056 349 3 633 181 634 635 636 637 1062 349 1063)::(nat_lit 639,fo "rows_by_lines" "rows_by_lines" (top 81) .none (.str "glazebench.numbers" 1021) 638)::(nat_lit 643,cp "rows_without" "rows_without" 1065 1066 1067 354 2 640 181 641 .none .none (.ref 642) 1068 354 1069)::(nat_lit 644,fo "rows_without" "rows_without" (top 82) .none (.str "glazebench.numbers" 1021) 643)::(nat_lit 650,co "strips_of_size" "strips_of_size" 1071 1072 1073 356 3 645 181 646 647 648 649 1080 356 1081)::(nat_lit 651,fo "strips_of_size" "strips_of_size" (top 83) .none (.str "glazebench.numbers" 1021) 650)::(nat_lit 655,cp "all_strips" "all_strips" 1083 1084 1085 362 1 652 181 653 .none .none (.ref 654) 1086 362 1087)::(nat_lit 656,fo "all_strips" "all_strips" (top 84) .none (.str "glazebench.numbers" 1021) 655)::(nat_lit 660,cp "rows_before" "rows_before" 1089 1090 1091 370 4 657 181 658 .none .none (.ref 659) 1092 370 1093)::(nat_lit 661,fo "rows_before" "rows_before" (top 85) .none (.str "glazebench.numbers" 1021) 660)::(nat_lit 665,cp "row_by" "row_by" 1095 1096 1097 372 5 662 181 663 .none .none (.ref 664) 1098 372 1099)::(nat_lit 666,fo "row_by" "row_by" (top 86) .none (.str "glazebench.numbers" 1021) 665)::(nat_lit 672,co "strip_by" "strip_by" 1101 1102 1103 389 4 667 181 668 669 670 671 1108 389 1109)::(nat_lit 673,fo "strip_by" "strip_by" (top 87) .none (.str "glazebench.numbers" 1021) 672)::(nat_lit 679,co "panes_by" "panes_by" 1111 1112 1113 393 4 674 181 675 676 677 678 1120 393 1121)::(nat_lit 680,fo "panes_by" "panes_by" (top 88) .none (.str "glazebench.numbers" 1021) 679)::(nat_lit 686,co "panel_by" "panel_by" 1123 1124 1125 401 3 681 181 682 683 684 685 1130 401 1131)::(nat_lit 687,fo "panel_by" "panel_by" (top 89) .none (.str "glazebench.numbers" 1021) 686)::(nat_lit 691,cp "lines_of" "lines_of" 1133 1134 1135 406 3 688 181 689 .none .none (.ref 690) 1136 406 1137)::(nat_lit 692,fo "lines_of" "lines_of" (top 90) .none (.str "glazebench.numbers" 1021) 691)::(nat_lit 696,cp "strip_at" "strip_at" 1139 1140 1141 408 3 693 181 694 .none .none (.ref 695) 1142 408 1143)::(nat_lit 697,fo "strip_at" "strip_at" (top 91) .none (.str "glazebench.numbers" 1021) 696)::(nat_lit 703,co "number_in_rows" "number_in_rows" 1145 1146 1147 411 5 698 181 699 700 701 702 1160 411 1161)::(nat_lit 704,fo "number_in_rows" "number_in_rows" (top 92) .none (.str "glazebench.numbers" 1021) 703)::(nat_lit 710,co "number_in_strips" "number_in_strips" 1163 1164 1165 423 4 705 181 706 707 708 709 1170 423 1171)::(nat_lit 711,fo "number_in_strips" "number_in_strips" (top 93) .none (.str "glazebench.numbers" 1021) 710)::(nat_lit 717,co "number_of" "number_of" 1173 1174 1175 427 1 712 181 713 714 715 716 1181 427 1182)::(nat_lit 718,fo "number_of" "number_of" (top 94) .none (.str "glazebench.numbers" 1021) 717)::(nat_lit 724,co "_law_at" "_law_at" 1186 1187 1188 437 2 719 181 720 721 722 723 1192 437 1193)::(nat_lit 725,fo "_law_at" "_law_at" (top 96) .none (.str "law_glazebench_k42_panels_by_numbers" 1184) 724)::(nat_lit 729,cp "_law_more" "_law_more" 1195 1196 1197 444 3 726 181 727 .none .none (.ref 728) 1198 444 1199)::(nat_lit 730,fo "_law_more" "_law_more" (top 97) .none (.str "law_glazebench_k42_panels_by_numbers" 1184) 729)::(nat_lit 736,co "_law_knead" "_law_knead" 1201 1202 1203 446 2 731 181 732 733 734 735 1209 446 1210)::(nat_lit 737,fo "_law_knead" "_law_knead" (top 98) .none (.str "law_glazebench_k42_panels_by_numbers" 1184) 736)::(nat_lit 743,co "_law_whole" "_law_whole" 1212 1213 1214 460 2 738 181 739 740 741 742 1217 460 1218)::(nat_lit 744,fo "_law_whole" "_law_whole" (top 99) .none (.str "law_glazebench_k42_panels_by_numbers" 1184) 743)::(nat_lit 748,cp "_law_cuttable" "_law_cuttable" 1220 1221 1222 462 1 745 181 746 .none .none (.ref 747) 1223 462 1224)::(nat_lit 749,fo "_law_cuttable" "_law_cuttable" (top 100) .none (.str "law_glazebench_k42_panels_by_numbers" 1184) 748)::(nat_lit 755,co "_law_refused" "_law_refused" 1226 1227 1228 474 3 750 181 751 752 753 754 1235 474 1236)::(nat_lit 756,fo "_law_refused" "_law_refused" (top 101) .none (.str "law_glazebench_k42_panels_by_numbers" 1184) 755)::(nat_lit 762,co "_law_same" "_law_same" 1238 1239 1240 488 2 757 181 758 759 760 761 1243 488 1244)::(nat_lit 763,fo "_law_same" "_law_same" (top 102) .none (.str "law_glazebench_k42_panels_by_numbers" 1184) 762)::(nat_lit 769,co "_law_drawn_number" "_law_drawn_number" 1246 1247 1248 490 2 764 181 765 766 767 768 1252 490 1253)::(nat_lit 770,fo "_law_drawn_number" "_law_drawn_number" (top 103) .none (.str "law_glazebench_k42_panels_by_numbers" 1184) 769)::(nat_lit 774,cp "law" "law" 1255 1256 1257 497 1 771 181 772 .none .none (.ref 773) 1258 497 1259)::(nat_lit 775,fo "law" "law" (top 104) .none (.str "law_glazebench_k42_panels_by_numbers" 1184) 774)::(nat_lit 4,⟨(.type "module"),(some 0),.plain,#[]⟩)::[]
noncomputable def kas:List jd:=(KK { strHash:=λ_=>0,shareClass:=id,mergeTok:=id,idOf:=λ_=>0,idOfShared:=λ_ _=>0,followText:=λ_=>false,idOfImm:=λ_=>0 }).map (λ x=>x.1)
noncomputable def keeps:List Nat:=0::2::3::4::5::6::7::8::9::10::12::13::14::15::16::17::18::19::20::21::22::23::25::26::27::28::29::30::31::32::33::35::36::37::38::39::40::42::43::44::45::46::47::48::49::50::51::52::53::54::55::56::58::59::60::61::62::63::64::65::66::67::69::70::71::72::73::74::75::76::78::79::80::81::82::83::84::85::86::87::88::89::90::91::92::93::94::96::97::98::99::100::101::102::103::104::[]
noncomputable def lo:LSz:=["Whole"]
noncomputable def Ts:List jd:=nat_lit 577::[]
theorem prep(h:PySem.Challenge.rw_glazebench_k42_panels_by_numbers.row.wellSaid=true->PySem.Challenge.rw_glazebench_k42_panels_by_numbers.row.Holds):PySem.Challenge.rw_glazebench_k42_panels_by_numbers.Holds:=by
 w_on
 o_law
 exact h (by assumption)
noncomputable def qv(p:jk):jk:=view p keeps
noncomputable def Xp(p:jk)(s:jf):Bool:=xlAt (qv p) [] s&&recOk (RowW.records (OpenRow.toRowW PySem.Challenge.rw_glazebench_k42_panels_by_numbers.row)) s
theorem kas_is(P:lC):kas=(KK P).map (λ x=>x.1):=by kernel_rfl
theorem Wv:opening lS=plainProg lS.main.scope.names:=by kernel_rfl
theorem Sk(s:jf):fenceModules? lS s=some s:=by kernel_rfl
theorem Uh(w:ju):((jQ w.params).isNs jq,(jQ w.params).objs.size,(jQ w.params).nsMap jq "__annotations__")=(true,11,(some (.ref 6))):=by kernel_rfl
open PySem.W.Fast renaming te10156331382660048174→lM,te11892475500146522536→lN,te14364793385576792824→lO,te4187177175401517315→lP,te5923862056798008813→lQ,te9251287382125003702→lR
theorem Xn:WN 11864 11 (some (.ref 6)) lM lN lO lQ lP lR:=λ w os=>by kernel_rfl
theorem Wk:JQ 11864 11 (some (.ref 6)) qv lo Xp (λ x=>x.1) (expectedOf) lM lN lO lQ lP lR:=λ w os=>by kernel_rfl
theorem Wj:JQ 11864 11 (some (.ref 6)) qv lo Xp (λ x=>(x.2.1,x.2.2.1)) (λ_=>(bltViewBooted,true)) lM lN lO lQ lP lR:=λ w os=>by kernel_rfl
theorem Wi:JQ 11864 11 (some (.ref 6)) qv lo Xp (λ x=>(x.2.2.2.1,x.2.2.2.2.1)) (λ q=>(true,pinGoodD (drecsOf q))) lM lN lO lQ lP lR:=λ w os=>by kernel_rfl
theorem Wh:JQ 11864 11 (some (.ref 6)) qv lo Xp (λ x=>(x.2.2.2.2.2.1,x.2.2.2.2.2.2.1)) (λ q=>(plainGoodE q (looseW q lo),plainGoodD q lo)) lM lN lO lQ lP lR:=λ w os=>by kernel_rfl
theorem Wg:JQ 11864 11 (some (.ref 6)) qv lo Xp (λ x=>x.2.2.2.2.2.2.2) (λ q=>(wideGood q,clsGoodW q lo)) lM lN lO lQ lP lR:=λ w os=>by kernel_rfl
theorem Xm:RunB 11864 11 (some (.ref 6)) qv lo Xp lM lN lO lQ lP lR:=RunB.of5 Wk Wj Wi Wh Wg
theorem Xl:WM 11864 11 (some (.ref 6)) (hookT (kHook KK kas kas_is) Ts).obs (hookT (kHook KK kas kas_is) Ts).val lM lN lO lQ lP lR:=λ w os=>by kernel_rfl
theorem ran:∀(w:ju)(os:OsState),Option.map (Ko openSeen (jP lS.main.body) lS (qv lS) lo (Xp lS) (hookT (kHook KK kas kas_is) Ts).obs (jQ w.params)) (topRun jV lS w 11 (some (.ref 6)) 11864 (Eh w.params os) (topStub lS))=some (true,openGood (qv lS) lo,(hookT (kHook KK kas kas_is) Ts).val w):=Tm Xn Xm Xl
theorem left:LeftO lS (qv lS) lo (Xp lS) (hookT (kHook KK kas kas_is) Ts).obs (hookT (kHook KK kas kas_is) Ts).val 11864:=Ql (boot_open Wv (by decide) Sk) Uh ran
end KH
namespace L2
open PySem.W
open PySem PySem.Spec PyProof.Rows
section
variable{α:Type}{κ:α->Int}
noncomputable def XB(κ:α->Int)(xs:List α):Prop:=xs.Pairwise λ x y=>κ x<=κ y
end
section
variable{M:Model}{A:jx}{E:VPz}{s:jf}{κ:Keyed->Int}{S:Keyed->Prop}{kd:SortKind}
noncomputable def Tiles(κ:Keyed->Int)(xs:List Keyed):Nat->List (Nat×Nat×Nat)->Nat->Prop
 |a,[],b=>a=b
 |a,p::ps,b=>p.1=a/\0<p.2.1/\XB κ ((xs.drop a).take p.2.1)/\Tiles κ xs (a+p.2.1) ps b
end
noncomputable def Sb:Option NameKind->Bool
 |some .cell=>true
 |some .free=>true
 |_=>false
theorem OQ{o:Option NameKind}(h:Sb o=true):o=some .cell\/o=some .free:=by
 match o,h with
 |some .cell,_=>exact .inl rfl
 |some .free,_=>exact .inr rfl
theorem Fn(env:lH):∀(l:List (jD×NameKind))(acc:List (jD×jd)),(∀y∈l,y.2=.free->∃c,env.cells.lookup y.1=some c) ->
  (∀x c,acc.lookup x=some c->env.cells.lookup x=some c) ->
  ∃cl,(forIn l acc (λ(x:jD×NameKind)(r:List (jD×jd))=>if (x.2==.free)=true then (cellOf env x.1 >>= λ c=>pure (ForInStep.yield ((x.1,c)::r))) else pure (ForInStep.yield r)):Sem (List (jD×jd)))=pure cl /\
   (∀x c,cl.lookup x=some c->env.cells.lookup x=some c)/\(∀x,((∃c,acc.lookup x=some c)\/(x,NameKind.free)∈l)->∃c,cl.lookup x=some c)
 |[],acc,_,ha=>⟨acc,by rfl,ha,λ x h=>h.elim id λ z=>nomatch z⟩
 | (n,k)::l,acc,hl,ha=>by
  have hl':∀y∈l,y.2=.free->∃c,env.cells.lookup y.1=some c:=λ y hy=>hl y (ay _ hy);by_cases hk:k=.free
  .subst hk;obtain⟨c,hc⟩:=hl (n,.free) aw rfl;have hc':env.cells.lookup n=some c:=hc;have look:∀x,((n,c)::acc).lookup x=if x=n then some c else acc.lookup x:=λ x=>by
    rw[aX];by_cases e:x=n
    .subst e;simp
    .rw[jj e,show(x==n)=false by simpa using e]
   have ha':∀x d,((n,c)::acc).lookup x=some d->env.cells.lookup x=some d:=λ x d e=>by
    rw[look]at e;split at e
    .rename_i q;subst q;rw[hc'];exact e
    .exact ha x d e
   obtain⟨cl,e,h1,h2⟩:=Fn env l ((n,c)::acc) hl' ha';refine⟨cl,?_,h1,λ x h=>h2 x ?_⟩
   .rw[<-e,eY];have ec:cellOf env n=pure c:=by unfold cellOf;rw[hc']
    show((cellOf env n >>= λ c=>pure (ForInStep.yield ((n,c)::acc))) >>= _:Sem (List (jD×jd)))=_;rw[ec];rfl
   .rcases h with ⟨d,q⟩|h
    .left
     rw[look];by_cases z:x=n
     .exact⟨c,by rw[jo z]⟩
     .exact⟨d,by rw[jj z];exact q⟩
    .rcases aO.mp h with z|z
     .left
      rw[look];exact⟨c,by rw[jo (congrArg Prod.fst z)]⟩
     .exact .inr z
  .obtain⟨cl,e,h1,h2⟩:=Fn env l acc hl' ha;refine⟨cl,?_,h1,λ x h=>h2 x ?_⟩
   .rw[<-e,eY];have hb:(k==NameKind.free)=false:=by simpa using hk
    show((if (k==NameKind.free)=true then _ else pure (ForInStep.yield acc)) >>= _:Sem (List (jD×jd)))=_;rw[hb];rfl
   .rcases h with h|h
    .exact .inl h
    .rcases aO.mp h with z|z
     .exact absurd (congrArg Prod.snd z).symm hk
     .exact .inr z
theorem NZ{scope:jZ}{env:lH}(h:∀y∈scope.names,y.2=.free->∃c,env.cells.lookup y.1=some c) :
  ∃cl,closureFor scope env=pure cl/\(∀x c,cl.lookup x=some c->env.cells.lookup x=some c)/\(∀x,(x,NameKind.free)∈scope.names->∃c,cl.lookup x=some c):=by
 obtain⟨cl,e,h1,h2⟩:=Fn env scope.names [] h (λ x c e=>by simp at e);refine⟨cl,?_,h1,λ x hx=>h2 x (.inr hx)⟩;have e2:closureFor scope env=(forIn scope.names [] (λ(x:jD×NameKind)(r:List (jD×jd))=>if (x.2==.free)=true then (cellOf env x.1 >>= λ c=>pure (ForInStep.yield ((x.1,c)::r))) else pure (ForInStep.yield r)) >>= λ r=>pure r:Sem (List (jD×jd))):=by
  rfl
 rw[e2,e];rfl
noncomputable abbrev AM(X:Cx)(scope:jZ)(cl:List (jD×jd))(N:LSz)(C:jd)(s:jf)(H:Hp)(ex:List jd):Cx :=
 { X with N:=N,s₀:=s,H₀:=H,env:=compEnvC scope cl C X.env,i6:=X.stack,ex:=ex,fn:=λ_=>false,pn:=[],xe:=λ_ _=>False }
noncomputable def Eu(osc:jZ)(oN:LSz)(sc:jZ)(N:LSz)(fr:List (Option Nat)):Bool :=
 decide (sc.kind=.function)&&sc.names.all (λ y=>decide (y.2≠.cell))&&sc.names.all (λ y=>decide (y.2≠.free)||Sb (osc.names.lookup y.1)) &&
 sc.names.all (λ y=>decide (y.2≠.local)||decide (sc.names.lookup y.1=some .local)) &&
 (N.zip fr).all (λ y=>match y.2 with
  |none=>true
  |some i=>decide (oN[i]?=some y.1)&&Sb (osc.names.lookup y.1)&&decide (sc.names.lookup y.1=some .free))&&decide (N.length=fr.length)
structure FS(osc:jZ)(oN:LSz)(sc:jZ)(N:LSz)(fr:List (Option Nat)):Prop where
 kind:sc.kind=.function
 nocell:∀y∈sc.names,y.2≠.cell
 free:∀y∈sc.names,y.2=.free->Sb (osc.names.lookup y.1)=true
 loc:∀y∈sc.names,y.2=.local->sc.names.lookup y.1=some .local
 slots:∀(j:Nat)(x:jD)(i:Nat),N[j]?=some x->fr[j]?=some (some i)->oN[i]?=some x/\Sb (osc.names.lookup x)=true/\sc.names.lookup x=some .free
 len:N.length=fr.length
theorem Dx{osc:jZ}{oN:LSz}{sc:jZ}{N:LSz}{fr:List (Option Nat)}(h:Eu osc oN sc N fr=true):FS osc oN sc N fr:=by
 unfold Eu at h;simp only[ax,aI,decide_eq_true_eq,cx]at h;obtain⟨⟨⟨⟨⟨h1,h2⟩,h3⟩,h4⟩,h5⟩,h6⟩:=h;refine⟨h1,h2,λ y hy e=>(h3 y hy).resolve_left λ z=>z e,λ y hy e=>(h4 y hy).resolve_left λ z=>z e,λ j x i e1 e2=>?_,h6⟩;have hm:(x,some i)∈N.zip fr:=by
  have:(N.zip fr)[j]?=some (x,some i):=by rw[List.getElem?_zip_eq_some];exact⟨e1,e2⟩
  exact aA this
 have:=h5 _ hm;simp only[ax,decide_eq_true_eq]at this;exact⟨this.1.1,this.1.2,this.2⟩
noncomputable def stC(fr:List (Option Nat))(σ:St):St:=fr.map λ o=>o.bind λ i=>(σ[i]?).join
noncomputable def LV(wi:TI)(g:TG)(te:TE)(fr:List (Option Nat)):TE:=λ σ H Q=>wi σ H λ J H1=>∀acc,H1 acc=none->∃W:Nat->Nat->St->Hp->Prop,(∃m,W 0 m (stC fr σ) (upd H1 acc (.lst [])))/\∀i m σ1 H2,W i m σ1 H2 ->
 (J.stop i H2/\Q (.ref acc) H2)\/(J.go i H2/\∀x H3,J.yld i H2 x H3->g x σ1 H3 λ σ4 H4=>te σ4 H4 λ v H5=>∃xs,H5 acc=some (.lst xs)/\xs.length<jt/\∃m',m'<m/\W (i+1) m' σ4 (upd H5 acc (.lst (xs++[v]))))
section
variable{prog:jk}{w:ju}{A:jx}{R:lI->jf->Prop}{s:jf}
theorem LC{elt target iter:jB}{scope:jZ}{pos:Pos}{it acc:jg}{env:lH}(I:Nat->jf->Prop)
    (turn:∀n s,I n s->jh (jm prog w) A (pyNext it) (λ r s₁=>match r with
      |none=>R (.ok .next) s₁
      |some v=>jh (jm prog w) A (letOwnedTupleGo target it v) (λ_ s₁=>jh (jm prog w) A (assign target env v) (λ_ s₂=>jh (jm prog w) A (eval elt env) (λ x s₃ =>
          jh (jm prog w) A (call (.builtin "list.append") [acc,x]) (λ_ s₄=>∃m,m<n/\I m s₄) (notedBy (jm prog w) A env λ e s'=>R (.error e) s') s₃)
          (notedBy (jm prog w) A env λ e s'=>R (.error e) s') s₂) (notedBy (jm prog w) A env λ e s'=>R (.error e) s') s₁) (notedBy (jm prog w) A env λ e s'=>R (.error e) s') s₁) (notedBy (jm prog w) A env λ e s'=>R (.error e) s') s)
    (n:Nat) (h:I n s) :
    jU (jm prog w) A (.compLoop (.ListComp elt [⟨target,iter,[],0⟩] scope pos) 0 it acc env) R s:=by
  refine codeAny_loop rfl I (λ n s hI=>?_) n h;show jh _ _ ((compTurn (.ListComp elt [⟨target,iter,[],0⟩] scope pos) 0 it acc env).onRaise (λ x=>do noteFrame x env;theTreesLotGoes x)) _ _ s;refine wpAny_noted ?_;rw[compTurn_list1];refine jc (kq (jc (jA (turn n s hI) (λ r s₁ h₁=>?_) λ_ _ h'=>h')));cases r with
  |none=>exact je h₁
  |some v =>
    refine jc (jA h₁ (λ_ s₁ h₁=>?_) λ_ _ h'=>h');exact jc (jA h₁ (λ_ s₂ h₂=>jc (jc (jA h₂ (λ x s₃ h₃=>jc (jA h₃
      (λ_ s₄ h₄=>je (je ⟨rfl,h₄⟩)) λ_ _ h'=>h')) λ_ _ h'=>h'))) λ_ _ h'=>h')
end
theorem Bv{α:Type}{M:Model}{A:jx}{t:Sem α}{Q:α->jf->Prop}{E:VPz}{s:jf}(h:jh M A t Q (λ_ _=>False) s):jh M A t Q E s :=
 jA h (λ_ _ q=>q) λ_ _ z=>z.elim
theorem N0{scope:jZ}{env:lH}(hc:∀y∈scope.names,y.2≠.cell){x:jD}(h:(relabel scope env).names.lookup x=some .cell\/(relabel scope env).names.lookup x=some .free):(x,NameKind.free)∈scope.names:=by
 have key:∀(l:List (jD×NameKind)),(∀y∈l,y.2≠.cell)->((l.map λ(n,k)=>if (k==NameKind.free&&env.scope.kind==.function&&env.kindOf n==some .cell) then (n,NameKind.cell) else (n,k)).lookup x=some .cell \/
   (l.map λ(n,k)=>if (k==NameKind.free&&env.scope.kind==.function&&env.kindOf n==some .cell) then (n,NameKind.cell) else (n,k)).lookup x=some .free)->(x,NameKind.free)∈l:=by
  intro l
  induction l with
  |nil=>intro _ h;simp at h
  |cons y r ih =>
   obtain⟨n,k⟩:=y;intro hc h;have hr:∀y∈r,y.2≠.cell:=λ y hy=>hc y (ay _ hy);have hk:k≠.cell:=hc (n,k) aw;rw[aJ]at h;by_cases hxn:x=n
   .subst hxn;have hkf:k=.free:=by
     by_cases hb:(k==NameKind.free&&env.scope.kind==.function&&env.kindOf x==some .cell)=true
     .simp only[ax,beq_iff_eq]at hb;exact hb.1.1
     .simp only[hb,jj,au,if_false]at h;simp only[aX,beq_self_eq_true]at h;rcases h with h|h
      .exact absurd (Option.some.inj h) hk
      .exact Option.some.inj h
    rw[hkf];exact aw
   .have hb:(x==n)=false:=by simpa using hxn
    refine ay _ (ih hr ?_);by_cases hq:(k==NameKind.free&&env.scope.kind==.function&&env.kindOf n==some .cell)=true
    .simp only[hq,if_true,aX,hb]at h;exact h
    .simp only[hq,au,if_false,aX,hb]at h;exact h
 exact key scope.names hc h
theorem F0{env:lH}{x:jD}:∀{l:List (jD×NameKind)},l.lookup x=some .free ->
  ((l.map λ(n,k)=>if (k==NameKind.free&&env.scope.kind==.function&&env.kindOf n==some .cell) then (n,NameKind.cell) else (n,k)).lookup x=some .cell \/
   (l.map λ(n,k)=>if (k==NameKind.free&&env.scope.kind==.function&&env.kindOf n==some .cell) then (n,NameKind.cell) else (n,k)).lookup x=some .free)
 |[],h=>by simp at h
 | (n,k)::r,h=>by
  rw[aJ];by_cases hxn:x=n
  .subst hxn;simp only[aX,beq_self_eq_true]at h;have hk:=Option.some.inj h;subst hk;by_cases hq:(NameKind.free==NameKind.free&&env.scope.kind==.function&&env.kindOf x==some .cell)=true
   .left
    show List.lookup x ((if (NameKind.free==NameKind.free&&env.scope.kind==.function&&env.kindOf x==some .cell)=true then (x,NameKind.cell) else (x,NameKind.free))::_)=_;rw[jo hq,aX,beq_self_eq_true]
   .right
    show List.lookup x ((if (NameKind.free==NameKind.free&&env.scope.kind==.function&&env.kindOf x==some .cell)=true then (x,NameKind.cell) else (x,NameKind.free))::_)=_;rw[jj hq,aX,beq_self_eq_true]
  .have hb:(x==n)=false:=by simpa using hxn
   simp only[aX,hb]at h;have ih:=F0 (env:=env) h;by_cases hq:(k==NameKind.free&&env.scope.kind==.function&&env.kindOf n==some .cell)=true
   .simp only[hq,if_true,aX,hb];exact ih
   .simp only[hq,au,if_false,aX,hb];exact ih
theorem M7{x:jD}{k:NameKind}:∀{l:List (jD×NameKind)},l.lookup x=some k->(x,k)∈l
 |[],h=>by simp at h
 | (n,j)::r,h=>by
  by_cases e:x=n
  .subst e;simp only[aX,beq_self_eq_true]at h;rw[<-Option.some.inj h];exact aw
  .have hb:(x==n)=false:=by simpa using e
   simp only[aX,hb]at h;exact ay _ (M7 h)
section
variable{X:Cx}{elt tg iter:jB}{scope:jZ}{pos:Pos}{wi:TI}{g:TG}{te:TE}{N:LSz}{fr:List (Option Nat)}
theorem Jh{iZ:PNz}{σ:St}{H:Hp}{s s1:jf}{cl:List (jD×jd)}{ex:List jd}{C:jd}{m:MGz}(I:Inv X iZ σ H s)(ck:FS X.env.scope X.N scope N fr)
    (c1:∀x c,cl.lookup x=some c->X.env.cells.lookup x=some c) (c2:∀x,(x,NameKind.free)∈scope.names->∃c,cl.lookup x=some c) (hex:∀b∈ex,Fq X iZ H b/\b<s.heap.objs.size) (hC:s.heap.objs.size<=C)
    (hn:s1.heap.Ns C m) (k:∀b o,s.heap.get? b=some o->s1.heap.get? b=some o) (ho:s1.os=s.os) (hg:s1.gens=s.gens) :
    Inv (AM X scope cl N C s H ex) [] (stC fr σ) H s1:=by
  have lt_ne:∀{b:jd}{o:Obj},s.heap.get? b=some o->b≠C:=λ e=>aD (aK (ak e) hC);have ok:(AM X scope cl N C s H ex).Ok :=
    { mod:=I.ok.mod
      kind:=ck.kind
      glob:=I.ok.glob
      blt:=I.ok.blt
      above:=hC
      inj:=λ x y c e1 e2=>I.ok.inj x y c (c1 x c e1) (c1 y c e2)
      has:=λ x h=>c2 x (N0 ck.nocell h)
      cab:=λ x c z=>by cases z
      hd:=I.ok.hd
      frames:=I.ok.frames
      stk:=.inl rfl
      exf:=λ b hb=>⟨aD (aK (hex b hb).2 hC),λ x c e=>(hex b hb).1.2.2.2.2.1 x c (c1 x c e)⟩
      bs:=I.bs
      bsz:=aV I.ok.bsz I.sz
      noex:=λ b o e hb=>by
        rcases(hex b hb).1.2.2.2.1 with z|z
        · exact I.ok.noex b o e z
        · exact absurd (aK (ak e) (aV I.ok.bsz z)) (bG _)
      exfs:=λ b hb hz=>by
        rcases aO.mp (I.stkSub b hz) with z|z
        · exact(hex b hb).1.2.1 z
        · exact(hex b hb).1.2.2.1 z
      funs:=I.stack
      frf:=I.stkFree }
  refine⟨ok,ho,by rw[hg];exact I.bare,Un.kept k,⟨m,hn,λ j x v e1 e2 e3=>?_⟩,λ x c e=>?_,I.hok.fresh hC,λ x c e=>I.freeC x c (c1 x c e),λ p hp=>by simp at hp,I.hok.kept k,?_⟩
  · have e1':N[j]?=some x:=e1
    unfold stC at e2;rw[aE]at e2;cases q:fr[j]? with
    |none=>rw[q]at e2;cases e2
    |some o =>
      rw[q]at e2;cases o with
      |none =>
        have:(none:Option V)=some v:=Option.some.inj e2;cases this
      |some i =>
        have e2':(σ[i]?).join=some v:=Option.some.inj e2;obtain⟨s1',s2',s3'⟩:=ck.slots j x i e1' q;have hσ:σ[i]?=some (some v):=by
          cases z:σ[i]? with
          |none=>rw[z]at e2';cases e2'
          |some y=>rw[z]at e2';exact congrArg some e2'
        have hcf:=OQ s2';obtain⟨m0,hn0,hl⟩:=I.loc;obtain⟨u,r,lk⟩:=hl i x v s1' hσ (dv hcf);refine⟨u,r,dv ⟨F0 s3',?_⟩⟩;obtain⟨c,hc⟩:=c2 x (M7 s3');refine⟨c,hc,?_⟩;rcases lk with ⟨z,_⟩|⟨_,c',hc',hv⟩
        · rcases hcf with y|y
          · have z':X.env.scope.names.lookup x=some .local:=z
            rw[y]at z';cases z'
          · have z':X.env.scope.names.lookup x=some .local:=z
            rw[y]at z';cases z'
        · have:=c1 x c hc
          rw[hc']at this;cases this;exact hv.keeps k
  · obtain⟨v,z⟩:=I.cell x c (c1 x c e)
    exact⟨v,z.keeps k⟩
  · unfold stC
    rw[aa];exact ck.len.symm
theorem K2{iZ:PNz}{σ:St}{H:Hp}{s:jf}{Q:VK}{cl:List (jD×jd)}{R:jg->jd->lI->jf->Prop}(hc:X.calm=true)(I:Inv X iZ σ H s)(hi:PI X tg iter wi)
  (hg:∀cl C s H ex,PG (AM X scope cl N C s H ex) tg g) (he:∀cl C s H ex,PE (AM X scope cl N C s H ex) elt te) (ck:FS X.env.scope X.N scope N fr)
  (c1:∀x c,cl.lookup x=some c->X.env.cells.lookup x=some c) (c2:∀x,(x,NameKind.free)∈scope.names->∃c,cl.lookup x=some c)
  (h:LV wi g te fr σ H Q)
  (hR:∀acc C s' H' m,s'.heap.Ns C m->Fq X iZ H' C->Inv X iZ σ H' s'->Q (.ref acc) H'->R (.ref acc) C (.ok .next) s') :
  jh (jm X.prog X.w) X.A (eval iter X.env) (λ x s₁=>jh (jm X.prog X.w) X.A (pyIter x) (λ it s₂=>jh (jm X.prog X.w) X.A (newList []) (λ acc s₃ =>
   jh (jm X.prog X.w) X.A (newFunctionEnv scope X.env.globals cl [] X.env.qual none .none (some X.env)) (λ cenv s₄ =>
    jU (jm X.prog X.w) X.A (.compStart (.ListComp elt [⟨tg,iter,[],0⟩] scope pos) 0 it acc { cenv with scope:=relabel scope X.env }) (R acc cenv.locals) s₄) X.xe s₃) X.xe s₂) X.xe s₁) X.xe s:=by
 refine thn (hi iZ s σ H _ I h) λ v s1 h1=>thn h1 λ itv s2 h2=>?_;obtain⟨it,fp,tn,J,H2,e,I2,T,st2,f2,q2⟩:=h2;subst e;refine jM (wpAny_newFunctionEnv ck.nocell (by intro y hy;simp at hy) (λ h₁ hns₁ hsb₁=>?_) ck.kind);dsimp only at hns₁ hsb₁ |-;have I3:Inv X iZ σ (upd H2 s2.heap.objs.size (.lst [])) { s2 with heap:=s2.heap.push { cls:=.type "list",dict:=none,data:=.seq ([]:LWz).toArray } }:=I2.lnew (t':=s2.toks) (its:=[]) .nil (aP _);have acc0:H2 s2.heap.objs.size=none:=I2.fresh;obtain⟨W,⟨m0,w0⟩,turn⟩:=q2 s2.heap.objs.size acc0;generalize hH3:s2.heap.push { cls:=.type "list",dict:=none,data:=.seq ([]:LWz).toArray }=h3 at hns₁ hsb₁ I3 |-;have hz3:h3.objs.size=s2.heap.objs.size+1:=by rw[<-hH3,bq]
 have k23:∀b o,s2.heap.get? b=some o->h3.get? b=some o:=λ b o e=>by rw[<-hH3];exact ae _ e
 have k34:∀b o,h3.get? b=some o->h₁.get? b=some o:=λ b o e=>hsb₁.extBut b o (aD (ak e)) (ae _ e);have fpo:∀b∈fp,∃o,s2.heap.get? b=some o/\∀v,o.data≠.cell v:=T.obj 0 _ st2;have hex:∀b∈fp,Fq X iZ (upd H2 s2.heap.objs.size (.lst [])) b/\b<h3.objs.size:=λ b hb=>by
  obtain⟨o,eo,_⟩:=fpo b hb;have lt:=ak eo;obtain⟨f0,fr'⟩:=f2 b hb;exact⟨⟨by rw[Ad (aD lt)];exact f0,fr'⟩,by rw[hz3];exact bc lt⟩
 have I4:Inv (AM X scope cl N h3.objs.size { s2 with heap:=h3 } (upd H2 s2.heap.objs.size (.lst [])) fp) [] (stC fr σ) (upd H2 s2.heap.objs.size (.lst [])) { s2 with heap:=h₁,toks:=s2.toks+([]:List (jD×jg)).length } :=
  Jh I3 ck c1 c2 hex (ah _) hns₁ k34 rfl rfl
 have stat:∀{H':Hp},(∀b∈fp,H' b=none)->∀b∈fp,Fq (AM X scope cl N h3.objs.size { s2 with heap:=h3 } (upd H2 s2.heap.objs.size (.lst [])) fp) [] H' b:=λ hn b hb =>
  ⟨hn b hb,(I4.ok.exf b hb).1,I4.ok.exfs b hb,.inl hb,(I4.ok.exf b hb).2,λ p hp=>by simp at hp⟩
 have stn:∀i h h',tn i h->(∀b o,h.get? b=some o->h'.get? b=some o)->tn i h':=λ i h h' st kk=>T.keep i h h' st λ b _ o e=>kk b o e;have loop:jU (jm X.prog X.w) X.A (.compLoop (.ListComp elt [⟨tg,iter,[],0⟩] scope pos) 0 (.ref it) (.ref s2.heap.objs.size) (compEnvC scope cl h3.objs.size X.env)) (R (.ref s2.heap.objs.size) h3.objs.size)
   { s2 with heap:=h₁,toks:=s2.toks+([]:List (jD×jg)).length }:=by
  refine LC (λ n s'=>∃i σ' H',Inv (AM X scope cl N h3.objs.size { s2 with heap:=h3 } (upd H2 s2.heap.objs.size (.lst [])) fp) [] σ' H' s'/\tn i s'.heap/\(∀b∈fp,H' b=none)/\W i n σ' H') ?_ m0
   ⟨0,_,_,I4,stn _ _ _ st2 λ b o e=>k34 b o (k23 b o e),λ b hb=>(hex b hb).1.1,w0⟩
  rintro n s3 ⟨i,σ3,H3,J3,st3,fr3,w3⟩;rcases turn i n σ3 H3 w3 with ⟨stop,qn⟩|⟨go,step⟩
  .refine Bv (thn (T.done (AM X scope cl N h3.objs.size { s2 with heap:=h3 } (upd H2 s2.heap.objs.size (.lst [])) fp) rfl rfl rfl hc i [] s3 σ3 H3 (λ_ _=>False) J3 (stat fr3) st3 stop) λ r s4 hz_=>?_);obtain⟨hr,J4⟩:=hz_;subst hr;obtain⟨mc,hmc,_⟩:=J4.loc;have I5:Inv X iZ σ H3 s4:=I3.call' (ch:=fp) J4.os J4.ja J4.hok J4.bare λ b hb=>⟨(hex b hb).1.2.2.2.1,(hex b hb).1.2.1,(hex b hb).1.2.2.2.2.1,(hex b hb).1.2.2.2.2.2⟩;exact hR _ _ s4 H3 mc hmc (I3.fpOk (ah _) J4.free) I5 qn
  .refine Bv (thn (T.item (AM X scope cl N h3.objs.size { s2 with heap:=h3 } (upd H2 s2.heap.objs.size (.lst [])) fp) rfl rfl rfl hc i [] s3 σ3 H3 (λ_ _=>False) J3 (stat fr3) st3 go) λ r s4 hz_=>?_);obtain⟨u,hr,h4⟩:=hz_;subst hr;refine Bv (thn h4 λ_ s5 hz_=>?_);obtain⟨x,H5,J5,r5,y5,st5,fr5⟩:=hz_;have J5':=J5.pinned (stat fr5) (T.obj _ _ st5);refine Bv (thn (hg _ _ _ _ _ _ s5 σ3 H5 x u _ J5' r5 (step x H5 y5)) λ_ s6 hz_=>?_);obtain⟨σ6,H6,J6,q6⟩:=hz_;refine Bv (thn (he _ _ _ _ _ _ s6 σ6 H6 _ J6 q6) λ y s7 hz_=>?_);obtain⟨v7,H7,J7,r7,xs,hx,hz,m',hm',w7⟩:=hz_;refine Bv (thn (Gq _ s7 σ6 H7 (.ref s2.heap.objs.size) [v7] (.ref s2.heap.objs.size) [y] (λ v H8=>H8=upd H7 s2.heap.objs.size (.lst (xs++[v7]))) J7 rfl (.cons r7 .nil) ⟨_,xs,v7,rfl,rfl,hx,hz,rfl⟩) λ_ s8 hz_=>?_);obtain⟨_,H8,J8,_,e8⟩:=hz_;subst e8;refine⟨m',hm',i+1,σ6,_,J8.unpinned,T.keep _ _ _ st5 λ b hb o e=>(J8.pin (b,o) (av _ (av _ (AX hb e)))).1,λ b hb=>?_,w7⟩;obtain⟨o,e,d⟩:=T.obj _ _ st5 b hb;exact(J8.pin (b,o) (av _ (av _ (AX hb e)))).2.1
 exact codeAny_compStart_list loop (T.self _ 0 _ _ _ (stn _ _ _ st2 λ b o e=>k34 b o (k23 b o e)) loop)
theorem Hz(I:X.Ok)(ck:FS X.env.scope X.N scope N fr):∃cl,closureFor scope X.env=pure cl/\(∀x c,cl.lookup x=some c->X.env.cells.lookup x=some c)/\(∀x,(x,NameKind.free)∈scope.names->∃c,cl.lookup x=some c) :=
 NZ λ y hy e=>I.has y.1 (OQ (ck.free y hy e))
theorem Bi(hc:X.calm=true)(hi:PI X tg iter wi)(hg:∀cl C s H ex,PG (AM X scope cl N C s H ex) tg g)(he:∀cl C s H ex,PE (AM X scope cl N C s H ex) elt te)
  (hk:Eu X.env.scope X.N scope N fr=true:=by rfl) (hs:∀x,foldedSetIterable iter X.env x=pure x:=by intro _;rfl):PE X (.ListComp elt [⟨tg,iter,[],0⟩] scope pos) (LV wi g te fr):=by
 intro iZ s σ H Q I h;have ck:=Dx hk;obtain⟨cl,e1,c1,c2⟩:=Hz I.ok ck;rw[eval_ListComp];refine kc (use:=none) (Q:=EP X iZ σ Q) rfl hs e1 ck.kind ck.loc (K2 (R:=λ acc C=>compPost (jm X.prog X.w) X.A X.xe none (EP X iZ σ Q) acc C) hc I hi hg he ck c1 c2 h λ acc C s' H' m hn f I' q=>?_);obtain⟨f0,f1,f2,f3,f4,f5⟩:=f;exact⟨m,hn,λ h' hs'=>⟨.ref acc,H',I'.turned (t':=s'.toks) (λ b o hb e=>hs'.extBut b o hb e) f0 f1 f3 f4 f5,rfl,q⟩⟩
theorem EU{y:jD}{py spos:Pos}{gy:TG}(hc:X.calm=true)(hy:PG X (.Name y py) gy)(hi:PI X tg iter wi)(hg:∀cl C s H ex,PG (AM X scope cl N C s H ex) tg g)(he:∀cl C s H ex,PE (AM X scope cl N C s H ex) elt te)
    (hk:Eu X.env.scope X.N scope N fr=true:=by rfl) (hsw:swapsWith (.ListComp elt [⟨tg,iter,[],0⟩] scope pos) (some (.Name y py)) spos.line X.env=pure true:=by rfl) (hs:∀x,foldedSetIterable iter X.env x=pure x:=by intro _;rfl) :
    PS X (.Assign [.Name y py] (.ListComp elt [⟨tg,iter,[],0⟩] scope pos) spos) (P8 (LV wi g te fr) gy):=by
  intro iZ s σ H D I h;have ck:=Dx hk;obtain⟨cl,e1,c1,c2⟩:=Hz I.ok ck;rw[exec_Assign_Name_used _ _ _ _ hsw];refine jc (kq (jc ?_));show jh _ X.A (do let _ <-comprehension (.ListComp elt [⟨tg,iter,[],0⟩] scope pos) scope X.env _ (newList []) false (eval iter X.env) (some (assign (.Name y py) X.env))) _ _ s;refine jc (jA (kc (use:=some (assign (.Name y py) X.env)) (Q:=λ_ s'=>SP X iZ D .next s') rfl hs e1 ck.kind ck.loc
    (K2 (R:=λ acc C=>compPost (jm X.prog X.w) X.A X.xe (some (assign (.Name y py) X.env)) (λ_ s'=>SP X iZ D .next s') acc C) hc I hi hg he ck c1 c2 h λ acc C s' H' m hn f I' q=>?_)) (λ_ s' hq=>je (je hq)) λ_ _ e=>e)
  show jh _ X.A (assign (.Name y py) X.env (.ref acc)) _ _ _;obtain⟨oC,es,ep,hoC,hdC,hrC⟩:=id hn;have IP:=I'.pinned (fp:=[C]) (λ b hb=>by rw[af.mp hb];exact f) (λ b hb=>by rw[af.mp hb];exact⟨oC,hoC,λ v z=>by rw[hdC]at z;cases z⟩);refine thn (hy _ s' σ H' (.ref acc) (.ref acc) _ IP rfl q) λ_ s'' ⟨σ6,H6,I6,q6⟩=>?_;have pC:=I6.pin (C,oC) (av _ (av _ (AX (af.mpr rfl) hoC)));obtain⟨f0,f1,f2,f3,f4,f5⟩:=f;exact⟨m,⟨oC,es,ep,pC.1,hdC,hrC⟩,λ h' hs'=>⟨σ6,H6,I6.unpinned.turned (t':=s''.toks) (λ b o hb e=>hs'.extBut b o hb e) pC.2.1 f1 f3 f4 f5,q6⟩⟩
end
section
variable{X:Cx}
noncomputable def U9(_ j:Int):Prop:=0<j/\j.natAbs.log2<9000
theorem F8:OpR X (kJ .FloorDiv) (rI U9 λ i j=>.int (i / j)):=opI λ i j _ _ _ _ _ hc q=>by
 have h1:(0:Int)<j:=hc.1;exact floordiv_int (by lia) (by rw[Int.fdiv_eq_ediv_of_nonneg i (by lia)];exact q) (.inl (PyProof.noPylong_of_log2 hc.2))
theorem Cr:OpR X (kJ .Mult) (rI IntMulOk λ i j=>.int (i*j)):=opI λ_ _ _ _ _ _ _ hc q=>mul_int q hc
theorem IH{n k:Nat}(hk:0<k)(h:n<2^k):n.log2<k:=by
 rcases Nat.eq_zero_or_pos n with h0|hp
 .rw[h0];simpa using hk
 .exact(Nat.log2_lt (db hp)).mpr h
theorem IQ{z:Int}{k:Nat}(hk:0<k)(h:z.natAbs<2^k):Builtin.Int.intBits z<=k:=by
 unfold Builtin.Int.intBits;split
 .exact aP _
 .exact IH hk h
theorem M4{a b:Int}(h1:a.natAbs<2^128)(h2:b.natAbs<2^128):IntMulOk a b:=by
 have e1:=IQ (by decide) h1;have e2:=IQ (by decide) h2;unfold IntMulOk Builtin.Int.intTooBig;intro h;simp only[ax,decide_eq_true_eq]at h;have h3:=h.2;have hb:(256:Int)<=(bitsLine:Int):=by decide +kernel
 lia
noncomputable def tyO:Option HO->Option String
 |some (.lst _)=>some "list"
 |some (.frz _ (.lst _))=>some "list"
 |some (.tup _)=>some "tuple"
 |some (.dK _)=>some "dict"
 |some (.dT _)=>some "dict"
 |_=>none
noncomputable def tyS(H:Hp):V->Option String
 |.non=>some "NoneType"
 |.bl _=>some "bool"
 |.int _=>some "int"
 |.str _=>some "str"
 |.ref a=>tyO (H a)
 |_=>none
theorem UE{K:jw}{H:Hp}{x:V}{T:String}(h:tyS H x=some T):G4 K H x (.type T)/\(T="NoneType"\/T="bool"\/T="int"\/T="str"\/T="list"\/T="tuple"\/T="dict"):=by
 unfold tyS at h;split at h
 .cases h;exact⟨.non,by simp⟩
 .cases h;exact⟨.bl _,by simp⟩
 .cases h;exact⟨.int _,by simp⟩
 .cases h;exact⟨.str _,by simp⟩
 .unfold tyO at h;split at h
  .rename_i e;cases h;exact⟨.lst e,by simp⟩
  .rename_i e;cases h;exact⟨.frz e,by simp⟩
  .rename_i e;cases h;exact⟨.tup e,by simp⟩
  .rename_i e;cases h;exact⟨.dK e,by simp⟩
  .rename_i e;cases h;exact⟨.dT e,by simp⟩
  .cases h
 .cases h
noncomputable def isB(T c:String):Bool:=decide (T=c)||(decide (T="bool")&&decide (c="int"))
theorem Vq:isB "tuple" "tuple"=true:=by decide
theorem TC{K:jw}{T c:String}(h:T="NoneType"\/T="bool"\/T="int"\/T="str"\/T="list"\/T="tuple"\/T="dict")(hc:c="int"\/c="bool"\/c="tuple"\/c="list"\/c="str") :
  ka K (.type T) (.type c)=some (isB T c):=by
 rcases h with rfl|rfl|rfl|rfl|rfl|rfl|rfl<;>rcases hc with rfl|rfl|rfl|rfl|rfl<;>rfl
inductive U8(xs:LUz)(H:Hp)(Q:VK):Prop
 |mk (x:V) (T c:String) (e:xs=[x,.ty c]) (t:tyS H x=some T) (h:c="int"\/c="bool"\/c="tuple"\/c="list"\/c="str") (q:Q (.bl (isB T c)) H):U8 xs H Q
theorem BV:BK X (.builtin "isinstance") (λ xs H Q=>U8 xs H Q):=by
 intro iZ s σ H xs us Q I r h;obtain⟨x,T,c,rfl,hT,hc,q⟩:=h;obtain⟨u,w',rfl,rx,ry⟩:=LQ r;cases(show w'=Value.type c from ry);obtain⟨ty,hl⟩:=UE (K:=X.K) hT;exact Ku I rx ty (TC hl hc) λ tk=>⟨.bl (isB T c),H,I.tok tk,rfl,q⟩
theorem QD{bs:List Bool}{its:LWz}(r:Vals (bs.map V.bl) its){i:Nat}{v:jg}(h:its.toArray[i]?=some v):v=.bool (bs.getD i false):=by
 have hl:=r.length;have hi:i<its.length:=by
  have:=(aY.mp h).1
  simpa using this
 have hb:bs[i]?=some (bs.getD i false):=by
  have:i<bs.length:=by rw[aa]at hl;lia
  rw[aU,ag this];rfl
 obtain⟨u,hu,ru⟩:=r.get (i:=i) (x:=.bl (bs.getD i false)) (by rw[aE,hb];rfl);have h':its[i]?=some v:=by simpa using h
 rw[h']at hu;cases hu;exact ru
theorem PP{α:Type}(bs:List Bool):(List.range bs.length).all (λ i=>bs.getD i false)=bs.all id:=by
 have e:(List.range bs.length).map (λ i=>bs.getD i false)=bs:=by
  apply cR;intro i;rw[aE];by_cases h:i<bs.length
  .rw[c9 h,ag h,bO,aU,ag h];rfl
  .rw[be (by simpa using h),be (by lia)];rfl
 conv=>rhs;rw[<-e]
 rw[List.all_map];rfl
theorem PN{α:Type}(bs:List Bool):(List.range bs.length).any (λ i=>bs.getD i false)=bs.any id:=by
 have e:(List.range bs.length).map (λ i=>bs.getD i false)=bs:=by
  apply cR;intro i;rw[aE];by_cases h:i<bs.length
  .rw[c9 h,ag h,bO,aU,ag h];rfl
  .rw[be (by simpa using h),be (by lia)];rfl
 conv=>rhs;rw[<-e]
 rw[eE];rfl
theorem G6{prog:jk}{w:ju}{A:jx}{bs:List Bool}{its:LWz}(r:Vals (bs.map V.bl) its):TruthOf prog w A (λ i v=>its.toArray[i]?=some v) (λ i=>bs.getD i false):=by
 intro i v s Q E hv hq;have e:=QD r hv;subst e;exact jK hq
theorem S1:BK X (.builtin "all") (λ xs H Q=>∃(p:jd)(bs:List Bool),xs=[.ref p]/\SqL X.K H p (bs.map V.bl)/\X.calm=true/\Q (.bl (bs.all id)) H):=by
 intro iZ s σ H xs us Q I r h;obtain⟨p,bs,rfl,hp,hc,q⟩:=h;obtain⟨u,rfl,ru⟩:=D0 r;cases ru;obtain⟨its,rv,pl,hz⟩:=I.list hp;have hl:=rv.length;rw[aa]at hl;refine call_all_walk (kI pl.isList ?_);have hlt:p<s.heap.objs.size:=by obtain⟨o,ho,_⟩:=pl.isList;exact ak ho
 refine⟨s.heap.objs.size,_,_,_,_,_,_,rfl,Walks.list (show X.A.in1.handled=none from I.ok.hd hc) s.heap.objs.size p (aD hlt) its.toArray,⟨⟨_,ar _ rfl,rfl,rfl⟩,let ⟨o,ho,r⟩:=pl.isList;⟨o,ae _ ho,r⟩⟩,G6 rv,λ h' tk k=>?_⟩;refine⟨.bl (bs.all id),H,I.kept (t':=tk) λ b o e=>k b o (λ z=>?_) (ae _ e),?_,q⟩
 .have:b=s.heap.objs.size:=by simpa using z
  exact absurd (this ▸ ak e) (bG _)
 .show Value.bool _=Value.bool _;rw[aj,<-hl,PP (α:=Nat)]
theorem Jl:BK X (.builtin "any") (λ xs H Q=>∃(p:jd)(bs:List Bool),xs=[.ref p]/\SqL X.K H p (bs.map V.bl)/\X.calm=true/\Q (.bl (bs.any id)) H):=by
 intro iZ s σ H xs us Q I r h;obtain⟨p,bs,rfl,hp,hc,q⟩:=h;obtain⟨u,rfl,ru⟩:=D0 r;cases ru;obtain⟨its,rv,pl,hz⟩:=I.list hp;have hl:=rv.length;rw[aa]at hl;refine call_any_walk (kI pl.isList ?_);have hlt:p<s.heap.objs.size:=by obtain⟨o,ho,_⟩:=pl.isList;exact ak ho
 refine⟨s.heap.objs.size,_,_,_,_,_,_,rfl,Walks.list (show X.A.in1.handled=none from I.ok.hd hc) s.heap.objs.size p (aD hlt) its.toArray,⟨⟨_,ar _ rfl,rfl,rfl⟩,let ⟨o,ho,r⟩:=pl.isList;⟨o,ae _ ho,r⟩⟩,G6 rv,λ h' tk k=>?_⟩;refine⟨.bl (bs.any id),H,I.kept (t':=tk) λ b o e=>k b o (λ z=>?_) (ae _ e),?_,q⟩
 .have:b=s.heap.objs.size:=by simpa using z
  exact absurd (this ▸ ak e) (bG _)
 .show Value.bool _=Value.bool _;rw[aj,<-hl,PN (α:=Nat)]
end
structure Aq(P:jk)(w:ju)(K:jw)(mg:MGz)(ja:jy)(k:Nat)(x:jD)(ps:LSz)(sp:Sp):Prop where
 ex:∃(f:jd)(fd:jr),A3 P w K mg ja CX0 k f fd ps sp/\mg x=some (.ref f)/\ku K (.ref f)=true/\Binds K fd ps []
section
variable{X:Cx}{k j:Nat}{x:jD}{ps:LSz}{sp:Sp}{p pos:Pos}{e:jB}{es:List jB}{t:TA}
theorem Ao(D:Aq X.prog X.w X.K X.mg X.ja k x ps sp)(hr:Room j X.A)(ha:PA X (e::es) t)(hj:k<=j:=by decide)(hg:Gl X x:=by rfl)(hdb:(x==("__debug__":jD))=false:=by decide)
  (he:jv (e::es) X.env=(false,eval e X.env)::jv es X.env:=by rfl) (hpl:(jX pos (jv es X.env)).any (·.1)=false:=by rfl):PE X (.Call (.Name x p) (e::es) [] pos) (HL sp [] E0 t):=by
 obtain⟨f,fd,F,hm,hk,hb⟩:=D.ex;exact OC F (hr.mono hj) hg hm hk hb .nil Ke ha hdb he hpl
end
theorem A8{xs:LUz}(n:Nat)(h:xs.length=n:=by rfl)(h2:n<=1000:=by decide):xs.length<=jt:=by rw[h];exact aN (An h2)
theorem Cn{c:Bool}{A B:Prop}(h:c=true)(a:A):if c=true then A else B:=by rw[jo h];exact a
theorem Bt{c:Bool}{A B:Prop}(h:c=false)(b:B):if c=true then A else B:=by rw[jj (by rw[h];exact aq)];exact b
theorem BA{c:Bool}{A B:Prop}(h1:c=true->A)(h2:c=false->B):if c=true then A else B:=by
 cases c with
 |true=>exact NN (h1 rfl)
 |false=>exact Sa (h2 rfl)
theorem decI{i j:Int}:decide (V.int i=V.int j)=true↔i=j:=by
 rw[decide_eq_true_eq];exact⟨λ h=>by injection h,λ h=>by rw[h]⟩
noncomputable def SameX(p:jd)(H H':Hp):Prop:=∀b o,b≠p->H b=some o->H' b=some o
theorem SameX.refl{p:jd}{H:Hp}:SameX p H H:=λ_ _ _ h=>h
theorem SameX.trans{p:jd}{H H1 H2:Hp}(a:SameX p H H1)(b:SameX p H1 H2):SameX p H H2:=λ c o n h=>b c o n (a c o n h)
theorem SameX.upd{p:jd}{H:Hp}{o:HO}:SameX p H (upd H p o):=λ b u n h=>by rw[Ad n];exact h
theorem SameX.new{p l:jd}{H:Hp}{o:HO}(h:H l=none):SameX p H (L2.upd H l o):=λ b u _ e=>by rw[Ad (Ag e h)];exact e
theorem Same.new{l:jd}{H:Hp}{o:HO}(h:H l=none):Same H (L2.upd H l o):=λ b u e=>by rw[Ad (Ag e h)];exact e
theorem Same.x{p:jd}{H H':Hp}(a:Same H H'):SameX p H H':=λ b o _ e=>a b o e
noncomputable def cW(acc:jd)(n:Nat)(Pv:Nat->LUz->St->Hp->Prop)(i m:Nat)(σ:St)(H:Hp):Prop:=i<=n/\m=n-i/\∃xs,xs.length=i/\H acc=some (.lst xs)/\Pv i xs σ H
noncomputable def cNx(acc:jd)(n:Nat)(Pv:Nat->LUz->St->Hp->Prop)(i:Nat)(σ:St)(v:V)(H:Hp):Prop:=∃xs,H acc=some (.lst xs)/\xs.length<jt/\∃m',m'<n-i/\cW acc n Pv (i+1) m' σ (upd H acc (.lst (xs++[v])))
theorem cNx.mk{acc:jd}{n:Nat}{Pv:Nat->LUz->St->Hp->Prop}{i:Nat}{σ:St}{v:V}{H:Hp}{xs:LUz}(hn:n<=jt)(hi:i<n)(hl:xs.length=i)(ha:H acc=some (.lst xs))(hp:Pv (i+1) (xs++[v]) σ (upd H acc (.lst (xs++[v])))) :
  cNx acc n Pv i σ v H:=⟨xs,ha,by lia,n-(i+1),by lia,hi,rfl,xs++[v],by rw[aH,hl];rfl,Ae,hp⟩
theorem Fl{lo:Int}{n:Nat}{g:TG}{te:TE}{σ:St}{H1:Hp}{acc:jd}{Qr:Hp->Prop}(Pv:Nat->LUz->St->Hp->Prop)(h0:Pv 0 [] σ (upd H1 acc (.lst [])))
  (hs:∀i xs σ H,i<n->xs.length=i->H acc=some (.lst xs)->Pv i xs σ H->g (.int (lo+i)) σ H λ σ2 H2=>te σ2 H2 λ v H3=>cNx acc n Pv i σ2 v H3)
  (hd:∀xs σ H,xs.length=n->H acc=some (.lst xs)->Pv n xs σ H->Qr H) :
  ∃W:Nat->Nat->St->Hp->Prop,(∃m,W 0 m σ (upd H1 acc (.lst [])))/\∀i m σ1 H2,W i m σ1 H2 ->
   ((Itr lo n).stop i H2/\Qr H2)\/((Itr lo n).go i H2/\∀x H3,(Itr lo n).yld i H2 x H3->g x σ1 H3 λ σ4 H4=>te σ4 H4 λ v H5=>∃xs,H5 acc=some (.lst xs)/\xs.length<jt/\∃m',m'<m/\W (i+1) m' σ4 (upd H5 acc (.lst (xs++[v])))):=by
 refine⟨cW acc n Pv,⟨n,aP _,rfl,[],rfl,Ae,h0⟩,?_⟩;rintro i m σ1 H2 ⟨hi,rfl,xs,hl,ha,hp⟩;rcases cV i n with h|h
 .refine .inr ⟨h,?_⟩;rintro x H3 ⟨rfl,rfl⟩;exact hs i xs σ1 H3 h hl ha hp
 .have e:i=n:=b8 hi h;subst e;exact .inl ⟨ah _,hd xs σ1 H2 hl ha hp⟩
theorem Be{K:jw}{a:jd}{ys:LUz}{g:TG}{te:TE}{σ:St}{H1:Hp}{acc:jd}{Qr:Hp->Prop}(Pv:Nat->LUz->St->Hp->Prop)(h0:Pv 0 [] σ (upd H1 acc (.lst [])))
  (hq:∀i xs σ H,i<=ys.length->H acc=some (.lst xs)->Pv i xs σ H->SqL K H a ys)
  (hs:∀i x xs σ H,ys[i]?=some x->i<ys.length->xs.length=i->H acc=some (.lst xs)->Pv i xs σ H->g x σ H λ σ2 H2=>te σ2 H2 λ v H3=>cNx acc ys.length Pv i σ2 v H3)
  (hd:∀xs σ H,xs.length=ys.length->H acc=some (.lst xs)->Pv ys.length xs σ H->Qr H) :
  ∃W:Nat->Nat->St->Hp->Prop,(∃m,W 0 m σ (upd H1 acc (.lst [])))/\∀i m σ1 H2,W i m σ1 H2 ->
   ((Itl K a).stop i H2/\Qr H2)\/((Itl K a).go i H2/\∀x H3,(Itl K a).yld i H2 x H3->g x σ1 H3 λ σ4 H4=>te σ4 H4 λ v H5=>∃xs,H5 acc=some (.lst xs)/\xs.length<jt/\∃m',m'<m/\W (i+1) m' σ4 (upd H5 acc (.lst (xs++[v])))):=by
 refine⟨cW acc ys.length Pv,⟨ys.length,aP _,rfl,[],rfl,Ae,h0⟩,?_⟩;rintro i m σ1 H2 ⟨hi,rfl,xs,hl,ha,hp⟩;have hsq:=hq i xs σ1 H2 hi ha hp;rcases cV i ys.length with h|h
 .refine .inr ⟨⟨ys,ys[i],hsq,ag h⟩,?_⟩;rintro x H3 ⟨rfl,hx⟩;exact hs i x xs σ1 H3 (hx ys hsq) h hl ha hp
 .have e:i=ys.length:=b8 hi h;subst e;exact .inl ⟨⟨ys,hsq,ah _⟩,hd xs σ1 H2 hl ha hp⟩
theorem Sz{K:jw}{a:jd}{ys:LUz}{g:TG}{te:TE}{σ:St}{H1:Hp}{acc:jd}{Qr:Hp->Prop}(Pv:Nat->LUz->St->Hp->Prop)(h0:Pv 0 [] σ (upd H1 acc (.lst [])))
  (hq:∀i xs σ H,i<=ys.length->H acc=some (.lst xs)->Pv i xs σ H->SqT K H a ys)
  (hs:∀i x xs σ H,ys[i]?=some x->i<ys.length->xs.length=i->H acc=some (.lst xs)->Pv i xs σ H->g x σ H λ σ2 H2=>te σ2 H2 λ v H3=>cNx acc ys.length Pv i σ2 v H3)
  (hd:∀xs σ H,xs.length=ys.length->H acc=some (.lst xs)->Pv ys.length xs σ H->Qr H) :
  ∃W:Nat->Nat->St->Hp->Prop,(∃m,W 0 m σ (upd H1 acc (.lst [])))/\∀i m σ1 H2,W i m σ1 H2 ->
   ((Itt K a).stop i H2/\Qr H2)\/((Itt K a).go i H2/\∀x H3,(Itt K a).yld i H2 x H3->g x σ1 H3 λ σ4 H4=>te σ4 H4 λ v H5=>∃xs,H5 acc=some (.lst xs)/\xs.length<jt/\∃m',m'<m/\W (i+1) m' σ4 (upd H5 acc (.lst (xs++[v])))):=by
 refine⟨cW acc ys.length Pv,⟨ys.length,aP _,rfl,[],rfl,Ae,h0⟩,?_⟩;rintro i m σ1 H2 ⟨hi,rfl,xs,hl,ha,hp⟩;have hsq:=hq i xs σ1 H2 hi ha hp;rcases cV i ys.length with h|h
 .refine .inr ⟨⟨ys,ys[i],hsq,ag h⟩,?_⟩;rintro x H3 ⟨rfl,hx⟩;exact hs i x xs σ1 H3 (hx ys hsq) h hl ha hp
 .have e:i=ys.length:=b8 hi h;subst e;exact .inl ⟨⟨ys,hsq,ah _⟩,hd xs σ1 H2 hl ha hp⟩
section
variable{cmp:Nat->Nat->(Bool->jf->Prop)->jf->Prop}{key:Nat->Int}{N:Nat}{s:jf}
noncomputable def KP(key:Nat->Int)(p:Array Nat)(i:Nat):Int:=key (p.getD i 0)
noncomputable def PermN(N:Nat)(p:Array Nat):Prop:=p.toList.Perm (List.range N)
theorem PermN.size{p:Array Nat}(h:PermN N p):p.size=N:=by
 have:=List.Perm.length_eq h;rw[eA]at this
 simpa using this
theorem PermN.lt{p:Array Nat}(h:PermN N p){i:Nat}(hi:i<N):p.getD i 0<N:=by
 have hs:=h.size;have hi':i<p.size:=by lia
 have e:p.getD i 0=p[i]:=by simp[Array.getD,hi']
 rw[e];have hm:p[i]∈p.toList:=by simp
 exact aQ.mp ((List.Perm.mem_iff h).mp hm)
theorem PermN.of{p q:Array Nat}(h:PermN N p)(hq:q.Perm p):PermN N q:=(Array.perm_iff_toList_perm.mp hq).trans h
noncomputable def Jq(key:Nat->Int)(p:Array Nat)(k:Nat):Prop:=∀i j,i<=j->j<k->KP key p i<=KP key p j
noncomputable def Oc(key:Nat->Int)(p:Array Nat)(k:Nat):Prop:=∀i j,i<=j->j<k->KP key p j<=KP key p i
theorem Ej{p q:Array Nat}{i j:Nat}(h:p[i]?=q[j]?):KP key p i=KP key q j:=by
 unfold KP;rw[da,da,h]
theorem Js{p:Array Nat}{i j:Nat}(hj:j<=p.size)(k:Nat):KP key (kas_rev p i j) k=if i<=k/\k<j then KP key p (i+j-1-k) else KP key p k:=by
 have e:=getElem?_mirror_all (i:=i) hj k;by_cases h:i<=k/\k<j
 .rw[jo h]at e |-;exact Ej e
 .rw[jj h]at e |-;exact Ej e
theorem KA{p:Array Nat}{src d:Nat}(hs:src<p.size)(hd:d<=src)(k:Nat) :
  KP key (bubble p src d) k=if k=src-d then KP key p src else if src-d<k/\k<=src then KP key p (k-1) else KP key p k:=by
 have e:=getElem?_bubble hs d hd k;by_cases h1:k=src-d
 .rw[jo h1]at e |-;exact Ej e
 .rw[jj h1]at e |-;by_cases h2:src-d<k/\k<=src
  .rw[jo h2]at e |-;exact Ej e
  .rw[jj h2]at e |-;exact Ej e
theorem PermN.rev{p:Array Nat}(h:PermN N p)(i j:Nat):PermN N (kas_rev p i j):=h.of (mirror_perm _ _ _ _)
theorem PermN.bub{p:Array Nat}(h:PermN N p)(i j:Nat):PermN N (bubble p i j):=h.of (bubble_perm _ _ _)
theorem Ta{p:Array Nat}{n:Nat}(h:Jq key p n)(hn:1<=n)(hc:KP key p (n-1)<=KP key p n):Jq key p (n+1):=λ i j hij hj=>by
 by_cases e:j=n
 .subst e;by_cases e2:i=j
  .subst e2;exact a9 _
  .exact eN (h i (j-1) (by lia) (by lia)) hc
 .exact h i j hij (by lia)
theorem Hn{p:Array Nat}{n:Nat}(h:Oc key p n)(hn:1<=n)(hc:KP key p n<=KP key p (n-1)):Oc key p (n+1):=λ i j hij hj=>by
 by_cases e:j=n
 .subst e;by_cases e2:i=j
  .subst e2;exact a9 _
  .exact eN hc (h i (j-1) (by lia) (by lia))
 .exact h i j hij (by lia)
variable(hcmp:∀i j (C:Bool->jf->Prop),i<N->j<N->C (decide (key i<key j)) s->cmp i j C s)
include hcmp
theorem Ob{p:Array Nat}(hp:PermN N p){G:Nat->jf->Prop}:∀(f n:Nat),1<=n->n+f<=N->Jq key p n->(∀m,n<=m->m<=n+f->Jq key p m->(m<n+f->KP key p m<KP key p (m-1))->G m s)->(kas_asc p f n).kasWp cmp G s
 |0,n,h1,hn,hs,hG=>hG n (ah _) (by lia) hs (λ h=>absurd h (by lia))
 |f+1,n,h1,hn,hs,hG=>by
  show cmp _ _ _ s;refine hcmp _ _ _ (hp.lt (by lia)) (hp.lt (by lia)) ?_;by_cases h:key (p.getD n 0)<key (p.getD (n-1) 0)
  .rw[jn h];simp only[if_true];exact hG n (ah _) (by lia) hs λ_=>h
  .rw[js h];simp only[au,if_false];exact Ob hp f (n+1) (by lia) (by lia) (Ta hs h1 (by unfold KP;lia)) λ m a b c d=>hG m (by lia) (by lia) c λ z=>d (by lia)
theorem LU{p:Array Nat}(hp:PermN N p){n:Nat}(h1:1<=n)(hn:n<=N)(hs:Oc key p n){G:Nat×Array Nat->jf->Prop}(hG:∀m q,1<=m->m<=N->PermN N q->Jq key q m->G (m,q) s):(kas_tail3 n N p).kasWp cmp G s:=by
 unfold kas_tail3;rw[KasT.kasWp_bind];have hz:=hp.size;refine Ob hcmp (hp.rev 0 n) (N-n) n h1 (by lia) (λ i j hij hj=>?_) λ m a b c _=>hG m _ (by lia) (by lia) (hp.rev 0 n) c;rw[Js (by lia),Js (by lia),jo (by lia),jo (by lia)];exact hs _ _ (by lia) (by lia)
theorem Hw{G:Array Nat×Nat×Nat->jf->Prop}:∀(f:Nat)(p:Array Nat)(n q:Nat),PermN N p->1<=n->n+f<=N->q<n->Oc key p n->(∀i,n-1-q<=i->i<n->KP key p i=KP key p (n-1)) ->
  (∀p' m r,PermN N p'->1<=m->m<=N->r<m->Oc key p' m->(∀i,m-1-r<=i->i<m->KP key p' i=KP key p' (m-1))->G (p',m,r) s)->(kas_desc f p n q).kasWp cmp G s
 |0,p,n,q,hp,h1,hn,hq,hs,he,hG=>hG p n q hp h1 (by lia) hq hs he
 |f+1,p,n,q,hp,h1,hn,hq,hs,he,hG=>by
  have hz:=hp.size;show cmp _ _ _ s;refine hcmp _ _ _ (hp.lt (by lia)) (hp.lt (by lia)) ?_;by_cases h:key (p.getD n 0)<key (p.getD (n-1) 0)
  .rw[jn h];simp only[if_true];have h':KP key p n<KP key p (n-1):=h;have key1:Oc key p (n+1):=Hn hs h1 (by lia);by_cases hq0:q>0
   .rw[jo hq0];have same:∀k,KP key (kas_rev p (n-(q+1)) n) k=KP key p k:=λ k=>by
     rw[Js (by lia)];split
     .rw[he _ (by lia) (by lia),he k (by lia) (by lia)]
     .rfl
    refine Hw f _ (n+1) 0 (hp.rev _ _) (by lia) (by lia) (by lia) (λ i j hij hj=>?_) (λ i a b=>?_) hG
    .rw[same,same];exact key1 i j hij hj
    .rw[show i=n+1-1 by lia]
   .rw[jj hq0];exact Hw f _ (n+1) 0 hp (by lia) (by lia) (by lia) key1 (λ i a b=>by rw[show i=n+1-1 by lia]) hG
  .rw[js h];simp only[au,if_false];show cmp _ _ _ s;refine hcmp _ _ _ (hp.lt (by lia)) (hp.lt (by lia)) ?_;by_cases h2:key (p.getD (n-1) 0)<key (p.getD n 0)
   .rw[jn h2];simp only[if_true];exact hG p n q hp h1 (by lia) hq hs he
   .rw[js h2];simp only[au,if_false];have e:KP key p n=KP key p (n-1):=by unfold KP;lia
    refine Hw f p (n+1) (q+1) hp (by lia) (by lia) (by lia) (Hn hs h1 (by lia)) (λ i a b=>?_) hG;by_cases hi:i=n
    .subst hi;rfl
    .rw[he i (by lia) (by lia),<-e];rfl
theorem GI{p:Array Nat}(hp:PermN N p){n:Nat}(hn:n+1<=N)(hs:Oc key p (n+1)){G:Nat×Array Nat->jf->Prop}(hG:∀m q,1<=m->m<=N->PermN N q->Jq key q m->G (m,q) s):(kas_descPart n N p).kasWp cmp G s:=by
 unfold kas_descPart;rw[KasT.kasWp_bind];refine Hw hcmp (N-(n+1)) p (n+1) 0 hp (by lia) (by lia) (by lia) hs (λ i a b=>by rw[show i=n+1-1 by lia]) λ p' m r hp' h1 hm hr hs' he=>?_;dsimp only;have hz:=hp'.size;split
 .have same:∀k,KP key (kas_rev p' (m-(r+1)) m) k=KP key p' k:=λ k=>by
   rw[Js (by lia)];split
   .rw[he _ (by lia) (by lia),he k (by lia) (by lia)]
   .rfl
  exact LU hcmp (hp'.rev _ _) h1 hm (λ i j hij hj=>by rw[same,same];exact hs' i j hij hj) hG
 .exact LU hcmp hp' h1 hm hs' hG
theorem Sy{p:Array Nat}(hp:PermN N p)(h1:1<=N){G:Nat×Array Nat->jf->Prop}(hG:∀m q,1<=m->m<=N->PermN N q->Jq key q m->G (m,q) s):(kas_count N p).kasWp cmp G s:=by
 unfold kas_count;rw[KasT.kasWp_bind];have hz:=hp.size;refine Ob hcmp hp (N-1) 1 (ah _) (by lia) (λ i j hij hj=>by rw[show i=j by lia];exact a9 _) λ m a b c d=>?_;split
 .exact hG m p a (by lia) hp c
 .rename_i hne;have hm:m<N:=by
   have:m≠N:=λ e=>hne (by rw[e];exact beq_self_eq_true _);lia
  have hd:=d (by lia);split
  .show cmp _ _ _ s;refine hcmp _ _ _ (hp.lt (by lia)) (hp.lt (by lia)) ?_;by_cases h:key (p.getD 0 0)<key (p.getD (m-1) 0)
   .rw[jn h];simp only[if_true];exact hG m p a (by lia) hp c
   .rw[js h];simp only[au,if_false];have h':KP key p (m-1)<=KP key p 0:=by unfold KP;lia
    have eqs:∀i,i<m->KP key p i=KP key p 0:=λ i hi=>Int.le_antisymm (eN (c i (m-1) (by lia) (by lia)) h') (c 0 i (by lia) hi);have same:∀k,KP key (kas_rev p 0 m) k=KP key p k:=λ k=>by
     rw[Js (by lia)];split
     .rw[eqs _ (by lia),eqs k (by lia)]
     .rfl
    refine GI hcmp (hp.rev 0 m) (by lia) (Hn (λ i j hij hj=>?_) a ?_) hG
    .rw[same,same,eqs i (by lia),eqs j (by lia)];exact a9 _
    .rw[same,same];lia
  .have em:m=1:=by lia
   subst em;exact GI hcmp hp (by lia) (Hn (λ i j hij hj=>by rw[show i=j by lia];exact a9 _) (ah _) (by lia)) hG
theorem Ik{p:Array Nat}(hp:PermN N p){k:Nat}(hk:k<N)(hs:Jq key p k){G:Nat->jf->Prop}(hG:∀l,l<=k->(∀i,i<l->KP key p i<=KP key p k)->(∀i,l<=i->i<k->KP key p k<KP key p i)->G l s) :
  ∀(f l r:Nat),r-l<=f->l<=r->r<=k->(∀i,i<l->KP key p i<=KP key p k)->(∀i,r<=i->i<k->KP key p k<KP key p i)->(kas_place p k f l r).kasWp cmp G s
 |0,l,r,hf,hlr,hr,ha,hb=>hG l (by lia) ha λ i h1 h2=>hb i (by lia) h2
 |f+1,l,r,hf,hlr,hr,ha,hb=>by
  unfold kas_place;split
  .exact hG l (by lia) ha λ i h1 h2=>hb i (by lia) h2
  .show cmp _ _ _ s;refine hcmp _ _ _ (hp.lt hk) (hp.lt (by lia)) ?_;by_cases h:key (p.getD k 0)<key (p.getD ((l+r) / 2) 0)
   .rw[jn h];simp only[if_true];refine Ik hp hk hs hG f l ((l+r) / 2) (by lia) (by lia) (by lia) ha λ i h1 h2=>?_;exact dk h (hs _ i h1 h2)
   .rw[js h];simp only[au,if_false];refine Ik hp hk hs hG f ((l+r) / 2+1) r (by lia) (by lia) hr (λ i h1=>?_) hb;have h2:=hs i ((l+r) / 2) (by lia) (by lia);have h3:KP key p ((l+r) / 2)<=KP key p k:=by unfold KP;lia
    lia
theorem SB{G:Array Nat->jf->Prop}(hG:∀q,PermN N q->Jq key q N->G q s):∀(f:Nat)(p:Array Nat)(k:Nat),PermN N p->k+f=N->Jq key p k->(kas_bin f p k).kasWp cmp G s
 |0,p,k,hp,hk,hs=>hG p hp (by rw[<-hk];exact hs)
 |f+1,p,k,hp,hk,hs=>by
  unfold kas_bin;rw[KasT.kasWp_bind];have hz:=hp.size;refine Ik hcmp hp (by lia) hs (λ l hl ha hb=>?_) k 0 k (by lia) (by lia) (ah _) (λ i h=>absurd h (by lia)) λ i h1 h2=>absurd h1 (by lia);refine SB hG f _ (k+1) (hp.bub _ _) (by lia) λ i j hij hj=>?_;rw[KA (by lia) (by lia),KA (by lia) (by lia),show k-(k-l)=l by lia];by_cases i1:i=l
  .rw[jo i1];by_cases j1:j=l
   .rw[jo j1];exact a9 _
   .rw[jj j1,jo (by lia)];exact Int.le_of_lt (hb _ (by lia) (by lia))
  .rw[jj i1];by_cases i2:l<i/\i<=k
   .rw[jo i2,jj (by lia),jo (by lia)];exact hs _ _ (by lia) (by lia)
   .rw[jj i2];by_cases j1:j=l
    .rw[jo j1];exact ha i (by lia)
    .rw[jj j1];by_cases j2:l<j/\j<=k
     .rw[jo j2];exact hs _ _ (by lia) (by lia)
     .rw[jj j2];exact hs _ _ hij (by lia)
theorem MD(h1:1<=N){G:Array Nat->jf->Prop}(hG:∀q:Array Nat,PermN N q->(q.toList.map key).Pairwise (·<=·)->G q s):(kas_sort N).kasWp cmp G s:=by
 have p0:PermN N (List.toArray (List.range N)):=by show List.Perm _ _;simp
 have hG':∀q,PermN N q->Jq key q N->G q s:=λ q hq hs=>hG q hq (by
  have hz:=hq.size;rw[bZ];intro i j hi hj hij;have hi':i<q.size:=by simpa using hi
  have hj':j<q.size:=by simpa using hj
  have:=hs i j (by lia) (by lia);unfold KP at this;rw[show q.getD i 0=q[i] by simp[Array.getD,hi'],show q.getD j 0=q[j] by simp[Array.getD,hj']]at this
  simpa using this)
 unfold kas_sort;rw[KasT.kasWp_bind];refine Sy hcmp p0 h1 λ m q hm1 hm2 hq hs=>?_;dsimp only;split
 .exact SB hcmp hG' _ q _ hq (by lia) (by rw[show max m 1=m by lia];exact hs)
 .exact hG' q hq (by rw[show N=m by lia];exact hs)
end
section
variable{prog:jk}{w:ju}{A:jx}{E:VPz}{s:jf}
noncomputable def B4(h:jy)(a:jd)(vs:LWz):jy:=((h.update a (Obj.mapSeq λ_=>#[])).push (jz "tuple" vs.toArray 0)).push (jz "list" #[] 0)
theorem Lv{h:jy}{a b:jd}{vs:LWz}{o:Obj}(hb:b≠a)(e:h.get? b=some o):(B4 h a vs).get? b=some o:=by
 unfold B4;exact ae _ (ae _ (by rw[bS _ _ _ _ hb];exact e))
theorem Rt(vs:LWz):(List.range vs.length).map (λ i=>vs.getD i Value.none)=vs:=by
 apply cR;intro i;rw[aE];by_cases h:i<vs.length
 .rw[c9 h,bO,aU,ag h];rfl
 .rw[be (by simpa using h),be (by lia)];rfl
theorem Hf{a:jd}{vs:LWz}{n:Nat}{P:PySem.Fin->jf->Prop}{κ:SortKind}{key:Nat->Int}(ho:s.heap.get? a=some (jz "list" vs.toArray n))(h64:vs.length<64)
  (hK:∀(Q:SortKind->jf->Prop)(E:VPz),2<=vs.length->Q κ { s with heap:=B4 s.heap a vs }->jh (jm prog w) A (keyKind' vs.toArray) Q E { s with heap:=B4 s.heap a vs })
  (hL:∀i j (C:Bool->jf->Prop),i<vs.length->j<vs.length->C (decide (key i<key j)) { s with heap:=B4 s.heap a vs } ->
   jh (jm prog w) A (keyLt' κ (vs.getD i Value.none) (vs.getD j Value.none)) C (λ_ _=>False) { s with heap:=B4 s.heap a vs })
  (h:∀q:Array Nat,PermN vs.length q->(q.toList.map key).Pairwise (·<=·)->P (.done (.ret .none)) { s with heap:=sortedHeap s.heap a vs (List.toArray (q.toList.map λ i=>vs.getD i Value.none)) }) :
  jh (jm prog w) A (Builtin.«list.sort» ⟨[.ref a],[]⟩) P E s:=by
 rw[list_sort_plain];have ha:a<s.heap.objs.size:=ak ho;refine jc (listItems_at ho rfl ?_);refine jc (kr ho rfl ?_ (by rw[aj,jC];lia) (aP _));obtain⟨e1,ho1⟩:∃e1,(s.heap.update a (Obj.mapSeq λ_=>#[])).get? a=some (jz "list" #[] e1):=⟨_,get?_update_seq ho (λ_=>#[])⟩;refine jc (lz ho1 rfl ?_);refine jc (wpAny_newTuple ?_ (by show vs.length<=_;rw[jC];lia));refine jc (kT ?_ (aP _));refine jI ?_;have ho6:(B4 s.heap a vs).get? a=some (jz "list" #[] e1):=by
  unfold B4;rw[cA _ _ _ (by rw[size_push',dz];exact aD (bc ha)),cA _ _ _ (by rw[dz];exact aD ha)];exact ho1
 show jh (jm prog w) A _ P E { s with heap:=B4 s.heap a vs };dsimp only;have hsz:vs.toArray.size=vs.length:=by simp
 by_cases h2:vs.toArray.size<2
 .rw[jo h2,jo h2];refine jc (je ?_);rw[StateT.run_pure];refine jc (je ?_);dsimp only;refine jc (lz ho6 rfl ?_);refine jc (kr ho6 rfl ?_ (aP _) (by rw[Array.size_map];show(pairsOf vs).size<=_;rw[pairsOf_size,jC];lia));simp only[bne_self_eq_false,au,if_false];have hh:=h (List.toArray (List.range vs.length)) (by show List.Perm _ _;simp) (by
   rw[hsz]at h2;rcases(by lia:vs.length=0\/vs.length=1) with e|e<;>rw[e]<;>simp[bH])
  have e3:List.map (λ i=>vs.getD i Value.none) (List.range vs.length).toArray.toList=vs:=Rt vs;rw[e3]at hh;have e2:(arrOf (SortSt.mk' general' (vs.toArray.zip vs.toArray) #[] 7 none)).map (·.2)=vs.toArray:=by
   show(vs.toArray.zip vs.toArray).map (·.2)=vs.toArray;apply Array.ext';simp[List.map_snd_zip]
  refine je ?_;rw[e2];exact hh
 .rw[jj h2,jj h2];have h2':2<=vs.length:=by lia
  refine jc (hK _ _ h2' ?_);refine jc (jA (kat_run (ks:=vs) (vs:=vs) (Q:=λ st' s'=>s'={ s with heap:=B4 s.heap a vs }/\∃p:Array Nat,p.size=vs.length/\arrOf st'=p.map (kas_item (vs.toArray.zip vs.toArray))/\failedOf st'=none/\PermN vs.length p/\(p.toList.map key).Pairwise (·<=·))
   (G:=λ p s'=>s'={ s with heap:=B4 s.heap a vs }/\PermN vs.length p/\(p.toList.map key).Pairwise (·<=·)) rfl h2' h64 (λ p st' s' a1 a2 a3 a4=>⟨a4.1,p,a1,a2,a3,a4.2⟩)
   (MD (λ i j C hi hj hC=>hL i j C hi hj hC) (by lia) λ q hq hp=>⟨rfl,hq,hp⟩)) ?_ λ_ _ e=>e)
  rintro⟨⟨⟩,st'⟩ s' ⟨rfl,p,hp,har,hf,pp,ps⟩;dsimp only;have hout:=kat_snds rfl har;have hsz2:(List.toArray (p.toList.map λ i=>vs.getD i Value.none)).size=vs.length:=by rw[aj,aa,aW,hp]
  rw[hout];refine jc (lz ho6 rfl ?_);refine jc (kr ho6 rfl ?_ (aP _) (aV (dF hsz2) (by rw[jC];lia)));rw[hf];simp only[bne_self_eq_false,au,if_false];exact je (h p pp ps)
theorem Td{l:jd}{vs:LWz}{κ:SortKind}{key:Nat->Int}{Q:VPz}(hl:s.heap.IsList l vs.toArray)(h64:vs.length<64)
  (hK:∀(h':jy),(∀b o,s.heap.get? b=some o->h'.get? b=some o)->∀(A:jx)(Q:SortKind->jf->Prop)(E:VPz),2<=vs.length->Q κ { s with heap:=h' }->jh (jm prog w) A (keyKind' vs.toArray) Q E { s with heap:=h' })
  (hL:∀(h':jy),(∀b o,s.heap.get? b=some o->h'.get? b=some o)->∀(A:jx) i j (C:Bool->jf->Prop),i<vs.length->j<vs.length->C (decide (key i<key j)) { s with heap:=h' } ->
   jh (jm prog w) A (keyLt' κ (vs.getD i Value.none) (vs.getD j Value.none)) C (λ_ _=>False) { s with heap:=h' })
  (h:∀q:Array Nat,PermN vs.length q->(q.toList.map key).Pairwise (·<=·)->Q (.ref (s.heap.objs.size+1)) { s with heap:=sortedAll s.heap vs (List.toArray (q.toList.map λ i=>vs.getD i Value.none)) }) :
  jh (jm prog w) A (call (.builtin "sorted") [.ref l]) Q E s:=by
 refine Calls.call_function_entry kind_sorted plain_sorted entry_sorted (args_sorted1 _) ?_;unfold Builtin.«sorted»;refine jc (m:=checkCount "sorted" 1 1 _) (je ?_);refine jc (collect_list hl ?_ (by rw[jC];lia));refine jc (kT ?_ (by rw[jC];lia));have hsz:((s.heap.push (jz "list" #[] 0)).update s.heap.objs.size (Obj.mapSeq (·++vs.toArray))).objs.size=s.heap.objs.size+1:=by
  rw[dz,size_push']
 have hoL:(((s.heap.push (jz "list" #[] 0)).update s.heap.objs.size (Obj.mapSeq (·++vs.toArray))).push (jz "list" vs.toArray 0)).get? (s.heap.objs.size+1)=some (jz "list" vs.toArray 0):=by
  rw[<-hsz];exact ar _ rfl
 have keep:∀b o,s.heap.get? b=some o->(((s.heap.push (jz "list" #[] 0)).update s.heap.objs.size (Obj.mapSeq (·++vs.toArray))).push (jz "list" vs.toArray 0)).get? b=some o:=λ b o q=>by
  have hlt:b<s.heap.objs.size:=ak q;rw[cA _ _ _ (by rw[hsz];exact aD (bc hlt)),bS _ _ _ _ (aD hlt),cA _ _ _ (aD hlt)];exact q
 show jh _ _ _ _ _ { s with heap:=((s.heap.push (jz "list" #[] 0)).update s.heap.objs.size (Obj.mapSeq (·++vs.toArray))).push (jz "list" vs.toArray 0) };rw[hsz];have mid:∀b o,s.heap.get? b=some o->(B4 (((s.heap.push (jz "list" #[] 0)).update s.heap.objs.size (Obj.mapSeq (·++vs.toArray))).push (jz "list" vs.toArray 0)) (s.heap.objs.size+1) vs).get? b=some o:=λ b o q =>
  Lv (aD (bc (ak q))) (keep b o q)
 refine jc (jI (jJ slot_list_sort ⟨_,hoL,rfl⟩ entry_list_sort (Hf (κ:=κ) (key:=key) (s:={ s with heap:=((s.heap.push (jz "list" #[] 0)).update s.heap.objs.size (Obj.mapSeq (·++vs.toArray))).push (jz "list" vs.toArray 0) }) hoL h64 (λ Q E h2 hq=>hK _ mid _ Q E h2 hq) (λ i j C hi hj hc=>hL _ mid _ i j C hi hj hc) λ q a1 a2=>⟨_,rfl,?_⟩) (args_list_sort _)));exact je ⟨_,rfl,h q a1 a2⟩
theorem GG{fin:Bool}{Q:Bool->jf->Prop}(hf:fin=false):∀{vs ws:LWz}{ns ms:List Int}(i:Nat),IntsAre vs ns->IntsAre ws ms->ns.length=ms.length->Q (HT.lexLt ns ms) s->KatLex prog w A true fin Q (vs.zip ws) i s
 |_,_,_,_,i,.nil,.nil,_,hq=>by rw[HT.lexLt_nil_nil]at hq;rw[hf];exact hq
 |_,_,_,_,i,.cons n t hn,.cons m u hm,hl,hq=>by
  rw[ee];rw[HT.lexLt_cons]at hq;refine kat_cons (wpAny_eqBool_int (kat_go (λ e=>kat_yes ?_) λ e=>kat_no ?_))
  .have e':n=m:=by simpa using e
   rw[jo e']at hq;exact GG hf (i+1) hn hm (by simpa using hl) hq
  .have e':¬n=m:=by simpa using e
   rw[jj e']at hq;by_cases hi:i=0
   .subst hi;exact oneLt_int hq
   .have hb:(true&&i==0)=false:=by simp[hi]
    rw[hb];exact kat_one _ _ (lt_int hq)
end
section
variable{X:Cx}
theorem Gc:∀{ts:List jd}{its:LWz},Vals (ts.map V.ref) its->its=ts.map Value.ref
 |[],_,.nil=>rfl
 |a::r,_,.cons h t=>by
  cases(show _=Value.ref a from h);rw[aJ,Gc t]
theorem ES:∀(ts:List jd),Vals (ts.map V.ref) (ts.map Value.ref)
 |[]=>.nil
 |a::r=>.cons rfl (ES r)
theorem IL{h:jy}{m:Nat}:∀{ts:List (jd×List Int)},(∀t∈ts,t.2.length=m+1/\∃items,IsTup h t.1 items/\IntsAre items.toList t.2)->∃fs,KatTups h (ts.map λ t=>Value.ref t.1) fs/\fs.length=ts.length/\∀v∈fs,∃n tk,v=Value.int n tk
 |[],_=>⟨[],KatTups.nil,rfl,λ v hv=>nomatch hv⟩
 |t::r,hh=>by
  obtain⟨fs,h1,h2,h3⟩:=IL (ts:=r) λ u hu=>hh u (ay _ hu);obtain⟨hl,items,⟨o,ho,hc,n,hd⟩,hi⟩:=hh t aw;obtain⟨x,tk,z,e⟩:∃(n:Int)(tk:kH)(zs:LWz),items.toList=Value.int n tk::zs:=by
   generalize items.toList=vs at hi;generalize t.2=ns at hi hl;cases hi with
   |nil=>simp at hl
   |cons n tk hz=>exact⟨n,tk,_,rfl⟩
  have hf:items[0]?=some (Value.int x tk):=by
   rw[<-cz,e];rfl
  exact⟨_,KatTups.cons ho hc hd hf h1,by simp[h2],λ v hv=>by
   rcases aO.mp hv with rfl|hv
   .exact⟨x,tk,rfl⟩
   .exact h3 v hv⟩
theorem LI:BK X (.builtin "sorted") (λ xs H Q=>∃(p:jd)(ts:List (jd×List Int))(m:Nat)(key:List Int->Int),xs=[.ref p]/\SqL X.K H p (ts.map λ t=>V.ref t.1)/\ts.length<64 /\
  (∀t∈ts,t.2.length=m+1/\H t.1=some (.tup (t.2.map V.int)))/\(∀t∈ts,∀u∈ts,HT.lexLt t.2 u.2=decide (key t.2<key u.2)) /\
  ∀l (ts':List (jd×List Int)),H l=none->ts'.Perm ts->(ts'.map λ t=>key t.2).Pairwise (·<=·)->Q (.ref l) (upd H l (.lst (ts'.map λ t=>V.ref t.1)))):=by
 intro iZ s σ H xs us Q I r h;obtain⟨p,ts,m,key,rfl,hp,h64,ht,hkey,q⟩:=h;obtain⟨u,rfl,ru⟩:=D0 r;cases ru;obtain⟨its,rv,pl,hz⟩:=I.list hp;have hits:its=ts.map λ t=>Value.ref t.1:=by
  have:=Gc (ts:=ts.map (·.1)) (its:=its) (by rw[aB];exact rv);rw[this,aB];rfl
 have hlen:its.length=ts.length:=by rw[hits,aa]
 have tup:∀t∈ts,t.2.length=m+1/\∃items,IsTup s.heap t.1 items/\IntsAre items.toList t.2:=λ t htm=>by
  obtain⟨h1,h2⟩:=ht t htm;obtain⟨_,zs,rz,tz⟩:=(show ObjOk X.prog X.w H s.heap t.1 (.tup (t.2.map V.int)) from I.hok _ _ h2);exact⟨h1,_,tz,by simpa using Ff rz⟩
 have tupK:∀(h':jy),(∀b o,s.heap.get? b=some o->h'.get? b=some o)->∀t∈ts,t.2.length=m+1/\∃items,IsTup h' t.1 items/\IntsAre items.toList t.2:=λ h' k t htm=>by
  obtain⟨h1,items,⟨o,e,c⟩,h3⟩:=tup t htm;exact⟨h1,items,⟨o,k _ _ e,c⟩,h3⟩
 refine Td (κ:=tuples' true) (key:=λ i=>key ((ts.map (·.2)).getD i [])) pl.isList (by lia) (λ h' k A' Q' E' h2 hq=>?_) (λ h' k A' i j C hi hj hc=>?_) λ qq pq sq=>?_
 .obtain⟨fs,f1,f2,f3⟩:=IL (tupK h' k);rw[hits];refine kat_kind (s:={ s with heap:=h' }) (T:=Value.type "int") f1 (by lia) (λ v hv=>?_) (by decide) hq;obtain⟨n,tk,rfl⟩:=f3 v hv;exact .now
 .have hi':i<ts.length:=by lia
  have hj':j<ts.length:=by lia
  obtain⟨l1,x1,⟨o1,e1,c1,n1,d1⟩,z1⟩:=tupK h' k _ (bL hi');obtain⟨l2,x2,⟨o2,e2,c2,n2,d2⟩,z2⟩:=tupK h' k _ (bL hj');have g1:its.getD i Value.none=Value.ref ts[i].1:=by rw[hits];simp[dR,hi']
  have g2:its.getD j Value.none=Value.ref ts[j].1:=by rw[hits];simp[dR,hj']
  have k1:(ts.map (·.2)).getD i []=ts[i].2:=by simp[dR,hi']
  have k2:(ts.map (·.2)).getD j []=ts[j].2:=by simp[dR,hj']
  simp only[k1,k2]at hc;rw[<-hkey _ (bL hi') _ (bL hj')]at hc;rw[g1,g2];have s1:=z1.length;have s2:=z2.length;exact kat_lt (s:={ s with heap:=h' }) e1 d1 e2 d2 (GG (by rw[js];simp at s1 s2;lia) 0 z1 z2 (by lia) hc)
 .obtain⟨e,he⟩:=sortedAll_at s.heap its (List.toArray (qq.toList.map λ i=>its.getD i Value.none));have hn:H (s.heap.objs.size+1)=none:=I.hok.fresh (bJ _);have pq':qq.toList.Perm (List.range ts.length):=by rw[<-hlen];exact pq
  have pick:ts.Perm (qq.toList.map λ i=>ts.getD i (0,[])):=by
   have:=(pq'.map λ i=>ts.getD i ((0:jd),([]:List Int))).symm;have e2:(List.range ts.length).map (λ i=>ts.getD i ((0:jd),([]:List Int)))=ts:=by
    apply cR;intro i;rw[aE];by_cases h:i<ts.length
    .rw[c9 h,bO,aU,ag h];rfl
    .rw[be (by simpa using h),be (by lia)];rfl
   rw[e2]at this;exact this
  have inR:∀i∈qq.toList,i<ts.length:=λ i hi=>aQ.mp (pq'.mem_iff.mp hi);have eV:qq.toList.map (λ i=>its.getD i Value.none)=(qq.toList.map λ i=>ts.getD i (0,[])).map λ t=>Value.ref t.1:=by
   rw[aB];refine bE λ i hi=>?_;have:=inR i hi;rw[hits];simp[dR,this]
  refine⟨.ref (s.heap.objs.size+1),_,I.laid (o:=.lst ((qq.toList.map λ i=>ts.getD i (0,[])).map λ t=>V.ref t.1)) (t':=s.toks) (λ b o z=>sortedAll_old z) (bJ _) ⟨?_,_,e,?_,he⟩,rfl,q _ _ hn pick.symm ?_⟩
  .rw[aa,aa,aW,pq.size,jC];lia
  .rw[eV];generalize (qq.toList.map λ i=>ts.getD i ((0:jd),([]:List Int)))=zs;have:=ES (zs.map (·.1));rw[aB,aB]at this;exact this
  .rw[aB];have e4:qq.toList.map ((λ t:jd×List Int=>key t.2)∘λ i=>ts.getD i (0,[]))=qq.toList.map λ i=>key ((ts.map (·.2)).getD i []):=by
    refine bE λ i hi=>?_;have:=inR i hi;simp[dR,this]
   rw[e4];exact sq
end
section
variable{κ:Type}[DecidableEq κ]
noncomputable def AS(kvs:List (κ×V))(k:κ):Option V:=(kvs.find? λ kv=>decide (kv.1=k)).map (·.2)
noncomputable def BZ(kvs:List (κ×V))(k:κ)(v:V):List (κ×V) :=
 if (kvs.any λ kv=>decide (kv.1=k))=true then kvs.map (λ kv=>if kv.1=k then (kv.1,v) else kv) else kvs++[(k,v)]
theorem AY{p:κ×V}{r:List (κ×V)}{k:κ}(e:p.1=k):AS (p::r) k=some p.2:=by simp[AS,bQ,e]
theorem AZ{p:κ×V}{r:List (κ×V)}{k:κ}(e:¬p.1=k):AS (p::r) k=AS r k:=by simp[AS,bQ,e]
theorem CU(k:κ):∀kvs:List (κ×V),(kvs.any λ kv=>decide (kv.1=k))=(AS kvs k).isSome
 |[]=>rfl
 |p::r=>by
  rw[du];by_cases e:p.1=k
  .simp only[AY e,jn e,Bool.true_or,Option.isSome_some]
  .rw[AZ e,js e,Bool.false_or];exact CU k r
theorem LR(k j:κ)(y:V):∀kvs:List (κ×V),AS (kvs.map λ kv=>if kv.1=k then (kv.1,y) else kv) j=(AS kvs j).map λ x=>if j=k then y else x
 |[]=>rfl
 |p::r=>by
  have ih:=LR k j y r;rw[aJ];by_cases h:p.1=k
  .rw[jo h];by_cases e:p.1=j
   .rw[AY (p:=(p.1,y)) e,AY e,bO,jo (e.symm.trans h)]
   .rw[AZ (p:=(p.1,y)) e,AZ e,ih]
  .rw[jj h];by_cases e:p.1=j
   .rw[AY (p:=p) e,AY e,bO,jj (λ z=>h (e.trans z))]
   .rw[AZ (p:=p) e,AZ e,ih]
theorem JS(k j:κ)(y:V):∀kvs:List (κ×V),AS kvs k=none->AS (kvs++[(k,y)]) j=if j=k then some y else AS kvs j
 |[],_=>by
  by_cases e:k=j
  .rw[jo e.symm];exact AY (p:=(k,y)) e
  .rw[jj (λ z=>e z.symm)];exact AZ (p:=(k,y)) e
 |p::r,hn=>by
  rw[eR];have hk:¬p.1=k:=λ z=>by rw[AY z]at hn;cases hn
  rw[AZ hk]at hn;have ih:=JS k j y r hn;by_cases e:p.1=j
  .rw[AY e,AY e,jj (λ z=>hk (e.trans z))]
  .rw[AZ e,AZ e,ih]
theorem CT(kvs:List (κ×V))(k j:κ)(y:V):AS (BZ kvs k y) j=if j=k then some y else AS kvs j:=by
 unfold BZ;by_cases a:(kvs.any λ kv=>decide (kv.1=k))=true
 .rw[jo a,LR];rw[CU]at a;by_cases e:j=k
  .obtain⟨x,hx⟩:=dm.mp a;rw[jo e,e,hx,bO,jo rfl]
  .rw[jj e];cases AS kvs j with
   |none=>rfl
   |some x=>rw[bO,jj e]
 .rw[jj a];refine JS k j y kvs ?_;rw[CU]at a;cases q:AS kvs k with
  |none=>rfl
  |some x=>rw[q]at a;exact(a rfl).elim
theorem Ca(kvs:List (κ×V))(k:κ)(v:V):(BZ kvs k v).length<=kvs.length+1:=by
 unfold BZ;split
 .rw[aa];lia
 .rw[aH,aL,c7];lia
theorem Rq{kvs:List (κ×V)}{k:κ}(v:V)(h:AS kvs k=none):BZ kvs k v=kvs++[(k,v)]:=by
 unfold BZ;rw[CU,h];exact jj (by decide)
theorem RelO.isSome_eq{o:Option V}{u:Option jg}(r:RelO o u):o.isSome=u.isSome:=by
 cases o with
 |none=>cases u with
  |none=>rfl
  |some _=>exact(show False from r).elim
 |some _=>cases u with
  |none=>exact(show False from r).elim
  |some _=>rfl
theorem RelO.getD{o:Option V}{u:Option jg}{d:V}{d':jg}(r:RelO o u)(rd:RelV d d'):RelV (o.getD d) (u.getD d'):=by
 cases o with
 |none=>cases u with
  |none=>exact rd
  |some _=>exact(show False from r).elim
 |some _=>cases u with
  |none=>exact(show False from r).elim
  |some _=>exact r
theorem KV.val{kvs:List (κ×V)}{vs:List (κ×jg)}(r:KV kvs vs)(k:κ):RelO (AS kvs k) (valueAt vs k):=by
 unfold KV at r
 induction r with
 |nil=>exact True.intro
 |@cons p q ps qs h t ih =>
  obtain⟨h1,h2⟩:=h;by_cases e:p.1=k
  .have e':q.1=k:=h1.symm.trans e;have b:valueAt (q::qs) k=some q.2:=by simp[valueAt,bQ,e']
   rw[AY e,b];exact h2
  .have e':¬q.1=k:=λ z=>e (h1.trans z);have b:valueAt (q::qs) k=valueAt qs k:=by simp[valueAt,bQ,e']
   rw[AZ e,b];exact ih
theorem KV.any{kvs:List (κ×V)}{vs:List (κ×jg)}(r:KV kvs vs)(k:κ):(kvs.any λ kv=>decide (kv.1=k))=vs.any λ kv=>decide (kv.1=k):=by
 unfold KV at r
 induction r with
 |nil=>rfl
 |cons h t ih=>rw[du,du,ih,h.1]
theorem KV.repl{kvs:List (κ×V)}{vs:List (κ×jg)}(r:KV kvs vs)(k:κ){y:V}{u:jg}(ry:RelV y u) :
  KV (kvs.map λ kv=>if kv.1=k then (kv.1,y) else kv) (vs.map λ kv=>if kv.1=k then (kv.1,u) else kv):=by
 unfold KV at r |-
 induction r with
 |nil=>exact .nil
 |@cons p q ps qs h t ih =>
  rw[aJ,aJ];refine .cons ?_ ih;obtain⟨h1,h2⟩:=h;by_cases e:p.1=k
  .rw[jo e,jo (h1.symm.trans e)];exact⟨h1,ry⟩
  .rw[jj e,jj (λ z=>e (h1.trans z))];exact⟨h1,h2⟩
theorem KV.put{kvs:List (κ×V)}{vs:List (κ×jg)}(r:KV kvs vs)(k:κ){y:V}{u:jg}(ry:RelV y u):KV (BZ kvs k y) (stored vs k u):=by
 unfold BZ stored;rw[r.any k];by_cases e:(vs.any λ kv=>decide (kv.1=k))=true
 .rw[jo e,jo e];exact r.repl k ry
 .rw[jj e,jj e];exact Paired.snoc r ⟨rfl,ry⟩
theorem KV.length{kvs:List (κ×V)}{vs:List (κ×jg)}(r:KV kvs vs):kvs.length=vs.length:=Paired.length r
end
theorem IM{P:jk}{w:ju}{k:Key}{u:jg}(r:RelV (kV k) u):(AA P w).is k u=true:=by
 cases k with
 |inl i=>obtain⟨t,e⟩:=(show ∃t,u=Value.int i t from r);subst e;exact M6 P w i t
 |inr x=>obtain⟨t,e⟩:=(show ∃t,u=Value.str x t from r);subst e;exact M5 P w x t
theorem Kt{P:jk}{w:ju}:∀{ks:List Key}{us:LWz},Vals (ks.map kV) us->ItemsAre (AA P w) ks us
 |[],_,r=>by rw[b9]at r;cases r;exact .nil
 |k::ks,_,r=>by
  rw[aJ]at r;cases r with
  |cons h t=>exact .cons (IM h) (Kt t)
noncomputable abbrev KT(H:Hp):LKz->List (List Key×jd×jg)->Prop:=Paired λ p q=>p.1=q.1/\H q.2.1=some (.tup (p.1.map kV))/\RelV p.2 q.2.2
theorem KT.val{H:Hp}{kvs:LKz}{xs:List (List Key×jd×jg)}(r:KT H kvs xs)(k:List Key):RelO (AS kvs k) ((atKey xs k).map (·.2)):=by
 induction r with
 |nil=>exact True.intro
 |@cons p q ps qs h t ih =>
  obtain⟨h1,_,h2⟩:=h;by_cases e:p.1=k
  .have e':q.1=k:=h1.symm.trans e;have b:atKey (q::qs) k=some q.2:=by simp[atKey,bQ,e']
   rw[AY e,b];exact h2
  .have e':¬q.1=k:=λ z=>e (h1.trans z);have b:atKey (q::qs) k=atKey qs k:=by simp[atKey,bQ,e']
   rw[AZ e,b];exact ih
theorem KT.repl{H:Hp}{kvs:LKz}{xs:List (List Key×jd×jg)}(r:KT H kvs xs)(k:List Key){y:V}{u:jg}(ry:RelV y u) :
  KT H (kvs.map λ kv=>if kv.1=k then (kv.1,y) else kv) (xs.map (putAt k u)):=by
 induction r with
 |nil=>exact .nil
 |@cons p q ps qs h t ih =>
  rw[aJ,aJ];refine .cons ?_ ih;obtain⟨h1,h2,h3⟩:=h;unfold putAt;by_cases e:p.1=k
  .rw[jo e,jo (h1.symm.trans e)];exact⟨h1,h2,ry⟩
  .rw[jj e,jj (λ z=>e (h1.trans z))];exact⟨h1,h2,h3⟩
theorem KT.put{H:Hp}{kvs:LKz}{xs:List (List Key×jd×jg)}(r:KT H kvs xs)(k:List Key){b:jd}{y:V}{u:jg}(hb:H b=some (.tup (k.map kV)))(ry:RelV y u) :
  KT H (BZ kvs k y) (storedH xs k b u):=by
 have e:(kvs.any λ kv=>decide (kv.1=k))=(atKey xs k).isSome:=by
  rw[CU,(r.val k).isSome_eq,d8]
 unfold BZ storedH;rw[e];by_cases q:(atKey xs k).isSome=true
 .rw[jo q,jo q];exact r.repl k ry
 .rw[jj q,jj q];exact Paired.snoc r ⟨rfl,hb,ry⟩
theorem KT.keeps{H H':Hp}{kvs:LKz}{xs:List (List Key×jd×jg)}(r:KT H kvs xs)(ht:∀b ys,H b=some (.tup ys)->H' b=some (.tup ys)):KT H' kvs xs :=
 Paired.mapP r λ_ _ z=>⟨z.1,ht _ _ z.2.1,z.2.2⟩
section
variable{P:jk}{w:ju}{H:Hp}{h:jy}{a:jd}
theorem Uy{u:HO}(ok:HOk P w H h)(e:Rd H a u):ObjOk P w H h a u:=e.ok ok
theorem FN{kvs:List (Key×V)}(ok:HOk P w H h)(e:Rd H a (.dK kvs)):kvs.length<=jt/\(a==jS)=false/\∃vs,KV kvs vs/\h.DictOf (AA P w) a vs :=
 show ObjOk P w H h a (.dK kvs) from Uy ok e
theorem Sr{kvs:List (Key×V)}(ok:HOk P w H h)(e:H a=some (.dK kvs)):kvs.length<=jt/\(a==jS)=false/\∃vs,KV kvs vs/\h.DictOf (AA P w) a vs:=FN ok (.inl e)
theorem Fe{ks:List Key}(ok:HOk P w H h)(e:H a=some (.tup (ks.map kV))):(tupleKind (AA P w)).is h ks a:=by
 obtain⟨_,its,r,o,h1,h2,n,h3⟩:=(show ObjOk P w H h a (.tup (ks.map kV)) from ok a _ e);exact⟨o,its.toArray,n,h1,h2,h3,by simpa using Kt r⟩
theorem Je{kvs:LKz}(ok:HOk P w H h)(e:Rd H a (.dT kvs)):kvs.length<=jt/\(a==jS)=false /\
  ∃xs,KT H kvs xs/\h.DictOfH (tupleKind (AA P w)) a xs:=by
 obtain⟨z,y,xs,r,o,es,ep,h1,h2,h3,h4,h5⟩:=(show ObjOk P w H h a (.dT kvs) from Uy ok e);refine⟨z,y,xs,r,o,es,ep,h1,h2,h3,h4,λ x hx=>?_,h5⟩;have all:∀{l:LKz}{m:List (List Key×jd×jg)},KT H l m->∀x∈m,(tupleKind (AA P w)).is h x.1 x.2.1:=by
  intro l m q
  induction q with
  |nil=>intro x hx;exact nomatch hx
  |@cons p q ps qs hq t ih =>
   intro x hx;rcases aO.mp hx with e|hx
   .subst e;exact Fe ok (by rw[<-hq.1];exact hq.2.1)
   .exact ih x hx
 exact all r x hx
theorem WD{kvs:LKz}(ok:HOk P w H h)(e:H a=some (.dT kvs)):kvs.length<=jt/\(a==jS)=false /\
  ∃xs,KT H kvs xs/\h.DictOfH (tupleKind (AA P w)) a xs:=Je ok (.inl e)
end
noncomputable def DGet(H:Hp)(a:jd)(y:V)(r:Option V):Prop :=
 (∃kvs k,Rd H a (.dK kvs)/\y=kV k/\r=AS kvs k)\/∃kvs k b,Rd H a (.dT kvs)/\y=.ref b/\H b=some (.tup (k.map kV))/\r=AS kvs k
noncomputable def DPut(H:Hp)(a:jd)(y v:V)(H':Hp):Prop :=
 (∃kvs k,H a=some (.dK kvs)/\y=kV k/\kvs.length<jt/\H'=upd H a (.dK (BZ kvs k v))) \/
 ∃kvs k b,H a=some (.dT kvs)/\y=.ref b/\H b=some (.tup (k.map kV))/\kvs.length<jt/\H'=upd H a (.dT (BZ kvs k v))
theorem DGet.k{H:Hp}{a:jd}{kvs:List (Key×V)}{k:Key}(e:H a=some (.dK kvs)):DGet H a (kV k) (AS kvs k):=.inl ⟨kvs,k,.inl e,rfl,rfl⟩
theorem DGet.t{H:Hp}{a b:jd}{kvs:LKz}{k:List Key}(e:H a=some (.dT kvs))(eb:H b=some (.tup (k.map kV))):DGet H a (.ref b) (AS kvs k):=.inr ⟨kvs,k,b,.inl e,rfl,eb,rfl⟩
theorem DPut.k{H:Hp}{a:jd}{kvs:List (Key×V)}{k:Key}{v:V}(e:H a=some (.dK kvs))(hl:kvs.length<jt):DPut H a (kV k) v (upd H a (.dK (BZ kvs k v))):=.inl ⟨kvs,k,e,rfl,hl,rfl⟩
theorem DPut.t{H:Hp}{a b:jd}{kvs:LKz}{k:List Key}{v:V}(e:H a=some (.dT kvs))(eb:H b=some (.tup (k.map kV)))(hl:kvs.length<jt) :
  DPut H a (.ref b) v (upd H a (.dT (BZ kvs k v))):=.inr ⟨kvs,k,b,e,rfl,eb,hl,rfl⟩
section
variable{X:Cx}{iZ:PNz}{σ:St}{H:Hp}{s:jf}{a:jd}{y v:V}{u r:jg}{o:Option V}{A:jx}{E:VPz}
theorem Inv.big(I:Inv X iZ σ H s):jS<s.heap.objs.size:=by
 have h:jq<s.heap.objs.size:=(I.mod.glob.keeps I.bk).lt;exact fK (by decide) h
theorem Q6{Q:VPz}(hu:A.units+1<j5)(I:Inv X iZ σ H s)(g:DGet H a y (some v))(ry:RelV y u)(h:∀w' s',Inv X iZ σ H s'->RelV v w'->Q w' s') :
  jh (jm X.prog X.w) A (getItem (.ref a) u) Q E s:=by
 rcases g with ⟨kvs,k,e,ey,l⟩|⟨kvs,k,b,e,ey,eb,l⟩
 .subst ey;obtain⟨z,hd,vs,rel,dd⟩:=FN I.hok e;obtain⟨w',hw,rw'⟩:=RelO.some_of (v:=v) (o:=valueAt vs k) (by rw[l];exact rel.val k);exact wpAny_getItem_of (IM ry) dd.mapOf hw (h w' _ (I.tok _) rw')
 .subst ey;cases(show u=Value.ref b from ry);obtain⟨z,hd,xs,rel,dd⟩:=Je I.hok e;obtain⟨w',hw,rw'⟩:=RelO.some_of (v:=v) (o:=(atKey xs k).map (·.2)) (by rw[l];exact rel.val k);obtain⟨p,hp,hp2⟩:=ba.mp hw;refine wpAny_getItem_heap (kj hu) (Fe I.hok eb) dd hp ?_;rw[hp2];exact h w' _ (I.tok _) rw'
theorem X6{Q:VPz}(hu:A.units+1<j5)(I:Inv X iZ σ H s)(g:DGet H a y o)(ry:RelV y u)(h:∀s',Inv X iZ σ H s'->Q (.bool o.isSome) s') :
  jh (jm X.prog X.w) A (jO .In u (.ref a)) Q E s:=by
 rcases g with ⟨kvs,k,e,ey,l⟩|⟨kvs,k,b,e,ey,eb,l⟩
 .subst ey;obtain⟨z,hd,vs,rel,dd⟩:=FN I.hok e;refine wpAny_in_of (IM ry) hd dd.mapOf ?_;rw[<-(rel.val k).isSome_eq,<-l];exact h _ (I.tok _)
 .subst ey;cases(show u=Value.ref b from ry);obtain⟨z,hd,xs,rel,dd⟩:=Je I.hok e;refine wpAny_in_heap (kj hu) (Fe I.hok eb) hd dd ?_;have q:=(rel.val k).isSome_eq;rw[d8]at q;rw[<-q,<-l];exact h _ (I.tok _)
theorem Uf{Q:VPz}(hu:A.units+1<j5)(I:Inv X iZ σ H s)(g:DGet H a y o)(ry:RelV y u)(h:∀s',Inv X iZ σ H s'->Q (.bool (!o.isSome)) s') :
  jh (jm X.prog X.w) A (jO .NotIn u (.ref a)) Q E s:=by
 rcases g with ⟨kvs,k,e,ey,l⟩|⟨kvs,k,b,e,ey,eb,l⟩
 .subst ey;obtain⟨z,hd,vs,rel,dd⟩:=FN I.hok e;refine wpAny_notIn_of (IM ry) hd dd.mapOf ?_;rw[<-(rel.val k).isSome_eq,<-l];exact h _ (I.tok _)
 .subst ey;cases(show u=Value.ref b from ry);obtain⟨z,hd,xs,rel,dd⟩:=Je I.hok e;refine wpAny_notIn_heap (kj hu) (Fe I.hok eb) hd dd ?_;have q:=(rel.val k).isSome_eq;rw[d8]at q;rw[<-q,<-l];exact h _ (I.tok _)
theorem LB{h':jy}{t':Nat}{ob:HO}(I:Inv X iZ σ H s)(mu:Mut (H a))(hs:Heap.SameBut a s.heap h')(he:∃q,h'.get? a=some q)(new:ObjOk X.prog X.w (upd H a ob) h' a ob) :
  Inv X iZ σ (upd H a ob) { s with heap:=h',toks:=t' } :=
 I.write (x:=a) (e:=a) mu (.inl rfl) (λ b q hb z=>(hs.2 b hb).trans z) he new
theorem Ss{P:jk}{w:ju}{H':Hp}{h':jy}{kvs:List (Key×V)}{vs:List (Key×jg)}(z:kvs.length<=jt)(hd:(a==jS)=false)(rel:KV kvs vs)(dd:h'.DictOf (AA P w) a vs) :
  ObjOk P w H' h' a (.dK kvs):=⟨z,hd,vs,rel,dd⟩
theorem Q5{H':Hp}{Q:Unit->jf->Prop}(hu:A.units+1<j5)(I:Inv X iZ σ H s)(g:DPut H a y v H')(ry:RelV y u)(rv:RelV v r)(h:∀s',Inv X iZ σ H' s'->Q () s') :
  jh (jm X.prog X.w) A (setItem (.ref a) u r) Q E s:=by
 rcases g with ⟨kvs,k,e,ey,l,eH⟩|⟨kvs,k,b,e,ey,eb,l,eH⟩
 .subst ey eH;obtain⟨z,hd,vs,rel,dd⟩:=Sr I.hok e;have hz:vs.length<=jt:=by rw[<-rel.length];exact z
  have hl:(BZ kvs k v).length<=jt:=by have:=Ca kvs k v;lia
  refine wpAny_setItem_pairs (hsz:=hz) (IM ry) dd λ h' dd' hs=>h _ ?_;have he:∃q,h'.get? a=some q:=let ⟨q,_,_,hq,_⟩:=dd';⟨q,hq⟩;exact LB I (by rw[e];exact True.intro) hs he (Ss hl hd (rel.put k rv) dd')
 .subst ey eH;cases(show u=Value.ref b from ry);obtain⟨z,hd,xs,rel,dd⟩:=WD I.hok e;have hz:xs.length<=jt:=by rw[<-Paired.length rel];exact z
  have hl:(BZ kvs k v).length<=jt:=by have:=Ca kvs k v;lia
  refine wpAny_setItem_heap (hsz:=hz) (kj hu) (Fe I.hok eb) dd λ h' dd' hs=>h _ ?_;obtain⟨q,es,ep,hq,h2,h3,h4,_,h5⟩:=dd';refine LB I (by rw[e];exact True.intro) hs ⟨q,hq⟩ ⟨hl,hd,_,(rel.put k eb rv).keeps λ c ys ec=>?_,q,es,ep,hq,h2,h3,h4,h5⟩;rw[Ad (Bp ec e (λ z=>nomatch z))];exact ec
end
section
variable{X:Cx}{iZ:PNz}{σ:St}{H:Hp}{s:jf}{a:jd}{kvs:List (Key×V)}{k:Key}{u:jg}{A:jx}{E:VPz}
theorem WF{Q:VPz}(I:Inv X iZ σ H s)(e:Rd H a (.dK kvs))(h:∀t s',Inv X iZ σ H s'->Q (.int kvs.length t) s'):jh (jm X.prog X.w) A (call (.builtin "len") [.ref a]) Q E s:=by
 obtain⟨z,hd,vs,rel,dd⟩:=FN I.hok e;refine call_len_dict hd dd (by rw[<-rel.length];rw[jC]at z;lia) ?_;rw[<-rel.length];exact h _ _ (I.tok _)
end
noncomputable def WR(i:jB):Prop:=∀ov iv,subscripted i false ov iv=operate [ov,iv] (getItem ov iv)
theorem SZ{prog:jk}{w:ju}{A:jx}{E:VPz}{s:jf}{env:lH}{value slice:jB}{pos:Pos}{T id:String}{Q:VPz}
  (hl:typeLookup (.type T) "__getitem__"=pure (some (.builtin id))) (hs:WR slice)
  (h:jh (jm prog w) A (eval value env) (λ o s₁=>jh (jm prog w) A (eval slice env) (λ i s₂=>s₂.TypeIs o T/\jh (jm prog w) A (getItem o i) Q E s₂) E s₁) E s) :
  jh (jm prog w) A (eval (.Subscript value slice pos) env) Q E s:=by
 refine Subscript_ (jA h (λ o s₁ h₁=>jA h₁ (λ i s₂ h₂=>?_) λ_ _ x=>x) λ_ _ x=>x);obtain⟨hT,h₂⟩:=h₂;unfold subscriptTail;refine jc ?_;rw[getitemInPython_of_ne hT.not_modules];refine jc (j9 hT hl ?_);have fin:jh (jm prog w) A (subscripted slice false o i) (λ r s₃=>jh (jm prog w) A (letTemporaryGo value o r >>= λ_=>pure r) Q E s₃) E s₂:=by
  rw[hs o i];exact wpAny_operating (jA h₂ (λ r s₃ h₃=>jc (wpAny_letTemporaryGo (je h₃))) λ_ _ x=>x)
 first
  |exact je (jc fin)
  |exact jc (je (jc fin))
  |exact jc fin
theorem MM{X:Cx}{iZ:PNz}{σ:St}{H:Hp}{s:jf}{a:jd}{y:V}{o:Option V}(I:Inv X iZ σ H s)(g:DGet H a y o):s.TypeIs (.ref a) "dict":=by
 rcases g with ⟨kvs,k,e,_,_⟩|⟨kvs,k,b,e,_,_,_⟩
 .obtain⟨_,_,vs,_,dd⟩:=FN I.hok e;exact dd.typeIs
 .obtain⟨_,_,xs,_,dd⟩:=Je I.hok e;exact dd.typeIs
noncomputable def VX(td ty:TE):TE:=λ σ H Q=>td σ H λ x H1=>ty σ H1 λ y H2=>∃a v,x=.ref a/\DGet H2 a y (some v)/\Q v H2
noncomputable def Xd(ty td:TE):TE:=λ σ H Q=>ty σ H λ y H1=>td σ H1 λ x H2=>∃a o,x=.ref a/\DGet H2 a y o/\Q (.bl o.isSome) H2
noncomputable def SX(ty td:TE):TE:=λ σ H Q=>ty σ H λ y H1=>td σ H1 λ x H2=>∃a o,x=.ref a/\DGet H2 a y o/\Q (.bl (!o.isSome)) H2
noncomputable def Wc(td ty tv:TE):TS:=λ D σ H=>tv σ H λ v H1=>td σ H1 λ x H2=>ty σ H2 λ y H3=>∃a H4,x=.ref a/\DPut H3 a y v H4/\D.nx σ H4
section
variable{X:Cx}{o i e value:jB}{pos pos' tpos:Pos}{td ty tv:TE}
theorem Dp(hu:X.A.units+1<j5)(ho:PE X o td)(hi:PE X i ty)(hs:WR i:=by exact λ_ _=>rfl):PE X (.Subscript o i pos) (VX td ty):=by
 intro iZ s σ H Q I h;refine SZ PySem.F.slot_dict_getitem.lookup hs (thn (ho iZ s σ H _ I h) λ u s1 hz_=>?_);obtain⟨x,H1,I1,rx,q1⟩:=hz_;refine thn (hi iZ s1 σ H1 _ I1 q1) λ iv s2 hz_=>?_;obtain⟨y,H2,I2,ry,a,v,ex,g,q2⟩:=hz_;subst ex;obtain rfl:u=Value.ref a:=rx;exact⟨MM I2 g,Q6 hu I2 g ry λ w' s3 I3 rw'=>⟨v,H2,I3,rw',q2⟩⟩
theorem Vb(hu:X.A.units+1<j5)(hi:PE X i ty)(ho:PE X o td):PC X .In i o (Xd ty td):=by
 intro iZ s σ H Q I h;refine thn (hi iZ s σ H _ I h) λ iv s1 hz_=>?_;obtain⟨y,H1,I1,ry,q1⟩:=hz_;refine thn (ho iZ s1 σ H1 _ I1 q1) λ u s2 hz_=>?_;obtain⟨x,H2,I2,rx,a,ov,ex,g,q2⟩:=hz_;subst ex;obtain rfl:u=Value.ref a:=rx;exact X6 hu I2 g ry λ s3 I3=>⟨.bl ov.isSome,H2,I3,rfl,q2⟩
theorem PU(hu:X.A.units+1<j5)(hi:PE X i ty)(ho:PE X o td):PC X .NotIn i o (SX ty td):=by
 intro iZ s σ H Q I h;refine thn (hi iZ s σ H _ I h) λ iv s1 hz_=>?_;obtain⟨y,H1,I1,ry,q1⟩:=hz_;refine thn (ho iZ s1 σ H1 _ I1 q1) λ u s2 hz_=>?_;obtain⟨x,H2,I2,rx,a,ov,ex,g,q2⟩:=hz_;subst ex;obtain rfl:u=Value.ref a:=rx;exact Uf hu I2 g ry λ s3 I3=>⟨.bl (!ov.isSome),H2,I3,rfl,q2⟩
theorem Er(hu:X.A.units+1<j5)(ho:PE X o td)(hi:PE X i ty)(hv:PE X value tv)(hs:swapsWith value (some (.Subscript o i pos')) pos.line X.env=pure false) :
  PS X (.Assign [.Subscript o i pos'] value pos) (Wc td ty tv):=by
 intro iZ s σ H D I h;refine wpAny_Assign_Subscript (thn (hv iZ s σ H _ I h) λ r s1 hz_=>?_) hs;obtain⟨v,H1,I1,rv,q1⟩:=hz_;refine thn (ho iZ s1 σ H1 _ I1 q1) λ u s2 hz_=>?_;obtain⟨x,H2,I2,rx,q2⟩:=hz_;refine thn (hi iZ s2 σ H2 _ I2 q2) λ iv s3 hz_=>?_;obtain⟨y,H3,I3,ry,a,H4,ex,g,q3⟩:=hz_;subst ex;obtain rfl:u=Value.ref a:=rx;exact Q5 hu I3 g ry rv λ s4 I4=>⟨σ,H4,I4,q3⟩
end
theorem ML{P:jk}{w:ju}{H:Hp}(h:jy)(hb:jS<h.objs.size):ObjOk P w H (h.push { cls:=.type "dict",data:=.dict #[] }) h.objs.size (.dK []) :=
 ⟨aP _,beq_eq_false_iff_ne.mpr (Ne.symm (aD hb)),[],.nil,Heap.DictOf.new h⟩
theorem So{P:jk}{w:ju}{H:Hp}(h:jy)(hb:jS<h.objs.size):ObjOk P w H (h.push { cls:=.type "dict",data:=.dict #[] }) h.objs.size (.dT []) :=
 ⟨aP _,beq_eq_false_iff_ne.mpr (Ne.symm (aD hb)),[],.nil,_,#[],0,ar _ rfl,⟨rfl,rfl,rfl⟩,rfl,rfl,cB⟩
noncomputable def UM:TE:=λ_ H Q=>∀p,H p=none->Q (.ref p) (upd H p (.dK []))
noncomputable def UL:TE:=λ_ H Q=>∀p,H p=none->Q (.ref p) (upd H p (.dT []))
section
variable{X:Cx}{pos:Pos}
theorem Ml:PE X (.Dict [] [] pos) UM:=λ iZ s σ H Q I h =>
 wpAny_Dict_empty ⟨.ref s.heap.objs.size,_,I.laid (a:=s.heap.objs.size) (o:=.dK []) (t':=s.toks) (λ_ _ q=>ae _ q) (ah _) (ML s.heap I.big),rfl,h _ (I.hok.fresh (ah _))⟩
theorem Ip:PE X (.Dict [] [] pos) UL:=λ iZ s σ H Q I h =>
 wpAny_Dict_empty ⟨.ref s.heap.objs.size,_,I.laid (a:=s.heap.objs.size) (o:=.dT []) (t':=s.toks) (λ_ _ q=>ae _ q) (ah _) (So s.heap I.big),rfl,h _ (I.hok.fresh (ah _))⟩
end
noncomputable def Nq:List (TE×TE)->St->Hp->(List (V×V)->Hp->Prop)->Prop
 |[],_,H,Q=>Q [] H
 | (tk,tv)::r,σ,H,Q=>tk σ H λ x H1=>tv σ H1 λ y H2=>Nq r σ H2 λ ps H3=>Q ((x,y)::ps) H3
noncomputable abbrev VV:List (V×V)->List (jg×jg)->Prop:=Paired λ p q=>RelV p.1 q.1/\RelV p.2 q.2
noncomputable def PPs(X:Cx)(pos:Pos)(keys:List (Option jB))(values:List jB)(trs:List (TE×TE)):Prop :=
 ∀(iZ:PNz)(s:jf)(σ:St)(H:Hp)(Q:List (V×V)->Hp->Prop),Inv X iZ σ H s->Nq trs σ H Q ->
  jh (jm X.prog X.w) X.A (evalPairs (pairTrees keys values X.env pos)) (λ vs s'=>∃ps H',Inv X iZ σ H' s'/\VV ps vs/\Q ps H') X.xe s
theorem O5{X:Cx}{pos:Pos}:PPs X pos [] [] []:=λ iZ s σ H Q I h=>pairTrees_nil_walk ⟨[],H,I,.nil,h⟩
theorem Mi{X:Cx}{pos:Pos}{k v:jB}{ks:List (Option jB)}{vs:List jB}{tk tv:TE}{trs:List (TE×TE)}(hk:PE X k tk)(hv:PE X v tv)(hr:PPs X pos ks vs trs) :
  PPs X pos (some k::ks) (v::vs) ((tk,tv)::trs):=λ iZ s σ H Q I h =>
 pairTrees_cons_walk (thn (hk iZ s σ H _ I h) λ u s1 ⟨x,H1,I1,rx,q1⟩=>thn (hv iZ s1 σ H1 _ I1 q1) λ w2 s2 ⟨y,H2,I2,ry,q2⟩ =>
  thn (hr iZ s2 σ H2 _ I2 q2) λ ws s3 ⟨ps,H3,I3,rel,q3⟩=>⟨(x,y)::ps,H3,I3,.cons ⟨rx,ry⟩ rel,q3⟩)
noncomputable def Fc(kvs more:List (Key×V)):List (Key×V):=more.foldl (λ acc kv=>BZ acc kv.1 kv.2) kvs
theorem KV.merge:∀{more:List (Key×V)}{rs:List (Key×jg)}{kvs:List (Key×V)}{vs:List (Key×jg)},KV more rs->KV kvs vs->KV (Fc kvs more) (merged vs rs):=by
 intro more rs kvs vs r;unfold KV at r
 induction r generalizing kvs vs with
 |nil=>intro q;exact q
 |@cons p q ps qs h t ih =>
  intro r0;have e:KV (BZ kvs p.1 p.2) (stored vs q.1 q.2):=by
   have:=r0.put p.1 h.2;rw[<-h.1];exact this
  exact ih e
theorem E6:∀(more kvs:List (Key×V)),(Fc kvs more).length<=kvs.length+more.length
 |[],kvs=>by show kvs.length<=kvs.length+0;lia
 |p::r,kvs=>by
  have h1:=E6 r (BZ kvs p.1 p.2);have h2:=Ca kvs p.1 p.2;show(Fc (BZ kvs p.1 p.2) r).length<=_;rw[aL];lia
theorem Jj{P:jk}{w:ju}:∀{kvs:List (Key×V)}{ws:List (jg×jg)},VV (kvs.map λ kv=>(kV kv.1,kv.2)) ws->∃rs,Carries (AA P w) ws rs/\KV kvs rs
 |[],_,r=>by rw[b9]at r;cases r;exact⟨[],True.intro,.nil⟩
 |p::kvs,_,r=>by
  rw[aJ]at r;cases r with
  |@cons a b as bs h t =>
   obtain⟨rs,c,q⟩:=Jj (P:=P) (w:=w) t;obtain⟨b1,b2⟩:=b;exact⟨(p.1,b2)::rs,⟨IM h.1,rfl,c⟩,.cons ⟨rfl,h.2⟩ q⟩
noncomputable def VW(trs:List (TE×TE)):TE:=λ σ H Q=>∀p,H p=none->Nq trs σ (upd H p (.dK [])) λ ps H2=>H2 p=some (.dK [])/\∃kvs:List (Key×V),ps=kvs.map (λ kv=>(kV kv.1,kv.2))/\kvs.length<=15/\Q (.ref p) (upd H2 p (.dK (Fc [] kvs)))
theorem OB{X:Cx}{pos:Pos}{keys:List (Option jB)}{values:List jB}{trs:List (TE×TE)}(h:PPs X pos keys values trs)(hall:keys.all (·.isSome)=true)(hl:keys.length=values.length)(h0:keys≠[])
  (h15:keys.length<=15):PE X (.Dict keys values pos) (VW trs):=by
 intro iZ s σ H Q I q;have hn:=I.hok.fresh (ah s.heap.objs.size);have I1:=I.laid (a:=s.heap.objs.size) (o:=.dK []) (h':=s.heap.push { cls:=.type "dict",data:=.dict #[] }) (t':=s.toks) (λ_ _ q=>ae _ q) (ah _) (ML s.heap I.big);refine wpAny_Dict_walk (knd:=AA X.prog X.w) hall hl h0 h15 (thn (h iZ _ σ _ _ I1 (q _ hn)) λ ws s2 hz_=>?_);obtain⟨ps,H2,I2,rel,e,kvs,ep,lk,q2⟩:=hz_;subst ep;obtain⟨rs,c,rk⟩:=Jj (P:=X.prog) (w:=X.w) rel;obtain⟨z,hd,vs0,r0,dd⟩:=Sr I2.hok e;cases r0;refine⟨rs,c,dd,λ h' dd' hs=>⟨.ref s.heap.objs.size,_,?_,rfl,q2⟩⟩;have hz:(Fc [] kvs).length<=jt:=by
  have h1:=E6 kvs [];rw[c7]at h1;rw[jC];lia
 have he:∃q,h'.get? s.heap.objs.size=some q:=let ⟨q,_,_,hq,_⟩:=dd';⟨q,hq⟩;exact LB I2 (by rw[e];exact True.intro) hs he (Ss hz hd (rk.merge .nil) dd')
structure M2(X:Cx)(o:jB)(m:jD)(apos:Pos)(e f:jB)(cpos:Pos):Prop where
 ja:attributeBase o m X.env (eval o X.env)=eval o X.env
 few:((jX cpos (jv [e,f] X.env)).all (λ x=>!x.1)&&(backToKw cpos (keywordEach [] X.env)).all (λ x=>x.1.isSome)
 &&decide (([e,f]:List jB).length+([]:List Keyword).length+(if ([]:List Keyword).isEmpty then 0 else 1)<30))=true
 line:(apos.endLine==cpos.line)=true
 trees:jX cpos (jv [e,f] X.env)=[(false,eval e X.env),(false,eval f X.env)]
noncomputable def IsD(H:Hp)(a:jd):Prop:=(∃kvs,Rd H a (.dK kvs))\/∃kvs,Rd H a (.dT kvs)
theorem NQ{X:Cx}{iZ:PNz}{σ:St}{H:Hp}{s:jf}{a:jd}(I:Inv X iZ σ H s)(d:IsD H a) :
  s.TypeIs (.ref a) "dict"/\(∀b,Value.ref a=.ref b->∃ob,s.heap.get? b=some ob/\ob.dict=none)/\(a==jS)=false:=by
 rcases d with ⟨kvs,e⟩|⟨kvs,e⟩
 .obtain⟨_,hd,vs,_,dd⟩:=FN I.hok e;refine⟨dd.typeIs,λ b q=>?_,hd⟩;cases q;obtain⟨ob,_,_,h1,h2,_⟩:=dd;exact⟨ob,h1,h2.2.1⟩
 .obtain⟨_,hd,xs,_,dd⟩:=Je I.hok e;refine⟨dd.typeIs,λ b q=>?_,hd⟩;cases q;obtain⟨ob,_,_,h1,h2,_⟩:=dd;exact⟨ob,h1,h2.2.1⟩
section
variable{X:Cx}{iZ:PNz}{σ:St}{H:Hp}{s:jf}{a:jd}{y d:V}{u r:jg}{o:Option V}{A:jx}{E:VPz}
theorem V2{Q:VPz}(hu:A.units+1<j5)(I:Inv X iZ σ H s)(g:DGet H a y o)(ry:RelV y u)(rd:RelV d r)(h:∀w' s',Inv X iZ σ H s'->RelV (o.getD d) w'->Q w' s') :
  jh (jm X.prog X.w) A (call (.builtin "dict.get") [.ref a,u,r]) Q E s:=by
 rcases g with ⟨kvs,k,e,ey,l⟩|⟨kvs,k,b,e,ey,eb,l⟩
 .subst ey;obtain⟨z,hd,vs,rel,dd⟩:=FN I.hok e;refine call_meetsIn dA dd.typeIs fu (fm _ _ _) (meets_dict_get_default (AA X.prog X.w) a (IM ry) hd r) ⟨_,dd.mapOf,h _ _ (I.tok _) ?_⟩;rw[l];exact(rel.val k).getD rd
 .subst ey;cases(show u=Value.ref b from ry);obtain⟨z,hd,xs,rel,dd⟩:=Je I.hok e;refine call_meetsIn dA dd.typeIs fu (fm _ _ _) (meetsH_dict_get_default (tupleKind (AA X.prog X.w)) a b hd r) ⟨kj hu,k,xs,Fe I.hok eb,dd,h _ _ (I.tok _) ?_⟩;rw[l];exact(rel.val k).getD rd
end
noncomputable def UN(td ty tx:TE):TE:=λ σ H Q=>td σ H λ x H1=>∃a,x=.ref a/\IsD H1 a/\ty σ H1 λ y H2=>tx σ H2 λ z H3=>∃o,DGet H3 a y o/\Q (o.getD z) H3
section
variable{X:Cx}{o e f:jB}{apos cpos:Pos}{td ty tx:TE}
theorem Rx(hu:X.A.units+1<j5)(ho:PE X o td)(he:PE X e ty)(hf:PE X f tx)(m:M2 X o "get" apos e f cpos):PE X (.Call (.Attribute o "get" apos) [e,f] [] cpos) (UN td ty tx):=by
 intro iZ s σ H Q I h;refine wpAny_Call_method m.ja m.few m.line ci dA PySem.F.type_dict_get (thn (ho iZ s σ H _ I h) λ u s1 hz_=>?_);obtain⟨x,H1,I1,rx,a,ex,d,q1⟩:=hz_;subst ex;obtain rfl:u=Value.ref a:=rx;obtain⟨t1,t2,_⟩:=NQ I1 d;refine⟨t1,t2,?_⟩;rw[m.trees];refine Calls.callWith_builtin rfl (Calls.evalArgs_plain (Calls.spliced_cons (thn (he iZ s1 σ H1 _ I1 q1) λ iv s2 ⟨y,H2,I2,ry,q2⟩ =>
  Calls.spliced_cons (thn (hf iZ s2 σ H2 _ I2 q2) λ fv s3 ⟨z,H3,I3,rz,ov,g,q3⟩=>Calls.spliced_nil ?_))))
 exact V2 hu I3 g ry rz λ w' s4 I4 rw'=>⟨_,H3,I4,rw',q3⟩
end
noncomputable def Ite(K:jw)(a:jd):It :=
 ⟨λ i H=>∃xs x,SqL K H a xs/\xs[i]?=some x,λ i H y H'=>∃t x,(∀xs,SqL K H a xs->xs[i]?=some x)/\y=.ref t/\H t=none/\H'=upd H t (.tup [.int i,x]),λ i H=>∃xs,SqL K H a xs/\xs.length<=i⟩
theorem K0{X:Cx}{iZ:PNz}{σ:St}{H:Hp}{s:jf}{h':jy}{e it:jd}{t':Nat}{ys:LUz}(I:Inv X iZ σ H s)(fe:Fq X iZ H e)(fi:Fq X iZ H it)
  (k:∀b o,b≠e->b≠it->s.heap.get? b=some o->h'.get? b=some o) (he:∃o,h'.get? e=some o) (hi:∃o,h'.get? it=some o)
  (new:ObjOk X.prog X.w (upd H s.heap.objs.size (.tup ys)) h' s.heap.objs.size (.tup ys)) :
  Inv X iZ σ (upd H s.heap.objs.size (.tup ys)) { s with heap:=h',toks:=t' }:=by
 have hn:H s.heap.objs.size=none:=I.hok.fresh (ah _);obtain⟨e0,e1,e2,e3,e4,e5⟩:=fe;obtain⟨i0,i1,i2,i3,i4,i5⟩:=fi;have nt:∀b u,H b=some u->b≠e/\b≠it:=λ b u q=>⟨λ z=>(by rw[z,e0]at q;cases q),λ z=>(by rw[z,i0]at q;cases q)⟩;have nc:∀b,b∉[e,it]->b≠e/\b≠it:=λ b hb=>⟨λ z=>hb (by simp[z]),λ z=>hb (by simp[z])⟩;have ne:∀b u,H b=some u->b≠s.heap.objs.size:=λ b u q=>Ag q hn;refine I.step (g':=s.gens) (d':=s.drawn) (ch:=[e,it]) (λ b hb=>?_) (λ b o _ _ hc q _=>k b o (nc b hc).1 (nc b hc).2 q) (λ b o _ _ hc q _=>⟨o.slots,k b o (nc b hc).1 (nc b hc).2 q⟩)
  (λ b o _ q n=>by rw[Ad (aD (ak q))];exact n) (λ b o hc q=>⟨o,k b o (nc b hc).1 (nc b hc).2 q⟩) (λ b xs q=>by rw[Ad (ne b _ q)];exact q) (λ b o u q=>by rw[Ad (ne b _ q)];exact q)
  (λ b ps q=>⟨#[],by rw[Ad (ne b _ q),q];simp⟩) (λ m hm=>?_) (λ b u q=>?_) I.bare
 .rcases aO.mp hb with rfl|hb
  .exact⟨e3,e1,e4,e5⟩
  .rw[af.mp hb];exact⟨i3,i1,i4,i5⟩
 .obtain⟨o,es,ep,ho,r⟩:=hm;exact⟨o,es,ep,k _ o (Ne.symm e1) (Ne.symm i1) ho,r⟩
 .by_cases hb:b=s.heap.objs.size
  .subst hb;rw[Ae]at q;cases q;exact new
  .rw[Ad hb]at q;refine(I.hok b u q).stay (λ c v hc z=>k c v ?_ ?_ z) (λ c z=>by rw[Ad (ne c _ z)];exact z) λ c xs z=>by rw[Ad (ne c _ z)];exact z
   .rcases hc with rfl|hc
    .exact(nt c u q).1
    .exact(nt c _ hc).1
   .rcases hc with rfl|hc
    .exact(nt c u q).2
    .exact(nt c _ hc).2
theorem P5{P:jk}{w:ju}{K:jw}{es:List jB}{k:Nat}{pos:Pos}(a e it:jd)(hei:e≠it) :
  MV P w K (.Tuple es k pos) (Ite K a) [e,it] e (λ i h=>(∃old,IsEnum h e it i old)/\h.IsListIter it a i) where
 mem:=by simp
 obj:=λ i h st b hb=>by
  obtain⟨⟨old,he⟩,⟨o,eo,c,d⟩⟩:=st;rcases aO.mp hb with rfl|hb
  .exact⟨_,he,λ v z=>by
    have z':Data.fields _=Data.cell v:=z;cases z'⟩
  .rw[af.mp hb];exact⟨o,eo,λ v z=>by rw[d]at z;cases z⟩
 keep:=λ i h h' st kk=>by
  obtain⟨⟨old,he⟩,st⟩:=st;exact⟨⟨old,kk e (by simp) _ he⟩,st.at λ o z=>kk it (by simp) o z⟩
 item:=by
  intro X hP hw hK hc i iZ s σ H E I hf st hg;subst hP hw hK;obtain⟨⟨old,he⟩,st⟩:=st;obtain⟨xs,x,hq,hx⟩:=hg;obtain⟨its,rv,p,hz⟩:=I.list hq;obtain⟨u,hu,ru⟩:=rv.get hx;have fe:=hf e (by simp);have fi:=hf it (by simp);refine wpAny_pyNext_enum_item he st p.isList (x:=u) (by simpa using hu) hei λ h' he' st' ht hz' kk=>?_;refine⟨_,rfl,?_⟩;have ltE:e<s.heap.objs.size:=ak he;have hn:H s.heap.objs.size=none:=I.hok.fresh (ah _);have I1:Inv X iZ σ (upd H s.heap.objs.size (.tup [.int i,x])) { s with heap:=h',toks:=s.toks+1 }:=by
   refine K0 I fe fi kk ⟨_,he'⟩ (let ⟨o,eo,_⟩:=st';⟨o,eo⟩) ⟨?_,[.int i s.toks,u],.cons ⟨_,rfl⟩ (.cons ru .nil),⟨_,ht,rfl,_,rfl⟩⟩;show 2<=jt;decide
  refine wpAny_letOwnedTupleGo_enum (s:={ s with heap:=h',toks:=s.toks+1 }) he' λ h2 he2 sb=>?_;have neE:e≠s.heap.objs.size:=aD ltE;have fe2:(upd H s.heap.objs.size (.tup [.int i,x])) e=none:=by rw[Ad neE];exact fe.1
  have I2:Inv X iZ σ (upd H s.heap.objs.size (.tup [.int i,x])) { ({ s with heap:=h',toks:=s.toks+1 }:jf) with heap:=h2,toks:=s.toks+1 } :=
   I1.turned (t':=s.toks+1) (it:=e) (λ b o hb z=>(sb.2 b hb).trans z) fe2 fe.2.1 fe.2.2.2.1 fe.2.2.2.2.1 fe.2.2.2.2.2
  obtain⟨oi,hoi,_⟩:=id st;have ltI:it<s.heap.objs.size:=ak hoi;refine⟨.ref s.heap.objs.size,_,I2,rfl,⟨_,x,λ ys hy=>by rw[I.list_inj hy hq];exact hx,rfl,hn,rfl⟩,⟨⟨u,?_⟩,?_⟩,λ b hb=>?_⟩
  .have e1:((i+1:Nat):Int)=(i:Int)+1:=by push_cast;rfl
   rw[e1];exact he2
  .exact st'.at λ o z=>(sb.2 it (Ne.symm hei)).trans z
  .rcases aO.mp hb with rfl|hb
   .exact fe2
   .rw[af.mp hb,Ad (aD ltI)];exact fi.1
 done:=by
  intro X hP hw hK hc i iZ s σ H E I hf st hg;subst hP hw hK;obtain⟨⟨old,he⟩,st⟩:=st;obtain⟨xs,hq,hx⟩:=hg;obtain⟨its,rv,p,hz⟩:=I.list hq;obtain⟨f0,f1,f2,f3,f4,f5⟩:=hf it (by simp);have hl:=rv.length;exact wpAny_pyNext_enum_end (I.ok.hd hc) he st p.isList (by simp;lia) λ h' eb=>⟨rfl,I.turned (t':=s.toks) (λ b o hb z=>eb b o hb z) f0 f1 f3 f4 f5⟩
 self:=λ_ _ _ _ _ st h=>by
  obtain⟨⟨old,he⟩,_⟩:=st;exact wpAny_pyIter_enum he h
noncomputable def W6(K:jw)(ta:TA):TI:=λ σ H R=>ta σ H λ vs H1=>∃a,vs=[.ref a]/\(∃xs,SqL K H1 a xs)/\R (Ite K a) H1
section
variable{X:Cx}
theorem Hk{a:jB}{es:List jB}{k:Nat}{tpos:Pos}{ta:TA}{p pos:Pos}(hg:Gl X "enumerate")(hm:X.mg "enumerate"=none)(ha:PA X [a] ta)(hs:jv [a] X.env=[(false,eval a X.env)]:=by rfl) :
  PI X (.Tuple es k tpos) (.Call (.Name "enumerate" p) [a] [] pos) (W6 X.K ta):=by
 intro iZ s σ H R I h;refine Call_ (BS I hg hm boot_enumerate (PyProof.Rows.callWith_type1 (thn (ha pos iZ s σ H _ I h) λ us s1 hz_=>?_) hs rfl));obtain⟨vs,H1,I1,r1,q1⟩:=hz_;obtain⟨b,e,⟨xs,hq⟩,q⟩:=q1;subst e;cases r1 with
 |cons r rr =>
  cases rr;cases r;obtain⟨its,rv,pl,hz⟩:=I1.list hq;refine call_enumerate_list pl.isList λ h' he hit hsz hk=>?_;have I2:Inv X iZ σ H1 { s1 with heap:=h' }:=I1.kept (t':=s1.toks) hk;refine wpAny_pyIter_enum (s:={ s1 with heap:=h' }) he ?_;refine⟨s1.heap.objs.size+1,[s1.heap.objs.size+1,s1.heap.objs.size],_,_,H1,rfl,I2,P5 b _ _ (Nat.succ_ne_self _),⟨⟨_,he⟩,hit⟩,λ c hc=>?_,q⟩;rcases aO.mp hc with rfl|hc
  .exact I1.fpOk (bJ _) (I1.hok.fresh (bJ _))
  .rw[af.mp hc];exact I1.fpOk (ah _) (I1.hok.fresh (ah _))
end
theorem FF{K:jw}{a:jd}{xs:LUz}{g:TG}{tb:TS}{D:DA}{σ:St}{H:Hp}(Pv:Nat->St->Hp->Prop)(h0:Pv 0 σ H)(hl:∀i σ H,i<=xs.length->Pv i σ H->SqL K H a xs)
  (hs:∀i x σ H t,xs[i]?=some x->Pv i σ H->H t=none->g (.ref t) σ (upd H t (.tup [.int i,x])) λ σ2 H2=>tb { D with nx:=Pv (i+1),ct:=Pv (i+1),bk:=D.nx } σ2 H2) (hd:∀σ H,Pv xs.length σ H->D.nx σ H) :
  ∃W:Nat->Nat->St->Hp->Prop,(∃m,W 0 m σ H)/\∀i m σ H,W i m σ H ->
   ((Ite K a).stop i H/\D.nx σ H)\/((Ite K a).go i H/\∃N:St->Hp->Prop,(∀σ' H',N σ' H'->∃m',m'<m/\W (i+1) m' σ' H')/\∀x H',(Ite K a).yld i H x H'->g x σ H' λ σ2 H2=>tb { D with nx:=N,ct:=N,bk:=D.nx } σ2 H2):=by
 refine⟨λ i m σ H=>m=xs.length-i/\i<=xs.length/\Pv i σ H,⟨xs.length,by simp,aP _,h0⟩,?_⟩;rintro i m σ H ⟨rfl,hi,p⟩;have q:=hl i σ H hi p;by_cases hlt:i<xs.length
 .refine .inr ⟨⟨xs,xs[i],q,by simp[hlt]⟩,Pv (i+1),λ σ' H' p'=>⟨xs.length-(i+1),by lia,rfl,hlt,p'⟩,λ x H' y=>?_⟩;obtain⟨t,z,hz,rfl,ht,rfl⟩:=y;exact hs i z σ H t (hz xs q) p ht
 .have e:i=xs.length:=by lia
  subst e;exact .inl ⟨⟨xs,q,ah _⟩,hd σ H p⟩
open PySem.SeqAt
mutual
inductive D where
 |at (v:V)
 |tup (xs:Ds)
 |lst (xs:Ds)
inductive Ds where
 |nil
 |cons (d:D) (r:Ds)
end
mutual
noncomputable def DIs(K:jw)(H:Hp):D->V->Prop
 |.at u,v=>v=u/\BN u=true
 |.tup ds,v=>∃a xs,v=.ref a/\SqT K H a xs/\DIss K H ds xs
 |.lst ds,v=>∃a xs,v=.ref a/\SqL K H a xs/\DIss K H ds xs
noncomputable def DIss(K:jw)(H:Hp):Ds->LUz->Prop
 |.nil,xs=>xs=[]
 |.cons d r,xs=>∃x ys,xs=x::ys/\DIs K H d x/\DIss K H r ys
end
mutual
noncomputable def dep:D->Nat
 |.at _=>0
 |.tup ds=>D9 ds+1
 |.lst ds=>D9 ds+1
noncomputable def D9:Ds->Nat
 |.nil=>0
 |.cons d r=>max (dep d) (D9 r)
end
mutual
noncomputable def deq:D->D->Bool
 |.at u,.at v=>eqV u v
 |.tup xs,.tup ys=>Fk xs ys
 |.lst xs,.lst ys=>Fk xs ys
 |_,_=>false
noncomputable def Fk:Ds->Ds->Bool
 |.nil,.nil=>true
 |.cons d r,.cons e q=>deq d e&&Fk r q
 |_,_=>false
end
noncomputable def Ds.len:Ds->Nat
 |.nil=>0
 |.cons _ r=>r.len+1
noncomputable def Ds.get:Ds->Nat->D
 |.nil,_=>.at .non
 |.cons d _,0=>d
 |.cons _ r,i+1=>r.get i
theorem BI:∀(ds es:Ds),((List.range (min ds.len es.len)).all (λ j=>deq (ds.get j) (es.get j))&&ds.len==es.len)=Fk ds es
 |.nil,.nil=>rfl
 |.nil,.cons e q=>by simp[Ds.len,Fk]
 |.cons d r,.nil=>by simp[Ds.len,Fk]
 |.cons d r,.cons e q=>by
  have ih:=BI r q;rw[show Fk (.cons d r) (.cons e q)=(deq d e&&Fk r q) from by rw[Fk],<-ih];show((List.range (min (r.len+1) (q.len+1))).all _&&(r.len+1==q.len+1))=_;rw[show min (r.len+1) (q.len+1)=min r.len q.len+1 by lia,List.range_succ_eq_map,dY,List.all_map,Bool.and_assoc];congr 1;rw[show(r.len+1==q.len+1)=(r.len==q.len) by simp];rfl
mutual
theorem Dg:∀{K:jw}{H:Hp}(d:D){v:V},DIs K H d v->deq d d=true
 |_,_,.at u,v,h=>by
  obtain⟨_,hf⟩:=(show v=u/\BN u=true by simpa [DIs] using h);rw[deq];cases u<;>simp_all [BN,eqV]
 |_,_,.tup ds,v,h=>by
  rw[DIs]at h;obtain⟨a,xs,_,_,q⟩:=h;rw[deq];exact G1 ds q
 |_,_,.lst ds,v,h=>by
  rw[DIs]at h;obtain⟨a,xs,_,_,q⟩:=h;rw[deq];exact G1 ds q
theorem G1:∀{K:jw}{H:Hp}(ds:Ds){xs:LUz},DIss K H ds xs->Fk ds ds=true
 |_,_,.nil,_,_=>by rw[Fk]
 |_,_,.cons d r,xs,h=>by
  rw[DIss]at h;obtain⟨x,ys,_,h1,h2⟩:=h;rw[Fk,Dg d h1,G1 r h2];rfl
end
theorem DIss.len{K:jw}{H:Hp}:∀{ds:Ds}{xs:LUz},DIss K H ds xs->ds.len=xs.length
 |.nil,xs,h=>by rw[DIss]at h;rw[h];rfl
 |.cons d r,xs,h=>by
  rw[DIss]at h;obtain⟨x,ys,rfl,_,h2⟩:=h;show r.len+1=ys.length+1;rw[DIss.len h2]
theorem DIss.get{K:jw}{H:Hp}:∀{ds:Ds}{xs:LUz}{i:Nat}{x:V},DIss K H ds xs->xs[i]?=some x->DIs K H (ds.get i) x
 |.nil,xs,i,x,h,e=>by rw[DIss]at h;rw[h]at e;simp at e
 |.cons d r,xs,i,x,h,e=>by
  rw[DIss]at h;obtain⟨y,ys,rfl,h1,h2⟩:=h;cases i with
  |zero=>simp at e;subst e;exact h1
  |succ i =>
   show DIs K H (r.get i) x;exact DIss.get h2 (by simpa using e)
theorem Hy:∀(ds:Ds)(i:Nat),i<ds.len->dep (ds.get i)<=D9 ds
 |.nil,i,h=>absurd h (by simp[Ds.len])
 |.cons d r,0,_=>by show dep d<=_;rw[D9];lia
 |.cons d r,i+1,h=>by
  have:=Hy r i (by simpa [Ds.len] using h);show dep (r.get i)<=_;rw[D9];lia
section
variable{X:Cx}{iZ:PNz}{σ:St}{H:Hp}{s:jf}
mutual
theorem DIs.inj(I:Inv X iZ σ H s):∀{d e:D}{v:V},DIs X.K H d v->DIs X.K H e v->d=e
 |.at u,.at w',v,h,h'=>by
  rw[DIs]at h;rw[DIs]at h';rw[<-h.1,<-h'.1]
 |.at u,.tup ds,v,h,h'=>by
  rw[DIs]at h;rw[DIs]at h';obtain⟨a,xs,e,_⟩:=h';have:=h.2;rw[<-h.1,e]at this;cases this
 |.at u,.lst ds,v,h,h'=>by
  rw[DIs]at h;rw[DIs]at h';obtain⟨a,xs,e,_⟩:=h';have:=h.2;rw[<-h.1,e]at this;cases this
 |.tup ds,.at u,v,h',h=>by
  rw[DIs]at h;rw[DIs]at h';obtain⟨a,xs,e,_⟩:=h';have:=h.2;rw[<-h.1,e]at this;cases this
 |.lst ds,.at u,v,h',h=>by
  rw[DIs]at h;rw[DIs]at h';obtain⟨a,xs,e,_⟩:=h';have:=h.2;rw[<-h.1,e]at this;cases this
 |.tup ds,.tup es,v,h,h'=>by
  rw[DIs]at h;rw[DIs]at h';obtain⟨a,xs,rfl,h1,h2⟩:=h;obtain⟨b,ys,e,k1,k2⟩:=h';cases e;have e:=I.tuple_inj h1 k1;subst e;rw[DIss.inj I h2 k2]
 |.lst ds,.lst es,v,h,h'=>by
  rw[DIs]at h;rw[DIs]at h';obtain⟨a,xs,rfl,h1,h2⟩:=h;obtain⟨b,ys,e,k1,k2⟩:=h';cases e;have e:=I.list_inj h1 k1;subst e;rw[DIss.inj I h2 k2]
 |.tup ds,.lst es,v,h,h'=>by
  rw[DIs]at h;rw[DIs]at h';obtain⟨a,xs,rfl,h1,h2⟩:=h;obtain⟨b,ys,e,k1,k2⟩:=h';cases e;obtain⟨_,_,t1,_⟩:=I.tuple h1;obtain⟨_,_,t2,_⟩:=I.list k1;exact absurd rfl (ne_of_list_tuple t2.isList (show s.heap.IsTuple a _ from t1))
 |.lst ds,.tup es,v,h,h'=>by
  rw[DIs]at h;rw[DIs]at h';obtain⟨a,xs,rfl,h1,h2⟩:=h;obtain⟨b,ys,e,k1,k2⟩:=h';cases e;obtain⟨_,_,t1,_⟩:=I.tuple k1;obtain⟨_,_,t2,_⟩:=I.list h1;exact absurd rfl (ne_of_list_tuple t2.isList (show s.heap.IsTuple a _ from t1))
theorem DIss.inj(I:Inv X iZ σ H s):∀{ds es:Ds}{xs:LUz},DIss X.K H ds xs->DIss X.K H es xs->ds=es
 |.nil,.nil,xs,h,h'=>rfl
 |.nil,.cons d r,xs,h,h'=>by
  rw[DIss]at h;rw[DIss]at h';obtain⟨x,ys,e,_⟩:=h';rw[h]at e;cases e
 |.cons d r,.nil,xs,h',h=>by
  rw[DIss]at h;rw[DIss]at h';obtain⟨x,ys,e,_⟩:=h';rw[h]at e;cases e
 |.cons d r,.cons e q,xs,h,h'=>by
  rw[DIss]at h;rw[DIss]at h';obtain⟨x,ys,rfl,h1,h2⟩:=h;obtain⟨y,zs,e',k1,k2⟩:=h';cases e';rw[DIs.inj I h1 k1,DIss.inj I h2 k2]
end
theorem IW{A:jx}{u:V}{x:jg}{l:jd}{items:Array jg}(r:RelV u x)(f:BN u=true)(hl:s.heap.IsTuple l items)(hu:A.units<j5):EqAt A s x (.ref l) false/\EqAt A s (.ref l) x false:=by
 cases u with
 |non=>cases r;exact⟨.none_tuple hl hu,.tuple_none hl hu⟩
 |bl b=>cases r;exact⟨.bool_tuple b hl hu,.tuple_bool b hl hu⟩
 |int b=>obtain⟨t,rfl⟩:=r;exact⟨.int_tuple b t hl hu,.tuple_int b t hl hu⟩
 |str b=>obtain⟨t,rfl⟩:=r;exact⟨.str_tuple b t hl hu,.tuple_str b t hl hu⟩
 |_=>exact absurd (show false=true from f) aq
theorem IX{A:jx}{u:V}{x:jg}{l:jd}{items:Array jg}(r:RelV u x)(f:BN u=true)(hl:s.heap.IsList l items)(hu:A.units<j5):EqAt A s x (.ref l) false/\EqAt A s (.ref l) x false:=by
 cases u with
 |non=>cases r;exact⟨.none_list hl hu,.list_none hl hu⟩
 |bl b=>cases r;exact⟨.bool_list b hl hu,.list_bool b hl hu⟩
 |int b=>obtain⟨t,rfl⟩:=r;exact⟨.int_list b t hl hu,.list_int b t hl hu⟩
 |str b=>obtain⟨t,rfl⟩:=r;exact⟨.str_list b t hl hu,.list_str b t hl hu⟩
 |_=>exact absurd (show false=true from f) aq
theorem Vz(I:Inv X iZ σ H s):∀(n:Nat)(A:jx)(d e:D)(x y:V)(u v:jg),dep d<=n->DIs X.K H d x->DIs X.K H e y->RelV x u->RelV y v->A.units+n<j5->EqAt A s u v (deq d e):=by
 intro n
 induction n with
 |zero =>
  intro A d e x y u v hn hd he rx ry hu;cases d with
  |tup ds=>rw[dep]at hn;lia
  |lst ds=>rw[dep]at hn;lia
  | «at» p =>
   rw[DIs]at hd;obtain⟨rfl,hf⟩:=hd;cases e with
   | «at» q =>
    rw[DIs]at he;obtain⟨rfl,hg⟩:=he;rw[deq];exact NX rx ry hf hg
   |tup es =>
    rw[DIs]at he;obtain⟨b,ys,rfl,h1,_⟩:=he;obtain⟨_,_,t,_⟩:=I.tuple h1;cases ry;rw[deq]
    .exact(IW rx hf (show s.heap.IsTuple b _ from t) hu).1
    all_goals (intros;simp_all)
   |lst es =>
    rw[DIs]at he;obtain⟨b,ys,rfl,h1,_⟩:=he;obtain⟨_,_,t,_⟩:=I.list h1;cases ry;rw[deq]
    .exact(IX rx hf t.isList hu).1
    all_goals (intros;simp_all)
 |succ n ih =>
  intro A d e x y u v hn hd he rx ry hu;have hu1:A.in1.units+n<j5:=by show A.units+1+n<j5;lia
  cases d with
  | «at» p =>
   rw[DIs]at hd;obtain⟨rfl,hf⟩:=hd;cases e with
   | «at» q =>
    rw[DIs]at he;obtain⟨rfl,hg⟩:=he;rw[deq];exact NX rx ry hf hg
   |tup es =>
    rw[DIs]at he;obtain⟨b,ys,rfl,h1,_⟩:=he;obtain⟨_,_,t,_⟩:=I.tuple h1;cases ry;rw[deq]
    .exact(IW rx hf (show s.heap.IsTuple b _ from t) (by lia)).1
    all_goals (intros;simp_all)
   |lst es =>
    rw[DIs]at he;obtain⟨b,ys,rfl,h1,_⟩:=he;obtain⟨_,_,t,_⟩:=I.list h1;cases ry;rw[deq]
    .exact(IX rx hf t.isList (by lia)).1
    all_goals (intros;simp_all)
  |tup ds =>
   have hd0:=hd;rw[dep]at hn;rw[DIs]at hd;obtain⟨a,xs,rfl,h1,h2⟩:=hd;obtain⟨i1,r1,t1,_⟩:=I.tuple h1;cases rx;cases e with
   | «at» q =>
    rw[DIs]at he;obtain⟨rfl,hg⟩:=he;rw[deq]
    .exact(IW ry hg (show s.heap.IsTuple a _ from t1) (by lia)).2
    all_goals (intros;simp_all)
   |lst es =>
    rw[DIs]at he;obtain⟨b,ys,rfl,k1,_⟩:=he;obtain⟨_,_,t2,_⟩:=I.list k1;cases ry;rw[deq]
    .exact EqAt.tuple_list (show s.heap.IsTuple a _ from t1) t2.isList (by lia)
    all_goals (intros;simp_all)
   |tup es =>
    have he0:=he;rw[DIs]at he;obtain⟨b,ys,rfl,k1,k2⟩:=he;obtain⟨i2,r2,t2,_⟩:=I.tuple k1;cases ry;by_cases hab:a=b
    .subst hab;rw[DIs.inj I he0 hd0,Dg _ hd0];exact EqAt.same _
    .refine EqAt.of_refs hab ?_;have:=RcAt.tuples (A:=A) (e:=λ j=>deq (ds.get j) (es.get j)) (show s.heap.IsTuple a i1.toArray from t1) (show s.heap.IsTuple b i2.toArray from t2) (by lia) λ j g1 g2=>?_
     .have l1:=r1.length;have l2:=r2.length;have m1:=h2.len;have m2:=k2.len;rw[aj,aj,<-l1,<-l2,<-m1,<-m2,BI]at this;rw[deq];exact this
     .have l1:=r1.length;have l2:=r2.length;have m1:=h2.len;have g1':j<xs.length:=by simp at g1;lia
      have g2':j<ys.length:=by simp at g2;lia
      obtain⟨u1,e1,q1⟩:=r1.get (ag g1');obtain⟨u2,e2,q2⟩:=r2.get (ag g2');have d1:i1.toArray[j]=u1:=by
       have:i1[j]?=some i1.toArray[j]:=by simp
       rw[e1]at this;exact(Option.some.inj this).symm
      have d2:i2.toArray[j]=u2:=by
       have:i2[j]?=some i2.toArray[j]:=by simp
       rw[e2]at this;exact(Option.some.inj this).symm
      rw[d1,d2];exact ih _ _ _ _ _ _ _ (aV (Hy ds j (by lia)) (by lia)) (h2.get (ag g1')) (k2.get (ag g2')) q1 q2 hu1
  |lst ds =>
   have hd0:=hd;rw[dep]at hn;rw[DIs]at hd;obtain⟨a,xs,rfl,h1,h2⟩:=hd;obtain⟨i1,r1,t1,_⟩:=I.list h1;cases rx;cases e with
   | «at» q =>
    rw[DIs]at he;obtain⟨rfl,hg⟩:=he;rw[deq]
    .exact(IX ry hg t1.isList (by lia)).2
    all_goals (intros;simp_all)
   |tup es =>
    rw[DIs]at he;obtain⟨b,ys,rfl,k1,_⟩:=he;obtain⟨_,_,t2,_⟩:=I.tuple k1;cases ry;rw[deq]
    .exact EqAt.list_tuple t1.isList (show s.heap.IsTuple b _ from t2) (by lia)
    all_goals (intros;simp_all)
   |lst es =>
    have he0:=he;rw[DIs]at he;obtain⟨b,ys,rfl,k1,k2⟩:=he;obtain⟨i2,r2,t2,_⟩:=I.list k1;cases ry;by_cases hab:a=b
    .subst hab;rw[DIs.inj I he0 hd0,Dg _ hd0];exact EqAt.same _
    .refine EqAt.of_refs hab ?_;have l1:=r1.length;have l2:=r2.length;have m1:=h2.len;have m2:=k2.len;rw[deq];rw[<-BI];by_cases hz:ds.len=es.len
     .have:=RcAt.lists (A:=A) (e:=λ j=>deq (ds.get j) (es.get j)) t1.isList t2.isList (by simp;lia) (by lia) λ j g1 g2=>?_
      .rw[aj,<-l1,<-m1]at this;rw[hz,eK,beq_self_eq_true,dZ,<-hz];exact this
      .have g1':j<xs.length:=by simp at g1;lia
       have g2':j<ys.length:=by simp at g2;lia
       obtain⟨u1,e1,q1⟩:=r1.get (ag g1');obtain⟨u2,e2,q2⟩:=r2.get (ag g2');have d1:i1.toArray[j]=u1:=by
        have:i1[j]?=some i1.toArray[j]:=by simp
        rw[e1]at this;exact(Option.some.inj this).symm
       have d2:i2.toArray[j]=u2:=by
        have:i2[j]?=some i2.toArray[j]:=by simp
        rw[e2]at this;exact(Option.some.inj this).symm
       rw[d1,d2];exact ih _ _ _ _ _ _ _ (aV (Hy ds j (by lia)) (by lia)) (h2.get (ag g1')) (k2.get (ag g2')) q1 q2 hu1
     .have e0:(ds.len==es.len)=false:=by simpa using hz
      rw[e0,bX];exact RcAt.lists_lengths t1.isList t2.isList (by simp;lia) (by lia)
end
section
variable{X:Cx}
theorem Hv{iZ:PNz}{σ:St}{H:Hp}{s:jf}(I:Inv X iZ σ H s){A:jx}{ds es:Ds}{xs ys:LUz}{i1 i2:LWz}(h2:DIss X.K H ds xs)(k2:DIss X.K H es ys)(r1:Vals xs i1)(r2:Vals ys i2)
  (hu:A.units+60<j5) (hd:D9 ds<=50):∀j (g1:j<i1.toArray.size) (g2:j<i2.toArray.size),EqAt A.in1 s i1.toArray[j] i2.toArray[j] (deq (ds.get j) (es.get j)):=λ j g1 g2=>by
 have l1:=r1.length;have l2:=r2.length;have m1:=h2.len;have g1':j<xs.length:=by simp at g1;lia
 have g2':j<ys.length:=by simp at g2;lia
 obtain⟨u1,e1,q1⟩:=r1.get (ag g1');obtain⟨u2,e2,q2⟩:=r2.get (ag g2');have d1:i1.toArray[j]=u1:=by
  have:i1[j]?=some i1.toArray[j]:=by simp
  rw[e1]at this;exact(Option.some.inj this).symm
 have d2:i2.toArray[j]=u2:=by
  have:i2[j]?=some i2.toArray[j]:=by simp
  rw[e2]at this;exact(Option.some.inj this).symm
 rw[d1,d2];exact Vz I 50 _ _ _ _ _ _ _ (aV (Hy ds j (by lia)) hd) (h2.get (ag g1')) (k2.get (ag g2')) q1 q2 (by show A.units+1+50<j5;lia)
noncomputable def Wn(K:jw)(neg:Bool):R2:=λ x y H Q=>∃d e,DIs K H d x/\DIs K H e y/\(∃a,x=.ref a)/\(∃b,y=.ref b)/\dep d<=50/\Q (.bl (if neg then !deq d e else deq d e)) H
theorem NB{k:Nat}(hr:Room k X.A):OpR X (jO .Eq) (Wn X.K false):=by
 intro iZ s σ H x y v u Q I rx ry h;obtain⟨d,e,hd,he,⟨a,rfl⟩,⟨b,rfl⟩,hn,q⟩:=h;cases rx;cases ry;have hu:=hr.units;cases d with
 | «at» p=>rw[DIs]at hd;obtain⟨rfl,hf⟩:=hd;cases hf
 |tup ds =>
  rw[dep]at hn;rw[DIs]at hd;obtain⟨a',xs,e',h1,h2⟩:=hd;cases e';obtain⟨i1,r1,t1,_⟩:=I.tuple h1;cases e with
  | «at» p=>rw[DIs]at he;obtain⟨rfl,hf⟩:=he;cases hf
  |tup es =>
   rw[DIs]at he;obtain⟨b',ys,e',k1,k2⟩:=he;cases e';obtain⟨i2,r2,t2,_⟩:=I.tuple k1;refine RcAt.tuples (show s.heap.IsTuple a i1.toArray from t1) (show s.heap.IsTuple b i2.toArray from t2) (by lia) (Hv I h2 k2 r1 r2 (by lia) (by lia)) _ _ _ _ ⟨.bl _,H,I,?_,q⟩;show Value.bool _=Value.bool _;rw[aj,aj,<-r1.length,<-r2.length,<-h2.len,<-k2.len,BI];simp only[au,if_false];rw[deq]
  |lst es =>
   rw[DIs]at he;obtain⟨b',ys,e',k1,k2⟩:=he;cases e';obtain⟨i2,r2,t2,_⟩:=I.list k1;refine RcAt.tuple_list (show s.heap.IsTuple a _ from t1) t2.isList (by lia) _ _ _ _ ⟨.bl _,H,I,?_,q⟩;show Value.bool _=Value.bool _;simp only[au,if_false];rw[deq]<;>(intros;simp_all)
 |lst ds =>
  rw[dep]at hn;rw[DIs]at hd;obtain⟨a',xs,e',h1,h2⟩:=hd;cases e';obtain⟨i1,r1,t1,_⟩:=I.list h1;cases e with
  | «at» p=>rw[DIs]at he;obtain⟨rfl,hf⟩:=he;cases hf
  |tup es =>
   rw[DIs]at he;obtain⟨b',ys,e',k1,k2⟩:=he;cases e';obtain⟨i2,r2,t2,_⟩:=I.tuple k1;refine RcAt.list_tuple t1.isList (show s.heap.IsTuple b _ from t2) (by lia) _ _ _ _ ⟨.bl _,H,I,?_,q⟩;show Value.bool _=Value.bool _;simp only[au,if_false];rw[deq]<;>(intros;simp_all)
  |lst es =>
   rw[DIs]at he;obtain⟨b',ys,e',k1,k2⟩:=he;cases e';obtain⟨i2,r2,t2,_⟩:=I.list k1;have l1:=r1.length;have l2:=r2.length;have m1:=h2.len;have m2:=k2.len;by_cases hz:ds.len=es.len
   .refine RcAt.lists t1.isList t2.isList (by simp;lia) (by lia) (Hv I h2 k2 r1 r2 (by lia) (by lia)) _ _ _ _ ⟨.bl _,H,I,?_,q⟩;show Value.bool _=Value.bool _;simp only[au,if_false];rw[deq,<-BI,aj,<-l1,<-m1,hz,eK,beq_self_eq_true,dZ]
   .refine RcAt.lists_lengths t1.isList t2.isList (by simp;lia) (by lia) _ _ _ _ ⟨.bl _,H,I,?_,q⟩;show Value.bool _=Value.bool _;have e0:(ds.len==es.len)=false:=by simpa using hz
    simp only[au,if_false];rw[deq,<-BI,e0,bX]
theorem R6{k:Nat}(hr:Room k X.A):OpR X (jO .NotEq) (Wn X.K true):=by
 intro iZ s σ H x y v u Q I rx ry h;obtain⟨d,e,hd,he,⟨a,rfl⟩,⟨b,rfl⟩,hn,q⟩:=h;cases rx;cases ry;have hu:=hr.units;cases d with
 | «at» p=>rw[DIs]at hd;obtain⟨rfl,hf⟩:=hd;cases hf
 |tup ds =>
  rw[dep]at hn;rw[DIs]at hd;obtain⟨a',xs,e',h1,h2⟩:=hd;cases e';obtain⟨i1,r1,t1,_⟩:=I.tuple h1;cases e with
  | «at» p=>rw[DIs]at he;obtain⟨rfl,hf⟩:=he;cases hf
  |tup es =>
   rw[DIs]at he;obtain⟨b',ys,e',k1,k2⟩:=he;cases e';obtain⟨i2,r2,t2,_⟩:=I.tuple k1;refine RcNeAt.tuples (show s.heap.IsTuple a i1.toArray from t1) (show s.heap.IsTuple b i2.toArray from t2) (by lia) (Hv I h2 k2 r1 r2 (by lia) (by lia)) _ _ _ _ ⟨.bl _,H,I,?_,q⟩;show Value.bool _=Value.bool _;rw[aj,aj,<-r1.length,<-r2.length,<-h2.len,<-k2.len,BI];simp only[if_true];rw[deq]
  |lst es =>
   rw[DIs]at he;obtain⟨b',ys,e',k1,k2⟩:=he;cases e';obtain⟨i2,r2,t2,_⟩:=I.list k1;refine RcNeAt.tuple_list (show s.heap.IsTuple a _ from t1) t2.isList (by lia) _ _ _ _ ⟨.bl _,H,I,?_,q⟩;show Value.bool _=Value.bool _;simp only[if_true];rw[deq]<;>first|rfl|(intros;simp_all)
 |lst ds =>
  rw[dep]at hn;rw[DIs]at hd;obtain⟨a',xs,e',h1,h2⟩:=hd;cases e';obtain⟨i1,r1,t1,_⟩:=I.list h1;cases e with
  | «at» p=>rw[DIs]at he;obtain⟨rfl,hf⟩:=he;cases hf
  |tup es =>
   rw[DIs]at he;obtain⟨b',ys,e',k1,k2⟩:=he;cases e';obtain⟨i2,r2,t2,_⟩:=I.tuple k1;refine RcNeAt.list_tuple t1.isList (show s.heap.IsTuple b _ from t2) (by lia) _ _ _ _ ⟨.bl _,H,I,?_,q⟩;show Value.bool _=Value.bool _;simp only[if_true];rw[deq]<;>first|rfl|(intros;simp_all)
  |lst es =>
   rw[DIs]at he;obtain⟨b',ys,e',k1,k2⟩:=he;cases e';obtain⟨i2,r2,t2,_⟩:=I.list k1;have l1:=r1.length;have l2:=r2.length;have m1:=h2.len;have m2:=k2.len;by_cases hz:ds.len=es.len
   .refine RcNeAt.lists t1.isList t2.isList (by simp;lia) (by lia) (Hv I h2 k2 r1 r2 (by lia) (by lia)) _ _ _ _ ⟨.bl _,H,I,?_,q⟩;show Value.bool _=Value.bool _;simp only[if_true];rw[deq,<-BI,aj,<-l1,<-m1,hz,eK,beq_self_eq_true,dZ]
   .refine RcNeAt.lists_lengths t1.isList t2.isList (by simp;lia) (by lia) _ _ _ _ ⟨.bl _,H,I,?_,q⟩;show Value.bool _=Value.bool _;have e0:(ds.len==es.len)=false:=by simpa using hz
    simp only[if_true];rw[deq,<-BI,e0,bX];rfl
end
structure Od(P:jk)(w:ju)(K:jw)(mg:MGz)(ja:jy)(k:Nat)(x:jD)(C:jd)(ps:LSz)(sp:Sp):Prop where
 ex:∃(f:jd)(fd:jr),Mk K C f/\A3 P w K mg ja CX0 k f fd ps sp/\mg x=some (.ref C)/\Binds K fd ps []
structure SM(P:jk)(w:ju)(K:jw)(mg:MGz)(ja:jy)(k:Nat)(C:jd)(m:jD)(ps:LSz)(sp:Sp):Prop where
 cl:Cls K C
 ex:∃(f:jd)(fd:jr),VG K C m f/\A3 P w K mg ja CX0 k f fd ps sp/\Binds K fd ps []
section
variable{X:Cx}{k j:Nat}{x m:jD}{C:jd}{ps:LSz}{sp:Sp}{p pos apos:Pos}{e o:jB}{es:List jB}{t:TA}{ta:TE}
theorem OA(D:Od X.prog X.w X.K X.mg X.ja k x C ps sp)(hr:Room j X.A)(ha:PA X (e::es) t)(hj:k+1<=j:=by decide)(hg:Gl X x:=by rfl)(hdb:(x==("__debug__":jD))=false:=by decide)
  (he:jv (e::es) X.env=(false,eval e X.env)::jv es X.env:=by rfl) (hpl:(jX pos (jv es X.env)).any (·.1)=false:=by rfl):PE X (.Call (.Name x p) (e::es) [] pos) (Uv C sp [] E0 t):=by
 obtain⟨f,fd,M,F,hm,hb⟩:=D.ex;exact Tx M F (hr.mono hj) hg hm hb .nil Ke ha hdb he hpl
theorem Io{pl:Sem Bool}(D:SM X.prog X.w X.K X.mg X.ja k C m ps sp)(hr:Room j X.A)(he:PE X o ta)(hj:k<=j:=by decide)
    (ht:eval (.Call (.Attribute o m apos) [] [] pos) X.env=(do
      let ov <-eval o X.env
      standAt apos.atName
      let (f,first) <-holding [ov] (getMethod ov m pl)
      callWith pos f first (jX pos (jv [] X.env)) (backToKw pos (keywordEach [] X.env))):=by rfl):PE X (.Call (.Attribute o m apos) [] [] pos) (Uu C m sp [] E0 ta Nr):=by
  obtain⟨f,fd,M,F,hb⟩:=D.ex;exact Rw he D.cl M F (hr.mono hj) hb .nil Ke ht
end
section
variable{X:Cx}{K:jw}{pos:Pos}
theorem Hl{es:List jB}{k:Nat}{t:TGs}{n:Nat}(hc:X.calm=true)(h:PGs X es t)(hK:X.K=K:=by rfl)
  (hn:(assignEach es X.env).length=n:=by rfl) (hst:(assignEach es X.env).findIdx? (·.1)=none:=by rfl):PG X (.Tuple es k pos) (W8 K n t):=by
 subst hK;exact CO hc h hn hst
noncomputable def Ro(K:jw):LUz->Hp->VK->Prop:=λ xs H Q=>∃p ys,xs=[V.ref p]/\((SqL K H p ys/\∀l,H l=none->Q (.ref l) (upd H l (.tup ys)))\/(SqT K H p ys/\Q (.ref p) H))
theorem LH(hK:X.K=K:=by rfl):BK X (.type "tuple") (Ro K):=by subst hK;exact E9
end
end L2
namespace GB
open PySem.W
open PySem L2
structure Rc where
 t:Int
 l:Int
 b:Int
 r:Int
 deriving DecidableEq
noncomputable def Rc.ls(p:Rc):List Int:=[p.t,p.l,p.b,p.r]
noncomputable def Rc.has(p:Rc)(r c:Int):Prop:=p.t<=r/\r<p.b/\p.l<=c/\c<p.r
noncomputable def Rc.In(w h:Int)(p:Rc):Prop:=0<=p.t/\p.t<p.b/\p.b<=h/\0<=p.l/\p.l<p.r/\p.r<=w
noncomputable def Apart(p q:Rc):Prop:=∀r c,p.has r c->q.has r c->False
theorem Apart.symm{p q:Rc}(h:Apart p q):Apart q p:=λ r c a b=>h r c b a
structure Tiles(w h:Int)(ps:List Rc):Prop where
 ins:∀p∈ps,p.In w h
 dis:ps.Pairwise Apart
 cov:∀r c,0<=r->r<h->0<=c->c<w->∃p∈ps,p.has r c
theorem Tiles.perm{w h:Int}{ps qs:List Rc}(T:Tiles w h ps)(e:qs.Perm ps):Tiles w h qs :=
 ⟨λ p hp=>T.ins p (e.mem_iff.mp hp),(e.pairwise_iff (λ{a b} x=>Apart.symm x)).mpr T.dis,λ r c a b x y=>let ⟨p,hp,z⟩:=T.cov r c a b x y;⟨p,e.mem_iff.mpr hp,z⟩⟩
noncomputable def key:List Int->Int
 |[a,b,c,d]=>((a*13+b)*13+c)*13+d
 |_=>0
theorem Ly(p:Rc):key p.ls=((p.t*13+p.l)*13+p.b)*13+p.r:=rfl
theorem Vn{p q:Rc}{w h w' h':Int}(hp:p.In w h)(hq:q.In w' h')(b1:w<=12)(b2:h<=12)(b3:w'<=12)(b4:h'<=12):HT.lexLt p.ls q.ls=decide (key p.ls<key q.ls):=by
 obtain⟨a1,a2,a3,a4,a5,a6⟩:=hp;obtain⟨c1,c2,c3,c4,c5,c6⟩:=hq;rw[Ly,Ly];show(if p.t=q.t then (if p.l=q.l then (if p.b=q.b then (if p.r=q.r then false else decide (p.r<q.r)) else decide (p.b<q.b)) else decide (p.l<q.l)) else decide (p.t<q.t))=_
 repeat' split
 all_goals (first|(apply Eq.symm;rw[decide_eq_false_iff_not];lia)|(rw[decide_eq_decide];lia))
theorem TD{p q:Rc}{w h w' h':Int}(hp:p.In w h)(hq:q.In w' h')(b1:w<=12)(b2:h<=12)(b3:w'<=12)(b4:h'<=12)(e:key p.ls=key q.ls):p=q:=by
 obtain⟨a1,a2,a3,a4,a5,a6⟩:=hp;obtain⟨c1,c2,c3,c4,c5,c6⟩:=hq;rw[Ly,Ly]at e;obtain⟨pt,pl,pb,pr⟩:=p;obtain⟨qt,ql,qb,qr⟩:=q;simp only at *;have e1:pt=qt:=by lia
 subst e1;have e2:pl=ql:=by lia
 subst e2;have e3:pb=qb:=by lia
 subst e3;have e4:pr=qr:=by lia
 subst e4;rfl
noncomputable def Srt(ps:List Rc):Prop:=(ps.map λ p=>key p.ls).Pairwise (·<=·)
theorem sorted_same{ps qs:List Rc}{w h:Int}(hp:∀p∈ps,p.In w h)(b1:w<=12)(b2:h<=12)(e:ps.Perm qs)(s1:Srt ps)(s2:Srt qs):ps=qs:=by
 have hq:∀p∈qs,p.In w h:=λ p x=>hp p (e.mem_iff.mpr x);have hm:=ksm_same (List.Perm.map (λ p:Rc=>key p.ls) e) s1 s2;have len:=e.length_eq;apply List.ext_getElem len;intro i h1 h2;have:=congrArg (λ l=>l[i]?) hm;simp only[aE,ag h1,ag h2,bO,Option.some.injEq]at this;exact TD (hp _ (bL h1)) (hq _ (bL h2)) b1 b2 b1 b2 this
noncomputable def D2(p:Rc)(i:Nat)(j:Nat):List (Int×Int):=(List.range j).map λ(k:Nat)=>(p.t+(i:Int),p.l+(k:Int))
noncomputable def GU(p:Rc):Nat->List (Int×Int)
 |0=>[]
 |i+1=>GU p i++D2 p i (p.r-p.l).toNat
noncomputable def sqs(p:Rc):List (Int×Int):=GU p (p.b-p.t).toNat
theorem mem_rowSq{p:Rc}{i j:Nat}{r c:Int}:(r,c)∈D2 p i j↔r=p.t+i/\p.l<=c/\c<p.l+j:=by
 unfold D2;rw[ao]
 constructor
 .rintro⟨k,hk,e⟩;have:=aQ.mp hk;cases e;lia
 .rintro⟨rfl,a,b⟩;exact⟨(c-p.l).toNat,aQ.mpr (by lia),by rw[show((c-p.l).toNat:Int)=c-p.l by lia];congr 1;lia⟩
theorem IF{p:Rc}(h:p.l<=p.r){r c:Int}:∀{n:Nat},(r,c)∈GU p n↔p.t<=r/\r<p.t+n/\p.l<=c/\c<p.r
 |0=>by
  simp only[GU,bi,false_iff];lia
 |n+1=>by
  rw[GU,az,IF h,mem_rowSq];lia
theorem Ho{p:Rc}(h:p.l<=p.r)(h2:p.t<=p.b){r c:Int}:(r,c)∈sqs p↔p.has r c:=by
 unfold sqs Rc.has;rw[IF h];lia
theorem Mc(p:Rc)(i j:Nat):(D2 p i j).Nodup:=by
 unfold D2;rw[fq,List.pairwise_map];exact(List.nodup_range (n:=j)).imp λ{a b} h e=>h (by
  have:=congrArg Prod.snd e;simp only at this;lia)
theorem HN{p:Rc}(h:p.l<=p.r):∀n,(GU p n).Nodup
 |0=>cB
 |n+1=>by
  rw[GU,ez];refine⟨HN h n,Mc p n _,λ a ha b hb e=>?_⟩;subst e;obtain⟨r,c⟩:=a;have h1:=(IF h).mp ha;have h2:=mem_rowSq.mp hb;lia
theorem HP(p:Rc):∀n,(GU p n).length=n*(p.r-p.l).toNat
 |0=>by simp[GU]
 |n+1=>by rw[GU,aH,HP p n,D2,aa,eA,fJ]
theorem Nz(p:Rc)(i j:Nat):D2 p i (j+1)=D2 p i j++[(p.t+(i:Int),p.l+(j:Int))]:=by
 unfold D2;rw[bH,ai];rfl
theorem GA:∀(n:Nat)(xs:List Int),xs.Nodup->(∀x∈xs,0<=x/\x<n)->xs.length<=n
 |0,xs,_,h=>by
  cases xs with
  |nil=>exact ah _
  |cons x r=>have:=h x aw;lia
 |n+1,xs,hn,h=>by
  have h2:(xs.filter λ x=>decide (x≠(n:Int))).length<=n:=GA n _ (hn.filter _) λ x hx=>by
   obtain⟨h1,h2⟩:=b7.mp hx;have:=h x h1;have h3:x≠(n:Int):=jF h2;lia
  have h3:xs.length<=(xs.filter λ x=>decide (x≠(n:Int))).length+1:=by
   have key:∀(ys:List Int),ys.Nodup->ys.length<=(ys.filter λ x=>decide (x≠(n:Int))).length+1:=by
    intro ys
    induction ys with
    |nil=>intro _;simp
    |cons y r ih =>
     intro hy;obtain⟨h4,h5⟩:=bP.mp hy;by_cases e:y=(n:Int)
     .have e2:(r.filter λ x=>decide (x≠(n:Int)))=r:=by
       rw[cj];intro x hx;exact jn λ z=>h4 (by rw[e,<-z];exact hx)
      rw[dy,jj (by simp[e]),e2,aL];exact ah _
     .rw[dy,jo (by simpa using e),aL,aL];have:=ih h5;lia
   exact key xs hn
  lia
end GB
namespace L2
open PySem.W
open PySem PySem.Spec PyProof.Rows
section
variable{prog:jk}{w:ju}{A:jx}{E:VPz}{h:jy}{g:Array lD}{d:Drawn}{t:Nat}{os:OsState}
 {nm qn:jD} {C N:jd} {bs bm bmB:LWz} {hdct:Bool} {sn:LSz} {sub:LWz} {ab:Bool} {col:Option Bool} {dd:Option jd} {k0 k1 k2 k3 k5:Option jg} {B newId initId:String}
noncomputable def Cj(h:jy)(C:jd)(rest:LWz):jy:=(h.push { cls:=.type "tuple",data:=.seq rest.toArray }).push { cls:=.ref C,data:=.fields #[.ref h.objs.size,.none,.none,.none,.bool false,.none] }
theorem BY{C:jd}{rest:LWz}{b:jd}{o:Obj}(e:h.get? b=some o):(Cj h C rest).get? b=some o:=ae _ (ae _ e)
theorem Kc(C:jd)(rest:LWz):(Cj h C rest).get? (h.objs.size+1)=some { cls:=.ref C,data:=.fields #[.ref h.objs.size,.none,.none,.none,.bool false,.none] }:=by
 unfold Cj;heap_get
theorem HE(F:ExcBaseFacts B newId initId bmB)(T:OwnTail h bmB bm){mN:MGz}{rest:LWz}{fI:jd}{oI:Obj}{Q:Fin->jf->Prop}
  (hC:h.get? C=some (excClassObj nm qn C N bs bm hdct sn sub ab col dd k0 k1 k2 k3 k5 newId)) (hn:h.Ns N mN) (hi:mN "__init__"=some (.ref fI)) (hfI:h.get? fI=some oI) (hfc:oI.cls=.type "function") (hrest:rest.length<=jt)
  (hq:jh (jm prog w) A (call (.ref fI) (.ref (h.objs.size+1)::rest)) (λ r s'=>r=.none/\Q (.done (.ret (.ref (h.objs.size+1)))) s') E ⟨Cj h C rest,g,d,t,os⟩) :
  jh (jm prog w) A (Builtin.«type.__call__» ⟨.ref C::rest,[]⟩) Q E ⟨h,g,d,t,os⟩:=by
 repeat (first|with_reducible refine jW hC ?_|with_reducible refine wpAny_madeBy_exc hC ?_|wp_step)
 refine codeAny_call_builtin_code (Code.quiet_builtin _ F.quiet) (wpAny_check_new_subT F T hC (codeAny_exc_new_subT F T hC ?_ hrest));show jh _ _ _ _ _ ⟨Cj h C rest,g,d,t,os⟩;have c1:(Cj h C rest).get? C=_:=BY hC;have n1:(Cj h C rest).Ns N mN:=let ⟨o,es,ep,e,r⟩:=hn;⟨o,es,ep,BY e,r⟩;have e1:=Kc (h:=h) C rest;have T1:OwnTail (Cj h C rest) bmB bm:=T.keeps λ_ _ e=>BY e;have cc:(Value.ref C::bm).contains (.ref C)=true:=by simp
 unfold isInstance
 repeat (first|with_reducible refine jW e1 ?_|(with_reducible refine kZ c1 ?_;rw[cc])|wp_step)
 show jh _ _ (typeLookup (.ref C) _) _ _ _;refine wpAny_typeLookup_tail c1 n1 T1 F.mroIs F.init.lookup ?_;rw[hi];refine jI (jc ?_);unfold bindSpecial;refine jc (wpAny_typeOf (T:="function") ⟨_,BY hfI,hfc⟩ ?_);rw[jo (by decide)];refine je (jc (jA hq (λ r s' hr=>?_) λ_ _ x=>x));obtain⟨rfl,hQ⟩:=hr
 wp_walk
 exact hQ
theorem QB(F:ExcBaseFacts B newId initId bmB)(T:OwnTail h bmB bm){mN:MGz}{rest:LWz}{fI:jd}{oI:Obj}{Q:VPz}
  (hC:h.get? C=some (excClassObj nm qn C N bs bm hdct sn sub ab col dd k0 k1 k2 k3 k5 newId)) (hn:h.Ns N mN) (hi:mN "__init__"=some (.ref fI)) (hfI:h.get? fI=some oI) (hfc:oI.cls=.type "function") (hrest:rest.length<=jt)
  (hq:jh (jm prog w) (A.under (.builtin "type.__call__" ⟨.ref C::rest,[]⟩)) (call (.ref fI) (.ref (h.objs.size+1)::rest)) (λ r s'=>r=.none/\Q (.ref (h.objs.size+1)) s') E ⟨Cj h C rest,g,d,t,os⟩) :
  jh (jm prog w) A (call (.ref C) rest) Q E ⟨h,g,d,t,os⟩:=by
 have l1:=tc_lookup;have l2:=tc_bind (.ref C);have ty:(⟨h,g,d,t,os⟩:jf).TypeIs (.ref C) "type":=⟨_,hC,rfl⟩;refine ki (codeAny_of_tree ?_);show jh _ _ (callAny (.ref C) _) _ _ _
 repeat (any_goals (first|assumption|with_reducible refine jW hC ?_|wp_step))
 exact⟨rfl,codeAny_call_builtin_at (Code.quiet_builtin _ (by decide +kernel)) entry_typeCall (wpAny_check_type_call_sub hC (HE F T hC hn hi hfI hfc hrest hq))⟩
end
open PySem.Builtin PySem.Builtin.ObjectAttr
noncomputable def vErr:LWz:=[.type "ValueError",.type "Exception",.type "BaseException",.type "object"]
noncomputable def Gz:LWz->Bool
 |[]=>false
 |x::r=>(match x with|.ref _=>Gz r|_=>false)||(x::r==vErr)
theorem Ie(self:jg):∀{l:LWz},Gz l=true->refuseLoop self "__setattr__" l=pure ()
 |[],e=>by cases e
 |x::r,e=>by
  unfold Gz at e;rw[cx]at e;rcases e with e|e
  .cases x<;>first|(rw[refuseLoop_ref];exact Ie self e)|cases e
  .rw[show x::r=vErr from beq_iff_eq.mp e];exact PySem.F.store_ValueError.passes self
theorem L8{T:String}(hT:vErr.contains (.type T)=true):∀{l:LWz},Gz l=true->l.contains (.type T)=true
 |[],e=>by cases e
 |x::r,e=>by
  unfold Gz at e;rw[cx]at e;rcases e with e|e
  .cases x<;>first|(rw[ef,L8 hT e,fG])|cases e
  .rw[show x::r=vErr from beq_iff_eq.mp e];exact hT
noncomputable def excIn(K:jw)(C:jd):Bool:=(clsIn K C).any λ cd=>Gz cd.mro
section
variable{prog:jk}{w:ju}{A:jx}{E:VPz}{R:lI->jf->Prop}{s:jf}{K:jw}{x C:jd}{ox:Obj}{od:Option Obj}{name:jD}{tk:kH}{v:jg}
theorem OF(X:K.In s.heap)(I:InstAt s.heap x ox C od)(hp:excIn K C=true)(ht:jH K (.ref C) name=some none)
  (h:jh (jm prog w) A.in1 (storeInOwnDict (.ref x) (.ref C) (.str name tk) name v false)
   (λ fin s'=>match fin with|.done f=>R (.ok f) s'|.again c'=>c'.quiet=true/\jU (jm prog w) A c' R s') (λ e s'=>R (.error e) s') s) :
  jU (jm prog w) A (.call (.builtin "object.__setattr__") ⟨[.ref x,.str name tk,v],[]⟩) R s:=by
 have SF:=PySem.F.store_object;obtain⟨cd,hc,ho⟩:=lc hp;have ne:cd.mro.isEmpty=false:=by cases q:cd.mro with|nil=>rw[q]at ho;cases ho|cons _ _=>rfl
 have tO:Looks (jm prog w) s.heap (isInstance (.ref x) (.type "object")) true:=I.type.andThen (looks_mroIn X (by
  unfold mroIn;rw[hc,bT,ne];show some (cd.mro.contains (.type "object"))=some true;rw[L8 (by decide +kernel) ho]))
 have tM:Looks (jm prog w) s.heap (mroOf (.ref C)) cd.mro:=(looks_clsIn X hc).andThen .now;refine kU SF.slot.plain SF.entry (@check_slot (jm prog w) _ _ s "object.__setattr__" "object" "__setattr__" (.ref x) [.str name tk,v] [] _ SF.kind SF.split tO (SF.args (.ref x) (.str name tk) v) ?_);rw[osa_eq,refuse_eq];refine jc (jc (I.type.here (jc (tM.here ?_))));rw[Ie _ ho];exact je (jc (I.type.here (jc ((lJ X ht).here (jc (je h))))))
theorem Rg{vs:Array jg}{sl:AOz}{Q:Unit->jf->Prop}(X:K.In s.heap)(hx:s.heap.get? x=some ⟨.ref C,none,.fields vs,sl⟩)(hs:jH K (.ref C) "__setattr__"=some (some (.builtin "object.__setattr__")))
  (hp:excIn K C=true) (hh:hasDictIn K C=true) (ht:jH K (.ref C) name=some none)
  (h:∀h',h'.get? x=some ⟨.ref C,some s.heap.objs.size,.fields vs,sl⟩->h'.Ns1 s.heap.objs.size (λ y=>if y=name then some v else none)->(∀b o,b≠x->s.heap.get? b=some o->h'.get? b=some o)->Q () { s with heap:=h',toks:=s.toks+2 }) :
  jh (jm prog w) A (setAttr (.ref x) name v) Q E s:=by
 have I:InstAt s.heap x ⟨.ref C,none,.fields vs,sl⟩ C none:=⟨hx,rfl,rfl,trivial⟩;obtain⟨cd,hc,hd'⟩:=lc hh;have nx:x≠s.heap.objs.size:=aD (ak hx);refine set_plain X I hs (OF (s:={ s with toks:=s.toks+1 }) X I hp ht ?_);refine jc (je (jc (jc (lg hx (jc (Looks.here (s:={ s with toks:=s.toks+1 }) (looks_clsIn X hc) ?_))))));rw[hd'];refine jc (wpAny_alloc (jc (wpAny_update (ae _ hx) (je ?_))));generalize hH:(s.heap.push { cls:=.type "dict",data:=.dict #[] }).update x (λ o=>{ o with dict:=some s.heap.objs.size })=H1;have hx1:H1.get? x=some ⟨.ref C,some s.heap.objs.size,.fields vs,sl⟩:=by
  rw[<-hH];exact bg _ (ae _ hx) rfl
 have hd1:H1.get? s.heap.objs.size=some { cls:=.type "dict",data:=.dict #[] }:=by
  rw[<-hH,bS _ _ _ _ (Ne.symm nx)];exact ar _ rfl
 have hk1:∀b o,b≠x->s.heap.get? b=some o->H1.get? b=some o:=λ b o hb e=>by
  rw[<-hH,bS _ _ _ _ hb];exact ae _ e
 have hn1:H1.Ns1 s.heap.objs.size (λ_=>none):=Heap.Ns1.of_empty ⟨_,#[],_,hd1,rfl,λ e he=>absurd he (by simp),λ_=>rfl⟩;refine jc (je (jc (wpAny_nsSet1 (s:={ s with heap:=H1,toks:=s.toks+1 }) hn1 λ h' hn2 hs2=>?_)));obtain⟨oD,esD,epD,hoD,hdD,hcD⟩:=hn2.count (Within.cons name v Within.nil);refine jc (lF hoD (by rw[hdD];exact lG (aV hcD (by rw[aL,c7,jC];lia))) ?_);exact je (h _ ((hs2.2 _ nx).trans hx1) hn2 λ b o hb e=>(hs2.2 _ (aD (ak e))).trans (hk1 b o hb e))
theorem Ti{vs:Array jg}{sl:AOz}{dx:jd}{mA:MGz}{ns:LSz}{Q:Unit->jf->Prop}(X:K.In s.heap)(hx:s.heap.get? x=some ⟨.ref C,some dx,.fields vs,sl⟩)(hn:s.heap.Ns1 dx mA)(hne:dx≠x)
  (hs:jH K (.ref C) "__setattr__"=some (some (.builtin "object.__setattr__"))) (hp:excIn K C=true) (hh:hasDictIn K C=true) (ht:jH K (.ref C) name=some none) (hw:PySem.Within mA ns) (hsz:ns.length<=jt)
  (h:∀h',h'.get? x=some ⟨.ref C,some dx,.fields vs,sl⟩->h'.Ns1 dx (λ y=>if y=name then some v else mA y)->Heap.SameBut dx s.heap h'->Q () { s with heap:=h',toks:=s.toks+2 }) :
  jh (jm prog w) A (setAttr (.ref x) name v) Q E s:=by
 obtain⟨od,ho⟩:∃o,s.heap.get? dx=some o:=let ⟨o,_,_,e,_⟩:=hn;⟨o,e⟩;have I:InstAt s.heap x ⟨.ref C,some dx,.fields vs,sl⟩ C (some od):=⟨hx,rfl,rfl,ho⟩;obtain⟨cd,hc,hd'⟩:=lc hh;refine set_plain X I hs (OF (s:={ s with toks:=s.toks+1 }) X I hp ht ?_);refine jc (je (jc (jc (lg hx (jc (Looks.here (s:={ s with toks:=s.toks+1 }) (looks_clsIn X hc) ?_))))));rw[hd'];refine je (a:=some dx) (jc (je (jc (wpAny_nsSet1 (s:={ s with toks:=s.toks+1 }) hn λ h' hn2 hs2=>?_))));obtain⟨oD,esD,epD,hoD,hdD,hcD⟩:=hn2.count (Within.cons name v hw);refine jc (lF hoD (by rw[hdD];exact lG (aV hcD (by rw[aL];lia))) ?_);exact je (h _ ((hs2.2 _ (Ne.symm hne)).trans hx) hn2 hs2)
end
section
variable{prog:jk}{w:ju}{A:jx}{E:VPz}{R:lI->jf->Prop}{s:jf}{K:jw}{x C:jd}{ox:Obj}{od:Option Obj}{name:jD}{tk:kH}{v:jg}{expr:Bool}
theorem TV(X:K.In s.heap)(I:InstAt s.heap x ox C od)(hp:L2.excIn K C=true)
  (h:jh (jm prog w) A.in1 (Builtin.«object.__getattribute__» ⟨[.ref x,.str name tk],[]⟩)
   (λ fin s'=>match fin with|.done f=>R (.ok f) s'|.again c'=>c'.quiet=true/\jU (jm prog w) A c' R s') (λ e s'=>R (.error e) s') s) :
  jU (jm prog w) A (.call (.builtin "BaseException.__getattribute__") ⟨[.ref x,.str name tk],[]⟩) R s:=by
 obtain⟨cd,hc,ho⟩:=lc hp;have ne:cd.mro.isEmpty=false:=by cases q:cd.mro with|nil=>rw[q]at ho;cases ho|cons _ _=>rfl
 have tB:Looks (jm prog w) s.heap (isInstance (.ref x) (.type "BaseException")) true:=I.type.andThen (looks_mroIn X (by
  unfold mroIn;rw[hc,bT,ne];show some (cd.mro.contains (.type "BaseException"))=some true;rw[L8 (by decide +kernel) ho]))
 exact kU eP.ga.plain PySem.F.entry_bexc_ga (@check_slot (jm prog w) _ _ s "BaseException.__getattribute__" "BaseException" "__getattribute__" (.ref x) [.str name tk] [] _ (by decide +kernel) (by decide +kernel) tB (PySem.F.args_bexc_ga (.ref x) (.str name tk)) h)
theorem U3(X:K.In s.heap)(I:InstAt s.heap x ox C od)(hp:L2.excIn K C=true)(hga:jH K (.ref C) "__getattribute__"=some (some (.builtin "BaseException.__getattribute__")))(hk:jH K (.ref C) "__getattr__"=some none){fill:Bool}{Q:VPz}
  (h:jh (jm prog w) A.in1 (Builtin.«object.__getattribute__» ⟨[.ref x,.str name tk],[]⟩)
   (λ fin s'=>match fin with|.done (.ret v)=>jh (jm prog w) A (handedOut v) Q E s'|_=>False) (λ_ _=>False) s) :
  jh (jm prog w) A (getAttrBy (.ref x) (.str name tk) fill expr) Q E s:=by
 have L0:=I.type (M:=jm prog w);have L1:=lJ (M:=jm prog w) X hga;have L2:=lJ (M:=jm prog w) X hk;unfold getAttrBy;refine jI (jc (L0.here (jc (L1.here ?_))));show jh _ _ (getAttrByItsOwn (.ref x) (.str name tk) (.ref C) (.builtin "BaseException.__getattribute__") fill expr) _ _ _;unfold getAttrByItsOwn hookBefore callGetattribute boundAndCalled;refine jc (L2.here ?_);refine jc (kt (jI ?_));rw[show(expr&&onTheHeap (Value.builtin "BaseException.__getattribute__"))=false from by cases expr<;>rfl,jj aq];refine jc (kW (eP.ga.bind _) ?_);refine ki (TV X I hp (jA h (λ fin s' z=>?_) λ_ _ z=>z.elim));rcases fin with (_|_|_|_)|_<;>first|exact z.elim|exact z
theorem TR{Q:VPz}(X:K.In s.heap)(I:InstAt s.heap x ox C od)(hp:L2.excIn K C=true)(hga:jH K (.ref C) "__getattribute__"=some (some (.builtin "BaseException.__getattribute__")))(hk:jH K (.ref C) "__getattr__"=some none)
  (hf:findObj K C od name=some (.value v)) (hh:handedIn v=true) (h:Q v { s with toks:=s.toks+1 }):jh (jm prog w) A (getAttr (.ref x) name expr) Q E s:=by
 unfold getAttr;refine jc (wpAny_mkText (U3 (s:={ s with toks:=s.toks+1 }) X I hp hga hk ?_));have L0:=I.type (M:=jm prog w);have L1:=looks_find (M:=jm prog w) X I hf;refine jc (kW (show slotArgs "__getattribute__" 1 ⟨[.ref x,.str name s.toks],[]⟩=pure (.ref x,[.str name s.toks]) from rfl) ?_);refine jc (je (jc (Looks.here (s:={ s with toks:=s.toks+1 }) L0 (jc (Looks.here (s:={ s with toks:=s.toks+1 }) L1 ?_)))));refine je ?_;show jh _ _ (handedOut v) _ _ _;rw[handedOut_of hh];exact je h
theorem Q9{Q:Option jg->jf->Prop}(X:K.In s.heap)(I:InstAt s.heap x ox C od)(hp:L2.excIn K C=true)(hga:jH K (.ref C) "__getattribute__"=some (some (.builtin "BaseException.__getattribute__")))(hk:jH K (.ref C) "__getattr__"=some none)
  (hf:findObj K C od "__class__"=some (.bind (.builtin "getset_descriptor.__get__") (.builtin "object.__class__"))) (hm:mroIn K C (.type "object")=some true) (h:Q (some (.ref C)) { s with toks:=s.toks+1 }):jh (jm prog w) A (getAttr? (.ref x) "__class__") Q E s:=by
 unfold getAttr? getAttrBy?;refine jc (wpAny_mkText (jc (kt (U3 (s:={ s with toks:=s.toks+1 }) X I hp hga hk ?_))));have L0:=I.type (M:=jm prog w);have L1:=looks_find (M:=jm prog w) X I hf;refine jc (kW (show slotArgs "__getattribute__" 1 ⟨[.ref x,.str "__class__" s.toks],[]⟩=pure (.ref x,[.str "__class__" s.toks]) from rfl) ?_);refine jc (je (jc (Looks.here (s:={ s with toks:=s.toks+1 }) L0 (jc (Looks.here (s:={ s with toks:=s.toks+1 }) L1 ?_)))));show jh _ _ (holding [.builtin "object.__class__"] (call (.builtin "getset_descriptor.__get__") [.builtin "object.__class__",.ref x,.ref C]) >>= ret) _ _ _;refine jc (jI (ki (class_get (s:={ s with toks:=s.toks+1 }) (ox:=ox) (od:=od) X I hm ?_)));exact je (handed_on rfl (je h))
end
noncomputable def Hh(C x:jd):HO:=.ext λ h=>∃vs sl,h.get? x=some ⟨.ref C,none,.fields vs,sl⟩/\vs[1]?=some Value.none
noncomputable def El(C dx x:jd):HO:=.ext λ h=>∃vs sl,h.get? x=some ⟨.ref C,some dx,.fields vs,sl⟩/\vs[1]?=some Value.none
noncomputable def G5(C:jd)(d:Option jd)(x T:jd):HO:=.ext λ h=>∃vs sl,h.get? x=some ⟨.ref C,d,.fields vs,sl⟩/\vs[1]?=some (.ref T)
noncomputable def Dh(dx:jd)(fs:LFz):HO:=.ext λ h=>∃mA,h.Ns1 dx mA/\(∀f,RelO (fs.lookup f) (mA f))/\PySem.Within mA (fs.map (·.1))
section
variable{P:jk}{w:ju}{H:Hp}{h:jy}{x C dx:jd}{fs:LFz}
theorem Ue{vs:Array jg}{sl:AOz}(e:h.get? x=some ⟨.ref C,none,.fields vs,sl⟩)(f:vs[1]?=some Value.none):ObjOk P w H h x (Hh C x) :=
 ⟨⟨vs,sl,e,f⟩,⟨_,e⟩,λ_ _ ⟨vs,sl,e,f⟩ k=>⟨vs,sl,k _ e,f⟩⟩
theorem Ud{vs:Array jg}{sl:AOz}(e:h.get? x=some ⟨.ref C,some dx,.fields vs,sl⟩)(f:vs[1]?=some Value.none):ObjOk P w H h x (El C dx x) :=
 ⟨⟨vs,sl,e,f⟩,⟨_,e⟩,λ_ _ ⟨vs,sl,e,f⟩ k=>⟨vs,sl,k _ e,f⟩⟩
theorem Uc{d:Option jd}{T:jd}{vs:Array jg}{sl:AOz}(e:h.get? x=some ⟨.ref C,d,.fields vs,sl⟩)(f:vs[1]?=some (.ref T)):ObjOk P w H h x (G5 C d x T) :=
 ⟨⟨vs,sl,e,f⟩,⟨_,e⟩,λ_ _ ⟨vs,sl,e,f⟩ k=>⟨vs,sl,k _ e,f⟩⟩
theorem OX{mA:MGz}(n:h.Ns1 dx mA)(r:∀f,RelO (fs.lookup f) (mA f))(wi:PySem.Within mA (fs.map (·.1))):ObjOk P w H h dx (Dh dx fs) :=
 ⟨⟨mA,n,r,wi⟩,let ⟨o,_,_,e,_⟩:=n;⟨o,e⟩,λ_ _ ⟨mA,n,r,wi⟩ k=>⟨mA,n.at k,r,wi⟩⟩
end
structure XCls(K:jw)(C:jd):Prop where
 ga:jH K (.ref C) "__getattribute__"=some (some (.builtin "BaseException.__getattribute__"))
 gh:jH K (.ref C) "__getattr__"=some none
 hd:hasDictIn K C=true
 sa:jH K (.ref C) "__setattr__"=some (some (.builtin "object.__setattr__"))
 ex:L2.excIn K C=true
 ca:jH K (.ref C) "__class__"=some (some (.builtin "object.__class__"))
 gn:specialIn K (.builtin "object.__class__") "__get__"=some (some (.builtin "getset_descriptor.__get__"))
 tk:takesIn K (.builtin "object.__class__")=some true
 mo:mroIn K C (.type "object")=some true
noncomputable def LN(K:jw)(C:jd):Bool:=(jH K (.ref C) "__getattribute__"==some (some (.builtin "BaseException.__getattribute__")))&&(jH K (.ref C) "__getattr__"==some none)&&hasDictIn K C&&(jH K (.ref C) "__setattr__"==some (some (.builtin "object.__setattr__")))&&L2.excIn K C &&
 (jH K (.ref C) "__class__"==some (some (.builtin "object.__class__")))&&(specialIn K (.builtin "object.__class__") "__get__"==some (some (.builtin "getset_descriptor.__get__"))) &&
 (takesIn K (.builtin "object.__class__")==some true)&&(mroIn K C (.type "object")==some true)
theorem XCls.of{K:jw}{C:jd}(h:LN K C=true):XCls K C:=by
 unfold LN at h;simp only[ax,beq_iff_eq]at h;obtain⟨⟨⟨⟨⟨⟨⟨⟨a,a'⟩,b⟩,c⟩,d⟩,e⟩,f⟩,g⟩,i⟩:=h;exact⟨a,a',b,c,d,e,f,g,i⟩
section
variable{X:Cx}{iZ:PNz}{σ:St}{H:Hp}{s:jf}{a C dx:jd}{fs:LFz}{f:jD}{v:V}{A:jx}{E:VPz}
theorem Ja{φ:jy->Prop}{b c:jd}(h:H b=some (.ext φ)):H b≠some (.own c):=λ e=>by rw[h]at e;cases e
theorem Nx{y:V}{u:jg}{Q:Unit->jf->Prop}(I:Inv X iZ σ H s)(e:H a=some (Hh C a))(c:XCls X.K C)(n:NoAttr X.K C f)(ry:RelV y u)
  (h:∀s' d,H d=none->Inv X iZ σ (upd (upd H d (Dh d [(f,y)])) a (El C d a)) s'->Q () s'):jh (jm X.prog X.w) A (setAttr (.ref a) f u) Q E s:=by
 obtain⟨⟨vs,sl,hx,hv1⟩,_⟩:=(show ObjOk X.prog X.w H s.heap a (Hh C a) from I.hok a _ e);refine Rg I.kIn hx c.sa c.ex c.hd n λ h' h1 h2 k=>?_;have hn:H s.heap.objs.size=none:=I.hok.fresh (ah _);have nea:s.heap.objs.size≠a:=Ne.symm (Ag e hn);refine h _ s.heap.objs.size hn ?_;have e':∀b o,H b=some o->b≠s.heap.objs.size:=λ b o q=>Ag q hn;have lt:∀b o,s.heap.get? b=some o->b≠s.heap.objs.size:=λ b o q=>aD (ak q);have na:∀b o,H b=some o->(∀φ,o≠.ext φ)->b≠a:=λ b o q z t=>by subst t;rw[e]at q;cases q;exact z _ rfl
 refine I.un (h':=h') (t':=s.toks+2) ⟨λ b o q m _ _=>k b o (λ z=>by rw[z,e]at m;cases m) q,λ b o q m _ _=>⟨o.slots,k b o (λ z=>by rw[z,e]at m;cases m) q⟩,
  λ b o q m _=>by rw[Ad (λ z=>by rw[z,e]at m;cases m),Ad (lt b o q)];exact m,λ b o q _=>?_,λ b xs q=>by rw[Ad (na b _ q (λ φ z=>by cases z)),Ad (e' b _ q)];exact q,
  λ b o u q=>by rw[Ad (na b _ q (λ φ z=>by cases z)),Ad (e' b _ q)];exact q,λ b ps q=>⟨#[],by rw[Ad (na b _ q (λ φ z=>by cases z)),Ad (e' b _ q),q];simp⟩⟩ λ b o q=>?_
 .by_cases hb:b=a
  .subst hb;exact⟨_,h1⟩
  .exact⟨o,k b o hb q⟩
 .by_cases hb:b=a
  .subst hb;rw[Ae]at q;cases q;exact Ud h1 hv1
  .rw[Ad hb]at q;by_cases hd:b=s.heap.objs.size
   .subst hd;rw[Ae]at q;cases q;refine OX h2 (λ g=>?_) λ g hg=>?_
    .show RelO (List.lookup g [(f,y)]) (if g=f then some u else none);by_cases q:g=f
     .have hb:(g==f)=true:=beq_iff_eq.mpr q;rw[jo q];simp only[List.lookup,hb];exact ry
     .have hb:(g==f)=false:=beq_eq_false_iff_ne.mpr q;rw[jj q];simp only[List.lookup,hb];exact True.intro
    .by_cases q:g=f
     .rw[q];simp
     .exact absurd (jj q) hg
   .rw[Ad hd]at q;refine(I.hok b o q).stay (λ cc w' hc z=>k cc w' ?_ z) (λ cc z=>?_) λ cc xs z=>?_
    .rcases hc with rfl|hc
     .exact hb
     .exact λ t=>Ja e (t ▸ hc)
    .rw[Ad (λ t=>Ja e (t ▸ z)),Ad (e' cc _ z)];exact z
    .rw[Ad (na cc _ z (λ φ t=>by cases t)),Ad (e' cc _ z)];exact z
theorem PJ{y:V}{u:jg}{Q:Unit->jf->Prop}(I:Inv X iZ σ H s)(e:H a=some (El C dx a))(ed:H dx=some (Dh dx fs))(c:XCls X.K C)(n:NoAttr X.K C f)(hl:fs.length<1000)(ry:RelV y u)
  (h:∀s',Inv X iZ σ (upd H dx (Dh dx (Bf f y fs))) s'->Q () s'):jh (jm X.prog X.w) A (setAttr (.ref a) f u) Q E s:=by
 obtain⟨⟨vs,sl,hx,_⟩,_⟩:=(show ObjOk X.prog X.w H s.heap a (El C dx a) from I.hok a _ e);obtain⟨⟨mA,hn,r,wi⟩,_⟩:=(show ObjOk X.prog X.w H s.heap dx (Dh dx fs) from I.hok dx _ ed);have hne:dx≠a:=λ z=>by
  subst z;obtain⟨o,es,ep,ho,hd,_⟩:=hn;rw[hx]at ho;cases ho;cases hd
 have hz:(fs.map (·.1)).length<=jt:=by rw[aa,jC];lia
 refine Ti I.kIn hx hn hne c.sa c.ex c.hd n wi hz λ h' h1 h2 sb=>h _ ?_;have hd:∃o,h'.get? dx=some o:=let ⟨o,_,_,e',_⟩:=h2;⟨o,e'⟩;refine I.write (x:=dx) (e:=dx) (t':=s.toks+2) (by rw[ed];exact True.intro) (.inl rfl) (λ b q hb z=>(sb.2 b hb).trans z) hd (OX h2 (λ g=>?_) λ g hg=>?_)
 .show RelO ((Bf f y fs).lookup g) (if g=f then some u else mA g);rw[A5];by_cases q:g=f
  .rw[jo q,jo q];exact ry
  .rw[jj q,jj q];exact r g
 .by_cases q:g=f
  .rw[q];exact(Da f y fs).1
  .refine(Da f y fs).2 g (wi g λ z=>hg ?_);show(if g=f then some u else mA g)=none;rw[jj q];exact z
noncomputable def XAt(H:Hp)(C dx a:jd):Prop:=H a=some (El C dx a)\/∃T,H a=some (G5 C (some dx) a T)
theorem XAt.obj(I:Inv X iZ σ H s)(h:XAt H C dx a):∃vs sl,s.heap.get? a=some ⟨.ref C,some dx,.fields vs,sl⟩:=by
 rcases h with h|⟨T,h⟩
 .obtain⟨⟨vs,sl,hx,_⟩,_⟩:=(show ObjOk X.prog X.w H s.heap a (El C dx a) from I.hok a _ h);exact⟨vs,sl,hx⟩
 .obtain⟨⟨vs,sl,hx,_⟩,_⟩:=(show ObjOk X.prog X.w H s.heap a (G5 C (some dx) a T) from I.hok a _ h);exact⟨vs,sl,hx⟩
theorem Qz{b:Bool}{Q:VPz}(I:Inv X iZ σ H s)(e:XAt H C dx a)(ed:H dx=some (Dh dx fs))(c:XCls X.K C)(n:NoAttr X.K C f)(l:fs.lookup f=some v)
  (h:∀u s',Inv X iZ σ H s'->RelV v u->Q u s'):jh (jm X.prog X.w) A (getAttr (.ref a) f b) Q E s:=by
 obtain⟨vs,sl,hx⟩:=e.obj I;obtain⟨⟨mA,hn,r,wi⟩,_⟩:=(show ObjOk X.prog X.w H s.heap dx (Dh dx fs) from I.hok dx _ ed);obtain⟨u,hu,ru⟩:=RelO.some_of (v:=v) (o:=mA f) (by rw[<-l];exact r f);obtain⟨od,ho,hl⟩:=Kq hn;have J:InstAt s.heap a ⟨.ref C,some dx,.fields vs,sl⟩ C (some od):=⟨hx,rfl,rfl,ho⟩;exact TR I.kIn J c.ex c.ga c.gh (findObj_own c.hd n rfl (by rw[hl,hu])) (Ky ru) (h u _ (I.tok _) ru)
end
theorem RW{K:jw}{x D:jd}(c:XCls K D):KitX K (.ref x) (.ref D) (λ h=>∃(ox:Obj)(od:Option Obj),InstAt h x ox D od) where
 ty:=λ_ _ _ ⟨_,_,I⟩=>I.type
 it:=λ_ _ X _=>by
  obtain⟨cdD,hcD,_⟩:=lc c.hd;unfold clsIn at hcD;split at hcD
  .rename_i c' d' cd' sl' ho;intro A' Q' E' s' k q;unfold isType loadHead;exact jc (lg (k _ _ (X _ _ ho)) (je q))
  .cases hcD
 ne:=λ h tp dd its n sl X htp=>by
  obtain⟨cdD,hcD,_⟩:=lc c.hd;refine Bool.eq_false_iff.mpr λ q=>?_;have e:D=tp:=Value.ref.inj (beq_iff_eq.mp q);subst e;unfold clsIn at hcD;split at hcD
  .rename_i c' d' cd' sl' ho;have z:=(X _ _ ho).symm.trans htp;cases z
  .cases hcD
 ca:=λ{prog w A E Q s} X ⟨ox,od,I⟩ h=>by
  have hf:findObj K D od "__class__"=some (.bind (.builtin "getset_descriptor.__get__") (.builtin "object.__class__")):=by
   obtain⟨cd,hc,_⟩:=lc c.hd;unfold findObj;rw[hc,bT,c.ca,bT];simp[c.gn,c.tk]
  exact Q9 X I c.ex c.ga c.gh hf c.mo h
noncomputable def SS(H:Hp)(a C:jd):Prop:=(∃dx fs,XAt H C dx a/\H dx=some (Dh dx fs))\/H a=some (Hh C a)\/∃T,H a=some (G5 C none a T)
section
variable{X:Cx}
theorem NO{iZ:PNz}{σ:St}{H:Hp}{s:jf}{a C:jd}(I:Inv X iZ σ H s)(h:SS H a C):∃(ox:Obj)(od:Option Obj),InstAt s.heap a ox C od:=by
 rcases h with ⟨dx,fs,h1,h2⟩|h|⟨T,h⟩
 .obtain⟨vs,sl,hx⟩:=h1.obj I;obtain⟨⟨mA,hn,_⟩,_⟩:=(show ObjOk X.prog X.w H s.heap dx (Dh dx fs) from I.hok dx _ h2);obtain⟨o,_,_,ho,_⟩:=hn;exact⟨_,some o,⟨hx,rfl,rfl,ho⟩⟩
 .obtain⟨⟨vs,sl,hx,_⟩,_⟩:=(show ObjOk X.prog X.w H s.heap a (Hh C a) from I.hok a _ h);exact⟨_,none,⟨hx,rfl,rfl,trivial⟩⟩
 .obtain⟨⟨vs,sl,hx,_⟩,_⟩:=(show ObjOk X.prog X.w H s.heap a (G5 C none a T) from I.hok a _ h);exact⟨_,none,⟨hx,rfl,rfl,trivial⟩⟩
theorem Dy:BK X (.builtin "isinstance") (λ xs H Q=>∃a C c u b,xs=[.ref a,c]/\SS H a C/\XCls X.K C/\RelV c u/\(∀u',RelV c u'->u'=u)/\ka X.K (.ref C) u=some b/\Q (.bl b) H):=by
 intro iZ s σ H xs us Q I r h;obtain⟨a,C,c,u,b,rfl,he,hc,ru,uq,hk,q⟩:=h;obtain⟨v1,v2,rfl,r1,r2⟩:=LQ r;cases r1;have:=uq v2 r2;subst this;exact kK (RW hc) I.kIn (NO I he) hk (λ z=>nomatch z) λ tk=>⟨.bl b,H,I.tok tk,rfl,q⟩
end
noncomputable def VM(K:jw)(ta:TE)(f:jD):TE:=λ σ H Q=>ta σ H λ x H1=>∃a C dx fs v,x=.ref a/\XAt H1 C dx a/\H1 dx=some (Dh dx fs)/\XCls K C/\NoAttr K C f/\fs.lookup f=some v/\Q v H1
noncomputable def Wb(K:jw)(ta tv:TE)(f:jD):TS:=λ D σ H=>tv σ H λ y H1=>ta σ H1 λ x H2=>∃a C,x=.ref a/\XCls K C/\NoAttr K C f /\
 ((H2 a=some (Hh C a)/\∀d,H2 d=none->D.nx σ (upd (upd H2 d (Dh d [(f,y)])) a (El C d a)))\/∃dx fs,H2 a=some (El C dx a)/\H2 dx=some (Dh dx fs)/\fs.length<1000/\D.nx σ (upd H2 dx (Dh dx (Bf f y fs))))
section
variable{X:Cx}{o e value:jB}{f:jD}{pos pos':Pos}{ta tv:TE}
theorem O7(he:PE X e ta)(hb:attributeBase e f X.env (eval e X.env)=eval e X.env):PE X (.Attribute e f pos) (VM X.K ta f):=by
 intro iZ s σ H Q I h;refine Pg hb (thn (he iZ s σ H _ I h) λ u s1 hz_=>?_);obtain⟨x,H1,I1,rx,a,C,dx,fs,v,ex,ea,ed,c,n,l,q⟩:=hz_;subst ex;obtain rfl:u=Value.ref a:=rx;exact Qz I1 ea ed c n l λ u' s2 I2 ru=>⟨v,H1,I2,ru,q⟩
theorem O3(ha:PE X o ta)(hv:PE X value tv)(hs:swapsWith value (some (.Attribute o f pos')) pos.line X.env=pure false):PS X (.Assign [.Attribute o f pos'] value pos) (Wb X.K ta tv f):=by
 intro iZ s σ H D I h;refine kM (thn (hv iZ s σ H _ I h) λ u s1 hz_=>?_) hs;obtain⟨y,H1,I1,ry,q⟩:=hz_;refine thn (ha iZ s1 σ H1 _ I1 q) λ ov s2 hz_=>?_;obtain⟨x,H2,I2,rx,a,C,ex,c,n,q2⟩:=hz_;subst ex;obtain rfl:ov=Value.ref a:=rx;rcases q2 with ⟨e0,q2⟩|⟨dx,fs,e1,e2,l,q2⟩
 .exact Nx I2 e0 c n ry λ s3 d hd I3=>⟨σ,_,I3,q2 d hd⟩
 .exact PJ I2 e1 e2 c n l ry λ s3 I3=>⟨σ,_,I3,q2⟩
end
noncomputable def xG1(K:jw)(C:jd):Bool:=match K.lookup C with
 |some ⟨.type "type",_,.cls cd,sl⟩=>(match cd.mro,sl.toList with
  |.ref C'::bm,[_,_,_,_,some (.builtin n),_]=>C'==C&&n=="ValueError.__new__"&&!cd.hasDel&&tailIn K vErr bm
  |_,_=>false)
 |_=>false
noncomputable def G0(K:jw)(C:jd)(fI:jd):Bool:=xG1 K C&&(match K.lookup C with
 |some ⟨_,_,.cls cd,_⟩=>nsOkIn K cd.ns&&kg K cd.ns "__init__"==some (some (.ref fI))
 |_=>false)
theorem xGe{K:jw}{C:jd}(q:xG1 K C=true):∃nm bs bm ns qn hd sn sub ab col dd k0 k1 k2 k3 k5,K.lookup C=some (excClassObj nm qn C ns bs bm hd sn sub ab col dd k0 k1 k2 k3 k5 "ValueError.__new__")/\tailIn K vErr bm=true:=by
 unfold xG1 at q;split at q
 .rename_i dd cd sl ho;split at q
  .rename_i C' bm k0 k1 k2 k3 n k5 hm hs;simp only[ax,beq_iff_eq,eI]at q;obtain⟨⟨⟨rfl,rfl⟩,hdel⟩,ht⟩:=q;obtain⟨nm,bs,mro,ns,qn,hd,sn,sub,ab,col,del⟩:=cd;dsimp only at hm hdel;subst hm hdel;have hsl:sl=#[k0,k1,k2,k3,some (.builtin "ValueError.__new__"),k5]:=by
    obtain⟨l⟩:=sl;simp only at hs;rw[hs]
   subst hsl;exact⟨_,_,_,_,_,_,_,_,_,_,_,_,_,_,_,_,ho,ht⟩
  .cases q
 .cases q
theorem NG{K:jw}{h:jy}{N:jd}{mg:MGz}{n:jD}{v:jg}(X:K.In h)(G:h.Ns N mg)(e:kg K N n=some (some v)):mg n=some v:=by
 obtain⟨o,es,ep,ho,hd,_,hf⟩:=G;unfold kg at e;split at e
 .rename_i c d es' n' sl q;have:=X _ _ q;rw[ho]at this;cases this;cases hd;split at e
  .rename_i e' he;cases e;rw[<-hf];unfold nsFind findBy;rw[<-Array.find?_toList,he];rfl
  .split at e<;>cases e
 .cases e
structure XMk(K:jw)(C fI:jd):Prop where
 cl:XCls K C
 ei:G0 K C fI=true
 kp:ku K (.ref C)=true
 fn:isFn K (.ref fI)=true
theorem XMk.call{K:jw}{C fI:jd}(M:XMk K C fI){prog:jk}{w:ju}{A:jx}{E:VPz}{s:jf}{rest:LWz}{Q:VPz}(X:K.In s.heap)(hrest:rest.length<=jt)
  (hq:jh (jm prog w) (A.under (.builtin "type.__call__" ⟨.ref C::rest,[]⟩)) (call (.ref fI) (.ref (s.heap.objs.size+1)::rest)) (λ r s'=>r=.none/\Q (.ref (s.heap.objs.size+1)) s') E { s with heap:=Cj s.heap C rest }) :
  jh (jm prog w) A (call (.ref C) rest) Q E s:=by
 obtain⟨hh,g,d,t,os⟩:=s;have q:=M.ei;have fnt:typeIn K (.ref fI)=some (.type "function"):=beq_iff_eq.mp M.fn;have hfI:∃oI:Obj,hh.get? fI=some oI/\oI.cls=.type "function":=by
  cases z:K.lookup fI with
  |none=>simp[typeIn,z]at fnt
  |some o=>exact⟨o,X _ _ z,by simpa [typeIn,z] using fnt⟩
 obtain⟨oI,hoI,hcI⟩:=hfI;unfold G0 at q;rw[ax]at q;obtain⟨nm,bs,bm,ns,qn,hd,sn,sub,ab,col,dd,k0,k1,k2,k3,k5,ho,ht⟩:=xGe q.1;have q:=q.2;rw[ho]at q;have q:(nsOkIn K ns&&kg K ns "__init__"==some (some (.ref fI)))=true:=q;rw[ax,beq_iff_eq]at q;have G:hh.Ns ns (hh.nsMap ns):=.of_isNs (isNs_of_in X q.1);exact QB PySem.F.excBase_ValueError (tail_of_in X ht) (X _ _ ho) G (NG X G q.2) hoI hcI hrest hq
theorem ObjOk.there{P:jk}{w:ju}{H:Hp}{h:jy}{a:jd}{o:HO}(x:ObjOk P w H h a o):∃u,h.get? a=some u:=by
 cases o with
 |lst xs=>obtain⟨_,_,_,_,e⟩:=x;exact⟨_,e⟩
 |tup xs=>obtain⟨_,_,_,p⟩:=x;obtain⟨_,e,_⟩:=p;exact⟨_,e⟩
 |dK kvs=>obtain⟨_,_,_,_,o,_,_,e,_⟩:=x;exact⟨_,e⟩
 |dT kvs=>obtain⟨_,_,_,_,o,_,_,e,_⟩:=x;exact⟨_,e⟩
 |set S n=>obtain⟨o,_,_,_,e,_⟩:=x;exact⟨_,e⟩
 |ins C dx fs=>obtain⟨_,_,_,e,_⟩:=x;exact⟨_,e⟩
 |own y=>obtain⟨_,e⟩:=x;exact⟨_,e⟩
 |xd fs=>obtain⟨_,⟨_,_,_,e,_⟩,_⟩:=x;exact⟨_,e⟩
 |rng lo hi=>obtain⟨_,_,_,e⟩:=x;exact⟨_,e⟩
 |frz ob u=>obtain⟨e,_⟩:=x;exact⟨_,e⟩
 |tbl ps=>exact⟨_,(show h.get? a=some _ from x)⟩
 |met f y=>exact⟨_,(show h.get? a=some _ from x)⟩
 |ext φ=>obtain⟨_,⟨_,e⟩,_⟩:=x;exact⟨_,e⟩
noncomputable def Tc(C:jd)(names:LSz):Sp:=λ vs H Q _=>∃x ws,vs=.ref x::ws/\ws.length=names.length/\H x=some (Hh C x) /\
 ∀d H',H d=none->H' x=some (El C d x)->H' d=some (Dh d (names.zip ws))->(∀a o,a≠x->H a=some o->H' a=some o)->Q .non H'
structure Pn(P:jk)(w:ju)(K:jw)(mg:MGz)(ja:jy)(k:Nat)(x:jD)(C:jd)(ps names:LSz):Prop where
 few:names.length<=1000
 ex:∃(f:jd)(fd:jr),XMk K C f/\A3 P w K mg ja CX0 k f fd ps (Tc C names)/\mg x=some (.ref C)/\Binds K fd ps []
section
variable{X:Cx}{CX:CXT}{k j:Nat}{f C:jd}{fd:jr}{ps names:LSz}{sp:Sp}{E:XK}{x m:jD}{p pos apos:Pos}{e o:jB}{es:List jB}{ta:TE}{t:TA}
theorem Tl{iZ:PNz}{σ:St}{H:Hp}{s:jf}{Q:VK}{us:LWz}{vs:LUz}(M:XMk X.K C f)(F:A3 X.prog X.w X.K X.mg X.ja CX k f fd ps sp)(hr:Room (k+1) X.A)(hb:Binds X.K fd ps [])
  (hx:CQ CX X E) (I:Inv X iZ σ H s) (r:Vals vs us) (hz:vs.length<=1000)
  (h:∀x,H x=none->sp (.ref x::vs) (upd H x (Hh C x)) (λ v H2=>v=.non/\Q (.ref x) H2) E) :
  jh (jm X.prog X.w) X.A (call (.ref C) us) (EP X iZ σ Q) X.xe s:=by
 have hq:=h (s.heap.objs.size+1) (I.hok.fresh (bJ _));have hus:us.length<=jt:=by rw[<-r.length,jC];lia
 have I2:Inv X iZ σ (upd H (s.heap.objs.size+1) (Hh C (s.heap.objs.size+1))) { s with heap:=Cj s.heap C us } :=
  I.laid (t':=s.toks) (λ b u z=>BY z) (bJ _) (Ue (Kc C us) rfl)
 have r2:Vals (V.ref (s.heap.objs.size+1)::vs) (Value.ref (s.heap.objs.size+1)::us):=.cons rfl r;have hl:(Value.ref (s.heap.objs.size+1)::us++[]).length=ps.length:=by
  have e:=r2.length;rw[F.len _ _ _ _ hq]at e;rw[aR];exact e.symm
 have hb2:=hb { s with heap:=Cj s.heap C us } (Value.ref (s.heap.objs.size+1)::us) I2.kIn hl;rw[aR]at hb2;refine M.call I.kIn hus (ki (jY (F.run _ X.stack _ _ ⟨Value.ref (s.heap.objs.size+1)::us,[]⟩ (Value.ref (s.heap.objs.size+1)::us) _ _ E (hr.make C us [])
  (I2.env0.make C us []) hb2 r2 hq) λ r s' hq'=>?_))
 cases r with
 |error e=>exact hx iZ σ _ _ e s' I2 hq'
 |ok fl =>
  cases fl with
  |ret u =>
   obtain⟨v,H',I3,rv,ev,q3⟩:=I2.after hq';subst ev;exact⟨rv,⟨V.ref (s.heap.objs.size+1),H',I3,rfl,q3⟩⟩
  |next=>exact False.elim hq'
  |brk=>exact False.elim hq'
  |cont=>exact False.elim hq'
end
structure Jr(fr tt:List jd)(e T:jd)(fl cls:jg)(d:Option jd)(h h':jy):Prop where
 nT:h.get? T=none
 keep:∀b o,b≠e->b∉fr->b∉tt->h.get? b=some o->h'.get? b=some o
 slot:∀b o,b∈fr->h.get? b=some o->∃sl,h'.get? b=some { o with slots:=sl }
 exc:∃vs sl,h'.get? e=some ⟨cls,d,.fields vs,sl⟩/\vs[1]?=some (.ref T)
 tb:∃o ts,h'.get? T=some o/\o.data=.fields ts/\ts[3]?=some fl
 old:∀t o ts,t∈tt->t≠e->h.get? t=some o->o.data=.fields ts->3<ts.size->∃o' ts',h'.get? t=some o'/\o'.data=.fields ts'/\ts'[3]?=some Value.none
section
variable{M:Model}{A:jx}{E:VPz}{s:jf}{ja:jy}{env:lH}{i6:List lH}{L e:jd}{cls:jg}{d:Option jd}{vs:Array jg}{sl:AOz}{Q:Unit->jf->Prop}
theorem IB{head:jg}{hadNext:Bool}(hfr:A.frames=some (env::i6))(hl:s.heap.FunFrames ja (env::i6))(hf:env.frame=some L)(he:s.heap.get? e=some ⟨cls,d,.fields vs,sl⟩)(hsz:1<vs.size)
    (h:∀h' T,Jr (frs (env::i6)) [] e T (jR L) cls d s.heap h'->Q () { s with heap:=h' }) :
    jh M A (do
      let a <-frameOf env
      let pl <-entryPlaceOf L hadNext
      let b <-EntryCells.newEntry head a .none (jR L) .none pl
      setField (.ref e) 1 b) Q E s:=by
  have hne:e∉frs (env::i6):=λ hm=>by
    obtain⟨_,o,ho,hnf⟩:=hl.mem hm;rw[he]at ho;cases ho;exact hnf vs rfl
  refine jc (wpAny_frameOf_fun hfr hl hf λ h₁ hs=>jc (wpAny_entryPlaceOf λ pl hpl=>?_));unfold EntryCells.newEntry newFields;refine jc (jM ?_ (hpl.sizeOk5 _ _ _ _ _));have e1:h₁.get? e=some ⟨cls,d,.fields vs,sl⟩:=(hs.2.1 e hne).trans he;generalize hob:({ cls:=.type "traceback",dict:=none,data:=.fields ([head,.ref L,.none,jR L,.none]++(if pl.isEmpty then List.replicate 6 Value.none else pl)).toArray }:Obj)=ob;have hfb:ob.isFreed=false:=by rw[<-hob];rfl
  have e2:=ae (h:=h₁) ob e1;refine j4 e2 rfl hsz (h _ h₁.objs.size ?_);have nTe:h₁.objs.size≠e:=db (ak e1);have kp:∀b o,b≠e->h₁.get? b=some o->((h₁.push ob).update e (Obj.mapFields (·.setIfInBounds 1 (Value.ref h₁.objs.size)))).get? b=some o:=λ b o nb hb=>by
    rw[bU _ _ (Ne.symm nb)];exact ae _ hb
  refine⟨fS (dF hs.1.symm),λ b o nb nf _ hb=>kp b o nb ((hs.2.1 b nf).trans hb),λ b o bf hb=>?_,⟨vs.setIfInBounds 1 (.ref h₁.objs.size),sl,?_,by simp[hsz]⟩,⟨ob,([head,.ref L,.none,jR L,.none]++(if pl.isEmpty then List.replicate 6 Value.none else pl)).toArray,?_,by rw[<-hob],?_⟩,λ_ _ _ z=>nomatch z⟩
  · obtain⟨sl',z⟩:=hs.2.2 b o hb
    exact⟨sl',kp b _ (λ q=>hne (q ▸ bf)) z⟩
  · exact bg _ e2 rfl
  · rw[bU _ _ (Ne.symm nTe)];exact ar _ hfb
  · simp
theorem M1(hfr:A.frames=some (env::i6))(hl:s.heap.FunFrames ja (env::i6))(hf:env.frame=some L)(he:s.heap.get? e=some ⟨cls,d,.fields vs,sl⟩)(h1:vs[1]?=some Value.none)
  (h:∀h' T,Jr (frs (env::i6)) [] e T (jR L) cls d s.heap h'->Q () { s with heap:=h' }):jh M A (noteFrame (.ref e) env) Q E s:=by
 unfold noteFrame;simp only[hf];refine jc (kX he rfl h1 ?_);rw[jj (by decide)];exact IB hfr hl hf he (aY.mp h1).1 h
theorem Qf{T1:jd}{oT:Obj}{ts:Array jg}(hfr:A.frames=some (env::i6))(hl:s.heap.FunFrames ja (env::i6))(hf:env.frame=some L)(he:s.heap.get? e=some ⟨cls,d,.fields vs,sl⟩)(h1:vs[1]?=some (.ref T1))
  (hT:s.heap.get? T1=some oT) (hd:oT.data=.fields ts) (h3:ts[3]?=some Value.none) (ne:T1≠e)
  (h:∀h' T,Jr (frs (env::i6)) [T1] e T (jR L) cls d s.heap h'->Q () { s with heap:=h' }):jh M A (noteFrame (.ref e) env) Q E s:=by
 unfold noteFrame;simp only[hf];refine jc (kX he rfl h1 ?_);rw[jo (show(Value.ref T1 != Value.none)=true from by simp)];refine jc (kX hT hd h3 ?_);rw[jj (show ¬((Value.none==jR L)=true) from by simp[jR])];have hs3:3<ts.size:=(aY.mp h3).1;refine jc (j4 hT hd hs3 ?_);have oth:∀b,b≠T1->(s.heap.update T1 (Obj.mapFields (·.setIfInBounds 3 Value.none))).get? b=s.heap.get? b:=λ b hb=>bU _ _ (Ne.symm hb);have nT1:T1∉frs (env::i6):=λ hm=>by
  obtain⟨_,o,ho,hnf⟩:=hl.mem hm;rw[hT]at ho;cases ho;exact hnf ts hd
 have self:(s.heap.update T1 (Obj.mapFields (·.setIfInBounds 3 Value.none))).get? T1=some (Obj.mapFields (·.setIfInBounds 3 Value.none) oT):=bg _ hT (Obj.isFreed_of_fields (Obj.data_mapFields hd _));refine IB (s:={ s with heap:=s.heap.update T1 (Obj.mapFields (·.setIfInBounds 3 Value.none)) }) hfr (hl.of_keeps λ b o hb hnf=>⟨o,(oth b λ q=>?_).trans hb,rfl⟩) hf ((oth e (Ne.symm ne)).trans he) (aY.mp h1).1 λ h' T n=>h h' T ?_
 .rw[q,hT]at hb;cases hb;exact hnf ts hd
 .have nT':s.heap.get? T=none:=by
   by_cases q:T=T1
   .have:=n.nT;rw[q]at this;rw[self]at this;cases this
   .rw[<-oth T q];exact n.nT
  refine⟨nT',λ b o nb nf nt hb=>n.keep b o nb nf (by simp) ((oth b (by simpa using nt)).trans hb),λ b o bf hb=>n.slot b o bf ((oth b λ q=>nT1 (q ▸ bf)).trans hb),n.exc,n.tb,λ t o us ht hte hb hdo hsz=>?_⟩;obtain rfl:t=T1:=by simpa using ht
  rw[hT]at hb;cases hb;rw[hd]at hdo;cases hdo;exact⟨_,_,n.keep t _ hte nT1 (by simp) self,Obj.data_mapFields hd _,by simp[hs3]⟩
theorem IT{T:jd}{oT:Obj}{ts:Array jg}(he:s.heap.get? e=some ⟨cls,d,.fields vs,sl⟩)(h1:vs[1]?=some (.ref T))(hT:s.heap.get? T=some oT)(hd:oT.data=.fields ts)(hs3:3<ts.size)
  (h:∀h',(∀b,b≠T->h'.get? b=s.heap.get? b)->(∃o' ts',h'.get? T=some o'/\o'.data=.fields ts'/\ts'[3]?=some Value.none)->Q () { s with heap:=h' }):jh M A (setFlight (.ref e) none) Q E s:=by
 unfold setFlight;refine jc (kX he rfl h1 ?_);rw[jo (show(Value.ref T != Value.none)=true from by simp)];refine j4 hT hd hs3 (h _ (λ b hb=>bU _ _ (Ne.symm hb)) ⟨_,_,bg _ hT (Obj.isFreed_of_fields (Obj.data_mapFields hd _)),Obj.data_mapFields hd _,by simp[hs3]⟩)
end
section
variable{prog:jk}{w:ju}{A:jx}{E:VPz}{s:jf}{K:jw}{C fI e:jd}{d:Option jd}{env:lH}
theorem N1{x:Sem jg}{Q:Flow->jf->Prop}(M:XMk K C fI)(hh:A.handled=none)
  (h:jh (jm prog w) A x (λ v s₁=>∃e d vs sl,v=.ref e/\K.In s₁.heap/\s₁.heap.get? e=some ⟨.ref C,d,.fields vs,sl⟩/\vs[1]?=some Value.none/\E (.ref e) s₁) E s) :
  jh (jm prog w) A (raiseStmt env (some x) none) Q E s:=by
 unfold raiseStmt;refine jc (jA h (λ v s₁ h₁=>?_) λ_ _ x=>x);obtain⟨e,d,vs,sl',rfl,X,he,h1,hE⟩:=h₁;obtain⟨hp,g,dr,tk,os⟩:=s₁;have q:=M.ei;unfold G0 at q;rw[ax]at q;obtain⟨nm,bs,bm,ns,qn,hd,sn,sub,ab,col,dd,k0,k1,k2,k3,k5,ho,ht⟩:=xGe q.1;have hC:hp.get? C=some (excClassObj nm qn C ns bs bm hd sn sub ab col dd k0 k1 k2 k3 k5 "ValueError.__new__"):=X _ _ ho;have hcB:(Value.ref C::bm).contains (.type "BaseException")=true:=by
  rw[ef,(tail_of_in X ht).hasType (show vErr.contains (.type "BaseException")=true by decide +kernel)];exact fG _
 repeat (first|with_reducible refine kX he rfl h1 ?_|with_reducible refine jW he ?_|with_reducible refine jW hC ?_|(with_reducible refine kZ hC ?_;rw[hcB])|wp_step)
 exact wpAny_raiseNew_none hh hE
end
noncomputable def TbO(T:jd):HO:=.ext λ h=>∃o ts,h.get? T=some o/\o.data=.fields ts/\ts[3]?=some Value.none
theorem Np{P:jk}{w:ju}{H:Hp}{h:jy}{T:jd}(t:∃o ts,h.get? T=some o/\o.data=.fields ts/\ts[3]?=some Value.none):ObjOk P w H h T (TbO T) :=
 ⟨t,let ⟨o,_,e,_⟩:=t;⟨o,e⟩,λ_ _ ⟨o,ts,e,r⟩ k=>⟨o,ts,k _ e,r⟩⟩
noncomputable def Py(H:Hp)(x C:jd)(d:Option jd):Prop:=(d=none/\H x=some (Hh C x))\/∃dx,d=some dx/\H x=some (El C dx x)
noncomputable def Ek(H:Hp)(x C:jd)(d:Option jd)(T:jd):Prop:=H x=some (G5 C d x T)/\H T=some (TbO T)/\T≠x
noncomputable def AH(H:Hp)(x C:jd)(d:Option jd)(T:jd):Hp:=upd (upd H T (TbO T)) x (G5 C d x T)
theorem DB{H:Hp}{x C T:jd}{d:Option jd}:AH H x C d T x=some (G5 C d x T):=Ae
theorem Fs{H:Hp}{x C T:jd}{d:Option jd}(n:T≠x):AH H x C d T T=some (TbO T):=by unfold AH;rw[Ad n,Ae]
theorem Ba{H:Hp}{x C T b:jd}{d:Option jd}(n:b≠x)(m:b≠T):AH H x C d T b=H b:=by unfold AH;rw[Ad n,Ad m]
section
variable{X:Cx}{iZ:PNz}{σ:St}{H:Hp}{s:jf}{x C T:jd}{d:Option jd}{h1 h2:jy}{fl:jg}{tt:List jd}
theorem T8(I:Inv X iZ σ H s){φ:jy->Prop}(hx:H x=some (.ext φ))(htt:∀t∈tt,H t=some (TbO t)/\t≠x)(n:Jr (frs X.stack) tt x T fl (.ref C) d s.heap h1)(k2:∀b,b≠T->h2.get? b=h1.get? b)
  (t2:∃o ts,h2.get? T=some o/\o.data=.fields ts/\ts[3]?=some Value.none):H T=none/\T≠x/\Un (frs X.stack) [] H (AH H x C d T) s.heap h2/\HOk X.prog X.w (AH H x C d T) h2:=by
 have hT:H T=none:=by
  cases q:H T with
  |none=>rfl
  |some u =>
   obtain⟨o,ho⟩:=(I.hok T u q).there;rw[n.nT]at ho;cases ho
 have nTx:T≠x:=λ z=>by rw[z,hx]at hT;cases hT
 have tn:∀b o,s.heap.get? b=some o->b≠T:=λ b o e z=>by rw[z,n.nT]at e;cases e
 have un:∀b,H b=none->b≠x:=λ b e z=>by rw[z,hx]at e;cases e
 have ut:∀b,H b=none->b∉tt:=λ b e z=>by rw[(htt b z).1]at e;cases e
 have hb:∀b u,H b=some u->b≠T:=λ b u e z=>by rw[z,hT]at e;cases e
 have old:∀t∈tt,∃o' ts',h2.get? t=some o'/\o'.data=.fields ts'/\ts'[3]?=some Value.none:=λ t ht=>by
  obtain⟨e,ne⟩:=htt t ht;obtain⟨⟨o,ts,e1,e2,e3⟩,_⟩:=(show ObjOk X.prog X.w H s.heap t (TbO t) from I.hok t _ e);obtain⟨o',ts',f1,f2,f3⟩:=n.old t o ts ht ne e1 e2 (aY.mp e3).1;exact⟨o',ts',(k2 t (hb t _ e)).trans f1,f2,f3⟩
 have exc:∃vs sl,h2.get? x=some ⟨.ref C,d,.fields vs,sl⟩/\vs[1]?=some (.ref T):=by
  obtain⟨vs,sl,e1,e2⟩:=n.exc;exact⟨vs,sl,(k2 x (Ne.symm nTx)).trans e1,e2⟩
 have ne_ext:∀b u,H b=some u->(∀ψ,u≠.ext ψ)->b≠x:=λ b u e z q=>by rw[q,hx]at e;cases e;exact z _ rfl
 refine⟨hT,nTx,⟨λ b o q e nf _=>?_,λ b o q e bf _=>?_,λ b o q e _=>?_,λ b o q _=>?_,λ b xs e=>?_,λ b o u e=>?_,λ b ps e=>⟨#[],?_⟩⟩,λ b u e=>?_⟩
 .exact(k2 b (tn b o q)).trans (n.keep b o (un b e) nf (ut b e) q)
 .obtain⟨sl,z⟩:=n.slot b o bf q;exact⟨sl,(k2 b (tn b o q)).trans z⟩
 .rw[Ba (un b e) (tn b o q)];exact e
 .by_cases z:b=x
  .obtain⟨vs,sl,e1,_⟩:=exc;exact⟨_,z ▸ e1⟩
  .by_cases zf:b∈frs X.stack
   .obtain⟨sl,z⟩:=n.slot b o zf q;exact⟨_,(k2 b (tn b o q)).trans z⟩
   .by_cases zt:b∈tt
    .obtain⟨o',_,e1,_⟩:=old b zt;exact⟨o',e1⟩
    .exact⟨o,(k2 b (tn b o q)).trans (n.keep b o z zf zt q)⟩
 .rw[Ba (ne_ext b _ e λ ψ z=>by cases z) (hb b _ e)];exact e
 .rw[Ba (ne_ext b _ e λ ψ z=>by cases z) (hb b _ e)];exact e
 .rw[Ba (ne_ext b _ e λ ψ z=>by cases z) (hb b _ e),e];simp
 .by_cases z:b=x
  .subst z;rw[DB]at e;cases e;obtain⟨vs,sl,e1,e2⟩:=exc;exact Uc e1 e2
  .by_cases zT:b=T
   .subst zT;rw[Fs nTx]at e;cases e;exact Np t2
   .rw[Ba z zT]at e;by_cases zt:b∈tt
    .rw[(htt b zt).1]at e;cases e;exact Np (old b zt)
    .have own_ne:∀c,H c=some (.own b)->c≠x/\c≠T:=λ c hc=>⟨ne_ext c _ hc (λ ψ z=>by cases z),hb c _ hc⟩;refine(I.hok b u e).stay (λ c v hc q=>?_) (λ c q=>?_) λ c xs q=>?_
     .have hcH:∃y,H c=some y:=by
       rcases hc with rfl|hc
       .exact⟨u,e⟩
       .exact⟨_,hc⟩
      obtain⟨y,hy⟩:=hcH;refine(k2 c (hb c y hy)).trans (n.keep c v ?_ (λ zf=>by rw[I.stkFree c zf]at hy;cases hy) (λ zt'=>?_) q)
      .rcases hc with rfl|hc
       .exact z
       .exact(own_ne c hc).1
      .rcases hc with rfl|hc
       .exact zt zt'
       .rw[(htt c zt').1]at hc;cases hc
     .rw[Ba (own_ne c q).1 (own_ne c q).2];exact q
     .rw[Ba (ne_ext c _ q λ ψ z=>by cases z) (hb c _ q)];exact q
theorem G9{E:VPz}{Q:Unit->jf->Prop}(I:Inv X iZ σ H s)(hst:X.stack=X.env::X.i6)(hfr:X.env.frame=some X.env.locals)(hf:Py H x C d\/∃T,Ek H x C d T)
  (h:∀h' T,H T=none->T≠x->Inv X iZ σ (AH H x C d T) { s with heap:=h' }->Q () { s with heap:=h' }) :
  jh (jm X.prog X.w) X.A (noteFrame (.ref x) X.env) (λ_ s₂=>jh (jm X.prog X.w) X.A (setFlight (.ref x) none) Q E s₂) E s:=by
 have fr:X.A.frames=some (X.env::X.i6):=hst ▸ I.ok.frames;have ff:s.heap.FunFrames X.ja (X.env::X.i6):=hst ▸ I.stack;have rest:∀{φ:jy->Prop}{tt:List jd}(hx:H x=some (.ext φ))(htt:∀t∈tt,H t=some (TbO t)/\t≠x)(h1:jy)(T:jd),Jr (frs (X.env::X.i6)) tt x T (jR X.env.locals) (.ref C) d s.heap h1 ->
   jh (jm X.prog X.w) X.A (setFlight (.ref x) none) Q E { s with heap:=h1 }:=λ{φ tt} hx htt h1 T n=>by
  obtain⟨vs,sl,e1,e2⟩:=n.exc;obtain⟨o,ts,f1,f2,f3⟩:=n.tb;refine IT (s:={ s with heap:=h1 }) e1 e2 f1 f2 (aY.mp f3).1 λ h2 k2 t2=>?_;obtain⟨hT,nT,un,ok⟩:=T8 I hx htt (hst ▸ n) k2 t2;exact h h2 T hT nT (I.call (g':=s.gens) (d':=s.drawn) (t':=s.toks) (ch:=[]) un ok I.bare (λ b z=>absurd z (by simp)))
 rcases hf with (⟨rfl,hx⟩|⟨dx,rfl,hx⟩)|⟨T,hx,hT,ne⟩
 .obtain⟨⟨vs,sl,e1,e2⟩,_⟩:=(show ObjOk X.prog X.w H s.heap x (Hh C x) from I.hok x _ hx);exact M1 fr ff hfr e1 e2 λ h1 T n=>rest (tt:=[]) hx (λ t z=>absurd z (by simp)) h1 T n
 .obtain⟨⟨vs,sl,e1,e2⟩,_⟩:=(show ObjOk X.prog X.w H s.heap x (El C dx x) from I.hok x _ hx);exact M1 fr ff hfr e1 e2 λ h1 T n=>rest (tt:=[]) hx (λ t z=>absurd z (by simp)) h1 T n
 .obtain⟨⟨vs,sl,e1,e2⟩,_⟩:=(show ObjOk X.prog X.w H s.heap x (G5 C d x T) from I.hok x _ hx);obtain⟨⟨o,ts,f1,f2,f3⟩,_⟩:=(show ObjOk X.prog X.w H s.heap T (TbO T) from I.hok T _ hT);exact Qf fr ff hfr e1 e2 f1 f2 f3 ne λ h1 T' n=>rest (tt:=[T]) hx (λ t z=>by rw[af.mp z];exact⟨hT,ne⟩) h1 T' n
theorem Qm{E:VPz}{Q:Unit->jf->Prop}(I:Inv X iZ σ H s)(hst:X.stack=X.env::X.i6)(hfr:X.env.frame=some X.env.locals)(hf:Py H x C d\/∃T,Ek H x C d T)
  (h:∀h' T,H T=none->T≠x->Inv X iZ σ (AH H x C d T) { s with heap:=h' }->Q () { s with heap:=h' }):jh (jm X.prog X.w) X.A (leaving X.env (.ref x)) Q E s:=by
 unfold leaving;exact jc (G9 I hst hfr hf h)
end
noncomputable def CX1(P:jk)(w:ju):CXT:=λ i6 H s E e s'=>∃x T C d H',e=Value.ref x/\s'.os=s.os/\AllBare s'.gens/\Un (frs i6) [] H H' s.heap s'.heap/\HOk P w H' s'.heap/\Ek H' x C d T/\E (.ref x) d H'
noncomputable def VD(X:Cx)(E:XK):Prop:=∀(iZ:PNz)(σ:St)(H:Hp)(s:jf)(x C:jd)(d:Option jd),Inv X iZ σ H s->(Py H x C d\/∃T,Ek H x C d T) ->
 (∀T,H T=none->T≠x->E (.ref x) d (AH H x C d T))->X.xe (.ref x) s
section
variable{P:jk}{w:ju}{K:jw}{mg:MGz}{ja:jy}{N:LSz}{i9:jD}{scope:jZ}{f:jd}{cd:jg}{A:jx}{i6:List lH}{s:jf}{H:Hp}{E E₁:XK}
theorem Hi:VD (B3 (CX1 P w) P w K mg ja N i9 scope f cd A i6 s H E) E:=by
 intro iZ σ H1 s1 x C d I hf hE;exact Qm I rfl rfl hf λ h' T hT nT I'=>⟨x,T,C,d,_,rfl,I'.os,I'.bare,I'.ja,I'.hok,⟨DB,Fs nT,nT⟩,hE T hT nT⟩
theorem N9:PassesOwn (jm (B3 (CX1 P w) P w K mg ja N i9 scope f cd A i6 s H E).prog (B3 (CX1 P w) P w K mg ja N i9 scope f cd A i6 s H E).w) (B3 (CX1 P w) P w K mg ja N i9 scope f cd A i6 s H E).A (B3 (CX1 P w) P w K mg ja N i9 scope f cd A i6 s H E).env (B3 (CX1 P w) P w K mg ja N i9 scope f cd A i6 s H E).xe:=PassesOwn.leaving
end
section
variable{X:Cx}{E E₁:XK}
theorem R3(hX:VD X E)(h:∀x C d T T2 H',E₁ (.ref x) d H'->Ek H' x C d T->H' T2=none->T2≠x->E (.ref x) d (AH H' x C d T2)):CQ (CX1 X.prog X.w) X E₁:=by
 rintro iZ σ H s e s' I ⟨x,T,C,d,H',rfl,os,bare,un,hok,fl,q⟩;obtain⟨hh,g,dr,t,os'⟩:=s';obtain rfl:os'=s.os:=os;exact hX iZ σ H' _ x C d (I.call (h':=hh) (g':=g) (d':=dr) (t':=t) (ch:=[]) un hok bare (λ b z=>absurd z (by simp))) (.inr ⟨T,fl⟩) λ T2 h2 n2=>h x C d T T2 H' q fl h2 n2
end
theorem Fun.okx{P:jk}{w:ju}{K:jw}{mg:MGz}{ja:jy}{x i9:jD}{st:jE}{f:jd}{fd:jr}{N ps:LSz}{k:Nat}{sp:Sp}(F:Fun K x i9 st f fd)(S:Ak N ps (Ah st))(len:∀vs H Q E,sp vs H Q E->vs.length=ps.length)
  (hbody:∀(cdv:jg)(A:jx)(i6:List lH)(s:jf)(H:Hp)(vs:LUz)(Q:VK)(E:XK),Room k (A.deeper (envOfC i9 (Ah st) s.heap.objs.size f cdv))->sp vs H Q E ->
   ∃t,PSs (B3 (CX1 P w) P w K mg ja N i9 (Ah st) f cdv A i6 s H E) (A7 st) t/\t { nx:=λ_ H'=>Q .non H',rt:=Q } (start N vs) H):A3 P w K mg ja (CX1 P w) (k+1) f fd ps sp:=by
 obtain⟨oc,od,kV,doc,pm,an,cdv,ct,osl,rfl,lk,hcd⟩:=F.ex;exact OV lk hcd S len λ A i6 s H vs Q E hr hsp=>hbody cdv A i6 s H vs Q E hr hsp
structure Dz(P:jk)(w:ju)(K:jw)(mg:MGz)(ja:jy)(k:Nat)(x:jD)(ps:LSz)(sp:Sp):Prop where
 ex:∃(f:jd)(fd:jr),A3 P w K mg ja (CX1 P w) k f fd ps sp/\mg x=some (.ref f)/\ku K (.ref f)=true/\Binds K fd ps []
noncomputable def UR(C:jd)(names:LSz)(E:XK)(t:TA):TS:=λ_ σ H=>t σ H λ vs H1=>vs.length=names.length /\
 ∀y dx T H2,H1 y=none->Same H1 H2->H2 y=some (El C dx y)->H2 dx=some (Dh dx (names.zip vs))->dx≠y->H2 T=none->T≠y->E (.ref y) (some dx) (AH H2 y C (some dx) T)
section
variable{X:Cx}{k j:Nat}{x:jD}{C:jd}{ps names:LSz}{sp:Sp}{p pos cpos:Pos}{e:jB}{es:List jB}{t:TA}{E E₁:XK}
theorem Ge(D:Dz X.prog X.w X.K X.mg X.ja k x ps sp)(hr:Room j X.A)(hx:CQ (CX1 X.prog X.w) X E₁)(ha:PA X (e::es) t)(hj:k<=j:=by decide)(hg:Gl X x:=by rfl)(hdb:(x==("__debug__":jD))=false:=by decide)
  (he:jv (e::es) X.env=(false,eval e X.env)::jv es X.env:=by rfl) (hpl:(jX pos (jv es X.env)).any (·.1)=false:=by rfl):PE X (.Call (.Name x p) (e::es) [] pos) (HL sp [] E₁ t):=by
 obtain⟨f,fd,F,hm,hk,hb⟩:=D.ex;exact OC F (hr.mono hj) hg hm hk hb .nil hx ha hdb he hpl
theorem Mg(hX:VD X E)(D:Pn X.prog X.w X.K X.mg X.ja k x C ps names)(hr:Room j X.A)(ha:PA X (e::es) t)(hc:X.calm=true:=by rfl)(hj:k+1<=j:=by decide)(hg:Gl X x:=by rfl)(hdb:(x==("__debug__":jD))=false:=by decide)
  (he:jv (e::es) X.env=(false,eval e X.env)::jv es X.env:=by rfl) (hpl:(jX cpos (jv es X.env)).any (·.1)=false:=by rfl):PS X (.Raise (some (.Call (.Name x p) (e::es) [] cpos)) none pos) (UR C names E t):=by
 intro iZ s σ H Dd I h;obtain⟨f,fd,M,F,hm,hb⟩:=D.ex;have pe:jh (jm X.prog X.w) X.A (eval (.Call (.Name x p) (e::es) [] cpos) X.env) (EP X iZ σ λ v H2=>∃y d,v=V.ref y/\Py H2 y C d/\∀T,H2 T=none->T≠y->E (.ref y) d (AH H2 y C d T)) X.xe s:=by
  refine jG (Dr I hg hm ?_ hdb);refine lK (h₀:=X.ja) I.ok.mod.kin M.kp (thn (ha cpos iZ s σ H _ I h) λ us s1 ⟨vs,H1,I1,r,hl,q⟩=>⟨I1.kIn,?_⟩) he hpl;refine Tl M F (hr.mono hj) hb Ke I1 r (hl ▸ D.few) λ y hy=>⟨y,vs,rfl,hl,Ae,λ d H' hd h1 h2 hs=>⟨rfl,y,some d,rfl,.inr ⟨d,rfl,h1⟩,λ T hT nT=>?_⟩⟩;refine q y d T H' hy (λ a o ho=>hs a o (Ag ho hy) ?_) h1 h2 (λ z=>by rw[z,Ae]at hd;cases hd) hT nT;rw[Ad (Ag ho hy)];exact ho
 rw[arm_exec_Raise];simp only[evalOpt,Option.map];refine jc (kq (N1 M (I.ok.hd hc) ?_));refine jc (thn pe λ v s1 ⟨u,H2,I2,r,y,d,ey,fr,hE⟩=>jc (kq (je ?_)));subst ey;obtain rfl:v=Value.ref y:=r;have ob:∃vs sl,s1.heap.get? y=some ⟨.ref C,d,.fields vs,sl⟩/\vs[1]?=some Value.none:=by
  rcases fr with ⟨rfl,hx⟩|⟨dx,rfl,hx⟩
  .exact(show ObjOk X.prog X.w H2 s1.heap y (Hh C y) from I2.hok y _ hx).1
  .exact(show ObjOk X.prog X.w H2 s1.heap y (El C dx y) from I2.hok y _ hx).1
 obtain⟨vs,sl,e1,e2⟩:=ob;exact⟨y,d,vs,sl,rfl,I2.kIn,e1,e2,hX iZ σ H2 s1 y C d I2 (.inl fr) hE⟩
end
noncomputable def FL:Nat->jy
 |0=>{}
 |n+1=>(FL n).push { cls:=.type "dict",data:=.dict #[] }
theorem FK:∀n,(FL n).objs.size=n
 |0=>rfl
 |n+1=>by rw[FL,bq,FK n]
theorem Sl{C C' x T T':jd}{d d':Option jd}(h:G5 C d x T=G5 C' d' x T'):C=C'/\d=d'/\T=T':=by
 have h:(HO.ext λ h=>∃vs sl,h.get? x=some ⟨.ref C,d,.fields vs,sl⟩/\vs[1]?=some (.ref T))=HO.ext λ h=>∃vs sl,h.get? x=some ⟨.ref C',d',.fields vs,sl⟩/\vs[1]?=some (.ref T'):=h;injection h with h;have e:=congrFun h ((FL x).push ⟨.ref C,d,.fields #[.none,.ref T],#[]⟩);have g:((FL x).push ⟨.ref C,d,.fields #[.none,.ref T],#[]⟩).get? x=some ⟨.ref C,d,.fields #[.none,.ref T],#[]⟩:=Heap.get?_push_at (FK x).symm rfl;have q:=e.mp ⟨_,_,g,rfl⟩;obtain⟨vs,sl,e1,e2⟩:=q;rw[g]at e1;cases e1;cases e2;exact⟨rfl,rfl,rfl⟩
noncomputable def XR(H:Hp)(x C:jd)(d:Option jd)(fs:LFz):Prop:=(∃dx,d=some dx/\dx≠x/\H dx=some (Dh dx fs))/\∃T,H x=some (G5 C d x T)
theorem UA{H1 H2:Hp}{y C dx T:jd}{fs:LFz}(hy:H1 y=none)(s:Same H1 H2)(e:H2 y=some (El C dx y))(ed:H2 dx=some (Dh dx fs))(hT:H2 T=none)(nd:dx≠y) :
  XR (AH H2 y C (some dx) T) y C (some dx) fs/\Same H1 (AH H2 y C (some dx) T) :=
 ⟨⟨⟨dx,rfl,nd,by rw[Ba nd (Ag ed hT)];exact ed⟩,T,DB⟩,λ a o ho=>by rw[Ba (Ag ho hy) (Ag (s a o ho) hT)];exact s a o ho⟩
theorem Ur{H H1:Hp}{x C C':jd}{d:Option jd}{T T2:jd}{fs:LFz}(hx:H1 x=none)(s:Same H1 H)(r:XR H x C d fs)(fl:Ek H x C' d T)(hT:H T2=none) :
  C=C'/\XR (AH H x C' d T2) x C d fs/\Same H1 (AH H x C' d T2):=by
 obtain⟨⟨dx,rfl,nd,ed⟩,T',e⟩:=r;have q:C=C':=by
  have:=fl.1;rw[e]at this;exact(Sl (Option.some.inj this)).1
 subst q;exact⟨rfl,⟨⟨dx,rfl,nd,by rw[Ba nd (Ag ed hT)];exact ed⟩,T2,DB⟩,λ a o ho=>by rw[Ba (Ag ho hx) (Ag (s a o ho) hT)];exact s a o ho⟩
noncomputable def Rf(H:Hp)(E:XK)(C:jd)(P:LFz->Hp->Prop):Prop:=∀x d fs H',H x=none->Same H H'->XR H' x C (some d) fs->P fs H'->E (.ref x) (some d) H'
theorem Rf.raise{H H1 H2:Hp}{E:XK}{C y dx T:jd}{P:LFz->Hp->Prop}{fs:LFz}(r:Rf H E C P)(s1:Same H H1)(hy:H1 y=none)(s:Same H1 H2)(e:H2 y=some (El C dx y))(ed:H2 dx=some (Dh dx fs))(nd:dx≠y)
  (hT:H2 T=none) (p:P fs (AH H2 y C (some dx) T)):E (.ref y) (some dx) (AH H2 y C (some dx) T):=by
 obtain⟨a,b⟩:=UA hy s e ed hT nd;have hy0:H y=none:=by
  cases q:H y with
  |none=>rfl
  |some o=>rw[s1 y o q]at hy;cases hy
 exact r y dx fs _ hy0 (s1.trans b) a p
noncomputable def XE(H:Hp)(R:jd->LFz->Hp->Prop):XK:=λ v d H'=>∃x C dx fs,v=.ref x/\d=some dx/\H x=none/\Same H H'/\XR H' x C (some dx) fs/\R C fs H'
theorem XE.rf{H:Hp}{R:jd->LFz->Hp->Prop}{C:jd}{P:LFz->Hp->Prop}(h:∀fs H',P fs H'->R C fs H'):Rf H (XE H R) C P:=λ x d fs H' hx s r p=>⟨x,C,d,fs,rfl,rfl,hx,s,r,h fs H' p⟩
theorem XE.on{H H0:Hp}{R:jd->LFz->Hp->Prop}{E:XK}(s0:Same H0 H)(st:∀C fs H' x C' d T2,R C fs H'->(∃φ,H' x=some (.ext φ))->H' T2=none->R C fs (AH H' x C' d T2))(hE:∀C,Rf H0 E C (R C)) :
  ∀x C d T T2 H',XE H R (.ref x) d H'->Ek H' x C d T->H' T2=none->T2≠x->E (.ref x) d (AH H' x C d T2):=by
 rintro x C d T T2 H' ⟨x',C',dx,fs,ev,rfl,hx,s,r,p⟩ fl hT2 nT2;obtain rfl:x=x':=Value.ref.inj ev;have hx0:H0 x=none:=by
  cases q:H0 x with
  |none=>rfl
  |some o=>rw[s0 x o q]at hx;cases hx
 obtain⟨rfl,r2,s2⟩:=Ur hx s r fl hT2;exact hE C' x dx fs _ hx0 (s0.trans s2) r2 (st C' fs H' x C' (some dx) T2 p ⟨_,fl.1⟩ hT2)
noncomputable def Stb(P:LFz->Hp->Prop):Prop:=∀fs H' x C' d T2,P fs H'->(∃φ,H' x=some (.ext φ))->H' T2=none->P fs (AH H' x C' d T2)
theorem KZ{l:LFz}:Stb λ fs _=>fs=l:=λ_ _ _ _ _ _ p _ _=>p
noncomputable def RU(H:Hp)(E:XK):jd->LFz->Hp->Prop:=λ C fs H'=>∃P,Rf H E C P/\P fs H'/\Stb P
theorem R4{H:Hp}{E:XK}:∀x C d T T2 H',XE H (RU H E) (.ref x) d H'->Ek H' x C d T->H' T2=none->T2≠x->E (.ref x) d (AH H' x C d T2) :=
 XE.on (Same.refl H) (λ C fs H' x C' d T2 ⟨P,r,p,st⟩ hx hT=>⟨P,r,st fs H' x C' d T2 p hx hT,st⟩) λ C x d fs H' hx s r ⟨P,rf,p,_⟩=>rf x d fs H' hx s r p
theorem Tp{H H2:Hp}{E:XK}{C:jd}{P:LFz->Hp->Prop}(s:Same H H2)(r:Rf H E C P)(st:Stb P):Rf H2 (XE H (RU H E)) C P:=λ x d fs H' hx s2 xr p=>by
 have hx0:H x=none:=by
  cases q:H x with
  |none=>rfl
  |some o=>rw[s x o q]at hx;cases hx
 exact⟨x,C,d,fs,rfl,rfl,hx0,s.trans s2,xr,P,r,p,st⟩
section
variable{X:Cx}{iZ:PNz}{σ:St}{H:Hp}{s:jf}
theorem Ht{M:Model}{A:jx}{E:VPz}{i:Nat}{n:jD}{pos:Pos}{Q:Unit->jf->Prop}(I:Inv X iZ σ H s)(hN:X.N.Nodup)(hi:X.N[i]?=some n)(hk:X.env.scope.names.lookup n=some .local)
    (h:∀s',Inv X iZ (σ.set i none) H s'->Q () s'):jh M A (do bindName X.env n .none;unbindBehindTheSuite X.env n pos) Q E s:=by
  obtain⟨m,hn,hl⟩:=id I.loc;have hcls:(X.env.scope.kind==.class||(X.env.scope.kind==.module&&X.env.locals != X.env.globals))=false:=by rw[I.ok.kind];rfl
  have hiσ:i<σ.length:=by rw[I.len];exact(aF.mp hi).1
  refine wpAny_nameGoes_keeps hk hn hcls λ h' v hn' hs=>h _ ?_;have nl:∀b o,X.s₀.heap.get? b=some o->b≠X.env.locals:=λ b o e=>aD (aK (ak e) I.ok.above);refine⟨I.ok,I.os,I.bare,⟨λ b o e z hb hx=>(hs.2 b (nl b o e)).trans (I.ja.keep b o e z hb hx),λ b o e z hb hx=>?_,I.ja.free,λ b o e hx=>?_,I.ja.tups,I.ja.frzs,I.ja.tbls⟩,⟨_,hn',λ j y v' e1 e2 e3=>?_⟩,λ y c e=>?_,I.free,I.freeC,λ p hp=>?_,λ b ob e=>?_,by simpa using I.len⟩
  · obtain⟨sl,e1⟩:=I.ja.slot b o e z hb hx
    exact⟨sl,(hs.2 b (nl b o e)).trans e1⟩
  · obtain⟨o',e1⟩:=I.ja.there b o e hx
    exact⟨o',(hs.2 b (nl b o e)).trans e1⟩
  · by_cases hj:j=i
    · subst hj
      rw[dD hiσ]at e2;cases e2
    · rw[dO (Ne.symm hj)]at e2
      obtain⟨u',r',q⟩:=hl j y v' e1 e2 e3;refine⟨u',r',?_⟩;rcases q with ⟨k,e⟩|⟨k,c,e,z⟩
      · have ny:y≠n:=λ e=>hj (IC hN e1 (e ▸ hi))
        exact .inl ⟨k,by simp[ny,e]⟩
      · exact .inr ⟨k,c,e,z.sameBut hs (I.cne y c e)⟩
  · obtain⟨w',z⟩:=I.cell y c e
    exact⟨w',z.sameBut hs (I.cne y c e)⟩
  · obtain⟨e,z,ne,nf,d⟩:=I.pin p hp
    exact⟨(hs.2 p.1 ne).trans e,z,ne,nf,d⟩
  · refine(I.hok b ob e).stay (λ c w' hc q=>(hs.2 c ?_).trans q) (λ_ q=>q) λ_ _ q=>q
    rintro rfl;rcases hc with hc|hc
    · rw[<-hc,I.free]at e;cases e
    · rw[I.free]at hc;cases hc
noncomputable abbrev Cx.suite(X:Cx)(x:jd):Cx:={ X with A:=X.A.mark (some (.ref x)),calm:=false,xe:=λ_ _=>False }
theorem Inv.suite(I:Inv X iZ σ H s)(x:jd):Inv (X.suite x) iZ σ H s :=
 ⟨⟨I.ok.mod,I.ok.kind,I.ok.glob,I.ok.blt,I.ok.above,I.ok.inj,I.ok.has,I.ok.cab,(λ z=>nomatch z),I.ok.frames,I.ok.stk,I.ok.exf,I.ok.bs,I.ok.bsz,I.ok.noex,I.ok.exfs,I.ok.funs,I.ok.frf⟩,I.os,I.bare,I.ja,I.loc,I.cell,I.free,I.freeC,I.pin,I.hok,I.len⟩
theorem Inv.unsuite{ok:X.Ok}{x:jd}(I:Inv (X.suite x) iZ σ H s):Inv X iZ σ H s :=
 ⟨ok,I.os,I.bare,I.ja,I.loc,I.cell,I.free,I.freeC,I.pin,I.hok,I.len⟩
end
noncomputable def PX(X:Cx)(e:jB)(t:TE)(E:XK):Prop:=∀(iZ:PNz)(s:jf)(σ:St)(H:Hp)(Q:VK)(Ex:VPz),Inv X iZ σ H s->t σ H Q ->
 (∀x T C d H' s',Inv X iZ σ H' s'->Ek H' x C d T->E (.ref x) d H'->Ex (.ref x) s')->jh (jm X.prog X.w) X.A (eval e X.env) (EP X iZ σ Q) Ex s
section
variable{X:Cx}{k j:Nat}{x:jD}{C:jd}{ps:LSz}{sp:Sp}{p pos:Pos}{e:jB}{es:List jB}{t:TA}{E:XK}
theorem Wo(D:Dz X.prog X.w X.K X.mg X.ja k x ps sp)(hr:Room j X.A)(ha:PA X.nox (e::es) t)(hj:k<=j:=by decide)(hg:Gl X x:=by rfl)(hdb:(x==("__debug__":jD))=false:=by decide)
  (he:jv (e::es) X.env=(false,eval e X.env)::jv es X.env:=by rfl) (hpl:(jX pos (jv es X.env)).any (·.1)=false:=by rfl):PX X (.Call (.Name x p) (e::es) [] pos) (HL sp [] E t) E:=by
 obtain⟨f,fd,F,hm,hk,hb⟩:=D.ex;intro iZ s σ H Q Ex I h hx;refine jG (Dr I hg hm ?_ hdb);refine lK (h₀:=X.ja) I.ok.mod.kin hk (jA (ha pos iZ s σ H _ (I.wish _) h) (λ us s1 ⟨vs,H1,I1',r,q⟩=>⟨I1'.unwish.kIn,?_⟩) λ_ _ z=>False.elim z) he hpl;have I1:Inv X iZ σ H1 s1:=I1'.unwish;have q:sp (vs++[]) H1 Q E:=q;rw[aR]at q;have hl:us.length=ps.length:=by rw[<-r.length];exact F.len _ _ _ _ q
 have hb2:=hb s1 us I1.kIn (by rw[aR];exact hl);rw[aR]at hb2;refine ki (jY (F.run X.A X.stack s1 H1 ⟨us,[]⟩ us vs Q E (hr.mono hj) I1.env0 hb2 r q) λ r s' hq=>?_);cases r with
 |error e =>
  obtain⟨x,T,C,d,H',rfl,os,bare,un,hok,fl,q'⟩:=hq;exact hx x T C d H' s' (I1.call' (ch:=[]) os un hok bare (λ b z=>absurd z (by simp))) fl q'
 |ok fl =>
  cases fl with
  |ret u=>exact I1.after hq
  |next=>exact False.elim hq
  |brk=>exact False.elim hq
  |cont=>exact False.elim hq
end
theorem Qh{M:Model}{A:jx}{E:VPz}{s:jf}{K:jw}{G C e:jd}{d:Option jd}{dt:Data}{sl':AOz}{Q:Bool->jf->Prop}(X:K.In s.heap)(hG:xG1 K G=true)
  (he:s.heap.get? e=some ⟨.ref C,d,dt,sl'⟩) (hs:mroIn K C (.ref G)=some true) (h:Q true s):jh M A (excMatches (.ref e) (.ref G)) Q E s:=by
 have LS:=looks_mroIn (M:=M) X hs;obtain⟨hp,g,dr,tk,os⟩:=s;obtain⟨nm,bs,bm,ns,qn,hd,sn,sub,ab,col,dd,k0,k1,k2,k3,k5,ho,ht⟩:=xGe hG;have hC:hp.get? G=some (excClassObj nm qn G ns bs bm hd sn sub ab col dd k0 k1 k2 k3 k5 "ValueError.__new__"):=X _ _ ho;have hcB:(Value.ref G::bm).contains (.type "BaseException")=true:=by
  rw[ef,(tail_of_in X ht).hasType (show vErr.contains (.type "BaseException")=true by decide +kernel)];exact fG _
 have f:=tc_notTuple;unfold excMatches
 repeat (first|with_reducible refine jW he ?_|with_reducible refine jW hC ?_|(with_reducible refine kZ hC ?_;rw[hcB])|(with_reducible refine LS.at ?_)|wp_step)
 exact h
noncomputable def U2(im:Nat)(D:DA):DA:={ nx:=λ σ H=>D.nx (σ.set im none) H,rt:=D.rt,bk:=λ σ H=>D.bk (σ.set im none) H,ct:=λ σ H=>D.ct (σ.set im none) H }
noncomputable def Xi(K:jw)(i im:Nat)(G:jd)(te:XK->TE)(ts:TS):TS:=λ D σ H=>∃E₁:XK,te E₁ σ H (λ v H1=>D.nx (σ.set i (some v)) H1) /\
 ∀x C d T T2 H',E₁ (.ref x) d H'->Ek H' x C d T->H' T2=none->T2≠x->mroIn K C (.ref G)=some true/\ts (U2 im D) (σ.set im (some (.ref x))) (AH H' x C d T2)
section
variable{X:Cx}{i im:Nat}{n m g:jD}{G:jd}{value:jB}{b₀:jE}{suite:List jE}{np apos gp hpos pos:Pos}{te:XK->TE}{ts:TS}
theorem PQ(hN:X.N.Nodup)(hi:X.N[i]?=some n)(hx:Loc X.env.scope n)(him:X.N[im]?=some m)(hm:X.env.scope.names.lookup m=some .local)(he:∀E,PX X value (te E) E)(hgl:Gl X g)(hg:X.mg g=some (.ref G))
    (hG:xG1 X.K G=true) (hst:X.stack=X.env::X.i6) (hfr:X.env.frame=some X.env.locals) (hs:∀x,PSs (X.suite x) (b₀::suite) ts)
    (hsw:swapsWith value (some (.Name n np)) apos.line X.env=pure false:=by rfl) (hf:X.fn n=true\/X.env.scope.names.lookup n=some .local:=by first|exact .inl rfl|exact .inr rfl|assumption) (hdb:(g==("__debug__":jD))=false:=by decide) :
    PS X (.Try [.Assign [.Name n np] value apos] [.ExceptHandler (some (.Name g gp)) (some m) (b₀::suite) hpos] [] [] pos) (Xi X.K i im G te ts):=by
  intro iZ s σ H D I ⟨E₁,h,hh⟩;rw[arm_exec_Try];refine jc (kq (wpAny_tryStmt_except ?_));refine lE (wpAny_Assign_Name (thn (he E₁ iZ s σ H _ _ I h λ x T C d H' s' I' fl q=>?_) λ v s1 ⟨y,H1,I1,r1,q1⟩=>?_) hsw)
  · refine G9 I' hst hfr (.inr ⟨T,fl⟩) λ h' T2 hT2 nT2 I2=>?_
    obtain⟨hsub,hts⟩:=hh x C d T T2 H' q fl hT2 nT2;have fl2:Ek (AH H' x C d T2) x C d T2:=⟨DB,Fs nT2,nT2⟩;obtain⟨⟨vs,sl,e1,e2⟩,_⟩:=(show ObjOk X.prog X.w (AH H' x C d T2) h' x (G5 C d x T2) from I2.hok x _ fl2.1);obtain⟨⟨o,tv,f1,f2,f3⟩,_⟩:=(show ObjOk X.prog X.w (AH H' x C d T2) h' T2 (TbO T2) from I2.hok T2 _ fl2.2.1);refine wpAny_handleBy_cons (codeAny_handlers_test (Dr (X:=X.suite x) (I2.suite x) hgl hg (Qh I2.kIn hG e1 hsub ?_) hdb)) (by intro z;cases z);show jU _ _ _ _ _;refine codeAny_handlers_suite_as (IT e1 e2 f1 f2 (aY.mp f3).1 λ h3 k3 t3=>?_);have same:upd (AH H' x C d T2) T2 (TbO T2)=AH H' x C d T2:=funext λ b=>by
      by_cases z:b=T2
      · rw[z,Ae,Fs nT2]
      · rw[Ad z]
    have I3:Inv X iZ σ (AH H' x C d T2) { s' with heap:=h3 }:=by
      have:=I2.write (x:=T2) (e:=T2) (h':=h3) (o:=TbO T2) (t':=s'.toks) (by rw[fl2.2.1];exact True.intro) (.inl rfl) (λ b u nb z=>(k3 b nb).trans z) (let ⟨o,_,e,_⟩:=t3;⟨o,e⟩) (Np t3);rw[same]at this;exact this
    refine DC (X:=X.suite x) (I3.suite x) hN him (.inl hm) (v:=.ref x) rfl (λ s4 I4=>?_) (.inr hm);refine jA (hs x iZ s4 _ _ (U2 im D) I4 hts) (λ fl s5 q5=>?_) λ_ _ z=>False.elim z;show jh (jm X.prog X.w) X.A (do bindName X.env m .none;unbindBehindTheSuite X.env m hpos) (λ_ s₃=>SP X iZ D fl s₃) X.xe s5;cases fl with
    |next=>obtain⟨σ',H5,I5,q⟩:=q5;exact Ht (I5.unsuite (ok:=I.ok)) hN him hm λ s6 I6=>⟨_,H5,I6,q⟩
    |brk=>obtain⟨σ',H5,I5,q⟩:=q5;exact Ht (I5.unsuite (ok:=I.ok)) hN him hm λ s6 I6=>⟨_,H5,I6,q⟩
    |cont=>obtain⟨σ',H5,I5,q⟩:=q5;exact Ht (I5.unsuite (ok:=I.ok)) hN him hm λ s6 I6=>⟨_,H5,I6,q⟩
    |ret u=>obtain⟨v,σ',H5,I5,r,q⟩:=q5;exact Ht (I5.unsuite (ok:=I.ok)) hN him hm λ s6 I6=>⟨v,_,H5,I6,r,q⟩
  · exact DC I1 hN hi hx r1 (λ s2 I2=>km (km ⟨_,H1,I2,q1⟩)) hf
end
noncomputable def KW(wi:TI)(g:TG)(tc:TT)(te:TE)(fr:List (Option Nat)):TE:=λ σ H Q=>wi σ H λ J H1=>∀acc,H1 acc=none->∃W:Nat->Nat->St->Hp->Prop,(∃m,W 0 m (stC fr σ) (upd H1 acc (.lst [])))/\∀i m σ1 H2,W i m σ1 H2 ->
 (J.stop i H2/\Q (.ref acc) H2)\/(J.go i H2/\∀x H3,J.yld i H2 x H3->g x σ1 H3 λ σ4 H4=>tc σ4 H4 λ b Hb=>match b with
  |true=>te σ4 Hb λ v H5=>∃xs,H5 acc=some (.lst xs)/\xs.length<jt/\∃m',m'<m/\W (i+1) m' σ4 (upd H5 acc (.lst (xs++[v])))
  |false=>∃m',m'<m/\W (i+1) m' σ4 Hb)
section
variable{prog:jk}{w:ju}{A:jx}{R:lI->jf->Prop}{s:jf}
theorem JM{elt target iter cnd:jB}{scope:jZ}{pos:Pos}{it acc:jg}{env:lH}(I:Nat->jf->Prop)
    (turn:∀n s,I n s->jh (jm prog w) A (pyNext it) (λ r s₁=>match r with
      |none=>R (.ok .next) s₁
      |some v=>jh (jm prog w) A (letOwnedTupleGo target it v) (λ_ s₁=>jh (jm prog w) A (assign target env v) (λ_ s₂ =>
          jh (jm prog w) A (forIn [cnd] true λ c r=>if r=true then do let ok <-isTrue c env (eval c env);pure (ForInStep.yield ok) else pure (ForInStep.yield r)) (λ ok s₃ =>
            if ok=true then jh (jm prog w) A (eval elt env) (λ x s₄=>jh (jm prog w) A (call (.builtin "list.append") [acc,x]) (λ_ s₅=>∃m,m<n/\I m s₅) (notedBy (jm prog w) A env λ e s'=>R (.error e) s') s₄)
              (notedBy (jm prog w) A env λ e s'=>R (.error e) s') s₃
            else ∃m,m<n/\I m s₃) (notedBy (jm prog w) A env λ e s'=>R (.error e) s') s₂)
          (notedBy (jm prog w) A env λ e s'=>R (.error e) s') s₁) (notedBy (jm prog w) A env λ e s'=>R (.error e) s') s₁) (notedBy (jm prog w) A env λ e s'=>R (.error e) s') s)
    (n:Nat) (h:I n s) :
    jU (jm prog w) A (.compLoop (.ListComp elt [⟨target,iter,[cnd],0⟩] scope pos) 0 it acc env) R s:=by
  refine codeAny_loop rfl I (λ n s hI=>?_) n h;show jh _ _ ((compTurn (.ListComp elt [⟨target,iter,[cnd],0⟩] scope pos) 0 it acc env).onRaise (λ x=>do noteFrame x env;theTreesLotGoes x)) _ _ s;refine wpAny_noted ?_;rw[compTurn_list];refine jc (kq (jc (jA (turn n s hI) (λ r s₁ h₁=>?_) λ_ _ h'=>h')));cases r with
  |none=>exact je h₁
  |some v =>
    refine jc (jA h₁ (λ_ s₁ h₁=>?_) λ_ _ h'=>h');refine jc (jA h₁ (λ_ s₂ h₂=>jc (jA h₂ (λ ok s₃ h₃=>?_) λ_ _ h'=>h')) λ_ _ h'=>h');cases ok with
    |false=>exact je ⟨rfl,h₃⟩
    |true=>exact jc (jc (jA h₃ (λ x s₄ h₄=>jc (jA h₄ (λ_ s₅ h₅=>je (je ⟨rfl,h₅⟩)) λ_ _ h'=>h')) λ_ _ h'=>h'))
end
section
variable{X:Cx}{elt tg iter:jB}{scope:jZ}{pos:Pos}{wi:TI}{g:TG}{te:TE}{N:LSz}{fr:List (Option Nat)}
variable{cnd:jB}{tc:TT}
theorem Ji{iZ:PNz}{σ:St}{H:Hp}{s:jf}{Q:VK}{cl:List (jD×jd)}{R:jg->jd->lI->jf->Prop}(hc:X.calm=true)(I:Inv X iZ σ H s)(hi:PI X tg iter wi)
  (hg:∀cl C s H ex,PG (AM X scope cl N C s H ex) tg g) (hcn:∀cl C s H ex,PT (AM X scope cl N C s H ex) cnd tc) (he:∀cl C s H ex,PE (AM X scope cl N C s H ex) elt te) (ck:FS X.env.scope X.N scope N fr)
  (c1:∀x c,cl.lookup x=some c->X.env.cells.lookup x=some c) (c2:∀x,(x,NameKind.free)∈scope.names->∃c,cl.lookup x=some c)
  (h:KW wi g tc te fr σ H Q)
  (hR:∀acc C s' H' m,s'.heap.Ns C m->Fq X iZ H' C->Inv X iZ σ H' s'->Q (.ref acc) H'->R (.ref acc) C (.ok .next) s') :
  jh (jm X.prog X.w) X.A (eval iter X.env) (λ x s₁=>jh (jm X.prog X.w) X.A (pyIter x) (λ it s₂=>jh (jm X.prog X.w) X.A (newList []) (λ acc s₃ =>
   jh (jm X.prog X.w) X.A (newFunctionEnv scope X.env.globals cl [] X.env.qual none .none (some X.env)) (λ cenv s₄ =>
    jU (jm X.prog X.w) X.A (.compStart (.ListComp elt [⟨tg,iter,[cnd],0⟩] scope pos) 0 it acc { cenv with scope:=relabel scope X.env }) (R acc cenv.locals) s₄) X.xe s₃) X.xe s₂) X.xe s₁) X.xe s:=by
 refine thn (hi iZ s σ H _ I h) λ v s1 h1=>thn h1 λ itv s2 h2=>?_;obtain⟨it,fp,tn,J,H2,e,I2,T,st2,f2,q2⟩:=h2;subst e;refine jM (wpAny_newFunctionEnv ck.nocell (by intro y hy;simp at hy) (λ h₁ hns₁ hsb₁=>?_) ck.kind);dsimp only at hns₁ hsb₁ |-;have I3:Inv X iZ σ (upd H2 s2.heap.objs.size (.lst [])) { s2 with heap:=s2.heap.push { cls:=.type "list",dict:=none,data:=.seq ([]:LWz).toArray } }:=I2.lnew (t':=s2.toks) (its:=[]) .nil (aP _);have acc0:H2 s2.heap.objs.size=none:=I2.fresh;obtain⟨W,⟨m0,w0⟩,turn⟩:=q2 s2.heap.objs.size acc0;generalize hH3:s2.heap.push { cls:=.type "list",dict:=none,data:=.seq ([]:LWz).toArray }=h3 at hns₁ hsb₁ I3 |-;have hz3:h3.objs.size=s2.heap.objs.size+1:=by rw[<-hH3,bq]
 have k23:∀b o,s2.heap.get? b=some o->h3.get? b=some o:=λ b o e=>by rw[<-hH3];exact ae _ e
 have k34:∀b o,h3.get? b=some o->h₁.get? b=some o:=λ b o e=>hsb₁.extBut b o (aD (ak e)) (ae _ e);have fpo:∀b∈fp,∃o,s2.heap.get? b=some o/\∀v,o.data≠.cell v:=T.obj 0 _ st2;have hex:∀b∈fp,Fq X iZ (upd H2 s2.heap.objs.size (.lst [])) b/\b<h3.objs.size:=λ b hb=>by
  obtain⟨o,eo,_⟩:=fpo b hb;have lt:=ak eo;obtain⟨f0,fr'⟩:=f2 b hb;exact⟨⟨by rw[Ad (aD lt)];exact f0,fr'⟩,by rw[hz3];exact bc lt⟩
 have I4:Inv (AM X scope cl N h3.objs.size { s2 with heap:=h3 } (upd H2 s2.heap.objs.size (.lst [])) fp) [] (stC fr σ) (upd H2 s2.heap.objs.size (.lst [])) { s2 with heap:=h₁,toks:=s2.toks+([]:List (jD×jg)).length } :=
  Jh I3 ck c1 c2 hex (ah _) hns₁ k34 rfl rfl
 have stat:∀{H':Hp},(∀b∈fp,H' b=none)->∀b∈fp,Fq (AM X scope cl N h3.objs.size { s2 with heap:=h3 } (upd H2 s2.heap.objs.size (.lst [])) fp) [] H' b:=λ hn b hb =>
  ⟨hn b hb,(I4.ok.exf b hb).1,I4.ok.exfs b hb,.inl hb,(I4.ok.exf b hb).2,λ p hp=>by simp at hp⟩
 have stn:∀i h h',tn i h->(∀b o,h.get? b=some o->h'.get? b=some o)->tn i h':=λ i h h' st kk=>T.keep i h h' st λ b _ o e=>kk b o e;have loop:jU (jm X.prog X.w) X.A (.compLoop (.ListComp elt [⟨tg,iter,[cnd],0⟩] scope pos) 0 (.ref it) (.ref s2.heap.objs.size) (compEnvC scope cl h3.objs.size X.env)) (R (.ref s2.heap.objs.size) h3.objs.size)
   { s2 with heap:=h₁,toks:=s2.toks+([]:List (jD×jg)).length }:=by
  refine JM (λ n s'=>∃i σ' H',Inv (AM X scope cl N h3.objs.size { s2 with heap:=h3 } (upd H2 s2.heap.objs.size (.lst [])) fp) [] σ' H' s'/\tn i s'.heap/\(∀b∈fp,H' b=none)/\W i n σ' H') ?_ m0
   ⟨0,_,_,I4,stn _ _ _ st2 λ b o e=>k34 b o (k23 b o e),λ b hb=>(hex b hb).1.1,w0⟩
  rintro n s3 ⟨i,σ3,H3,J3,st3,fr3,w3⟩;rcases turn i n σ3 H3 w3 with ⟨stop,qn⟩|⟨go,step⟩
  .refine Bv (thn (T.done (AM X scope cl N h3.objs.size { s2 with heap:=h3 } (upd H2 s2.heap.objs.size (.lst [])) fp) rfl rfl rfl hc i [] s3 σ3 H3 (λ_ _=>False) J3 (stat fr3) st3 stop) λ r s4 hz_=>?_);obtain⟨hr,J4⟩:=hz_;subst hr;obtain⟨mc,hmc,_⟩:=J4.loc;have I5:Inv X iZ σ H3 s4:=I3.call' (ch:=fp) J4.os J4.ja J4.hok J4.bare λ b hb=>⟨(hex b hb).1.2.2.2.1,(hex b hb).1.2.1,(hex b hb).1.2.2.2.2.1,(hex b hb).1.2.2.2.2.2⟩;exact hR _ _ s4 H3 mc hmc (I3.fpOk (ah _) J4.free) I5 qn
  .refine Bv (thn (T.item (AM X scope cl N h3.objs.size { s2 with heap:=h3 } (upd H2 s2.heap.objs.size (.lst [])) fp) rfl rfl rfl hc i [] s3 σ3 H3 (λ_ _=>False) J3 (stat fr3) st3 go) λ r s4 hz_=>?_);obtain⟨u,hr,h4⟩:=hz_;subst hr;refine Bv (thn h4 λ_ s5 hz_=>?_);obtain⟨x,H5,J5,r5,y5,st5,fr5⟩:=hz_;have J5':=J5.pinned (stat fr5) (T.obj _ _ st5);refine Bv (thn (hg _ _ _ _ _ _ s5 σ3 H5 x u _ J5' r5 (step x H5 y5)) λ_ s6 hz_=>?_);obtain⟨σ6,H6,J6,q6⟩:=hz_;refine wpAny_tests_one (Bv (thn (hcn _ _ _ _ _ _ s6 σ6 H6 _ J6 q6) λ b sb hz_=>?_));obtain⟨Hb,Jb,qb⟩:=hz_;cases b with
   |false =>
    obtain⟨m',hm',w7⟩:=qb;refine ite_ff ⟨m',hm',i+1,σ6,_,Jb.unpinned,T.keep _ _ _ st5 λ b hb o e=>(Jb.pin (b,o) (av _ (av _ (AX hb e)))).1,λ b hb=>?_,w7⟩;obtain⟨o,e,d⟩:=T.obj _ _ st5 b hb;exact(Jb.pin (b,o) (av _ (av _ (AX hb e)))).2.1
   |true =>
    refine ite_tt ?_;refine Bv (thn (he _ _ _ _ _ _ sb σ6 Hb _ Jb qb) λ y s7 hz_=>?_);obtain⟨v7,H7,J7,r7,xs,hx,hz,m',hm',w7⟩:=hz_;refine Bv (thn (Gq _ s7 σ6 H7 (.ref s2.heap.objs.size) [v7] (.ref s2.heap.objs.size) [y] (λ v H8=>H8=upd H7 s2.heap.objs.size (.lst (xs++[v7]))) J7 rfl (.cons r7 .nil) ⟨_,xs,v7,rfl,rfl,hx,hz,rfl⟩) λ_ s8 hz_=>?_);obtain⟨_,H8,J8,_,e8⟩:=hz_;subst e8;refine⟨m',hm',i+1,σ6,_,J8.unpinned,T.keep _ _ _ st5 λ b hb o e=>(J8.pin (b,o) (av _ (av _ (AX hb e)))).1,λ b hb=>?_,w7⟩;obtain⟨o,e,d⟩:=T.obj _ _ st5 b hb;exact(J8.pin (b,o) (av _ (av _ (AX hb e)))).2.1
 exact codeAny_compStart_list loop (T.self _ 0 _ _ _ (stn _ _ _ st2 λ b o e=>k34 b o (k23 b o e)) loop)
theorem DV(hc:X.calm=true)(hi:PI X tg iter wi)(hg:∀cl C s H ex,PG (AM X scope cl N C s H ex) tg g)(hcn:∀cl C s H ex,PT (AM X scope cl N C s H ex) cnd tc)(he:∀cl C s H ex,PE (AM X scope cl N C s H ex) elt te)
  (hk:Eu X.env.scope X.N scope N fr=true:=by rfl) (hs:∀x,foldedSetIterable iter X.env x=pure x:=by intro _;rfl):PE X (.ListComp elt [⟨tg,iter,[cnd],0⟩] scope pos) (KW wi g tc te fr):=by
 intro iZ s σ H Q I h;have ck:=Dx hk;obtain⟨cl,e1,c1,c2⟩:=Hz I.ok ck;rw[eval_ListComp];refine kc (use:=none) (Q:=EP X iZ σ Q) rfl hs e1 ck.kind ck.loc (Ji (R:=λ acc C=>compPost (jm X.prog X.w) X.A X.xe none (EP X iZ σ Q) acc C) hc I hi hg hcn he ck c1 c2 h λ acc C s' H' m hn f I' q=>?_);obtain⟨f0,f1,f2,f3,f4,f5⟩:=f;exact⟨m,hn,λ h' hs'=>⟨.ref acc,H',I'.turned (t':=s'.toks) (λ b o hb e=>hs'.extBut b o hb e) f0 f1 f3 f4 f5,rfl,q⟩⟩
theorem DS{y:jD}{py spos:Pos}{gy:TG}(hc:X.calm=true)(hy:PG X (.Name y py) gy)(hi:PI X tg iter wi)(hg:∀cl C s H ex,PG (AM X scope cl N C s H ex) tg g)(hcn:∀cl C s H ex,PT (AM X scope cl N C s H ex) cnd tc)(he:∀cl C s H ex,PE (AM X scope cl N C s H ex) elt te)
    (hk:Eu X.env.scope X.N scope N fr=true:=by rfl) (hsw:swapsWith (.ListComp elt [⟨tg,iter,[cnd],0⟩] scope pos) (some (.Name y py)) spos.line X.env=pure true:=by rfl) (hs:∀x,foldedSetIterable iter X.env x=pure x:=by intro _;rfl) :
    PS X (.Assign [.Name y py] (.ListComp elt [⟨tg,iter,[cnd],0⟩] scope pos) spos) (P8 (KW wi g tc te fr) gy):=by
  intro iZ s σ H D I h;have ck:=Dx hk;obtain⟨cl,e1,c1,c2⟩:=Hz I.ok ck;rw[exec_Assign_Name_used _ _ _ _ hsw];refine jc (kq (jc ?_));show jh _ X.A (do let _ <-comprehension (.ListComp elt [⟨tg,iter,[cnd],0⟩] scope pos) scope X.env _ (newList []) false (eval iter X.env) (some (assign (.Name y py) X.env))) _ _ s;refine jc (jA (kc (use:=some (assign (.Name y py) X.env)) (Q:=λ_ s'=>SP X iZ D .next s') rfl hs e1 ck.kind ck.loc
    (Ji (R:=λ acc C=>compPost (jm X.prog X.w) X.A X.xe (some (assign (.Name y py) X.env)) (λ_ s'=>SP X iZ D .next s') acc C) hc I hi hg hcn he ck c1 c2 h λ acc C s' H' m hn f I' q=>?_)) (λ_ s' hq=>je (je hq)) λ_ _ e=>e)
  show jh _ X.A (assign (.Name y py) X.env (.ref acc)) _ _ _;obtain⟨oC,es,ep,hoC,hdC,hrC⟩:=id hn;have IP:=I'.pinned (fp:=[C]) (λ b hb=>by rw[af.mp hb];exact f) (λ b hb=>by rw[af.mp hb];exact⟨oC,hoC,λ v z=>by rw[hdC]at z;cases z⟩);refine thn (hy _ s' σ H' (.ref acc) (.ref acc) _ IP rfl q) λ_ s'' ⟨σ6,H6,I6,q6⟩=>?_;have pC:=I6.pin (C,oC) (av _ (av _ (AX (af.mpr rfl) hoC)));obtain⟨f0,f1,f2,f3,f4,f5⟩:=f;exact⟨m,⟨oC,es,ep,pC.1,hdC,hrC⟩,λ h' hs'=>⟨σ6,H6,I6.unpinned.turned (t':=s''.toks) (λ b o hb e=>hs'.extBut b o hb e) pC.2.1 f1 f3 f4 f5,q6⟩⟩
end
section
variable{X:Cx}{a b c d:jB}{ta tb tc td:TE}{pos:Pos}
theorem B5{K:jw}(hK:X.K=K:=by rfl):IxR X (UW K):=by subst hK;exact Aw
theorem RZ{K:jw}(hK:X.K=K:=by rfl):IxR X (Wm K):=by subst hK;exact Du
end
noncomputable def fW(acc:jd)(n:Nat)(Pv:Nat->LUz->St->Hp->Prop)(i m:Nat)(σ:St)(H:Hp):Prop:=i<=n/\m=n-i/\∃xs,xs.length<=i/\H acc=some (.lst xs)/\Pv i xs σ H
noncomputable def fNx(acc:jd)(n:Nat)(Pv:Nat->LUz->St->Hp->Prop)(i:Nat)(σ:St)(v:V)(H:Hp):Prop:=∃xs,H acc=some (.lst xs)/\xs.length<jt/\∃m',m'<n-i/\fW acc n Pv (i+1) m' σ (upd H acc (.lst (xs++[v])))
noncomputable def fSk(acc:jd)(n:Nat)(Pv:Nat->LUz->St->Hp->Prop)(i:Nat)(σ:St)(H:Hp):Prop:=∃m',m'<n-i/\fW acc n Pv (i+1) m' σ H
theorem fNx.mk{acc:jd}{n:Nat}{Pv:Nat->LUz->St->Hp->Prop}{i:Nat}{σ:St}{v:V}{H:Hp}{xs:LUz}(hn:n<=jt)(hi:i<n)(hl:xs.length<=i)(ha:H acc=some (.lst xs))(hp:Pv (i+1) (xs++[v]) σ (upd H acc (.lst (xs++[v])))) :
  fNx acc n Pv i σ v H:=⟨xs,ha,by lia,n-(i+1),by lia,hi,rfl,xs++[v],by rw[aH,bx];lia,Ae,hp⟩
theorem fSk.mk{acc:jd}{n:Nat}{Pv:Nat->LUz->St->Hp->Prop}{i:Nat}{σ:St}{H:Hp}{xs:LUz}(hi:i<n)(hl:xs.length<=i)(ha:H acc=some (.lst xs))(hp:Pv (i+1) xs σ H):fSk acc n Pv i σ H:=⟨n-(i+1),by lia,hi,rfl,xs,by lia,ha,hp⟩
theorem Fm{K:jw}{a:jd}{ys:LUz}{g:TG}{tc:TT}{te:TE}{σ:St}{H1:Hp}{acc:jd}{Qr:Hp->Prop}(Pv:Nat->LUz->St->Hp->Prop)(h0:Pv 0 [] σ (upd H1 acc (.lst [])))
  (hq:∀i xs σ H,i<=ys.length->H acc=some (.lst xs)->Pv i xs σ H->SqL K H a ys)
  (hs:∀i x xs σ H,ys[i]?=some x->i<ys.length->xs.length<=i->H acc=some (.lst xs)->Pv i xs σ H->g x σ H λ σ2 H2=>tc σ2 H2 λ b Hb=>match b with
   |true=>te σ2 Hb λ v H3=>fNx acc ys.length Pv i σ2 v H3
   |false=>fSk acc ys.length Pv i σ2 Hb)
  (hd:∀xs σ H,xs.length<=ys.length->H acc=some (.lst xs)->Pv ys.length xs σ H->Qr H) :
  ∃W:Nat->Nat->St->Hp->Prop,(∃m,W 0 m σ (upd H1 acc (.lst [])))/\∀i m σ1 H2,W i m σ1 H2 ->
   ((Itl K a).stop i H2/\Qr H2)\/((Itl K a).go i H2/\∀x H3,(Itl K a).yld i H2 x H3->g x σ1 H3 λ σ4 H4=>tc σ4 H4 λ b Hb=>match b with
    |true=>te σ4 Hb λ v H5=>∃xs,H5 acc=some (.lst xs)/\xs.length<jt/\∃m',m'<m/\W (i+1) m' σ4 (upd H5 acc (.lst (xs++[v])))
    |false=>∃m',m'<m/\W (i+1) m' σ4 Hb):=by
 refine⟨fW acc ys.length Pv,⟨ys.length,aP _,rfl,[],ah _,Ae,h0⟩,?_⟩;rintro i m σ1 H2 ⟨hi,rfl,xs,hl,ha,hp⟩;have hsq:=hq i xs σ1 H2 hi ha hp;rcases cV i ys.length with h|h
 .refine .inr ⟨⟨ys,ys[i],hsq,ag h⟩,?_⟩;rintro x H3 ⟨rfl,hx⟩;exact hs i x xs σ1 H3 (hx ys hsq) h hl ha hp
 .have e:i=ys.length:=b8 hi h;subst e;exact .inl ⟨⟨ys,hsq,ah _⟩,hd xs σ1 H2 hl ha hp⟩
section
variable{X:Cx}
theorem Hm:CQ (CX1 X.prog X.w) X (λ_ _ _=>False):=by
 rintro iZ σ H s e s' I ⟨x,T,C,d,H',rfl,os,bare,un,hok,fl,q⟩;exact False.elim q
theorem Rb{K:jw}(hK:X.K=K:=by rfl):SlR X (UV K):=by subst hK;exact Fz
end
theorem Paired.get{α β:Type}{F:α->β->Prop}:∀{l₁:List α}{l₂:List β},Paired F l₁ l₂->∀{i:Nat}{a:α},l₁[i]?=some a->∃b,l₂[i]?=some b/\F a b
 |_,_,.nil,i,a,h=>by simp at h
 |_,_,.cons f t,0,a,h=>by
  simp only[List.getElem?_cons_zero,Option.some.injEq]at h;subst h;exact⟨_,rfl,f⟩
 |_,_,.cons f t,i+1,a,h=>by
  simp only[List.getElem?_cons_succ]at h |-;exact Paired.get t h
theorem RX{P:jk}{w:ju}{k:Key}{u:jg}(h:(AA P w).is k u=true):RelV (kV k) u:=by
 rcases AQ (show IK k u=true from h) with ⟨i,t,rfl,rfl⟩|⟨x,t,rfl,rfl⟩
 .exact⟨t,rfl⟩
 .exact⟨t,rfl⟩
noncomputable def Itm(a:jd)(ob:Obj):It :=
 ⟨λ i H=>∃kvs p,H a=some (.frz ob (.dK kvs))/\kvs[i]?=some p,
  λ i H y H'=>∃t p,(∀kvs,H a=some (.frz ob (.dK kvs))->kvs[i]?=some p)/\y=.ref t/\H t=none/\H'=upd H t (.tup [kV p.1,p.2]),
  λ i H=>∃kvs,H a=some (.frz ob (.dK kvs))/\kvs.length<=i⟩
theorem L6{P:jk}{w:ju}{H:Hp}{h:jy}{a:jd}{ob:Obj}{kvs:List (Key×V)}{ents:Array kQ}{n ep:Nat}(ok:HOk P w H h)(e:H a=some (.frz ob (.dK kvs)))(hd:ob.data=.dict ents ep)(hn:ents.size=n) :
  ∃vs,KV kvs vs/\h.DictAt (AA P w) a vs ep/\vs.length=n:=by
 obtain⟨ho,_,_,vs,rel,o,es,ep',h1,h2,h3,h4,h5,h6⟩:=(show ObjOk P w H h a (.frz ob (.dK kvs)) from ok a _ e);rw[ho]at h1;cases h1;rw[hd]at h3;cases h3;refine⟨vs,rel,⟨_,_,ho,h2,hd,h4,h5,h6⟩,?_⟩;rw[<-h5.length,aW];exact hn
theorem Nm{P:jk}{w:ju}{K:jw}{es:List jB}{k:Nat}{pos:Pos}(a it:jd){ob:Obj}{ents:Array kQ}{n ep:Nat}(hd:ob.data=.dict ents ep)(hn:ents.size=n) :
  MV P w K (.Tuple es k pos) (Itm a ob) [it] it (λ i h=>∃ok ov,IsItemIter h it a i n ep ok ov) where
 mem:=by simp
 obj:=λ i h st b hb=>by
  obtain⟨ok,ov,he⟩:=st;rw[af.mp hb];exact⟨_,he,λ v z=>by
   have z':Data.fields _=Data.cell v:=z;cases z'⟩
 keep:=λ i h h' st kk=>by
  obtain⟨ok,ov,he⟩:=st;exact⟨ok,ov,kk it (by simp) _ he⟩
 item:=by
  intro X hP hw hK hc i iZ s σ H E I hf st hg;subst hP hw hK;obtain⟨ok,ov,he⟩:=st;obtain⟨kvs,p,hq,hx⟩:=hg;obtain⟨vs,rel,hat,hl⟩:=L6 I.hok hq hd hn;obtain⟨⟨k',u⟩,hu,hk',ru⟩:=Paired.get rel hx;have fi:=hf it (by simp);subst hl;refine wpAny_pyNext_items_item he hat hu λ key h' hkey ho hT hsz kk=>?_;refine⟨_,rfl,?_⟩;have hfr:H s.heap.objs.size=none:=I.hok.fresh (ah _);have ltI:it<s.heap.objs.size:=ak he;have rk:RelV (kV p.1) key:=by
   have e:p.1=k':=hk';rw[e];exact RX hkey
  have I1:Inv X iZ σ (upd H s.heap.objs.size (.tup [kV p.1,p.2])) { s with heap:=h',toks:=s.toks }:=by
   refine K0 I fi fi (λ b o nb _ z=>kk b o nb z) ⟨_,ho⟩ ⟨_,ho⟩ ⟨?_,[key,u],.cons rk (.cons ru .nil),⟨_,hT,rfl,_,rfl⟩⟩;show 2<=jt;decide
  refine wpAny_letOwnedTupleGo_items (s:={ s with heap:=h' }) ho λ h2 he2 sb=>?_;have nI:it≠s.heap.objs.size:=aD ltI;have fi2:(upd H s.heap.objs.size (.tup [kV p.1,p.2])) it=none:=by rw[Ad nI];exact fi.1
  have I2:Inv X iZ σ (upd H s.heap.objs.size (.tup [kV p.1,p.2])) { ({ s with heap:=h',toks:=s.toks }:jf) with heap:=h2,toks:=s.toks } :=
   I1.turned (t':=s.toks) (it:=it) (λ b o hb z=>(sb.2 b hb).trans z) fi2 fi.2.1 fi.2.2.2.1 fi.2.2.2.2.1 fi.2.2.2.2.2
  refine⟨.ref s.heap.objs.size,_,I2,rfl,⟨_,p,λ ys hy=>?_,rfl,hfr,rfl⟩,⟨_,_,he2⟩,λ b hb=>?_⟩
  .rw[hq]at hy;cases hy;exact hx
  .rw[af.mp hb];exact fi2
 done:=by
  intro X hP hw hK hc i iZ s σ H E I hf st hg;subst hP hw hK;obtain⟨ok,ov,he⟩:=st;obtain⟨kvs,hq,hx⟩:=hg;obtain⟨vs,rel,hat,hl⟩:=L6 I.hok hq hd hn;obtain⟨f0,f1,f2,f3,f4,f5⟩:=hf it (by simp);have hle:kvs.length=vs.length:=rel.length;subst hl;exact wpAny_pyNext_items_end (I.ok.hd hc) he hat (be (by lia)) λ h' eb=>⟨rfl,I.turned (t':=s.toks) (λ b o hb z=>eb b o hb z) f0 f1 f3 f4 f5⟩
 self:=λ_ _ _ _ _ st h=>by
  obtain⟨ok,ov,he⟩:=st;exact kcp_self he h
noncomputable def Vt(td:TE):TI:=λ σ H R=>td σ H λ x H1=>∃a kvs,x=.ref a/\H1 a=some (.dK kvs)/\∀ob,R (Itm a ob) (upd H1 a (.frz ob (.dK kvs)))
section
variable{X:Cx}
theorem Il{o:jB}{es:List jB}{k:Nat}{tpos apos cpos:Pos}{td:TE}(hp:PE X o td)
  (hb:attributeBase o "items" X.env (eval o X.env)=eval o X.env:=by rfl) (hline:(apos.endLine==cpos.line)=true:=by rfl) :
  PI X (.Tuple es k tpos) (.Call (.Attribute o "items" apos) [] [] cpos) (Vt td):=by
 intro iZ s σ H R I h;refine wpAny_Call_method0_late hb hline (thn (hp iZ s σ H _ I h) λ v s1 hz_=>?_);obtain⟨x,H1,I1,r1,q1⟩:=hz_;obtain⟨a,kvs,e,ea,q⟩:=q1;subst e;cases r1;obtain⟨hty,hnd,hsys⟩:=NQ I1 (.inl ⟨kvs,.inl ea⟩);obtain⟨_,_,vs,rel,dd⟩:=Sr I1.hok ea;refine⟨"dict","dict.items",ci,fk,PySem.F.type_dict_items,hty,hnd,Calls.callWith_builtin rfl (PySem.evalArgs_none ?_)⟩;refine call_meetsIn fk dd.typeIs PySem.F.entry_dict_items (PySem.F.args_dict_items_1 _) (meets_dict_items (AA X.prog X.w) a hsys) ⟨⟨vs,dd⟩,?_⟩;obtain⟨ob,ents,ep,g1,g2,g3,g4,g5,g6⟩:=id dd;have hat:s1.heap.DictAt (AA X.prog X.w) a vs ep:=⟨ob,ents,g1,g2,g3,g4,g5,g6⟩;refine wpAny_pyIter_items (knd:=AA X.prog X.w) ⟨_,ar _ rfl,rfl,rfl⟩ (hat.push _) ?_;have I2:Inv X iZ σ H1 { s1 with heap:=s1.heap.push { cls:=.type "dict_items",data:=.fields #[.ref a] },toks:=s1.toks }:=I1.kept λ b u z=>ae _ z;have I3:=I2.kept (h':=(s1.heap.push { cls:=.type "dict_items",data:=.fields #[.ref a] }).push { cls:=.type "dict_itemiterator",data:=.fields #[.none,.bool false,.ref a,.int 0 0,.int vs.length 0,.int ep 0,.none,.none] }) (t':=s1.toks) λ b u z=>ae _ z;have g1':((s1.heap.push { cls:=.type "dict_items",data:=.fields #[.ref a] }).push { cls:=.type "dict_itemiterator",data:=.fields #[.none,.bool false,.ref a,.int 0 0,.int vs.length 0,.int ep 0,.none,.none] }).get? a=some ob:=ae _ (ae _ g1);have I4:=I3.write (x:=a) (e:=a) (o:=.frz ob (.dK kvs)) (h':=(s1.heap.push { cls:=.type "dict_items",data:=.fields #[.ref a] }).push { cls:=.type "dict_itemiterator",data:=.fields #[.none,.bool false,.ref a,.int 0 0,.int vs.length 0,.int ep 0,.none,.none] }) (t':=s1.toks)
  (by rw[ea];exact True.intro) (.inl rfl) (λ b u _ z=>z) ⟨ob,g1'⟩ ⟨g1',I3.hok a _ ea⟩
 have hsz:ents.size=vs.length:=by rw[<-g5.length,aW]
 have na:s1.heap.objs.size+1≠a:=db (bc (ak g1));refine⟨(s1.heap.push { cls:=.type "dict_items",data:=.fields #[.ref a] }).objs.size,[(s1.heap.push { cls:=.type "dict_items",data:=.fields #[.ref a] }).objs.size],_,_,_,rfl,I4,Nm a _ g3 hsz,⟨_,_,ar _ rfl⟩,λ b hb'=>?_,q ob⟩;rw[af.mp hb'];refine I2.fpOk (ah _) ?_;rw[Ad (by rw[bq];exact na)];exact I2.hok.fresh (ah _)
end
theorem Q0{a:jd}{ob:Obj}{kvs:List (Key×V)}{g:TG}{tb:TS}{D:DA}{σ:St}{H:Hp}(Pv:Nat->St->Hp->Prop)(h0:Pv 0 σ H)(hl:∀i σ H,i<=kvs.length->Pv i σ H->H a=some (.frz ob (.dK kvs)))
  (hs:∀i p σ H t,kvs[i]?=some p->Pv i σ H->H t=none->g (.ref t) σ (upd H t (.tup [kV p.1,p.2])) λ σ2 H2=>tb { D with nx:=Pv (i+1),ct:=Pv (i+1),bk:=D.nx } σ2 H2) (hd:∀σ H,Pv kvs.length σ H->D.nx σ H) :
  ∃W:Nat->Nat->St->Hp->Prop,(∃m,W 0 m σ H)/\∀i m σ H,W i m σ H ->
   ((Itm a ob).stop i H/\D.nx σ H)\/((Itm a ob).go i H/\∃N:St->Hp->Prop,(∀σ' H',N σ' H'->∃m',m'<m/\W (i+1) m' σ' H')/\∀x H',(Itm a ob).yld i H x H'->g x σ H' λ σ2 H2=>tb { D with nx:=N,ct:=N,bk:=D.nx } σ2 H2):=by
 refine⟨λ i m σ H=>m=kvs.length-i/\i<=kvs.length/\Pv i σ H,⟨kvs.length,by simp,aP _,h0⟩,?_⟩;rintro i m σ H ⟨rfl,hi,p⟩;have q:=hl i σ H hi p;by_cases hlt:i<kvs.length
 .refine .inr ⟨⟨kvs,kvs[i],q,by simp[hlt]⟩,Pv (i+1),λ σ' H' p'=>⟨kvs.length-(i+1),by lia,rfl,hlt,p'⟩,λ x H' y=>?_⟩;obtain⟨t,z,hz,rfl,ht,rfl⟩:=y;exact hs i z σ H t (hz kvs q) p ht
 .have e:i=kvs.length:=by lia
  subst e;exact .inl ⟨⟨kvs,q,ah _⟩,hd σ H p⟩
theorem MQ{lo:Int}{n:Nat}{g:TG}{tc:TT}{te:TE}{σ:St}{H1:Hp}{acc:jd}{Qr:Hp->Prop}(Pv:Nat->LUz->St->Hp->Prop)(h0:Pv 0 [] σ (upd H1 acc (.lst [])))
  (hs:∀i xs σ H,i<n->xs.length<=i->H acc=some (.lst xs)->Pv i xs σ H->g (.int (lo+i)) σ H λ σ2 H2=>tc σ2 H2 λ b Hb=>match b with
   |true=>te σ2 Hb λ v H3=>fNx acc n Pv i σ2 v H3
   |false=>fSk acc n Pv i σ2 Hb)
  (hd:∀xs σ H,xs.length<=n->H acc=some (.lst xs)->Pv n xs σ H->Qr H) :
  ∃W:Nat->Nat->St->Hp->Prop,(∃m,W 0 m σ (upd H1 acc (.lst [])))/\∀i m σ1 H2,W i m σ1 H2 ->
   ((Itr lo n).stop i H2/\Qr H2)\/((Itr lo n).go i H2/\∀x H3,(Itr lo n).yld i H2 x H3->g x σ1 H3 λ σ4 H4=>tc σ4 H4 λ b Hb=>match b with
    |true=>te σ4 Hb λ v H5=>∃xs,H5 acc=some (.lst xs)/\xs.length<jt/\∃m',m'<m/\W (i+1) m' σ4 (upd H5 acc (.lst (xs++[v])))
    |false=>∃m',m'<m/\W (i+1) m' σ4 Hb):=by
 refine⟨fW acc n Pv,⟨n,aP _,rfl,[],ah _,Ae,h0⟩,?_⟩;rintro i m σ1 H2 ⟨hi,rfl,xs,hl,ha,hp⟩;rcases cV i n with h|h
 .refine .inr ⟨h,?_⟩;rintro x H3 ⟨rfl,rfl⟩;exact hs i xs σ1 H3 h hl ha hp
 .have e:i=n:=b8 hi h;subst e;exact .inl ⟨ah _,hd xs σ1 H2 hl ha hp⟩
noncomputable def Itk(a:jd)(ob:Obj):It :=
 ⟨λ i H=>∃kvs p,H a=some (.frz ob (.dK kvs))/\kvs[i]?=some p,
  λ i H y H'=>∃p,(∀kvs,H a=some (.frz ob (.dK kvs))->kvs[i]?=some p)/\y=kV p.1/\H'=H,
  λ i H=>∃kvs,H a=some (.frz ob (.dK kvs))/\kvs.length<=i⟩
theorem HG{P:jk}{w:ju}{K:jw}{tg:jB}(a it:jd){ob:Obj}{ents:Array kQ}{n ep:Nat}(hd:ob.data=.dict ents ep)(hn:ents.size=n) :
  MV P w K tg (Itk a ob) [it] it (λ i h=>h.IsKeyIter it a i n ep) where
 mem:=by simp
 obj:=λ i h st b hb=>by
  obtain⟨o,e,c,d⟩:=st;rw[af.mp hb];exact⟨o,e,λ v z=>by rw[d]at z;cases z⟩
 keep:=λ i h h' st k=>st.at λ o e=>k it (by simp) o e
 item:=by
  intro X hP hw hK hc i iZ s σ H E I hf st hg;subst hP hw hK;obtain⟨kvs,p,hq,hx⟩:=hg;obtain⟨vs,rel,hat,hl⟩:=L6 I.hok hq hd hn;obtain⟨⟨k',u⟩,hu,hk',ru⟩:=Paired.get rel hx;obtain⟨f0,f1,f2,f3,f4,f5⟩:=hf it (by simp);subst hl;refine wpAny_pyNext_dict_item st hat hu λ key h' hkey st' sb=>?_;have rk:RelV (kV p.1) key:=by
   have e:p.1=k':=hk';rw[e];exact RX hkey
  have I1:Inv X iZ σ H { s with heap:=h' }:=I.turned (t':=s.toks) (λ b o hb e=>(sb.2 b hb).trans e) f0 f1 f3 f4 f5;refine⟨_,rfl,letGo_keyiter (s':={ s with heap:=h' }) st' ⟨kV p.1,H,I1,rk,⟨p,λ ys hy=>?_,rfl,rfl⟩,st',λ b hb=>(hf b hb).1⟩⟩;rw[hq]at hy;cases hy;exact hx
 done:=by
  intro X hP hw hK hc i iZ s σ H E I hf st hg;subst hP hw hK;obtain⟨kvs,hq,hx⟩:=hg;obtain⟨vs,rel,hat,hl⟩:=L6 I.hok hq hd hn;obtain⟨f0,f1,f2,f3,f4,f5⟩:=hf it (by simp);have hle:kvs.length=vs.length:=rel.length;subst hl;exact wpAny_pyNext_dict_end (I.ok.hd hc) st hat (be (by lia)) λ h' eb=>⟨rfl,I.turned (t':=s.toks) (λ b o hb z=>eb b o hb z) f0 f1 f3 f4 f5⟩
 self:=λ_ _ _ _ _ st h=>wpAny_pyIter_keyiter st h
noncomputable def Vs(td:TE):TI:=λ σ H R=>td σ H λ x H1=>∃a kvs,x=.ref a/\Rd H1 a (.dK kvs)/\∀ob,R (Itk a ob) (upd H1 a (.frz ob (.dK kvs)))
section
variable{X:Cx}
theorem Ru{tg o:jB}{td:TE}(hp:PE X o td):PI X tg o (Vs td):=by
 intro iZ s σ H R I h;refine thn (hp iZ s σ H _ I h) λ v s1 hz_=>?_;obtain⟨x,H1,I1,r1,q1⟩:=hz_;obtain⟨a,kvs,e,ea,q⟩:=q1;subst e;cases r1;obtain⟨hty,hnd,hsys⟩:=NQ I1 (.inl ⟨kvs,ea⟩);obtain⟨_,_,vs,rel,dd⟩:=FN I1.hok ea;obtain⟨ob,ents,ep,g1,g2,g3,g4,g5,g6⟩:=id dd;have hat:s1.heap.DictAt (AA X.prog X.w) a vs ep:=⟨ob,ents,g1,g2,g3,g4,g5,g6⟩;have hsz:ents.size=vs.length:=by rw[<-g5.length,aW]
 refine wpAny_pyIter_dict hsys hat ?_;have I3:=I1.kept (h':=s1.heap.push { cls:=.type "dict_keyiterator",data:=.fields #[.ref a,.int 0 0,.int vs.length 0,.int ep 0] }) (t':=s1.toks) λ b u z=>ae _ z;have g1':(s1.heap.push { cls:=.type "dict_keyiterator",data:=.fields #[.ref a,.int 0 0,.int vs.length 0,.int ep 0] }).get? a=some ob:=ae _ g1;have na:s1.heap.objs.size≠a:=db (ak g1);rcases ea with ea|⟨ob',ea⟩
 .have I4:=I3.write (x:=a) (e:=a) (o:=.frz ob (.dK kvs)) (h':=s1.heap.push { cls:=.type "dict_keyiterator",data:=.fields #[.ref a,.int 0 0,.int vs.length 0,.int ep 0] }) (t':=s1.toks)
   (by rw[ea];exact True.intro) (.inl rfl) (λ b u _ z=>z) ⟨ob,g1'⟩ ⟨g1',I3.hok a _ ea⟩
  refine⟨s1.heap.objs.size,[s1.heap.objs.size],_,_,_,rfl,I4,HG a _ g3 hsz,⟨_,ar _ rfl,rfl,rfl⟩,λ b hb'=>?_,q ob⟩;rw[af.mp hb'];refine I1.fpOk (ah _) ?_;rw[Ad na];exact I1.hok.fresh (ah _)
 .obtain⟨y1,_⟩:=(show ObjOk X.prog X.w H1 s1.heap a (.frz ob' (.dK kvs)) from I1.hok a _ ea);rw[g1]at y1;cases y1;have eH:upd H1 a (.frz ob (.dK kvs))=H1:=by
   funext c
   by_cases z:c=a
   .rw[z,Ae,ea]
   .rw[Ad z]
  have qq:=q ob;rw[eH]at qq;refine⟨s1.heap.objs.size,[s1.heap.objs.size],_,_,_,rfl,I3,HG a _ g3 hsz,⟨_,ar _ rfl,rfl,rfl⟩,λ b hb'=>?_,qq⟩;rw[af.mp hb'];exact I1.fpOk (ah _) (I1.hok.fresh (ah _))
theorem QA:BK X (.builtin "len") (λ xs H Q=>∃a kvs,xs=[V.ref a]/\Rd H a (.dK kvs)/\Q (.int kvs.length) H):=by
 intro iZ s σ H xs us Q I r h;obtain⟨a,kvs,rfl,ha,q⟩:=h;obtain⟨u,rfl,ru⟩:=D0 r;cases ru;exact WF I ha λ t s' I'=>⟨.int kvs.length,H,I',⟨t,rfl⟩,q⟩
end
structure Ng(K:jw)(C:jd):Prop where
 cl:Cls K C
 ha:jH K (.ref C) "__class__"=some (some (.builtin "object.__class__"))
 hn:specialIn K (.builtin "object.__class__") "__get__"=some (some (.builtin "getset_descriptor.__get__"))
 htk:takesIn K (.builtin "object.__class__")=some true
 hm:mroIn K C (.type "object")=some true
section
variable{X:Cx}
theorem Oa:BK X (.builtin "isinstance") (λ xs H Q=>∃a C dx fs c u b,xs=[.ref a,c]/\H a=some (.ins C dx fs)/\Ng X.K C/\RelV c u/\(∀u',RelV c u'->u'=u)/\ka X.K (.ref C) u=some b/\Q (.bl b) H):=by
 intro iZ s σ H xs us Q I r h;obtain⟨a,C,dx,fs,c,u,b,rfl,he,hc,ru,uq,hk,q⟩:=h;obtain⟨v1,v2,rfl,r1,r2⟩:=LQ r;have:=uq v2 r2;subst this;exact Ku I r1 (.ins he hc.cl hc.ha hc.hn hc.htk hc.hm) hk λ tk=>⟨.bl b,H,I.tok tk,rfl,q⟩
end
noncomputable def Itv(K:jw)(a:jd)(n:Nat):It :=
 ⟨λ i H=>∃xs,SqL K H a xs/\xs.length=n/\i<n,λ i H x H'=>H'=H/\∀xs,SqL K H a xs->xs[n-1-i]?=some x,λ i H=>n<=i⟩
theorem QN{P:jk}{w:ju}{K:jw}{tg:jB}(a it:jd)(n:Nat):MV P w K tg (Itv K a n) [it] it (λ i h=>i<=n/\h.IsRevIter it a ((n:Int)-1-i)) where
 mem:=by simp
 obj:=λ i h st b hb=>by
  have e:b=it:=by simpa using hb
  subst e;obtain⟨_,o,e,c,d⟩:=st;exact⟨o,e,λ v z=>by rw[d]at z;cases z⟩
 keep:=λ i h h' st k=>⟨st.1,st.2.at λ o e=>k it (by simp) o e⟩
 item:=by
  intro X hP hw hK hc i iZ s σ H E I hf st hg;subst hP hw hK;obtain⟨xs,hq,hn,hi⟩:=hg;obtain⟨hin,st⟩:=st;obtain⟨its,rv,p,hz⟩:=I.list hq;have hx:xs[n-1-i]?=some (xs[n-1-i]'(by lia)):=ag (by lia);obtain⟨u,hu,ru⟩:=rv.get hx;obtain⟨f0,f1,f2,f3,f4,f5⟩:=hf it (by simp);have st':s.heap.IsRevIter it a (((n-1-i:Nat):Int)):=by
   rw[show(((n-1-i:Nat):Int))=(n:Int)-1-i by lia];exact st
  refine wpAny_pyNext_rev_item st' p.isList (x:=u) (by simpa using hu) λ h' st' sb=>?_;have I1:Inv X iZ σ H { s with heap:=h' }:=I.turned (t':=s.toks) (λ b o hb e=>(sb.2 b hb).trans e) f0 f1 f3 f4 f5;obtain⟨o,e,c,d⟩:=id st';refine⟨u,rfl,OT (s:={ s with heap:=h' }) e c d (by decide) ⟨_,H,I1,ru,⟨rfl,λ ys hy=>by rw[I.list_inj hy hq];exact hx⟩,⟨by lia,?_⟩,λ b hb=>(hf b hb).1⟩⟩;rw[show(n:Int)-1-((i+1:Nat):Int)=((n-1-i:Nat):Int)-1 by lia];exact st'
 done:=by
  intro X hP hw hK hc i iZ s σ H E I hf st hg;subst hP hw hK;obtain⟨hin,st⟩:=st;obtain⟨f0,f1,f2,f3,f4,f5⟩:=hf it (by simp);have e:i=n:=b8 hin hg;subst e;rw[show(i:Int)-1-(i:Int)=-1 by lia]at st;exact wpAny_pyNext_rev_end (I.ok.hd hc) st λ h' eb=>⟨rfl,I.turned (t':=s.toks) (λ b o hb e=>eb b o hb e) f0 f1 f3 f4 f5⟩
 self:=λ_ _ _ _ _ st h=>wpAny_pyIter_revIter st.2 h
noncomputable def X2(K:jw)(ta:TA):TI:=λ σ H R=>ta σ H λ vs H1=>∃a xs,vs=[.ref a]/\SqL K H1 a xs/\R (Itv K a xs.length) H1
theorem JN:bootBuiltins "reversed"=some (.type "reversed"):=rfl
section
variable{X:Cx}{tg:jB}
theorem Tw{a:jB}{ta:TA}{p pos:Pos}(hg:Gl X "reversed")(hm:X.mg "reversed"=none)(ha:PA X [a] ta)(hs:jv [a] X.env=[(false,eval a X.env)]:=by rfl) :
  PI X tg (.Call (.Name "reversed" p) [a] [] pos) (X2 X.K ta):=by
 intro iZ s σ H R I h;refine Call_ (BS I hg hm JN (PyProof.Rows.callWith_type1 (thn (ha pos iZ s σ H _ I h) λ us s1 hz_=>?_) hs rfl));obtain⟨vs,H1,I1,r1,q1⟩:=hz_;obtain⟨b,xs,e,hq,q⟩:=q1;subst e;cases r1 with
 |cons r rr =>
  cases rr;cases r;obtain⟨its,rv,pl,hz⟩:=I1.list hq;have hl:=rv.length;refine call_reversed_list pl.isList ?_;have I2:Inv X iZ σ H1 { s1 with heap:=s1.heap.push (revObj b ((its.toArray.size:Int)-1)) }:=I1.kept (t':=s1.toks) λ c o e=>ae _ e;refine wpAny_pyIter_revIter (s:={ s1 with heap:=s1.heap.push (revObj b ((its.toArray.size:Int)-1)) }) ⟨_,ar _ rfl,rfl,rfl⟩ ?_;refine⟨s1.heap.objs.size,[s1.heap.objs.size],_,_,H1,rfl,I2,QN b _ xs.length,⟨aP _,⟨_,ar _ rfl,rfl,?_⟩⟩,λ c hc=>?_,q⟩
  .show Data.fields _=Data.fields _;rw[show((its.toArray.size:Int)-1)=(xs.length:Int)-1-((0:Nat):Int) by rw[aj,<-hl];lia]
  .have e:c=s1.heap.objs.size:=by simpa using hc
   subst e;exact I1.fpOk (ah _) (I1.hok.fresh (ah _))
end
theorem Ua{K:jw}{a:jd}{xs:LUz}{g:TG}{tb:TS}{D:DA}{σ:St}{H:Hp}(Pv:Nat->St->Hp->Prop)(h0:Pv 0 σ H)(hl:∀i σ H,i<=xs.length->Pv i σ H->SqL K H a xs)
  (hs:∀i x σ H,xs[xs.length-1-i]?=some x->i<xs.length->Pv i σ H->g x σ H λ σ2 H2=>tb { D with nx:=Pv (i+1),ct:=Pv (i+1),bk:=D.nx } σ2 H2) (hd:∀σ H,Pv xs.length σ H->D.nx σ H) :
  ∃W:Nat->Nat->St->Hp->Prop,(∃m,W 0 m σ H)/\∀i m σ H,W i m σ H ->
   ((Itv K a xs.length).stop i H/\D.nx σ H)\/((Itv K a xs.length).go i H/\∃N:St->Hp->Prop,(∀σ' H',N σ' H'->∃m',m'<m/\W (i+1) m' σ' H')/\∀x H',(Itv K a xs.length).yld i H x H'->g x σ H' λ σ2 H2=>tb { D with nx:=N,ct:=N,bk:=D.nx } σ2 H2):=by
 refine⟨λ i m σ H=>m=xs.length-i/\i<=xs.length/\Pv i σ H,⟨xs.length,by simp,aP _,h0⟩,?_⟩;rintro i m σ H ⟨rfl,hi,p⟩;have q:=hl i σ H hi p;by_cases hlt:i<xs.length
 .refine .inr ⟨⟨xs,q,rfl,hlt⟩,Pv (i+1),λ σ' H' p'=>⟨xs.length-(i+1),by lia,rfl,hlt,p'⟩,λ x H' y=>?_⟩;obtain⟨e,y⟩:=y;subst e;exact hs i x σ _ (y xs q) hlt p
 .have e:i=xs.length:=by lia
  subst e;exact .inl ⟨ah _,hd σ H p⟩
structure FunD(K:jw)(x i9:jD)(st:jE)(f:jd)(fd:jr):Prop where
 ex:∃(oc:jg)(od:Option jd)(T:jd)(kV doc pm:jg)(an:Option jd)(cdv ct:jg)(osl:AOz)(o:Obj)(n:Nat),
  fd=fnOf x i9 (Bz st) (A7 st) (Ah st) (.ref T) kV doc pm an cdv ct/\K.lookup f=some ⟨oc,od,.func fd,osl⟩/\codeIn K cdv i9=true/\K.lookup T=some o/\o.data=.seq #[.none] n
 kp:ku K (.ref f)=true
section
variable{P:jk}{w:ju}{K:jw}{mg:MGz}{ja:jy}
theorem FunD.ok{x i9:jD}{st:jE}{f:jd}{fd:jr}{N ps:LSz}{k:Nat}{sp:Sp}(F:FunD K x i9 st f fd)(S:Ak N ps (Ah st))(len:∀vs H Q E,sp vs H Q E->vs.length=ps.length)
  (hbody:∀(cdv:jg)(A:jx)(i6:List lH)(s:jf)(H:Hp)(vs:LUz)(Q:VK)(E:XK),Room k (A.deeper (envOfC i9 (Ah st) s.heap.objs.size f cdv))->sp vs H Q E ->
   ∃t,PSs (B3 CX0 P w K mg ja N i9 (Ah st) f cdv A i6 s H E).nox (A7 st) t/\t { nx:=λ_ H'=>Q .non H',rt:=Q } (start N vs) H):A3 P w K mg ja CX0 (k+1) f fd ps sp:=by
 obtain⟨oc,od,T,kV,doc,pm,an,cdv,ct,osl,o,n,rfl,lk,hcd,lT,dT⟩:=F.ex;refine OV lk hcd S len λ A i6 s H vs Q E hr hsp=>?_;obtain⟨t,h,q⟩:=hbody cdv A i6 s H vs Q E hr hsp;exact⟨t,h.nox,q⟩
theorem FunD.binds{x i9:jD}{st:jE}{f:jd}{fd:jr}{ps:LSz}{ds:LWz}(F:FunD K x i9 st f fd)
  (h:∀(T:jd)(kV doc pm:jg)(an:Option jd)(cdv ct:jg)(us:LWz),(us++ds).length=ps.length->∃k:Option (Array jg)->Sem (List (jD×jg)),
   bindArgs (fnOf x i9 (Bz st) (A7 st) (Ah st) (.ref T) kV doc pm an cdv ct) ⟨us,[]⟩=seqItems? (.ref T) >>= k/\k (some #[.none])=pure (ps.zip (us++ds))):Binds K fd ps ds:=by
 obtain⟨oc,od,T,kV,doc,pm,an,cdv,ct,osl,o,n,rfl,lk,hcd,lT,dT⟩:=F.ex;intro s us X hl;obtain⟨k,h1,h2⟩:=h T kV doc pm an cdv ct us hl;exact .of_defaults rfl (X _ _ lT) dT h1 h2
end
theorem Kk{H H':Hp}(s:Same H H'){a:jd}(h:H' a=none):H a=none:=by
 cases e:H a with
 |none=>rfl
 |some o=>rw[s _ _ e]at h;cases h
mutual
noncomputable def DAt(H:Hp):D->V->Prop
 |.at u,v=>v=u/\BN u=true
 |.tup ds,v=>∃a xs,v=.ref a/\H a=some (.tup xs)/\JR H ds xs
 |.lst ds,v=>∃a xs,v=.ref a/\H a=some (.lst xs)/\JR H ds xs
noncomputable def JR(H:Hp):Ds->LUz->Prop
 |.nil,xs=>xs=[]
 |.cons d r,xs=>∃x ys,xs=x::ys/\DAt H d x/\JR H r ys
end
mutual
theorem Sx{H H':Hp}(s:Same H H'):∀(d:D){v:V},DAt H d v->DAt H' d v
 |.at u,v,h=>by rw[DAt]at h |-;exact h
 |.tup ds,v,h=>by
  rw[DAt]at h |-;obtain⟨a,xs,e,q,r⟩:=h;exact⟨a,xs,e,s _ _ q,G2 s ds r⟩
 |.lst ds,v,h=>by
  rw[DAt]at h |-;obtain⟨a,xs,e,q,r⟩:=h;exact⟨a,xs,e,s _ _ q,G2 s ds r⟩
theorem G2{H H':Hp}(s:Same H H'):∀(ds:Ds){xs:LUz},JR H ds xs->JR H' ds xs
 |.nil,xs,h=>by rw[JR]at h |-;exact h
 |.cons d r,xs,h=>by
  rw[JR]at h |-;obtain⟨x,ys,e,p,q⟩:=h;exact⟨x,ys,e,Sx s d p,G2 s r q⟩
end
mutual
theorem V1{K:jw}{H:Hp}:∀(d:D){v:V},DAt H d v->DIs K H d v
 |.at u,v,h=>by rw[DAt]at h;rw[DIs];exact h
 |.tup ds,v,h=>by
  rw[DAt]at h;rw[DIs];obtain⟨a,xs,e,q,r⟩:=h;exact⟨a,xs,e,SqT.of q,LA ds r⟩
 |.lst ds,v,h=>by
  rw[DAt]at h;rw[DIs];obtain⟨a,xs,e,q,r⟩:=h;exact⟨a,xs,e,SqL.of q,LA ds r⟩
theorem LA{K:jw}{H:Hp}:∀(ds:Ds){xs:LUz},JR H ds xs->DIss K H ds xs
 |.nil,xs,h=>by rw[JR]at h;rw[DIss];exact h
 |.cons d r,xs,h=>by
  rw[JR]at h;rw[DIss];obtain⟨x,ys,e,p,q⟩:=h;exact⟨x,ys,e,V1 d p,LA r q⟩
end
noncomputable def Em(c:jd)(q:jD):HO:=.ext λ h=>∃o vs t,h.get? c=some o/\o.data=.fields vs/\vs[1]?=some (.str q t)
noncomputable def BJ(f:jd)(o:Obj):HO:=.ext λ h=>h.get? f=some o
theorem Q8{P:jk}{w:ju}{H:Hp}{h:jy}{c:jd}{q:jD}(x:ObjOk P w H h c (Em c q)):h.CodeRec (.ref c) q:=by
 obtain⟨⟨o,vs,t,e,d,v⟩,_⟩:=x;exact⟨c,o,vs,t,rfl,e,d,v⟩
theorem S0{P:jk}{w:ju}{H:Hp}{h:jy}{c:jd}{q:jD}(x:h.CodeRec (.ref c) q):ObjOk P w H h c (Em c q):=by
 obtain⟨c',o,vs,t,e,g,d,v⟩:=x;cases e;exact⟨⟨o,vs,t,g,d,v⟩,⟨o,g⟩,λ h1 h2 ⟨o,vs,t,e,d,v⟩ k=>⟨o,vs,t,k o e,d,v⟩⟩
theorem Lr{P:jk}{w:ju}{H:Hp}{h:jy}{f:jd}{o:Obj}(x:h.get? f=some o):ObjOk P w H h f (BJ f o):=⟨x,⟨o,x⟩,λ h1 h2 e k=>k o e⟩
section
variable{X:Cx}{iZ:PNz}{σ:St}{H:Hp}{s:jf}{h1:jy}
theorem Inv.grow{T c':jd}{ps more:Array jg}{o:HO}{t':Nat}(I:Inv X iZ σ H s)(hT:H T=some (.tbl ps))(k:∀b u,b≠T->s.heap.get? b=some u->h1.get? b=some u)(eT:h1.get? T=some (tabObj (ps++more)))
  (hc:s.heap.objs.size<=c') (new:ObjOk X.prog X.w (upd (upd H T (.tbl (ps++more))) c' o) h1 c' o):Inv X iZ σ (upd (upd H T (.tbl (ps++more))) c' o) { s with heap:=h1,toks:=t' }:=by
 have hn:H c'=none:=I.hok.fresh hc;have nT:T≠c':=Ag hT hn;have ne:∀{b:jd}{u:HO},H b=some u->(∀ps,u≠.tbl ps)->b≠T:=λ{b u} e nu z=>by rw[z,hT]at e;cases e;exact nu _ rfl
 have to:∀{b:jd}{u:HO},H b=some u->(∀ps,u≠.tbl ps)->(upd (upd H T (.tbl (ps++more))) c' o) b=some u:=λ{b u} e nu=>by rw[Ad (Ag e hn),Ad (ne e nu)];exact e
 refine I.un ⟨λ b u q n _ _=>k b u (λ z=>by rw[z,hT]at n;cases n) q,λ b u q n _ _=>⟨u.slots,k b u (λ z=>by rw[z,hT]at n;cases n) q⟩,λ b u q n _=>?_,λ b u q _=>?_,
  λ b xs q=>to q (λ_ z=>nomatch z),λ b u xs q=>to q (λ_ z=>nomatch z),λ b ps' q=>?_⟩ λ b u e=>?_
 .rw[Ad (aD (aK (ak q) hc)),Ad (λ z=>by rw[z,hT]at n;cases n)];exact n
 .by_cases z:b=T
  .exact⟨_,by rw[z];exact eT⟩
  .exact⟨u,k b u z q⟩
 .by_cases z:b=T
  .subst z;rw[hT]at q;cases q;exact⟨more,by rw[Ad nT,Ae]⟩
  .exact⟨#[],by rw[Ad (Ag q hn),Ad z,q];simp⟩
 .by_cases z:b=c'
  .subst z;rw[Ae]at e;cases e;exact new
  .rw[Ad z]at e;by_cases zT:b=T
   .subst zT;rw[Ae]at e;cases e;exact eT
   .rw[Ad zT]at e;refine(I.hok b u e).stay (λ c v hcb r=>k c v ?_ r) (λ c r=>to r (λ_ z=>nomatch z)) λ c xs r=>to r (λ_ z=>nomatch z);rcases hcb with rfl|hcb
    .exact zT
    .exact ne hcb (λ_ z=>nomatch z)
end
structure VI(K:jw)(mg:MGz):Prop where
 ex:∃bm sl,mg "__builtins__"=some (.ref bm)/\bm≠builtinsNs/\bm≠jq/\K.lookup bm=some ⟨.type "module",some builtinsNs,.plain,sl⟩
noncomputable abbrev Cm(mg:MGz)(i9:jD)(params:Arguments)(body:jB)(scope:jZ)(clos:List (jD×jd))(c':jd)(ctv:jg):Obj:=kla_obj "<lambda>" i9 params body scope clos ((mg "__name__").getD .none) c' ctv
noncomputable def VR(mg:MGz)(T:jd)(pos:Pos)(params:Arguments)(body:jB)(scope:jZ)(clos:List (jD×jd))(i9:jD):TE:=λ σ H Q=>∃ps,H T=some (.tbl ps)/\TriplesOk ps.toList /\
 ((codeAmong pos ps.toList=none/\∀c' f ctv,H c'=none->H f=none->c'≠f->c'≠T->f≠T->Q (.ref f) (upd (upd (upd H T (.tbl (ps++#[jR pos.line,jR pos.col,.ref c']))) c' (Em c' i9)) f (BJ f (Cm mg i9 params body scope clos c' ctv)))) \/
  ∃c',codeAmong pos ps.toList=some (.ref c')/\H c'=some (Em c' i9)/\∀f ctv,H f=none->Q (.ref f) (upd H f (BJ f (Cm mg i9 params body scope clos c' ctv))))
section
variable{X:Cx}
theorem UZ{params:Arguments}{body:jB}{scope:jZ}{pos:Pos}{c T:jd}{clos:List (jD×jd)}{i9:jD}(hcode:X.env.code=.ref c)(hC:∀h,X.K.In h->CodeHd h c T)(hB:VI X.K X.mg)(hdef:defaultsOf params X.env=([],[]))
  (hcl:closureFor scope X.env=pure clos) (hq:X.env.qual++"<lambda>"=i9):PE X (.Lambda params body scope pos) (VR X.mg T pos params body scope clos i9):=by
 intro iZ s σ H Q I h;obtain⟨ps,hT,ht,alt⟩:=h;have hP:s.heap.get? T=some (tabObj ps):=I.hok T _ hT;have hg:s.heap.Ns jq X.mg:=I.mod.glob.keeps I.bk;obtain⟨bm,sl,b1,b2,b3,b4⟩:=hB.ex;have hbm:X.ja.get? bm=some ⟨.type "module",some builtinsNs,.plain,sl⟩:=I.mod.kin bm _ b4;have hbT:bm≠T:=λ z=>by
  have:=(I.bs bm _ hbm).2;rw[z,hT]at this;cases this
 have hgT:jq≠T:=λ z=>by
  obtain⟨o,es,ep,e,_⟩:=I.mod.glob;have:=(I.bs _ _ e).2;rw[z,hT]at this;cases this
 have hb:s.heap.BuiltinsAt X.mg T:=⟨bm,_,b1,b2,b3,hbT,I.bk bm _ hbm,rfl,rfl,rfl⟩;refine kla_eval hdef ?_;rw[hq];rcases alt with ⟨hnf,q⟩|⟨c',hf,hc',q⟩
 .refine kla_makeFunction hcl I.ok.glob hg hcode (hC _ I.kIn) hP ht hnf hgT hb λ c' ctv h' tk hx hge hlt hrec htb=>?_;have I1:=I.grow (t':=tk) (h1:=h') (c':=c') (o:=Em c' i9) (more:=#[jR pos.line,jR pos.col,.ref c']) hT (λ b u nb e=>hx b u nb e) htb hge (S0 hrec);have hn:H c'=none:=I.hok.fresh hge;have hnf':H h'.objs.size=none:=I.hok.fresh (aV hge (aN hlt));have I2:=I1.laid (a:=h'.objs.size) (o:=BJ h'.objs.size (Cm X.mg i9 params body scope clos c' ctv)) (t':=tk) (h':=h'.push (Cm X.mg i9 params body scope clos c' ctv)) (λ b u e=>ae _ e) (ah _) (Lr (ar _ rfl));exact⟨.ref h'.objs.size,_,I2,rfl,q c' h'.objs.size ctv hn hnf' (aD hlt) (Ne.symm (Ag hT hn)) (Ne.symm (Ag hT hnf'))⟩
 .refine kla_makeFunctionHit hcl I.ok.glob hg hcode (hC _ I.kIn) hP ht hf hb λ ctv h' tk hk hsz=>?_;have hnf':H h'.objs.size=none:=I.hok.fresh hsz;have I1:=I.kept (t':=tk) hk;have I2:=I1.laid (a:=h'.objs.size) (o:=BJ h'.objs.size (Cm X.mg i9 params body scope clos c' ctv)) (t':=tk) (h':=h'.push (Cm X.mg i9 params body scope clos c' ctv)) (λ b u e=>ae _ e) (ah _) (Lr (ar _ rfl));exact⟨.ref h'.objs.size,_,I2,rfl,q h'.objs.size ctv hnf'⟩
end
section
variable{X:Cx}{iZ:PNz}{σ:St}{H:Hp}{s:jf}
theorem Inv.track{D:jd}{o:HO}(I:Inv X iZ σ H s)(hn:H D=none)(h1:X.s₀.heap.objs.size<=D)(hL:D≠X.env.locals)(h2:∀x c,X.env.cells.lookup x=some c->c≠D)(h3:∀p∈X.pn++iZ,p.1≠D)
  (new:ObjOk X.prog X.w (upd H D o) s.heap D o):Inv X iZ σ (upd H D o) s:=by
 have to:∀{b:jd}{u:HO},H b=some u->(upd H D o) b=some u:=λ{b u} e=>by rw[Ad (Ag e hn)];exact e
 have J:=I.step (h':=s.heap) (H':=upd H D o) (g':=s.gens) (d':=s.drawn) (t':=s.toks) (ch:=[D]) (λ b hb=>?_) (λ b u _ _ _ e _=>e) (λ b u _ _ _ e _=>⟨u.slots,e⟩) (λ b u hc e n=>?_) (λ b u _ e=>⟨u,e⟩)
  (λ b xs e=>to e) (λ b u xs e=>to e) (λ b ps e=>⟨#[],by rw[to e];simp⟩) (λ m hm=>hm) (λ b u e=>?_) I.bare
 .exact J
 .have e:b=D:=by simpa using hb
  subst e;exact⟨.inr h1,hL,h2,h3⟩
 .rw[Ad (λ z=>hc (by simp[z]))];exact n
 .by_cases hb:b=D
  .subst hb;rw[Ae]at e;cases e;exact new
  .rw[Ad hb]at e;exact(I.hok b u e).stay (λ c v _ r=>r) (λ c r=>to r) λ c xs r=>to r
theorem Inv.apart(I:Inv X iZ σ H s){D:jd}(h:s.heap.objs.size<=D):H D=none/\X.s₀.heap.objs.size<=D/\D≠X.env.locals/\D∉X.fs/\(∀x c,X.env.cells.lookup x=some c->c≠D)/\∀p∈X.pn++iZ,p.1≠D:=by
 have no:¬D<s.heap.objs.size:=fz.mpr h;refine⟨I.hok.fresh h,aV I.sz h,λ z=>no (by rw[z];exact I.lt),λ hb=>?_,λ x c e z=>?_,λ p hp z=>?_⟩
 .obtain⟨_,o,ho,_⟩:=I.ok.funs.mem hb;exact no (aK (ak ho) I.sz)
 .obtain⟨v,o,ho,_⟩:=I.cell x c e;exact no (by rw[<-z];exact ak ho)
 .exact no (by rw[<-z];exact ak (I.pin p hp).1)
theorem Inv.unpin{p:jd×Obj}(I:Inv X (p::iZ) σ H s):Inv X iZ σ H s:=I.pins_of λ q hq=>I.pin q (av _ (ay _ hq))
end
section
variable{X:Cx}{iZ:PNz}{σ:St}{H:Hp}{s:jf}{A:jx}{D kS:jd}{vs ks:LWz}{e e1:Nat}
theorem F5{p:jd×Obj}(I:Inv X iZ σ H s)(hp:p∈iZ):s.heap.get? p.1=some p.2:=(I.pin p (av _ hp)).1
theorem Inv.repin{D:jd}{n:Nat}{items:Array jg}{g:Array jg->Array jg}{iZ:PNz}(I:Inv X ((D,jz "list" items n)::iZ) σ H s)(h1:X.s₀.heap.objs.size<=D)(h2:∀x c,X.env.cells.lookup x=some c->c≠D)(h3:∀p∈X.pn++iZ,p.1≠D) :
  ∃c,Inv X ((D,jz "list" (g items) c)::iZ) σ H { s with heap:=s.heap.update D (Obj.mapSeq g) }:=by
 obtain⟨e,hn,hL,hf,_⟩:=I.pin (D,jz "list" items n) (av _ aw);obtain⟨c,hc⟩:∃c,(s.heap.update D (Obj.mapSeq g)).get? D=some (jz "list" (g items) c):=⟨_,get?_update_seq e g⟩;have J:Inv X iZ σ H { s with heap:=s.heap.update D (Obj.mapSeq g),toks:=s.toks }:=I.unpin.turned (it:=D) (t':=s.toks) (λ b o nb q=>by rw[bS _ _ _ _ nb];exact q) hn hL (.inr h1) h2 h3;refine⟨c,J.pins_of λ p hp=>?_⟩;rcases aO.mp hp with rfl|hp
 .exact⟨hc,hn,hL,hf,λ v z=>nomatch z⟩
 .exact J.pin p (av _ hp)
end
section
variable{X:Cx}{iZ:PNz}{σ:St}{H:Hp}{s:jf}{A:jx}{D kS f:jd}{vs:LWz}{e1:Nat}{kts:List (jd×List Int)}{m:Nat}{key:List Int->Int}{P:PySem.Fin->jf->Prop}{E:VPz}
theorem Qo{e:Nat}{st:SortSt}{ks out:LWz}(I:Inv X ((kS,jz "list" ks.toArray e)::(D,jz "list" #[] e1)::iZ) σ H s)(hk1:X.s₀.heap.objs.size<=kS)(hkc:∀x c,X.env.cells.lookup x=some c->c≠kS)(hkp:∀p∈X.pn++((D,jz "list" #[] e1)::iZ),p.1≠kS)
  (hD1:X.s₀.heap.objs.size<=D) (hDc:∀x c,X.env.cells.lookup x=some c->c≠D) (hDp:∀p∈X.pn++iZ,p.1≠D) (hout:(arrOf st).map (·.2)=List.toArray out) (hz:out.length<64) (hkz:ks.length<64) (hf:failedOf st=none)
  (h:∀(c:Nat)(s':jf),Inv X iZ σ H s'->s'.heap.get? D=some (jz "list" (List.toArray out) c)->P (.done (.ret .none)) s'):jh (jm X.prog X.w) A (ksk_tail D false e1 (.ref kS) st) P E s:=by
 have ek:=F5 I aw;obtain⟨ck,I1⟩:=I.repin (g:=λ_=>(#[]:Array jg)) hk1 hkc hkp;have eD:=F5 I1 (ay _ aw);obtain⟨cD,I2⟩:=(I1.unpin).repin (g:=λ_=>List.toArray out) hD1 hDc hDp;unfold ksk_tail
 try dsimp only
 rw[hout];refine jc (kr ek rfl ?_ (by rw[aj,jC];lia) (aP _));refine jc (wpAny_letGo ?_);refine jc (lz eD rfl ?_);refine jc (kr eD rfl ?_ (aP _) (by show out.toArray.size<=_;rw[aj,jC];lia));rw[hf];simp only[bne_self_eq_false,au,if_false];exact je (h cD _ I2.unpin (F5 I2 aw))
end
theorem Rv{α β:Type}{f:α->β}{l m:List β}(h:l.Perm m):∀ts:List α,m=ts.map f->∃ts':List α,ts'.Perm ts/\l=ts'.map f:=by
 induction h with
 |nil =>
  intro ts e;rw[List.map_eq_nil_iff.mp e.symm];exact⟨[],.nil,rfl⟩
 |cons x p ih =>
  intro ts e;obtain⟨t,r,rfl,e1,e2⟩:=dN.mp e.symm;obtain⟨r',p',e'⟩:=ih r e2.symm;exact⟨t::r',p'.cons t,by rw[e',aJ,e1]⟩
 |swap x y l =>
  intro ts e;obtain⟨t,r,rfl,e1,e2⟩:=dN.mp e.symm;obtain⟨u,q,rfl,e3,e4⟩:=dN.mp e2;exact⟨u::t::q,List.Perm.swap _ _ _,by rw[aJ,aJ,e1,e3,e4]⟩
 |trans p q ih1 ih2 =>
  intro ts e;obtain⟨t2,p2,e2⟩:=ih2 ts e;obtain⟨t1,p1,e1⟩:=ih1 t2 e2;exact⟨t1,p1.trans p2,e1⟩
noncomputable def SJ(Ts:List jd)(H:Hp):Prop:=(∀b,H b=none\/(∃o xs,H b=some (.frz o (.lst xs)))\/(b∈Ts/\H b=some (.tbl #[])))/\∀T∈Ts,H T=some (.tbl #[])
theorem LD{h:jy}{c T:jd}(x:CodeHd h c T):isCodeTable h T:=by
 obtain⟨o,vs,file,tf,flags,tg,inF,text,tt,e1,e2,e3,e4,_⟩:=x;exact⟨c,o,vs,e1,e2,e3,e4⟩
theorem law_callT{P:jk}{w:ju}{K:jw}{mg mb:MGz}{CX:CXT}{k:Nat}{fa a:jd}{fd:jr}{x:jD}{sp:Sp}{s₁:jf}{vs:LWz}{ns:List Int}{Ts:List jd}
  (KX:K.In s₁.heap) (hns:s₁.heap.Ns jq mg) (hb:s₁.heap.Ns builtinsNs mb) (hbb:∀x:jD,x≠"__name__"->mb x=bootBuiltins x) (hlim:s₁.heap.NoLimit) (hg:s₁.gens=#[])
  (ha:s₁.heap.get? a=some { cls:=.type "list",data:=.seq vs.toArray }) (hi:IntsAre vs ns) (hl:ns.length<=jt) (hr:Room k callerA)
  (hT:∀T∈Ts,s₁.heap.get? T=some (tabObj #[])/\K.lookup T=none/\∃c,CodeHd s₁.heap c T)
  (F:∀ja:jy,K.In ja->ja.Ns jq mg->A3 P w K mg ja CX k fa fd [x] sp) (hbind:∀(s:jf)(u:jg),BindsTo s fd ⟨[u],[]⟩ [(x,u)])
  (hsp:∀H:Hp,SJ Ts H->SqL K H a (ns.map V.int)->sp [.ref a] H (λ v _=>v=.bl true) λ_ _ _=>False)
  (hCX:∀H e s',CX [] H s₁ (λ_ _ _=>False) e s'->False) :
  jU (jm P w) callerA (.call (.ref fa) ⟨[.ref a],[]⟩) (λ r s'=>r=.ok (.ret (.bool true))/\OldK s₁.heap s'.heap/\s'.os=s₁.os/\AllBare s'.gens) s₁:=by
 have rv:=FU hi;have lenV:=hi.length;have core:∀H:Hp,SJ Ts H->SqL K H a (ns.map V.int)->HOk P w H s₁.heap->(∀b,H b≠none->b=a\/b∈Ts)->(H a≠none->K.lookup a=none) ->
   jU (jm P w) callerA (.call (.ref fa) ⟨[.ref a],[]⟩) (λ r s'=>r=.ok (.ret (.bool true))/\OldK s₁.heap s'.heap/\s'.os=s₁.os/\AllBare s'.gens) s₁:=by
  intro H hO hS hok hA hK;have base_of:∀{b:jd}{o:Obj},s₁.heap.get? b=some o->H b=none->(L3 s₁.heap H).get? b=some o:=λ e n=>Sf e n;have noA:∀{b:jd}{o:Obj}{es:Array kQ}{ep:Nat},s₁.heap.get? b=some o->o.data=.dict es ep->H b=none:=λ{b o es ep} e d=>by
   cases q:H b with
   |none=>rfl
   |some u =>
    rcases hA b (by rw[q];simp) with e'|e'
    .subst e';rw[ha]at e;cases e;have d':Data.seq vs.toArray _=Data.dict es ep:=d;cases d'
    .rw[(hT b e').1]at e;cases e;cases d
  have nsK:∀{b:jd}{m:MGz},s₁.heap.Ns b m->(L3 s₁.heap H).Ns b m:=λ{b m} ⟨o,es,ep,e,d,r⟩=>⟨o,es,ep,base_of e (noA e d),d,r⟩;have hKb:K.In (L3 s₁.heap H):=λ b o e=>base_of (KX b o e) (by
   cases q:H b with
   |none=>rfl
   |some u =>
    rcases hA b (by rw[q];simp) with e'|e'
    .subst e';rw[hK (by rw[q];simp)]at e;cases e
    .rw[(hT b e').2.1]at e;cases e)
  have hM:Mod K mg (L3 s₁.heap H):=⟨hKb,nsK hns,⟨mb,nsK hb,hbb⟩,let ⟨mc,h1,h2⟩:=hlim;⟨mc,nsK h1,h2⟩⟩;have e0:Env0 P w K mg (L3 s₁.heap H) callerA [] s₁ H:=⟨rfl,hM,λ b o e=>T5 e,dF (Qx _ _),trivial,λ b hb=>absurd (show b∈([]:List jd) from hb) (by simp),hok,.of_eq hg⟩;refine jY ((F _ hKb (nsK hns)).run callerA [] s₁ H ⟨[.ref a],[]⟩ [.ref a] [.ref a] _ _ hr e0 (hbind s₁ (.ref a)) (.cons rfl .nil) (hsp H hO hS)) λ r s' h=>?_;cases r with
  |error e=>exact(hCX H e s' h).elim
  |ok fl =>
   cases fl with
   |next=>exact False.elim h
   |brk=>exact False.elim h
   |cont=>exact False.elim h
   |ret u =>
    obtain⟨v,H',os,bare,un,hok',r',q⟩:=h;have q':v=.bl true:=q;subst q';obtain rfl:u=Value.bool true:=r';have old:∀b o,s₁.heap.get? b=some o->asItWas s₁.heap s'.heap b o/\∃o',s'.heap.get? b=some o':=λ b o e=>by
     cases q:H b with
     |none =>
      have:=un.keep b o e q (by intro z;exact absurd (show b∈([]:List jd) from z) (by simp)) (by simp);exact⟨.inl this,_,this⟩
     |some u =>
      rcases hO.1 b with z|⟨ob,xs,z⟩|⟨hb',z⟩
      .rw[q]at z;cases z
      .have z2:=un.frzs b ob _ z;obtain⟨e1,_⟩:=hok b _ z;obtain⟨e2,_⟩:=hok' b _ z2;rw[e]at e1;cases e1;exact⟨.inl e2,_,e2⟩
      .obtain⟨more,z2⟩:=un.tbls b #[] z;have e2:s'.heap.get? b=some (tabObj (#[]++more)):=hok' b _ z2;obtain⟨e1,_,c,hc⟩:=hT b hb';rw[e]at e1;cases e1;exact⟨.inr (.inl ⟨LD hc,rfl,#[],more,rfl,e2⟩),_,e2⟩
    exact⟨rfl,⟨λ b o e=>(old b o e).1,λ b o e=>(old b o e).2⟩,os,bare⟩
 have aT:a∉Ts:=λ z=>by
  have e:=(hT a z).1;rw[ha]at e;cases e
 have tblT:∀T∈Ts,∀H:Hp,ObjOk P w H s₁.heap T (.tbl #[]):=λ T z H=>(hT T z).1;cases hk:K.lookup a with
 |some o =>
  have e:=KX a o hk;rw[ha]at e;cases e;refine core (λ b=>if b∈Ts then some (.tbl #[]) else none) ⟨λ b=>?_,λ T z=>jo z⟩ (.inr ⟨_,vs.toArray,_,hk,rfl,rfl,rfl,by rw[aj,lenV];exact hl,by simpa using rv⟩) (λ b u z=>?_) (λ b z=>?_) λ z=>absurd (jj aT) z
  .by_cases hb:b∈Ts
   .exact .inr (.inr ⟨hb,jo hb⟩)
   .exact .inl (jj hb)
  .by_cases hb:b∈Ts
   .have z':=(jo hb).symm.trans z;cases z';exact tblT b hb _
   .have z':=(jj hb).symm.trans z;cases z'
  .by_cases hb:b∈Ts
   .exact .inr hb
   .exact absurd (jj hb) z
 |none =>
  refine core (λ b=>if b=a then some (.frz { cls:=.type "list",data:=.seq vs.toArray } (.lst (ns.map V.int))) else if b∈Ts then some (.tbl #[]) else none) ⟨λ b=>?_,λ T z=>?_⟩ (.inl (.inr ⟨{ cls:=.type "list",data:=.seq vs.toArray },jo rfl⟩)) (λ b u z=>?_) (λ b z=>?_) λ_=>hk
  .by_cases hb:b=a
   .exact .inr (.inl ⟨_,_,jo hb⟩)
   .by_cases hb2:b∈Ts
    .exact .inr (.inr ⟨hb2,(jj hb).trans (jo hb2)⟩)
    .exact .inl ((jj hb).trans (jj hb2))
  .have ne:¬T=a:=λ e=>aT (by rw[<-e];exact z);exact(jj ne).trans (jo z)
  .by_cases hb:b=a
   .have z':=(jo hb).symm.trans z;cases z';subst hb;exact⟨ha,by rw[aa];exact hl,vs,_,rv,ha⟩
   .by_cases hb2:b∈Ts
    .have z':=((jj hb).trans (jo hb2)).symm.trans z;cases z';exact tblT b hb2 _
    .have z':=((jj hb).trans (jj hb2)).symm.trans z;cases z'
  .by_cases hb:b=a
   .exact .inl hb
   .by_cases hb2:b∈Ts
    .exact .inr hb2
    .exact absurd ((jj hb).trans (jj hb2)) z
theorem walk_ofT{l:OpenLaw}{n k:Nat}{q:jk}{loose:LSz}{XP:(MGz)->jy->Prop}{YP:ju->jy->Prop}{d:DefRec}{K:lC->jw}{CX:ju->CXT}{sp:ju->Sp}{x:jD}{Ts:List jd}
  (hn:l.most=some n) (hn2:n<=jt) (hdf:d.params.defaults=[]) (hr:Room k callerA)
  (hY:∀(w:ju)(h:jy),YP w h->(K w.params).In h) (hT:∀(w:ju)(h:jy),YP w h->∀T∈Ts,h.get? T=some (tabObj #[])/\(K w.params).lookup T=none/\∃c,CodeHd h c T)
  (F:∀(w:ju)(mg:MGz)(fa:jd)(h:jy),(K w.params).In h->h.Ns jq mg->mg d.name=some (.ref fa) ->
   ∃fd:jr,(∀(s:jf)(u:jg),BindsTo s fd ⟨[u],[]⟩ [(x,u)]) /\
    ∀ja:jy,(K w.params).In ja->ja.Ns jq mg->A3 l.prog w (K w.params) mg ja (CX w) k fa fd [x] (sp w))
  (hsp:∀(w:ju)(H:Hp)(a:jd)(ns:List Int),ns.length<=n->SJ Ts H->SqL (K w.params) H a (ns.map V.int)->sp w [.ref a] H (λ v _=>v=.bl true) λ_ _ _=>False)
  (hCX:∀(w:ju)(H:Hp)(s:jf)(e:jg)(s':jf),CX w [] H s (λ_ _ _=>False) e s'->False) :
  WalkO q loose XP YP l.row.toRowW d [] (λ f vs=>PySem.call f vs):=by
 refine Att.attach_call hn hdf λ w s₀ s₁ mg mb fa o pm cd doc a vs ns G Y ho hd hcd hmg hobj hints hlen hg=>?_;have KX:=hY w _ Y;obtain⟨fd,hb,hF⟩:=F w mg fa _ KX G.T.g hmg;exact law_callT KX G.T.g G.T.b G.T.builtins G.T.nolimit hg hobj hints (aV hlen hn2) hr (hT w _ Y) hF hb (λ H hO hS=>hsp w H a ns hlen hO hS) λ H e s'=>hCX w H s₁ e s'
structure FunC(K:jw)(x i9:jD)(st:jE)(f:jd)(fd:jr)(c:jd):Prop where
 ex:∃(oc:jg)(od:Option jd)(kV doc pm:jg)(an:Option jd)(ct:jg)(osl:AOz),
  fd=fnOf x i9 (Bz st) (A7 st) (Ah st) .none kV doc pm an (.ref c) ct/\K.lookup f=some ⟨oc,od,.func fd,osl⟩/\codeIn K (.ref c) i9=true
 kp:ku K (.ref f)=true
section
variable{P:jk}{w:ju}{K:jw}{mg:MGz}{ja:jy}{x i9:jD}{st:jE}{f c:jd}{fd:jr}{N ps:LSz}{k:Nat}{sp:Sp}
theorem FunC.fn(F:FunC K x i9 st f fd c):Fun K x i9 st f fd:=by
 obtain⟨oc,od,kV,doc,pm,an,ct,osl,e,lk,hcd⟩:=F.ex;exact⟨⟨oc,od,kV,doc,pm,an,.ref c,ct,osl,e,lk,hcd⟩,F.kp⟩
theorem TX{oc:jg}{od an:Option jd}{osl:AOz}{kV doc pm cdv ct:jg}(l:K.lookup f=some ⟨oc,od,.func (fnOf x i9 (Bz st) (A7 st) (Ah st) .none kV doc pm an cdv ct),osl⟩)
  (cc:codeIn K cdv i9=true) (kp:ku K (.ref f)=true) (e:cdv=.ref c):FunC K x i9 st f (fnOf x i9 (Bz st) (A7 st) (Ah st) .none kV doc pm an cdv ct) c:=by
 subst e;exact⟨⟨oc,od,kV,doc,pm,an,ct,osl,rfl,l,cc⟩,kp⟩
end
noncomputable def LF(K:jw)(c T:jd):Bool:=match K.lookup c with
 |some o=>match o.data with
  |.fields vs=>(o.cls==.type "code")&&(vs[11]?==some (.ref T))&&(match vs.getD 18 .none with|.str _ _=>true|_=>false)&&(match vs.getD 7 .none with|.int _ _=>true|_=>false)&&(match vs.getD 9 .none with|.bool _=>true|_=>false)&&(match vs.getD 10 .none with|.int _ _=>true|_=>false)&&(c != T)
  |_=>false
 |none=>false
theorem codeTB_of{K:jw}{c T:jd}(h:LF K c T=true):∀hp:jy,K.In hp->CodeHd hp c T:=λ hp KX=>by
 unfold LF at h;cases e:K.lookup c with
 |none=>rw[e]at h;cases h
 |some o =>
  rw[e]at h;cases d:o.data with
  |fields vs =>
   simp only[d,ax]at h;obtain⟨⟨⟨⟨⟨⟨h1,h2⟩,h3⟩,h4⟩,h5⟩,h6⟩,h7⟩:=h;have h2:vs[11]?=some (.ref T):=eq_of_beq h2;have e18:∃a b,vs.getD 18 .none=.str a b:=by
    generalize vs.getD 18 .none=v at h3;cases v with
    |str a b=>exact⟨a,b,rfl⟩
    |_=>cases h3
   have e7:∃a b,vs.getD 7 .none=.int a b:=by
    generalize vs.getD 7 .none=v at h4;cases v with
    |int a b=>exact⟨a,b,rfl⟩
    |_=>cases h4
   have e9:∃a,vs.getD 9 .none=.bool a:=by
    generalize vs.getD 9 .none=v at h5;cases v with
    |bool a=>exact⟨a,rfl⟩
    |_=>cases h5
   have e10:∃a b,vs.getD 10 .none=.int a b:=by
    generalize vs.getD 10 .none=v at h6;cases v with
    |int a b=>exact⟨a,b,rfl⟩
    |_=>cases h6
   obtain⟨f1,f2,e18⟩:=e18;obtain⟨g1,g2,e7⟩:=e7;obtain⟨i1,e9⟩:=e9;obtain⟨t1,t2,e10⟩:=e10;refine⟨o,vs,f1,f2,g1,g2,i1,t1,t2,KX c o e,eq_of_beq h1,d,h2,?_,e18,e7,e9,e10,?_⟩
   .rw[da,h2];rfl
   .intro z;rw[z]at h7;simp at h7
  |_=>simp only[d]at h;cases h
noncomputable def TabOk(pos:Pos)(i9:jD)(T:jd)(H:Hp):Prop:=∃ps,H T=some (.tbl ps)/\TriplesOk ps.toList/\(codeAmong pos ps.toList=none\/∃c',codeAmong pos ps.toList=some (.ref c')/\H c'=some (Em c' i9))
theorem TabOk.same{pos:Pos}{i9:jD}{T:jd}{H H':Hp}(h:TabOk pos i9 T H)(s:Same H H'):TabOk pos i9 T H':=by
 obtain⟨ps,e,t,c⟩:=h;refine⟨ps,s _ _ e,t,?_⟩;rcases c with c|⟨c',c1,c2⟩
 .exact .inl c
 .exact .inr ⟨c',c1,s _ _ c2⟩
theorem TabOk.new{pos:Pos}{i9:jD}{T:jd}{H:Hp}(h:H T=some (.tbl #[])):TabOk pos i9 T H:=⟨#[],h,trivial,.inl rfl⟩
theorem Fr{a b c:Int}{t u:kH}{v:jg}:∀(l:LWz),TriplesOk l->TriplesOk (l++[.int a t,.int b u,v])
 |[],_=>trivial
 |.int _ _::.int _ _::_::rest,h=>Fr (c:=c) rest h
section
variable{X:Cx}
theorem Jk:BK X (.builtin "sum") (λ xs H Q=>∃(p:jd)(ns:List Int),xs=[.ref p]/\SqL X.K H p (ns.map V.int)/\X.calm=true/\Q (.int ns.sum) H):=by
 intro iZ s σ H xs us Q I r h;obtain⟨p,ns,rfl,hp,hc,q⟩:=h;obtain⟨u,rfl,ru⟩:=D0 r;cases ru;obtain⟨its,rv,pl,hz⟩:=I.list hp;have hi:=Ff rv;obtain⟨xs,hx⟩:=hi.allInts.items;have hl':s.heap.IsList p (intItems xs):=hx ▸ pl.isList;refine sum_intListG (I.ok.hd hc) hl' λ h' tk t' hk=>?_;have e1:ns=xs.toList.map (·.1):=by
  rw[<-nums_intItems,<-hx];exact(show numsOf its.toArray.toList=ns from hi.numsOf).symm
 have e2:preSum (numAt xs) xs.size=ns.sum:=by
  rw[preSum_eq,fF (by simp),e1]
 rw[e2];exact⟨.int ns.sum,H,I.kept (t':=tk) hk,⟨t',rfl⟩,q⟩
end
end L2
namespace HT
open PySem.W
open PySem PySem.Spec PyProof.Rows
end HT
namespace L2
open PySem.W
open PySem PySem.Spec PyProof.Rows
section
variable{P:jk}{w:ju}{K:jw}{mg:MGz}{ja:jy}{x i9:jD}{st:jE}{f c:jd}{fd:jr}{N ps:LSz}{k:Nat}{sp:Sp}
theorem FunC.ok(F:FunC K x i9 st f fd c)(S:Ak N ps (Ah st))(len:∀vs H Q E,sp vs H Q E->vs.length=ps.length)
  (hbody:∀(A:jx)(i6:List lH)(s:jf)(H:Hp)(vs:LUz)(Q:VK)(E:XK),Room k (A.deeper (envOfC i9 (Ah st) s.heap.objs.size f (.ref c)))->sp vs H Q E ->
   ∃t,PSs (B3 CX0 P w K mg ja N i9 (Ah st) f (.ref c) A i6 s H E).nox (A7 st) t/\t { nx:=λ_ H'=>Q .non H',rt:=Q } (start N vs) H):A3 P w K mg ja CX0 (k+1) f fd ps sp:=by
 obtain⟨oc,od,kV,doc,pm,an,ct,osl,rfl,lk,hcd⟩:=F.ex;refine OV lk hcd S len λ A i6 s H vs Q E hr hsp=>?_;obtain⟨t,h,q⟩:=hbody A i6 s H vs Q E hr hsp;exact⟨t,h.nox,q⟩
end
noncomputable def tkd(H:Hp)(L:PNz):Hp:=λ a=>match L.lookup a with|some o=>some (BJ a o)|none=>H a
noncomputable def utk(H:Hp)(L:PNz):Hp:=λ a=>match L.lookup a with|some _=>none|none=>H a
section
variable{P:jk}{w:ju}{H H':Hp}{h h':jy}{a:jd}{o:Obj}{L:PNz}{fs:List jd}
theorem HJ(e:L.lookup a=some o):tkd H L a=some (BJ a o):=by unfold tkd;rw[e]
theorem AO(e:L.lookup a=none):tkd H L a=H a:=by unfold tkd;rw[e]
theorem FV(e:L.lookup a=some o):utk H L a=none:=by unfold utk;rw[e]
theorem Bo(e:L.lookup a=none):utk H L a=H a:=by unfold utk;rw[e]
theorem Cu(e:H a=none):utk H L a=none:=by
 cases q:L.lookup a with
 |none=>rw[Bo q];exact e
 |some o=>exact FV q
theorem EY{u:HO}(hL:∀a o,L.lookup a=some o->H a=none)(e:H a=some u):L.lookup a=none:=by
 cases q:L.lookup a with
 |none=>rfl
 |some o=>rw[hL a o q]at e;cases e
theorem Es{u:HO}(hL:∀a o,L.lookup a=some o->H a=some (BJ a o))(e:H a=some u)(n:∀o,u≠BJ a o):L.lookup a=none:=by
 cases q:L.lookup a with
 |none=>rfl
 |some o=>rw[hL a o q]at e;cases e;exact absurd rfl (n o)
theorem HOk.tkd(hok:HOk P w H h)(hL:∀a o,L.lookup a=some o->H a=none)(hc:∀a o,L.lookup a=some o->h.get? a=some o):HOk P w (tkd H L) h:=λ a u e=>by
 cases q:L.lookup a with
 |some o =>
  rw[HJ q]at e;cases e;exact Lr (hc a o q)
 |none =>
  rw[AO q]at e;exact(hok a u e).stay (λ_ _ _ z=>z) (λ b z=>by rw[AO (EY hL z)];exact z) (λ b xs z=>by rw[AO (EY hL z)];exact z)
theorem HOk.utk(hok:HOk P w H h)(hL:∀a o,L.lookup a=some o->H a=some (BJ a o)):HOk P w (utk H L) h:=λ a u e=>by
 cases q:L.lookup a with
 |some o=>rw[FV q]at e;cases e
 |none =>
  rw[Bo q]at e;exact(hok a u e).stay (λ_ _ _ z=>z) (λ b z=>by rw[Bo (Es hL z (λ_ z=>nomatch z))];exact z) (λ b xs z=>by rw[Bo (Es hL z (λ_ z=>nomatch z))];exact z)
theorem Un.utk(u:Un fs [] (L2.tkd H L) H' h h')(hok:HOk P w H' h')(hL:∀a o,L.lookup a=some o->H a=none)(hc:∀a o,L.lookup a=some o->h.get? a=some o)(hf:∀a o,L.lookup a=some o->a∉fs)(hk:∀a o,L.lookup a=some o->H' a=some (BJ a o)):Un fs [] H (L2.utk H' L) h h' where
 keep b o q n nf nx:=by
  cases e:L.lookup b with
  |some o' =>
   rw[hc b o' e]at q;cases q;exact(hok b _ (hk b o e)).1
  |none=>exact u.keep b o q (by rw[AO e];exact n) nf nx
 slot b o q n hb nx:=by
  cases e:L.lookup b with
  |some o'=>exact absurd hb (hf b o' e)
  |none=>exact u.slot b o q (by rw[AO e];exact n) hb nx
 free b o q n nx:=by
  cases e:L.lookup b with
  |some o'=>exact FV e
  |none=>rw[Bo e];exact u.free b o q (by rw[AO e];exact n) nx
 there b o q nx:=u.there b o q nx
 tups b xs e:=by
  have n:=EY hL e;rw[Bo n];exact u.tups b xs (by rw[AO n];exact e)
 frzs b o v e:=by
  have n:=EY hL e;rw[Bo n];exact u.frzs b o v (by rw[AO n];exact e)
 tbls b ps e:=by
  have n:=EY hL e;rw[Bo n];exact u.tbls b ps (by rw[AO n];exact e)
theorem Un.tkd(u:Un fs [] (L2.utk H L) H' h h')(hL:∀a o,L.lookup a=some o->H a=some (BJ a o)):Un fs [] H (L2.tkd H' L) h h':=by
 have out:∀{b},H b=none->L.lookup b=none:=λ{b} n=>by
  cases e:L.lookup b with
  |none=>rfl
  |some o=>rw[hL b o e]at n;cases n
 exact {
  keep:=λ b o q n nf nx=>u.keep b o q (Cu n) nf nx
  slot:=λ b o q n hb nx=>u.slot b o q (Cu n) hb nx
  free:=λ b o q n nx=>by rw[AO (out n)];exact u.free b o q (Cu n) nx
  there:=λ b o q nx=>u.there b o q nx
  tups:=λ b xs e=>by
   have n:=Es hL e (λ_ z=>nomatch z);rw[AO n];exact u.tups b xs (by rw[Bo n];exact e)
  frzs:=λ b o v e=>by
   have n:=Es hL e (λ_ z=>nomatch z);rw[AO n];exact u.frzs b o v (by rw[Bo n];exact e)
  tbls:=λ b ps e=>by
   have n:=Es hL e (λ_ z=>nomatch z);rw[AO n];exact u.tbls b ps (by rw[Bo n];exact e) }
end
noncomputable def FvOk(P:jk)(w:ju)(K:jw)(mg:MGz)(ja:jy)(k:Nat)(H:Hp)(f:jd)(sp:Sp):Prop :=
 (∃o fd,H f=some (BJ f o)/\o.data=.func fd)/\∀(A:jx)(i6:List lH)(s:jf)(H':Hp)(us:LWz)(vs:LUz)(Q:VK)(E:XK),Same H H'->Room k A->Env0 P w K mg ja A i6 s H'->Vals vs us->sp vs H' Q E ->
  jU (jm P w) A (.call (.ref f) ⟨us,[]⟩) (CR CX0 i6 P w H' s Q E) s
theorem FvOk.same{P:jk}{w:ju}{K:jw}{mg:MGz}{ja:jy}{k:Nat}{H H':Hp}{f:jd}{sp:Sp}(h:FvOk P w K mg ja k H f sp)(s:Same H H'):FvOk P w K mg ja k H' f sp :=
 ⟨let ⟨o,fd,e,d⟩:=h.1;⟨o,fd,s _ _ e,d⟩,λ A i6 sh H2 us vs Q E s2=>h.2 A i6 sh H2 us vs Q E (s.trans s2)⟩
noncomputable def tFv(P:jk)(w:ju)(K:jw)(mg:MGz)(ja:jy)(k:Nat)(tv:TE)(t:TA):TE:=λ σ H Q=>tv σ H λ v H1=>∃f sp,v=.ref f/\FvOk P w K mg ja k H1 f sp/\t σ H1 λ vs H2=>Same H1 H2/\sp vs H2 Q E0
section
variable{X:Cx}{k j:Nat}{y:jD}{p pos:Pos}{e:jB}{es:List jB}{tv:TE}{t:TA}
theorem Wt(hr:Room j X.A)(hv:PE X (.Name y p) tv)(ha:PA X (e::es) t)(hj:k<=j:=by decide)
  (he:jv (e::es) X.env=(false,eval e X.env)::jv es X.env:=by rfl) (hpl:(jX pos (jv es X.env)).any (·.1)=false:=by rfl):PE X (.Call (.Name y p) (e::es) [] pos) (tFv X.prog X.w X.K X.mg X.ja k tv t):=by
 intro iZ s σ H Q I h;refine jG (thn (hv iZ s σ H _ I h) λ u s1 hz_=>?_);obtain⟨v,H1,I1,r1,f,sp,e1,F,q1⟩:=hz_;subst e1;cases r1;have fnat:∀{H2:Hp}{s2:jf},Same H1 H2->Inv X iZ σ H2 s2->FnAt f s2.heap:=λ{H2 s2} sm I2=>by
  obtain⟨o,fd,e,d⟩:=F.1;have:=(show ObjOk X.prog X.w H2 s2.heap f (BJ f o) from I2.hok f _ (sm _ _ e)).1;obtain⟨oc,od,dt,sl⟩:=o;cases d;exact⟨_,_,_,_,this⟩
 refine callWith_F (fnat (Same.refl _) I1) (thn (ha pos iZ s1 σ H1 _ I1 q1) λ us s2 ⟨vs,H2,I2,r,sm,q⟩=>⟨fnat sm I2,?_⟩) he hpl;refine ki (jY (F.2 X.A X.stack s2 H2 us vs Q E0 sm (hr.mono hj) I2.env0 r q) λ r s' hq=>?_);cases r with
 |error e=>exact Ke iZ σ H2 s2 e s' I2 hq
 |ok fl =>
  cases fl with
  |ret u=>exact I2.after hq
  |next=>exact False.elim hq
  |brk=>exact False.elim hq
  |cont=>exact False.elim hq
end
theorem Kn{g:jd->Obj}:∀{l:List jd}{a:jd},(l.map λ c=>(c,g c)).lookup a=if a∈l then some (g a) else none
 |[],a=>by simp
 |c::r,a=>by
  rw[aJ,aX];by_cases e:a=c
  .subst e;simp
  .have:(a==c)=false:=by simpa using e
   rw[this];show List.lookup a (r.map λ c=>(c,g c))=_;rw[Kn];simp[e]
structure Pz(N:LSz)(clos:List (jD×jd))(σ:St)(H:Hp)(L:PNz):Prop where
 new:∀a o,L.lookup a=some o->H a=none
 has:∀p∈clos,∃o v,L.lookup p.2=some o/\o.data=.cell v
 val:∀p∈clos,∀(i:Nat)(v:V),N[i]?=some p.1->σ[i]?=some (some v)->∃o u,L.lookup p.2=some o/\o.data=.cell (some u)/\RelV v u
noncomputable def UO(N:LSz)(clos:List (jD×jd))(sp:Sp)(t:TA):TE:=λ σ H Q=>t σ H λ vs H1=>∀L,Pz N clos σ H1 L->sp vs (tkd H1 L) (λ v H2=>(∀a o,L.lookup a=some o->H2 a=some (BJ a o))/\Q v (utk H2 L)) E0
section
variable{X:Cx}{k j:Nat}{x:jD}{ps:LSz}{sp:Sp}{p pos:Pos}{e:jB}{es:List jB}{t:TA}{clos:List (jD×jd)}
theorem Va(D:Aq X.prog X.w X.K X.mg X.ja k x ps sp)(hr:Room j X.A)(ha:PA X (e::es) t)(hcl:∀p∈clos,X.env.cells.lookup p.1=some p.2/\X.env.kindOf p.1=some .cell)(hfn:∀y,X.fn y=true)(hex:X.ex=[])(hj:k<=j:=by decide)(hg:Gl X x:=by rfl)(hdb:(x==("__debug__":jD))=false:=by decide)
  (he:jv (e::es) X.env=(false,eval e X.env)::jv es X.env:=by rfl) (hpl:(jX pos (jv es X.env)).any (·.1)=false:=by rfl):PE X (.Call (.Name x p) (e::es) [] pos) (UO X.N clos sp t):=by
 obtain⟨f,fd,F,hm,hk,hb⟩:=D.ex;intro iZ s σ H Q I h;refine jG (Dr I hg hm ?_ hdb);refine lK (h₀:=X.ja) I.ok.mod.kin hk (thn (ha pos iZ s σ H _ I h) λ us s1 ⟨vs,H1,I1,r,q⟩=>⟨I1.kIn,?_⟩) he hpl
 let g:jd->Obj:=λ c=>(s1.heap.get? c).getD ⟨.none,none,.plain,#[]⟩
 let L:PNz:=(clos.map (·.2)).map λ c=>(c,g c)
 have hLk:∀a,L.lookup a=if a∈clos.map (·.2) then some (g a) else none:=λ a=>Kn;have hcell:∀p∈clos,∃v,s1.heap.IsCell p.2 v:=λ p hp=>I1.cell p.1 p.2 (hcl p hp).1;have hin:∀a o,L.lookup a=some o->∃p∈clos,p.2=a/\s1.heap.get? a=some o:=λ a o e=>by
  rw[hLk]at e;split at e
  .rename_i hm;obtain⟨p,hp,rfl⟩:=ao.mp hm;refine⟨p,hp,rfl,?_⟩;obtain⟨v,o',ho',_⟩:=hcell p hp;cases e;show _=some ((s1.heap.get? p.2).getD _);rw[ho'];rfl
  .cases e
 have hof:∀p∈clos,∀o,s1.heap.get? p.2=some o->L.lookup p.2=some o:=λ p hp o e=>by
  rw[hLk,jo (ao.mpr ⟨p,hp,rfl⟩)];show some ((s1.heap.get? p.2).getD _)=_;rw[e];rfl
 have hnew:∀a o,L.lookup a=some o->H1 a=none:=λ a o e=>by
  obtain⟨p,hp,rfl,_⟩:=hin a o e;exact I1.freeC p.1 p.2 (hcl p hp).1
 have hget:∀a o,L.lookup a=some o->s1.heap.get? a=some o:=λ a o e=>let ⟨_,_,_,z⟩:=hin a o e;z;have habove:∀a o,L.lookup a=some o->X.s₀.heap.objs.size<=a:=λ a o e=>by
  obtain⟨p,hp,rfl,_⟩:=hin a o e;exact I1.ok.cab p.1 p.2 (hfn _) (hcl p hp).1
 have hnf:∀a o,L.lookup a=some o->a∉frs X.stack:=λ a o e hb=>by
  have ab:=habove a o e;obtain⟨p,hp,rfl,_⟩:=hin a o e;rcases aO.mp (I1.stkSub _ hb) with z|z
  .exact I1.cne p.1 p.2 (hcl p hp).1 z
  .obtain⟨_,o',ho',_⟩:=I1.ok.funs.mem z;exact absurd (aK (ak ho') ab) (bG _)
 have CA:Pz X.N clos σ H1 L:=by
  refine⟨hnew,λ p hp=>?_,λ p hp i v hi hv=>?_⟩
  .obtain⟨v,o,ho,hd⟩:=hcell p hp;exact⟨o,v,hof p hp o ho,hd⟩
  .obtain⟨m,hns,hloc⟩:=I1.loc;obtain⟨u,ru,hlook⟩:=hloc i p.1 v hi hv (.inr (.inl (hcl p hp).2));rcases hlook with ⟨k1,_⟩|⟨_,c,hc,o,ho,hd⟩
   .rw[(hcl p hp).2]at k1;cases k1
   .rw[(hcl p hp).1]at hc;cases hc;exact⟨o,u,hof p hp o ho,hd,ru⟩
 have hsp:=q L CA;have e0:Env0 X.prog X.w X.K X.mg X.ja X.A X.stack s1 (tkd H1 L):=by
  have z:=I1.env0;refine⟨z.frames,z.mod,λ b o e=>?_,z.bsz,z.funs,λ b hb=>?_,z.hok.tkd hnew hget,z.bare⟩
  .refine⟨(z.bs b o e).1,?_⟩;cases q:L.lookup b with
   |none=>rw[AO q];exact(z.bs b o e).2
   |some o'=>exact absurd (aK (ak e) (aV I1.ok.bsz (habove b o' q))) (bG _)
  .cases q:L.lookup b with
   |none=>rw[AO q];exact z.frf b hb
   |some o'=>exact absurd hb (hnf b o' q)
 have hl:us.length=ps.length:=by rw[<-r.length];exact F.len _ _ _ _ hsp
 have hbd:=hb s1 us I1.kIn (by rw[aR];exact hl);rw[aR]at hbd;refine ki (jY (F.run X.A X.stack s1 (tkd H1 L) ⟨us,[]⟩ us vs _ E0 (hr.mono hj) e0 hbd r hsp) λ rs s' hq=>?_);cases rs with
 |error e=>exact Ke iZ σ H1 s1 e s' I1 (by exact hq)
 |ok fl =>
  cases fl with
  |ret u =>
   obtain⟨v,H2,os,bare,un,hok,rv,hkp,q2⟩:=hq;exact I1.after ⟨v,utk H2 L,os,bare,un.utk hok hnew hget hnf hkp,hok.utk hkp,rv,q2⟩
  |next=>exact False.elim hq
  |brk=>exact False.elim hq
  |cont=>exact False.elim hq
end
noncomputable def Ug(P:jk)(w:ju)(K:jw)(mg:MGz)(ja:jy)(N:LSz)(i9:jD)(scope:jZ)(f:jd)(cd:jg)(clos:List (jD×jd))(A:jx)(i6:List lH)(s:jf)(H Hx:Hp)(E:XK):Cx where
 prog:=P
 w:=w
 K:=K
 mg:=mg
 ja:=ja
 A:=A.deeper (envX i9 scope s.heap.objs.size f cd clos)
 N:=N
 s₀:=s
 H₀:=H
 env:=envX i9 scope s.heap.objs.size f cd clos
 i6:=i6
 stack:=envX i9 scope s.heap.objs.size f cd clos::i6
 ex:=[]
 calm:=true
 fn:=λ_=>false
 pn:=[]
 xe:=λ e s'=>jh (jm P w) (A.deeper (envX i9 scope s.heap.objs.size f cd clos)) (leaving (envX i9 scope s.heap.objs.size f cd clos) e) (λ_ s''=>CX0 i6 Hx s E e s'') (λ e' s''=>CX0 i6 Hx s E e' s'') s'
theorem TabOk.lamC{clos:List (jD×jd)}{mg:MGz}{pos:Pos}{i9:jD}{T:jd}{params:Arguments}{body:jB}{scope:jZ}{σ:St}{H:Hp}{Q:VK}(h:TabOk pos i9 T H)
  (q:∀c' f ctv H',SameX T H H'->TabOk pos i9 T H'->H' f=some (BJ f (Cm mg i9 params body scope clos c' ctv))->H' c'=some (Em c' i9)->(∀b,H b=none->H' b=none\/b=c'\/b=f)->Q (.ref f) H'):VR mg T pos params body scope clos i9 σ H Q:=by
 obtain⟨ps,e,t,c⟩:=h;refine⟨ps,e,t,?_⟩;rcases c with c|⟨c',c1,c2⟩
 .refine .inl ⟨c,λ c' f ctv hc hf n1 n2 n3=>?_⟩;have eT:(upd (upd (upd H T (.tbl (ps++#[jR pos.line,jR pos.col,.ref c']))) c' (Em c' i9)) f (BJ f (Cm mg i9 params body scope clos c' ctv))) T=some (.tbl (ps++#[jR pos.line,jR pos.col,.ref c'])):=by
   rw[Ad (Ne.symm n3),Ad (Ne.symm n2),Ae]
  have eC:(upd (upd (upd H T (.tbl (ps++#[jR pos.line,jR pos.col,.ref c']))) c' (Em c' i9)) f (BJ f (Cm mg i9 params body scope clos c' ctv))) c'=some (Em c' i9):=by
   rw[Ad n1,Ae]
  refine q c' f ctv _ (λ a o ea no=>?_) ⟨_,eT,?_,.inr ⟨c',?_,eC⟩⟩ Ae eC λ b hb=>?_
  .rw[Ad (Ag no hf),Ad (Ag no hc),Ad ea];exact no
  .rw[fU];exact Fr (c:=0) _ t
  .rw[fU];exact codeAmong_snoc _ t c
  .by_cases h1:b=f
   .exact .inr (.inr h1)
   .by_cases h2:b=c'
    .exact .inr (.inl h2)
    .refine .inl ?_;rw[Ad h1,Ad h2,Ad (λ z=>by rw[z,e]at hb;cases hb)];exact hb
 .refine .inr ⟨c',c1,c2,λ f ctv hf=>?_⟩;have s:Same H (upd H f (BJ f (Cm mg i9 params body scope clos c' ctv))):=Same.new hf;refine q c' f ctv _ s.x (TabOk.same ⟨ps,e,t,.inr ⟨c',c1,c2⟩⟩ s) Ae (s _ _ c2) λ b hb=>?_;by_cases h1:b=f
  .exact .inr (.inr h1)
  .exact .inl (by rw[Ad h1];exact hb)
theorem TabOk.tbl{pos:Pos}{i9:jD}{T:jd}{H:Hp}(h:TabOk pos i9 T H):∃ps,H T=some (.tbl ps):=let ⟨ps,e,_⟩:=h;⟨ps,e⟩
theorem Rh{H H':Hp}{L:PNz}(hL:∀a o,L.lookup a=some o->H a=none)(s:Same (tkd H L) H'):Same H (utk H' L)/\∀a o,L.lookup a=some o->H' a=some (BJ a o) :=
 ⟨λ a o e=>by
  have n:=EY hL e;rw[Bo n];exact s _ _ (by rw[AO n];exact e),λ a o e=>s _ _ (HJ e)⟩
theorem KS{H:Hp}{L:PNz}{a:jd}{u:HO}(hL:∀a o,L.lookup a=some o->H a=some (BJ a o))(e:H a=some u)(n:∀o,u≠BJ a o):utk H L a=some u:=by rw[Bo (Es hL e n)];exact e
theorem M3{M:Model}{A:jx}{E:VPz}{s:jf}{scope:jZ}{globals:jd}{clos:List (jD×jd)}{pn:jD}{u:jg}{i9:jD}{func:Option jd}{code:jg}{builtins:jd}{Q:lH->jf->Prop}
  (hk:scope.kind=.function) (hp:scope.names.lookup pn=some .cell) (hc:∀n acc,cellsFrom n scope.names acc=(pn,n)::acc) (hpu:∀h,pushCells h scope.names=h.push { cls:=.type "cell",data:=.cell none })
  (hQ:∀h' tk,h'.Ns s.heap.objs.size (λ_=>none)->h'.IsCell (s.heap.objs.size+1) (some u)->(∀b o,s.heap.get? b=some o->h'.get? b=some o)->Q (newEnv scope s.heap.objs.size globals ((pn,s.heap.objs.size+1)::clos) i9 func code none builtins) { s with heap:=h',toks:=tk }) :
  jh M A (newFunctionEnv scope globals clos [(pn,u)] i9 func code none builtins) Q E s:=by
 simp only[newFunctionEnv,Option.isSome_none,au,if_false];refine jc (wpAny_alloc ?_);refine jc (wpAny_layCells _ (λ name kind cells=>by cases hkc:kind==NameKind.cell<;>simp[hkc]) _ _ _ _ ?_);rw[hc,hpu,show({ s with heap:=s.heap.push { cls:=.type "frame",data:=.dict #[] } }:jf).heap.objs.size=s.heap.objs.size+1 from bq ..];have hcell:((s.heap.push { cls:=.type "frame",data:=.dict #[] }).push { cls:=.type "cell",data:=.cell none }).IsCell (s.heap.objs.size+1) none:=⟨{ cls:=.type "cell",data:=.cell none },Heap.get?_push_at (bq ..).symm rfl,rfl⟩;have hns:=(Heap.Ns.new s.heap (.type "frame")).keeps (h':=(s.heap.push { cls:=.type "frame",data:=.dict #[] }).push { cls:=.type "cell",data:=.cell none }) λ b o e=>ae _ e;refine jc ?_;rw[eY];refine jc (jc (wpAny_storeName_cell (env:=newEnv scope s.heap.objs.size globals ((pn,s.heap.objs.size+1)::clos) i9 func code none builtins) hk hp (by simp[newEnv]) hcell λ h' hc' hs'=>?_));refine je ?_;show jh M A (forIn ([]:List (jD×jg)) PUnit.unit _) _ _ _;rw[List.forIn_nil];refine je (je (hQ h' _ (hns.sameBut hs' (aD (br _))) hc' λ b o e=>hs'.extBut b o (aD (bc (ak e))) (ae _ (ae _ e))))
structure K9(pn:jD)(fs:LSz)(sc:jZ):Prop where
 kind:sc.kind=.function
 co:sc.isCoroutine=false
 gen:sc.isGenerator=false
 par:sc.names.lookup pn=some .cell
 cells:∀n acc,cellsFrom n sc.names acc=(pn,n)::acc
 push:∀h,pushCells h sc.names=h.push { cls:=.type "cell",data:=.cell none }
 own:∀y,sc.names.lookup y=some .cell->y=pn
 free:∀y,sc.names.lookup y=some .free->y∈fs
 isfree:∀y∈fs,sc.names.lookup y=some .free
theorem TW{P:jk}{w:ju}{K:jw}{mg:MGz}{ja:jy}{k:Nat}{H:Hp}{f c':jd}{params:Arguments}{body:jB}{scope:jZ}{i9 pn:jD}{ctv:jg}{fs:LSz}{clos:List (jD×jd)}{cv:LUz}{L:PNz}{sp:Sp}
  (hf:H f=some (BJ f (Cm mg i9 params body scope clos c' ctv))) (hc:H c'=some (Em c' i9)) (S:K9 pn fs scope) (hlen:cv.length=fs.length) (hkeys:∀y,(∃c,clos.lookup y=some c)↔y∈fs) (hinj:∀x y c,clos.lookup x=some c->clos.lookup y=some c->x=y)
  (hL:∀a o,L.lookup a=some o->H a=some (BJ a o)) (hcell:∀p∈clos,∃o v,L.lookup p.2=some o/\o.data=.cell v) (hval:∀p∈clos,∀(i:Nat)(v:V),fs[i]?=some p.1->cv[i]?=some v->∃o u,L.lookup p.2=some o/\o.data=.cell (some u)/\RelV v u)
  (hb:∀(s:jf)(u:jg),BindsTo s (kla_fn "<lambda>" i9 params body scope clos ((mg "__name__").getD .none) (.ref c') ctv) ⟨[u],[]⟩ [(pn,u)])
  (hone:∀vs H' Q E,sp vs H' Q E->∃v,vs=[v])
  (hbody:∀(A:jx)(i6:List lH)(s:jf)(H':Hp)(E:XK)(v:V)(Q:VK),Same H H'->Room k (A.deeper (envX i9 scope s.heap.objs.size f (.ref c') ((pn,s.heap.objs.size+1)::clos)))->sp [v] H' Q E ->
   ∃te,PE (Ug P w K mg ja (pn::fs) i9 scope f (.ref c') ((pn,s.heap.objs.size+1)::clos) A i6 s (utk H' L) H' E) body te/\te (some v::cv.map some) (utk H' L) (λ v' H2=>(∀a o,L.lookup a=some o->H2 a=none)->Q v' (tkd H2 L))) :
  FvOk P w K mg ja (k+1) H f sp:=by
 refine⟨⟨_,_,hf,rfl⟩,λ A i6 s H' us vs Q E sm hr e0 r h=>?_⟩;obtain⟨v,rfl⟩:=hone _ _ _ _ h;obtain⟨u,rfl,ru⟩:=D0 r;obtain⟨te,hpe,h⟩:=hbody A i6 s H' E v Q sm (hr.deeper _) h;have hL':∀a o,L.lookup a=some o->H' a=some (BJ a o):=λ a o e=>sm _ _ (hL a o e);have hget:∀a o,L.lookup a=some o->s.heap.get? a=some o:=λ a o e=>(show ObjOk P w H' s.heap a (BJ a o) from e0.hok a _ (hL' a o e)).1;have lim:s.heap.NoLimit:=e0.mod.nolimit.keeps λ b o e=>(e0.bs b o e).1;have ho:s.heap.get? f=some (Cm mg i9 params body scope clos c' ctv):=(show ObjOk P w H' s.heap f (BJ f _) from e0.hok f _ (sm _ _ hf)).1;refine kla_callFunE hr.depth ho rfl S.co S.gen rfl (Q8 (e0.hok c' _ (sm _ _ hc))) (hb s u _ _ _ _ ?_);refine M3 S.kind S.par S.cells S.push λ h1 tk hns hcl hk=>?_;refine⟨lim.keeps hk,?_⟩;show jU _ _ (.expr body (envX i9 scope s.heap.objs.size f (.ref c') ((pn,s.heap.objs.size+1)::clos))) _ _;refine kla_codeExpr ?_;have noA:∀b:jd,b∉(Ug P w K mg ja (pn::fs) i9 scope f (.ref c') ((pn,s.heap.objs.size+1)::clos) A i6 s (utk H' L) H' E).ex:=λ b z=>absurd (show b∈([]:List jd) from z) (by simp);have mem:∀y c,clos.lookup y=some c->(y,c)∈clos:=λ y c e=>PySem.mem_of_lookup e;have npf:pn∉fs:=λ z=>by have:=S.isfree pn z;rw[S.par]at this;cases this
 have look:∀y c,((pn,s.heap.objs.size+1)::clos).lookup y=some c->(y=pn/\c=s.heap.objs.size+1)\/(y≠pn/\clos.lookup y=some c):=λ y c e=>by
  rw[aX]at e;by_cases q:y=pn
  .subst q;rw[beq_self_eq_true]at e;exact .inl ⟨rfl,(Option.some.inj e).symm⟩
  .rw[show(y==pn)=false from beq_false_of_ne q]at e;exact .inr ⟨q,e⟩
 have lookF:∀y c,y≠pn->clos.lookup y=some c->((pn,s.heap.objs.size+1)::clos).lookup y=some c:=λ y c n e=>by rw[aX,show(y==pn)=false from beq_false_of_ne n];exact e
 have lookP:((pn,s.heap.objs.size+1)::clos).lookup pn=some (s.heap.objs.size+1):=by rw[aX,beq_self_eq_true]
 have lt:∀y c,clos.lookup y=some c->c<s.heap.objs.size:=λ y c e=>by
  obtain⟨o,vv,ho',_⟩:=hcell (y,c) (mem y c e);exact ak (hget _ _ ho')
 have I:Inv (Ug P w K mg ja (pn::fs) i9 scope f (.ref c') ((pn,s.heap.objs.size+1)::clos) A i6 s (utk H' L) H' E) [] (some v::cv.map some) (utk H' L) { s with heap:=h1,toks:=tk }:=by
  refine⟨⟨e0.mod,S.kind,rfl,rfl,ah _,λ x y c h1' h2'=>?_,λ y hy=>?_,λ y c z=>absurd z (by simp[Ug]),λ_=>hr.hd,Around.frames_deeper e0.frames,.inr ⟨rfl,rfl⟩,λ b z=>absurd z (noA b),λ b o e=>⟨(e0.bs b o e).1,Cu (e0.bs b o e).2⟩,e0.bsz,λ b _ _=>noA b,λ b z=>absurd z (noA b),e0.funs,λ b hb=>Cu (e0.frf b hb)⟩,
   rfl,e0.bare,Un.kept hk,⟨_,hns,λ i y vv h1' h2 h3=>?_⟩,λ y c e=>?_,Cu (e0.hok.fresh (ah _)),λ y c e=>?_,λ p hp=>absurd (show p∈([]:PNz) from hp) (by simp),(e0.hok.utk hL').kept hk,?_⟩
  .rcases look x c h1' with ⟨rfl,rfl⟩|⟨_,q1⟩
   .rcases look y _ h2' with ⟨rfl,_⟩|⟨_,q2⟩
    .rfl
    .exact absurd (lt y _ q2) (fz.mpr (bJ _))
   .rcases look y _ h2' with ⟨rfl,rfl⟩|⟨_,q2⟩
    .exact absurd (lt x _ q1) (fz.mpr (bJ _))
    .exact hinj x y c q1 q2
  .have hy:scope.names.lookup y=some .cell\/scope.names.lookup y=some .free:=hy;rcases hy with hy|hy
   .rw[S.own y hy];exact⟨_,lookP⟩
   .have m:=S.free y hy;obtain⟨c,e⟩:=(hkeys y).mpr m;exact⟨c,lookF y c (λ z=>npf (z ▸ m)) e⟩
  .have h1':(pn::fs)[i]?=some y:=h1';cases i with
   |zero =>
    cases h1';cases h2;exact⟨u,ru,.inr ⟨.inl S.par,_,lookP,hcl⟩⟩
   |succ i =>
    have h1':fs[i]?=some y:=h1';have h2:(cv.map some)[i]?=some (some vv):=h2;rw[aE]at h2;obtain⟨z,hz,e⟩:=ba.mp h2;cases e;have m:=aA h1';obtain⟨c,hc'⟩:=(hkeys y).mpr m;obtain⟨o,u',ho',hd,rv⟩:=hval (y,c) (mem y c hc') i vv h1' hz;exact⟨u',rv,.inr ⟨.inr (S.isfree y m),c,lookF y c (λ z=>npf (z ▸ m)) hc',o,hk _ _ (hget _ _ ho'),hd⟩⟩
  .rcases look y c e with ⟨rfl,rfl⟩|⟨_,e⟩
   .exact⟨_,hcl⟩
   .obtain⟨o,vv,ho',hd⟩:=hcell (y,c) (mem y c e);exact⟨vv,o,hk _ _ (hget _ _ ho'),hd⟩
  .rcases look y c e with ⟨rfl,rfl⟩|⟨_,e⟩
   .exact Cu (e0.hok.fresh (bJ _))
   .obtain⟨o,vv,ho',hd⟩:=hcell (y,c) (mem y c e);exact FV ho'
  .show(some v::cv.map some).length=(pn::fs).length;rw[aL,aL,aa,hlen]
 refine jA (hpe [] _ _ _ _ I h) (λ u2 s' ⟨v2,H2,J,rv,q⟩=>?_) λ e s' z=>z;have un:Un (frs i6) [] (utk H' L) H2 s.heap s'.heap:=J.ja;have hnf:∀a o,L.lookup a=some o->a∉frs i6:=λ a o e hb=>by
  have:=e0.frf a hb;rw[hL' a o e]at this;cases this
 have hno:∀a o,L.lookup a=some o->H2 a=none:=λ a o e=>un.free a o (hget a o e) (FV e) (by simp);exact⟨v2,tkd H2 L,J.os,J.bare,un.tkd hL',J.hok.tkd hno (λ a o e=>un.keep a o (hget a o e) (FV e) (hnf a o e) (by simp)),rv,q hno⟩
theorem ints_get{vs:LWz}{ns:List Int}(a:IntsAre vs ns):∀(j:Nat)(h:j<vs.length),∃tk,vs[j]=Value.int (ns.getD j 0) tk:=by
 induction a with
 |nil=>intro j h;simp at h
 |cons n t _ ih =>
  intro j h;cases j with
  |zero=>exact⟨t,rfl⟩
  |succ j=>exact ih j (by simpa using h)
theorem HOk.thaw{P:jk}{w:ju}{H:Hp}{h:jy}{a:jd}{ob:Obj}{u:HO}(ok:HOk P w H h)(e:H a=some (.frz ob u)):HOk P w (upd H a u) h:=λ b v q=>by
 have ho:∀b y,H b=some (.own y)->(upd H a u) b=some (.own y):=λ b y z=>by rw[Ad (λ c=>by rw[c,e]at z;cases z)];exact z
 have ht:∀b xs,H b=some (.tup xs)->(upd H a u) b=some (.tup xs):=λ b xs z=>by rw[Ad (λ c=>by rw[c,e]at z;cases z)];exact z
 by_cases hb:b=a
 .subst hb;rw[Ae]at q;cases q;exact(show h.get? b=some ob/\ObjOk P w H h b u from ok b _ e).2.stay (λ_ _ _ r=>r) (λ c r=>ho c _ r) ht
 .rw[Ad hb]at q;exact(ok b v q).stay (λ_ _ _ r=>r) (λ c r=>ho c _ r) ht
theorem Inv.thaw{X:Cx}{iZ:PNz}{σ:St}{H:Hp}{s:jf}{a:jd}{ob:Obj}{u:HO}(I:Inv X iZ σ H s)(e:H a=some (.frz ob u))(n:∀o v,X.H₀ a≠some (.frz o v)):Inv X iZ σ (upd H a u) s:=by
 have ne:∀{b:jd},H b=none->b≠a:=λ z c=>by rw[c,e]at z;cases z
 refine⟨I.ok,I.os,I.bare,⟨I.ja.keep,I.ja.slot,λ b o q r hx=>?_,I.ja.there,λ b xs q=>?_,λ b o v q=>?_,λ b ps q=>?_⟩,I.loc,I.cell,?_,λ x c q=>?_,λ p hp=>?_,I.hok.thaw e,I.len⟩
 .have:=I.ja.free b o q r hx;rw[Ad (ne this)];exact this
 .have:=I.ja.tups b xs q;rw[Ad (λ c=>by rw[c,e]at this;cases this)];exact this
 .have:=I.ja.frzs b o v q;rw[Ad (λ c=>by rw[c]at q;exact n o v q)];exact this
 .obtain⟨more,this⟩:=I.ja.tbls b ps q;exact⟨more,by rw[Ad (λ c=>by rw[c,e]at this;cases this)];exact this⟩
 .rw[Ad (ne I.free)];exact I.free
 .rw[Ad (ne (I.freeC x c q))];exact I.freeC x c q
 .obtain⟨p1,p2,p3⟩:=I.pin p hp;exact⟨p1,by rw[Ad (ne p2)];exact p2,p3⟩
noncomputable def VN(H₀:Hp)(te:TE):TE:=λ σ H Q=>te σ H λ v H'=>∃(a:jd)(ob:Obj)(u:HO),H' a=some (.frz ob u)/\(∀o w,H₀ a≠some (.frz o w))/\Q v (upd H' a u)
theorem O8{X:Cx}{e:jB}{te:TE}(h:PE X e te):PE X e (VN X.H₀ te):=by
 intro iZ s σ H Q I q;refine thn (h iZ s σ H _ I q) λ u s1 ⟨x,H1,I1,rx,a,ob,w,ea,n,q1⟩=>⟨x,_,I1.thaw ea n,rx,q1⟩
theorem Inv.many{X:Cx}{iZ:PNz}{σ:List (Option V)}{H H':Hp}{s:jf}{h':jy}{t':Nat}(I:Inv X iZ σ H s)(k:∀b u,s.heap.get? b=some u->h'.get? b=some u)(e:∀b o,H b=some o->H' b=some o)(f:∀b,b<s.heap.objs.size->H b=none->H' b=none)
  (new:∀b o,H b=none->H' b=some o->ObjOk X.prog X.w H' h' b o):Inv X iZ σ H' { s with heap:=h',toks:=t' }:=by
 refine I.un ⟨λ b u q _ _ _=>k b u q,λ b u q _ _ _=>⟨u.slots,k b u q⟩,λ b u q n _=>f b (ak q) n,λ b u q _=>⟨u,k b u q⟩,λ b xs q=>e b _ q,λ b u xs q=>e b _ q,λ b ps q=>⟨#[],by rw[e b _ q];simp⟩⟩ λ b o q=>?_;cases z:H b with
 |none=>exact new b o z q
 |some v =>
  rw[e b v z]at q;obtain rfl:=Option.some.inj q;exact(I.hok b _ z).stay (λ c v _ q=>k c v q) (λ c q=>e c _ q) λ c xs q=>e c _ q
@[elab_as_elim] theorem nv {H:Hp} {c:jd} {o:HO} {P:Hp->Prop} (n:H c=none) (h:∀G,Same H G->G c=some o->P G):P (upd H c o):=h _ (Same.new n) Ae
theorem fsk{N ps:LSz}{sc:jZ}(a:sc.kind=.function:=by rfl)(b:sc.isCoroutine=false:=by rfl)(c:sc.isGenerator=false:=by rfl)(d:N.Nodup:=by decide +kernel)(e:N.take ps.length=ps:=by rfl)(f:∀x∈ps,sc.names.lookup x=some .local\/sc.names.lookup x=some .cell:=by decide +kernel)(g:∀y∈sc.names,y.2≠.free:=by decide +kernel):Ak N ps sc:=⟨a,b,c,d,e,f,g⟩
section
variable{P:jk}{w:ju}{K:jw}{mg:MGz}{ja:jy}{x i9:jD}{st:jE}{f c:jd}{fd:jr}{N ps:LSz}{k:Nat}{sp:Sp}
theorem Fun.g(F:Fun K x i9 st f fd)(S:Ak N ps (Ah st))(h:∀vs H Q E,sp vs H Q E->vs.length=ps.length/\∀(cdv:jg)(A:jx)(i6:List lH)(s:jf),Room k (A.deeper (envOfC i9 (Ah st) s.heap.objs.size f cdv)) ->
  ∃t,PSs (B3 CX0 P w K mg ja N i9 (Ah st) f cdv A i6 s H E).nox (A7 st) t/\t { nx:=λ_ H'=>Q .non H',rt:=Q } (start N vs) H):A3 P w K mg ja CX0 (k+1) f fd ps sp :=
 F.ok S (λ vs H Q E z=>(h vs H Q E z).1) λ cdv A i6 s H vs Q E hr z=>(h vs H Q E z).2 cdv A i6 s hr
theorem Fun.gx(F:Fun K x i9 st f fd)(S:Ak N ps (Ah st))(h:∀vs H Q E,sp vs H Q E->vs.length=ps.length/\∀(cdv:jg)(A:jx)(i6:List lH)(s:jf),Room k (A.deeper (envOfC i9 (Ah st) s.heap.objs.size f cdv)) ->
  ∃t,PSs (B3 (CX1 P w) P w K mg ja N i9 (Ah st) f cdv A i6 s H E) (A7 st) t/\t { nx:=λ_ H'=>Q .non H',rt:=Q } (start N vs) H):A3 P w K mg ja (CX1 P w) (k+1) f fd ps sp :=
 F.okx S (λ vs H Q E z=>(h vs H Q E z).1) λ cdv A i6 s H vs Q E hr z=>(h vs H Q E z).2 cdv A i6 s hr
theorem FunD.g(F:FunD K x i9 st f fd)(S:Ak N ps (Ah st))(h:∀vs H Q E,sp vs H Q E->vs.length=ps.length/\∀(cdv:jg)(A:jx)(i6:List lH)(s:jf),Room k (A.deeper (envOfC i9 (Ah st) s.heap.objs.size f cdv)) ->
  ∃t,PSs (B3 CX0 P w K mg ja N i9 (Ah st) f cdv A i6 s H E).nox (A7 st) t/\t { nx:=λ_ H'=>Q .non H',rt:=Q } (start N vs) H):A3 P w K mg ja CX0 (k+1) f fd ps sp :=
 F.ok S (λ vs H Q E z=>(h vs H Q E z).1) λ cdv A i6 s H vs Q E hr z=>(h vs H Q E z).2 cdv A i6 s hr
theorem FunC.g(F:FunC K x i9 st f fd c)(S:Ak N ps (Ah st))(h:∀vs H Q E,sp vs H Q E->vs.length=ps.length/\∀(A:jx)(i6:List lH)(s:jf),Room k (A.deeper (envOfC i9 (Ah st) s.heap.objs.size f (.ref c))) ->
  ∃t,PSs (B3 CX0 P w K mg ja N i9 (Ah st) f (.ref c) A i6 s H E).nox (A7 st) t/\t { nx:=λ_ H'=>Q .non H',rt:=Q } (start N vs) H):A3 P w K mg ja CX0 (k+1) f fd ps sp :=
 F.ok S (λ vs H Q E z=>(h vs H Q E z).1) λ A i6 s H vs Q E hr z=>(h vs H Q E z).2 A i6 s hr
end
section
variable{X:Cx}
theorem nk(N:LSz)(h:N.Nodup:=by decide +kernel):N.Nodup:=h
theorem pgk{x:jD}{pos:Pos}(hN:X.N.Nodup)(hi:X.N[0]?=some x:=by rfl)(hx:Loc X.env.scope x:=by exact bN rfl)(hf:X.fn x=true\/X.env.scope.names.lookup x=some .local:=by first|exact .inl rfl|exact .inr rfl|assumption):PG X (.Name x pos) (E7 0):=AR hN hi hx hf
theorem EW{o e:jB}{es:List jB}{to:TE}{t:TA}{apos cpos:Pos}(ho:PE X o to)(ha:PA X (e::es) t)
  (hbase:attributeBase o "append" X.env (eval o X.env)=eval o X.env:=by rfl)
  (hfew:((jX cpos (jv (e::es) X.env)).all (λ x=>!x.1)&&(backToKw cpos (keywordEach [] X.env)).all (λ x=>x.1.isSome)
  &&decide ((e::es).length+([]:List Keyword).length+(if ([]:List Keyword).isEmpty then 0 else 1)<30))=true:=by rfl)
  (hline:(apos.endLine==cpos.line)=true:=by rfl) (hs:jv (e::es) X.env=(false,eval e X.env)::jv es X.env:=by rfl) (hplain:(jX cpos (jv es X.env)).any (·.1)=false:=by rfl) :
  PE X (.Call (.Attribute o "append" apos) (e::es) [] cpos) (tBM X.K "list" O0 to t):=Rz bI PySem.F.slot_list_append PySem.F.type_list_append Gq ho ha hbase hfew hline hs hplain
end
structure O4 where
 a:Option kH
 b:Option kH
 c:Option kH
 d:Option kH
noncomputable def elO(k:Nat):Option kH->List (Nat×kH)
 |none=>[]
 |some t=>[(k,t)]
noncomputable def lsO(o:O4):List (Nat×kH):=elO 1 o.a++(elO 2 o.b++(elO 3 o.c++elO 4 o.d))
noncomputable def eO(p:Nat×kH):Int×jg:=((p.1:Int),.int (p.1:Int) p.2)
noncomputable def esO(o:O4):Array (Int×jg):=((lsO o).map eO).toArray
noncomputable def tbO(o:O4)(led:Bool):SetTable:={ mask:=7,place:=((lsO o).map (·.1)).toArray,dummies:=#[],finger:=0,led:=led,moves:=0,plain:=true }
noncomputable def Cq(o:O4)(ep:Nat)(led:Bool):Obj:={ cls:=.type "set",dict:=none,data:=.set (esO o) ep (tbO o led) }
noncomputable def Dc(o:O4):Nat->Bool
 |1=>o.a.isSome
 |2=>o.b.isSome
 |3=>o.c.isSome
 |4=>o.d.isSome
 |_=>false
noncomputable def Ig(o:O4)(t:kH):Nat->O4
 |1=>{ o with a:=o.a.or (some t) }
 |2=>{ o with b:=o.b.or (some t) }
 |3=>{ o with c:=o.c.or (some t) }
 |4=>{ o with d:=o.d.or (some t) }
 |_=>o
theorem D8{v:Nat}(h1:1<=v)(h4:v<=4):v=1\/v=2\/v=3\/v=4:=by lia
theorem Xy(o:O4)(led:Bool)(t:kH){v:Nat}(h1:1<=v)(h4:v<=4)(h:Dc o v=false):layNew (tbO o led) (esO o) (v:Int) (.int (v:Int) t)=(esO (Ig o t v),tbO (Ig o t v) led,false,false):=by
 obtain⟨a,b,c,d⟩:=o;obtain rfl|rfl|rfl|rfl:=D8 h1 h4
 .cases a with
  |some _=>cases h
  |none=>cases led<;>cases b<;>cases c<;>cases d<;>kernel_rfl
 .cases b with
  |some _=>cases h
  |none=>cases led<;>cases a<;>cases c<;>cases d<;>kernel_rfl
 .cases c with
  |some _=>cases h
  |none=>cases led<;>cases a<;>cases b<;>cases d<;>kernel_rfl
 .cases d with
  |some _=>cases h
  |none=>cases led<;>cases a<;>cases b<;>cases c<;>kernel_rfl
theorem Q2(o:O4)(led:Bool):(tbO o led).fits (esO o).size=true:=by
 obtain⟨a,b,c,d⟩:=o;cases a<;>cases b<;>cases c<;>cases d<;>rfl
theorem WA(o:O4)(led:Bool):(tbO o led).tooFull=false:=by
 obtain⟨a,b,c,d⟩:=o;cases a<;>cases b<;>cases c<;>cases d<;>rfl
theorem Tf(o:O4):(esO o).size<=4:=by
 obtain⟨a,b,c,d⟩:=o;cases a<;>cases b<;>cases c<;>cases d<;>exact fO rfl
theorem OK{o:O4}{p:Nat×kH}(h:p∈lsO o):1<=p.1/\p.1<=4/\Dc o p.1=true:=by
 have el:∀(k:Nat)(x:Option kH),p∈elO k x->p.1=k/\x.isSome=true:=λ k x z=>by
  cases x with
  |none=>cases z
  |some t=>rw[af.mp z];exact⟨rfl,rfl⟩
 unfold lsO at h;rcases az.mp h with h|h
 .obtain⟨e,i⟩:=el _ _ h;rw[e];exact⟨by decide,by decide,i⟩
 rcases az.mp h with h|h
 .obtain⟨e,i⟩:=el _ _ h;rw[e];exact⟨by decide,by decide,i⟩
 rcases az.mp h with h|h
 .obtain⟨e,i⟩:=el _ _ h;rw[e];exact⟨by decide,by decide,i⟩
 .obtain⟨e,i⟩:=el _ _ h;rw[e];exact⟨by decide,by decide,i⟩
theorem U1{v:Nat}(h1:1<=v)(h4:v<=4):hashInt (v:Int)=(v:Int):=by
 obtain rfl|rfl|rfl|rfl:=D8 h1 h4<;>decide
theorem V0{P:jk}{w:ju}(o:O4):ElemsOf (intKind P w) (esO o).toList:=λ e he=>by
 have he:e∈(lsO o).map eO:=he;obtain⟨p,hp,rfl⟩:=ao.mp he;obtain⟨h1,h4,_⟩:=OK hp;exact⟨⟨(p.1:Int),lL _ _ _ _,(U1 h1 h4).symm⟩,rfl⟩
theorem TM{o:O4}{t:kH}{v:Nat}(h:Dc o v=true):Ig o t v=o:=by
 obtain⟨a,b,c,d⟩:=o;unfold Dc at h;split at h
 .cases a with
  |none=>cases h
  |some _=>rfl
 .cases b with
  |none=>cases h
  |some _=>rfl
 .cases c with
  |none=>cases h
  |some _=>rfl
 .cases d with
  |none=>cases h
  |some _=>rfl
 .cases h
theorem TN{o:O4}{v:Nat}(h:Dc o v=true):∃t,(v,t)∈lsO o:=by
 obtain⟨a,b,c,d⟩:=o;unfold Dc at h;split at h
 .cases a with
  |none=>cases h
  |some t=>exact⟨t,by simp[lsO,elO]⟩
 .cases b with
  |none=>cases h
  |some t=>exact⟨t,by simp[lsO,elO]⟩
 .cases c with
  |none=>cases h
  |some t=>exact⟨t,by simp[lsO,elO]⟩
 .cases d with
  |none=>cases h
  |some t=>exact⟨t,by simp[lsO,elO]⟩
 .cases h
theorem oQz{x:Option kH}{t:kH}:(x.or (some t)).isSome=(x.isSome||true):=by cases x<;>rfl
theorem Tu(o:O4)(t:kH){v:Nat}(h1:1<=v)(h4:v<=4)(k:Nat):Dc (Ig o t v) k=(Dc o k||decide (k=v)):=by
 match v,h1,h4 with
 |1,_,_=>match k with
  |1=>exact oQz
  |0|2|3|4|n+5=>exact(Bool.or_false _).symm
 |2,_,_=>match k with
  |2=>exact oQz
  |0|1|3|4|n+5=>exact(Bool.or_false _).symm
 |3,_,_=>match k with
  |3=>exact oQz
  |0|1|2|4|n+5=>exact(Bool.or_false _).symm
 |4,_,_=>match k with
  |4=>exact oQz
  |0|1|2|3|n+5=>exact(Bool.or_false _).symm
section
variable{P:jk}{w:ju}{A:jx}{E:VPz}{s:jf}
theorem Tk{S:jd}{o:O4}{ep:Nat}{led:Bool}{v:Nat}{t:kH}{Q:Bool->jf->Prop}(h1:1<=v)(h4:v<=4)(hS:s.heap.get? S=some (Cq o ep led))
  (h:∀b h' ep',Heap.SameBut S s.heap h'->h'.get? S=some (Cq (Ig o t v) ep' led)->Q b { s with heap:=h' }):jh (jm P w) A (setAddHashed S (.int (v:Int) t) (hashInt (v:Int))) Q E s:=by
 have hf:=Q2 o led;have hel:=V0 (P:=P) (w:=w) o;have sz:=Tf o;have hkey:(intKind P w).is (v:Int) (.int (v:Int) t)=true:=lL _ _ _ _;unfold setAddHashed setAddHashedIn;refine jI (jc (jL (o:=Cq o ep led) (ep:=ep) hS rfl hf ?_));dsimp only;rw[byScan_of (knd:=intKind P w) rfl (by unfold scanBound;lia) hel,jo rfl];unfold setAddByScan;refine jc (jc (wpAny_rule (jc ?_)));refine wpAny_setScan_of (knd:=intKind P w) hkey (o:=Cq o ep led) (ep:=ep) hS rfl hf hel ?_;cases hr:List.findIdx? (λ e=>(intKind P w).is (v:Int) e.2) (esO o).toList with
 |some j =>
  dsimp only;obtain⟨hj,hpj,_⟩:=List.findIdx?_eq_some_iff_getElem.mp hr;have hm:(esO o).toList[j]∈(lsO o).map eO:=bL hj;obtain⟨p,hp,e⟩:=ao.mp hm;rw[<-e]at hpj;have ev:(v:Int)=(p.1:Int):=(intKind P w).inj _ _ _ hpj (lL _ _ _ _);have ev:v=p.1:=by lia
  have hh:Dc o v=true:=by rw[ev];exact(OK hp).2.2
  refine je (je ?_);have:=h false s.heap ep (Heap.SameBut.refl S s.heap) (by rw[TM hh];exact hS);exact this
 |none =>
  dsimp only;have hh:Dc o v=false:=by
   cases hk:Dc o v with
   |false=>rfl
   |true =>
    obtain⟨t',ht⟩:=TN hk;have hm:eO (v,t')∈(esO o).toList:=by
     show eO (v,t')∈(lsO o).map eO;exact List.mem_map_of_mem ht
    have:=List.findIdx?_eq_none_iff.mp hr _ hm;rw[show(intKind P w).is (v:Int) (eO (v,t')).2=true from lL _ _ _ _]at this;cases this
  have hL:layNew (tbO o led) (esO o) (hashInt (v:Int)) (.int (v:Int) t)=(esO (Ig o t v),tbO (Ig o t v) led,false,false):=by
   rw[U1 h1 h4];exact Xy o led t h1 h4 hh
  rw[hL];dsimp only;refine jc (je ?_);rw[jo (show(tbO (Ig o t v) led).plain=true from rfl)];refine jc (je (jc ?_));rw[jo rfl];have hz:=Tf (Ig o t v);refine wpAny_storeSet_of (o:=Cq o ep led) (ep:=ep) hS rfl ?_ (aN (An (by lia)));rw[WA];rw[jj (by decide)];refine je (je (h true _ (ep+1) (Heap.SameBut.update s.heap S _) ?_));have hg:=bg (Obj.putSet (esO (Ig o t v)) (tbO (Ig o t v) led)) hS rfl;exact hg
end
section
variable{pr:jk}{wo:ju}{B:jx}{X0:VPz}{st:jf}{I:jd}{fp wr:List jd}{G:Array lD->Array lD->Prop}{n:Nat}{Pv:Nat->jg->Prop}{Sv:Nat->jf->Prop}{R:lI->jf->Prop}
theorem Wz(W:WalksS pr wo B.in1 I fp wr G n Pv Sv)(S:jd)(hSf:S∉fp)(Iv:Nat->jy->Prop)(keep:∀i h h',Iv i h->(∀b o,b∉wr->h.get? b=some o->h'.get? b=some o)->Iv i h')
  (add:∀i v (s:jf) (Q:Bool->jf->Prop) (X:VPz),i<n->Pv i v->Iv i s.heap->(∀b h' tk,s.toks<=tk->Heap.SameBut S s.heap h'->Iv (i+1) h'->Q b { s with heap:=h',toks:=tk })->jh (jm pr wo) B.in1 (setAdd S v) Q X s) :
  ∀(k i:Nat)(st:jf),n-i=k->i<=n->Sv i st->Iv i st.heap->(∀s',Moved (S::wr) G st s'->Iv n s'.heap->R (.ok (.ret .none)) s')->jU (jm pr wo) B (.builtin "set.update.loop" ⟨[.ref S,.ref I],[]⟩) R st:=by
 have up:∀b∈wr,b∈S::wr:=λ b z=>ay _ z;intro k
 induction k with
 |zero =>
  intro i st e0 le0 v0 hI hR;obtain rfl:i=n:=by lia
  refine kY F.entry_set_update_loop ?_;rw[Around.under_plainId F.plain_set_update_loop _];show jh _ B.in1 (pyNext (.ref I) >>= _) _ _ st;refine jc (W.done st _ _ v0 λ s' mv=>?_);show jh _ B.in1 (ret Value.none) _ _ s';exact je (hR s' (mv.mono up) (keep _ _ _ hI λ b o nb e=>mv.heap b o nb e))
 |succ k ih =>
  intro i st e0 le0 v0 hI hR;have lt0:i<n:=by lia
  refine kY F.entry_set_update_loop ?_;rw[Around.under_plainId F.plain_set_update_loop _];show jh _ B.in1 (pyNext (.ref I) >>= _) _ _ st;refine jc (W.item i st _ _ lt0 v0 λ v s' pv v1 mv=>?_);show jh _ B.in1 (holding [v] (setAdd S v) >>= _) _ _ s';refine jc (jI (add i v s' _ _ lt0 pv (keep _ _ _ hI λ b o nb e=>mv.heap b o nb e) λ b h' tk le sb hI2=>?_));refine je ⟨plainId_quiet F.plain_set_update_loop _,ih (i+1) _ (by lia) lt0 (W.frame _ s' _ _ v1 le λ b hb' o' e=>?_) hI2 λ s'' mv2 hI3=>hR s'' (Moved.trans W.gtrans ((mv.mono up).then_heap le λ b o' nb e=>?_) mv2) hI3⟩
  .rw[sb.2 b (λ z:b=S=>hSf (by rw[<-z];exact hb'))];exact e
  .rw[sb.2 b (λ z:b=S=>nb (by rw[z];exact aw))];exact e
noncomputable def Bk(wo:ju):Bool:=!wo.params.followText "set-order"
noncomputable def ID(led:Bool):Obj:=Cq ⟨none,none,none,none⟩ 0 led
theorem Wy(a:jg){Q1:VPz}(h:Q1 (.ref st.heap.objs.size) { st with heap:=st.heap.push (ID (Bk wo)) }) :
    jU (jm pr wo) B (.call (.builtin "set.__new__") ⟨[.type "set",a],[]⟩) (wants Q1 X0) st:=by
  refine codeAny_of_tree ?_;show jh _ B.in1 (do checkBuiltinCall "set.__new__" ⟨[.type "set",a],[]⟩;again (.builtin "set.__new__" ⟨[.type "set",a],[]⟩)) _ _ st;refine jc (kW (PySem.F.newCall_set_1 a) (je ⟨plainId_quiet F.plain_set_new _,kY F.entry_set_new ?_⟩));rw[Around.under_plainId F.plain_set_new _];unfold Builtin.«set.__new__» Builtin.Frozenset.newClass;have hsub:=sub_set_self;obtain⟨hp,g,d,tk,os⟩:=st;dsimp only
  wp_walk
  refine kR (je ?_);dsimp only;simp only[newObj];refine jc (wpAny_alloc (je ?_));exact je h
end
section
variable{pr:jk}{wo:ju}{B:jx}{X0:VPz}{st:jf}
theorem U4{l:jd}{its:Array jg}{Q:VPz}(hh:B.handled=none)(hl:st.heap.IsList l its)(Iv:Nat->jy->Prop)(h0:Iv 0 (st.heap.push (ID (Bk wo))))
  (keep:∀i h h',Iv i h->(∀b o,b<=st.heap.objs.size->h.get? b=some o->h'.get? b=some o)->Iv i h')
  (add:∀i v (s:jf) (Q:Bool->jf->Prop) (X:VPz),i<its.size->its[i]?=some v->Iv i s.heap->(∀b h' tk,s.toks<=tk->Heap.SameBut st.heap.objs.size s.heap h'->Iv (i+1) h'->Q b { s with heap:=h',toks:=tk })->jh (jm pr wo) B.in1.in1.in1 (setAdd st.heap.objs.size v) Q X s)
  (h:∀(h':jy)(tk:Nat),Iv its.size h'->(∀b ob,b<st.heap.objs.size->st.heap.get? b=some ob->h'.get? b=some ob)->Q (.ref st.heap.objs.size) { st with heap:=h',toks:=tk }) :
  jh (jm pr wo) B (call (.type "set") [.ref l]) Q X0 st:=by
 obtain⟨c0,tl0,mr0⟩:=bK.mro;have md0:=bK.made;have sb0:=bK.sub;refine ki (codeAny_of_tree ?_);show jh _ _ (callAny (.type "set") _) _ _ _;refine je ⟨Code.quiet_builtin _ (by decide +kernel),kY F.entry_type_call ?_⟩;rw[Around.under_plain (weight_type_call_type "set" [.ref l] []) rfl];have nt0:=bK.notType;have cc0:=bK.canCreate;have tc0:=PySem.F.typeCall_set_1 (.ref l)
 repeat (any_goals (first|assumption|wp_step))
 refine jY (Wy (wo:=wo) (.ref l) (X0:=X0) (Q1:=λ ob s1=>ob=.ref st.heap.objs.size/\s1={ st with heap:=st.heap.push (ID (Bk wo)) }) ⟨rfl,rfl⟩) λ r s1 hr=>?_;cases r with
 |error e=>exact hr
 |ok fl =>
  cases fl with
  |ret ob =>
   obtain⟨rfl,rfl⟩:=hr;have gS:(st.heap.push (ID (Bk wo))).get? st.heap.objs.size=some (ID (Bk wo)):=ar _ rfl;have hT:Shared.TypeIs { st with heap:=st.heap.push (ID (Bk wo)) } (.ref st.heap.objs.size) "set":=⟨_,gS,rfl⟩;have li0:=bK.init.lookup;have bi0:=bK.init.bind (.ref st.heap.objs.size)
   repeat (any_goals (first|assumption|wp_step))
   refine jY (kU (R:=wants (λ r s2=>r=.none/\∃h' tk,s2={ st with heap:=h',toks:=tk }/\Iv its.size h'/\(∀b ob,b<st.heap.objs.size->st.heap.get? b=some ob->h'.get? b=some ob)) X0) bK.init.plain PySem.F.entry_set_init (check_set_init_1 hT ?_)) λ r2 s2 hr2=>?_
   .obtain⟨ol,hol,hcl,nl,hdl⟩:=hl;obtain⟨ocls,odict,odata,oslots⟩:=ol;simp only at hcl hdl;subst hcl;subst hdl;have hol1:(st.heap.push (ID (Bk wo))).get? l=some { cls:=.type "list",dict:=odict,data:=.seq its nl,slots:=oslots }:=ae _ hol;have ss0:=PySem.F.sub_list_set;have sf0:=PySem.F.sub_list_frozenset;have nd0:(Value.type "list"==Value.type "dict")=false:=by decide
    have hl1:(st.heap.push (ID (Bk wo))).IsList l its:=⟨_,hol1,rfl,nl,rfl⟩;unfold Builtin.«set.__init__» noKeywords Builtin.Frozenset.updateFrom;generalize ePI:pyIter=PI
    wp_walk
    subst ePI;refine kI hl1 (jc (wpAny_runValue ?_));have ltS:l<st.heap.objs.size:=ak hol;have h3:B.in1.in1.in1.handled=none:=by simp[hh]
    have neI:l≠(st.heap.push (ID (Bk wo))).objs.size:=by
     rw[bq];exact aD (bc ltS)
    have nSf:st.heap.objs.size∉[(st.heap.push (ID (Bk wo))).objs.size,l]:=by
     rw[bq];simp only[aO,bi,or_false,not_or];exact⟨aD (br _),db ltS⟩
    refine Wz ((Walks.list h3 _ l neI its).toS) st.heap.objs.size nSf Iv (λ i h h' x k=>keep i h h' x λ b o lb e=>k b o ?_ e) add (its.size-0) 0 _ (by lia) (aP _)
     ⟨⟨_,ar _ rfl,rfl,rfl⟩,(hl1.push _)⟩ (keep _ _ _ h0 λ b o _ e=>ae _ e) ?_
    .intro z;have z:b=_:=af.mp z;have z:b=(st.heap.push (ID (Bk wo))).objs.size:=z;rw[bq]at z;rw[z]at lb;exact bG _ lb
    .intro s' mv hI';obtain⟨h',g',d',tk',os'⟩:=s';have eg:g'=st.gens:=mv.gens;have ed:d'=st.drawn:=mv.drawn;have eo:os'=st.os:=mv.os;subst eg;subst ed;subst eo;show jh _ _ _ _ _ _;refine je ?_;show jh _ _ (ret Value.none) _ _ _;refine je ⟨rfl,h',tk',rfl,hI',λ b ob lb e=>?_⟩;refine mv.heap b ob ?_ (ae _ (ae _ e));rw[bq];simp only[aO,bi,or_false,not_or];exact⟨aD lb,aD (bc lb)⟩
   .cases r2 with
    |error e=>exact hr2
    |ok fl2 =>
     cases fl2 with
     |ret r =>
      obtain⟨rfl,h',tk,rfl,hI',hk⟩:=hr2
      repeat (any_goals (first|assumption|wp_step))
      exact h _ _ hI' hk
     |_=>exact hr2.elim
  |_=>exact hr.elim
theorem WH{l:jd}{its:Array jg}{ns:List Nat}{Q:VPz}(hh:B.handled=none)(hl:st.heap.IsList l its)(hv:∀(i:Nat)(v:jg),its[i]?=some v->∃t,v=.int ((ns.getD i 0:Nat):Int) t)(hn:its.size=ns.length)(hb:∀x∈ns,1<=x/\x<=4)
  (h:∀(h':jy)(tk:Nat)(o:O4)(ep:Nat),h'.get? st.heap.objs.size=some (Cq o ep (Bk wo))->(∀x,Dc o x=true↔x∈ns)->(∀b ob,b<st.heap.objs.size->st.heap.get? b=some ob->h'.get? b=some ob)->Q (.ref st.heap.objs.size) { st with heap:=h',toks:=tk }) :
  jh (jm pr wo) B (call (.type "set") [.ref l]) Q X0 st:=by
 refine U4 hh hl (λ i h=>∃o ep,h.get? st.heap.objs.size=some (Cq o ep (Bk wo))/\∀x,Dc o x=true↔x∈ns.take i) ⟨_,0,ar _ rfl,λ x=>⟨λ z=>absurd z (by unfold Dc;split<;>decide),λ z=>nomatch z⟩⟩ (λ i h h' ⟨o,ep,a,b⟩ k=>⟨o,ep,k _ _ (ah _) a,b⟩) ?_ λ h' tk ⟨o,ep,a,b⟩ k=>h h' tk o ep a (by rw[hn,aM]at b;exact b) k;rintro i v s Q X li hi ⟨o,ep,hS,hx⟩ q;obtain⟨t,rfl⟩:=hv i v hi;have li':i<ns.length:=by lia
 have e:ns.getD i 0=ns[i]:=by rw[aU,ag li'];rfl
 rw[e];obtain⟨b1,b4⟩:=hb _ (bL li');unfold setAdd;refine jI (jc ((intKind pr wo).pyHash (k:=(ns[i]:Int)) (lL _ _ _ _) ?_));refine Tk (s:={ s with toks:=s.toks+1 }) b1 b4 hS λ b h' ep' sb hS2=>q b h' _ (bJ _) sb ⟨_,ep',hS2,λ x=>?_⟩;rw[Tu o t b1 b4,cx,decide_eq_true_eq,hx x,aS,ag li',az];exact or_congr Iff.rfl (af.symm)
end
theorem slot_sit_next:Slot "set_iterator" "__next__" "set_iterator.__next__" :=
 .of (owner:="set_iterator") (n:="__next__") (by rw[typeLookup_type,builtinLookup_eq_fast];kernel_rfl) (by decide +kernel) (by decide +kernel) (by decide +kernel) (by first|exact .inl (by decide +kernel)|exact .inr (by decide +kernel)) (by rw[isSubtype_type];kernel_rfl)
theorem Ee:entryFor table "set_iterator.__next__"=some Builtin.«set_iterator.__next__»:=entryFor_of_tree (by kernel_rfl)
theorem Ki:Manifest.owners.lookup (String.ofList ['r','o','t','a','r','e','t','i','_','t','e','s'].reverse)=some Manifest.sig_set_iterator:=by kernel_rfl
theorem EA(a:jg):argsOk "set_iterator.__next__" ⟨[a],[]⟩:=by
 unfold argsOk;rw[signature?_of (id:="set_iterator.__next__") (n:=['_','_','t','x','e','n','_','_']) (o:=['r','o','t','a','r','e','t','i','_','t','e','s']) (by kernel_rfl) Ki]
 kernel_rfl
noncomputable def Gg(wo:ju)(r:jd)(ep:Nat)(o:O4):Array (Int×jg):=if wo.params.followText "set-order"=true then pickOrder (wo.params.setOrder r ep) (esO o) else esO o
noncomputable def slO(o:O4):Nat->Nat
 |0=>0
 |i+1=>((lsO o).map (·.1)).getD i 0+1
noncomputable def slW(wo:ju)(o:O4)(i:Nat):Nat:=if wo.params.followText "set-order"=true then 0 else slO o i
noncomputable def HZ(wo:ju)(r:jd)(ep:Nat)(o:O4)(i:Nat):Obj:={ cls:=.type "set_iterator",data:=.fields #[.int (slW wo o i:Int) 0,.int (i:Int) 0,.ref r,.int ((esO o).size:Int) 0,.int (ep:Int) 0] }
noncomputable def lsB(x y z t:Bool):List Nat:=(if x then [1] else [])++((if y then [2] else [])++((if z then [3] else [])++if t then [4] else []))
noncomputable def slB(L:List Nat):Nat->Nat
 |0=>0
 |k+1=>L.getD k 0+1
theorem lsB_is(o:O4):(lsO o).map (·.1)=lsB o.a.isSome o.b.isSome o.c.isSome o.d.isSome:=by
 obtain⟨a,b,c,d⟩:=o;cases a<;>cases b<;>cases c<;>cases d<;>rfl
theorem keyB:∀x y z t:Bool,((List.range (lsB x y z t).length).all λ i=>SetTable.below (lsB x y z t).toArray (slB (lsB x y z t) i)==i)=true:=by decide +kernel
theorem UX(o:O4)(led:Bool){i:Nat}(h:i<(esO o).size):∃j,SetTable.below (tbO o led).place (slO o i)=i/\(tbO o led).place[i]?=some j/\slO o (i+1)=j+1:=by
 have e0:(esO o).size=((lsO o).map (·.1)).length:=by simp[esO]
 rw[e0]at h;refine⟨((lsO o).map (·.1)).getD i 0,?_,?_,rfl⟩
 .have e:slO o i=slB ((lsO o).map (·.1)) i:=by cases i<;>rfl
  show SetTable.below ((lsO o).map (·.1)).toArray _=i;rw[e];rw[lsB_is]at h⊢;exact beq_iff_eq.mp (List.all_eq_true.mp (keyB _ _ _ _) i (List.mem_range.mpr h))
 .show ((lsO o).map (·.1)).toArray[i]?=_;rw[List.getElem?_toArray,List.getD_eq_getElem?_getD,List.getElem?_eq_getElem h];rfl
theorem X4(o:O4)(led:Bool):SetTable.below (tbO o led).place (slO o (esO o).size)=(esO o).size:=by
 obtain⟨a,b,c,d⟩:=o;cases a<;>cases b<;>cases c<;>cases d<;>kernel_rfl
theorem OS{α:Type}(next:Nat->Nat):∀(f k:Nat)(left:List α)(out:Array α),left.length<=f->∃r:List α,r.Perm left/\(pickOrder.go next f k left out).toList=out.toList++r
 |0,k,left,out,h=>by
  have e:left=[]:=dw.mp (Nat.le_zero.mp h);subst e;exact⟨[],cJ _,by rw[pickOrder.go,aR]⟩
 |f+1,k,left,out,h=>by
  rw[pickOrder.go];by_cases e:left=[]
  .subst e;exact⟨[],cJ _,by rw[aR];rfl⟩
  .have pos:0<left.length:=List.length_pos_iff.mpr e;have lt:next k % left.length<left.length:=Nat.mod_lt _ pos;rw[ag lt];obtain⟨r,p,q⟩:=OS next f (k+1) (left.eraseIdx (next k % left.length)) (out.push left[next k % left.length]) (by rw[List.length_eraseIdx_of_lt lt];lia);have back:(left[next k % left.length]::left.eraseIdx (next k % left.length)).Perm left:=by
    rw[List.eraseIdx_eq_take_drop_succ];refine List.perm_middle.symm.trans ?_;rw[<-b5 lt,fL]
   refine⟨left[next k % left.length]::r,(List.Perm.cons _ p).trans back,?_⟩;show(pickOrder.go next f (k+1) (left.eraseIdx (next k % left.length)) (out.push left[next k % left.length])).toList=_;rw[q,Array.toList_push,aZ];rfl
theorem Ir(wo:ju)(r:jd)(ep:Nat)(o:O4):(Gg wo r ep o).toList.Perm (esO o).toList:=by
 unfold Gg;split
 .unfold pickOrder;obtain⟨l,p,q⟩:=OS (wo.params.setOrder r ep) (esO o).size 0 (esO o).toList #[] (by rw[aW];exact ah _);rw[q];exact p
 .exact cJ _
theorem Iq(wo:ju)(r:jd)(ep:Nat)(o:O4):(Gg wo r ep o).size=(esO o).size:=by
 have:=(Ir wo r ep o).length_eq;rwa [aW,aW]at this
section
variable{pr:jk}{wo:ju}{B:jx}{X0:VPz}{st:jf}{r I:jd}{ep:Nat}{o:O4}
theorem Jm{Q:Bool->jf->Prop}(h:Q (wo.params.followText "set-order") st):jh (jm pr wo) B setsByText Q X0 st:=by
 unfold setsByText;exact jc (kR (je h))
theorem Ld{i:Nat}{e:Int×jg}{Q:Option (jg×Nat)->jf->Prop}(hS:st.heap.get? r=some (Cq o ep (Bk wo)))(he:(Gg wo r ep o)[i]?=some e)
  (h:Q (some (e.2,slW wo o (i+1))) st):jh (jm pr wo) B (setNext r (slW wo o i) i ep) Q X0 st:=by
 have hf:=Q2 o (Bk wo);unfold setNext;refine jc (jL (o:=Cq o ep (Bk wo)) (ep:=ep) hS rfl hf ?_);dsimp only;refine jc (Jm ?_);unfold Gg at he;unfold slW at h |-;cases ht:wo.params.followText "set-order" with
 |true =>
  rw[ht,jo rfl]at he h;rw[jo rfl,jo rfl,jj (by simp)];refine jc ?_;unfold setWalk;refine jc (jL (o:=Cq o ep (Bk wo)) (ep:=ep) hS rfl hf ?_);dsimp only;refine jc (Jm ?_);rw[ht,jo rfl];refine jc (kR (je (je ?_)));show Q (((pickOrder (wo.params.setOrder r ep) (esO o))[i]?).map λ e=>(e.2,0)) st;rw[he];exact h
 |false =>
  rw[ht,jj aq]at he h;rw[jj aq,jj aq];refine kG (λ z=>absurd (show false=true from z) aq) (λ_=>?_);have hl:Bk wo=true:=by unfold Bk;rw[ht];rfl
  rw[hl];refine jc (je ?_);obtain⟨lt,_⟩:=aY.mp he;obtain⟨j,p1,p2,p3⟩:=UX o true lt;refine je ?_;rw[p1,he,p2];rw[p3]at h;exact h
theorem Mb{Q:Option (jg×Nat)->jf->Prop}(hS:st.heap.get? r=some (Cq o ep (Bk wo)))(h:Q none st):jh (jm pr wo) B (setNext r (slW wo o (esO o).size) (esO o).size ep) Q X0 st:=by
 have hf:=Q2 o (Bk wo);have os:=Iq wo r ep o;unfold setNext;refine jc (jL (o:=Cq o ep (Bk wo)) (ep:=ep) hS rfl hf ?_);dsimp only;refine jc (Jm ?_);unfold Gg at os;unfold slW;cases ht:wo.params.followText "set-order" with
 |true =>
  rw[ht,jo rfl]at os;rw[jo rfl,jo rfl,jj (by simp)];refine jc ?_;unfold setWalk;refine jc (jL (o:=Cq o ep (Bk wo)) (ep:=ep) hS rfl hf ?_);dsimp only;refine jc (Jm ?_);rw[ht,jo rfl];refine jc (kR (je (je ?_)));show Q (((pickOrder (wo.params.setOrder r ep) (esO o))[(esO o).size]?).map λ e=>(e.2,0)) st;rw[cq (by lia)];exact h
 |false =>
  rw[jj aq,jj aq];refine kG (λ z=>absurd (show false=true from z) aq) (λ_=>?_);have hl:Bk wo=true:=by unfold Bk;rw[ht];rfl
  rw[hl];refine jc (je ?_);refine je ?_;rw[X4,cq (ah _)];exact h
theorem Cw{i:Nat}(hI:st.heap.get? I=some (HZ wo r ep o i)):st.TypeIs (.ref I) "set_iterator":=⟨_,hI,rfl⟩
theorem Ef{Q:Array (Int×jg)->jf->Prop}(hS:st.heap.get? r=some (Cq o ep (Bk wo)))(h:Q (esO o) st):jh (jm pr wo) B (setEntries r) Q X0 st:=by
 unfold setEntries;exact jc (jL (o:=Cq o ep (Bk wo)) (ep:=ep) hS rfl (Q2 o (Bk wo)) (je h))
theorem NI{i:Nat}{e:Int×jg}{Q:Option jg->jf->Prop}(hI:st.heap.get? I=some (HZ wo r ep o i))(hne:r≠I)(hS:st.heap.get? r=some (Cq o ep (Bk wo)))(he:(Gg wo r ep o)[i]?=some e)
  (fin:∀h',h'.get? I=some (HZ wo r ep o (i+1))->Heap.SameBut I st.heap h'->Q (some e.2) { st with heap:=h' }):jh (jm pr wo) B (pyNext (.ref I)) Q X0 st:=by
 unfold pyNext;refine jc (kt (wpAny_callSpecial?_slot (name:=Str.ofString "__next__") (Cw hI) slot_sit_next (jJ slot_sit_next (Cw hI) Ee ?_ (EA _))));unfold Builtin.«set_iterator.__next__»;refine jc (m:=slotArgs "__next__" 0 _) (je ?_);refine jc (lm hI rfl ?_);show jh _ _ (setEntries r >>= _) _ _ st;refine jc (Ef hS ?_);rw[jj (by simp)];show jh _ _ (setNext r (slW wo o i) i ep >>= _) _ _ st;refine jc (Ld hS he ?_);show jh _ _ (setField (.ref I) 0 (jR (slW wo o (i+1):Nat)) >>= _) _ _ st;refine jc (j4 hI rfl (Nat.zero_lt_succ _) ?_);have g1:(st.heap.update I (Obj.mapFields λ x=>x.setIfInBounds 0 (jR (slW wo o (i+1):Nat)))).get? I=some { cls:=.type "set_iterator",data:=.fields #[.int (slW wo o (i+1):Int) 0,.int (i:Int) 0,.ref r,.int ((esO o).size:Int) 0,.int (ep:Int) 0] }:=bg _ hI rfl;have sb1:=Heap.SameBut.update st.heap I (Obj.mapFields λ x=>x.setIfInBounds 0 (jR (slW wo o (i+1):Nat)));generalize st.heap.update I (Obj.mapFields λ x=>x.setIfInBounds 0 (jR (slW wo o (i+1):Nat)))=h1 at g1 sb1 |-;refine jc (j4 (s:={ st with heap:=h1 }) g1 rfl (show(1:Nat)<5 by decide) ?_);have g2:(h1.update I (Obj.mapFields λ x=>x.setIfInBounds 1 (jR ((i:Int)+1)))).get? I=some (HZ wo r ep o (i+1)):=bg _ g1 rfl;exact je ⟨_,rfl,je (fin _ g2 (sb1.trans (Heap.SameBut.update h1 I _)))⟩
theorem Qg{Q:Option jg->jf->Prop}(hh:B.handled=none)(hI:st.heap.get? I=some (HZ wo r ep o (esO o).size))(hne:r≠I)(hS:st.heap.get? r=some (Cq o ep (Bk wo)))
  (fin:∀h',Heap.ExtBut I st.heap h'->Q none { st with heap:=h' }):jh (jm pr wo) B (pyNext (.ref I)) Q X0 st:=by
 unfold pyNext;refine jc (kt (wpAny_callSpecial?_slot (name:=Str.ofString "__next__") (Cw hI) slot_sit_next (jJ slot_sit_next (Cw hI) Ee ?_ (EA _))));unfold Builtin.«set_iterator.__next__»;refine jc (m:=slotArgs "__next__" 0 _) (je ?_);refine jc (lm hI rfl ?_);show jh _ _ (setEntries r >>= _) _ _ st;refine jc (Ef hS ?_);rw[jj (by simp)];show jh _ _ (setNext r (slW wo o (esO o).size) (esO o).size ep >>= _) _ _ st;refine jc (Mb hS ?_);show jh _ _ (setField (.ref I) 2 .none >>= _) _ _ st;refine jc (j4 hI rfl (show(2:Nat)<5 by decide) ?_);show jh _ _ (newExc (.type "StopIteration") [] >>= _) _ _ _;refine jc ?_;simp only[newExc,newTuple];refine jc (jM ?_ (by size_fits));refine jc (m:=firstArgMember _ _) (kW (a:=Value.none) (by first|rfl|(simp only[firstArgMember];rfl)) ?_);refine jM ?_ (by size_fits);simp only[raiseNew];refine jc (wpAny_handled ?_);rw[show B.in1.handled=none from hh];refine jc (je (wpAny_throw ?_));refine jc (kh (T:="StopIteration") (b:=true) ⟨_,ar _ rfl,rfl⟩ isSubtype_stop ?_);exact je (fin _ (((Heap.SameBut.update ..).extBut.push _).push _))
theorem L9:entryFor table "set.__iter__"=some Builtin.«frozenset.__iter__»:=entryFor_alias (id':="frozenset.__iter__") (by kernel_rfl) rfl (by decide +kernel) (by kernel_rfl)
theorem V8{Q:VPz}(hS:st.heap.get? r=some (Cq o ep (Bk wo)))(h:Q (.ref st.heap.objs.size) { st with heap:=st.heap.push (HZ wo r ep o 0) }):jh (jm pr wo) B (pyIter (.ref r)) Q X0 st:=by
 have hT:st.TypeIs (.ref r) "set":=⟨_,hS,rfl⟩;refine lA hT fB (jJ fB hT L9 ?_ (PySem.F.args_set_iter_1 _));unfold Builtin.«frozenset.__iter__» Builtin.Frozenset.slot0;refine jc (jc (m:=slotArgs "__iter__" 0 _) (je (je ?_)));unfold Builtin.Frozenset.sizeOf;refine jc (jc (Ef hS (je ?_)));refine jc ?_;unfold setDrawn;refine jc (jL (o:=Cq o ep (Bk wo)) (ep:=ep) hS rfl (Q2 o (Bk wo)) ?_);dsimp only;refine jc (Jm (je ?_));refine kG (λ z=>absurd (show false=true from (Eq.mp (ax _ _) z).2) aq) (λ_=>?_);refine jc (je (jc (wpAny_setEpoch_of (o:=Cq o ep (Bk wo)) (ep:=ep) hS rfl (Q2 o (Bk wo)) ?_)));unfold newFields;refine jc (jM (je ⟨_,rfl,"set_iterator",_,⟨_,ar _ rfl,rfl⟩,slot_sit_next.lookup,?_⟩));have e0:slW wo o 0=0:=by unfold slW;split<;>rfl
 have eo:HZ wo r ep o 0={ cls:=.type "set_iterator",data:=.fields #[.int 0 0,.int 0 0,.ref r,.int ((esO o).size:Int) 0,.int (ep:Int) 0] }:=by unfold HZ;rw[e0];rfl
 rw[eo]at h;exact h
theorem E3:Slot "set_iterator" "__iter__" "set_iterator.__iter__" :=
 .of (owner:="set_iterator") (n:="__iter__") (by rw[typeLookup_type,builtinLookup_eq_fast];kernel_rfl) (by decide +kernel) (by decide +kernel) (by decide +kernel) (by first|exact .inl (by decide +kernel)|exact .inr (by decide +kernel)) (by rw[isSubtype_type];kernel_rfl)
theorem Jd:entryFor table "set_iterator.__iter__"=some Builtin.«dict_keyiterator.__iter__»:=entryFor_alias (id':="dict_keyiterator.__iter__") (by kernel_rfl) rfl (by decide +kernel) (by kernel_rfl)
theorem JO(a:jg):argsOk "set_iterator.__iter__" ⟨[a],[]⟩:=by
 unfold argsOk;rw[signature?_of (id:="set_iterator.__iter__") (n:=['_','_','r','e','t','i','_','_']) (o:=['r','o','t','a','r','e','t','i','_','t','e','s']) (by kernel_rfl) Ki]
 kernel_rfl
theorem VZ{i:Nat}{Q:VPz}(hI:st.heap.get? I=some (HZ wo r ep o i))(h:Q (.ref I) st):jh (jm pr wo) B (pyIter (.ref I)) Q X0 st:=by
 refine lA (Cw hI) E3 (jJ E3 (Cw hI) Jd ?_ (JO _));show jh _ _ (ret (.ref I)) _ _ st;exact je ⟨_,rfl,"set_iterator",_,Cw hI,slot_sit_next.lookup,h⟩
theorem Se{Q:Bool->jf->Prop}(hT:st.TypeIs (.ref r) "set")(h:Q false st):jh (jm pr wo) B (Builtin.List.listLengthHint (.ref r)) Q X0 st:=by
 unfold Builtin.List.listLengthHint;refine jc (j9 hT PySem.F.slot_set_len.lookup ?_);generalize hid:("set.__len__":String)=id0
 wp_delta
 rw[show splitId id0=some ("set","__len__") from by subst hid;decide +kernel];subst hid;refine jc (kh (T:="set") (b:=true) hT (by rw[isSubtype_type];kernel_rfl) ?_);refine kG (λ z=>absurd z (by decide)) (λ_=>?_);refine kG (λ_=>?_) (λ z=>absurd (by decide +kernel) z);exact jc (wpAny_typeOf hT (je h))
theorem VL(hh:B.handled=none)(hne:r≠I):Walks pr wo B I [I,r] [I] (esO o).size (λ i v=>∃e,(Gg wo r ep o)[i]?=some e/\v=e.2) (λ i h=>h.get? I=some (HZ wo r ep o i)/\h.get? r=some (Cq o ep (Bk wo))) where
 sub:=λ b hb=>by rw[af.mp hb];exact aw
 frame:=λ_ _ _ a hk=>⟨hk I aw _ a.1,hk r (by simp) _ a.2⟩
 item:=λ i s Q E hi a hQ=>by
  have lt:i<(Gg wo r ep o).size:=by rw[Iq];exact hi
  refine NI a.1 hne a.2 (bn lt) λ h' g sb=>?_;exact hQ _ h' s.toks ⟨_,bn lt,rfl⟩ ⟨g,(sb.2 r hne).trans a.2⟩ λ b ob nb e=>(sb.2 b (λ z=>nb (by rw[z];exact af.mpr rfl))).trans e
 done:=λ s Q E a hQ=>Qg hh a.1 hne a.2 λ h' eb=>hQ h' s.toks λ b ob nb e=>eb b ob (λ z=>nb (by rw[z];exact af.mpr rfl)) e
 self:=λ_ _ _ _ a hQ=>VZ a.1 hQ
theorem Xh:KdlSrc pr wo "set" r r (esO o).size (λ i v=>∃e,(Gg wo r ep o)[i]?=some e/\v=e.2) (λ h=>h.get? r=some (Cq o ep (Bk wo))) where
 type:=λ s h=>⟨_,h,rfl⟩
 there:=λ h e=>⟨ak e,ak e⟩
 keep:=λ h h' e k=>k r (.inl rfl) _ e
 notList:=by decide
 notTuple:=by decide
 hint:=λ A E s Q e h=>Se ⟨_,e,rfl⟩ h
 iter:=λ A s hh e=>⟨HZ wo r ep o 0,_,λ E Q h=>V8 e h,VL hh (aD (ak e)),ar _ rfl,ae _ e⟩
end
noncomputable def Nj(o:O4):List Int:=(lsO o).map λ p=>(p.1:Int)
theorem SU(o:O4):(Nj o).Pairwise (·<=·):=by
 obtain⟨a,b,c,d⟩:=o;cases a<;>cases b<;>cases c<;>cases d<;>simp[Nj,lsO,elO]
theorem Qu{l:List (Nat×kH)}{es:List (Int×jg)}(h:∀e∈es,∃p,e=eO p):IntsAre (es.map (·.2)) (es.map (·.1)):=by
 induction es with
 |nil=>exact .nil
 |cons e r ih =>
  obtain⟨p,rfl⟩:=h e aw;exact .cons _ _ (ih λ x hx=>h x (ay _ hx))
section
variable{pr:jk}{wo:ju}{B:jx}{X0:VPz}{st:jf}{r:jd}{ep:Nat}{o:O4}
theorem Te{Q:VPz}(hh:B.handled=none)(hS:st.heap.get? r=some (Cq o ep (Bk wo)))
  (h:∀(h':jy)(tk:Nat)(D:jd)(vs:LWz)(e:Nat),(∀b ob,st.heap.get? b=some ob->h'.get? b=some ob)->r<D->h'.get? D=some (jz "list" vs.toArray e)->IntsAre vs (Nj o)->Q (.ref D) { st with heap:=h',toks:=tk }) :
  jh (jm pr wo) B (call (.builtin "sorted") [.ref r]) Q X0 st:=by
 refine Calls.call_function_entry kind_sorted plain_sorted entry_sorted (args_sorted1 _) ?_;unfold Builtin.«sorted»;refine jc (m:=checkCount "sorted" 1 1 _) (je (jc ?_));have sz:=Tf o;refine kdu_collect (A:=B.in1) (Xh (pr:=pr) (o:=o) (ep:=ep)) hh hS (aN (An (by lia))) λ h1 tk acc k1 jb=>?_;have ea:acc.toList=(Gg wo r ep o).toList.map (·.2):=by
  refine cR λ j=>?_;rw[aE,cz,cz];cases hj:acc[j]? with
  |some v =>
   obtain⟨e,he,rfl⟩:=jb.2 j v hj;rw[he];rfl
  |none =>
   have:acc.size<=j:=Array.getElem?_eq_none_iff.mp hj;have e2:(Gg wo r ep o).size<=j:=by rw[Iq,<-jb.1];exact this
   rw[cq e2];rfl
 have hI:IntsAre acc.toList ((Gg wo r ep o).toList.map (·.1)):=by
  rw[ea];refine Qu (l:=[]) λ e he=>?_;have:e∈(lsO o).map eO:=(Ir wo r ep o).mem_iff.mp he;obtain⟨p,_,rfl⟩:=ao.mp this;exact⟨p,rfl⟩
 have al:acc.toList.length<=4:=by rw[aW,jb.1];exact sz
 refine jc (kT ?_ (aN (An (by lia))));have hoL:(h1.push (jz "list" acc.toList.toArray 0)).get? h1.objs.size=some (jz "list" acc.toList.toArray 0):=ar _ rfl;refine jc (jI (jJ slot_list_sort ⟨_,hoL,rfl⟩ entry_list_sort (list_sort_tree hoL hI (by lia) λ out ns' a1 a2 a3=>⟨_,rfl,?_⟩) (args_list_sort _)));obtain⟨e,he⟩:=sortedHeap_at (out:=out) hoL;have en:ns'=Nj o:=by
  have p1:ns'.Perm (Nj o):=by
   refine a2.trans (((Ir wo r ep o).map _).trans ?_);show(((lsO o).map eO).map (·.1)).Perm (Nj o);rw[aB];exact cJ _
  exact List.Perm.eq_of_pairwise (λ a b _ _ x y=>Int.le_antisymm x y) a3 (SU o) p1
 rw[en]at a1;refine je ⟨_,rfl,h _ tk h1.objs.size out.toList e (λ b ob z=>?_) ?_ he a1⟩
 .have z1:=k1 b ob z;have lt:=ak z1;rw[sortedHeap_old (aD lt) (by rw[size_push'];exact bc lt)];exact ae _ z1
 .exact ak (k1 _ _ hS)
end
noncomputable def GV(ns:List Nat):List Nat:=[1,2,3,4].filter λ k=>ns.contains k
theorem P2{o:O4}{ns:List Nat}(h:∀x,Dc o x=true↔x∈ns):Nj o=(GV ns).map λ k:Nat=>(k:Int):=by
 have e:∀k,ns.contains k=Dc o k:=λ k=>by
  cases hc:Dc o k with
  |true=>exact dL.mpr ((h k).mp hc)
  |false =>
   cases hd:ns.contains k with
   |false=>rfl
   |true=>rw[(h k).mpr (dL.mp hd)]at hc;cases hc
 unfold GV;rw[show(λ k=>ns.contains k)=Dc o from funext e];obtain⟨a,b,c,d⟩:=o;cases a<;>cases b<;>cases c<;>cases d<;>rfl
section
variable{X:Cx}{e:jB}{te:TE}{p1 p2 q1 q2:Pos}
noncomputable def tSS(K:jw)(te:TE):TE:=λ σ H Q=>te σ H λ x H1=>∃(a:jd)(ns:List Nat),x=.ref a/\SqL K H1 a (ns.map λ k:Nat=>V.int (k:Int))/\(∀k∈ns,1<=k/\k<=4)/\∀l,H1 l=none->Q (.ref l) (upd H1 l (.lst ((GV ns).map λ k:Nat=>V.int (k:Int))))
theorem Rn(ns:List Nat):(GV ns).length<=4:=bY _ [1,2,3,4]
theorem O9(hc:X.calm=true)(hgo:Gl X "sorted")(hmo:X.mg "sorted"=none)(hgi:Gl X "set")(hmi:X.mg "set"=none)(he:PE X e te)
  (se:jv [e] X.env=[(false,eval e X.env)]:=by rfl)
  (so:jv [Expr.Call (.Name "set" p2) [e] [] q2] X.env=[(false,eval (Expr.Call (.Name "set" p2) [e] [] q2) X.env)]:=by rfl) :
  PE X (.Call (.Name "sorted" p1) [.Call (.Name "set" p2) [e] [] q2] [] q1) (tSS X.K te):=by
 intro iZ s σ H Q I h;refine jG (BS (u:=.builtin "sorted") I hgo hmo rfl ?_);refine PyProof.Rows.callWith_builtin1 (rest:=[]) ?_ so rfl;rw[so];refine Calls.spliced_cons (jG (BS (u:=.type "set") I hgi hmi rfl ?_));refine PyProof.Rows.callWith_type1 (rest:=[]) ?_ se rfl;rw[se];refine Calls.spliced_cons (thn (he iZ s σ H _ I h) λ u s1 z=>Calls.spliced_nil ?_);obtain⟨x,H1,I1,r1,a,ns,rfl,hS,hb,q⟩:=z;cases r1;obtain⟨its,rv,pl,hz⟩:=I1.list hS;have hl:=rv.length;rw[aa]at hl;have hd:=I1.ok.hd hc;refine WH (ns:=ns) hd pl.isList (λ i v hv=>?_) (by rw[aj];exact hl.symm) hb λ h' tk o ep g hx k=>?_
 .rw[dJ]at hv;obtain⟨hi,_⟩:=aF.mp hv;have hi':i<ns.length:=by lia
  obtain⟨u,hu,ru⟩:=rv.get (i:=i) (x:=.int (ns[i]:Nat)) (by rw[aE,ag hi'];rfl);rw[hv]at hu;obtain⟨t,rfl⟩:=ru;refine⟨t,?_⟩;rw[aU,ag hi'];exact Option.some.inj hu
 .refine Calls.spliced_nil (Te (st:={ s1 with heap:=h',toks:=tk }) hd g λ h2 tk2 D vs e k2 lt gD hI=>?_);have k3:∀b ob,s1.heap.get? b=some ob->h2.get? b=some ob:=λ b ob z=>k2 b ob (k b ob (ak z) z);have le:s1.heap.objs.size<=D:=aN lt;rw[P2 hx]at hI;have rl:=Rn ns;refine⟨.ref D,_,I1.laid (o:=.lst ((GV ns).map λ k:Nat=>V.int (k:Int))) (t':=tk2) k3 le ⟨?_,vs,e,?_,?_⟩,rfl,q D (I1.hok.fresh le)⟩
  .rw[aa];exact aN (An (by lia))
  .have:=FU hI;rw[aB]at this;exact this
  .exact gD
end
section
variable{X:Cx}
noncomputable def Db:List jB->Option (List Int)
 |[]=>some []
 |.Constant (.int i) _ _::es=>(Db es).map (i::·)
 |_=>none
end
section
variable{prog:jk}{w:ju}{A:jx}{E:VPz}{s:jf}{it d v:jd}{i ep:Nat}{od:Obj}{es:Array kQ}
theorem P1{Q:VPz}(hs:(d==jS)=false)(hT:s.TypeIs (.ref d) "dict")
  (fin:Q (.ref s.heap.objs.size) { s with heap:=s.heap.push { cls:=.type "dict_values",data:=.fields #[.ref d] } }):jh (jm prog w) A (call (.builtin "dict.values") [.ref d]) Q E s:=by
 refine jJ cH hT PySem.F.entry_dict_values ?_ (PySem.F.args_dict_values_1 _);refine jc ?_;unfold Builtin.Dict.noArgs;refine jc (wpAny_notOrdered_dict hT ?_);show jh (jm prog w) _ (pure d) _ _ s;refine je ?_;show jh (jm prog w) _ (Builtin.Dict.showsAll d >>= _) _ _ s;unfold Builtin.Dict.showsAll;have no:¬(d==jS)=true:=by rw[hs];exact aq
 rw[jj no];exact jc (je (jc (jM (je ⟨_,rfl,fin⟩))))
theorem Ni{Q:VPz}(hv:s.heap.IsValuesView v d)(hd:s.heap.get? d=some od)(dd:od.data=.dict es ep)
  (fin:Q (.ref s.heap.objs.size) { s with heap:=s.heap.push { cls:=.type "dict_valueiterator",data:=.fields #[.ref d,.int 0 0,.int es.size 0,.int ep 0] } }):jh (jm prog w) A (pyIter (.ref v)) Q E s:=by
 obtain⟨ov,g1,g2,g3⟩:=id hv;refine lA hv.typeIs ej (jJ ej hv.typeIs PySem.F.entry_dict_values_iter ?_ (PySem.F.args_dict_values_iter_1 _));unfold Builtin.«dict_values.__iter__» Builtin.Dict_items.dictOf Builtin.Dict_items.newIterator;refine jc (je (jc (jc (kX g1 g3 (x:=.ref d) rfl (je ?_)))));refine jc (jc (lB hd dd (jc (wpAny_dictEpoch hd dd ?_))));have own:Builtin.Dict_items.ownsTuple "dict_valueiterator"=false:=by decide
 simp only[own,au,if_false];refine jM (je ⟨_,rfl,"dict_valueiterator",_,⟨_,ar _ rfl,rfl⟩,bD.lookup,?_⟩)
 simpa [jR] using fin
theorem RD{e:kQ}{Q:Option jg->jf->Prop}(hit:s.heap.IsValIter it d i es.size ep)(hod:s.heap.get? d=some od)(hdd:od.data=.dict es ep)(he:es[i]?=some e)
  (fin:∀h',h'.IsValIter it d (i+1) es.size ep->Heap.SameBut it s.heap h'->Q (some e.val) { s with heap:=h' }):jh (jm prog w) A (pyNext (.ref it)) Q E s:=by
 obtain⟨o,ho,hc,hd⟩:=id hit;obtain⟨lt,rfl⟩:=aY.mp he;unfold pyNext;refine jc (kt (wpAny_callSpecial?_slot (name:=Str.ofString "__next__") hit.typeIs bD
  (jJ bD hit.typeIs dI ?_ (dE _))))
 refine jc (je (jc (jc ?_)))
 first|refine jc (jT hit.typeIs (je ?_))|refine jc (ke hit.typeIs (je ?_))
 refine jc (lm ho hd ?_);have own:Builtin.Dict_items.ownsTuple "dict_valueiterator"=false:=by decide
 simp only[own,au,if_false];show jh _ _ (if (Value.ref d==Value.none)=true then _ else _) _ _ s;rw[jj (show ¬((Value.ref d==Value.none)=true) from aq)];refine jc (je (jc (lB hod hdd ?_)));rw[jj (by simp)];refine jc (je (jc (wpAny_dictEpoch hod hdd ?_)));rw[jj (by simp)];refine je ?_;simp only[show ¬((i:Int)<0) from by lia,if_false,bR,bn lt];refine jc ?_
 first|refine jc (jT hit.typeIs (je ?_))|refine jc (ke hit.typeIs (je ?_))
 refine jc (kN hit.typeIs ?_);show jh _ _ (setField (.ref it) 1 (jR ((i:Int)+1)) >>= _) _ _ s;refine jc (j4 ho hd (by simp) ?_);have hit':(s.heap.update it (Obj.mapFields (·.setIfInBounds 1 (jR ((i:Int)+1))))).IsValIter it d (i+1) es.size ep :=
  ⟨_,bg _ ho (Obj.isFreed_of_fields (Obj.data_mapFields hd _)),(Obj.cls_mapFields ..).trans hc,by rw[Obj.data_mapFields hd];simp[jR]⟩
 refine jc (jI ?_);refine jc (kN (s:={ s with heap:=s.heap.update it (Obj.mapFields (·.setIfInBounds 1 (jR ((i:Int)+1)))) }) hit'.typeIs ?_);refine jc (kN (s:={ s with heap:=s.heap.update it (Obj.mapFields (·.setIfInBounds 1 (jR ((i:Int)+1)))) }) hit'.typeIs ?_);show jh _ _ (pure es[i].val) _ _ _;exact je (je ⟨_,rfl,je (fin _ hit' (Heap.SameBut.update ..))⟩)
theorem JI{Q:Option jg->jf->Prop}(hh:A.handled=none)(hit:s.heap.IsValIter it d i es.size ep)(hod:s.heap.get? d=some od)(hdd:od.data=.dict es ep)(he:es.size<=i)
  (fin:∀h',Heap.ExtBut it s.heap h'->Q none { s with heap:=h' }):jh (jm prog w) A (pyNext (.ref it)) Q E s:=by
 obtain⟨o,ho,hc,hd⟩:=id hit;unfold pyNext;refine jc (kt (wpAny_callSpecial?_slot (name:=Str.ofString "__next__") hit.typeIs bD
  (jJ bD hit.typeIs dI ?_ (dE _))))
 refine jc (je (jc (jc ?_)))
 first|refine jc (jT hit.typeIs (je ?_))|refine jc (ke hit.typeIs (je ?_))
 refine jc (lm ho hd ?_);have own:Builtin.Dict_items.ownsTuple "dict_valueiterator"=false:=by decide
 simp only[own,au,if_false];show jh _ _ (if (Value.ref d==Value.none)=true then _ else _) _ _ s;rw[jj (show ¬((Value.ref d==Value.none)=true) from aq)];refine jc (je (jc (lB hod hdd ?_)));rw[jj (by simp)];refine jc (je (jc (wpAny_dictEpoch hod hdd ?_)));rw[jj (by simp)];refine je ?_;simp only[show ¬((i:Int)<0) from by lia,if_false,bR,cq he];refine jc ?_
 first|refine jc (jT hit.typeIs (je ?_))|refine jc (ke hit.typeIs (je ?_))
 show jh _ _ (setField (.ref it) 0 .none >>= _) _ _ s;refine jc (j4 ho hd (by simp) ?_);show jh _ _ (newExc (.type "StopIteration") [] >>= _) _ _ _;refine jc ?_;simp only[newExc,newTuple];refine jc (jM ?_ (by size_fits));refine jc (m:=firstArgMember _ _) (kW (a:=Value.none) (by first|rfl|(simp only[firstArgMember];rfl)) ?_);refine jM ?_ (by size_fits);simp only[raiseNew];refine jc (wpAny_handled ?_);rw[show A.in1.handled=none from hh];refine jc (je (wpAny_throw ?_));refine jc (kh (T:="StopIteration") (b:=true) ⟨_,ar _ rfl,rfl⟩ isSubtype_stop ?_);exact je (fin _ (((Heap.SameBut.update ..).extBut.push _).push _))
theorem Nh(hh:A.handled=none)(I:jd)(hne:d≠I):Walks prog w A I [I,d] [I] es.size (λ i v=>∃e,es[i]?=some e/\v=e.val) (λ i h=>h.IsValIter I d i es.size ep/\∃od,h.get? d=some od/\od.data=.dict es ep) where
 sub:=λ b hb=>by simp at hb;simp[hb]
 frame:=λ_ _ _ st hk=>⟨st.1.at λ o e=>hk I (by simp) o e,let ⟨od,e,dd⟩:=st.2;⟨od,hk d (by simp) _ e,dd⟩⟩
 item:=λ i s Q E hi st hQ=>by
  obtain⟨od,e,dd⟩:=st.2;refine RD st.1 e dd (bn hi) λ h' st' sb=>?_;exact hQ _ h' s.toks ⟨_,bn hi,rfl⟩ ⟨st',od,sb.extBut d _ hne e,dd⟩ λ b o hb q=>sb.extBut b o (λ z=>hb (by simp[z])) q
 done:=λ s Q E st hQ=>by
  obtain⟨od,e,dd⟩:=st.2;exact JI hh st.1 e dd (ah _) λ h' eb=>hQ h' s.toks λ b o hb q=>eb b o (λ z=>hb (by simp[z])) q
 self:=λ_ _ _ _ st hQ=>wpAny_pyIter_valiter st.1 hQ
end
noncomputable def Po(v d:jd):HO:=.ext λ h=>h.IsValuesView v d
noncomputable def UI(H₀:Hp)(te:TE):TE:=λ σ H Q=>te σ H λ v H'=>∃(a:jd)(u:HO),(H' a=some u\/∃ob:Obj,H' a=some (.frz ob u)/\∀o w,H₀ a≠some (.frz o w))/\Q v (upd H' a u)
theorem UB{H:Hp}{a:jd}{u:HO}(h:H a=some u):upd H a u=H:=by
 funext b
 unfold upd;split
 .rename_i e;rw[e,h]
 .rfl
theorem Mj{X:Cx}{e:jB}{te:TE}(h:PE X e te):PE X e (UI X.H₀ te):=by
 intro iZ s σ H Q I q;refine thn (h iZ s σ H _ I q) λ u s1 ⟨x,H1,I1,rx,a,w,z,q1⟩=>?_;rcases z with ea|⟨ob,ea,n⟩
 .rw[UB ea]at q1;exact⟨x,_,I1,rx,q1⟩
 .exact⟨x,_,I1.thaw ea n,rx,q1⟩
theorem MR{a:jd}{ob:Obj}{kvs:List (Key×V)}{g:TG}{tc:TT}{te:TE}{σ:St}{H1:Hp}{acc:jd}{Qr:Hp->Prop}(Pv:Nat->LUz->St->Hp->Prop)(h0:Pv 0 [] σ (upd H1 acc (.lst [])))
  (hq:∀i xs σ H,i<=kvs.length->H acc=some (.lst xs)->Pv i xs σ H->H a=some (.frz ob (.dK kvs)))
  (hs:∀i p t xs σ H,kvs[i]?=some p->i<kvs.length->xs.length<=i->H acc=some (.lst xs)->Pv i xs σ H->H t=none->g (.ref t) σ (upd H t (.tup [kV p.1,p.2])) λ σ2 H2=>tc σ2 H2 λ b Hb=>match b with
   |true=>te σ2 Hb λ v H3=>fNx acc kvs.length Pv i σ2 v H3
   |false=>fSk acc kvs.length Pv i σ2 Hb)
  (hd:∀xs σ H,xs.length<=kvs.length->H acc=some (.lst xs)->Pv kvs.length xs σ H->Qr H) :
  ∃W:Nat->Nat->St->Hp->Prop,(∃m,W 0 m σ (upd H1 acc (.lst [])))/\∀i m σ1 H2,W i m σ1 H2 ->
   ((Itm a ob).stop i H2/\Qr H2)\/((Itm a ob).go i H2/\∀x H3,(Itm a ob).yld i H2 x H3->g x σ1 H3 λ σ4 H4=>tc σ4 H4 λ b Hb=>match b with
    |true=>te σ4 Hb λ v H5=>∃xs,H5 acc=some (.lst xs)/\xs.length<jt/\∃m',m'<m/\W (i+1) m' σ4 (upd H5 acc (.lst (xs++[v])))
    |false=>∃m',m'<m/\W (i+1) m' σ4 Hb):=by
 refine⟨fW acc kvs.length Pv,⟨kvs.length,aP _,rfl,[],ah _,Ae,h0⟩,?_⟩;rintro i m σ1 H2 ⟨hi,rfl,xs,hl,ha,hp⟩;have hsq:=hq i xs σ1 H2 hi ha hp;rcases cV i kvs.length with h|h
 .refine .inr ⟨⟨kvs,kvs[i],hsq,ag h⟩,?_⟩;rintro x H3 ⟨t,z,hz,rfl,ht,rfl⟩;exact hs i z t xs σ1 _ (hz kvs hsq) h hl ha hp ht
 .have e:i=kvs.length:=b8 hi h;subst e;exact .inl ⟨⟨kvs,hsq,ah _⟩,hd xs σ1 H2 hl ha hp⟩
theorem Kh{P:jk}{w:ju}:∀{es:List kQ}{vs:List (Key×jg)},Pairs (AA P w) es vs->∀{kvs:List (Key×V)}{ns:List Int},KV kvs vs->kvs.map (·.2)=ns.map V.int->∀i e,es[i]?=some e->∃t,e.val=Value.int (ns.getD i 0) t
 |_,_,.nil,_,_,_,_,i,e,h=>by cases h
 |_,_,.cons (e:=e0) (kv:=kv) h1 h2 t,kvs,ns,hk,hn,i,e,h=>by
  cases hk with
  |cons hr hk =>
   cases ns with
   |nil=>cases hn
   |cons z ns =>
    have hn1:=List.cons.inj hn;cases i with
    |zero =>
     cases h;obtain⟨_,r⟩:=hr;dsimp only at hn1;rw[hn1.1]at r;obtain⟨t,r⟩:=r;exact⟨t,by rw[h2,r];rfl⟩
    |succ i=>exact Kh t hk hn1.2 i e h
section
variable{X:Cx}
theorem Si:WQ X (λ o i H Q=>∃p xs v,o=.ref p/\i=.int (-1)/\SqL X.K H p xs/\xs.getLast?=some v/\Q v H):=by
 intro iZ s σ H o i ov iv Q I ro ri h;obtain⟨p,xs,z,rfl,rfl,hq,he,q⟩:=h;cases ro;obtain⟨t,rfl⟩:=ri;obtain⟨its,r,pl,hz⟩:=I.list hq;have hl:=r.length;have hn:=Gw;have pos:0<xs.length:=by
  cases xs with
  |nil=>cases he
  |cons x xs=>exact Nat.succ_pos _
 rw[List.getLast?_eq_getElem?]at he;obtain⟨w,ew,rw'⟩:=r.get he;refine wpAny_getItem_list_neg pl.isList (by decide) (by rw[aj];lia) (by decide) ?_ ⟨z,H,I,rw',q⟩;have hj:((-1:Int)+(its.toArray.size:Int)).toNat=xs.length-1:=by rw[aj];lia
 rw[hj]
 simpa using ew
theorem Fa:MtM X "dict.values" (λ x vs H Q=>∃d kvs,x=.ref d/\vs=[]/\H d=some (.dK kvs)/\∀v,H v=none->Q (.ref v) (upd H v (Po v d))):=by
 intro iZ s σ H x xs v us Q I rx rv h;obtain⟨d,kvs,rfl,rfl,ed,q⟩:=h;cases rx;cases rv;obtain⟨z,hsys,ys,rel,o,es,ep,h1,h2,h3,h4,h5,h6⟩:=(show ObjOk X.prog X.w H s.heap d (.dK kvs) from I.hok d _ ed);refine P1 hsys ⟨o,h1,h2.1⟩ ?_;have hn:H s.heap.objs.size=none:=I.hok.fresh (ah _);have I2:=I.laid (a:=s.heap.objs.size) (o:=Po s.heap.objs.size d) (t':=s.toks) (h':=s.heap.push { cls:=.type "dict_values",data:=.fields #[.ref d] }) (λ b u e=>ae _ e) (ah _)
  ⟨⟨_,ar _ rfl,rfl,rfl⟩,⟨_,ar _ rfl⟩,λ h1 h2 ⟨o,e,c⟩ k=>⟨o,k o e,c⟩⟩
 exact⟨.ref s.heap.objs.size,_,I2,rfl,q _ hn⟩
theorem G3:BK X (.builtin "sum") (λ xs H Q=>∃(v d:jd)(kvs:List (Key×V))(ns:List Int),xs=[.ref v]/\H v=some (Po v d)/\H d=some (.dK kvs)/\kvs.map (·.2)=ns.map V.int/\X.calm=true/\Q (.int ns.sum) H):=by
 intro iZ s σ H xs us Q I r h;obtain⟨v,d,kvs,ns,rfl,ev,ed,en,hc,q⟩:=h;obtain⟨u,rfl,ru⟩:=D0 r;cases ru;obtain⟨hv,_,_⟩:=(show ObjOk X.prog X.w H s.heap v (Po v d) from I.hok v _ ev);obtain⟨z,hsys,ys,rel,o,es,ep,h1,h2,h3,h4,h5,h6⟩:=(show ObjOk X.prog X.w H s.heap d (.dK kvs) from I.hok d _ ed);have hl:es.size=kvs.length:=by rw[<-aW,h5.length];exact(Paired.length rel).symm
 have hns:ns.length=kvs.length:=by
  have:=congrArg List.length en
  simpa using this.symm
 have lt:d<s.heap.objs.size:=ak h1;refine call_sum_walkG (Ni hv h1 h3 ?_);refine⟨_,[s.heap.objs.size,d],[s.heap.objs.size],es.size,_,_,λ i=>ns.getD i 0,rfl,Nh (A:=X.A.in1) (es:=es) (ep:=ep) (d:=d) (I.ok.hd hc) s.heap.objs.size (aD lt),⟨⟨_,ar _ rfl,rfl,rfl⟩,o,ae _ h1,h3⟩,λ b hb=>?_,λ i u ⟨e,he,hu⟩=>?_,λ h' tk t' hk=>?_⟩
 .show b<(s.heap.push _).objs.size;rw[bq];simp only[aO,bi,or_false]at hb;rcases hb with rfl|rfl
  .exact br _
  .exact bc lt
 .rw[hu];exact Kh h5 rel en i e (by rw[cz];exact he)
 .have es':preSum (λ i=>ns.getD i 0) es.size=ns.sum:=by
   have:∀n,n<=ns.length->preSum (λ i=>ns.getD i 0) n=(ns.take n).sum:=λ n=>by
    induction n with
    |zero=>intro _;rfl
    |succ n ih =>
     intro hn;have hg:ns[n]?=some (ns.getD n 0):=by rw[ag (by lia),aU,ag (by lia)];rfl
     rw[aS,hg,b6];show preSum (λ i=>ns.getD i 0) n+ns.getD n 0=_;rw[ih (by lia)];simp
   rw[hl,<-hns,this _ (ah _),aM]
  rw[es'];refine⟨.int _,H,I.kept (t':=tk) (λ b o' e=>?_),⟨t',rfl⟩,q⟩;exact hk b o' (λ hm=>by rw[af.mp hm]at e;exact absurd (ak e) (bG _)) (ae _ e)
end
theorem G8{ns:List Int}:∀n,n<=ns.length->preSum (λ i=>ns.getD i 0) n=(ns.take n).sum
 |0,_=>rfl
 |n+1,hn=>by
  have hg:ns[n]?=some (ns.getD n 0):=by rw[ag (by lia),aU,ag (by lia)];rfl
  rw[aS,hg,b6];show preSum (λ i=>ns.getD i 0) n+ns.getD n 0=_;rw[G8 n (by lia)];simp
theorem P0{prog:jk}{w:ju}{A:jx}(hh:A.handled=none)(I t:jd)(hne:t≠I)(items:Array jg):Walks prog w A I [I,t] [I] items.size (λ i v=>items[i]?=some v) (λ i h=>IsTupIter h I t i/\IsTup h t items) where
 sub:=λ b hb=>by simp at hb;simp[hb]
 frame:=λ_ _ _ st hk=>by
  obtain⟨⟨o,e,r⟩,⟨o2,e2,r2⟩⟩:=st;exact⟨⟨o,hk I (by simp) o e,r⟩,⟨o2,hk t (by simp) o2 e2,r2⟩⟩
 item:=λ i s Q E hi st hQ=>by
  refine next_tuple_item st.1 st.2 (bn hi) λ h' st' sb=>?_;refine hQ _ h' s.toks (bn hi) ⟨st',?_⟩ λ b o hb q=>sb.extBut b o (λ z=>hb (by simp[z])) q;obtain⟨o2,e2,r2⟩:=st.2;exact⟨o2,sb.extBut t o2 hne e2,r2⟩
 done:=λ s Q E st hQ=>by
  exact next_tuple_end hh st.1 st.2 (cq (ah _)) λ h' eb=>hQ h' s.toks λ b o hb q=>eb b o (λ z=>hb (by simp[z])) q
 self:=λ_ _ _ _ st hQ=>by
  obtain⟨⟨o,e,r⟩,_⟩:=st;exact wpAny_pyIter_tupleiter (t:=t) ⟨o,e,r⟩ hQ
section
variable{X:Cx}
theorem SY{iZ:PNz}{σ:St}{H:Hp}{s:jf}{A:jx}{a:jd}{ns:List Int}(I:Inv X iZ σ H s)(hh:A.in1.handled=none)(ha:H a=some (.tup (ns.map V.int))) :
  jh (jm X.prog X.w) A (call (.builtin "sum") [.ref a]) (λ u s''=>(∃t,u=.int ns.sum t)/\Inv X iZ σ H s'') (λ_ _=>False) s:=by
 obtain⟨_,its,rv,tp⟩:=(show ObjOk X.prog X.w H s.heap a (.tup (ns.map V.int)) from I.hok _ _ ha);have hi:=Ff rv;have lt:a<s.heap.objs.size:=by obtain⟨o,e,_⟩:=id tp;exact ak e
 refine call_sum_walkG (iter_tuple tp ?_);refine⟨_,_,_,_,_,_,λ i=>ns.getD i 0,rfl,P0 (A:=A.in1) hh s.heap.objs.size a (aD lt) its.toArray,⟨⟨_,ar _ rfl,rfl,rfl⟩,?_⟩,λ b hb=>?_,λ i v hv=>?_,λ h' tk t' hk=>?_⟩
 .obtain⟨o,e,r⟩:=tp;exact⟨o,ae _ e,r⟩
 .show b<(s.heap.push _).objs.size;rw[bq];simp only[aO,bi,or_false]at hb;rcases hb with rfl|rfl
  .exact br _
  .exact bc lt
 .have hv:its[i]?=some v:=by rw[dJ]at hv;exact hv
  obtain⟨lt',e⟩:=aF.mp hv;obtain⟨tk,h⟩:=L2.ints_get hi i lt';exact⟨tk,e.symm.trans h⟩
 .have hl:its.length=ns.length:=hi.length;have es':preSum (λ i=>ns.getD i 0) its.toArray.size=ns.sum:=by
   rw[aj,hl,G8 _ (ah _),aM]
  refine⟨⟨t',by rw[es']⟩,I.kept (t':=tk) (λ b o' e=>?_)⟩;exact hk b o' (λ hm=>by rw[af.mp hm]at e;exact absurd (ak e) (bG _)) (ae _ e)
variable{iZ:PNz}{σ:St}{H:Hp}{s:jf}{A:jx}{D kS:jd}{vs:LWz}{e1:Nat}{kz:List Int}{f:jg}{P:PySem.Fin->jf->Prop}{E:VPz}
theorem RR{e:Nat}{keys:Array jg}(I:Inv X ((kS,jz "list" keys e)::(D,jz "list" #[] e1)::iZ) σ H s)(hk1:X.s₀.heap.objs.size<=kS)(hkc:∀x c,X.env.cells.lookup x=some c->c≠kS)(hkp:∀p∈X.pn++((D,jz "list" #[] e1)::iZ),p.1≠kS)
  (hD1:X.s₀.heap.objs.size<=D) (hDc:∀x c,X.env.cells.lookup x=some c->c≠D) (hDp:∀p∈X.pn++iZ,p.1≠D) (hk:IntsAre keys.toList kz) (hlen:kz.length=vs.length) (h64:vs.length<64)
  (h:∀(out:LWz)(c:Nat)(s':jf),KskOut false kz vs out->Inv X iZ σ H s'->s'.heap.get? D=some (jz "list" (List.toArray out) c)->P (.done (.ret .none)) s') :
  jh (jm X.prog X.w) A (ksk_end D false vs.toArray e1 (.ref kS) keys) P E s:=by
 have hsz:keys.size=vs.length:=by
  have h1:=hk.length;rw[aW]at h1;lia
 have hzs:(keys.zip vs.toArray).size=vs.length:=by rw[Array.size_zip,hsz,aj,eK]
 have fin:∀(st:SortSt),(arrOf st).Perm (keys.zip vs.toArray)->SortedTo (arrOf st) (arrOf st).size->failedOf st=none->jh (jm X.prog X.w) A (ksk_tail D false e1 (.ref kS) st) P E s:=λ st hp hs hf=>by
  have out:=ksk_out (b:=false) hk hp hs;simp only[au,if_false]at out;have I':Inv X ((kS,jz "list" keys.toList.toArray e)::(D,jz "list" #[] e1)::iZ) σ H s:=by rw[fN];exact I
  refine Qo (out:=((arrOf st).map (·.2)).toList) I' hk1 hkc hkp hD1 hDc hDp (by rw[fN]) ?_ (by rw[aW];lia) hf λ c s' J e'=>h _ c s' out J e';rw[aW,Array.size_map,hp.size_eq,hzs];exact h64
 unfold ksk_end
 try dsimp only
 simp only[au,if_false];by_cases h2:vs.toArray.size<2
 .rw[jo h2,jo h2];refine jc (je ?_);rw[StateT.run_pure];refine jc (je ?_)
  try dsimp only
  refine fin _ (Array.Perm.refl _) ?_ rfl;intro i j hij hj;have hj2:j<(keys.zip vs.toArray).size:=hj;rw[hzs]at hj2;rw[aj]at h2;have:i=j:=by lia
  subst this;exact a9 _
 .rw[jj h2,jj h2];rw[aj]at h2;rw[ksk_kind hk (by rw[hsz];lia)];refine jc (je ?_);refine jc (jA (wpS_sortRuns (a₀:=keys.zip vs.toArray) (st:=SortSt.mk' oneType' (keys.zip vs.toArray) #[] 7 none)
   (Q:=λ_ st'=>(arrOf st').Perm (keys.zip vs.toArray)/\failedOf st'=none/\SortedTo (arrOf st') (keys.zip vs.toArray).size)
   (ksk_intKeys hk) ⟨Array.Perm.refl _,rfl,rfl,rfl⟩ (by rw[hzs];lia) (by rw[hzs];exact h64) λ st' a1 a2 a3=>⟨a1,a2,a3⟩) ?_ λ_ _ e=>e)
  rintro⟨⟨⟩,st'⟩ s' ⟨rfl,hp,hf,hs⟩
  try dsimp only
  exact fin st' hp (by rw[hp.size_eq];exact hs) hf
theorem Qp(I:Inv X ((kS,jz "list" #[] 0)::(D,jz "list" #[] e1)::iZ) σ H s)(hk1:X.s₀.heap.objs.size<=kS)(hkc:∀x c,X.env.cells.lookup x=some c->c≠kS)(hkp:∀p∈X.pn++((D,jz "list" #[] e1)::iZ),p.1≠kS)
  (hD1:X.s₀.heap.objs.size<=D) (hDc:∀x c,X.env.cells.lookup x=some c->c≠D) (hDp:∀p∈X.pn++iZ,p.1≠D) (hl:kz.length=vs.length) (h64:vs.length<64)
  (hcall:∀(i:Nat)(v:jg)(iZ':PNz)(s':jf),vs[i]?=some v->Inv X iZ' σ H s'->jh (jm X.prog X.w) A (call f [v]) (λ u s''=>(∃t,u=.int (kz.getD i 0) t)/\Inv X iZ' σ H s'') (λ_ _=>False) s')
  (h:∀(out:LWz)(c:Nat)(s':jf),KskOut false kz vs out->Inv X iZ σ H s'->s'.heap.get? D=some (jz "list" (List.toArray out) c)->P (.done (.ret .none)) s') :
  jh (jm X.prog X.w) A (ksk_rest D f false vs.toArray e1 (.ref kS)) P E s:=by
 unfold ksk_rest;refine jc (wpAny_rule ?_)
 first
  |rw[List.forIn_toArray]
  | (rw[<-bW];simp only[List.toList_toArray])
  |rw[<-bW]
 refine jc (ksk_fold (λ i s'=>∃e ks,IntsAre ks (kz.take i)/\Inv X ((kS,jz "list" ks.toArray e)::(D,jz "list" #[] e1)::iZ) σ H s') vs 0 s ⟨0,[],.nil,I⟩ (λ j x s' hx hJ=>?_) λ s' hJ=>?_)
 .obtain⟨e,ks,hk,J⟩:=hJ;rw[fH]at hk |-;have hj:j<kz.length:=by rw[hl];exact(aF.mp hx).1
  have hz:kz[j]?=some (kz.getD j 0):=by rw[aU,ag hj];rfl
  refine jc (kt (jA (hcall j x _ s' hx J) (λ u s'' hu=>?_) λ_ _ hF=>hF.elim));obtain⟨⟨t,rfl⟩,J'⟩:=hu;have ek:=F5 J' aw;obtain⟨c,J2⟩:=J'.repin (g:=(·.push (Value.int (kz.getD j 0) t))) hk1 hkc hkp;have kl:=hk.length;rw[cm]at kl
  try dsimp only
  refine jc (kr ek rfl ?_ (by rw[aj,jC];lia) (aV (dF (Array.size_push ..)) (by rw[aj,jC];lia)));refine je ⟨rfl,c,ks++[Value.int (kz.getD j 0) t],?_,?_⟩
  .rw[aS,hz];exact ksk_snoc hk
  .have ea:ks.toArray.push (Value.int (kz.getD j 0) t)=(ks++[Value.int (kz.getD j 0) t]).toArray:=by simp
   rw[<-ea];exact J2
 .obtain⟨e,ks,hk,J⟩:=hJ;rw[fH,<-hl,aM]at hk
  try dsimp only
  refine jc (listItems_at (F5 J aw) rfl ?_);exact RR J hk1 hkc hkp hD1 hDc hDp (by simpa using hk) hl h64 h
theorem NM{n:Nat}{b:String}(I:Inv X iZ σ H s)(ho:s.heap.get? D=some (jz "list" vs.toArray n))(hD:H D=none)(hD1:X.s₀.heap.objs.size<=D)(hDL:D≠X.env.locals)(hDf:D∉X.fs)(hDc:∀x c,X.env.cells.lookup x=some c->c≠D)(hDp:∀p∈X.pn++iZ,p.1≠D)
  (hl:kz.length=vs.length) (h64:vs.length<64)
  (hcall:∀(i:Nat)(v:jg)(iZ':PNz)(s':jf),vs[i]?=some v->Inv X iZ' σ H s'->jh (jm X.prog X.w) A (call (.builtin b) [v]) (λ u s''=>(∃t,u=.int (kz.getD i 0) t)/\Inv X iZ' σ H s'') (λ_ _=>False) s')
  (h:∀(out:LWz)(c:Nat)(s':jf),KskOut false kz vs out->Inv X iZ σ H s'->s'.heap.get? D=some (jz "list" (List.toArray out) c)->P (.done (.ret .none)) s') :
  jh (jm X.prog X.w) A (Builtin.«list.sort» ⟨[.ref D],[(Str.ofString "key",.builtin b)]⟩) P E s:=by
 rw[ksk_t4];unfold ksk_tree;refine jc (listItems_at ho rfl ?_);refine jc (kr ho rfl ?_ (by rw[aj,jC];lia) (aP _));obtain⟨e1,ho1⟩:∃e1,(s.heap.update D (Obj.mapSeq λ_=>(#[]:Array jg))).get? D=some (jz "list" #[] e1):=⟨_,get?_update_seq ho λ_=>#[]⟩;have I1:Inv X iZ σ H { s with heap:=s.heap.update D (Obj.mapSeq λ_=>(#[]:Array jg)),toks:=s.toks }:=I.turned (it:=D) (λ b o nb q=>by rw[bS _ _ _ _ nb];exact q) hD hDL (.inr hD1) hDc hDp;have I1:Inv X ((D,jz "list" #[] e1)::iZ) σ H { s with heap:=s.heap.update D (Obj.mapSeq λ_=>(#[]:Array jg)) }:=I1.pins_of λ p hp=>by
  rcases aO.mp hp with rfl|hp
  .exact⟨ho1,hD,hDL,hDf,λ v z=>nomatch z⟩
  .exact I1.pin p (av _ hp)
 refine jc (lz ho1 rfl ?_);refine jc (wpAny_newTuple ?_ (by show vs.length<=_;rw[jC];lia));refine jc (kT ?_ (aP _));refine jI ?_;have I2:=(I1.kept (t':=s.toks) (h':=(s.heap.update D (Obj.mapSeq λ_=>(#[]:Array jg))).push (jz "tuple" vs.toArray 0)) λ b u q=>ae _ q);have ap:=I2.apart (D:=((s.heap.update D (Obj.mapSeq λ_=>(#[]:Array jg))).push (jz "tuple" vs.toArray 0)).objs.size) (ah _);have I3:=I2.kept (t':=s.toks) (h':=((s.heap.update D (Obj.mapSeq λ_=>(#[]:Array jg))).push (jz "tuple" vs.toArray 0)).push (jz "list" #[] 0)) λ b u q=>ae _ q;have hk0:(((s.heap.update D (Obj.mapSeq λ_=>(#[]:Array jg))).push (jz "tuple" vs.toArray 0)).push (jz "list" #[] 0)).get? ((s.heap.update D (Obj.mapSeq λ_=>(#[]:Array jg))).push (jz "tuple" vs.toArray 0)).objs.size=some (jz "list" #[] 0):=ar _ rfl;show jh (jm X.prog X.w) A (ksk_rest D (.builtin b) false vs.toArray e1 (.ref ((s.heap.update D (Obj.mapSeq λ_=>(#[]:Array jg))).push (jz "tuple" vs.toArray 0)).objs.size)) P E { s with heap:=((s.heap.update D (Obj.mapSeq λ_=>(#[]:Array jg))).push (jz "tuple" vs.toArray 0)).push (jz "list" #[] 0) };obtain⟨a1,a2,a3,a4,a5,a6⟩:=ap;refine Qp (I3.pins_of λ p hp=>?_) a2 a5 a6 hD1 hDc hDp hl h64 hcall h;rcases aO.mp hp with rfl|hp
 .exact⟨hk0,a1,a3,a4,λ v z=>nomatch z⟩
 .exact I3.pin p (av _ hp)
noncomputable def QS(K:jw)(calm:Bool)(ta:TA):TE:=λ σ H Q=>ta σ H λ xs H1=>∃(p:jd)(ts:List (jd×List Int)),xs=[.ref p]/\SqL K H1 p (ts.map λ t=>V.ref t.1)/\ts.length<64/\calm=true/\(∀t∈ts,H1 t.1=some (.tup (t.2.map V.int))) /\
 ∀l (ts':List (jd×List Int)),H1 l=none->ts'.Perm ts->(ts'.map λ t=>t.2.sum).Pairwise (·<=·)->Q (.ref l) (upd H1 l (.lst (ts'.map λ t=>V.ref t.1)))
theorem QI{ts:List (jd×List Int)}{ps:List (Int×jg)}(h:ps.Perm ((ts.map λ t=>t.2.sum).zip (ts.map λ t=>Value.ref t.1))):∃ts':List (jd×List Int),ts'.Perm ts/\ps=ts'.map λ t=>(t.2.sum,Value.ref t.1):=by
 have e:(ts.map λ t=>t.2.sum).zip (ts.map λ t=>Value.ref t.1)=ts.map λ t=>(t.2.sum,Value.ref t.1):=by
  clear h
  induction ts with
  |nil=>rfl
  |cons t r ih=>rw[aJ,aJ,ee,ih];rfl
 exact Rv h ts e
theorem N5{e:jB}{p kp q pos:Pos}{ta:TA}(hg:Gl X "sorted")(hm:X.mg "sorted"=none)(hg2:Gl X "sum")(hm2:X.mg "sum"=none)(ha:PA X [e] ta)
  (he:jX pos (jv [e] X.env)=(false,eval e X.env)::jX pos (jv [] X.env):=by rfl) (hn:(jX pos (jv [e] X.env)).any (·.1)=false:=by rfl) :
  PE X (.Call (.Name "sorted" p) [e] [⟨some "key",.Name "sum" q,kp⟩] pos) (QS X.K X.calm ta):=by
 intro iZ s σ H Q I h;refine jG (BS I hg hm (by rfl) ?_);refine PyProof.Rows.callWith_kw (thn (ha pos iZ s σ H _ I h) λ us s2 ⟨vs,H2,I2,r1,q2⟩=>?_) he hn;refine PyProof.Rows.kws_cons (BS (u:=.builtin "sum") I2 hg2 hm2 (by rfl) (PyProof.Rows.kws_nil ?_));obtain⟨l,ts,rfl,hp,h64,hc,ht,q⟩:=q2;obtain⟨u,rfl,ru⟩:=D0 r1;cases ru;obtain⟨its,rv,pl,hz⟩:=I2.list hp;have hits:its=ts.map λ t=>Value.ref t.1:=by
  have:=Gc (ts:=ts.map (·.1)) (its:=its) (by rw[aB];exact rv);rw[this,aB];rfl
 have hlen:its.length=ts.length:=by rw[hits,aa]
 show jh (jm X.prog X.w) X.A (call (.builtin "sorted") [.ref l] [(Str.ofString "key",.builtin "sum")]) _ _ s2;refine call_function_entry_kw kind_sorted plain_sorted entry_sorted (ksk_s1 _ _) ?_;unfold Builtin.«sorted»;refine jc (m:=checkCount "sorted" 1 1 _) (je ?_);refine jc (collect_list pl.isList ?_ (by rw[jC];lia));refine jc (kT ?_ (by rw[jC];lia));have hsz:((s2.heap.push (jz "list" #[] 0)).update s2.heap.objs.size (Obj.mapSeq (·++its.toArray))).objs.size=s2.heap.objs.size+1:=by
  rw[dz,size_push']
 have hoL:(((s2.heap.push (jz "list" #[] 0)).update s2.heap.objs.size (Obj.mapSeq (·++its.toArray))).push (jz "list" its.toArray 0)).get? (s2.heap.objs.size+1)=some (jz "list" its.toArray 0):=by
  rw[<-hsz];exact ar _ rfl
 have keep:∀b o,s2.heap.get? b=some o->(((s2.heap.push (jz "list" #[] 0)).update s2.heap.objs.size (Obj.mapSeq (·++its.toArray))).push (jz "list" its.toArray 0)).get? b=some o:=λ b o q=>by
  have hlt:b<s2.heap.objs.size:=ak q;rw[cA _ _ _ (by rw[hsz];exact aD (bc hlt)),bS _ _ _ _ (aD hlt),cA _ _ _ (aD hlt)];exact q
 obtain⟨a1,a2,a3,a4,a5,a6⟩:=I2.apart (D:=s2.heap.objs.size+1) (bJ _);have I3:Inv X iZ σ H2 { s2 with heap:=((s2.heap.push (jz "list" #[] 0)).update s2.heap.objs.size (Obj.mapSeq (·++its.toArray))).push (jz "list" its.toArray 0) }:=I2.kept (t':=s2.toks) keep;show jh _ _ _ _ _ { s2 with heap:=((s2.heap.push (jz "list" #[] 0)).update s2.heap.objs.size (Obj.mapSeq (·++its.toArray))).push (jz "list" its.toArray 0) };rw[hsz];refine jc (jI (wpAny_call_entry_kw slot_list_sort ⟨_,hoL,rfl⟩ entry_list_sort ?body (ksk_l1 _ _)))
 case body =>
  refine NM (kz:=ts.map λ t=>t.2.sum) I3 hoL a1 a2 a3 a4 a5 a6 (by rw[aa,hlen]) (by lia) (λ i v iZ' s' hv J=>?_) λ out c s' ko J eD=>?_
  .rw[hits,aE]at hv;obtain⟨t0,ht0,rfl⟩:=ba.mp hv;have e0:(ts.map λ t=>t.2.sum).getD i 0=t0.2.sum:=by rw[aU,aE,ht0];rfl
   rw[e0];exact SY J (I.ok.hd hc) (ht t0 (aA ht0))
  .refine⟨_,rfl,je ⟨_,rfl,?_⟩⟩;obtain⟨ps,p1,rfl,p3⟩:=ko;rw[hits]at p1;obtain⟨ts',pt,rfl⟩:=QI p1;have eo:(ts'.map λ t=>(t.2.sum,Value.ref t.1)).map Prod.snd=ts'.map λ t=>Value.ref t.1:=by rw[aB];rfl
   rw[eo]at eD;refine⟨.ref (s2.heap.objs.size+1),_,J.track (o:=.lst (ts'.map λ t=>V.ref t.1)) a1 a2 a3 a5 a6 ⟨?_,_,c,?_,eD⟩,rfl,q _ ts' a1 pt ?_⟩
   .rw[aa,pt.length_eq,jC];lia
   .have:=ES (ts'.map (·.1));rw[aB,aB]at this;exact this
   .rw[List.pairwise_map]at p3 |-;exact p3.imp λ{a b} h=>by simpa using h
end
section
variable{prog:jk}{w:ju}{K:Type}[DecidableEq K](knd:KeyKind prog w K)
inductive NestAre(h:jy):List (List K)->LWz->Prop
 |nil:NestAre h [] []
 |cons {k:List K} {b:jd} {ks:List (List K)} {vs:LWz}:IsTupleKey knd h k b->NestAre h ks vs->NestAre h (k::ks) (.ref b::vs)
noncomputable def IsNest(h:jy)(ks:List (List K))(a:jd):Prop:=∃o items n,h.get? a=some o/\o.cls=.type "tuple"/\o.data=.seq items n/\NestAre knd h ks items.toList
variable{knd}
theorem NestAre.inj{h:jy}{x y:List (List K)}{vs:LWz}(hx:NestAre knd h x vs)(hy:NestAre knd h y vs):x=y:=by
 induction hx generalizing y with
 |nil=>cases hy;rfl
 |cons h1 _ ih=>cases hy with
  |cons h2 t2=>rw[h1.inj h2,ih t2]
theorem IsNest.typeIs{s:jf}{ks:List (List K)}{a:jd}(x:IsNest knd s.heap ks a):s.TypeIs (.ref a) "tuple":=let ⟨o,_,_,ho,hc,_⟩:=x;⟨o,ho,hc⟩
theorem IsNest.inj{h:jy}{a:jd}{x y:List (List K)}(hx:IsNest knd h x a)(hy:IsNest knd h y a):x=y:=by
 obtain⟨o,items,n,ho,_,hd,hi⟩:=hx;obtain⟨o',items',n',ho',_,hd',hi'⟩:=hy;obtain rfl:o=o':=Option.some.inj (ho.symm.trans ho');rw[hd]at hd';injection hd' with h1 _;subst h1;exact hi.inj hi'
theorem IsNest.keeps{h h':jy}{ks:List (List K)}{a d:jd}{o:Obj}{es ep}(x:IsNest knd h ks a)(ho:h.get? d=some o)(hd:o.data=.dict es ep)(hs:Heap.SameBut d h h'):IsNest knd h' ks a:=by
 obtain⟨o',items,n,ho',hc,hd',hi⟩:=x;have hne:a≠d:=by
  rintro rfl;obtain rfl:o'=o:=Option.some.inj (ho'.symm.trans ho);rw[hd]at hd';exact nomatch hd'
 refine⟨o',items,n,(hs.2 a hne).trans ho',hc,hd',?_⟩;clear hd';generalize items.toList=us at hi |-
 induction hi with
 |nil=>exact .nil
 |cons h1 _ ih=>exact .cons (h1.keeps ho hd hs) ih
noncomputable def IE(knd:KeyKind prog w K)(ks:List (List K)):Int:=reduceHash (Builtin.Tuple.tupleHashOf (ks.map (tupleKeyHash knd)))
noncomputable def Et(ks:List (List K)):Nat:=(ks.map λ k=>k.length+1).sum+1
variable{A:jx}{E:VPz}{s:jf}
theorem C8{ks:List (List K)}{a:jd}{Q:Int->jf->Prop}(hu:A.units+1<j5)(hk:IsNest knd s.heap ks a)(h:Q (IE knd ks) { s with toks:=s.toks+Et ks }) :
  jh (jm prog w) A (pyHash (.ref a)) Q E s:=by
 have hT:=hk.typeIs;have hu0:A.units<j5:=eM hu;obtain⟨o,items,n,ho,_,hd,hi⟩:=hk;unfold pyHash
 first|unfold pyHashByItsType|skip
 first|refine jc (wpAny_cRoomFor_or (.inr hu0) ?_)|skip
 refine jc (j9 hT F.slot_tuple_hash.lookup ?_);show jh _ _ (if (some (Value.builtin "tuple.__hash__")==some Value.none)=true then _ else _) Q E s;rw[jj (by rw[beq_builtin_none];exact aq)];refine jc (j9 hT F.slot_tuple_hash.lookup ?_);show jh _ _ (callSpecialIfBoundUnlessNone? (.ref a) "__hash__" _ >>= _) Q E s;refine jc (wpAny_callSpecialIfBoundUnlessNone?_slot hT F.slot_tuple_hash (jJ F.slot_tuple_hash hT F.entry_tuple_hash ?_ (F.args_tuple_hash_1 _)));show jh _ _ (Builtin.Tuple.tupleItemsOf (.ref a) >>= _) _ _ s;refine jc (lq ho hd ?_);refine jc ?_;rw[<-bW];refine j0 _
  (λ rest (b:Array Int) s'=>∃done left,ks=done++left/\NestAre knd s.heap left rest/\b.toList=done.map (tupleKeyHash knd)/\s'={ s with toks:=s.toks+(done.map λ k=>k.length+1).sum })
  _ ?_ ?_ _ _ ⟨[],ks,rfl,hi,rfl,rfl⟩
 .rintro x rest b s' ⟨done,left,rfl,hl,hb,rfl⟩;cases hl with
  |@cons k b' ks' _ h1 hl' =>
   refine jc (wpAny_pyHash_tuple (ks:=k) (by first|exact hu|exact hu0) h1 ?_)
   first
    |exact je ⟨done++[k],ks',by simp,hl',by simp[hb],by simp[d9]⟩
    |exact jc (je (je ⟨done++[k],ks',by simp,hl',by simp[hb],by simp[d9]⟩))
 .rintro b s' ⟨done,left,rfl,hl,hb,rfl⟩;cases hl;rw[aR]at h;show jh _ _ (retInt (Builtin.Tuple.tupleHashOf b.toList)) _ _ _;rw[hb];refine wpAny_ret_mkInt ?_;show jh _ _ (if (decide (-(2:Int)^63<=Builtin.Tuple.tupleHashOf (done.map (tupleKeyHash knd)))&&decide (Builtin.Tuple.tupleHashOf (done.map (tupleKeyHash knd))<2^63))=true then _ else _) Q E _;unfold IE reduceHash Et at h;by_cases hr:(decide (-(2:Int)^63<=Builtin.Tuple.tupleHashOf (done.map (tupleKeyHash knd)))&&decide (Builtin.Tuple.tupleHashOf (done.map (tupleKeyHash knd))<2^63))=true
  .rw[jo hr];rw[jo hr]at h;exact je (by simpa [d9] using h)
  .rw[jj hr];rw[jj hr]at h;exact jc (wpAny_rule (je (by simpa [d9] using h)))
theorem Ls{x y:List (List K)}{a b:jd}{P:Fin->jf->Prop}(hu:A.units<j5)(hx:IsNest knd s.heap x a)(hy:IsNest knd s.heap y b)(h:P (.done (.ret (.bool (decide (x=y))))) s) :
  jh (jm prog w) A (Builtin.«tuple.__eq__» ⟨[.ref a,.ref b],[]⟩) P E s:=by
 have hTb:=hy.typeIs;obtain⟨oa,xs,na,hoa,_,hda,hia⟩:=hx;obtain⟨ob,ys,nb,hob,_,hdb,hib⟩:=hy;show jh _ _ (isInstance (.ref b) (.type "tuple") >>= _) _ _ s;refine jc (kh hTb kO ?_);simp only[bV,au,if_false];refine jc (lq hoa hda ?_);refine jc (lq hob hdb ?_);refine jc ?_;refine j0 _
  (λ rest r s'=>r.1=none/\s'=s/\∃x' y' xs' ys',rest=List.zip xs' ys'/\NestAre knd s.heap x' xs'/\NestAre knd s.heap y' ys'/\decide (x'=y')=decide (x=y)/\(xs'.length==ys'.length)=(xs.size==ys.size))
  _ ?_ ?_ _ _ ⟨rfl,rfl,x,y,xs.toList,ys.toList,rfl,hia,hib,rfl,by simp⟩
 .rintro⟨u,v⟩ rest r s' ⟨hr,rfl,x',y',xs',ys',hz,hx',hy',hdec,hlen⟩;cases hx' with
  |nil=>simp at hz
  |@cons k1 u' x'' xs'' h1 hx'' =>
   cases hy' with
   |nil=>simp at hz
   |@cons k2 v' y'' ys'' h2 hy'' =>
    simp only[ee,List.cons.injEq,dB.injEq]at hz;obtain⟨⟨rfl,rfl⟩,rfl⟩:=hz;refine jc (wpAny_eqBool_tuple (x:=k1) (y:=k2) hu h1 h2 ?_);by_cases hk:k1=k2
    .subst hk;rw[jn rfl];simp only[bV,au,if_false];refine je ⟨rfl,rfl,x'',y'',xs'',ys'',rfl,hx'',hy'',?_,by simpa using hlen⟩;rw[<-hdec];by_cases hxy:x''=y''
     .simp[hxy]
     .simp[hxy]
    .rw[js hk];simp only[Bool.not_false,if_true];have hf:decide (x=y)=false:=by rw[<-hdec];simp[hk]
     rw[hf]at h;exact jc (je (je (je h)))
 .rintro⟨r1,r2⟩ s' ⟨hr,rfl,x',y',xs',ys',hz,hx',hy',hdec,hlen⟩;simp only at hr;subst hr;refine je ?_;have hfin:(xs.size==ys.size)=decide (x=y):=by
   rw[<-hdec,<-hlen];cases hx' with
   |nil =>
    cases hy' with
    |nil=>simp
    |cons _ _=>simp
   |cons _ _ =>
    cases hy' with
    |nil=>simp
    |cons _ _=>simp at hz
  show P (.done (.ret (.bool (xs.size==ys.size)))) s';rw[hfin];exact h
theorem C9{x y:List (List K)}{a b:jd}{Q:Bool->jf->Prop}(hu:A.units+1<j5)(hx:IsNest knd s.heap x a)(hy:IsNest knd s.heap y b)(h:Q (decide (x=y)) s) :
  jh (jm prog w) A (eqBool (.ref a) (.ref b)) Q E s:=by
 unfold eqBool
 try with_reducible refine jI ?_
 show jh _ _ (if (Value.ref a==Value.ref b)=true then _ else _) Q E s;by_cases hab:(Value.ref a==Value.ref b)=true
 .rw[jo hab];have e:a=b:=by have:=eq_of_beq hab;injection this
  subst e;obtain rfl:=hx.inj hy;exact jc (wpAny_rule (je (by simpa using h)))
 .rw[jj hab];exact jc (wpAny_richCompare_same_room (op:=.Eq) hx.typeIs hy.typeIs F.slot_tuple_eq
   (jJ F.slot_tuple_eq hx.typeIs F.entry_tuple_eq (Ls (by first|exact hu|exact eM hu) hx hy ⟨_,rfl,(λ e=>nomatch e),jK h⟩) (F.args_tuple_eq_2 _ _)) (eM hu))
theorem Mf{n:Nat}{ks:List K}{a:jd}{Q:Bool->jf->Prop}(hk:IsTupleKey knd s.heap ks a)(h:Q true s):jh (jm prog w) A (eqIsQuiet (n+1) (.ref a)) Q E s:=by
 have hT:=hk.typeIs;obtain⟨o,items,n,ho,_,hd,hi⟩:=hk;unfold eqIsQuiet;refine jc (j9 hT F.slot_tuple_eq.lookup ?_);show jh _ _ (isInstance (.ref a) (.type "tuple") >>= _) _ _ s;refine jc (kh hT kO ?_);simp only[bV,au,if_false];refine jc (lx ho hd ?_);refine jc ?_;show jh _ _ (forIn items _ _) _ _ s;rw[<-bW];refine j0 _ (λ rest r s'=>r.1=none/\s'=s/\∀v∈rest,ly v=true) _ ?_ ?_ _ _ ⟨rfl,rfl,hi.byValue⟩
 .rintro v rest r s' ⟨hr,rfl,hall⟩;rw[eqIsQuiet_byValue _ (hall v aw)];refine jc (je ?_);simp only[bV,au,if_false];exact je ⟨rfl,rfl,λ u hu'=>hall u (ay _ hu')⟩
 .rintro⟨r1,r2⟩ s' ⟨hr,rfl,_⟩;simp only at hr;subst hr;exact je h
theorem ET{ks:List (List K)}{a:jd}{Q:Bool->jf->Prop}(hk:IsNest knd s.heap ks a)(h:Q true s):jh (jm prog w) A (eqIsQuiet 8 (.ref a)) Q E s:=by
 have hT:=hk.typeIs;obtain⟨o,items,n,ho,_,hd,hi⟩:=hk;unfold eqIsQuiet;refine jc (j9 hT F.slot_tuple_eq.lookup ?_);show jh _ _ (isInstance (.ref a) (.type "tuple") >>= _) _ _ s;refine jc (kh hT kO ?_);simp only[bV,au,if_false];refine jc (lx ho hd ?_);refine jc ?_;show jh _ _ (forIn items _ _) _ _ s;rw[<-bW];refine j0 _ (λ rest r s'=>r.1=none/\s'=s/\∃left,NestAre knd s.heap left rest) _ ?_ ?_ _ _ ⟨rfl,rfl,ks,hi⟩
 .rintro v rest r s' ⟨hr,rfl,left,hl⟩;cases hl with
  |cons h1 hl' =>
   refine jc (Mf h1 ?_);simp only[bV,au,if_false];exact je ⟨rfl,rfl,_,hl'⟩
 .rintro⟨r1,r2⟩ s' ⟨hr,rfl,_⟩;simp only at hr;subst hr;exact je h
end
noncomputable def RE{prog:jk}{w:ju}{K:Type}[DecidableEq K](knd:KeyKind prog w K):HeapKind prog w (List (List K)) where
 is:=IsNest knd
 hash:=IE knd
 draws:=Et
 room:=λ A=>A.units+1<j5
 inj:=λ hx hy=>hx.inj hy
 keeps:=λ x ho hd hs=>x.keeps ho hd hs
 pyHash:=λ hu hk h=>C8 hu hk h
 eqBool:=λ hu hx hy h=>C9 hu hx hy h
 quiet:=λ hk h=>ET hk h
noncomputable def Nest(H:Hp):List (List Key)->LUz->Prop
 |[],[]=>True
 |k::ks,v::vs=>(∃b,v=.ref b/\H b=some (.tup (k.map kV)))/\Nest H ks vs
 |_,_=>False
noncomputable def NAt(H:Hp)(a:jd)(ks:List (List Key)):Prop:=∃vs,H a=some (.tup vs)/\Nest H ks vs
theorem Nest.keep{H H':Hp}(ht:∀b ys,H b=some (.tup ys)->H' b=some (.tup ys)):∀{ks:List (List Key)}{vs:LUz},Nest H ks vs->Nest H' ks vs
 |[],[],_=>trivial
 |k::ks,v::vs,⟨⟨b,e,q⟩,r⟩=>⟨⟨b,e,ht _ _ q⟩,Nest.keep ht r⟩
 |[],_::_,h=>h.elim
 |_::_,[],h=>h.elim
theorem NAt.keep{H H':Hp}{a:jd}{ks:List (List Key)}(ht:∀b ys,H b=some (.tup ys)->H' b=some (.tup ys))(h:NAt H a ks):NAt H' a ks:=let ⟨vs,e,r⟩:=h;⟨vs,ht _ _ e,r.keep ht⟩
theorem OG{P:jk}{w:ju}{H:Hp}{h:jy}(ok:HOk P w H h):∀{ks:List (List Key)}{vs:LUz}{us:LWz},Nest H ks vs->Vals vs us->NestAre (AA P w) h ks us
 |[],[],_,_,.nil=>.nil
 |k::ks,v::vs,_,⟨⟨b,e,q⟩,r⟩,.cons h1 t=>by
  subst e;cases h1;exact .cons (Fe ok q) (OG ok r t)
 |[],_::_,_,h,_=>h.elim
 |_::_,[],_,h,_=>h.elim
theorem Vg{P:jk}{w:ju}{H:Hp}{h:jy}{a:jd}{ks:List (List Key)}(ok:HOk P w H h)(x:NAt H a ks):(RE (AA P w)).is h ks a:=by
 obtain⟨vs,e,r⟩:=x;obtain⟨_,its,rv,o,h1,h2,n,h3⟩:=(show ObjOk P w H h a (.tup vs) from ok a _ e);exact⟨o,its.toArray,n,h1,h2,h3,by simpa using OG ok r rv⟩
open SetTable in
structure P7(p:SetTable.Probe):Prop where
 j:p.j=p.i
 i:p.i<8
 m:p.more=0
 d:p.dummy=none
theorem Wd{i:Nat}:SetTable.runEnd 7 i-i=0:=by
 unfold SetTable.runEnd;split
 .lia
 .exact eJ i
theorem P7.start{t:SetTable}(h7:t.mask=7)(h:Int):P7 (t.probeStart h)/\(t.probeStart h).perturb<2^64:=by
 unfold SetTable.probeStart;rw[h7];refine⟨⟨rfl,Nat.mod_lt _ (by decide),Wd,rfl⟩,?_⟩;show SetTable.bits h<2^64;unfold SetTable.bits;have a:=bj h (b:=(2^64:Int)) (by decide);have b:=bp h (b:=(2^64:Int)) (by decide);lia
theorem Ul{t:SetTable}{p:SetTable.Probe}(h7:t.mask=7)(h:P7 p):P7 (t.advance p)/\(t.advance p).i=(p.i*5+1+p.perturb / 32) % 8/\(t.advance p).perturb=p.perturb / 32:=by
 unfold SetTable.advance;rw[h.m,jj (by decide),h7];exact⟨⟨rfl,Nat.mod_lt _ (by decide),Wd,h.d⟩,rfl,rfl⟩
noncomputable def E2(t:SetTable):Nat->SetTable.Probe->SetTable.Probe
 |0,p=>p
 |n+1,p=>E2 t n (t.advance p)
theorem SI{t:SetTable}(h7:t.mask=7):∀(n:Nat){p:SetTable.Probe},P7 p->P7 (E2 t n p)/\(E2 t n p).perturb=p.perturb / 32^n
 |0,p,h=>⟨h,by rw[Nat.pow_zero,Nat.div_one];rfl⟩
 |n+1,p,h=>by
  obtain⟨a,b,c⟩:=Ul h7 h;obtain⟨d,e⟩:=SI h7 n a;refine⟨d,?_⟩;show(E2 t n (t.advance p)).perturb=_;rw[e,c,Nat.div_div_eq_div_mul,Nat.pow_succ,Nat.mul_comm]
theorem Jp(t:SetTable):∀(m n:Nat)(p:SetTable.Probe),E2 t (m+n) p=E2 t n (E2 t m p)
 |0,n,p=>by rw[fH];rfl
 |m+1,n,p=>by rw[Nat.succ_add];exact Jp t m n (t.advance p)
theorem Wx:∀i a b:Fin 8,(i.val≠a.val/\i.val≠b.val)\/((i.val*5+1) % 8≠a.val/\(i.val*5+1) % 8≠b.val)\/(((i.val*5+1) % 8*5+1) % 8≠a.val/\((i.val*5+1) % 8*5+1) % 8≠b.val):=by decide +kernel
theorem RJ{t:SetTable}(h7:t.mask=7){p:SetTable.Probe}(h:P7 p)(hp:p.perturb<2^64){a b:Nat}(ha:a<8)(hb:b<8):∃n,n<=15/\(E2 t n p).j≠a/\(E2 t n p).j≠b:=by
 have pw:(2:Nat)^64<32^13:=by decide +kernel
 have q0:=SI h7 13 h;have s1:=Jp t 13 1 p;have s2:=Jp t 13 2 p;have s0:∀r,r=E2 t 13 p->P7 r->r.perturb=0->∃n,n<=15/\(E2 t n p).j≠a/\(E2 t n p).j≠b:=λ r er q e=>by
  rw[<-er]at s1 s2;obtain⟨q1,i1,p1⟩:=Ul h7 q;obtain⟨q2,i2,p2⟩:=Ul h7 q1;rw[e]at i1 p1;rw[p1]at i2;rcases Wx ⟨r.i,q.i⟩ ⟨a,ha⟩ ⟨b,hb⟩ with z|z|z
  .refine⟨13,eS 13 2,?_⟩;rw[<-er,q.j];exact z
  .refine⟨13+1,eS 14 1,?_⟩;rw[s1];show(t.advance r).j≠a/\(t.advance r).j≠b;rw[q1.j,i1];exact z
  .refine⟨13+2,ah 15,?_⟩;rw[s2];show(t.advance (t.advance r)).j≠a/\(t.advance (t.advance r)).j≠b;rw[q2.j,i2,i1];exact z
 refine s0 _ rfl q0.1 ?_;rw[q0.2];exact Nat.div_eq_of_lt (fK hp pw)
theorem Mh{t:SetTable}(h7:t.mask=7)(nd:∀j,t.slot j≠.dummy){ha:Nat->Int}{h:Int}:∀(n fuel:Nat)(p:SetTable.Probe),P7 p->n<fuel->t.slot (E2 t n p).j=.empty ->
  (∃j,SetTable.probe.go t ha h fuel p=some (.empty j none)/\t.slot j=.empty/\j<8)\/∃j i p' m,SetTable.probe.go t ha h fuel p=some (.candidate j i p')/\t.slot j=.live i/\P7 p'/\m<n/\t.slot (E2 t m p').j=.empty/\ha i=h
 |n,0,p,_,hf,_=>absurd hf (fj _)
 |0,fuel+1,p,h0,hf,he=>by
  left
  have he:t.slot p.j=.empty:=he;refine⟨p.j,?_,he,by rw[h0.j];exact h0.i⟩;unfold SetTable.probe.go;rw[he,h0.d]
 |n+1,fuel+1,p,h0,hf,he=>by
  unfold SetTable.probe.go;cases e:t.slot p.j with
  |empty=>exact .inl ⟨p.j,by rw[h0.d],e,by rw[h0.j];exact h0.i⟩
  |dummy=>exact absurd e (nd _)
  |live i =>
   have ha7:=(Ul h7 h0).1;by_cases c:ha i=h
   .right
    refine⟨p.j,i,t.advance p,n,?_,e,ha7,br n,he,c⟩;show(if (ha i==h)=true then _ else _)=_;rw[jo (beq_iff_eq.mpr c)]
   .have r:=Mh h7 nd (ha:=ha) (h:=h) n fuel (t.advance p) ha7 (by lia) he;have ne:(if (ha i==h)=true then some (SetTable.Met.candidate p.j i (t.advance p)) else SetTable.probe.go t ha h fuel (t.advance p))=SetTable.probe.go t ha h fuel (t.advance p):=jj (λ z=>c (beq_iff_eq.mp z));rcases r with ⟨j,r1,r2⟩|⟨j,i',p',m,r1,r2,r3,r4,r5⟩
    .exact .inl ⟨j,ne.trans r1,r2⟩
    .exact .inr ⟨j,i',p',m,ne.trans r1,r2,r3,by lia,r5⟩
noncomputable def Few(pl:Array Nat):Prop:=pl=#[]\/(∃a:Fin 8,pl=#[a.val])\/∃a b:Fin 8,a<b/\pl=#[a.val,b.val]
noncomputable def E4(pl:Array Nat)(j:Nat):SetTable.Slot:=if pl[SetTable.below pl j]?==some j then .live (SetTable.below pl j) else .empty
theorem Fy{t:SetTable}(hd:t.dummies=#[])(j:Nat):t.slot j=E4 t.place j:=by
 unfold SetTable.slot E4;rw[hd];dsimp only;split
 .rfl
 .exact jj (λ z=>nomatch (show false=true from z))
theorem WC:∀a j:Fin 8,E4 #[a.val] j.val=if j=a then .live 0 else .empty:=by decide +kernel
theorem Vy:∀a b j:Fin 8,a<b->E4 #[a.val,b.val] j.val=if j=a then .live 0 else if j=b then .live 1 else .empty:=by decide +kernel
theorem Xr:∀a j:Fin 8,j≠a->SetTable.insertAt #[a.val] (SetTable.below #[a.val] j.val) j.val=if a<j then #[a.val,j.val] else #[j.val,a.val]:=by decide +kernel
theorem GH{α:Type}{xs:Array α}{p:Nat}{x:α}:(SetTable.insertAt xs p x).size=xs.size+1:=by
 rw[<-aW,(SetTable.insertAt_perm xs p x).length_eq,aW,Array.size_push]
theorem Few.put{pl:Array Nat}(h:Few pl){j:Nat}(hj:j<8)(he:E4 pl j=.empty)(hz:pl.size<2):Few (SetTable.insertAt pl (SetTable.below pl j) j):=by
 obtain rfl|⟨a,rfl⟩|⟨a,b,_,rfl⟩:=h
 .exact .inr (.inl ⟨⟨j,hj⟩,rfl⟩)
 .have e:=WC a ⟨j,hj⟩;have ne:(⟨j,hj⟩:Fin 8)≠a:=λ z=>by
   rw[jo z]at e;exact nomatch he.symm.trans e
  have q:=Xr a ⟨j,hj⟩ ne;refine .inr (.inr ?_);by_cases l:a<⟨j,hj⟩
  .rw[jo l]at q;exact⟨a,⟨j,hj⟩,l,q⟩
  .rw[jj l]at q;exact⟨⟨j,hj⟩,a,by lia,q⟩
 .exact absurd hz (by decide:¬2<2)
theorem Few.two{pl:Array Nat}(h:Few pl):∃a b,a<8/\b<8/\∀j,j<8->j≠a->j≠b->E4 pl j=.empty:=by
 obtain rfl|⟨a,rfl⟩|⟨a,b,l,rfl⟩:=h
 .exact⟨0,0,by decide,by decide,λ j _ _ _=>rfl⟩
 .refine⟨a,a,a.2,a.2,λ j hj na _=>?_⟩;have:=WC a ⟨j,hj⟩;rw[jj λ z=>na (congrArg Fin.val z)]at this;exact this
 .refine⟨a,b,a.2,b.2,λ j hj na nb=>?_⟩;have:=Vy a b ⟨j,hj⟩ l;rw[jj λ z=>na (congrArg Fin.val z),jj λ z=>nb (congrArg Fin.val z)]at this;exact this
theorem TB{pl:Array Nat}{j i:Nat}(h:E4 pl j=.live i):i<pl.size:=by
 unfold E4 at h;split at h
 .next e =>
  injection h with h;subst h;have e:=eq_of_beq e;exact(aY.mp e).1
 .exact nomatch h
section
variable{prog:jk}{w:ju}{K:Type}[DecidableEq K]{knd:KeyKind prog w K}{A:jx}{E:VPz}{s:jf}
theorem TL(n:Nat){v:jg}(h:ly v=true):∃b,hashByValue n v=pure b:=by
 cases n<;>cases v<;>first|exact(nomatch (show false=true from h))|exact⟨_,by unfold hashByValue;rfl⟩
theorem Kw{n:Nat}{a:jd}{o:Obj}{items:Array jg}{m:Nat}{Q:Bool->jf->Prop}(ho:s.heap.get? a=some o)(hc:o.cls=.type "tuple")(hd:o.data=.seq items m)(al:∀v∈items.toList,∀Q:Bool->jf->Prop,(∀b,Q b s)->jh (jm prog w) A (hashByValue n v) Q E s)(h:∀b,Q b s):jh (jm prog w) A (hashByValue (n+1) (.ref a)) Q E s:=by
 unfold hashByValue;refine jc (j9 ⟨o,ho,hc⟩ F.slot_tuple_hash.lookup ?_);show jh _ _ (seqItems? (.ref a) >>= _) _ _ s;refine jc (lx ho hd (jc ?_));show jh _ _ (forIn items _ _) _ _ s;rw[<-bW];refine j0 _ (λ rest r s'=>r.1=none/\s'=s/\∀v∈rest,v∈items.toList) _ ?_ ?_ _ _ ⟨rfl,rfl,λ_ z=>z⟩
 .rintro v rest r s' ⟨hr,rfl,hall⟩;refine jc (al v (hall v aw) _ λ b=>?_);cases b
  .exact je (je (h false))
  .exact je ⟨rfl,rfl,λ u hu'=>hall u (ay _ hu')⟩
 .rintro⟨r1,r2⟩ s' ⟨hr,rfl,_⟩;simp only at hr;subst hr;exact je (h true)
theorem NestAre.mem{h:jy}:∀{ks:List (List K)}{vs:LWz},NestAre knd h ks vs->∀v∈vs,∃b k,v=.ref b/\IsTupleKey knd h k b
 |_,_,.cons h1 t,v,hv=>by
  rcases aO.mp hv with rfl|hv
  .exact⟨_,_,rfl,h1⟩
  .exact t.mem v hv
theorem Sg{ks:List (List K)}{a:jd}{Q:Bool->jf->Prop}(hk:IsNest knd s.heap ks a)(h:∀b,Q b s):jh (jm prog w) A (hashByValue 8 (.ref a)) Q E s:=by
 obtain⟨o,items,m,ho,hc,hd,hi⟩:=hk;refine Kw ho hc hd (λ v hv Q h=>?_) h;obtain⟨b,k,rfl,o,items,m,ho,hc,hd,hi⟩:=hi.mem v hv;refine Kw ho hc hd (λ v hv Q h=>?_) h;obtain⟨b,e⟩:=TL 6 (hi.byValue v hv);rw[e];exact je (h b)
theorem T7(n:Nat){v:jg}(h:ly v=true):ofAClassStatement n v=pure false:=by
 cases n<;>cases v<;>first|exact(nomatch (show false=true from h))|(unfold ofAClassStatement;rfl)
theorem Kj{n:Nat}{a:jd}{o:Obj}{items:Array jg}{m:Nat}{Q:Bool->jf->Prop}(ho:s.heap.get? a=some o)(hc:o.cls=.type "tuple")(hd:o.data=.seq items m)(al:∀v∈items.toList,∀Q:Bool->jf->Prop,Q false s->jh (jm prog w) A (ofAClassStatement n v) Q E s)(h:Q false s):jh (jm prog w) A (ofAClassStatement (n+1) (.ref a)) Q E s:=by
 unfold ofAClassStatement;refine jc (wpAny_typeOf (v:=.ref a) (T:="tuple") ⟨o,ho,hc⟩ ?_);show jh _ _ (pure true >>= _) _ _ s;refine jc (je ?_);simp only[bV,au,if_false];refine jc (lx ho hd ?_);dsimp only;refine jc ?_;rw[<-bW];refine j0 _ (λ rest r s'=>r.1=none/\s'=s/\∀v∈rest,v∈items.toList) _ ?_ ?_ _ _ ⟨rfl,rfl,λ_ z=>z⟩
 .rintro v rest r s' ⟨hr,rfl,hall⟩;exact jc (al v (hall v aw) _ (je ⟨rfl,rfl,λ u hu'=>hall u (ay _ hu')⟩))
 .rintro⟨r1,r2⟩ s' ⟨hr,rfl,_⟩;simp only at hr;subst hr;exact je h
theorem Mx{ks:List (List K)}{a:jd}{Q:Bool->jf->Prop}(hk:IsNest knd s.heap ks a)(h:Q false s):jh (jm prog w) A (ofAClassStatement 8 (.ref a)) Q E s:=by
 obtain⟨o,items,m,ho,hc,hd,hi⟩:=hk;refine Kj ho hc hd (λ v hv Q h=>?_) h;obtain⟨b,k,rfl,o,items,m,ho,hc,hd,hi⟩:=hi.mem v hv;refine Kj ho hc hd (λ v hv Q h=>?_) h;rw[T7 6 (hi.byValue v hv)];exact je h
theorem UC{ks:List (List K)}{a:jd}{l:LWz}{Q:Bool->jf->Prop}(hk:IsNest knd s.heap ks a)(hl:∀v∈l,∃b k,v=.ref b/\IsNest knd s.heap k b)(h:Q false s):jh (jm prog w) A (searchCouldBeSeen (.ref a) l) Q E s:=by
 unfold searchCouldBeSeen;refine jc ?_;refine j0 _ (λ rest r s'=>r.1=none/\s'=s/\∀v∈rest,∃b k,v=.ref b/\IsNest knd s.heap k b) _ ?_ ?_ _ _ ⟨rfl,rfl,hl⟩
 .rintro v rest r s' ⟨hr,rfl,hall⟩;obtain⟨b,k,rfl,hb⟩:=hall v aw;have more:∀v∈rest,∃b k,v=.ref b/\IsNest knd s'.heap k b:=λ u hu'=>hall u (ay _ hu');dsimp only;by_cases e:(a==b)=true
  .rw[e];exact je ⟨rfl,rfl,more⟩
  .rw[Bool.not_eq_true]at e;rw[e];simp only[ly,Bool.false_and,Bool.or_false,au,if_false];refine jc (ET hk ?_);simp only[bV,au,if_false];refine jc (ET hb ?_);simp only[bV,au,if_false];refine jc (Mx hk ?_);simp only[au,if_false];refine jc (Mx hb ?_);simp only[au,if_false];exact je ⟨rfl,rfl,more⟩
 .rintro⟨r1,r2⟩ s' ⟨hr,rfl,_⟩;simp only at hr;subst hr;exact je h
noncomputable def J9(es:Array (Int×jg))(ep:Nat)(t:SetTable):Obj:={ cls:=.type "set",dict:=none,data:=.set es ep t }
structure Tb7(es:Array (Int×jg))(t:SetTable):Prop where
 m:t.mask=7
 d:t.dummies=#[]
 z:t.place.size=es.size
 b:es.size<=3
theorem Tb7.fits{es:Array (Int×jg)}{t:SetTable}(h:Tb7 es t):t.fits es.size=true:=by
 unfold SetTable.fits SetTable.fill;rw[h.m,h.d,h.z];have:=h.b;simp only[beq_self_eq_true,Bool.true_and,decide_eq_true_eq];show es.size+0<=7;lia
theorem IsNest.kept{h h':jy}{ks:List (List K)}{a:jd}(x:IsNest knd h ks a)(k:∀b o,h.get? b=some o->o.cls=.type "tuple"->h'.get? b=some o):IsNest knd h' ks a:=by
 obtain⟨o,items,n,ho,hc,hd,hi⟩:=x;refine⟨o,items,n,k _ _ ho hc,hc,hd,?_⟩;clear hd;generalize items.toList=us at hi |-
 induction hi with
 |nil=>exact .nil
 |cons h1 _ ih =>
  obtain⟨o,items,n,ho,hc,hd,hi⟩:=h1;exact .cons ⟨o,items,n,k _ _ ho hc,hc,hd,hi⟩ ih
theorem Ot{S a:jd}{es:Array (Int×jg)}{ep:Nat}{t:SetTable}{k:List (List K)}{h:Int}{Q:SetFound->jf->Prop}(hu:A.units+1<j5)(hS:s.heap.get? S=some (J9 es ep t))(tb:Tb7 es t)(hk:IsNest knd s.heap k a)
    (hel:∀e∈es.toList,∃b k',e.2=.ref b/\IsNest knd s.heap k' b/\k'≠k) (hq:∀j,j<8->E4 t.place j=.empty->Q (.free j false) s) :
    ∀(n fuel:Nat)(p:Option SetTable.Probe),n<fuel->n<=15->P7 (p.getD (t.probeStart h))->t.slot (E2 t n (p.getD (t.probeStart h))).j=.empty->jh (jm prog w) A (setSearchFrom S (.ref a) h true fuel p) Q E s
  |n,0,p,hf,_,_,_=>absurd hf (fj _)
  |n,fuel+1,p,hf,h15,h7,he=>by
    have hfit:=tb.fits;have nd:∀j,t.slot j≠.dummy:=λ j z=>by
      rw[Fy tb.d]at z;unfold E4 at z;split at z<;>exact nomatch z
    have hgw:t.gaveWay=false:=by unfold SetTable.gaveWay;rw[tb.m];rfl
    unfold setSearchFrom;refine jc (jL (o:=J9 es ep t) (ep:=ep) hS rfl hfit ?_);dsimp only;rw[hgw];simp only[au,if_false];have ht:SetTable.turns t.mask=22:=by rw[tb.m];rfl
    unfold SetTable.probe;rw[ht];rcases Mh (t:=t) tb.m nd (ha:=_) (h:=h) n (10*22) _ h7 (by lia) he with ⟨j,e,es',hj⟩|⟨j,i,p',m,e,sl,h7',lt,he',_⟩
    · rw[e]
      dsimp only;rw[Fy tb.d]at es';exact je (hq j hj es')
    · rw[e]
      dsimp only;have hi:i<es.size:=by
        have sl':=sl;rw[Fy tb.d]at sl';have:=TB sl';rw[tb.z]at this;exact this
      have hge:es[i]?=some es[i]:=bn hi;obtain⟨b,k',eb,hb,nk⟩:=hel es[i] (Array.getElem_mem_toList hi);obtain⟨h0,y0⟩:∃h0,es[i]=(h0,Value.ref b):=⟨es[i].1,by rw[<-eb]⟩;rw[y0]at hge;have tail:∀(c:Bool),(c=true->False)->jh (jm prog w) A (do
          let (es',_,t') <-setState S
          if true&&c then return SetFound.there none
          let some sm:=t'.sameMemory t.moves t.mask|unsupported "set.changed-during-lookup:is-the-new-block-at-the-old-address"
          let still <-match (if sm then t'.slot j else .empty) with
            |.live i'=>match es'[i']? with
              |some (_,y')=>do pure (if <-isSame y' (.ref b) then some i' else none)
              |none=>pure none
            |_=>pure none
          match still with
          |none=>rule "set.search.anew";setSearchFrom S (.ref a) h true fuel none
          |some i'=>if c then return .there (some i') else setSearchFrom S (.ref a) h true fuel (some p')) Q E s:=λ c hc=>by
        cases c with
        |true=>exact(hc rfl).elim
        |false =>
          refine jc (jL (o:=J9 es ep t) (ep:=ep) hS rfl hfit ?_);have hsm:t.sameMemory t.moves t.mask=some true:=by unfold SetTable.sameMemory;rw[jo (beq_self_eq_true _)]
          dsimp only;rw[hsm,sl];simp only[bX,au,if_false,if_true];rw[hge];dsimp only;refine jc (wpAny_isSame_ref_self (jc (je ?_)));simp only[if_true];exact Ot hu hS tb hk hel hq m fuel (some p') (by lia) (by lia) h7' he'
      have eqs:jh (jm prog w) A (holding [Value.ref b] (eqBool (.ref b) (.ref a))) (λ r s'=>r=false/\s'=s) E s:=by
        refine jI (C9 hu hb hk ?_);rw[js nk];exact⟨rfl,rfl⟩
      have rest:jh (jm prog w) A (do
          let equal <-holding [Value.ref b] (eqBool (.ref b) (.ref a))
          let (es',_,t') <-setState S
          if true&&equal then return SetFound.there none
          let some sm:=t'.sameMemory t.moves t.mask|unsupported "set.changed-during-lookup:is-the-new-block-at-the-old-address"
          let still <-match (if sm then t'.slot j else .empty) with
            |.live i'=>match es'[i']? with
              |some (_,y')=>do pure (if <-isSame y' (.ref b) then some i' else none)
              |none=>pure none
            |_=>pure none
          match still with
          |none=>rule "set.search.anew";setSearchFrom S (.ref a) h true fuel none
          |some i'=>if equal then return .there (some i') else setSearchFrom S (.ref a) h true fuel (some p')) Q E s:=by
        refine jc (jA eqs (λ r s' hz=>?_) λ_ _ z=>z);obtain⟨rfl,rfl⟩:=hz;exact tail false (λ z=>nomatch z)
      cases hl:t.led with
      |true =>
        simp only[bV,au,if_false];rw[hge];exact rest
      |false =>
        simp only[Bool.not_false,if_true];refine jc (UC hk (λ v hv=>?_) ?_)
        · obtain⟨e,he,rfl⟩:=ao.mp hv
          obtain⟨b,k',e1,e2,_⟩:=hel e (dM.mpr (Array.mem_of_mem_filter (dM.mp he)));exact⟨b,k',e1,e2⟩
        · simp only[au,if_false]
          rw[hge];exact rest
theorem Tj{S a:jd}{es:Array (Int×jg)}{ep:Nat}{t:SetTable}{k:List (List K)}{h:Int}{Q:Bool->jf->Prop}(hu:A.units+1<j5)(hS:s.heap.get? S=some (J9 es ep t))(tb:Tb7 es t)(fw:Few t.place)(hk:IsNest knd s.heap k a)
    (hel:∀e∈es.toList,∃b k',e.2=.ref b/\IsNest knd s.heap k' b/\k'≠k) (hz:es.size<=2)
    (hq:∀h' es' ep' t',Heap.SameBut S s.heap h'->h'.get? S=some (J9 es' ep' t')->Tb7 es' t'->es'.size=es.size+1->(es.size<2->Few t'.place)->(∀e∈es'.toList,e∈es.toList\/e=(h,.ref a))->Q true { s with heap:=h' }) :
    jh (jm prog w) A (setAddHashed S (.ref a) h) Q E s:=by
  have hfit:=tb.fits;unfold setAddHashed setAddHashedIn;refine jI (jc (jL (o:=J9 es ep t) (ep:=ep) hS rfl hfit ?_));dsimp only;have nb:byScan (.ref a) es=false:=rfl;rw[nb];simp only[au,if_false];obtain⟨s7,sp⟩:=P7.start (t:=t) tb.m h;obtain⟨a',b',la,lb,all⟩:=fw.two;obtain⟨n,ln,na,nb'⟩:=RJ tb.m s7 sp la lb;have hj8:(E2 t n (t.probeStart h)).j<8:=by
    have q:=(SI tb.m n s7).1;rw[q.j];exact q.i
  unfold setSearch;refine jc (Ot hu hS tb hk hel (λ j hj he=>?_) n 100000 none (by lia) ln s7 (by rw[Fy tb.d];exact all _ hj8 na nb'));dsimp only;refine jc (jL (o:=J9 es ep t) (ep:=ep) hS rfl hfit ?_);dsimp only;have e1:(t.put j).1={ t with place:=SetTable.insertAt t.place (SetTable.below t.place j) j }:=by
    unfold SetTable.put;dsimp only;rw[tb.d];rfl
  have e2:(t.put j).2=SetTable.below t.place j:=rfl;generalize t.put j=tp at e1 e2 |-;obtain⟨t1,p⟩:=tp;simp only at e1 e2;subst e2;have m1:t1.mask=7:=by rw[e1];exact tb.m
  have d1:t1.dummies=#[]:=by rw[e1];exact tb.d
  have p1:t1.place=SetTable.insertAt t.place (SetTable.below t.place j) j:=by rw[e1]
  have z1:t1.place.size=es.size+1:=by rw[p1,GH,tb.z]
  clear e1;generalize hes:SetTable.insertAt es (SetTable.below t.place j) (h,Value.ref a)=es1;have sz:es1.size=es.size+1:=by rw[<-hes,GH]
  have mem:∀e∈es1.toList,e∈es.toList\/e=(h,.ref a):=λ e he=>by
    rw[<-hes]at he;have:=(SetTable.insertAt_perm es (SetTable.below t.place j) (h,Value.ref a)).mem_iff.mp he;rw[Array.toList_push]at this;rcases az.mp this with z|z
    · exact .inl z
    · exact .inr (af.mp z)
  have fin:∀t2:SetTable,t2.mask=7->t2.dummies=#[]->t2.place=t1.place->jh (jm prog w) A (do
      storeSet S es1 t2
      if !false&&t2.tooFull then setRelay S (SetTable.grown (es.size+1))
      return true) Q E s:=λ t2 m2 d2 p2=>by
    have nf:t2.tooFull=false:=by
      unfold SetTable.tooFull SetTable.fill;rw[m2,d2,p2,z1];refine js ?_;show ¬(es.size+1+0)*5>=7*3;lia
    refine jc (wpAny_storeSet_of (o:=J9 es ep t) (ep:=ep) hS rfl ?_ (aN (An (by lia))));rw[nf];simp only[bX,au,if_false];refine je (hq _ es1 (ep+1) t2 (Heap.SameBut.update s.heap S _) ?_ ⟨m2,d2,by rw[p2,z1,sz],by lia⟩ sz (λ l2=>?_) mem)
    · exact bg (Obj.putSet es1 t2) hS rfl
    · rw[p2,p1]
      exact fw.put hj he (by rw[tb.z];exact l2)
  cases hp:t1.plain with
  |true =>
    simp only[if_true];refine jc (Sg hk λ b=>?_);cases b with
    |true=>exact fin t1 m1 d1 rfl
    |false=>exact fin { t1 with plain:=false } m1 d1 rfl
  |false =>
    simp only[au,if_false];refine jc (je ?_);exact fin t1 m1 d1 rfl
end
section
variable{pr:jk}{wo:ju}{B:jx}{X0:VPz}{st:jf}{I:jd}{fp wr:List jd}{G:Array lD->Array lD->Prop}{n:Nat}{Pv:Nat->jg->Prop}{Sv:Nat->jf->Prop}{R:lI->jf->Prop}{knd:KeyKind pr wo Key}
theorem WG{l:jd}{its:Array jg}{ks:List (List (List Key))}{Q:VPz}(hh:B.handled=none)(hu:B.units+4<j5)(hl:st.heap.IsList l its)(hv:∀(i:Nat)(v:jg),its[i]?=some v->∃a,v=.ref a/\IsNest knd st.heap (ks.getD i []) a)(hn:its.size=ks.length)(h3:ks.length<=3)(nd:ks.Nodup)
  (h:∀(h':jy)(tk:Nat) es ep t,h'.get? st.heap.objs.size=some (J9 es ep t)->Tb7 es t->es.size=ks.length->(∀b ob,b<st.heap.objs.size->st.heap.get? b=some ob->h'.get? b=some ob)->Q (.ref st.heap.objs.size) { st with heap:=h',toks:=tk }) :
  jh (jm pr wo) B (call (.type "set") [.ref l]) Q X0 st:=by
 refine U4 hh hl (λ i h=>(∀b o,st.heap.get? b=some o->h.get? b=some o)/\∃es ep t,h.get? st.heap.objs.size=some (J9 es ep t)/\Tb7 es t/\es.size=i/\(i<3->Few t.place)/\∀e∈es.toList,∃j b,j<i/\e.2=.ref b/\IsNest knd st.heap (ks.getD j []) b)
  ⟨λ b o e=>ae _ e,#[],0,SetTable.fresh 0 0 (Bk wo),ar _ rfl,⟨rfl,rfl,rfl,by decide⟩,rfl,λ_=>.inl rfl,λ e he=>nomatch he⟩ (λ i h h' ⟨a,es,ep,t,b,c⟩ k=>⟨λ x o e=>k x o (aN (ak e)) (a x o e),es,ep,t,k _ _ (ah _) b,c⟩) ?_ λ h' tk ⟨a,es,ep,t,b,c,d,_⟩ k=>h h' tk es ep t b c (by lia) k
 rintro i v s Q X li hi ⟨kp,es,ep,t,hS,tb,sz,fw,el⟩ q;obtain⟨a,rfl,ha⟩:=hv i v hi;have ha1:IsNest knd s.heap (ks.getD i []) a:=ha.kept λ b o e _=>kp b o e;unfold setAdd;refine jI (jc (C8 hu ha1 ?_));refine Tj (s:={ s with toks:=s.toks+Et (ks.getD i []) }) hu hS tb (fw (by lia)) ha1 (λ e he=>?_) (by lia) λ h' es' ep' t' sb hS2 tb' sz' fw' mem=>q true h' _ (eS _ _) sb ⟨λ b o e=>?_,es',ep',t',hS2,tb',by lia,λ l3=>fw' (by lia),λ e he=>?_⟩
 .obtain⟨j,b,lj,e1,e2⟩:=el e he;refine⟨b,_,e1,e2.kept λ b o e _=>kp b o e,?_⟩;have li':i<ks.length:=by lia
  have lj':j<ks.length:=by lia
  rw[aU,ag lj',aU,ag li'];exact bZ.mp nd j i lj' li' lj
 .rw[sb.2 b (aD (ak e))];exact kp b o e
 .rcases mem e he with z|rfl
  .obtain⟨j,b,lj,q⟩:=el e z;exact⟨j,b,by lia,q⟩
  .exact⟨i,a,br i,rfl,ha⟩
end
section
variable{X:Cx}{e:jB}{te:TE}{p1 p2 q1 q2:Pos}
noncomputable def NsAt(H:Hp):List (List (List Key))->LUz->Prop
 |[],[]=>True
 |k::ks,v::vs=>(∃b,v=.ref b/\NAt H b k)/\NsAt H ks vs
 |_,_=>False
theorem NsAt.get{H:Hp}:∀{ks:List (List (List Key))}{vs:LUz}{i:Nat}{v:V},NsAt H ks vs->vs[i]?=some v->∃b,v=.ref b/\NAt H b (ks.getD i [])
 |k::ks,v::vs,0,_,h,e=>by
  obtain rfl:=Option.some.inj e;exact h.1
 |k::ks,v::vs,i+1,_,h,e=>NsAt.get (ks:=ks) (vs:=vs) h.2 e
 |[],[],i,_,_,e=>nomatch e
 |[],_::_,_,_,h,_=>h.elim
 |_::_,[],_,_,h,_=>h.elim
theorem NsAt.len{H:Hp}:∀{ks:List (List (List Key))}{vs:LUz},NsAt H ks vs->vs.length=ks.length
 |_::_,_::_,h=>by rw[aL,aL,NsAt.len h.2]
 |[],[],_=>rfl
 |[],_::_,h=>h.elim
 |_::_,[],h=>h.elim
noncomputable def tLS(K:jw)(te:TE):TE:=λ σ H Q=>te σ H λ x H1=>∃(a:jd)(vs:LUz)(ks:List (List (List Key))),x=.ref a/\SqL K H1 a vs/\NsAt H1 ks vs/\ks.length<=3/\ks.Nodup/\Q (.int ks.length) H1
theorem Tz(hu:X.A.units+4<j5)(hc:X.calm=true)(hgo:Gl X "len")(hmo:X.mg "len"=none)(hgi:Gl X "set")(hmi:X.mg "set"=none)(he:PE X e te)
  (se:jv [e] X.env=[(false,eval e X.env)]:=by rfl)
  (so:jv [Expr.Call (.Name "set" p2) [e] [] q2] X.env=[(false,eval (Expr.Call (.Name "set" p2) [e] [] q2) X.env)]:=by rfl) :
  PE X (.Call (.Name "len" p1) [.Call (.Name "set" p2) [e] [] q2] [] q1) (tLS X.K te):=by
 intro iZ s σ H Q I h;refine jG (BS (u:=.builtin "len") I hgo hmo rfl ?_);refine PyProof.Rows.callWith_builtin1 (rest:=[]) ?_ so rfl;rw[so];refine Calls.spliced_cons (jG (BS (u:=.type "set") I hgi hmi rfl ?_));refine PyProof.Rows.callWith_type1 (rest:=[]) ?_ se rfl;rw[se];refine Calls.spliced_cons (thn (he iZ s σ H _ I h) λ u s1 z=>Calls.spliced_nil ?_);obtain⟨x,H1,I1,r1,a,vs,ks,rfl,hS,hN,h3,nd,q⟩:=z;cases r1;obtain⟨its,rv,pl,hz⟩:=I1.list hS;have hl:=rv.length;have hl2:=hN.len;have hd:=I1.ok.hd hc;refine WG (knd:=AA X.prog X.w) (ks:=ks) hd hu pl.isList (λ i v hv=>?_) (by rw[aj];lia) h3 nd λ h' tk es ep t g tb sz k=>?_
 .rw[dJ]at hv;obtain⟨hi,_⟩:=aF.mp hv;have hi':i<vs.length:=by lia
  obtain⟨u,hu',ru⟩:=rv.get (i:=i) (x:=vs[i]) (ag hi');rw[hv]at hu';obtain rfl:=Option.some.inj hu';obtain⟨b,eb,nb⟩:=hN.get (ag hi');rw[eb]at ru;cases ru;exact⟨b,rfl,Vg I1.hok nb⟩
 .have k3:∀b ob,s1.heap.get? b=some ob->h'.get? b=some ob:=λ b ob z=>k b ob (ak z) z;refine Calls.spliced_nil (call_len_set (s:={ s1 with heap:=h',toks:=tk }) g ⟨rfl,rfl,rfl⟩ rfl tb.fits (by lia) ?_);rw[sz];exact⟨.int ks.length,H1,I1.many k3 (λ b o e=>e) (λ b _ e=>e) (λ b o e1 e2=>nomatch e1.symm.trans e2),⟨_,rfl⟩,q⟩
end
end L2
namespace K42
open PySem.W
open PySem L2 GB
noncomputable abbrev lU:List Str:=["thing"]
noncomputable abbrev lV:List Str:=["_law_pane","_law_line"]
noncomputable abbrev lW:List Str:=["width","height"]
noncomputable abbrev lX:List Str:=["length"]
noncomputable abbrev lY:List Str:=["top","left","bottom","right","begin"]
noncomputable abbrev lZ:List Str:=["sheet","some"]
noncomputable abbrev l5:List Str:=["self","at","first","other"]
noncomputable abbrev l9:List Str:=["piece","word","at"]
noncomputable abbrev ma:List Str:=["_law_found","_law_due"]
noncomputable abbrev me:List Str:=["lines","length"]
noncomputable abbrev mf:List Str:=["by_lines","lines"]
noncomputable abbrev mh:List Str:=["strips","parts","thick"]
noncomputable abbrev mi:List Str:=["strips","size","lines","number"]
noncomputable abbrev mj:List Str:=["strips","panes","size","lines"]
noncomputable abbrev mm:List Str:=["self"]
noncomputable abbrev mq:List Str:=["self","mark"]
noncomputable abbrev mt:List Str:=["line","panes","side"]
noncomputable abbrev mw:List Str:=["strips","parts","thick","common","number"]
noncomputable abbrev mx:List Str:=["strips","panes","parts","thick","common"]
noncomputable abbrev my:List Str:=["panel"]
noncomputable abbrev mz:List Str:=["block","panes","side"]
noncomputable abbrev mB:List Str:=["_law_panes"]
noncomputable abbrev mC:List Str:=["panes","length","thick"]
noncomputable abbrev mD:List Str:=["one","other"]
noncomputable abbrev mE:List Str:=["rectangle"]
noncomputable abbrev mF:List Str:=["word","at","first","other"]
noncomputable abbrev mG:List Str:=["line","pane","side"]
noncomputable abbrev mH:List Str:=["self","side"]
noncomputable abbrev mI:List Str:=["_law_script","_law_k"]
noncomputable abbrev mJ:List Str:=["_law_number","_law_by"]
noncomputable abbrev mK:List Str:=["_law_pane"]
noncomputable abbrev mL:List Str:=["firsts","later","common","lines"]
noncomputable abbrev mM:List Str:=["longest"]
noncomputable abbrev mO:List Str:=["self","number"]
noncomputable abbrev mP:List Str:=["width","height","number"]
noncomputable abbrev mQ:List Str:=["_law_script","_law_at_here","_law_many"]
noncomputable abbrev mR:List Str:=["_law_script"]
noncomputable abbrev mS:List Str:=["panes","sheet"]
noncomputable abbrev mT:List Str:=["by_square","sheet"]
noncomputable abbrev mU:List Str:=["self","width","height","panes"]
noncomputable abbrev mV:List Str:=["block","some"]
noncomputable abbrev mW:List Str:=["pane","mark"]
noncomputable abbrev mX:List Str:=["sheet","entry_at"]
noncomputable abbrev mY:List Str:=["counts","columns","rows"]
noncomputable abbrev mZ:List Str:=["counts","width","height"]
noncomputable abbrev m5:List Str:=["by_lines","strips_by_lines"]
noncomputable abbrev m6:List Str:=["others","many","lines"]
noncomputable abbrev m7:List Str:=["strips","length","thick"]
noncomputable abbrev m8:List Str:=["strips","width","height","number"]
noncomputable abbrev ng:List Str:=["panes","begin","part"]
noncomputable abbrev nh:List Str:=["_law_cell","_law_many"]
noncomputable abbrev ni:List Str:=["_law_width","_law_height","_law_number"]
noncomputable def top(i:Nat):jE:=lS.main.body.getD i (.Pass ⟨0,0,0,0⟩)
noncomputable abbrev CN:jE:=Bq (top 3) 0
noncomputable abbrev Ci:jE:=Bq (top 10) 0
noncomputable abbrev EQ:jE:=top 14
noncomputable abbrev Ga:jE:=top 15
noncomputable abbrev C1:jE:=top 16
noncomputable abbrev Ia:jE:=top 17
noncomputable abbrev Dj:jE:=top 18
noncomputable abbrev CK:jE:=top 19
noncomputable abbrev CL:jE:=top 20
noncomputable abbrev BD:jE:=top 21
noncomputable abbrev Cg:jE:=top 22
noncomputable abbrev Dn:jE:=Bq (top 23) 0
noncomputable abbrev CM:jE:=Bq (top 23) 1
noncomputable abbrev CI:jE:=top 31
noncomputable abbrev C3:jE:=top 32
noncomputable abbrev Ce:jE:=top 33
noncomputable abbrev Ch:jE:=top 36
noncomputable abbrev Cy:jE:=top 37
noncomputable abbrev Cf:jE:=top 38
noncomputable abbrev B7:jE:=top 39
noncomputable abbrev Le:jE:=top 40
noncomputable abbrev Bw:jE:=Bq (top 46) 0
noncomputable abbrev C5:jE:=Bq (top 47) 0
noncomputable abbrev Do:jE:=Bq (top 48) 0
noncomputable abbrev ER:jE:=top 52
noncomputable abbrev DJ:jE:=top 53
noncomputable abbrev Dk:jE:=top 54
noncomputable abbrev CJ:jE:=top 55
noncomputable abbrev CH:jE:=top 56
noncomputable abbrev DM:jE:=top 70
noncomputable abbrev Bl:jE:=top 71
noncomputable abbrev FZ:jE:=top 76
noncomputable abbrev DN:jE:=top 78
noncomputable abbrev Cd:jE:=top 79
noncomputable abbrev DL:jE:=top 80
noncomputable abbrev Cc:jE:=top 81
noncomputable abbrev Cz:jE:=top 82
noncomputable abbrev BR:jE:=top 83
noncomputable abbrev Dl:jE:=top 84
noncomputable abbrev CG:jE:=top 85
noncomputable abbrev C0:jE:=top 86
noncomputable abbrev EK:jE:=top 87
noncomputable abbrev EM:jE:=top 88
noncomputable abbrev EN:jE:=top 89
noncomputable abbrev EO:jE:=top 90
noncomputable abbrev EL:jE:=top 91
noncomputable abbrev Bb:jE:=top 92
noncomputable abbrev B6:jE:=top 93
noncomputable abbrev DK:jE:=top 94
noncomputable abbrev Gb:jE:=top 96
noncomputable abbrev DP:jE:=top 97
noncomputable abbrev BE:jE:=top 98
noncomputable abbrev Dm:jE:=top 99
noncomputable abbrev AN:jE:=top 100
noncomputable abbrev C4:jE:=top 101
noncomputable abbrev DO:jE:=top 102
noncomputable abbrev B1:jE:=top 103
noncomputable abbrev CB:jE:=top 104
theorem nw{H:Hp}{c:jd}(o:HO)(n:H c=none):∃G,upd H c o=G/\Same H G/\G c=some o:=⟨_,rfl,Same.new n,Ae⟩
noncomputable def Di:V->Bool
 |.int _=>true
 |_=>false
noncomputable def Ma:V->Bool
 |.int i=>decide (1<=i)&&decide (i<=12)
 |_=>false
noncomputable def Kb:LUz->Bool
 |[.int a,.int b,.int c,.int d]=>decide (0<=a)&&decide (a<c)&&(decide (0<=b)&&decide (b<d))
 |_=>false
noncomputable def Ty(H:Hp)(v:V):Prop:=∃T,tyS H v=some T
theorem QM{H H':Hp}(s:Same H H'){v:V}{T:String}(h:tyS H v=some T):tyS H' v=some T:=by
 cases v with
 |ref a =>
  have h:tyO (H a)=some T:=h;show tyO (H' a)=some T;cases e:H a with
  |none=>rw[e]at h;cases h
  |some o=>rw[e]at h;rw[s a o e];exact h
 |_=>exact h
theorem Ty.same{H H':Hp}(s:Same H H'){v:V}(h:Ty H v):Ty H' v:=let ⟨T,e⟩:=h;⟨T,QM s e⟩
theorem LP{H:Hp}{v:V}{T:String}(h:tyS H v=some T):(isB T "int"=true->(!isB T "bool")=Di v)/\(isB T "int"=false->false=Di v):=by
 cases v with
 |non=>cases h;exact⟨λ z=>absurd z (by decide),λ_=>rfl⟩
 |bl b=>cases h;exact⟨λ_=>by show(!isB "bool" "bool")=false;decide,λ z=>absurd z (by decide)⟩
 |int i=>cases h;exact⟨λ_=>by show(!isB "int" "bool")=true;decide,λ z=>absurd z (by decide)⟩
 |str x=>cases h;exact⟨λ z=>absurd z (by decide),λ_=>rfl⟩
 |byt b=>cases h
 |flt b=>cases h
 |ty n=>cases h
 |ref a =>
  have key:T="list"\/T="tuple"\/T="dict":=by
   have h:tyO (H a)=some T:=h;unfold tyO at h;split at h<;>first|(cases h;simp)|cases h
  rcases key with rfl|rfl|rfl<;>exact⟨λ z=>absurd z (by decide),λ_=>rfl⟩
theorem UD{H:Hp}{a:jd}{xs:LUz}(h:H a=some (.tup xs)):tyS H (.ref a)=some "tuple":=by
 show tyO (H a)=some "tuple";rw[h];rfl
noncomputable abbrev D8(a b c d:Int):LUz:=[.int a,.int b,.int c,.int d]
noncomputable def TF(a0 a1 a2 a3 o0 o1 o2 o3:Int):Bool:=decide (o0<=a0)&&decide (o1<=a1)&&(decide (a2<=o2)&&decide (a3<=o3))
noncomputable def At(H:Hp)(ts:List (jd×Rc)):Prop:=∀t∈ts,H t.1=some (.tup (D8 t.2.t t.2.l t.2.b t.2.r))
theorem At.same{H H':Hp}{ts:List (jd×Rc)}(a:At H ts)(s:Same H H'):At H' ts:=λ t h=>s _ _ (a t h)
noncomputable abbrev A9{α:Type}(ts:List (jd×α)):LUz:=ts.map λ t=>V.ref t.1
noncomputable abbrev rcs(ts:List (jd×Rc)):List Rc:=ts.map (·.2)
theorem BF{α:Type}{ts:List (jd×α)}{i:Nat}{x:V}(h:(A9 ts)[i]?=some x):∃t,ts[i]?=some t/\x=.ref t.1:=by
 rw[aE]at h;cases e:ts[i]? with
 |none=>rw[e]at h;cases h
 |some t=>rw[e]at h;exact⟨t,rfl,(Option.some.inj h).symm⟩
noncomputable def IV(w h:Int)(ls ld:jd):LFz:=Bf "by_square" (.ref ld) (Bf "sorted_panes" (.ref ls) (Bf "height" (.int h) (Bf "width" (.int w) [])))
theorem Fg(w h:Int)(ls ld:jd):(IV w h ls ld).lookup ("width":jD)=some (.int w):=by
 unfold IV;rw[A5,jj (by decide +kernel),A5,jj (by decide +kernel),A5,jj (by decide +kernel),A5,jo rfl]
theorem Fh(w h:Int)(ls ld:jd):(IV w h ls ld).lookup ("height":jD)=some (.int h):=by
 unfold IV;rw[A5,jj (by decide +kernel),A5,jj (by decide +kernel),A5,jo rfl]
theorem Vw(w h:Int)(ls ld:jd):(IV w h ls ld).lookup ("sorted_panes":jD)=some (.ref ls):=by
 unfold IV;rw[A5,jj (by decide +kernel),A5,jo rfl]
theorem Ub(w h:Int)(ls ld:jd){m:jD}(h1:¬m="by_square")(h2:¬m="sorted_panes")(h3:¬m="height")(h4:¬m="width"):(IV w h ls ld).lookup m=none:=by
 unfold IV;rw[A5,jj h1,A5,jj h2,A5,jj h3,A5,jj h4];rfl
noncomputable abbrev sqK(r c:Int):List Key:=[Sum.inl r,Sum.inl c]
theorem Oi{r c r' c':Int}(h:sqK r c=sqK r' c'):r=r'/\c=c':=by
 injection h with h1 h2;injection h2 with h2 _;exact⟨Sum.inl.inj h1,Sum.inl.inj h2⟩
structure PanelAt(C:jd)(H:Hp)(a:jd)(w h:Int)(ts:List (jd×Rc))(dx ls ld:jd)(kvs:LKz):Prop where
 ob:H a=some (.ins C dx (IV w h ls ld))
 lst:H ls=some (.lst (A9 ts))
 dic:H ld=some (.dT kvs)
 ats:At H ts
 til:Tiles w h (rcs ts)
 few:ts.length<=52
 srt:Srt (rcs ts)
 look:∀r c,0<=r->r<h->0<=c->c<w->∃t∈ts,AS kvs (sqK r c)=some (.ref t.1)/\t.2.has r c
 sw:1<=w/\w<=12
 sh:1<=h/\h<=12
theorem PanelAt.same{C:jd}{H H':Hp}{a:jd}{w h:Int}{ts:List (jd×Rc)}{dx ls ld:jd}{kvs:LKz}(p:PanelAt C H a w h ts dx ls ld kvs)(s:Same H H'):PanelAt C H' a w h ts dx ls ld kvs :=
 ⟨s _ _ p.ob,s _ _ p.lst,s _ _ p.dic,p.ats.same s,p.til,p.few,p.srt,p.look,p.sw,p.sh⟩
noncomputable def DD:Sp:=λ vs H Q _=>∃v,vs=[v]/\Ty H v/\Q (.bl (Di v)) H
noncomputable def Ol:Sp:=λ vs H Q _=>∃v,vs=[v]/\Ty H v/\Q (.bl (Ma v)) H
noncomputable def On:Sp:=λ vs H Q _=>∃v,vs=[v]/\((∃a xs,v=.ref a/\H a=some (.tup xs)/\xs.length<=100/\(∀x∈xs,Ty H x)/\∀H',Same H H'->Q (.bl (Kb xs)) H')\/∃T,tyS H v=some T/\T≠"tuple"/\Q (.bl false) H)
noncomputable def FX:Sp:=λ vs H Q _=>∃a b a0 a1 a2 a3 o0 o1 o2 o3,vs=[.ref a,.ref b]/\H a=some (.tup (D8 a0 a1 a2 a3))/\H b=some (.tup (D8 o0 o1 o2 o3))/\Q (.bl (TF a0 a1 a2 a3 o0 o1 o2 o3)) H
inductive GM(vs:LUz)(H:Hp)(Q:VK)(E:XK):Prop
 |mk (a:jd) (p:Rc) (h0:vs=[.ref a]) (h1:H a=some (.tup (D8 p.t p.l p.b p.r))) (h2:0<=p.t) (h3:p.t<=p.b) (h4:p.b<=12) (h5:0<=p.l) (h6:p.l<=p.r) (h7:p.r<=12) (h8:∀(l:jd)(sq:List (jd×(Int×Int)))(H':Hp),Same H H'->H l=none->H' l=some (.lst (sq.map λ s=>V.ref s.1))->(∀s∈sq,H' s.1=some (.tup [.int s.2.1,.int s.2.2]))->sq.map (·.2)=sqs p->Q (.ref l) H'):GM vs H Q E
noncomputable def EE:Sp:=λ vs H Q E=>GM vs H Q E
inductive D5(vs:LUz)(H:Hp)(Q:VK)(E:XK):Prop
 |mk (w h:Int) (h0:vs=[.int w,.int h]) (h1:(1<=w/\w<=12)) (h2:(1<=h/\h<=12)) (h3:∀H',Same H H'->Q .non H'):D5 vs H Q E
noncomputable def DH:Sp:=λ vs H Q E=>D5 vs H Q E
inductive D6(K:jw)(vs:LUz)(H:Hp)(Q:VK)(E:XK):Prop
 |mk (l sh:jd) (w h:Int) (ts:List (jd×Rc)) (h0:vs=[.ref l,.ref sh]) (h1:SqL K H l (A9 ts)) (h2:At H ts) (h3:H sh=some (.tup (D8 0 0 h w))) (h4:(∀p∈rcs ts,p.In w h)) (h5:ts.length<=52) (h6:∀H',Same H H'->Q .non H'):D6 K vs H Q E
noncomputable def DI(K:jw) :Sp:=λ vs H Q E=>D6 K vs H Q E
inductive EB(K:jw)(vs:LUz)(H:Hp)(Q:VK)(E:XK):Prop
 |mk (l:jd) (w h:Int) (ts:List (jd×Rc)) (h0:vs=[.ref l]) (h1:SqL K H l (A9 ts)) (h2:At H ts) (h3:(∀p∈rcs ts,p.In w h)) (h4:(rcs ts).Pairwise Apart) (h5:ts.length<=52) (h6:w<=12) (h7:h<=12) (h8:∀(d:jd)(kvs:LKz)(H':Hp),Same H H'->H d=none->H' d=some (.dT kvs)->(∀t∈ts,∀r c,t.2.has r c->AS kvs (sqK r c)=some (.ref t.1))->Q (.ref d) H'):EB K vs H Q E
noncomputable def Fw(K:jw) :Sp:=λ vs H Q E=>EB K vs H Q E
inductive CD(vs:LUz)(H:Hp)(Q:VK)(E:XK):Prop
 |mk (d sh:jd) (w h:Int) (kvs:LKz) (h0:vs=[.ref d,.ref sh]) (h1:H d=some (.dT kvs)) (h2:H sh=some (.tup (D8 0 0 h w))) (h3:(1<=w/\w<=12)) (h4:(1<=h/\h<=12)) (h5:(∀r c,0<=r->r<h->0<=c->c<w->AS kvs (sqK r c)≠none)) (h6:∀H',Same H H'->Q .non H'):CD vs H Q E
noncomputable def CW:Sp:=λ vs H Q E=>CD vs H Q E
inductive KO(K:jw)(C:jd)(vs:LUz)(H:Hp)(Q:VK)(E:XK):Prop
 |mk (a dx l:jd) (w h:Int) (ts:List (jd×Rc)) (h0:vs=[.ref a,.int w,.int h,.ref l]) (h1:H a=some (.ins C dx [])) (h2:SqL K H l (A9 ts)) (h3:At H ts) (h4:Tiles w h (rcs ts)) (h5:ts.length<=52) (h6:(1<=w/\w<=12)) (h7:(1<=h/\h<=12)) (h8:∀(ts':List (jd×Rc))(ls ld:jd)(kvs:LKz)(H':Hp),SameX a H H'->ts'.Perm ts->PanelAt C H' a w h ts' dx ls ld kvs->Q .non H'):KO K C vs H Q E
noncomputable def LZ(K:jw)(C:jd) :Sp:=λ vs H Q E=>KO K C vs H Q E
inductive KF(C:jd)(vs:LUz)(H:Hp)(Q:VK)(E:XK):Prop
 |mk (a dx ls ld:jd) (w h:Int) (ts:List (jd×Rc)) (kvs:LKz) (h0:vs=[.ref a]) (h1:PanelAt C H a w h ts dx ls ld kvs) (h2:∀l,H l=none->Q (.ref l) (upd H l (.lst (A9 ts)))):KF C vs H Q E
noncomputable def Fv(C:jd) :Sp:=λ vs H Q E=>KF C vs H Q E
structure Txt(mg:MGz)(tk:kH×kH×kH×kH×kH×kH×kH×kH×kH):Prop where
 z_isinstance:mg "isinstance"=none
 z_int:mg "int"=none
 z_bool:mg "bool"=none
 z_tuple:mg "tuple"=none
 z_list:mg "list"=none
 z_len:mg "len"=none
 z_range:mg "range"=none
 z_all:mg "all"=none
 z_any:mg "any"=none
 z_sorted:mg "sorted"=none
 z_reversed:mg "reversed"=none
 z_max:mg "max"=none
 z_enumerate:mg "enumerate"=none
 z_sum:mg "sum"=none
 z_set:mg "set"=none
 z_abs:mg "abs"=none
 z_min:mg "min"=none
 iH:mg "LONGEST_SIDE"=some (.int 12 tk.1)
 iI:mg "MOST_PANES"=some (.int 52 tk.2.1)
 iy:mg "WHOLE"=some (.str "whole" tk.2.2.1)
 gv:mg "UPRIGHT_cuts"=some (.str "upright" tk.2.2.2.1)
 iz:mg "LEVEL_cuts"=some (.str "level" tk.2.2.2.2.1)
 iA:mg "TOP"=some (.int 0 tk.2.2.2.2.2.1)
 gC:mg "LEFT"=some (.int 1 tk.2.2.2.2.2.2.1)
 iB:mg "ROOM"=some (.str "room" tk.2.2.2.2.2.2.2.1)
 iJ:mg "LONGEST_COUNTED"=some (.int 4 tk.2.2.2.2.2.2.2.2)
structure QE(K:jw)(C:jd):Prop where
 cl:Cls K C
 n_width:NoAttr K C "width"
 n_height:NoAttr K C "height"
 n_sorted_panes:NoAttr K C "sorted_panes"
 n_by_square:NoAttr K C "by_square"
section
variable{P:jk}{w:ju}{K:jw}{mg:MGz}{ja:jy}{tk:kH×kH×kH×kH×kH×kH×kH×kH×kH}{cT cW cU cL C:jd}
noncomputable def nth(b:List jE)(i:Nat):jE:=b.getD i (.Pass ⟨0,0,0,0⟩)
noncomputable def L7:jE->List jE
 |.For _ _ b _ _=>b
 |_=>[]
theorem Mv{f:jd}{fd:jr}(F:Fun K "is_whole" "is_whole" EQ f fd)(T:Txt mg tk):A3 P w K mg ja CX0 1 f fd lU DD:=by
 have S:Ak lU lU (Ah EQ):=fsk;refine F.g S ?_;rintro vs H Q E ⟨v,rfl,⟨T',hT⟩,q⟩;refine⟨rfl,λ cdv A i6 s hr=>?_⟩;refine⟨_,(Af (Am (BG (AL BV T.z_isinstance (Aa Ai (Aj (Dq (v:=.ty "int") rfl T.z_int rfl rfl)))) (Ck (N6 (AL BV T.z_isinstance (Aa Ai (Aj (Dq (v:=.ty "bool") rfl T.z_bool rfl rfl))))))))),?_⟩;refine⟨v,rfl,v,T',"int",rfl,hT,.inl rfl,_,rfl,BA (λ h=>?_) (λ h=>?_)⟩
 .refine⟨v,rfl,v,T',"bool",rfl,hT,.inr (.inl rfl),_,rfl,?_⟩;rw[(LP hT).1 h];exact q
 .show Q (.bl false) H;rw[(LP hT).2 h];exact q
theorem NE{f:jd}{fd:jr}(F:Fun K "is_side" "is_side" Ga f fd)(T:Txt mg tk)(fZ:Aq P w K mg ja 1 "is_whole" lU DD):A3 P w K mg ja CX0 2 f fd lU Ol:=by
 have S:Ak lU lU (Ah Ga):=fsk;refine F.g S ?_;rintro vs H Q E ⟨v,rfl,hv,q⟩;refine⟨rfl,λ cdv A i6 s hr=>?_⟩;refine⟨_,(Af (Am (BG (Ao fZ hr (Aj Ai)) (Ck (F6 Co Co Ac Ai (AF (v:=.int 12) rfl T.iH ⟨_,rfl⟩)))))),?_⟩;refine⟨v,rfl,v,rfl,hv,_,rfl,BA (λ h=>?_) (λ h=>?_)⟩
 .obtain⟨i,rfl⟩:∃i,v=.int i:=by cases v<;>first|exact⟨_,rfl⟩|cases h
  refine⟨_,rfl,_,_,rfl,rfl,_,rfl,BA (λ h1=>?_) (λ h1=>?_)⟩
  .refine⟨_,_,rfl,rfl,?_⟩;have e:Ma (.int i)=decide (i<=12):=by
    show(decide (1<=i)&&decide (i<=12))=_;rw[h1];rfl
   show Q (.bl (decide (i<=12))) H;rw[<-e];exact q
  .have e:Ma (.int i)=false:=by
    show(decide (1<=i)&&decide (i<=12))=_;rw[h1];rfl
   show Q (.bl false) H;rw[<-e];exact q
 .have e:Ma v=false:=by cases v<;>first|rfl|cases h
  show Q (.bl false) H;rw[<-e];exact q
theorem at0{x0 x1 x2 x3:V}:atI [x0,x1,x2,x3] 0=some x0:=rfl
theorem at1{x0 x1 x2 x3:V}:atI [x0,x1,x2,x3] 1=some x1:=rfl
theorem at2{x0 x1 x2 x3:V}:atI [x0,x1,x2,x3] 2=some x2:=rfl
theorem at3{x0 x1 x2 x3:V}:atI [x0,x1,x2,x3] 3=some x3:=rfl
theorem TZ:∀{xs:LUz},xs.length=4->(xs.map Di).all id=true->∃a b c d,xs=D8 a b c d
 |[x0,x1,x2,x3],_,h=>by
  simp only[aJ,b9,dY,List.all_nil,id,dZ,ax]at h;obtain⟨h0,h1,h2,h3⟩:=h;have g:∀{x:V},Di x=true->∃i,x=.int i:=λ{x} h=>by cases x<;>first|exact⟨_,rfl⟩|cases h
  obtain⟨a,rfl⟩:=g h0;obtain⟨b,rfl⟩:=g h1;obtain⟨c,rfl⟩:=g h2;obtain⟨d,rfl⟩:=g h3;exact⟨a,b,c,d,rfl⟩
theorem Oy{xs:LUz}(h:∀a b c d,xs≠D8 a b c d):Kb xs=false:=by
 unfold Kb;split
 .exact absurd rfl (h _ _ _ _)
 .rfl
theorem X5{n:Nat}:(!decide (V.int (n:Int)=V.int 4))=true->n≠4:=λ h e=>by
 subst e;have:decide (V.int ((4:Nat):Int)=V.int 4)=true:=decI.mpr rfl;rw[this]at h;cases h
theorem WE{n:Nat}:(!decide (V.int (n:Int)=V.int 4))=false->n=4:=λ h=>by
 have e:decide (V.int (n:Int)=V.int 4)=true:=by
  cases z:decide (V.int (n:Int)=V.int 4) with
  |true=>rfl
  |false=>rw[z]at h;cases h
 have:=decI.mp e;lia
theorem P6{xs:LUz}{i:Nat}{x:V}(h:xs[i]?=some x){f:V->V}:(xs.take i).map f++[f x]=(xs.take (i+1)).map f:=by
 rw[aS,h,ai];rfl
theorem Ha{f:jd}{fd:jr}(F:Fun K "is_rectangle" "is_rectangle" C1 f fd)(T:Txt mg tk)(fZ:Aq P w K mg ja 1 "is_whole" lU DD):A3 P w K mg ja CX0 2 f fd lU On:=by
 have S:Ak lU lU (Ah C1):=fsk;refine F.g S ?_;rintro vs H Q E ⟨v,rfl,h⟩;refine⟨rfl,λ cdv A i6 s hr=>?_⟩;refine⟨_,(Ab (AK (PW.pt (F1 (Br (Bg (AL BV T.z_isinstance (Aa Ai (Aj (Dq (v:=.ty "tuple") rfl T.z_tuple rfl rfl)))))) (DR (A4 Mn (AL AV T.z_len (Aj Ai)) Ac)))) (Af (Am E5)) A1)
  (Ab (AK (Br (Bg (AL S1 T.z_all (Aj (Bi rfl (N3 Ai) (λ_ _ _ _ _=>pgk (nk ["part"])) (λ_ _ _ _ _=>(Ao fZ hr (Aj Ai))) (N:=["part"]) (fr:=[none])))))) (Af (Am E5)) A1)
  (Af (Am (BG (F6 Co D4 Ac (Ax Aw Ai Ac) (Ax Aw Ai Ac)) (Ck (F6 Co D4 Ac (Ax Aw Ai Ac) (Ax Aw Ai Ac)))))))),?_⟩
 rcases h with ⟨a,xs,rfl,ha,hlen,hx,q⟩|⟨T',hT,hne,q⟩
 .refine⟨_,rfl,_,"tuple","tuple",rfl,UD ha,.inr (.inr (.inl rfl)),_,rfl,Bt (by rw[Vq];rfl) ?_⟩;refine⟨_,rfl,a,xs,rfl,.inr (SqT.of ha),rfl,_,rfl,BA (λ h=>?_) (λ h=>?_)⟩
  .have e:Kb xs=false:=Oy λ a b c d z=>X5 h (by rw[z];rfl);show Q (.bl false) H;rw[<-e];exact q H (Same.refl H)
  .have h4:=WE h;refine⟨_,rfl,a,rfl,⟨xs,SqT.of ha⟩,λ acc jb=>Sz (K:=K) (a:=a) (ys:=xs) (λ i zs σ H'=>(∃y,σ=[y])/\Same H H'/\zs=(xs.take i).map λ x=>V.bl (Di x)) ⟨⟨none,rfl⟩,Same.new jb,rfl⟩
    (λ i zs σ H' _ _ hp=>SqT.of (hp.2.1 _ _ ha)) ?_ ?_⟩
   .rintro i x zs σ H' hxi hi hl jb' ⟨⟨y,rfl⟩,hs,hzs⟩;refine⟨x,rfl,x,rfl,(hx x (aA hxi)).same hs,cNx.mk (aN (An (by lia))) hi hl jb' ⟨⟨_,rfl⟩,λ b o e=>?_,?_⟩⟩
    .rw[Ad (Ag e jb)];exact hs b o e
    .rw[hzs];exact P6 (f:=λ x=>V.bl (Di x)) hxi
   .rintro zs σ H' hl jb' ⟨_,hs,hzs⟩;refine⟨acc,xs.map Di,rfl,SqL.of (by rw[jb',hzs,aM,aB];rfl),rfl,_,rfl,BA (λ h=>?_) (λ h=>?_)⟩
    .have e:Kb xs=false:=Oy λ a b c d z=>by subst z;cases h
     show Q (.bl false) H';rw[<-e];exact q H' hs
    .obtain⟨a0,a1,a2,a3,rfl⟩:=TZ h4 (by simpa using h);have ha':=hs _ _ ha;have key:Q (.bl (decide (0<=a0)&&decide (a0<a2)&&(decide (0<=a1)&&decide (a1<a3)))) H':=q H' hs;refine⟨_,rfl,a,_,_,_,rfl,rfl,SqT.of ha',at0,_,_,rfl,rfl,_,rfl,BA (λ h1=>?_) (λ h1=>?_)⟩
     .refine⟨_,rfl,a,_,_,_,rfl,rfl,SqT.of ha',at2,_,_,rfl,rfl,_,rfl,BA (λ h2=>?_) (λ h2=>?_)⟩
      .refine⟨_,rfl,a,_,_,_,rfl,rfl,SqT.of ha',at1,_,_,rfl,rfl,_,rfl,BA (λ h3=>?_) (λ h3=>?_)⟩
       .refine⟨_,rfl,a,_,_,_,rfl,rfl,SqT.of ha',at3,_,_,rfl,rfl,?_⟩;rw[h1,h2,h3]at key;exact key
       .show Q (.bl false) H';rw[h1,h2,h3]at key;exact key
      .show Q (.bl false) H';rw[h1,h2]at key;exact key
     .refine⟨_,rfl,Sa ?_⟩;show Q (.bl false) H';rw[h1]at key;exact key
 .refine⟨_,rfl,_,T',"tuple",rfl,hT,.inr (.inr (.inl rfl)),_,rfl,Cn ?_ (NN q)⟩;have e:isB T' "tuple"=false:=by
   unfold isB;rw[js hne];simp
  rw[e];rfl
theorem Qc{f:jd}{fd:jr}(F:Fun K "inside" "inside" Ia f fd):A3 P w K mg ja CX0 1 f fd mD FX:=by
 have S:Ak ["one","other","starts_within"] mD (Ah Ia):=fsk;refine F.g S ?_;rintro vs H Q E ⟨a,b,a0,a1,a2,a3,o0,o1,o2,o3,rfl,ha,hb,q⟩;refine⟨rfl,λ cdv A i6 s hr=>?_⟩;refine⟨_,(Ab (Av 2 S.nd (BG (By Co (Ax Aw Al Ac) (Ax Aw Ai Ac)) (Ck (By Co (Ax Aw Al Ac) (Ax Aw Ai Ac)))))
  (Af (Am (BG Ar (BG (By Co (Ax Aw Ai Ac) (Ax Aw Al Ac)) (Ck (By Co (Ax Aw Ai Ac) (Ax Aw Al Ac)))))))),?_⟩
 have key:Q (.bl (decide (o0<=a0)&&decide (o1<=a1)&&(decide (a2<=o2)&&decide (a3<=o3)))) H:=q;refine⟨_,rfl,b,_,_,_,rfl,rfl,SqT.of hb,at0,_,rfl,a,_,_,_,rfl,rfl,SqT.of ha,at0,_,_,rfl,rfl,_,rfl,BA (λ h1=>?_) (λ h1=>?_)⟩
 .refine⟨_,rfl,b,_,_,_,rfl,rfl,SqT.of hb,at1,_,rfl,a,_,_,_,rfl,rfl,SqT.of ha,at1,_,_,rfl,rfl,?_⟩;refine⟨_,rfl,_,rfl,BA (λ h2=>?_) (λ h2=>?_)⟩
  .refine⟨_,rfl,a,_,_,_,rfl,rfl,SqT.of ha,at2,_,rfl,b,_,_,_,rfl,rfl,SqT.of hb,at2,_,_,rfl,rfl,_,rfl,BA (λ h3=>?_) (λ h3=>?_)⟩
   .refine⟨_,rfl,a,_,_,_,rfl,rfl,SqT.of ha,at3,_,rfl,b,_,_,_,rfl,rfl,SqT.of hb,at3,_,_,rfl,rfl,?_⟩;rw[h1,h2,h3]at key;exact key
   .show Q (.bl false) H;rw[h1,h2,h3]at key;exact key
  .show Q (.bl false) H;rw[h1,h2]at key;exact key
 .refine⟨_,rfl,_,rfl,Sa ?_⟩;show Q (.bl false) H;rw[h1]at key;exact key
theorem VB{L:LUz}{i:Int}(h0:0<=i)(h1:i<L.length):∃v,atI L i=some v/\v∈L:=by
 have h:i.toNat<L.length:=by lia
 have e:=LK (ag h);rw[bF h0]at e;exact⟨_,e,bL h⟩
theorem RI{i m:Nat}(h1:i<=12)(h2:m<=12):i*m<=144:=dQ h1 h2
theorem JB{f:jd}{fd:jr}(F:Fun K "squares_of" "squares_of" Dj f fd)(T:Txt mg tk):A3 P w K mg ja CX0 1 f fd mE EE:=by
 have S:Ak ["rectangle","squares","row","column"] mE (Ah Dj):=fsk;refine F.g S ?_;rintro vs H Q E ⟨a,p,rfl,ha,g1,g2,g3,g4,g5,g6,q⟩;refine⟨rfl,λ cdv A i6 s hr=>?_⟩;refine⟨_,(Ab (Av 1 S.nd (B8 EX))
  (Ab (AE PassesOwn.never rfl (Bm rfl T.z_range (Aa (Ax Aw Ai Ac) (Aj (Ax Aw Ai Ac)))) (AW 2 S.nd) (Af (AE PassesOwn.never rfl (Bm rfl T.z_range (Aa (Ax Aw Ai Ac) (Aj (Ax Aw Ai Ac)))) (AW 3 S.nd) (Af (Bh (EW Al (Aj (AB (Aa Ar (Aj Az))))))))))
  (Af (Am Al)))),?_⟩
 refine⟨A8 0,λ l hl=>?_⟩;have ha0:(upd H l (.lst [])) a=some (.tup (D8 p.t p.l p.b p.r)):=Same.new hl _ _ ha;refine⟨_,rfl,a,_,_,_,rfl,rfl,SqT.of ha0,at0,_,rfl,a,_,_,_,rfl,rfl,SqT.of ha0,at2,p.t,p.b,rfl,⟨by lia,by lia,by lia,by lia⟩,
  AT (lo:=p.t) (n:=(p.b-p.t).toNat) (λ i σ H'=>∃x y,∃sq:List (jd×(Int×Int)),σ=[some (.ref a),some (.ref l),x,y]/\Same H H'/\H' l=some (.lst (sq.map λ s=>V.ref s.1))/\(∀s∈sq,H' s.1=some (.tup [.int s.2.1,.int s.2.2]))/\sq.map (·.2)=GU p i)
   ⟨none,none,[],rfl,Same.new hl,Ae,λ s hs=>(nomatch hs),rfl⟩ ?_ ?_⟩
 .rintro i σ H' hi ⟨x,y,sq,rfl,hs,hlst,hsq,hmap⟩;have ha':=hs _ _ ha;refine⟨_,rfl,a,_,_,_,rfl,rfl,SqT.of ha',at1,_,rfl,a,_,_,_,rfl,rfl,SqT.of ha',at3,p.l,p.r,rfl,⟨by lia,by lia,by lia,by lia⟩,
   AT (lo:=p.l) (n:=(p.r-p.l).toNat) (λ j σ H2=>∃y,∃sq:List (jd×(Int×Int)),σ=[some (.ref a),some (.ref l),some (.int (p.t+i)),y]/\Same H H2/\H2 l=some (.lst (sq.map λ s=>V.ref s.1))/\(∀s∈sq,H2 s.1=some (.tup [.int s.2.1,.int s.2.2]))/\sq.map (·.2)=GU p i++D2 p i j)
    ⟨y,sq,rfl,hs,hlst,hsq,by rw[hmap];simp[D2]⟩ ?_ ?_⟩
  .rintro j σ H2 hj ⟨y,sq,rfl,hs2,hl2,hq2,hm2⟩;refine⟨_,rfl,.inl ⟨rfl,_,SqL.of hl2⟩,_,rfl,_,rfl,A8 2,λ t ht=>?_⟩;have nlt:l≠t:=Ag hl2 ht;have hlen:sq.length<=288:=by
    have e:=congrArg List.length hm2;rw[aa,aH,HP,D2,aa,eA]at e;have:=RI (i:=i) (m:=(p.r-p.l).toNat) (by lia) (by lia);lia
   refine⟨l,_,_,rfl,rfl,by rw[Ad nlt];exact hl2,An (by rw[aa];lia),?_⟩;refine⟨_,sq++[(t,(p.t+(i:Int),p.l+(j:Int)))],rfl,λ b o e=>?_,?_,λ z hz=>?_,?_⟩
   .rw[Ad (Ag e hl),Ad (Ag (hs2 _ _ e) ht)];exact hs2 b o e
   .rw[Ae,ai];rfl
   .rcases az.mp hz with hz|hz
    .have e:=hq2 z hz;have n1:z.1≠l:=Bp e hl2 (by intro q;cases q);rw[Ad n1,Ad (Ag e ht)];exact e
    .rw[af.mp hz,Ad (Ne.symm nlt)];exact Ae
   .rw[ai,hm2,aZ,Nz];rfl
  .rintro σ H2 ⟨y,sq,rfl,hs2,hl2,hq2,hm2⟩;exact⟨_,_,sq,rfl,hs2,hl2,hq2,hm2⟩
 .rintro σ H2 ⟨x,y,sq,rfl,hs2,hl2,hq2,hm2⟩;exact⟨_,rfl,q l sq H2 hs2 hl hl2 hq2 hm2⟩
theorem Tg{x:Int}(h:1<=x/\x<=12):Ma (.int x)=true:=by
 show(decide (1<=x)&&decide (x<=12))=true;rw[jn h.1,jn h.2];rfl
theorem I0{f:jd}{fd:jr}(F:Fun K "check_sides" "check_sides" CK f fd)(gG:Aq P w K mg ja 2 "is_side" lU Ol):A3 P w K mg ja CX0 3 f fd lW DH:=by
 have S:Ak ["width","height","side"] lW (Ah CK):=fsk;refine F.g S ?_;rintro vs H Q E ⟨w,h,rfl,gw,gh,q⟩;refine⟨rfl,λ cdv A i6 s hr=>?_⟩;refine⟨_,(Af (AE PassesOwn.never rfl (N3 (AB (Aa Ai (Aj Al)))) (AW 2 S.nd) (Af (AK (Br (Bg (Ao gG hr (Aj Ar)))) (Af CY) A1)))),?_⟩;refine⟨_,rfl,_,rfl,A8 2,λ t ht=>⟨t,rfl,⟨_,SqT.of Ae⟩,OU (K:=K) (a:=t) (xs:=[.int w,.int h]) (λ i σ H'=>(∃y,σ=[some (.int w),some (.int h),y])/\H'=upd H t (.tup [.int w,.int h])) ⟨⟨none,rfl⟩,rfl⟩ (λ i σ H' _ hp=>by rw[hp.2];exact SqT.of Ae) ?_ ?_⟩⟩
 .rintro i x σ H' hx ⟨⟨y,rfl⟩,rfl⟩;obtain⟨z,rfl,hz⟩:∃z,x=.int z/\(1<=z/\z<=12):=by
   have:=aA hx;simp only[aO,bi,or_false]at this;rcases this with rfl|rfl
   .exact⟨_,rfl,gw⟩
   .exact⟨_,rfl,gh⟩
  refine⟨_,rfl,.int z,rfl,⟨"int",rfl⟩,_,rfl,Bt (by rw[Tg hz];rfl) ?_⟩;exact⟨⟨_,rfl⟩,rfl⟩
 .rintro σ H' ⟨⟨y,rfl⟩,rfl⟩;exact q _ (Same.new ht)
theorem TJ{p:Rc}{w h:Int}(i:p.In w h):Kb (D8 p.t p.l p.b p.r)=true:=by
 obtain⟨a1,a2,a3,a4,a5,a6⟩:=i;show(decide (0<=p.t)&&decide (p.t<p.b)&&(decide (0<=p.l)&&decide (p.l<p.r)))=true;rw[jn a1,jn a2,jn a4,jn a5];rfl
theorem Vr{p:Rc}{w h:Int}(i:p.In w h):TF p.t p.l p.b p.r 0 0 h w=true:=by
 obtain⟨a1,a2,a3,a4,a5,a6⟩:=i;show(decide (0<=p.t)&&decide (0<=p.l)&&(decide (p.b<=h)&&decide (p.r<=w)))=true;rw[jn a1,jn a4,jn a3,jn a6];rfl
theorem TY{H:Hp}{a b c d:Int}:∀x∈D8 a b c d,Ty H x:=λ x hx=>by
 simp only[aO,bi,or_false]at hx;rcases hx with rfl|rfl|rfl|rfl<;>exact⟨"int",rfl⟩
theorem I8{f:jd}{fd:jr}(F:Fun K "check_panes" "check_panes" CL f fd)(T:Txt mg tk)(gH:Aq P w K mg ja 2 "is_rectangle" lU On)(gj:Aq P w K mg ja 1 "inside" mD FX) :
  A3 P w K mg ja CX0 3 f fd mS (DI K):=by
 have S:Ak ["panes","sheet","place","pane"] mS (Ah CL):=fsk;refine F.g S ?_;rintro vs H Q E ⟨l,sh,w,h,ts,rfl,hl,hat,hsh,hin,hlen,q⟩;refine⟨rfl,λ cdv A i6 s hr=>?_⟩;refine⟨_,(Ab (AK (A4 R7 (AL AV T.z_len (Aj Ai)) (AF (v:=.int 52) rfl T.iI ⟨_,rfl⟩)) (Af CY) A1)
  (Af (AE PassesOwn.never rfl (Hk rfl T.z_enumerate (Aj Ai)) (CO rfl (A2 (AW 2 S.nd) (A2 (AW 3 S.nd) Bx))) (Af (AK (PW.pt (F1 (Br (Bg (Ao gH hr (Aj Az)))) (DR (Br (Bg (Ao gj hr (Aa Az (Aj Al)))))))) (Af CY) A1))))),?_⟩
 refine⟨_,rfl,l,_,rfl,.inl hl,_,_,rfl,rfl,_,rfl,Bt (js (by rw[aa];lia)) ?_⟩;refine⟨_,rfl,l,rfl,⟨_,hl⟩,FF (K:=K) (a:=l) (xs:=A9 ts) (λ i σ H'=>(∃x y,σ=[some (.ref l),some (.ref sh),x,y])/\Same H H') ⟨⟨none,none,rfl⟩,Same.refl H⟩ (λ i σ H' _ hp=>hp.2.seq hl) ?_ ?_⟩
 .rintro i x σ H' t hx ⟨⟨x0,y0,rfl⟩,hs⟩ ht;obtain⟨u,hu,rfl⟩:=BF hx;have hum:=aA hu;have hsT:=Same.new (o:=.tup [.int i,.ref u.1]) ht;have s1:=hs.trans hsT;have hui:=hin u.2 (ao.mpr ⟨u,hum,rfl⟩);have hua:=s1 _ _ (hat u hum);refine⟨t,_,rfl,SqT.of Ae,rfl,_,_,rfl,_,_,rfl,rfl,?_⟩;refine⟨_,rfl,_,rfl,.inl ⟨u.1,_,rfl,hua,(by show(4:Nat)<=100;decide),TY,λ H2 s2=>⟨_,rfl,Bt (by rw[TJ hui];rfl) ?_⟩⟩⟩;refine⟨_,rfl,_,rfl,u.1,sh,_,_,_,_,_,_,_,_,rfl,s2 _ _ hua,s2 _ _ (s1 _ _ hsh),_,rfl,Bt (by rw[Vr hui];rfl) ?_⟩;exact⟨⟨_,_,rfl⟩,s1.trans s2⟩
 .rintro σ H' ⟨⟨x0,y0,rfl⟩,hs⟩;exact q H' hs
theorem Bn{α:Type}{xs:List α}{i:Nat}{u x:α}(h:xs[i]?=some u):x∈xs.take (i+1)↔x∈xs.take i\/x=u:=by
 rw[aS,h,az];simp
theorem Jn{ts:List (jd×Rc)}(hd:(rcs ts).Pairwise Apart){i:Nat}{u t:jd×Rc}(h:ts[i]?=some u)(ht:t∈ts.take i):Apart t.2 u.2:=by
 obtain⟨j,hj,rfl⟩:=List.getElem_of_mem ht;obtain⟨hi,rfl⟩:=aF.mp h;rw[bZ]at hd;have hj':j<i:=by rw[cm]at hj;lia
 have:=hd j i (by rw[aa];lia) (by rw[aa];exact hi) hj'
 simpa using this
theorem NH{α β:Type}{xs:List α}{f:α->β}(hn:(xs.map f).Nodup){j:Nat}{s:α}(h:xs[j]?=some s):f s∉(xs.take j).map f:=λ hm=>by
 obtain⟨hj,rfl⟩:=aF.mp h;obtain⟨y,hy,e⟩:=ao.mp hm;obtain⟨k,hk,rfl⟩:=List.getElem_of_mem hy;have hk':k<j:=by rw[cm]at hk;lia
 rw[fq,bZ]at hn;exact hn k j (by rw[aa];lia) (by rw[aa];exact hj) hk' (by simpa using e)
theorem QV{sq:List (jd×(Int×Int))}{i:Nat}{x:V}(h:(sq.map λ s=>V.ref s.1)[i]?=some x):∃t,sq[i]?=some t/\x=.ref t.1:=by
 rw[aE]at h;cases e:sq[i]? with
 |none=>rw[e]at h;cases h
 |some t=>rw[e]at h;exact⟨t,rfl,(Option.some.inj h).symm⟩
theorem Tb{p:Rc}{w h:Int}(i:p.In w h)(b1:w<=12)(b2:h<=12):(sqs p).length<=144:=by
 obtain⟨a1,a2,a3,a4,a5,a6⟩:=i;unfold sqs;rw[HP];exact RI (by lia) (by lia)
theorem EZ{f:jd}{fd:jr}(F:Fun K "panes_by_square" "panes_by_square" BD f fd)(T:Txt mg tk)(gk:Aq P w K mg ja 1 "squares_of" mE EE):A3 P w K mg ja CX0 2 f fd ["panes"] (Fw K):=by
 have S:Ak ["panes","by_square","place","pane","square"] ["panes"] (Ah BD):=fsk;refine F.g S ?_;rintro vs H Q E ⟨l,w,h,ts,rfl,hl,hat,hin,hap,hlen,bw,bh,q⟩;refine⟨rfl,λ cdv A i6 s hr=>?_⟩;have hu:=Ea hr;refine⟨_,(Ab (Av 1 S.nd Ip)
  (Ab (AE PassesOwn.never rfl (Hk rfl T.z_enumerate (Aj Ai)) (CO rfl (A2 (AW 2 S.nd) (A2 (AW 3 S.nd) Bx))) (Af (AE PassesOwn.never rfl (A6 (Ao gk hr (Aj Az))) (AW 4 S.nd) (Ab (AK (Rs (Vb hu AG Al)) (Af CY) A1)
  (Af (Er hu Al AG Az rfl))))))
  (Af (Am Al)))),?_⟩
 intro d hd;refine⟨_,rfl,l,rfl,⟨_,(Same.new hd).seq hl⟩,FF (K:=K) (a:=l) (xs:=A9 ts) (λ i σ H'=>(∃x y z,σ=[some (.ref l),some (.ref d),x,y,z])/\Same H H'/\∃kvs,H' d=some (.dT kvs)/\kvs.length<=144*i /\
   (∀t∈ts.take i,∀r c,t.2.has r c->AS kvs (sqK r c)=some (.ref t.1))/\∀r c v,AS kvs (sqK r c)=some v->∃t∈ts.take i,t.2.has r c)
  ⟨⟨none,none,none,rfl⟩,Same.new hd,[],Ae,aP _,λ t ht=>(nomatch ht),λ r c v e=>by cases e⟩ (λ i σ H' _ hp=>hp.2.1.seq hl) ?_ ?_⟩
 .rintro i x σ H' tt hx ⟨⟨x0,y0,z0,rfl⟩,hs,kvs,hk,hkl,ha1,ha2⟩ htt;obtain⟨u,hu',rfl⟩:=BF hx;have hum:=aA hu';have hi:i<ts.length:=(aF.mp hu').1;have s1:=hs.trans (Same.new (o:=.tup [.int i,.ref u.1]) htt);have hui:=hin u.2 (ao.mpr ⟨u,hum,rfl⟩);obtain⟨c1,c2,c3,c4,c5,c6⟩:=id hui;have hua:=s1 _ _ (hat u hum);have hk1:(upd H' tt (.tup [.int i,.ref u.1])) d=some (.dT kvs):=Same.new htt _ _ hk;refine⟨tt,_,rfl,SqT.of Ae,rfl,_,_,rfl,_,_,rfl,rfl,?_⟩;refine⟨_,rfl,u.1,u.2,rfl,hua,c1,by lia,by lia,c4,by lia,by lia,λ l2 sq H2 s2 n2 hl2 hsq hmap=>⟨l2,rfl,⟨_,SqL.of hl2⟩,?_⟩⟩;have hk2:=s2 _ _ hk1;have nl2:l2≠d:=Bp hl2 hk2 (by intro z;cases z);have sql:sq.length<=144:=by
   have:=Tb hui bw bh;rw[<-hmap,aa]at this;exact this
  have nd:=HN (p:=u.2) (by lia) (u.2.b-u.2.t).toNat;have nd':(sq.map (·.2)).Nodup:=by rw[hmap];exact nd
  refine Bu (K:=K) (a:=l2) (xs:=sq.map λ s=>V.ref s.1) (λ j σ H3=>(∃z,σ=[some (.ref l),some (.ref d),some (.int i),some (.ref u.1),z])/\SameX d H2 H3/\∃kvs,H3 d=some (.dT kvs)/\kvs.length<=144*i+j /\
    (∀t∈ts.take i,∀r c,t.2.has r c->AS kvs (sqK r c)=some (.ref t.1))/\(∀z∈sq.take j,AS kvs (sqK z.2.1 z.2.2)=some (.ref u.1)) /\
    ∀r c v,AS kvs (sqK r c)=some v->(∃t∈ts.take i,t.2.has r c)\/(r,c)∈(sq.take j).map (λ y:jd×(Int×Int)=>y.2))
   ⟨⟨_,rfl⟩,SameX.refl,kvs,hk2,by lia,ha1,λ z hz=>(nomatch hz),λ r c v e=>.inl (ha2 r c v e)⟩ (λ j σ H3 _ hp=>SqL.of (hp.2.1 _ _ nl2 hl2)) ?_ ?_
  .rintro j y σ H3 hy ⟨⟨z0,rfl⟩,s3,kv,hk3,hkl3,b1,b2,b3⟩;obtain⟨z,hz,rfl⟩:=QV hy;have hzm:=aA hz;have hj:j<sq.length:=(aF.mp hz).1;have hz2:=hsq z hzm;have nz:z.1≠d:=Bp hz2 hk2 (by intro q;cases q);have hz3:=s3 _ _ nz hz2;have hin2:u.2.has z.2.1 z.2.2:=(Ho (by lia) (by lia)).mp (by rw[<-hmap];exact ao.mpr ⟨z,hzm,rfl⟩);have hno:AS kv (sqK z.2.1 z.2.2)=none:=by
    cases e:AS kv (sqK z.2.1 z.2.2) with
    |none=>rfl
    |some v =>
     rcases b3 _ _ v e with ⟨t,ht,hh⟩|hm
     .exact(Jn hap hu' ht _ _ hh hin2).elim
     .exact absurd hm (NH nd' hz)
   have dg:=DGet.t (k:=sqK z.2.1 z.2.2) hk3 hz3;rw[hno]at dg;refine⟨_,rfl,_,rfl,d,_,rfl,dg,_,rfl,Sa ?_⟩;refine⟨_,rfl,_,rfl,_,rfl,d,_,rfl,DPut.t (k:=sqK z.2.1 z.2.2) hk3 hz3 (cK (m:=20000) (by lia) (by rw[jC];decide)),?_⟩;refine⟨⟨_,rfl⟩,s3.trans SameX.upd,_,Ae,?_,λ t ht r c hh=>?_,λ y hy=>?_,λ r c v e=>?_⟩
   .have:=Ca kv (sqK z.2.1 z.2.2) (V.ref u.1);lia
   .rw[CT,jj,b1 t ht r c hh];intro e;obtain⟨e1,e2⟩:=Oi e;exact Jn hap hu' ht _ _ (by rw[<-e1,<-e2];exact hh) hin2
   .rw[CT];rcases(Bn hz).mp hy with hy|rfl
    .split
     .rfl
     .exact b2 y hy
    .rw[jo rfl]
   .rw[CT]at e;split at e
    .rename_i e2;obtain⟨e3,e4⟩:=Oi e2;exact .inr (ao.mpr ⟨z,(Bn hz).mpr (.inr rfl),by rw[e3,e4]⟩)
    .rcases b3 r c v e with h1|h1
     .exact .inl h1
     .obtain⟨y,hy,e2⟩:=ao.mp h1;exact .inr (ao.mpr ⟨y,(Bn hz).mpr (.inl hy),e2⟩)
  .rintro σ H3 ⟨⟨z0,rfl⟩,s3,kv,hk3,hkl3,b1,b2,b3⟩;rw[aa]at hkl3 b2 b3;rw[aM]at b2 b3;refine⟨⟨_,_,_,rfl⟩,λ b o e=>?_,kv,hk3,by lia,λ t ht r c hh=>?_,λ r c v e=>?_⟩
   .exact s3 b o (Ag e hd) (s2 b o (s1 b o e))
   .rcases(Bn hu').mp ht with ht|rfl
    .exact b1 t ht r c hh
    .have hm:(r,c)∈sq.map (·.2):=by rw[hmap];exact(Ho (by lia) (by lia)).mpr hh
     obtain⟨z,hz,e⟩:=ao.mp hm;have:=b2 z hz;rw[e]at this;exact this
   .rcases b3 r c v e with ⟨t,ht,hh⟩|hm
    .exact⟨t,(Bn hu').mpr (.inl ht),hh⟩
    .exact⟨u,(Bn hu').mpr (.inr rfl),(Ho (by lia) (by lia)).mp (by rw[<-hmap];exact hm)⟩
 .rintro σ H' ⟨⟨x0,y0,z0,rfl⟩,hs,kvs,hk,hkl,ha1,ha2⟩;rw[aa,aM]at ha1;exact⟨_,rfl,q d kvs H' hs hd hk ha1⟩
theorem Gn{f:jd}{fd:jr}(F:Fun K "check_covered" "check_covered" Cg f fd)(gk:Aq P w K mg ja 1 "squares_of" mE EE):A3 P w K mg ja CX0 2 f fd mT CW:=by
 have S:Ak ["by_square","sheet","square"] mT (Ah Cg):=fsk;refine F.g S ?_;rintro vs H Q E ⟨d,sh,w,h,kvs,rfl,hd,hsh,gw,gh,hcov,q⟩;refine⟨rfl,λ cdv A i6 s hr=>?_⟩;have hu:=Ea hr;refine⟨_,(Af (AE PassesOwn.never rfl (A6 (Ao gk hr (Aj Al))) (AW 2 S.nd) (Af (AK (Rs (PU hu Ar Ai)) (Af CY) A1)))),?_⟩;refine⟨_,rfl,sh,⟨0,0,h,w⟩,rfl,hsh,a9 _,by show(0:Int)<=h;lia,by show h<=12;lia,a9 _,by show(0:Int)<=w;lia,by show w<=12;lia,λ l2 sq H2 s2 n2 hl2 hsq hmap=>⟨l2,rfl,⟨_,SqL.of hl2⟩,?_⟩⟩;refine Bu (K:=K) (a:=l2) (xs:=sq.map λ s=>V.ref s.1) (λ j σ H3=>(∃z,σ=[some (.ref d),some (.ref sh),z])/\H3=H2) ⟨⟨none,rfl⟩,rfl⟩ (λ j σ H3 _ hp=>by rw[hp.2];exact SqL.of hl2) ?_ ?_
 .rintro j y σ H3 hy ⟨⟨z0,rfl⟩,rfl⟩;obtain⟨z,hz,rfl⟩:=QV hy;have hzm:=aA hz;have hz2:=hsq z hzm;have hin2:(⟨0,0,h,w⟩:Rc).has z.2.1 z.2.2:=(Ho (p:=⟨0,0,h,w⟩) (by show(0:Int)<=w;lia) (by show(0:Int)<=h;lia)).mp (by rw[<-hmap];exact ao.mpr ⟨z,hzm,rfl⟩);obtain⟨i1,i2,i3,i4⟩:=hin2;have hk2:=s2 _ _ hd;have dg:=DGet.t (k:=sqK z.2.1 z.2.2) hk2 hz2;cases e:AS kvs (sqK z.2.1 z.2.2) with
  |none=>exact absurd e (hcov _ _ i1 i2 i3 i4)
  |some v =>
   rw[e]at dg;exact⟨_,rfl,_,rfl,d,_,rfl,dg,_,rfl,Sa ⟨⟨_,rfl⟩,rfl⟩⟩
 .rintro σ H3 ⟨⟨z0,rfl⟩,rfl⟩;exact q _ s2
theorem N4{α β:Type}{f:α->β}:∀{l' m:List β},l'.Perm m->∀{l:List α},m=l.map f->∃us:List α,us.Perm l/\l'=us.map f:=by
 intro l' m h
 induction h with
 |nil=>intro l e;exact⟨l,.refl _,e⟩
 |cons x hp ih =>
  intro l e;cases l with
  |nil=>cases e
  |cons y r =>
   rw[aJ]at e;injection e with e1 e2;obtain⟨us,h1,h2⟩:=ih e2;exact⟨y::us,h1.cons y,by rw[aJ,<-h2,e1]⟩
 |swap x y r =>
  intro l e
  match l,e with
  |a::b::r',e =>
   rw[aJ,aJ]at e;injection e with e1 e2;injection e2 with e2 e3;exact⟨b::a::r',.swap a b r',by rw[aJ,aJ,e1,e2,e3]⟩
 |trans h1 h2 ih1 ih2 =>
  intro l e;obtain⟨us,a1,a2⟩:=ih2 e;obtain⟨vs,b1,b2⟩:=ih1 a2;exact⟨vs,b1.trans a1,b2⟩
theorem JF{f:jd}{fd:jr}(F:Fun K "__init__" "Panel.__init__" Dn f fd)(T:Txt mg tk)(PC:QE K C)(gI:Aq P w K mg ja 3 "check_sides" lW DH)(gJ:Aq P w K mg ja 3 "check_panes" mS (DI K))
  (gK:Aq P w K mg ja 2 "panes_by_square" ["panes"] (Fw K)) (gM:Aq P w K mg ja 2 "check_covered" mT CW):A3 P w K mg ja CX0 4 f fd mU (LZ K C):=by
 have S:Ak ["self","width","height","panes","sheet","own_panes","by_square"] mU (Ah Dn):=fsk;refine F.g S ?_;rintro vs H Q E ⟨a,dx,l,w,h,ts,rfl,hob,hl,hat,til,hlen,gw,gh,q⟩;refine⟨rfl,λ cdv A i6 s hr=>?_⟩;refine⟨_,(Ab (Bh (Ao gI hr (Aa Al (Aj Ar))))
  (Ab (Av 4 S.nd (AB (Aa Ac (Aa Ac (Aa Ar (Aj Al))))))
  (Ab (Bh (Ao gJ hr (Aa Az (Aj AG))))
  (Ab (EU rfl (AW 5 S.nd) (A6 Az) (λ_ _ _ _ _=>pgk (nk ["pane"])) (λ_ _ _ _ _=>(Gf (LH (K:=K)) rfl T.z_tuple rfl (Aj Ai))) (N:=["pane"]) (fr:=[none]))
  (Ab (Av 6 S.nd (Ao gK hr (Aj B0)))
  (Ab (Bh (Ao gM hr (Aa (pv 6) (Aj AG))))
  (Ab (C6 Ai Al rfl)
  (Ab (C6 Ai Ar rfl)
  (Ab (C6 Ai (AL LI T.z_sorted (Aj B0)) rfl)
  (Af (C6 Ai (pv 6) rfl))))))))))),?_⟩
 refine⟨_,rfl,_,rfl,w,h,rfl,gw,gh,λ H1 s1=>?_⟩;refine⟨_,rfl,_,rfl,A8 4,λ t ht=>?_⟩;refine nv ht λ H2 sz hsh=>?_;have s2:=s1.trans sz;refine⟨_,rfl,_,rfl,l,t,w,h,ts,rfl,s2.seq hl,hat.same s2,hsh,til.ins,hlen,λ H3 s3=>?_⟩;have s13:=s2.trans s3;refine⟨_,rfl,l,rfl,⟨_,s13.seq hl⟩,λ acc jb=>Be (K:=K) (a:=l) (ys:=A9 ts) (λ i xs σ H'=>(∃y,σ=[y])/\Same H3 H'/\xs=(A9 ts).take i) ⟨⟨none,rfl⟩,Same.new jb,rfl⟩
  (λ i xs σ H' _ _ hp=>(s13.trans hp.2.1).seq hl) ?_ ?_⟩
 .rintro i x xs σ H' hx hi hl' jb' ⟨⟨y,rfl⟩,hs,rfl⟩;obtain⟨u,hu',rfl⟩:=BF hx;have hua:=(s13.trans hs) _ _ (hat u (aA hu'));refine⟨_,rfl,u.1,_,rfl,.inr ⟨SqT.of hua,cNx.mk (aN (An (by rw[aa];lia))) hi hl' jb' ⟨⟨_,rfl⟩,λ b o e=>?_,?_⟩⟩⟩
  .rw[Ad (Ag e jb)];exact hs b o e
  .rw[aS,hx];rfl
 .rintro xs σ H4 hl4 hacc4 ⟨_,s4,rfl⟩;rw[aM]at hacc4;have s14:=s13.trans s4;refine⟨_,rfl,acc,w,h,ts,rfl,SqL.of hacc4,hat.same s14,til.ins,til.dis,hlen,gw.2,gh.2,λ d kvs H5 s5 n5 hd5 hk5=>?_⟩;have s15:=s14.trans s5;have look:∀r c,0<=r->r<h->0<=c->c<w->∃t∈ts,AS kvs (sqK r c)=some (.ref t.1)/\t.2.has r c:=λ r c a1 a2 a3 a4=>by
   obtain⟨p,hp,hh⟩:=til.cov r c a1 a2 a3 a4;obtain⟨u,hu',rfl⟩:=ao.mp hp;exact⟨u,hu',hk5 u hu' r c hh,hh⟩
  refine⟨_,rfl,_,rfl,d,t,w,h,kvs,rfl,hd5,(s3.trans (s4.trans s5)) _ _ hsh,gw,gh,λ r c a1 a2 a3 a4 e=>?_,λ H6 s6=>?_⟩
  .obtain⟨u,_,hv,_⟩:=look r c a1 a2 a3 a4;rw[hv]at e;cases e
  have s16:=s15.trans s6;have ob6:=s16 _ _ hob;have hacc6:=(s5.trans s6) _ _ hacc4;have hd6:=s6 _ _ hd5;have na:acc≠a:=Bp hacc6 ob6 (by intro z;cases z);have nd:d≠a:=Bp hd6 ob6 (by intro z;cases z);refine⟨_,rfl,_,rfl,a,C,dx,_,rfl,ob6,PC.cl,PC.n_width,(by show 0<1000;decide),?_⟩;refine⟨_,rfl,_,rfl,a,C,dx,_,rfl,Ae,PC.cl,PC.n_height,(by show 1<1000;decide),?_⟩;have hacc7:(upd (upd H6 a (.ins C dx (Bf "width" (.int w) []))) a (.ins C dx (Bf "height" (.int h) (Bf "width" (.int w) [])))) acc=some (.lst (A9 ts)):=by rw[Ad na,Ad na];exact hacc6
  have tup:∀t∈ts,(upd (upd H6 a (.ins C dx (Bf "width" (.int w) []))) a (.ins C dx (Bf "height" (.int h) (Bf "width" (.int w) [])))) t.1=some (.tup (D8 t.2.t t.2.l t.2.b t.2.r)):=λ t ht=>by
   have e:=s16 _ _ (hat t ht);have nt:t.1≠a:=Bp e ob6 (by intro z;cases z);rw[Ad nt,Ad nt];exact e
  refine⟨_,rfl,acc,ts.map λ t=>(t.1,t.2.ls),3,key,rfl,?_,by rw[aa];lia,?_,?_,λ ls us hls hp hsr=>?_⟩
  .rw[aB];exact SqL.of hacc7
  .intro z hz;obtain⟨t,ht,rfl⟩:=ao.mp hz;exact⟨rfl,tup t ht⟩
  .intro z hz y hy;obtain⟨t,ht,rfl⟩:=ao.mp hz;obtain⟨u,hu',rfl⟩:=ao.mp hy;exact Vn (til.ins _ (ao.mpr ⟨t,ht,rfl⟩)) (til.ins _ (ao.mpr ⟨u,hu',rfl⟩)) gw.2 gh.2 gw.2 gh.2
  obtain⟨ts',hp',rfl⟩:=N4 hp rfl;have nls:ls≠a:=Ne.symm (Ag Ae hls);refine⟨_,rfl,a,C,dx,_,rfl,by rw[Ad (Ne.symm nls)];exact Ae,PC.cl,PC.n_sorted_panes,(by show 2<1000;decide),?_⟩;refine⟨_,rfl,_,rfl,a,C,dx,_,rfl,Ae,PC.cl,PC.n_by_square,(by show 3<1000;decide),?_⟩;have sx:SameX a H6 (upd (upd (upd (upd (upd H6 a (.ins C dx (Bf "width" (.int w) []))) a (.ins C dx (Bf "height" (.int h) (Bf "width" (.int w) [])))) ls (.lst (List.map (λ t=>V.ref t.1) (List.map (λ t:jd×Rc=>(t.1,t.2.ls)) ts')))) a (.ins C dx (Bf "sorted_panes" (.ref ls) (Bf "height" (.int h) (Bf "width" (.int w) []))))) a (.ins C dx (IV w h ls d))):=by
   refine SameX.trans (SameX.trans (SameX.trans (SameX.trans SameX.upd SameX.upd) (SameX.new hls)) SameX.upd) SameX.upd
  refine q ts' ls d kvs _ (λ b o nb e=>sx b o nb (s16 b o e)) hp' ⟨Ae,?_,sx _ _ nd hd6,λ t ht=>?_,til.perm (hp'.map _),by rw[hp'.length_eq];exact hlen,?_,λ r c a1 a2 a3 a4=>?_,gw,gh⟩
  .rw[Ad nls,Ad nls,Ae,aB];rfl
  .have ht':=hp'.mem_iff.mp ht;have e:=s16 _ _ (hat t ht');have nt:t.1≠a:=Bp e ob6 (by intro z;cases z);exact sx _ _ nt e
  .unfold Srt;rw[aB]at hsr |-;exact hsr
  .obtain⟨u,hu',hv,hh⟩:=look r c a1 a2 a3 a4;exact⟨u,hp'.mem_iff.mpr hu',hv,hh⟩
theorem I9{f:jd}{fd:jr}(F:Fun K "panes" "Panel.panes" CM f fd)(T:Txt mg tk)(PC:QE K C):A3 P w K mg ja CX0 1 f fd mm (Fv C):=by
 have S:Ak mm mm (Ah CM):=fsk;refine F.g S ?_;rintro vs H Q E ⟨a,dx,ls,ld,w,h,ts,kvs,rfl,pn,q⟩;refine⟨rfl,λ cdv A i6 s hr=>?_⟩;refine⟨_,(Af (Am (Gf LJ rfl T.z_list rfl (Aj (B9 Ai rfl))))),?_⟩;exact⟨_,rfl,a,C,dx,_,_,rfl,pn.ob,PC.cl,PC.n_sorted_panes,Vw _ _ _ _,ls,_,rfl,.inl (SqL.of pn.lst),λ l hl=>q l hl⟩
theorem Vh{α:Type}{us:List α}(h:us.length=1):∃a,us=[a]:=dC.mp h
theorem Xx{α:Type}{us:List α}(h:us.length=2):∃a b,us=[a,b]:=by
 cases us with
 |nil=>cases h
 |cons a r=>obtain⟨b,rfl⟩:=Vh (Nat.succ.inj h);exact⟨a,b,rfl⟩
theorem AU{α:Type}(ts:List (jd×α)):(A9 ts).length=ts.length:=aa ..
theorem Hj{H H':Hp}(s:Same H H'){a:jd}(h:H' a=none):H a=none:=by
 cases q:H a with
 |none=>rfl
 |some o=>rw[s a o q]at h;cases h
noncomputable def wd(u:Bool):jD:=if u=true then "upright" else "level"
theorem FT(u v:Bool):decide (V.str (wd u)=V.str (wd v))=(u==v):=by cases u<;>cases v<;>decide +kernel
theorem QJ(u:Bool):decide (V.str (wd u)=V.str "whole")=false:=by cases u<;>decide +kernel
inductive Tr where
 |whole (m:Option Int)
 |cut (u:Bool) (k:Int) (x y:Tr)
noncomputable def Tr.sz:Tr->Nat
 |.whole _=>1
 |.cut _ _ x y=>x.sz+y.sz
noncomputable def GC:Option Int->V
 |none=>.non
 |some i=>.int i
noncomputable def Fit:Tr->Int->Int->Prop
 |.whole _,_,_=>True
 |.cut u k x y,w,h=>if u=true then (1<=k/\k<w/\Fit x k h/\Fit y (w-k) h) else (1<=k/\k<h/\Fit x w k/\Fit y w (h-k))
theorem IZ:∀{t:Tr}{w h:Int},1<=w->1<=h->Fit t w h->(t.sz:Int)<=w*h
 |.whole _,w,h,hw,hh,_=>by
  show((1:Nat):Int)<=_;have:=dS hw hh (by lia) (by lia);lia
 |.cut u k x y,w,h,hw,hh,f=>by
  rw[Fit]at f;show((x.sz+y.sz:Nat):Int)<=_;cases u with
  |true =>
   obtain⟨a,b,c,d⟩:=f;have h1:=IZ a hh c;have h2:=IZ (by lia) hh d;rw[Int.sub_mul]at h2;lia
  |false =>
   obtain⟨a,b,c,d⟩:=f;have h1:=IZ hw a c;have h2:=IZ hw (by lia) d;rw[Int.mul_sub]at h2;lia
noncomputable def Db:List Int->Ds
 |[]=>.nil
 |i::r=>.cons (.at (.int i)) (Db r)
theorem ME{K:jw}{H:Hp}:∀(ns:List Int),DIss K H (Db ns) (ns.map V.int)
 |[]=>by
  show DIss K H .nil [];rw[DIss]
 |i::r=>by
  show DIss K H (.cons (.at (.int i)) (Db r)) (.int i::r.map V.int);rw[DIss];exact⟨_,_,rfl,by rw[DIs];exact⟨rfl,rfl⟩,ME r⟩
theorem Kv:∀(ns:List Int),D9 (Db ns)=0
 |[]=>by rw[Db,D9]
 |i::r=>by rw[Db,D9,dep,Kv r];rfl
theorem Qw:∀(ns:List Int),Fk (Db ns) .nil=decide (ns=[])
 |[]=>by rw[Db,Fk];rfl
 |i::r=>by rw[Db,Fk]<;>simp
theorem W3{K:jw}{H:Hp}{a:jd}{ns:List Int}(h:SqL K H a (ns.map V.int)):DIs K H (.lst (Db ns)) (.ref a):=by
 rw[DIs];exact⟨a,_,rfl,h,ME _⟩
theorem Xu{K:jw}{H:Hp}{a:jd}(h:H a=some (.lst [])):DIs K H (.lst .nil) (.ref a):=by
 rw[DIs];exact⟨a,[],rfl,SqL.of h,by rw[DIss]⟩
theorem Qv(ns:List Int):dep (.lst (Db ns))<=50:=by rw[dep,Kv];lia
theorem FQ{x0 x1:V}:atI [x0,x1] 0=some x0:=rfl
theorem FP{x0 x1:V}:atI [x0,x1] 1=some x1:=rfl
theorem Xs:QH 10 9:=⟨by decide,by decide,by decide⟩
theorem Su{j:Int}(z:Int)(h:0<j)(h2:j<18446744073709551616):U9 z j:=⟨h,fK (IH (k:=64) (by decide) (by lia)) (by decide)⟩
theorem Kl{a b:Int}(h1:-18446744073709551616<a)(h2:a<18446744073709551616)(h3:-18446744073709551616<b)(h4:b<18446744073709551616):IntMulOk a b:=by
 have c:(2:Nat)^128=340282366920938463463374607431768211456:=by decide +kernel
 refine M4 ?_ ?_<;>rw[c]<;>lia
theorem Pj{ns:List Int}{k:Int}(h0:0<=k)(h1:k<(ns.length:Int)):∃z,atI (ns.map V.int) k=some (.int z):=by
 have hk:k.toNat<ns.length:=by lia
 have hz:(ns.map V.int)[k.toNat]?=some (.int ns[k.toNat]):=by rw[aE,ag hk];rfl
 have e:=LK hz;rw[bF h0]at e;exact⟨_,e⟩
theorem FG{f:jd}{fd:jr}{x i9:jD}{st:jE}{N ps:LSz}{k:Nat}{sp:Sp}(F:Fun K x i9 st f fd)(S:Ak N ps (Ah st))(h:∀vs H Q E,¬sp vs H Q E):A3 P w K mg ja CX0 (k+1) f fd ps sp :=
 F.ok S (λ vs H Q E z=>absurd z (h vs H Q E)) (λ cdv A i6 s H vs Q E hr z=>absurd z (h vs H Q E))
theorem Cn{c:Bool}{A B:Prop}(h:c=true)(a:A):if c=true then A else B:=by rw[jo h];exact a
noncomputable def JL(cU cL:jd)(u:Bool):jd:=if u then cU else cL
noncomputable abbrev wF(m:V):LFz:=Bf "mark" m []
noncomputable abbrev cF(k:Int)(vx vy:V):LFz:=Bf "other" vy (Bf "first" vx (Bf "at" (.int k) []))
noncomputable def Obj(cW cU cL:jd)(H:Hp):Tr->V->Prop
 |.whole m,v=>∃a dx,v=.ref a/\H a=some (.ins cW dx (wF (GC m)))
 |.cut u k x y,v=>∃a dx vx vy,v=.ref a/\H a=some (.ins (JL cU cL u) dx (cF k vx vy))/\Obj cW cU cL H x vx/\Obj cW cU cL H y vy
theorem Obj.same{H H':Hp}(s:Same H H'):∀{t:Tr}{v:V},Obj cW cU cL H t v->Obj cW cU cL H' t v
 |.whole m,v,h=>by
  rw[Obj]at h |-;obtain⟨a,dx,e,h⟩:=h;exact⟨a,dx,e,s _ _ h⟩
 |.cut u k x y,v,h=>by
  rw[Obj]at h |-;obtain⟨a,dx,vx,vy,e,h,h1,h2⟩:=h;exact⟨a,dx,vx,vy,e,s _ _ h,Obj.same s h1,Obj.same s h2⟩
structure RT(mg:MGz)(K:jw)(cT cW cU cL:jd):Prop where
 iT:mg "Tree"=some (.ref cT)
 iV:mg "Whole"=some (.ref cW)
 iX:mg "Upright"=some (.ref cU)
 iY:mg "Level"=some (.ref cL)
 iW:Ng K cW
 iC:∀u,Ng K (JL cU cL u)
 n_mark:NoAttr K cW "mark"
 n_at:∀u,NoAttr K (JL cU cL u) "at"
 n_first:∀u,NoAttr K (JL cU cL u) "first"
 n_other:∀u,NoAttr K (JL cU cL u) "other"
 kWW:ka K (.ref cW) (.ref cW)=some true
 kWC:∀u,ka K (.ref cW) (.ref (JL cU cL u))=some false
 kCW:∀u,ka K (.ref (JL cU cL u)) (.ref cW)=some false
 kCC:∀u v,ka K (.ref (JL cU cL u)) (.ref (JL cU cL v))=some (u==v)
 kWT:ka K (.ref cW) (.ref cT)=some true
 kCT:∀u,ka K (.ref (JL cU cL u)) (.ref cT)=some true
inductive SN(C:jd)(vs:LUz)(H:Hp)(Q:VK)(E:XK):Prop
 |mk (a dx:jd) (m:V) (h0:vs=[.ref a,m]) (h1:H a=some (.ins C dx [])) (h2:Q .non (upd H a (.ins C dx (wF m)))):SN C vs H Q E
noncomputable def QX(C:jd) :Sp:=λ vs H Q E=>SN C vs H Q E
inductive SO(C:jd)(vs:LUz)(H:Hp)(Q:VK)(E:XK):Prop
 |mk (a dx:jd) (k:Int) (vx vy:V) (h0:vs=[.ref a,.int k,vx,vy]) (h1:H a=some (.ins C dx [])) (h2:∀H',SameX a H H'->H' a=some (.ins C dx (cF k vx vy))->Q .non H'):SO C vs H Q E
noncomputable def Op(C:jd) :Sp:=λ vs H Q E=>SO C vs H Q E
theorem JE{f:jd}{fd:jr}(F:FunD K "__init__" "Whole.__init__" Bw f fd)(R:RT mg K cT cW cU cL):A3 P w K mg ja CX0 1 f fd mq (QX cW):=by
 have S:Ak mq mq (Ah Bw):=fsk;refine F.g S ?_;rintro vs H Q E ⟨a,dx,m,rfl,ha,q⟩;refine⟨rfl,λ cdv A i6 s hr=>?_⟩;refine⟨_,(Af (C6 Ai Al rfl)),?_⟩;exact⟨_,rfl,_,rfl,a,cW,dx,_,rfl,ha,R.iW.cl,R.n_mark,(by show 0<1000;decide),q⟩
theorem Hd{f:jd}{fd:jr}(F:Fun K "__init__" "Upright.__init__" C5 f fd)(R:RT mg K cT cW cU cL):A3 P w K mg ja CX0 1 f fd l5 (Op cU):=by
 have S:Ak l5 l5 (Ah C5):=fsk;refine F.g S ?_;rintro vs H Q E ⟨a,dx,k,vx,vy,rfl,ha,q⟩;refine⟨rfl,λ cdv A i6 s hr=>?_⟩;refine⟨_,(Ab (C6 Ai Al rfl)
  (Ab (C6 Ai Ar rfl)
  (Af (C6 Ai Az rfl)))),?_⟩
 refine⟨_,rfl,_,rfl,a,cU,dx,_,rfl,ha,(R.iC true).cl,R.n_at true,(by show 0<1000;decide),?_⟩;refine⟨_,rfl,_,rfl,a,cU,dx,_,rfl,Ae,(R.iC true).cl,R.n_first true,(by show 1<1000;decide),?_⟩;refine⟨_,rfl,_,rfl,a,cU,dx,_,rfl,Ae,(R.iC true).cl,R.n_other true,(by show 2<1000;decide),?_⟩;exact q _ ((SameX.upd.trans SameX.upd).trans SameX.upd) Ae
theorem JG{f:jd}{fd:jr}(F:Fun K "__init__" "Level.__init__" Do f fd)(R:RT mg K cT cW cU cL):A3 P w K mg ja CX0 1 f fd l5 (Op cL):=by
 have S:Ak l5 l5 (Ah Do):=fsk;refine F.g S ?_;rintro vs H Q E ⟨a,dx,k,vx,vy,rfl,ha,q⟩;refine⟨rfl,λ cdv A i6 s hr=>?_⟩;refine⟨_,(Ab (C6 Ai Al rfl)
  (Ab (C6 Ai Ar rfl)
  (Af (C6 Ai Az rfl)))),?_⟩
 refine⟨_,rfl,_,rfl,a,cL,dx,_,rfl,ha,(R.iC false).cl,R.n_at false,(by show 0<1000;decide),?_⟩;refine⟨_,rfl,_,rfl,a,cL,dx,_,rfl,Ae,(R.iC false).cl,R.n_first false,(by show 1<1000;decide),?_⟩;refine⟨_,rfl,_,rfl,a,cL,dx,_,rfl,Ae,(R.iC false).cl,R.n_other false,(by show 2<1000;decide),?_⟩;exact q _ ((SameX.upd.trans SameX.upd).trans SameX.upd) Ae
theorem Gu{H:Hp}{x dx:jd}{o1 o2:HO}(hx:H x=none)(hd:H dx=none):Same H (upd (upd H dx o1) x o2):=λ b o e=>by
 rw[Ad (Ag e hx),Ad (Ag e hd)];exact e
theorem fW(m:V):(wF m).lookup ("mark":jD)=some m:=by rw[A5,jo rfl]
theorem Xk{C:jd}:∀u',RelV (.ref C) u'->u'=.ref C:=λ_ z=>z
inductive En where
 |w (m:Option Int)
 |c (u:Bool) (k:Int)
noncomputable def ents:Tr->List En
 |.whole m=>[.w m]
 |.cut u k x y=>.c u k::(ents x++ents y)
noncomputable def Tr.nd:Tr->Nat
 |.whole _=>1
 |.cut _ _ x y=>x.nd+y.nd+1
theorem Ed:∀t:Tr,(ents t).length=t.nd
 |.whole _=>rfl
 |.cut _ _ x y=>by rw[ents,aL,aH,Ed x,Ed y];rfl
theorem RH:∀t:Tr,0<t.nd
 |.whole _=>Nat.one_pos
 |.cut _ _ x y=>Nat.succ_pos _
noncomputable def enV:En->LUz
 |.w m=>[.str "whole",GC m]
 |.c u k=>[.str (wd u),.int k]
noncomputable def Kp(H H':Hp):Prop:=∀b o,H b=some o->(∀xs,o≠.lst xs)->H' b=some o
theorem IJ{H H':Hp}(s:Same H H'):Kp H H':=λ b o e _=>s b o e
theorem Kp.trans{H H1 H2:Hp}(a:Kp H H1)(b:Kp H1 H2):Kp H H2:=λ c o e n=>b c o (a c o e n) n
theorem Kp.put{H:Hp}{l:jd}{xs ys:LUz}(h:H l=some (.lst xs)):Kp H (upd H l (.lst ys)):=λ b o e n=>by
 rw[Ad (Bp e h (n xs))];exact e
theorem Obj.kp{H H':Hp}(s:Kp H H'):∀{t:Tr}{v:V},Obj cW cU cL H t v->Obj cW cU cL H' t v
 |.whole m,v,h=>by
  rw[Obj]at h |-;obtain⟨a,dx,e,h⟩:=h;exact⟨a,dx,e,s _ _ h (by intro xs z;cases z)⟩
 |.cut u k x y,v,h=>by
  rw[Obj]at h |-;obtain⟨a,dx,vx,vy,e,h,h1,h2⟩:=h;exact⟨a,dx,vx,vy,e,s _ _ h (by intro xs z;cases z),Obj.kp s h1,Obj.kp s h2⟩
noncomputable def EnsAt(H:Hp):LUz->List En->Prop
 |[],[]=>True
 |v::r,e::q=>(∃a,v=.ref a/\H a=some (.tup (enV e)))/\EnsAt H r q
 |_,_=>False
theorem EnsAt.kp{H H':Hp}(s:Kp H H'):∀{vs:LUz}{es:List En},EnsAt H vs es->EnsAt H' vs es
 |[],[],_=>trivial
 |v::r,e::q,h=>⟨let ⟨a,b,c⟩:=h.1;⟨a,b,s _ _ c (by intro xs z;cases z)⟩,EnsAt.kp s h.2⟩
 |[],_::_,h=>h
 |_::_,[],h=>h
theorem EnsAt.snoc{H:Hp}{a:jd}{e:En}(ha:H a=some (.tup (enV e))):∀{vs:LUz}{es:List En},EnsAt H vs es->EnsAt H (vs++[.ref a]) (es++[e])
 |[],[],_=>⟨⟨a,rfl,ha⟩,trivial⟩
 |v::r,e'::q,h=>⟨h.1,EnsAt.snoc ha h.2⟩
 |[],_::_,h=>h.elim
 |_::_,[],h=>h.elim
theorem EnsAt.len{H:Hp}:∀{vs:LUz}{es:List En},EnsAt H vs es->vs.length=es.length
 |[],[],_=>rfl
 |v::r,e'::q,h=>by rw[aL,aL,EnsAt.len h.2]
 |[],_::_,h=>h.elim
 |_::_,[],h=>h.elim
theorem EnsAt.get{H:Hp}:∀{vs:LUz}{es:List En}{i:Nat}{v:V},EnsAt H vs es->vs[i]?=some v->∃e a,es[i]?=some e/\v=.ref a/\H a=some (.tup (enV e))
 |v::r,e::q,0,_,h,hv=>by
  cases hv;obtain⟨a,b,c⟩:=h.1;exact⟨e,a,rfl,b,c⟩
 |v::r,e::q,i+1,_,h,hv=>EnsAt.get (i:=i) h.2 hv
 |[],[],_,_,_,hv=>by cases hv
 |[],_::_,_,_,h,_=>h.elim
 |_::_,[],_,_,h,_=>h.elim
noncomputable def Fi(ws:List (V×Tr)):List En:=ws.reverse.flatMap λ p=>ents p.2
theorem BU(ws:List (V×Tr))(p:V×Tr):Fi (ws++[p])=ents p.2++Fi ws:=by
 unfold Fi;rw[List.reverse_append,List.reverse_singleton,List.singleton_append,List.flatMap_cons]
noncomputable def cnt(ws:List (V×Tr)):Nat:=(ws.map λ p=>p.2.nd).sum
theorem Eg(ws:List (V×Tr))(p:V×Tr):cnt (ws++[p])=cnt ws+p.2.nd:=by
 unfold cnt;rw[ai,b6,de,List.sum_singleton]
theorem LG:∀ws:List (V×Tr),ws.length<=cnt ws
 |[]=>ah 0
 |p::r=>by
  have:=LG r;have:=RH p.2;show r.length+1<=p.2.nd+cnt r;lia
theorem Gy(p:V×Tr)(r:List (V×Tr)):Fi (p::r)=Fi r++ents p.2:=by
 unfold Fi;rw[List.reverse_cons,dU,List.flatMap_cons,List.flatMap_nil,aR]
theorem IY:∀ws:List (V×Tr),(Fi ws).length=cnt ws
 |[]=>rfl
 |p::r=>by
  rw[Gy,aH,Ed,IY r];show _=p.2.nd+cnt r;lia
theorem EJ{α:Type}(ws:List α):ws=[]\/∃ws0 p,ws=ws0++[p]:=by
 by_cases h:ws=[]
 .exact .inl h
 .exact .inr ⟨ws.dropLast,ws.getLast h,(cw h).symm⟩
theorem MC{ws0:List (V×Tr)}{p:V×Tr}:((ws0++[p]).map (·.1))[((ws0++[p]).map (·.1)).length-1]?=some p.1:=by
 rw[aa,aH,bx,Nat.add_sub_cancel,aE,dh (ah _),eJ];rfl
theorem MK{ws0:List (V×Tr)}{p:V×Tr}:((ws0++[p]).map (·.1)).dropLast=ws0.map (·.1):=by rw[ai,de,cZ]
noncomputable def wt:En->Int
 |.w _=>1
 |.c _ _=>-1
noncomputable def wts(es:List En):Int:=(es.map wt).sum
theorem KR(a b:List En):wts (a++b)=wts a+wts b:=by
 unfold wts;rw[ai,b6]
theorem LO(e:En)(b:List En):wts (e::b)=wt e+wts b:=by
 unfold wts;rw[aJ,cX]
theorem CS:∀t:Tr,wts (ents t)=1
 |.whole _=>rfl
 |.cut u k x y=>by
  rw[ents,LO,KR,CS x,CS y];rfl
theorem HD:∀ws:List (V×Tr),wts (Fi ws)=ws.length
 |[]=>rfl
 |p::r=>by rw[Gy,KR,CS,HD r,aL];lia
theorem KQ:∀(t:Tr)(a b:List En),ents t=a++b->b≠[]->1<=wts b
 |.whole m,a,b,h,hb=>by
  have h:[En.w m]=a++b:=h;cases a with
  |nil=>rw[dG]at h;rw[<-h];exact a9 1
  |cons e r =>
   have:=congrArg List.length h;simp only[aH,aL,c7]at this;exact absurd (dw.mp (by lia)) hb
 |.cut u k x y,a,b,h,hb=>by
  cases a with
  |nil =>
   rw[dG]at h;rw[<-h,CS];decide
  |cons e r =>
   rw[ents,eR]at h;have h2:=List.cons.inj h |>.2;rcases List.append_eq_append_iff.mp h2 with ⟨c,hc,hd⟩|⟨c,hc,hd⟩
   .exact KQ y c b hd hb
   .rw[hd,KR,CS];by_cases e:c=[]
    .rw[e];decide
    .have:=KQ x r c hc e;lia
theorem Jc:∀(t t':Tr)(r r':List En),ents t++r=ents t'++r'->t=t'/\r=r'
 |.whole m,.whole m',r,r',h=>by
  have h:En.w m::r=En.w m'::r':=h;injection h with h1 h2;injection h1 with h1;exact⟨by rw[h1],h2⟩
 |.whole m,.cut u k x y,r,r',h=>by
  have h:En.w m::r=En.c u k::(ents x++ents y++r'):=h;injection h with h1 _;cases h1
 |.cut u k x y,.whole m,r,r',h=>by
  have h:En.c u k::(ents x++ents y++r)=En.w m::r':=h;injection h with h1 _;cases h1
 |.cut u k x y,.cut u' k' x' y',r,r',h=>by
  have h:En.c u k::(ents x++ents y++r)=En.c u' k'::(ents x'++ents y'++r'):=h;injection h with h1 h2;injection h1 with h3 h4;rw[aZ,aZ]at h2;obtain⟨e1,h5⟩:=Jc x x' _ _ h2;obtain⟨e2,h6⟩:=Jc y y' _ _ h5;exact⟨by rw[h3,h4,e1,e2],h6⟩
inductive GS(cW cU cL:jd)(vs:LUz)(H:Hp)(Q:VK)(E:XK):Prop
 |mk (u:Bool) (k:Int) (v1 v2:V) (y1 y2:Tr) (h0:vs=[.str (wd u),.int k,v1,v2]) (h1:Obj cW cU cL H y1 v1) (h2:Obj cW cU cL H y2 v2) (h3:∀v' H',Same H H'->Obj cW cU cL H' (.cut u k y1 y2) v'->Q v' H'):GS cW cU cL vs H Q E
noncomputable def EH(cW cU cL:jd) :Sp:=λ vs H Q E=>GS cW cU cL vs H Q E
theorem Mw{f:jd}{fd:jr}(F:Fun K "cut_from" "cut_from" ER f fd)(T:Txt mg tk)(gN:Od P w K mg ja 1 "Upright" cU l5 (Op cU))(gO:Od P w K mg ja 1 "Level" cL l5 (Op cL)) :
  A3 P w K mg ja CX0 3 f fd mF (EH cW cU cL):=by
 have S:Ak mF mF (Ah ER):=fsk;refine F.g S ?_;rintro vs H Q E ⟨u,k,v1,v2,y1,y2,rfl,o1,o2,q⟩;refine⟨rfl,λ cdv A i6 s hr=>?_⟩;refine⟨_,(Ab (AK (A4 op_eq Ai (AF (v:=.str "upright") rfl T.gv ⟨_,rfl⟩)) (Af (Am (OA gN hr (Aa Al (Aa Ar (Aj Az)))))) A1)
  (Af (Am (OA gO hr (Aa Al (Aa Ar (Aj Az))))))),?_⟩
 cases u with
 |true =>
  refine⟨_,rfl,rfl,_,rfl,Cn (FT true true) ⟨_,rfl,_,rfl,_,rfl,λ x dx nx ndx nex=>⟨x,dx,k,v1,v2,rfl,Ae,λ H3 s3 e3=>⟨rfl,?_⟩⟩⟩⟩;have s4:Same H H3:=λ b o e=>s3 b o (Ag e nx) (Gu nx ndx b o e);exact q _ _ s4 (by rw[Obj];exact⟨x,dx,v1,v2,rfl,e3,o1.same s4,o2.same s4⟩)
 |false =>
  refine⟨_,rfl,rfl,_,rfl,Bt (FT false true) ⟨_,rfl,_,rfl,_,rfl,λ x dx nx ndx nex=>⟨x,dx,k,v1,v2,rfl,Ae,λ H3 s3 e3=>⟨rfl,?_⟩⟩⟩⟩;have s4:Same H H3:=λ b o e=>s3 b o (Ag e nx) (Gu nx ndx b o e);exact q _ _ s4 (by rw[Obj];exact⟨x,dx,v1,v2,rfl,e3,o1.same s4,o2.same s4⟩)
inductive Nd(K:jw)(cW cU cL:jd)(vs:LUz)(H:Hp)(Q:VK)(E:XK):Prop
 |mk (l:jd) (xs:LUz) (t:Tr) (h0:vs=[.ref l]) (h1:SqL K H l xs) (h2:EnsAt H xs (ents t)) (h3:t.nd<=400) (h4:∀v' H',Same H H'->Obj cW cU cL H' t v'->Q v' H'):Nd K cW cU cL vs H Q E
noncomputable def La(K:jw)(cW cU cL:jd) :Sp:=λ vs H Q E=>Nd K cW cU cL vs H Q E
theorem Q4{es:List En}{i:Nat}{e:En}(hi:i<es.length)(h:es[es.length-1-i]?=some e):es.drop (es.length-(i+1))=e::es.drop (es.length-i):=by
 have hk:es.length-1-i<es.length:=by lia
 rw[show es.length-(i+1)=es.length-1-i by lia,b5 hk];rw[ag hk]at h;rw[Option.some.inj h,show es.length-1-i+1=es.length-i by lia]
theorem Lk{f:jd}{fd:jr}(F:Fun K "tree_from" "tree_from" DJ f fd)(T:Txt mg tk)(R:RT mg K cT cW cU cL)(gP:Od P w K mg ja 1 "Whole" cW mq (QX cW))(gQ:Aq P w K mg ja 3 "cut_from" mF (EH cW cU cL)) :
  A3 P w K mg ja CX0 4 f fd ["entries"] (La K cW cU cL):=by
 have S:Ak ["entries","done","word","number","first","other"] ["entries"] (Ah DJ):=fsk;refine F.g S ?_;rintro vs H Q E ⟨l,xs,t,rfl,hl,hen,hn,q⟩;refine⟨rfl,λ cdv A i6 s hr=>?_⟩;refine⟨_,(Ab (Av 1 S.nd (B8 EX))
  (Ab (AE PassesOwn.never rfl (Tw rfl T.z_reversed (Aj Ai)) (CO rfl (A2 (AW 2 S.nd) (A2 (AW 3 S.nd) Bx))) (Af (AK (A4 op_eq Ar (AF (v:=.str "whole") rfl T.iy ⟨_,rfl⟩)) (Af (Bh (EW Al (Aj (OA gP hr (Aj Az)))))) (Ab (Av 4 S.nd (EV bI cO cM Lu Al))
  (Ab (Av 5 S.nd (EV bI cO cM Lu Al))
  (Af (Bh (EW Al (Aj (Ao gQ hr (Aa Ar (Aa Az (Aa AG (Aj B0))))))))))))))
  (Af (Am (EV bI cO cM Lu Al))))),?_⟩
 refine⟨A8 0,λ ld hld=>⟨_,rfl,l,xs,rfl,(Same.new hld).seq hl,?_⟩⟩;have hxl:=hen.len;have hel:=Ed t;refine Ua (K:=K) (a:=l) (xs:=xs) (λ i σ H'=>∃(ws:List (V×Tr))(x2 x3 x4 x5:Option V),σ=[some (.ref l),some (.ref ld),x2,x3,x4,x5]/\Same H H'/\H' ld=some (.lst (ws.map (·.1)))/\(∀p∈ws,Obj cW cU cL H' p.2 p.1)/\(ents t).drop ((ents t).length-i)=Fi ws)
  ⟨[],_,_,_,_,rfl,Same.new hld,Ae,(λ p hp=>(nomatch hp)),by rw[Nat.sub_zero,bM];rfl⟩ (λ i σ H' _ hp=>let ⟨_,_,_,_,_,_,s,_⟩:=hp;s.seq hl) ?_ ?_
 .rintro i v σ H' hv hi ⟨ws,x2,x3,x4,x5,rfl,s1,hd,hob,heq⟩;obtain⟨e,a,he,rfl,ha⟩:=hen.get hv;have ha':=s1 _ _ ha;rw[hxl]at he hi;have hdr:=Q4 hi he;have wl:ws.length<=400:=by
   have h1:=LG ws;have h2:=IY ws;rw[<-heq,eQ]at h2;lia
  cases e with
  |w m =>
   refine⟨a,_,rfl,SqT.of ha',rfl,_,_,rfl,_,_,rfl,rfl,?_⟩;refine⟨_,rfl,rfl,_,rfl,Cn (jn rfl) ?_⟩;refine⟨_,rfl,.inl ⟨rfl,_,SqL.of hd⟩,_,rfl,λ x dx nx ndx nex=>⟨x,dx,_,rfl,Ae,rfl,?_⟩⟩;have s2:Same H' (upd (upd (upd H' dx (.own x)) x (.ins cW dx [])) x (.ins cW dx (wF (GC m)))):=λ b o e=>by
    rw[Ad (Ag e nx)];exact Gu nx ndx b o e
   have e2:(upd (upd (upd H' dx (.own x)) x (.ins cW dx [])) x (.ins cW dx (wF (GC m)))) x=some (.ins cW dx (wF (GC m))):=Ae;generalize upd (upd (upd H' dx (.own x)) x (.ins cW dx [])) x (.ins cW dx (wF (GC m)))=H2 at s2 e2 |-;have d2:=s2 _ _ hd;refine⟨ld,_,.ref x,rfl,rfl,d2,An (by rw[aa];lia),?_⟩;have k3:Kp H2 (upd H2 ld (.lst (ws.map (·.1)++[.ref x]))):=Kp.put d2;refine⟨ws++[(.ref x,.whole m)],_,_,_,_,rfl,λ b o e=>?_,?_,λ p hp=>?_,?_⟩
   .rw[Ad (Ag e hld)];exact s2 b o (s1 b o e)
   .rw[Ae,ai];rfl
   .rcases az.mp hp with hp|hp
    .exact((hob p hp).same s2).kp k3
    .rw[af.mp hp,Obj];exact⟨x,dx,rfl,k3 _ _ e2 (by intro xs z;cases z)⟩
   .rw[hdr,heq,BU];rfl
  |c u k =>
   have big:2<=ws.length:=by
    have h1:=KQ t ((ents t).take ((ents t).length-(i+1))) ((ents t).drop ((ents t).length-(i+1))) (fL _ _).symm (by rw[hdr];intro z;cases z);rw[hdr,heq,LO,HD]at h1;have:wt (.c u k)=-1:=rfl;lia
   obtain rfl|⟨ws1,p1,rfl⟩:=EJ ws
   .exact absurd big (by decide)
   obtain rfl|⟨ws2,p2,rfl⟩:=EJ ws1
   .exact absurd big (by simp)
   refine⟨a,_,rfl,SqT.of ha',rfl,_,_,rfl,_,_,rfl,rfl,?_⟩;refine⟨_,rfl,rfl,_,rfl,Bt (QJ u) ?_⟩;refine⟨_,rfl,.inl ⟨rfl,_,SqL.of hd⟩,ld,_,p1.1,rfl,rfl,hd,MC,?_⟩;rw[MK];have k2:Kp H' (upd H' ld (.lst ((ws2++[p2]).map (·.1)))):=Kp.put hd;have s2:Same H (upd H' ld (.lst ((ws2++[p2]).map (·.1)))):=λ b o e=>by rw[Ad (Ag e hld)];exact s1 b o e
   have d2:(upd H' ld (.lst ((ws2++[p2]).map (·.1)))) ld=some (.lst ((ws2++[p2]).map (·.1))):=Ae;generalize upd H' ld (.lst ((ws2++[p2]).map (·.1)))=H2 at k2 s2 d2 |-;refine⟨_,rfl,.inl ⟨rfl,_,SqL.of d2⟩,ld,_,p2.1,rfl,rfl,d2,MC,?_⟩;rw[MK];have k3:Kp H2 (upd H2 ld (.lst (ws2.map (·.1)))):=Kp.put d2;have s3:Same H (upd H2 ld (.lst (ws2.map (·.1)))):=λ b o e=>by rw[Ad (Ag e hld)];exact s2 b o e
   have d3:(upd H2 ld (.lst (ws2.map (·.1)))) ld=some (.lst (ws2.map (·.1))):=Ae;generalize upd H2 ld (.lst (ws2.map (·.1)))=H3 at k3 s3 d3 |-;have kk:=k2.trans k3;refine⟨_,rfl,.inl ⟨rfl,_,SqL.of d3⟩,_,rfl,_,rfl,_,rfl,_,rfl,u,k,p1.1,p2.1,p1.2,p2.2,rfl,(hob p1 (by simp)).kp kk,(hob p2 (by simp)).kp kk,λ v' H4 s4 o4=>?_⟩;have d4:=s4 _ _ d3;rw[aH,aH]at wl;refine⟨ld,_,v',rfl,rfl,d4,An (by rw[aa];lia),?_⟩;have k5:Kp H4 (upd H4 ld (.lst (ws2.map (·.1)++[v']))):=Kp.put d4;refine⟨ws2++[(v',.cut u k p1.2 p2.2)],_,_,_,_,rfl,λ b o e=>?_,?_,λ p hp=>?_,?_⟩
   .rw[Ad (Ag e hld)];exact s4 b o (s3 b o e)
   .rw[Ae,ai];rfl
   .rcases az.mp hp with hp|hp
    .exact((((hob p (by simp[hp])).kp kk).same s4)).kp k5
    .rw[af.mp hp];exact o4.kp k5
   .rw[hdr,heq,BU,BU,BU];show .c u k::(ents p1.2++(ents p2.2++Fi ws2))=.c u k::(ents p1.2++ents p2.2)++Fi ws2;rw[eR,aZ]
 .rintro σ H' ⟨ws,x2,x3,x4,x5,rfl,s1,hd,hob,heq⟩;rw[hxl,eJ,di]at heq;have one:ws.length=1:=by
   have h1:=CS t;rw[heq,HD]at h1;lia
  obtain⟨p,rfl⟩:∃p,ws=[p]:=by
   match ws,one with
   |[p],_=>exact⟨p,rfl⟩
  have hp:=hob p (by simp);have et:p.2=t:=by
   have h1:ents t++[]=ents p.2++[]:=by
    rw[aR,heq];rfl
   exact(Jc _ _ _ _ h1).1.symm
  refine⟨_,rfl,.inl ⟨rfl,_,SqL.of hd⟩,ld,_,p.1,rfl,rfl,hd,rfl,?_⟩;rw[et]at hp;exact q _ _ (λ b o e=>by rw[Ad (Ag e hld)];exact s1 b o e) (hp.kp (Kp.put hd))
noncomputable abbrev Rk:=GB.Rc
noncomputable abbrev Rk.vs(p:Rk):LUz:=[.int p.t,.int p.l,.int p.b,.int p.r]
noncomputable def Rk.len(p:Rk)(u:Bool):Int:=if u then p.r-p.l else p.b-p.t
noncomputable def Rk.fst(p:Rk)(u:Bool)(k:Int):Rk:=if u then ⟨p.t,p.l,p.b,p.l+k⟩ else ⟨p.t,p.l,p.t+k,p.r⟩
noncomputable def Rk.oth(p:Rk)(u:Bool)(k:Int):Rk:=if u then ⟨p.t,p.l+k,p.b,p.r⟩ else ⟨p.t+k,p.l,p.b,p.r⟩
noncomputable def BM(p:Rk)(t:Tr):Prop:=Fit t (p.r-p.l) (p.b-p.t)
theorem fitR_cut{p:Rk}{u:Bool}{k:Int}{x y:Tr}:BM p (.cut u k x y)↔(1<=k/\k<p.len u)/\BM (p.fst u k) x/\BM (p.oth u k) y:=by
 unfold BM Rk.len Rk.fst Rk.oth;rw[Fit];cases u with
 |true =>
  show(1<=k/\k<p.r-p.l/\Fit x k (p.b-p.t)/\Fit y (p.r-p.l-k) (p.b-p.t))↔((1<=k/\k<p.r-p.l)/\Fit x (p.l+k-p.l) (p.b-p.t)/\Fit y (p.r-(p.l+k)) (p.b-p.t));rw[show p.l+k-p.l=k by lia,show p.r-(p.l+k)=p.r-p.l-k by lia];exact⟨λ⟨a,b,c,d⟩=>⟨⟨a,b⟩,c,d⟩,λ⟨⟨a,b⟩,c,d⟩=>⟨a,b,c,d⟩⟩
 |false =>
  show(1<=k/\k<p.b-p.t/\Fit x (p.r-p.l) k/\Fit y (p.r-p.l) (p.b-p.t-k))↔((1<=k/\k<p.b-p.t)/\Fit x (p.r-p.l) (p.t+k-p.t)/\Fit y (p.r-p.l) (p.b-(p.t+k)));rw[show p.t+k-p.t=k by lia,show p.b-(p.t+k)=p.b-p.t-k by lia];exact⟨λ⟨a,b,c,d⟩=>⟨⟨a,b⟩,c,d⟩,λ⟨⟨a,b⟩,c,d⟩=>⟨a,b,c,d⟩⟩
noncomputable def AJ:Tr->Rk->List (Rk×Option Int)
 |.whole m,p=>[(p,m)]
 |.cut u k x y,p=>AJ x (p.fst u k)++AJ y (p.oth u k)
theorem Eb:∀(t:Tr)(p:Rk),(AJ t p).length=t.sz
 |.whole _,_=>rfl
 |.cut u k x y,p=>by rw[AJ,aH,Eb x,Eb y];rfl
theorem Cs:∀{t:Tr}{p:Rk},p.t<p.b->p.l<p.r->BM p t->∀g∈AJ t p,p.t<=g.1.t/\g.1.t<g.1.b/\g.1.b<=p.b/\p.l<=g.1.l/\g.1.l<g.1.r/\g.1.r<=p.r
 |.whole m,p,h1,h2,_,g,hg=>by
  rw[AJ]at hg;rw[af.mp hg];exact⟨a9 _,h1,a9 _,a9 _,h2,a9 _⟩
 |.cut u k x y,p,h1,h2,f,g,hg=>by
  rw[fitR_cut]at f;obtain⟨⟨a,b⟩,fx,fy⟩:=f;rw[AJ,az]at hg;cases u with
  |true =>
   have b:k<p.r-p.l:=b;rcases hg with hg|hg
   .have:=Cs (p:=p.fst true k) h1 (show p.l<p.l+k by lia) fx g hg;have:p.t<=g.1.t/\g.1.t<g.1.b/\g.1.b<=p.b/\p.l<=g.1.l/\g.1.l<g.1.r/\g.1.r<=p.l+k:=this;lia
   .have:=Cs (p:=p.oth true k) h1 (show p.l+k<p.r by lia) fy g hg;have:p.t<=g.1.t/\g.1.t<g.1.b/\g.1.b<=p.b/\p.l+k<=g.1.l/\g.1.l<g.1.r/\g.1.r<=p.r:=this;lia
  |false =>
   have b:k<p.b-p.t:=b;rcases hg with hg|hg
   .have:=Cs (p:=p.fst false k) (show p.t<p.t+k by lia) h2 fx g hg;have:p.t<=g.1.t/\g.1.t<g.1.b/\g.1.b<=p.t+k/\p.l<=g.1.l/\g.1.l<g.1.r/\g.1.r<=p.r:=this;lia
   .have:=Cs (p:=p.oth false k) (show p.t+k<p.b by lia) h2 fy g hg;have:p.t+k<=g.1.t/\g.1.t<g.1.b/\g.1.b<=p.b/\p.l<=g.1.l/\g.1.l<g.1.r/\g.1.r<=p.r:=this;lia
theorem Vx{t:Tr}{ww hh:Int}(f:Fit t ww hh):BM ⟨0,0,hh,ww⟩ t:=by
 show Fit t (ww-0) (hh-0);rw[dc,dc];exact f
theorem TU{t:Tr}{ww hh:Int}(w1:1<=ww)(h1:1<=hh)(f:Fit t ww hh):∀g∈AJ t ⟨0,0,hh,ww⟩,GB.Rc.In ww hh g.1:=λ g hg=>by
 have:0<=g.1.t/\g.1.t<g.1.b/\g.1.b<=hh/\0<=g.1.l/\g.1.l<g.1.r/\g.1.r<=ww:=Cs (p:=⟨0,0,hh,ww⟩) (show(0:Int)<hh by lia) (show(0:Int)<ww by lia) (Vx f) g hg;exact⟨this.1,this.2.1,this.2.2.1,this.2.2.2.1,this.2.2.2.2.1,this.2.2.2.2.2⟩
noncomputable abbrev PT:=jd×jd×Rk×Option Int
noncomputable abbrev pcs(ts:List PT):LUz:=ts.map λ t=>V.ref t.1
noncomputable abbrev cons(ts:List PT):List (Rk×Option Int):=ts.map λ t=>t.2.2
noncomputable def PcO(H:Hp)(ts:List PT):Prop:=∀t∈ts,H t.1=some (.tup [.ref t.2.1,GC t.2.2.2])/\H t.2.1=some (.tup t.2.2.1.vs)
theorem PcO.same{H H':Hp}{ts:List PT}(s:Same H H')(h:PcO H ts):PcO H' ts:=λ t ht=>⟨s _ _ (h t ht).1,s _ _ (h t ht).2⟩
inductive Pt(vs:LUz)(H:Hp)(Q:VK)(E:XK):Prop
 |mk (a:jd) (p:Rk) (u:Bool) (k:Int) (h0:vs=[.ref a,.str (wd u),.int k]) (h1:H a=some (.tup p.vs)) (h2:∀x,H x=none->Q (.ref x) (upd H x (.tup (p.fst u k).vs))):Pt vs H Q E
noncomputable def QY:Sp:=λ vs H Q E=>Pt vs H Q E
inductive Pq(vs:LUz)(H:Hp)(Q:VK)(E:XK):Prop
 |mk (a:jd) (p:Rk) (u:Bool) (k:Int) (h0:vs=[.ref a,.str (wd u),.int k]) (h1:H a=some (.tup p.vs)) (h2:∀x,H x=none->Q (.ref x) (upd H x (.tup (p.oth u k).vs))):Pq vs H Q E
noncomputable def QW:Sp:=λ vs H Q E=>Pq vs H Q E
theorem Iz{f:jd}{fd:jr}(F:Fun K "first_piece" "first_piece" CJ f fd)(T:Txt mg tk):A3 P w K mg ja CX0 1 f fd l9 QY:=by
 have S:Ak l9 l9 (Ah CJ):=fsk;refine F.g S ?_;rintro vs H Q E ⟨a,p,u,k,rfl,ha,q⟩;refine⟨rfl,λ cdv A i6 s hr=>?_⟩;refine⟨_,(Ab (AK (A4 op_eq Al (AF (v:=.str "upright") rfl T.gv ⟨_,rfl⟩)) (Af (Am (AB (Aa (Ax Aw Ai Ac) (Aa (Ax Aw Ai Ac) (Aa (Ax Aw Ai Ac) (Aj (Ap AC (Ax Aw Ai Ac) Ar)))))))) A1)
  (Af (Am (AB (Aa (Ax Aw Ai Ac) (Aa (Ax Aw Ai Ac) (Aa (Ap AC (Ax Aw Ai Ac) Ar) (Aj (Ax Aw Ai Ac))))))))),?_⟩
 cases u with
 |true=>exact⟨_,rfl,rfl,_,rfl,Cn (FT true true) ⟨_,rfl,a,_,_,_,rfl,rfl,SqT.of ha,at0,_,rfl,a,_,_,_,rfl,rfl,SqT.of ha,at1,_,rfl,a,_,_,_,rfl,rfl,SqT.of ha,at2,_,rfl,a,_,_,_,rfl,rfl,SqT.of ha,at1,_,rfl,_,_,rfl,rfl,A8 4,q⟩⟩
 |false=>exact⟨_,rfl,rfl,_,rfl,Bt (FT false true) ⟨_,rfl,a,_,_,_,rfl,rfl,SqT.of ha,at0,_,rfl,a,_,_,_,rfl,rfl,SqT.of ha,at1,_,rfl,a,_,_,_,rfl,rfl,SqT.of ha,at0,_,rfl,_,_,rfl,rfl,_,rfl,a,_,_,_,rfl,rfl,SqT.of ha,at3,A8 4,q⟩⟩
theorem Iw{f:jd}{fd:jr}(F:Fun K "other_piece" "other_piece" CH f fd)(T:Txt mg tk):A3 P w K mg ja CX0 1 f fd l9 QW:=by
 have S:Ak l9 l9 (Ah CH):=fsk;refine F.g S ?_;rintro vs H Q E ⟨a,p,u,k,rfl,ha,q⟩;refine⟨rfl,λ cdv A i6 s hr=>?_⟩;refine⟨_,(Ab (AK (A4 op_eq Al (AF (v:=.str "upright") rfl T.gv ⟨_,rfl⟩)) (Af (Am (AB (Aa (Ax Aw Ai Ac) (Aa (Ap AC (Ax Aw Ai Ac) Ar) (Aa (Ax Aw Ai Ac) (Aj (Ax Aw Ai Ac)))))))) A1)
  (Af (Am (AB (Aa (Ap AC (Ax Aw Ai Ac) Ar) (Aa (Ax Aw Ai Ac) (Aa (Ax Aw Ai Ac) (Aj (Ax Aw Ai Ac))))))))),?_⟩
 cases u with
 |true=>exact⟨_,rfl,rfl,_,rfl,Cn (FT true true) ⟨_,rfl,a,_,_,_,rfl,rfl,SqT.of ha,at0,_,rfl,a,_,_,_,rfl,rfl,SqT.of ha,at1,_,rfl,_,_,rfl,rfl,_,rfl,a,_,_,_,rfl,rfl,SqT.of ha,at2,_,rfl,a,_,_,_,rfl,rfl,SqT.of ha,at3,A8 4,q⟩⟩
 |false=>exact⟨_,rfl,rfl,_,rfl,Bt (FT false true) ⟨_,rfl,a,_,_,_,rfl,rfl,SqT.of ha,at0,_,rfl,_,_,rfl,rfl,_,rfl,a,_,_,_,rfl,rfl,SqT.of ha,at1,_,rfl,a,_,_,_,rfl,rfl,SqT.of ha,at2,_,rfl,a,_,_,_,rfl,rfl,SqT.of ha,at3,A8 4,q⟩⟩
noncomputable def PsAt(H:Hp)(ws:List (jd×Rk×Tr)):Prop:=∀p∈ws,H p.1=some (.tup p.2.1.vs)
noncomputable abbrev trs(ws:List (jd×Rk×Tr)):List (V×Tr):=ws.map λ p=>(V.ref p.1,p.2.2)
noncomputable abbrev B2(ws:List (jd×Rk×Tr)):LUz:=ws.map λ p=>V.ref p.1
theorem PsAt.kp{H H':Hp}{ws:List (jd×Rk×Tr)}(h:PsAt H ws)(k:Kp H H'):PsAt H' ws:=λ p hp=>k _ _ (h p hp) (by intro xs z;cases z)
theorem Qn{ws0:List (jd×Rk×Tr)}{p:jd×Rk×Tr}:(B2 (ws0++[p]))[(B2 (ws0++[p])).length-1]?=some (.ref p.1):=by
 rw[aa,aH,bx,Nat.add_sub_cancel,aE,dh (ah _),eJ];rfl
theorem Q3{ws0:List (jd×Rk×Tr)}{p:jd×Rk×Tr}:(B2 (ws0++[p])).dropLast=B2 ws0:=by
 show(List.map (λ p=>V.ref p.1) (ws0++[p])).dropLast=_;rw[ai,de,cZ]
theorem BW(ws:List (jd×Rk×Tr))(p:jd×Rk×Tr):trs (ws++[p])=trs ws++[(V.ref p.1,p.2.2)]:=by
 show List.map (λ p=>(V.ref p.1,p.2.2)) (ws++[p])=_;rw[ai];rfl
theorem Kd(ws:List (jd×Rk×Tr))(p:jd×Rk×Tr):B2 (ws++[p])=B2 ws++[V.ref p.1]:=by
 show List.map (λ p=>V.ref p.1) (ws++[p])=_;rw[ai];rfl
theorem R1(ts:List PT)(t:PT):pcs (ts++[t])=pcs ts++[V.ref t.1]:=by
 show List.map (λ p=>V.ref p.1) (ts++[t])=_;rw[ai];rfl
theorem Q7(ts:List PT)(t:PT):cons (ts++[t])=cons ts++[t.2.2]:=by
 show List.map (λ p=>p.2.2) (ts++[t])=_;rw[ai];rfl
noncomputable def Rk.lo(p:Rk)(u:Bool):Int:=if u then p.l else p.t
noncomputable def Rk.hi(p:Rk)(u:Bool):Int:=if u then p.r else p.b
theorem Bc{p:Rk}{u:Bool}:p.len u=p.hi u-p.lo u:=by cases u<;>rfl
theorem Ox{p:Rk}{u:Bool}{k a:Int}:(p.fst u k).fst u a=p.fst u a:=by cases u<;>rfl
theorem Ow{p:Rk}{u:Bool}{k a:Int}:(p.fst u k).oth u a=(p.oth u a).fst u (k-a):=by
 cases u
 .show(⟨p.t+a,p.l,p.t+k,p.r⟩:Rk)=⟨p.t+a,p.l,p.t+a+(k-a),p.r⟩;rw[show p.t+a+(k-a)=p.t+k by lia]
 .show(⟨p.t,p.l+a,p.b,p.l+k⟩:Rk)=⟨p.t,p.l+a,p.b,p.l+a+(k-a)⟩;rw[show p.l+a+(k-a)=p.l+k by lia]
theorem Ov{p:Rk}{u:Bool}{k a:Int}:(p.oth u a).oth u (k-a)=p.oth u k:=by
 cases u
 .show(⟨p.t+a+(k-a),p.l,p.b,p.r⟩:Rk)=⟨p.t+k,p.l,p.b,p.r⟩;rw[show p.t+a+(k-a)=p.t+k by lia]
 .show(⟨p.t,p.l+a+(k-a),p.b,p.r⟩:Rk)=⟨p.t,p.l+k,p.b,p.r⟩;rw[show p.l+a+(k-a)=p.l+k by lia]
theorem US{p:Rk}{u v:Bool}{k a:Int}(h:¬v=u):(p.fst v k).fst u a=(p.fst u a).fst v k/\(p.fst v k).oth u a=(p.oth u a).fst v k/\(p.oth v k).fst u a=(p.fst u a).oth v k/\(p.oth v k).oth u a=(p.oth u a).oth v k/\(p.fst v k).len u=p.len u/\(p.oth v k).len u=p.len u/\(p.fst v k).lo u=p.lo u/\(p.oth v k).lo u=p.lo u/\(p.fst u a).len v=p.len v/\(p.oth u a).len v=p.len v:=by
 cases u<;>cases v<;>first|exact absurd rfl h|exact⟨rfl,rfl,rfl,rfl,rfl,rfl,rfl,rfl,rfl,rfl⟩
theorem PM{p:Rk}{u:Bool}{k:Int}:(p.fst u k).len u=k/\(p.oth u k).len u=p.len u-k/\(p.fst u k).lo u=p.lo u/\(p.oth u k).lo u=p.lo u+k/\(p.fst u k).hi u=p.lo u+k:=by
 cases u
 .exact⟨show p.t+k-p.t=k by lia,show p.b-(p.t+k)=p.b-p.t-k by lia,rfl,rfl,rfl⟩
 .exact⟨show p.l+k-p.l=k by lia,show p.r-(p.l+k)=p.r-p.l-k by lia,rfl,rfl,rfl⟩
noncomputable abbrev Rk.ok(p:Rk):Prop:=p.t<p.b/\p.l<p.r
theorem Ic{p:Rk}{u:Bool}{k:Int}(h:p.ok)(a:1<=k)(b:k<p.len u):(p.fst u k).ok/\(p.oth u k).ok:=by
 cases u with
 |true =>
  have b:k<p.r-p.l:=b;exact⟨⟨h.1,show p.l<p.l+k by lia⟩,h.1,show p.l+k<p.r by lia⟩
 |false =>
  have b:k<p.b-p.t:=b;exact⟨⟨show p.t<p.t+k by lia,h.2⟩,show p.t+k<p.b by lia,h.2⟩
noncomputable def Thr:Tr->Bool->Int->Prop
 |.whole _,_,_=>False
 |.cut v k x y,u,a=>if v=u then (if a<k then Thr x u a else if k<a then Thr y u (a-k) else True) else Thr x u a/\Thr y u a
noncomputable def ahd:Tr->Bool->Int->Tr
 |.whole m,_,_=>.whole m
 |.cut v k x y,u,a=>if v=u then (if a<k then ahd x u a else if k<a then .cut v k x (ahd y u (a-k)) else x) else .cut v k (ahd x u a) (ahd y u a)
noncomputable def bhd:Tr->Bool->Int->Tr
 |.whole m,_,_=>.whole m
 |.cut v k x y,u,a=>if v=u then (if a<k then .cut v (k-a) (bhd x u a) y else if k<a then bhd y u (a-k) else y) else .cut v k (bhd x u a) (bhd y u a)
theorem Nt:∀t:Tr,1<=t.sz
 |.whole _=>ah _
 |.cut _ _ x y=>by
  have:=Nt x;rw[Tr.sz];lia
theorem Df:∀{t:Tr}{p:Rk}{u:Bool}{a:Int},BM p t->Thr t u a->(1<=a/\a<p.len u)->BM (p.fst u a) (ahd t u a)/\BM (p.oth u a) (bhd t u a)
 |.whole _,p,u,a,_,h,_=>h.elim
 |.cut v k x y,p,u,a,f,h,⟨a1,a2⟩=>by
  rw[fitR_cut]at f;obtain⟨⟨k1,k2⟩,fx,fy⟩:=f;rw[Thr]at h;rw[ahd,bhd];by_cases e:v=u
  .subst e;rw[jo rfl]at h;rw[jo rfl,jo rfl];obtain⟨s1,s2,_,_,_⟩:=PM (p:=p) (u:=v) (k:=k);by_cases c:a<k
   .rw[jo c]at h;rw[jo c,jo c,fitR_cut];obtain⟨i1,i2⟩:=Df fx h ⟨a1,by rw[s1];exact c⟩;rw[Ox]at i1;rw[Ow]at i2;refine⟨i1,⟨by lia,?_⟩,i2,by rw[Ov];exact fy⟩;have:=(PM (p:=p) (u:=v) (k:=a)).2.1;lia
   .rw[jj c]at h;rw[jj c,jj c];by_cases c2:k<a
    .rw[jo c2]at h;rw[jo c2,jo c2,fitR_cut];obtain⟨i1,i2⟩:=Df fy h ⟨by lia,by rw[s2];lia⟩;rw[<-Ow]at i1;rw[Ov]at i2;refine⟨⟨⟨k1,?_⟩,by rw[Ox];exact fx,i1⟩,i2⟩;have:=(PM (p:=p) (u:=v) (k:=a)).1;lia
    .rw[jj c2,jj c2];have:a=k:=by lia
     rw[this];exact⟨fx,fy⟩
  .rw[jj e]at h;rw[jj e,jj e,fitR_cut,fitR_cut];obtain⟨e1,e2,e3,e4,e5,e6,_,_,e9,e10⟩:=US (p:=p) (u:=u) (v:=v) (k:=k) (a:=a) e;obtain⟨i1,i2⟩:=Df fx h.1 ⟨a1,by rw[e5];exact a2⟩;obtain⟨j1,j2⟩:=Df fy h.2 ⟨a1,by rw[e6];exact a2⟩;rw[e1]at i1;rw[e2]at i2;rw[e3]at j1;rw[e4]at j2;exact⟨⟨⟨k1,by rw[e9];exact k2⟩,i1,j1⟩,⟨k1,by rw[e10];exact k2⟩,i2,j2⟩
theorem Ws{α:Type}{A B C D:List α}:((A++B)++(C++D)).Perm ((A++C)++(B++D)):=by
 rw[aZ,aZ];refine List.Perm.append_left A ?_;rw[<-aZ,<-aZ];exact List.Perm.append_right D List.perm_append_comm
theorem De:∀{t:Tr}{p:Rk}{u:Bool}{a:Int},Thr t u a->(AJ t p).Perm (AJ (ahd t u a) (p.fst u a)++AJ (bhd t u a) (p.oth u a))
 |.whole _,p,u,a,h=>h.elim
 |.cut v k x y,p,u,a,h=>by
  rw[Thr]at h;rw[ahd,bhd];by_cases e:v=u
  .subst e;rw[jo rfl]at h;rw[jo rfl,jo rfl];by_cases c:a<k
   .rw[jo c]at h;rw[jo c,jo c,AJ,AJ,Ov,<-Ow,<-aZ];have:=De (p:=p.fst v k) h;rw[Ox]at this;exact this.append_right _
   .rw[jj c]at h;rw[jj c,jj c];by_cases c2:k<a
    .rw[jo c2]at h;rw[jo c2,jo c2,AJ,AJ,Ox,Ow,aZ];have:=De (p:=p.oth v k) h;rw[Ov]at this;exact this.append_left _
    .rw[jj c2,jj c2];have:a=k:=by lia
     rw[this,AJ]
  .rw[jj e]at h;rw[jj e,jj e,AJ,AJ,AJ];obtain⟨e1,e2,e3,e4,_⟩:=US (p:=p) (u:=u) (v:=v) (k:=k) (a:=a) e;have i:=De (p:=p.fst v k) h.1;have j:=De (p:=p.oth v k) h.2;rw[e1,e2]at i;rw[e3,e4]at j;exact(i.append j).trans Ws
noncomputable def brk(u:Bool)(line:Int)(g:Rk×Option Int):Prop:=g.1.lo u<line/\line<g.1.hi u
theorem HK:∀{t:Tr}{p:Rk}{u:Bool}{a:Int},BM p t->1<=a->a<p.len u->(∀g∈AJ t p,¬brk u (p.lo u+a) g)->Thr t u a
 |.whole m,p,u,a,_,h1,h2,h=>by
  rw[AJ]at h;rw[Bc]at h2;exact absurd (show p.lo u<p.lo u+a/\p.lo u+a<p.hi u by lia) (h (p,m) (af.mpr rfl))
 |.cut v k x y,p,u,a,f,h1,h2,h=>by
  rw[fitR_cut]at f;obtain⟨⟨k1,k2⟩,fx,fy⟩:=f;rw[AJ]at h;rw[Thr];by_cases e:v=u
  .subst e;rw[jo rfl];obtain⟨s1,s2,s3,s4,_⟩:=PM (p:=p) (u:=v) (k:=k);by_cases c:a<k
   .rw[jo c];exact HK fx h1 (by rw[s1];exact c) λ g hg=>by rw[s3];exact h g (az.mpr (.inl hg))
   .rw[jj c];by_cases c2:k<a
    .rw[jo c2];exact HK fy (by lia) (by rw[s2];lia) λ g hg=>by rw[s4,show p.lo v+k+(a-k)=p.lo v+a by lia];exact h g (az.mpr (.inr hg))
    .rw[jj c2];trivial
  .rw[jj e];obtain⟨_,_,_,_,e5,e6,e7,e8,_⟩:=US (p:=p) (u:=u) (v:=v) (k:=k) (a:=a) e;exact⟨HK fx h1 (by rw[e5];exact h2) λ g hg=>by rw[e7];exact h g (az.mpr (.inl hg)),HK fy h1 (by rw[e6];exact h2) λ g hg=>by rw[e8];exact h g (az.mpr (.inr hg))⟩
theorem Gx{t:Tr}{p:Rk}(h:p.ok)(f:BM p t){g:Rk×Option Int}(hg:g∈AJ t p)(u:Bool):p.lo u<=g.1.lo u/\g.1.lo u<g.1.hi u/\g.1.hi u<=p.hi u:=by
 have:=Cs h.1 h.2 f g hg;cases u
 .exact⟨this.1,this.2.1,this.2.2.1⟩
 .exact⟨this.2.2.2.1,this.2.2.2.2.1,this.2.2.2.2.2⟩
theorem Fj{x y:Tr}{p:Rk}{u:Bool}{k:Int}(h:p.ok)(k1:1<=k)(k2:k<p.len u)(fx:BM (p.fst u k) x)(fy:BM (p.oth u k) y) :
  ((AJ x (p.fst u k)++AJ y (p.oth u k)).filter λ g=>decide (g.1.lo u<p.lo u+k))=AJ x (p.fst u k)/\((AJ x (p.fst u k)++AJ y (p.oth u k)).filter λ g=>decide (p.lo u+k<=g.1.lo u))=AJ y (p.oth u k)/\∀g∈AJ x (p.fst u k)++AJ y (p.oth u k),¬brk u (p.lo u+k) g:=by
 obtain⟨o1,o2⟩:=Ic h k1 k2;obtain⟨_,_,s3,s4,s5⟩:=PM (p:=p) (u:=u) (k:=k);have i1:∀g∈AJ x (p.fst u k),g.1.lo u<p.lo u+k/\g.1.hi u<=p.lo u+k:=λ g hg=>by
  have:=Gx o1 fx hg u;rw[s5]at this;lia
 have i2:∀g∈AJ y (p.oth u k),p.lo u+k<=g.1.lo u:=λ g hg=>by
  have:=Gx o2 fy hg u;rw[s4]at this;lia
 refine⟨?_,?_,λ g hg z=>?_⟩
 .rw[bC,cj.mpr (λ g hg=>jn (i1 g hg).1),cQ.mpr (λ g hg z=>by have:=jF z;have:=i2 g hg;lia),aR]
 .rw[bC,cj.mpr (λ g hg=>jn (i2 g hg)),cQ.mpr (λ g hg z=>by have:=jF z;have:=i1 g hg;lia),dG]
 .obtain⟨z1,z2⟩:=z;rcases az.mp hg with hg|hg
  .have:=i1 g hg;lia
  .have:=i2 g hg;lia
theorem Kg{t:Tr}{p:Rk}{u:Bool}{a:Int}{L:List (Rk×Option Int)}(h:p.ok)(f:BM p t)(e:L.Perm (AJ t p))(a1:1<=a)(a2:a<p.len u)(hb:∀g∈L,¬brk u (p.lo u+a) g) :
  Thr t u a/\BM (p.fst u a) (ahd t u a)/\BM (p.oth u a) (bhd t u a)/\(L.filter λ g=>decide (g.1.lo u<p.lo u+a)).Perm (AJ (ahd t u a) (p.fst u a))/\(L.filter λ g=>decide (p.lo u+a<=g.1.lo u)).Perm (AJ (bhd t u a) (p.oth u a)):=by
 have th:=HK f a1 a2 λ g hg=>hb g (e.mem_iff.mpr hg);obtain⟨f1,f2⟩:=Df f th ⟨a1,a2⟩;obtain⟨q1,q2,_⟩:=Fj h a1 a2 f1 f2;have:=e.trans (De (p:=p) th);refine⟨th,f1,f2,?_,?_⟩
 .have:=this.filter (λ g=>decide (g.1.lo u<p.lo u+a));rw[q1]at this;exact this
 .have:=this.filter (λ g=>decide (p.lo u+a<=g.1.lo u));rw[q2]at this;exact this
theorem UP:∀{t:Tr},t.sz=1->∃m,t=.whole m
 |.whole m,_=>⟨m,rfl⟩
 |.cut _ _ x y,h=>by
  have:=Nt x;have:=Nt y;rw[Tr.sz]at h;lia
noncomputable def gD(g:Rk×Option Int):D:=.tup (.cons (.tup (.cons (.at (.int g.1.t)) (.cons (.at (.int g.1.l)) (.cons (.at (.int g.1.b)) (.cons (.at (.int g.1.r)) .nil))))) (.cons (.at (GC g.2)) .nil))
theorem IR:∀{t:Tr}{p:Rk},p.t<p.b->p.l<p.r->BM p t->((AJ t p).map (·.1)).Pairwise GB.Apart
 |.whole m,p,_,_,_=>by rw[AJ];exact fC _ _
 |.cut u k x y,p,h1,h2,f=>by
  rw[fitR_cut]at f;obtain⟨⟨a,b⟩,fx,fy⟩:=f;obtain⟨⟨a1,a2⟩,b1,b2⟩:((p.fst u k).t<(p.fst u k).b/\(p.fst u k).l<(p.fst u k).r)/\(p.oth u k).t<(p.oth u k).b/\(p.oth u k).l<(p.oth u k).r:=by
   cases u with
   |true =>
    have b:k<p.r-p.l:=b;exact⟨⟨h1,show p.l<p.l+k by lia⟩,h1,show p.l+k<p.r by lia⟩
   |false =>
    have b:k<p.b-p.t:=b;exact⟨⟨show p.t<p.t+k by lia,h2⟩,show p.t+k<p.b by lia,h2⟩
  rw[AJ,ai,fP];refine⟨IR a1 a2 fx,IR b1 b2 fy,λ q hq q' hq' r c z z'=>?_⟩;obtain⟨g,hg,rfl⟩:=ao.mp hq;obtain⟨g',hg',rfl⟩:=ao.mp hq';have i1:=Cs a1 a2 fx g hg;have i2:=Cs b1 b2 fy g' hg';obtain⟨z1,z2,z3,z4⟩:=z;obtain⟨z5,z6,z7,z8⟩:=z';cases u with
  |true =>
   have i1:p.t<=g.1.t/\g.1.t<g.1.b/\g.1.b<=p.b/\p.l<=g.1.l/\g.1.l<g.1.r/\g.1.r<=p.l+k:=i1;have i2:p.t<=g'.1.t/\g'.1.t<g'.1.b/\g'.1.b<=p.b/\p.l+k<=g'.1.l/\g'.1.l<g'.1.r/\g'.1.r<=p.r:=i2;lia
  |false =>
   have i1:p.t<=g.1.t/\g.1.t<g.1.b/\g.1.b<=p.t+k/\p.l<=g.1.l/\g.1.l<g.1.r/\g.1.r<=p.r:=i1;have i2:p.t+k<=g'.1.t/\g'.1.t<g'.1.b/\g'.1.b<=p.b/\p.l<=g'.1.l/\g'.1.l<g'.1.r/\g'.1.r<=p.r:=i2;lia
theorem RF:∀t:Tr,t.nd+1=2*t.sz
 |.whole _=>by rw[Tr.nd,Tr.sz]
 |.cut _ _ x y=>by have:=RF x;have:=RF y;rw[Tr.nd,Tr.sz];lia
theorem none_of{H H':Hp}{l:jd}(s:Same H H')(h:H' l=none):H l=none:=by
 cases e:H l with
 |none=>rfl
 |some o=>rw[s _ _ e]at h;cases h
noncomputable def sd(u:Bool):Int:=if u then 1 else 0
theorem Ph{p:Rk}{u:Bool}:atI p.vs (sd u)=some (.int (p.lo u)):=by cases u<;>rfl
theorem U5{p:Rk}{u:Bool}:atI p.vs (sd u+2)=some (.int (p.hi u)):=by cases u<;>rfl
theorem DQ{p:Rk}(h:p.ok)(u:Bool):p.lo u<p.hi u:=by
 cases u
 .exact h.1
 .exact h.2
theorem OD{ts:List PT}{i:Nat}{x:V}(h:(pcs ts)[i]?=some x):∃u,ts[i]?=some u/\x=.ref u.1:=by
 rw[aE]at h;cases e:ts[i]? with
 |none=>rw[e]at h;cases h
 |some u=>rw[e]at h;exact⟨u,rfl,(Option.some.inj h).symm⟩
theorem Wf{p:Rk}{u:Bool}{a:Int}(h:∀v,0<=p.lo v/\p.hi v<=12)(a1:1<=a)(a2:a<p.len u):(∀v,0<=(p.fst u a).lo v/\(p.fst u a).hi v<=12)/\(∀v,0<=(p.oth u a).lo v/\(p.oth u a).hi v<=12)/\(p.fst u a).len true+(p.fst u a).len false<p.len true+p.len false/\(p.oth u a).len true+(p.oth u a).len false<p.len true+p.len false:=by
 obtain⟨x1,x2⟩:=h true;obtain⟨y1,y2⟩:=h false;have x1:0<=p.l:=x1;have x2:p.r<=12:=x2;have y1:0<=p.t:=y1;have y2:p.b<=12:=y2;cases u with
 |true =>
  have a2:a<p.r-p.l:=a2;refine⟨λ v=>?_,λ v=>?_,?_,?_⟩
  .cases v
   .exact⟨y1,y2⟩
   .exact⟨x1,show p.l+a<=12 by lia⟩
  .cases v
   .exact⟨y1,y2⟩
   .exact⟨show 0<=p.l+a by lia,x2⟩
  .show p.l+a-p.l+(p.b-p.t)<p.r-p.l+(p.b-p.t);lia
  .show p.r-(p.l+a)+(p.b-p.t)<p.r-p.l+(p.b-p.t);lia
 |false =>
  have a2:a<p.b-p.t:=a2;refine⟨λ v=>?_,λ v=>?_,?_,?_⟩
  .cases v
   .exact⟨y1,show p.t+a<=12 by lia⟩
   .exact⟨x1,x2⟩
  .cases v
   .exact⟨show 0<=p.t+a by lia,y2⟩
   .exact⟨x1,x2⟩
  .show p.r-p.l+(p.t+a-p.t)<p.r-p.l+(p.b-p.t);lia
  .show p.r-p.l+(p.b-(p.t+a))<p.r-p.l+(p.b-p.t);lia
noncomputable def QG(en:Rk->En)(D:Rk->Prop):Tr->Rk->Prop
 |.whole m,p=>D p/\en p=.w m
 |.cut u k x y,p=>D p/\en p=.c u k/\QG en D x (p.fst u k)/\QG en D y (p.oth u k)
noncomputable def FO(u:Bool)(a:Int)(r:Rk):Bool:=decide (r.lo u<a)&&decide (a<r.hi u)
theorem brkR_iff{u:Bool}{a:Int}{r:Rk}:FO u a r=true↔r.lo u<a/\a<r.hi u:=by
 unfold FO;rw[ax,jp,jp]
noncomputable def Gv(rs:List Rk)(u:Bool)(lo:Int):Nat->List Int
 |0=>[]
 |n+1=>Gv rs u lo n++if rs.any (FO u (lo+1+n))=true then [] else [lo+1+n]
noncomputable def lns(rs:List Rk)(p:Rk)(u:Bool):List Int:=Gv rs u (p.lo u) (p.hi u-(p.lo u+1)).toNat
theorem M8{rs:List Rk}{u:Bool}{lo:Int}:∀{n:Nat}{a:Int},a∈Gv rs u lo n↔lo<a/\a<lo+1+n/\∀r∈rs,¬(r.lo u<a/\a<r.hi u)
 |0,a=>by
  rw[Gv];exact⟨λ h=>absurd h bi,λ h=>by lia⟩
 |n+1,a=>by
  rw[Gv,az,M8]
  constructor
  .rintro(⟨h1,h2,h3⟩|h)
   .exact⟨h1,by lia,h3⟩
   .split at h
    .cases h
    .rename_i hn;cases af.mp h;refine⟨by lia,by lia,λ r hr z=>hn ?_⟩;exact cE.mpr ⟨r,hr,brkR_iff.mpr z⟩
  .rintro⟨h1,h2,h3⟩;by_cases e:a=lo+1+n
   .right
    subst e;rw[jj (λ z=>by obtain⟨r,hr,hz⟩:=cE.mp z;exact h3 r hr (brkR_iff.mp hz))];exact af.mpr rfl
   .exact .inl ⟨h1,by lia,h3⟩
theorem M9{rs:List Rk}{u:Bool}{lo:Int}:∀n:Nat,(Gv rs u lo n).length<=n
 |0=>ah _
 |n+1=>by
  have:=M9 (rs:=rs) (u:=u) (lo:=lo) n;rw[Gv,aH];split<;>simp<;>lia
theorem Hq{rs:List Rk}{p:Rk}{u:Bool}{a:Int}(h:p.ok):a∈lns rs p u↔p.lo u<a/\a<p.hi u/\∀r∈rs,¬(r.lo u<a/\a<r.hi u):=by
 have:p.lo u<p.hi u:=DQ h u;unfold lns;rw[M8]
 constructor
 .rintro⟨a1,a2,a3⟩;exact⟨a1,by lia,a3⟩
 .rintro⟨a1,a2,a3⟩;exact⟨a1,by lia,a3⟩
noncomputable def Ft(rs:List Rk)(p:Rk):List (Bool×Int):=(lns rs p true).map (λ a=>(true,a))++(lns rs p false).map (λ a=>(false,a))
theorem FD{rs:List Rk}{p:Rk}{c:Bool×Int}(h:p.ok):c∈Ft rs p↔p.lo c.1<c.2/\c.2<p.hi c.1/\∀r∈rs,¬(r.lo c.1<c.2/\c.2<r.hi c.1):=by
 obtain⟨u,a⟩:=c;unfold Ft;rw[az,ao,ao]
 constructor
 .rintro(⟨b,hb,e⟩|⟨b,hb,e⟩)<;>cases e<;>exact(Hq h).mp hb
 .intro z;cases u
  .exact .inr ⟨a,(Hq h).mpr z,rfl⟩
  .exact .inl ⟨a,(Hq h).mpr z,rfl⟩
noncomputable def thE(p:Rk):List (Bool×Int)->En
 |c::_=>.c c.1 (c.2-p.lo c.1)
 |[]=>.w none
noncomputable def enL(L:List (Rk×Option Int))(p:Rk):En:=match L with
 |[g]=>.w g.2
 |_=>thE p (Ft (L.map (·.1)) p)
theorem Sn{L:List (Rk×Option Int)}{p:Rk}(h:L.length≠1):enL L p=thE p (Ft (L.map (·.1)) p):=by
 match L,h with
 |[],_=>rfl
 |[g],h=>exact absurd rfl h
 |_::_::_,_=>rfl
noncomputable def Ins(r p:Rk):Prop:=p.t<=r.t/\p.l<=r.l/\r.b<=p.b/\r.r<=p.r
noncomputable instance (r p:Rk):Decidable (Ins r p):=inferInstanceAs (Decidable (_/\_/\_/\_))
noncomputable def inP(L:List (Rk×Option Int))(p:Rk):List (Rk×Option Int):=L.filter λ g=>decide (Ins g.1 p)
theorem ins_iff{r p:Rk}:Ins r p↔∀u,p.lo u<=r.lo u/\r.hi u<=p.hi u:=by
 constructor
 .rintro⟨a,b,c,d⟩ u;cases u
  .exact⟨a,c⟩
  .exact⟨b,d⟩
 .intro h;exact⟨(h false).1,(h true).1,(h false).2,(h true).2⟩
theorem Ka{p:Rk}{u v:Bool}{k:Int}(k1:1<=k)(k2:k<p.len u):(p.fst u k).lo v=p.lo v/\(p.fst u k).hi v=(if u=v then p.lo u+k else p.hi v)/\(p.oth u k).lo v=(if u=v then p.lo u+k else p.lo v)/\(p.oth u k).hi v=p.hi v:=by
 cases u<;>cases v<;>exact⟨rfl,rfl,rfl,rfl⟩
theorem Sd{L:List (Rk×Option Int)}{p:Rk}{u:Bool}{k:Int}(hL:∀g∈L,∀v,g.1.lo v<g.1.hi v)(k1:1<=k)(k2:k<p.len u)(nb:∀g∈inP L p,¬brk u (p.lo u+k) g) :
  inP L (p.fst u k)=(inP L p).filter (λ g=>decide (g.1.lo u<p.lo u+k))/\inP L (p.oth u k)=(inP L p).filter (λ g=>decide (p.lo u+k<=g.1.lo u)):=by
 rw[Bc]at k2;have k2':k<p.len u:=by rw[Bc];exact k2
 unfold inP;rw[List.filter_filter,List.filter_filter]
 constructor
 .refine dq λ g hg=>?_;rw[cy,ax,jp,jp,jp];have lt:=hL g hg u
  constructor
  .intro z;have zz:=ins_iff.mp z;have zu:=zz u;obtain⟨_,r2,_,_⟩:=Ka (p:=p) (u:=u) (v:=u) k1 k2';rw[r2,jo rfl]at zu;refine⟨by lia,ins_iff.mpr λ v=>?_⟩;have zv:=zz v;obtain⟨q1,q2,_,_⟩:=Ka (p:=p) (u:=u) (v:=v) k1 k2';rw[q1,q2]at zv;by_cases e:u=v
   .subst e;rw[jo rfl]at zv;lia
   .rw[jj e]at zv;exact zv
  .rintro⟨a,b⟩;have nbg:=nb g (b7.mpr ⟨hg,jn b⟩);have bb:=ins_iff.mp b;refine ins_iff.mpr λ v=>?_;have bv:=bb v;obtain⟨q1,q2,_,_⟩:=Ka (p:=p) (u:=u) (v:=v) k1 k2';rw[q1,q2];by_cases e:u=v
   .subst e;rw[jo rfl];exact⟨bv.1,Classical.byContradiction λ z=>nbg ⟨a,by lia⟩⟩
   .rw[jj e];exact bv
 .refine dq λ g hg=>?_;rw[cy,ax,jp,jp,jp];have lt:=hL g hg u
  constructor
  .intro z;have zz:=ins_iff.mp z;have zu:=zz u;obtain⟨_,_,r3,_⟩:=Ka (p:=p) (u:=u) (v:=u) k1 k2';rw[r3,jo rfl]at zu;refine⟨zu.1,ins_iff.mpr λ v=>?_⟩;have zv:=zz v;obtain⟨_,_,q3,q4⟩:=Ka (p:=p) (u:=u) (v:=v) k1 k2';rw[q3,q4]at zv;by_cases e:u=v
   .subst e;rw[jo rfl]at zv;lia
   .rw[jj e]at zv;exact zv
  .rintro⟨a,b⟩;have bb:=ins_iff.mp b;refine ins_iff.mpr λ v=>?_;have bv:=bb v;obtain⟨_,_,q3,q4⟩:=Ka (p:=p) (u:=u) (v:=v) k1 k2';rw[q3,q4];by_cases e:u=v
   .subst e;rw[jo rfl];exact⟨a,bv.2⟩
   .rw[jj e];exact bv
noncomputable def IsF:Tr->List (Rk×Option Int)->Rk->Prop
 |.whole m,L,p=>L=[(p,m)]
 |.cut u k x y,L,p=>(Ft (L.map (·.1)) p).head?=some (u,p.lo u+k)/\IsF x (L.filter λ g=>decide (g.1.lo u<p.lo u+k)) (p.fst u k)/\IsF y (L.filter λ g=>decide (p.lo u+k<=g.1.lo u)) (p.oth u k)
noncomputable def DF(L:List (Rk×Option Int))(p:Rk):Prop:=p.ok/\(∀u,0<=p.lo u/\p.hi u<=12)/\∃t,BM p t/\(inP L p).Perm (AJ t p)
theorem Qy{L:List (Rk×Option Int)}(hL:∀g∈L,∀v,g.1.lo v<g.1.hi v):∀(n:Nat)(p:Rk),(p.len true+p.len false).toNat=n->DF L p->∃F,QG (λ p=>enL (inP L p) p) (DF L) F p/\BM p F/\IsF F (inP L p) p/\(AJ F p).Perm (inP L p):=by
 intro n
 induction n using Nat.strongRecOn with
 |ind n ih =>
  intro p hn df;have df0:=df;obtain⟨ok,bd,t,fit,pm⟩:=df;have len:=pm.length_eq;rw[Eb]at len;by_cases h1:(inP L p).length=1
  .obtain⟨g,hg⟩:=dC.mp h1;obtain⟨m,rfl⟩:=UP (len.symm.trans h1);rw[AJ,hg]at pm;have e:=af.mp (pm.mem_iff.mp (af.mpr rfl));subst e;refine⟨.whole m,⟨df0,by show enL (inP L p) p=_;rw[hg];rfl⟩,trivial,hg,by rw[hg];exact cJ _⟩
  .obtain⟨c,rest,hc⟩:∃c rest,Ft ((inP L p).map (·.1)) p=c::rest:=by
    cases t with
    |whole m=>exact absurd len h1
    |cut u0 k0 x0 y0 =>
     obtain⟨⟨k1,k2⟩,fx,fy⟩:=fitR_cut.mp fit;obtain⟨_,_,nb⟩:=Fj ok k1 k2 fx fy;rw[Bc]at k2;have m:=(FD (rs:=(inP L p).map (·.1)) (c:=(u0,p.lo u0+k0)) ok).mpr ⟨by show p.lo u0<p.lo u0+k0;lia,by show p.lo u0+k0<p.hi u0;lia,λ r hr z=>by
      obtain⟨g,hg,rfl⟩:=ao.mp hr;exact nb g (by have:=pm.mem_iff.mp hg;rw[AJ]at this;exact this) z⟩
     cases q:Ft ((inP L p).map (·.1)) p with
     |nil=>rw[q]at m;cases m
     |cons c r=>exact⟨c,r,rfl⟩
   obtain⟨u,a⟩:=c;obtain⟨a1,a2,nb⟩:=(FD ok).mp (hc ▸ aw:(u,a)∈Ft ((inP L p).map (·.1)) p);have a1:p.lo u<a:=a1;have a2:a<p.hi u:=a2;obtain⟨k,rfl⟩:∃k,a=p.lo u+k:=⟨a-p.lo u,by lia⟩;have k1:1<=k:=by lia
   have k2:k<p.len u:=by rw[Bc];lia
   have nb':∀g∈inP L p,¬brk u (p.lo u+k) g:=λ g hg z=>nb g.1 (ao.mpr ⟨g,hg,rfl⟩) z;obtain⟨th,fa,fb,q1,q2⟩:=Kg ok fit pm k1 k2 nb';obtain⟨o1,o2⟩:=Ic (u:=u) ok k1 k2;obtain⟨l1,l2,lt1,lt2⟩:=Wf (u:=u) (a:=k) bd k1 k2;obtain⟨i1,i2⟩:=Sd hL k1 k2 nb';have d1:DF L (p.fst u k):=⟨o1,l1,_,fa,by rw[i1];exact q1⟩;have d2:DF L (p.oth u k):=⟨o2,l2,_,fb,by rw[i2];exact q2⟩;have pos1:0<=(p.fst u k).len true+(p.fst u k).len false:=by
    have:=DQ o1 true;have:=DQ o1 false;rw[Bc,Bc];lia
   have pos2:0<=(p.oth u k).len true+(p.oth u k).len false:=by
    have:=DQ o2 true;have:=DQ o2 false;rw[Bc,Bc];lia
   obtain⟨X,gx,fx,sx,px⟩:=ih _ (by lia) (p.fst u k) rfl d1;obtain⟨Y,gy,fy,sy,py⟩:=ih _ (by lia) (p.oth u k) rfl d2;refine⟨.cut u k X Y,⟨df0,?_,gx,gy⟩,fitR_cut.mpr ⟨⟨k1,k2⟩,fx,fy⟩,⟨by rw[hc];rfl,i1 ▸ sx,i2 ▸ sy⟩,?_⟩
   .show enL (inP L p) p=_;rw[Sn h1,hc];show En.c u (p.lo u+k-p.lo u)=_;rw[show p.lo u+k-p.lo u=k by lia]
   .rw[AJ];refine(px.append py).trans ?_;rw[i1,i2];exact(q1.append q2).trans ((De (p:=p) th).symm.trans pm.symm)
theorem QQ{M:List (Rk×Option Int)}{t:Tr}{p:Rk}(ok:p.ok)(fit:BM p t)(pm:M.Perm (AJ t p))(h1:M.length≠1):Ft (M.map (·.1)) p≠[]:=λ q=>by
 have len:=pm.length_eq;rw[Eb]at len;cases t with
 |whole m=>exact absurd len h1
 |cut u0 k0 x0 y0 =>
  obtain⟨⟨k1,k2⟩,fx,fy⟩:=fitR_cut.mp fit;obtain⟨_,_,nb⟩:=Fj ok k1 k2 fx fy;rw[Bc]at k2;have m:=(FD (rs:=M.map (·.1)) (c:=(u0,p.lo u0+k0)) ok).mpr ⟨by show p.lo u0<p.lo u0+k0;lia,by show p.lo u0+k0<p.hi u0;lia,λ r hr z=>by
   obtain⟨g,hg,rfl⟩:=ao.mp hr;exact nb g (by have:=pm.mem_iff.mp hg;rw[AJ]at this;exact this) z⟩
  rw[q]at m;cases m
noncomputable def PnO(H:Hp)(ts:List (jd×Rk)):Prop:=∀t∈ts,H t.1=some (.tup t.2.vs)
theorem PnO.same{H H':Hp}{ts:List (jd×Rk)}(h:PnO H ts)(s:Same H H'):PnO H' ts:=λ t ht=>s _ _ (h t ht)
inductive Px(vs:LUz)(H:Hp)(Q:VK)(E:XK):Prop
 |mk (a:Int) (b:jd) (r:Rk) (u:Bool) (h0:vs=[.int a,.ref b,.int (sd u)]) (h1:H b=some (.tup r.vs)) (h2:Q (.bl (FO u a r)) H):Px vs H Q E
noncomputable def QZ:Sp:=λ vs H Q E=>Px vs H Q E
theorem Ix{f:jd}{fd:jr}(F:Fun K "line_breaks" "line_breaks" CI f fd):A3 P w K mg ja CX0 1 f fd mG QZ:=by
 have S:Ak mG mG (Ah CI):=fsk;refine F.g S ?_;rintro vs H Q E ⟨a,b,r,u,rfl,hb,q⟩;refine⟨rfl,λ cdv A i6 s hr=>?_⟩;refine⟨_,(Af (Am (F6 D4 D4 (Ax Aw Al Ar) Ai (Ax Aw Al (Ap AC Ar Ac))))),?_⟩;unfold FO at q;refine⟨_,rfl,_,rfl,b,_,_,_,rfl,rfl,SqT.of hb,Ph,_,rfl,_,_,rfl,rfl,_,rfl,BA (λ h1=>?_) (λ h1=>?_)⟩
 .rw[h1,Bool.true_and]at q;exact⟨_,rfl,_,rfl,_,_,rfl,rfl,b,_,_,_,rfl,rfl,SqT.of hb,U5,_,_,rfl,rfl,q⟩
 .rw[h1]at q;exact q
inductive Nc(vs:LUz)(H:Hp)(Q:VK)(E:XK):Prop
 |mk (a:Int) (l:jd) (ts:List (jd×Rk)) (u:Bool) (h0:vs=[.int a,.ref l,.int (sd u)]) (h1:H l=some (.lst (A9 ts))) (h2:PnO H ts) (h3:ts.length<=150) (h4:∀H',Same H H'->Q (.bl (!(rcs ts).any (FO u a))) H'):Nc vs H Q E
noncomputable def Os:Sp:=λ vs H Q E=>Nc vs H Q E
theorem Hc{f:jd}{fd:jr}(F:Fun K "goes_through" "goes_through" C3 f fd)(T:Txt mg tk)(gR:Aq P w K mg ja 1 "line_breaks" mG QZ):A3 P w K mg ja CX0 2 f fd mt Os:=by
 have S:Ak mt mt (Ah C3):=fsk;refine F.g S ?_;rintro vs H Q E ⟨a,l,ts,u,rfl,hl,hat,few,q⟩;refine⟨rfl,λ cdv A i6 s hr=>?_⟩;refine⟨_,(Af (Am (N6 (AL Jl T.z_any (Aj (Bi rfl (A6 Al) (λ_ _ _ _ _=>pgk (nk ["pane","line","side"])) (λ_ _ _ _ _=>(Ao gR hr (Aa Al (Aa Ai (Aj Ar))))) (N:=["pane","line","side"]) (fr:=[none,some 0,some 2]))))))),?_⟩;refine⟨_,rfl,l,rfl,⟨_,SqL.of hl⟩,λ acc jb=>Be (K:=K) (a:=l) (ys:=A9 ts) (λ i xs σ H'=>(∃y,σ=[y,some (.int a),some (.int (sd u))])/\Same H H'/\xs=((rcs ts).take i).map λ p=>V.bl (FO u a p)) ⟨⟨none,rfl⟩,Same.new jb,rfl⟩ (λ i xs σ H' _ _ hp=>SqL.of (hp.2.1 _ _ hl)) ?_ ?_⟩
 .rintro i x xs σ H' hx hi hl' jb' ⟨⟨y,rfl⟩,s4,rfl⟩;obtain⟨t,ht,rfl⟩:=BF hx;have hta:=s4 _ _ (hat t (aA ht));have er:(rcs ts)[i]?=some t.2:=by rw[aE,ht];rfl
  refine⟨_,rfl,_,rfl,_,rfl,a,t.1,t.2,u,rfl,hta,?_⟩;refine cNx.mk (aN (An (by rw[AU];lia))) hi hl' jb' ⟨⟨_,rfl⟩,λ c o e=>?_,?_⟩
  .rw[Ad (Ag e jb)];exact s4 c o e
  .rw[aS,er,ai];rfl
 .rintro xs σ H' hl' jb' ⟨_,s4,rfl⟩;have e:(A9 ts).length=(rcs ts).length:=by rw[AU,aa]
  rw[e,aM]at jb';have e2:List.map V.bl ((rcs ts).map (FO u a))=(rcs ts).map λ p=>V.bl (FO u a p):=by rw[aB (l:=rcs ts)];rfl
  refine⟨acc,(rcs ts).map (FO u a),rfl,SqL.of (by rw[jb',e2]),rfl,?_⟩;have:=q H' s4;have e3:((rcs ts).map (FO u a)).any id=(rcs ts).any (FO u a):=by rw[eE];rfl
  rw[<-e3]at this;exact⟨_,rfl,this⟩
inductive Pr(vs:LUz)(H:Hp)(Q:VK)(E:XK):Prop
 |mk (b l:jd) (p:Rk) (ts:List (jd×Rk)) (u:Bool) (h0:vs=[.ref b,.ref l,.int (sd u)]) (h1:H b=some (.tup p.vs)) (h2:H l=some (.lst (A9 ts))) (h3:PnO H ts) (h4:ts.length<=150) (h5:p.ok) (h6:(∀u,0<=p.lo u/\p.hi u<=12)) (h7:∀c H',Same H H'->H' c=some (.lst ((lns (rcs ts) p u).map V.int))->Q (.ref c) H'):Pr vs H Q E
noncomputable def Nv:Sp:=λ vs H Q E=>Pr vs H Q E
theorem Gk{f:jd}{fd:jr}(F:Fun K "lines_through" "lines_through" Ce f fd)(T:Txt mg tk)(gV:Aq P w K mg ja 2 "goes_through" mt Os):A3 P w K mg ja CX0 3 f fd mz Nv:=by
 have S:Ak mz mz (Ah Ce):=fsk;refine F.g S ?_;rintro vs H Q E ⟨b,l,p,ts,u,rfl,hb,hl,hat,few,pk,pb,q⟩;refine⟨rfl,λ cdv A i6 s hr=>?_⟩;refine⟨_,(Af (Am (DV rfl (Bm rfl T.z_range (Aa (Ap AC (Ax Aw Ai Ar) Ac) (Aj (Ax Aw Ai (Ap AC Ar Ac))))) (λ_ _ _ _ _=>pgk (nk mt)) (λ_ _ _ _ _=>(Bg (Ao gV hr (Aa Ai (Aa Al (Aj Ar)))))) (λ_ _ _ _ _=>Ai) (N:=mt) (fr:=[none,some 1,some 2])))),?_⟩;obtain⟨b0,b1⟩:=pb u;have hlt:=DQ pk u;refine⟨_,rfl,_,rfl,b,_,_,_,rfl,rfl,SqT.of hb,Ph,_,_,rfl,rfl,_,rfl,_,rfl,_,_,rfl,rfl,b,_,_,_,rfl,rfl,SqT.of hb,U5,p.lo u+1,p.hi u,rfl,⟨by lia,by lia,by lia,by lia⟩,λ acc jb=>MQ (lo:=p.lo u+1) (n:=(p.hi u-(p.lo u+1)).toNat) (λ i xs σ H'=>(∃y,σ=[y,some (.ref l),some (.int (sd u))])/\Same H H'/\xs=(Gv (rcs ts) u (p.lo u) i).map V.int) ⟨⟨none,rfl⟩,Same.new jb,rfl⟩ ?_ ?_⟩
 .rintro i xs σ H' hi' hxl jb' ⟨⟨y,rfl⟩,s1,rfl⟩;refine⟨_,rfl,_,rfl,_,rfl,p.lo u+1+i,l,ts,u,rfl,s1 _ _ hl,hat.same s1,few,λ H2 s2=>⟨_,rfl,?_⟩⟩;cases hb':(rcs ts).any (FO u (p.lo u+1+i)) with
  |true =>
   refine fSk.mk hi' hxl (s2 _ _ jb') ⟨⟨_,rfl⟩,s1.trans s2,?_⟩;rw[Gv,hb',jo rfl,aR]
  |false =>
   refine⟨_,rfl,fNx.mk (aN (An (by lia))) hi' hxl (s2 _ _ jb') ⟨⟨_,rfl⟩,λ c o e=>?_,?_⟩⟩
   .rw[Ad (Ag e jb)];exact(s1.trans s2) c o e
   .rw[Gv,hb',jj aq,ai];rfl
 .rintro xs σ H' hxl jb' ⟨_,s1,rfl⟩;exact q acc H' s1 jb'
noncomputable abbrev pns(ts:List PT):List (jd×Rk):=ts.map λ t=>(t.2.1,t.2.2.1)
theorem O6(ts:List PT):rcs (pns ts)=(cons ts).map (·.1):=by
 show List.map _ (List.map _ ts)=List.map _ (List.map _ ts);rw[aB,aB];rfl
theorem Sc{r p:Rk}:TF r.t r.l r.b r.r p.t p.l p.b p.r=decide (Ins r p):=by
 rw[cy,jp];unfold TF Ins;simp only[ax,decide_eq_true_eq];lia
inductive Jx(vs:LUz)(H:Hp)(Q:VK)(E:XK):Prop
 |mk (b l:jd) (p:Rk) (ts:List PT) (t:Tr) (h0:vs=[.ref b,.ref l]) (h1:H b=some (.tup p.vs)) (h2:H l=some (.lst (pcs ts))) (h3:PcO H ts) (h4:ts.length<=150) (h5:p.ok) (h6:(∀u,0<=p.lo u/\p.hi u<=12)) (h7:BM p t) (h8:(cons ts).Perm (AJ t p)) (h9:∀e H',Same H H'->H' e=some (.tup (enV (enL (cons ts) p)))->Q (.ref e) H'):Jx vs H Q E
noncomputable def JX:Sp:=λ vs H Q E=>Jx vs H Q E
theorem SE{x:V}{r:LUz}:atI (x::r) 0=some x:=LK (xs:=x::r) (j:=0) (v:=x) rfl
theorem Lp{f:jd}{fd:jr}(F:Fun K "entry_for" "entry_for" DM f fd)(T:Txt mg tk)(gf:Aq P w K mg ja 3 "lines_through" mz Nv):A3 P w K mg ja CX0 4 f fd mV JX:=by
 have S:Ak ["block","some","panes","uprights","levels"] mV (Ah DM):=fsk;refine F.g S ?_;rintro vs H Q E ⟨b,l,p,ts,t,rfl,hb,hl,pc,few,pk,pb,fit,pm,q⟩;refine⟨rfl,λ cdv A i6 s hr=>?_⟩;refine⟨_,(Ab (AK (A4 op_eq (AL AV T.z_len (Aj Al)) Ac) (Af (Am (AB (Aa (AF (v:=.str "whole") rfl T.iy ⟨_,rfl⟩) (Aj (Ax Aw (Ax Du Al Ac) Ac)))))) A1)
  (Ab (EU rfl (AW 2 S.nd) (A6 Al) (λ_ _ _ _ _=>(Hl (K:=K) (n:=2) rfl (A2 (AR (i:=0) (nk mW) rfl (bN rfl)) (A2 (AR (i:=1) (nk mW) rfl (bN rfl)) Bx)))) (λ_ _ _ _ _=>Ai) (N:=mW) (fr:=[none,none]))
  (Ab (Av 3 S.nd (Ao gf hr (Aa Ai (Aa Ar (Aj (AF (v:=.int 1) rfl T.gC ⟨_,rfl⟩))))))
  (Ab (AK (F2 Az (λ_=>rfl)) (Af (Am (AB (Aa (AF (v:=.str "upright") rfl T.gv ⟨_,rfl⟩) (Aj (Ap Cl (Ax Du Az Ac) (Ax Aw Ai (AF (v:=.int 1) rfl T.gC ⟨_,rfl⟩)))))))) A1)
  (Ab (Av 4 S.nd (Ao gf hr (Aa Ai (Aa Ar (Aj (AF (v:=.int 0) rfl T.iA ⟨_,rfl⟩))))))
  (Ab (AK (F2 AG (λ_=>rfl)) (Af (Am (AB (Aa (AF (v:=.str "level") rfl T.iz ⟨_,rfl⟩) (Aj (Ap Cl (Ax Du AG Ac) (Ax Aw Ai (AF (v:=.int 0) rfl T.iA ⟨_,rfl⟩)))))))) A1)
  (Af (Am (AB (Aa (AF (v:=.str "room") rfl T.iB ⟨_,rfl⟩) (Aj Ai))))))))))),?_⟩
 refine⟨_,rfl,l,_,rfl,.inl (SqL.of hl),rfl,_,rfl,BA (λ c=>?_) (λ c=>?_)⟩
 .have c:=V.int.inj (jF c);have c:ts.length=1:=by rw[aa]at c;lia
  obtain⟨x,rfl⟩:=dC.mp c;have hx:=pc x (af.mpr rfl);exact⟨_,rfl,l,_,_,_,rfl,rfl,SqL.of hl,rfl,x.1,_,_,_,rfl,rfl,SqT.of hx.1,FP,A8 2,λ e he=>q e _ (Same.new he) Ae⟩
 .have c1:(cons ts).length≠1:=λ z=>of_decide_eq_false c (by rw[aa]at z |-;rw[z];rfl);have ne:=QQ pk fit pm c1;rw[Sn c1]at q;refine⟨_,rfl,l,rfl,⟨_,SqL.of hl⟩,λ acc jb=>Be (K:=K) (a:=l) (ys:=pcs ts) (λ i zs σ H'=>(∃y z,σ=[y,z])/\Same H H'/\zs=A9 ((pns ts).take i)) ⟨⟨none,none,rfl⟩,Same.new jb,rfl⟩ (λ i zs σ H' _ _ hp=>SqL.of (hp.2.1 _ _ hl)) ?_ ?_⟩
  .rintro i x zs σ H' hx hi hl' jb' ⟨⟨y,z,rfl⟩,hs,rfl⟩;obtain⟨u,hu,rfl⟩:=OD hx;obtain⟨g1,g2⟩:=(pc.same hs) u (aA hu);refine⟨u.1,_,rfl,SqT.of g1,rfl,_,_,rfl,_,_,rfl,rfl,_,rfl,?_⟩;refine cNx.mk (aN (An (by rw[aa];lia))) hi hl' jb' ⟨⟨_,_,rfl⟩,λ c o e=>?_,?_⟩
   .rw[Ad (Ag e jb)];exact hs c o e
   .unfold A9;rw[aS,aE,hu,ai];rfl
  rintro zs σ H1 hzl ac1 ⟨_,s1,rfl⟩;have e1:(pcs ts).length=(pns ts).length:=by rw[aa,aa]
  rw[e1,aM]at ac1;have pn1:PnO H1 (pns ts):=λ z hz=>by
   obtain⟨u,hu,rfl⟩:=ao.mp hz;exact s1 _ _ (pc u hu).2
  have few':(pns ts).length<=150:=by rw[aa];exact few
  refine⟨_,rfl,_,rfl,b,acc,p,pns ts,true,rfl,s1 _ _ hb,ac1,pn1,few',pk,pb,λ c2 H2 s2 hc2=>?_⟩;rw[O6]at hc2;have s12:=s1.trans s2;cases q1:lns ((cons ts).map (·.1)) p true with
  |cons x r =>
   rw[q1]at hc2;have eT:Ft ((cons ts).map (·.1)) p=(true,x)::(r.map (λ a=>(true,a))++(lns ((cons ts).map (·.1)) p false).map (λ a=>(false,a))):=by unfold Ft;rw[q1];rfl
   rw[eT]at q;refine⟨_,rfl,_,.inl ⟨_,SqL.of hc2,rfl⟩,Cn rfl ?_⟩;exact⟨_,rfl,c2,_,_,_,rfl,rfl,SqL.of hc2,SE,_,rfl,b,_,_,_,rfl,rfl,SqT.of (s12 _ _ hb),Ph (u:=true),_,_,rfl,rfl,A8 2,λ e he=>q e _ (s12.trans (Same.new he)) Ae⟩
  |nil =>
   rw[q1]at hc2;refine⟨_,rfl,_,.inl ⟨_,SqL.of hc2,rfl⟩,Bt rfl ?_⟩;refine⟨_,rfl,_,rfl,b,acc,p,pns ts,false,rfl,s12 _ _ hb,s2 _ _ ac1,pn1.same s2,few',pk,pb,λ c3 H3 s3 hc3=>?_⟩;rw[O6]at hc3;have s13:=s12.trans s3;cases q2:lns ((cons ts).map (·.1)) p false with
   |cons x r =>
    rw[q2]at hc3;have eT:Ft ((cons ts).map (·.1)) p=(false,x)::r.map (λ a=>(false,a)):=by unfold Ft;rw[q1,q2];rfl
    rw[eT]at q;refine⟨_,rfl,_,.inl ⟨_,SqL.of hc3,rfl⟩,Cn rfl ?_⟩;exact⟨_,rfl,c3,_,_,_,rfl,rfl,SqL.of hc3,SE,_,rfl,b,_,_,_,rfl,rfl,SqT.of (s13 _ _ hb),Ph (u:=false),_,_,rfl,rfl,A8 2,λ e he=>q e _ (s13.trans (Same.new he)) Ae⟩
   |nil =>
    refine absurd ?_ ne;unfold Ft;rw[q1,q2];rfl
noncomputable def spE(en:Rk->En)(D:Rk->Prop):Sp:=λ vs H Q _=>∃(a:jd)(p:Rk),vs=[.ref a]/\H a=some (.tup p.vs)/\D p/\∀e H',Same H H'->H' e=some (.tup (enV (en p)))->Q (.ref e) H'
inductive SQ(P:jk)(w:ju)(K:jw)(mg:MGz)(ja:jy)(vs:LUz)(H:Hp)(Q:VK)(E:XK):Prop
 |mk (a f:jd) (p:Rk) (t:Tr) (en:Rk->En) (D:Rk->Prop) (h0:vs=[.ref a,.ref f]) (h1:H a=some (.tup p.vs)) (h2:FvOk P w K mg ja 6 H f (spE en D)) (h3:QG en D t p) (h4:t.nd<=400) (h5:∀l xs H',Same H H'->H l=none->H' l=some (.lst xs)->EnsAt H' xs (ents t)->Q (.ref l) H'):SQ P w K mg ja vs H Q E
noncomputable def Ux(P:jk)(w:ju)(K:jw)(mg:MGz)(ja:jy) :Sp:=λ vs H Q E=>SQ P w K mg ja vs H Q E
noncomputable abbrev WZ(en:Rk->En)(D:Rk->Prop)(H:Hp)(a f:jd)(t:Tr)(le lw:jd)(m:Nat)(σ:St)(H':Hp):Prop:=∃(xs:LUz)(es:List En)(ws:List (jd×Rk×Tr))(x4 x5:Option V),σ=[some (.ref a),some (.ref f),some (.ref le),some (.ref lw),x4,x5]/\Same H H'/\H' le=some (.lst xs)/\EnsAt H' xs es/\H' lw=some (.lst (B2 ws))/\PsAt H' ws/\(∀p∈ws,QG en D p.2.2 p.2.1)/\es++Fi (trs ws)=ents t/\m=cnt (trs ws)
theorem MF(e:En):inV ((enV e).headD .non) [V.str "upright",V.str "level"]=match e with
  |.w _=>false
  |.c _ _=>true:=by
 cases e with
 |w m =>
  show(eqV (V.str "upright") (V.str "whole")||(eqV (V.str "level") (V.str "whole")||false))=false;decide +kernel
 |c u k =>
  cases u
  .show(eqV (V.str "upright") (V.str "level")||(eqV (V.str "level") (V.str "level")||false))=true;decide +kernel
  .show(eqV (V.str "upright") (V.str "upright")||(eqV (V.str "level") (V.str "upright")||false))=true;decide +kernel
theorem JC{f:jd}{fd:jr}(F:Fun K "entries_by" "entries_by" Dk f fd)(T:Txt mg tk)(gX:Aq P w K mg ja 1 "first_piece" l9 QY)(gY:Aq P w K mg ja 1 "other_piece" l9 QW):A3 P w K mg ja CX0 7 f fd mX (Ux P w K mg ja):=by
 have S:Ak ["sheet","entry_at","entries","waiting","piece","entry"] mX (Ah Dk):=fsk;refine F.g S ?_;rintro vs H Q E ⟨a,fv,p,t,en,D,rfl,ha,hfv,gr,hn,q⟩;refine⟨rfl,λ cdv A i6 s hr=>?_⟩;refine⟨_,(Ab (Av 2 S.nd (B8 EX))
  (Ab (Av 3 S.nd (B8 (Aj Ai)))
  (Ab (Ij PassesOwn.never (F2 Az (λ_=>rfl)) (Ab (Av 4 S.nd (EV bI cO cM Lu Az))
  (Ab (Av 5 S.nd (Wt (k:=6) hr Al (Aj AG)))
  (Ab (Bh (EW Ar (Aj B0)))
  (Af (AK (A4 PZ (Ax Aw B0 Ac) (AB (Aa (AF (v:=.str "upright") rfl T.gv ⟨_,rfl⟩) (Aj (AF (v:=.str "level") rfl T.iz ⟨_,rfl⟩)))) rfl) (Ab (Bh (EW Az (Aj (Ao gY hr (Aa AG (Aa (Ax Aw B0 Ac) (Aj (Ax Aw B0 Ac))))))))
  (Af (Bh (EW Az (Aj (Ao gX hr (Aa AG (Aa (Ax Aw B0 Ac) (Aj (Ax Aw B0 Ac)))))))))) A1))))))
  (Af (Am Ar))))),?_⟩
 refine⟨A8 0,λ le hle=>⟨_,rfl,A8 1,λ lw hlw=>?_⟩⟩;have nel:le≠lw:=Ag Ae hlw;have s0:Same H (upd (upd H le (.lst [])) lw (.lst [.ref a])):=(Same.new hle).trans (Same.new hlw);have hlw0:H lw=none:=none_of (Same.new hle) hlw;refine⟨WZ en D H a fv t le lw,
  ⟨_,[],[],[(a,p,t)],none,none,rfl,s0,by rw[Ad nel];exact Ae,trivial,Ae,λ r hr=>?_,λ r hr=>?_,?_,rfl⟩,?_⟩
 .rw[af.mp hr];exact s0 _ _ ha
 .rw[af.mp hr];exact gr
 .show[]++Fi [(V.ref a,t)]=ents t;rw[Gy];rfl
 rintro m σ H' ⟨xs,es,ws,x4,x5,rfl,s1,hl,hen,hw,hps,hgr,heq,rfl⟩;have tot:es.length+cnt (trs ws)=t.nd:=by rw[<-Ed,<-heq,aH,IY]
 rcases EJ ws with rfl|⟨ws0,r,rfl⟩
 .refine⟨_,rfl,_,.inl ⟨_,SqL.of hw,rfl⟩,Bt rfl ⟨_,rfl,q le xs H' s1 hle hl ?_⟩⟩;rw[<-heq];show EnsAt H' xs (es++[]);rw[aR];exact hen
 .refine⟨_,rfl,_,.inl ⟨_,SqL.of hw,rfl⟩,Cn (by simp) ⟨λ σ' H''=>∃m',m'<cnt (trs (ws0++[r]))/\WZ en D H a fv t le lw m' σ' H'',λ σ' H'' z=>z,?_⟩⟩;obtain⟨pa,pk,pt⟩:=r;have hp0:=hps (pa,pk,pt) (by simp);have hg0:=hgr (pa,pk,pt) (by simp);refine⟨_,rfl,.inl ⟨rfl,_,SqL.of hw⟩,lw,_,_,rfl,rfl,hw,Qn,?_⟩;rw[Q3];have k2:Kp H' (upd H' lw (.lst (B2 ws0))):=Kp.put hw;have s2:Same H (upd H' lw (.lst (B2 ws0))):=λ b o e=>by rw[Ad (Ag e hlw0)];exact s1 b o e
  have l2:(upd H' lw (.lst (B2 ws0))) le=some (.lst xs):=by rw[Ad nel];exact hl
  have w2:(upd H' lw (.lst (B2 ws0))) lw=some (.lst (B2 ws0)):=Ae;generalize upd H' lw (.lst (B2 ws0))=H2 at k2 s2 l2 w2 |-;have hp2:=k2 _ _ hp0 (by intro xs z;cases z);have ps2:PsAt H2 ws0:=λ r hr=>k2 _ _ (hps r (bB _ hr)) (by intro xs z;cases z);have gr2:∀r∈ws0,QG en D r.2.2 r.2.1:=λ r hr=>hgr r (bB _ hr);have hen2:=hen.kp k2;rw[BW,BU]at heq;rw[BW,Eg]at tot;have hxl:=hen.len;have np:=RH pt;have hDp:D pk:=by cases pt<;>exact hg0.1
  refine⟨_,rfl,fv,spE en D,rfl,hfv.same s2,_,rfl,Same.refl H2,pa,pk,rfl,hp2,hDp,λ ea H3 s3 e3=>?_⟩;have l3:=s3 _ _ l2;refine⟨_,rfl,.inl ⟨rfl,_,SqL.of l3⟩,_,rfl,le,xs,.ref ea,rfl,rfl,l3,An (by lia),?_⟩;have k4:Kp H3 (upd H3 le (.lst (xs++[.ref ea]))):=Kp.put l3;have s4:Same H (upd H3 le (.lst (xs++[.ref ea]))):=λ b o e=>by rw[Ad (Ag e hle)];exact s3 b o (s2 b o e)
  have l4:(upd H3 le (.lst (xs++[.ref ea]))) le=some (.lst (xs++[.ref ea])):=Ae;have w4:(upd H3 le (.lst (xs++[.ref ea]))) lw=some (.lst (B2 ws0)):=by rw[Ad (Ne.symm nel)];exact s3 _ _ w2
  have en4:EnsAt (upd H3 le (.lst (xs++[.ref ea]))) (xs++[.ref ea]) (es++[en pk]):=((hen2.kp (IJ s3)).kp k4).snoc (k4 _ _ e3 (by intro xs z;cases z));have kk:=(IJ s3).trans k4;have e4:=k4 _ _ e3 (by intro xs z;cases z);generalize upd H3 le (.lst (xs++[.ref ea]))=H4 at k4 s4 l4 w4 en4 kk e4 |-;have hp4:=kk _ _ hp2 (by intro xs z;cases z);have ps4:PsAt H4 ws0:=ps2.kp kk;cases pt with
  |whole m =>
   have een:en pk=.w m:=hg0.2;rw[een]at e4 en4;refine⟨_,rfl,ea,_,_,_,rfl,rfl,SqT.of e4,FQ,A8 2,λ tt ntt=>?_⟩;obtain⟨H5,g,s5,e5⟩:=nw (.tup [.str "upright",.str "level"]) ntt;rw[g];refine⟨tt,_,rfl,.inr (SqT.of e5),rfl,rfl,_,rfl,Bt (by rw[jj aq];exact MF (.w m)) ?_⟩;refine⟨cnt (trs ws0),by rw[BW,Eg];exact br _,_,_,ws0,_,_,rfl,s4.trans s5,s5 _ _ l4,en4.kp (IJ s5),s5 _ _ w4,ps4.kp (IJ s5),gr2,?_,rfl⟩;rw[<-heq,aZ];rfl
  |cut u k y1 y2 =>
   obtain⟨_,een,g1,g2⟩:=hg0;have een:en pk=.c u k:=een;rw[een]at e4 en4;refine⟨_,rfl,ea,_,_,_,rfl,rfl,SqT.of e4,FQ,A8 2,λ tt ntt=>?_⟩;obtain⟨H5,g,s5,e5⟩:=nw (.tup [.str "upright",.str "level"]) ntt;rw[g];refine⟨tt,_,rfl,.inr (SqT.of e5),rfl,rfl,_,rfl,Cn (by rw[jj aq];exact MF (.c u k)) ?_⟩;have e55:=s5 _ _ e4;have w5:=s5 _ _ w4;have hp5:=s5 _ _ hp4;refine⟨_,rfl,.inl ⟨rfl,_,SqL.of w5⟩,_,rfl,_,rfl,ea,_,_,_,rfl,rfl,SqT.of e55,FQ,_,rfl,ea,_,_,_,rfl,rfl,SqT.of e55,FP,pa,pk,u,k,rfl,hp5,λ t6 n6=>?_⟩;obtain⟨H6,g,s6,e6⟩:=nw (.tup (pk.oth u k).vs) n6;rw[g];have w6:=s6 _ _ w5;have cl:=LG (trs ws0);rw[aa]at cl;have ndp:(Tr.cut u k y1 y2).nd=y1.nd+y2.nd+1:=rfl;refine⟨lw,_,_,rfl,rfl,w6,An (by rw[aa];lia),?_⟩;have k7:Kp H6 (upd H6 lw (.lst (B2 ws0++[.ref t6]))):=Kp.put w6;have s7:Same H (upd H6 lw (.lst (B2 ws0++[.ref t6]))):=λ b o e=>by rw[Ad (Ag e hlw0)];exact s6 _ _ (s5 _ _ (s4 b o e))
   have l7:(upd H6 lw (.lst (B2 ws0++[.ref t6]))) le=some (.lst (xs++[.ref ea])):=by rw[Ad nel];exact s6 _ _ (s5 _ _ l4)
   have w7:(upd H6 lw (.lst (B2 ws0++[.ref t6]))) lw=some (.lst (B2 ws0++[.ref t6])):=Ae;have kk7:=((IJ s5).trans (IJ s6)).trans k7;have e7:=k7 _ _ e6 (by intro xs z;cases z);generalize upd H6 lw (.lst (B2 ws0++[.ref t6]))=H7 at k7 s7 l7 w7 kk7 e7 |-;have ea7:=kk7 _ _ e4 (by intro xs z;cases z);have hp7:=kk7 _ _ hp4 (by intro xs z;cases z);refine⟨_,rfl,.inl ⟨rfl,_,SqL.of w7⟩,_,rfl,_,rfl,ea,_,_,_,rfl,rfl,SqT.of ea7,FQ,_,rfl,ea,_,_,_,rfl,rfl,SqT.of ea7,FP,pa,pk,u,k,rfl,hp7,λ t8 n8=>?_⟩;obtain⟨H8,g,s8,e8⟩:=nw (.tup (pk.fst u k).vs) n8;rw[g];have w8:=s8 _ _ w7;refine⟨lw,_,_,rfl,rfl,w8,An (by rw[aH,aa,bx];lia),?_⟩;have k9:Kp H8 (upd H8 lw (.lst (B2 ws0++[.ref t6]++[.ref t8]))):=Kp.put w8;have kk9:=(IJ s8).trans k9;have kall:=kk7.trans kk9;refine⟨cnt (trs (ws0++[(t6,pk.oth u k,y2)]++[(t8,pk.fst u k,y1)])),?_,xs++[.ref ea],es++[.c u k],ws0++[(t6,pk.oth u k,y2)]++[(t8,pk.fst u k,y1)],_,_,rfl,λ b o e=>?_,?_,en4.kp kall,?_,λ r hr=>?_,λ r hr=>?_,?_,rfl⟩
   .rw[BW,BW,Eg,Eg,BW,Eg];show cnt (trs ws0)+y2.nd+y1.nd<cnt (trs ws0)+(y1.nd+y2.nd+1);lia
   .rw[Ad (Ag e hlw0)];exact s8 b o (s7 b o e)
   .rw[Ad nel];exact s8 _ _ l7
   .rw[Ae,Kd,Kd]
   .rcases az.mp hr with hr|hr
    .rcases az.mp hr with hr|hr
     .exact kall _ _ (ps4 r hr) (by intro xs z;cases z)
     .rw[af.mp hr];exact kk9 _ _ e7 (by intro xs z;cases z)
    .rw[af.mp hr];exact k9 _ _ e8 (by intro xs z;cases z)
   .rcases az.mp hr with hr|hr
    .rcases az.mp hr with hr|hr
     .exact gr2 r hr
     .rw[af.mp hr];exact g2
    .rw[af.mp hr];exact g1
   .rw[BW,BW,BU,BU,<-heq];show es++[.c u k]++(ents y1++(ents y2++Fi (trs ws0)))=es++(.c u k::(ents y1++ents y2)++Fi (trs ws0));simp[aZ]
theorem EnsAt.tups{H H':Hp}(s:∀a xs,H a=some (.tup xs)->H' a=some (.tup xs)):∀{vs:LUz}{es:List En},EnsAt H vs es->EnsAt H' vs es
 |[],[],_=>trivial
 |v::r,e::q,h=>⟨let ⟨a,b,c⟩:=h.1;⟨a,b,s _ _ c⟩,EnsAt.tups s h.2⟩
 |[],_::_,h=>h
 |_::_,[],h=>h
theorem MJ{α:Type}(p:α->Bool){L:List α}{i:Nat}{x:α}(h:L[i]?=some x):(L.take (i+1)).filter p=(L.take i).filter p++if p x=true then [x] else []:=by
 rw[aS,h,bC];show _=_;cases hx:p x with
 |true=>simp[hx]
 |false=>simp[hx]
noncomputable def OM:jB:=match (A7 Bl).getD 0 (.Pass ⟨0,0,0,0⟩) with
 |.Return (some (.Call _ [_,k] _ _)) _=>k
 |_=>.Constant .none 0 ⟨0,0,0,0⟩
noncomputable def Uz:Arguments:=match OM with|.Lambda p _ _ _=>p|_=>Bz Bl
noncomputable def U0:jB:=match OM with|.Lambda _ b _ _=>b|e=>e
noncomputable def lamS3:jZ:=match OM with|.Lambda _ _ s _=>s|_=>Ah Bl
noncomputable def GF:Pos:=match OM with|.Lambda _ _ _ q=>q|_=>⟨0,0,0,0⟩
noncomputable def FE:jD:="cut_up.<locals>.<lambda>"
theorem VF:K9 "block" ["some"] lamS3:=⟨rfl,rfl,rfl,rfl,λ_ _=>rfl,λ_=>rfl,λ y hy=>(by decide +kernel:∀p∈lamS3.names,p.2=.cell->p.1=("block":jD)) _ (PySem.mem_of_lookup hy) rfl,λ y hy=>(by decide +kernel:∀p∈lamS3.names,p.2=.free->p.1∈(["some"]:LSz)) _ (PySem.mem_of_lookup hy) rfl,by decide +kernel⟩
noncomputable abbrev Pf(L:Nat):List (jD×jd):=[("some",L+1)]
inductive KJ(tb3:jd)(vs:LUz)(H:Hp)(Q:VK)(E:XK):Prop
 |mk (a l:jd) (p:Rk) (ts:List PT) (t:Tr) (h0:vs=[.ref a,.ref l]) (h1:H a=some (.tup p.vs)) (h2:H l=some (.lst (pcs ts))) (h3:PcO H ts) (h4:ts.length<=150) (h5:p.ok) (h6:(∀u,0<=p.lo u/\p.hi u<=12)) (h7:BM p t) (h8:(cons ts).Perm (AJ t p)) (h9:TabOk GF FE tb3 H) (h10:∀le xs F H',SameX tb3 H H'->TabOk GF FE tb3 H'->H' le=some (.lst xs)->EnsAt H' xs (ents F)->F.nd<=400->BM p F->IsF F (cons ts) p->(AJ F p).Perm (cons ts)->Q (.ref le) H'):KJ tb3 vs H Q E
noncomputable def HW(tb3:jd) :Sp:=λ vs H Q E=>KJ tb3 vs H Q E
theorem TK{L:List (Rk×Option Int)}{p:Rk}(h:∀g∈L,Ins g.1 p):inP L p=L:=cj.mpr λ g hg=>jn (h g hg)
theorem GW{ts:List PT}{i:Nat}{t:PT}(q:PT->Bool)(h:ts[i]?=some t):pcs ((ts.take (i+1)).filter q)=pcs ((ts.take i).filter q)++if q t=true then [.ref t.1] else []:=by
 rw[MJ q h];show List.map _ _=_;rw[ai];split<;>rfl
theorem Qd{f:jd}{fd:jr}{c tb3:jd}(F:FunC K "cut_up" "cut_up" Bl f fd c)(hC:LF K c tb3=true)(hB:VI K mg)(gj:Aq P w K mg ja 1 "inside" mD FX)(gZ:Aq P w K mg ja 4 "entry_for" mV JX)(g9:Aq P w K mg ja 7 "entries_by" mX (Ux P w K mg ja)) :
  A3 P w K mg ja CX0 8 f fd lZ (HW tb3):=by
 have S:Ak lZ lZ (Ah Bl):=fsk;refine F.g S ?_;rintro vs H Q E ⟨a,l,p,ts,t,rfl,ha,hl,pc,few,pk,pb,fit,pm,tb,q⟩;refine⟨rfl,λ A i6 s hr=>?_⟩;have hlam:=UZ (X:=(B3 CX0 P w K mg ja lZ "cut_up" (Ah Bl) f (.ref c) A i6 s H E).nox) (params:=Uz) (body:=U0) (scope:=lamS3) (pos:=GF) (i9:=FE) (clos:=Pf s.heap.objs.size) rfl (codeTB_of hC) hB rfl rfl rfl;have hcl:∀p∈Pf s.heap.objs.size,(B3 CX0 P w K mg ja lZ "cut_up" (Ah Bl) f (.ref c) A i6 s H E).nox.env.cells.lookup p.1=some p.2/\(B3 CX0 P w K mg ja lZ "cut_up" (Ah Bl) f (.ref c) A i6 s H E).nox.env.kindOf p.1=some .cell:=λ p hp=>by
  rw[af.mp hp];exact⟨rfl,rfl⟩
 refine⟨_,(Af (Am (Va (clos:=Pf s.heap.objs.size) g9 hr (Aa Ai (Aj hlam)) hcl (λ_=>rfl) rfl))),?_⟩;have inn:∀g∈cons ts,∀u,p.lo u<=g.1.lo u/\g.1.lo u<g.1.hi u/\g.1.hi u<=p.hi u:=λ g hg u=>Gx pk fit (pm.mem_iff.mp hg) u;have all:inP (cons ts) p=cons ts:=TK λ g hg=>ins_iff.mpr λ u=>⟨(inn g hg u).1,(inn g hg u).2.2⟩;obtain⟨G,gr,gfit,isf,gpm⟩:=Qy (L:=cons ts) (λ g hg v=>(inn g hg v).2.1) _ p rfl ⟨pk,pb,t,fit,by rw[all];exact pm⟩;rw[all]at isf gpm;have Gnd:G.nd<=400:=by
  have w1:1<=p.r-p.l:=by have:=pk.2;lia
  have h1:1<=p.b-p.t:=by have:=pk.1;lia
  have z1:=IZ w1 h1 gfit;have b1:=pb true;have b2:=pb false;have z2:(p.r-p.l)*(p.b-p.t)<=12*12:=dS (by have:0<=p.l:=b1.1;have:p.r<=12:=b1.2;lia) (by have:0<=p.t:=b2.1;have:p.b<=12:=b2.2;lia) (by lia) (by lia);have z3:=RF G;lia
 have tbl:=tb.tbl;refine⟨_,rfl,TabOk.lamC tb λ c' fl ctv H1 s1 tab1 hf hc hnew=>?_⟩;have ne1:∀{x:jd}{u:HO},H x=some u->(∀ps,u≠.tbl ps)->x≠tb3:=λ{x u} e n z=>by obtain⟨ps,e'⟩:=tbl;rw[z,e']at e;cases e;exact n _ rfl
 intro Lc CA;have tup1:∀{x:jd}{xs:LUz},H x=some (.tup xs)->H1 x=some (.tup xs):=λ e=>s1 _ _ (ne1 e (by intro ps z;cases z)) e;have hl1:H1 l=some (.lst (pcs ts)):=s1 _ _ (ne1 hl (by intro ps z;cases z)) hl;have up:∀{x:jd}{u:HO},H1 x=some u->(tkd H1 Lc) x=some u:=λ e=>by rw[AO (EY CA.new e)];exact e
 have fv:=TW (P:=P) (w:=w) (K:=K) (mg:=mg) (ja:=ja) (k:=5) (H:=tkd H1 Lc) (f:=fl) (c':=c') (params:=Uz) (body:=U0) (scope:=lamS3) (i9:=FE) (pn:="block") (ctv:=ctv) (fs:=["some"]) (clos:=Pf s.heap.objs.size) (cv:=[.ref l]) (L:=Lc)
  (sp:=spE (λ p=>enL (inP (cons ts) p) p) (DF (cons ts)))
  (up hf) (up hc) VF rfl (λ y=>?_) (λ x y cc h1 h2=>?_) (λ a o e=>HJ e) CA.has (λ p hp i v hi hv=>?_) (λ_ _=>.of_eq rfl) (λ vs H' Q' E' hsp=>by obtain⟨a',p',rfl,_⟩:=hsp;exact⟨_,rfl⟩)
  (λ A' i6' s' H' E' v Q' sm' hr' hsp=>?_)
 .refine⟨a,fl,p,G,_,_,rfl,up (tup1 ha),fv,gr,Gnd,λ le xs H2 s2 nl hle hens=>?_⟩;obtain⟨sU,hk⟩:=Rh CA.new s2;exact⟨hk,q le xs G _ (s1.trans sU.x) (tab1.same sU) (KS hk hle (by intro o z;cases z)) (hens.tups (λ a xs e=>KS hk e (by intro o z;cases z))) Gnd gfit isf gpm⟩
 .constructor
  .rintro⟨cc,h⟩;have:=PySem.mem_of_lookup h;cases af.mp this;simp
  .intro hy;rw[af.mp hy];exact⟨_,rfl⟩
 .have m1:=af.mp (PySem.mem_of_lookup h1);have m2:=af.mp (PySem.mem_of_lookup h2);exact(congrArg Prod.fst m1).trans (congrArg Prod.fst m2).symm
 .have hp':=af.mp hp;subst hp'
  match i,hi with
  |0,_ =>
   cases hv;exact CA.val _ hp 1 _ rfl rfl
 .obtain⟨a',p',ev,ha',⟨ok',bd',t',fit',pm'⟩,q'⟩:=hsp;cases ev;refine⟨_,(Ao gZ hr' (Aa Ai (Aj (DV rfl (A6 Al) (λ_ _ _ _ _=>pgk (nk ["piece","block"])) (λ_ _ _ _ _=>(Bg (Ao gj hr' (Aa (Ax (B5 (K:=K)) Ai Ac) (Aj Al))))) (λ_ _ _ _ _=>Ai) (N:=["piece","block"]) (fr:=[none,some 0]))))),?_⟩;have hL':∀a o,Lc.lookup a=some o->H' a=some (BJ a o):=λ a o e=>sm' _ _ (HJ e);have kp:∀{x:jd}{u:HO},H1 x=some u->(∀o,u≠BJ x o)->(utk H' Lc) x=some u:=λ e n=>KS hL' (sm' _ _ (up e)) n;have hau:=KS hL' ha' (by intro o z;cases z);have hlu:=kp hl1 (by intro o z;cases z);have pcu:PcO (utk H' Lc) ts:=λ x hx=>⟨kp (tup1 (pc x hx).1) (by intro o z;cases z),kp (tup1 (pc x hx).2) (by intro o z;cases z)⟩;have sm2:∀{H2:Hp},Same (utk H' Lc) H2->Same H' (tkd H2 Lc):=λ{H2} s3 x o e=>by
   cases q:Lc.lookup x with
   |some o'=>rw[hL' x o' q]at e;cases e;exact HJ q
   |none=>rw[AO q];exact s3 _ _ (by rw[Bo q];exact e)
  refine⟨_,rfl,_,rfl,l,rfl,⟨_,SqL.of hlu⟩,λ acc jb=>Fm (K:=K) (a:=l) (ys:=pcs ts) (λ i zs σ H2=>(∃y,σ=[y,some (.ref a')])/\Same (utk H' Lc) H2/\zs=pcs ((ts.take i).filter λ t=>decide (Ins t.2.2.1 p'))) ⟨⟨none,rfl⟩,Same.new jb,rfl⟩ (λ i zs σ H2 _ _ hp=>SqL.of (hp.2.1 _ _ hlu)) ?_ ?_⟩
  .rintro i x zs σ H2 hx hi hl' jb' ⟨⟨y,rfl⟩,hs,rfl⟩;obtain⟨z,hz,rfl⟩:=OD hx;obtain⟨g1,g2⟩:=(pcu.same hs) z (aA hz);have ft:=GW (λ t:PT=>decide (Ins t.2.2.1 p')) hz;refine⟨_,rfl,z.1,_,_,_,rfl,rfl,SqT.of g1,FQ,_,rfl,z.2.1,a',_,_,_,_,_,_,_,_,rfl,g2,hs _ _ hau,_,rfl,?_⟩;rw[Sc];cases h3:decide (Ins z.2.2.1 p') with
   |true =>
    refine⟨_,rfl,fNx.mk (aN (An (by rw[aa];lia))) hi hl' jb' ⟨⟨_,rfl⟩,λ c o e=>by rw[Ad (Ag e jb)];exact hs c o e,?_⟩⟩;rw[ft,h3,jo rfl]
   |false=>exact fSk.mk hi hl' jb' ⟨⟨_,rfl⟩,hs,by rw[ft,h3,jj aq,aR]⟩
  rintro zs σ H2 hzl ac2 ⟨_,s2,rfl⟩;rw[aa,aM]at ac2;have ec:cons (ts.filter λ t=>decide (Ins t.2.2.1 p'))=inP (cons ts) p':=by
   unfold inP;show List.map _ _=List.filter _ (List.map _ ts);rw[fc];rfl
  have fl:(ts.filter λ t=>decide (Ins t.2.2.1 p')).length<=ts.length:=bY _ _;refine⟨a',acc,p',ts.filter λ t=>decide (Ins t.2.2.1 p'),t',rfl,s2 _ _ hau,ac2,λ x hx=>(pcu.same s2) x (b7.mp hx).1,by lia,ok',bd',fit',by rw[ec];exact pm',λ e H3 s3 e3 hno=>?_⟩;rw[ec]at e3;refine q' e _ (sm2 (s2.trans s3)) ?_;cases qo:Lc.lookup e with
  |some o=>rw[hno e o qo]at e3;cases e3
  |none=>rw[AO qo];exact e3
variable{cG cS cN:jd}
noncomputable def tab(w h:Int):Int:=(([[1,2,4,8],[2,8,34,148],[4,34,320,3118],[8,148,3118,68480]]:List (List Int)).getD (w-1).toNat []).getD (h-1).toNat 0
noncomputable def up(w:List Int):List Int:=w.dropLast++[w.getLastD 0+1]
noncomputable def on(w:List Int):List Int:=w++[1]
noncomputable def EC:Nat->List (List Int)
 |0=>[[1]]
 |n+1=>(EC n).map up++(EC n).map on
noncomputable def bef(w h x y:Int):Bool:=decide (1<=x)&&decide (x<=w)&&(decide (1<=y)&&decide (y<=h))&&(decide (x<w)||decide (y<h))
noncomputable def gin(w h x:Int):List Int->Int->Option Int
 |[],p=>some p
 |y::r,p=>if bef w h x y=true/\p.natAbs<1000000000/\(tab x y).natAbs<1000000000 then gin w h x r (p*tab x y) else none
noncomputable def JJ(w h:Int)(ys:List Int):List Int->Int->Option Int
 |[],p=>some p
 |x::r,p=>(gin w h x ys p).bind λ q=>JJ w h ys r q
noncomputable def tin(w h:Int)(c:List Int):List (List Int)->Int->Option Int
 |[],t=>some t
 |r::rs,t=>if ((c.length:Int)+(r.length:Int)-2) % 2=1 then (JJ w h r c 1).bind λ g=>tin w h c rs (t+g) else
  if (c.length:Int)+(r.length:Int)-2>0 then (JJ w h r c 1).bind λ g=>tin w h c rs (t-g) else tin w h c rs t
noncomputable def Nn(w h:Int)(rs:List (List Int)):List (List Int)->Int->Option Int
 |[],t=>some t
 |c::cs,t=>(tin w h c rs t).bind λ u=>Nn w h rs cs u
theorem WB{w:Int}(h1:1<=w)(h2:w<=4):w=1\/w=2\/w=3\/w=4:=by lia
theorem WK{p:Int->Int->Bool}(h:([1,2,3,4]:List Int).all (λ w=>([1,2,3,4]:List Int).all λ h=>p w h)=true){w h':Int}(w1:1<=w)(w2:w<=4)(h1:1<=h')(h2:h'<=4):p w h'=true:=by
 have m:∀{z:Int},1<=z->z<=4->z∈([1,2,3,4]:List Int):=λ{z} a b=>by
  rcases WB a b with rfl|rfl|rfl|rfl<;>decide
 exact aI.mp (aI.mp h w (m w1 w2)) h' (m h1 h2)
theorem UG{w h:Int}(w1:1<=w)(w2:w<=4)(h1:1<=h)(h2:h<=4):Nn w h (EC (h-1).toNat) (EC (w-1).toNat) 1=some (tab w h) :=
 jF (WK (p:=λ w h=>decide (Nn w h (EC (h-1).toNat) (EC (w-1).toNat) 1=some (tab w h))) (by decide +kernel) w1 w2 h1 h2)
theorem ST{n:Nat}(h:n<4):∀w∈EC n,w≠[]/\w.length<=4:=by
 have:∀n,n<4->∀w∈EC n,w≠[]/\w.length<=4:=by decide +kernel
 exact this n h
theorem QK{n:Nat}(h:n<4):(EC n).length<=8:=by
 have:∀n,n<4->(EC n).length<=8:=by decide +kernel
 exact this n h
theorem FM{α:Type}{xs:List α}{i:Nat}{x:α}(h:xs[i]?=some x):xs.drop i=x::xs.drop (i+1):=by
 obtain⟨hi,e⟩:=aF.mp h;rw[b5 hi,e]
theorem ints_get{xs:List Int}{i:Nat}{x:V}(h:(xs.map V.int)[i]?=some x):∃z,xs[i]?=some z/\x=.int z:=by
 rw[aE]at h;cases e:xs[i]? with
 |none=>rw[e]at h;cases h
 |some z=>rw[e]at h;exact⟨z,rfl,(Option.some.inj h).symm⟩
noncomputable def Bd(ts:List (jd×List Int)):LUz:=ts.map λ t=>V.ref t.1
noncomputable def AtW(H:Hp)(ts:List (jd×List Int)):Prop:=∀t∈ts,H t.1=some (.lst (t.2.map V.int))
theorem Ep{ts:List (jd×List Int)}{i:Nat}{x:V}(h:(Bd ts)[i]?=some x):∃u,ts[i]?=some u/\x=.ref u.1:=by
 rw[Bd,aE]at h;cases e:ts[i]? with
 |none=>rw[e]at h;cases h
 |some u=>rw[e]at h;exact⟨u,rfl,(Option.some.inj h).symm⟩
theorem MN(ys:LUz)(v:V):JK (ys++[v]) none (some (-1))=ys:=by
 unfold JK;have e1:HT.sIx (ys++[v]).length 0 none=0:=rfl;have e2:HT.sIx (ys++[v]).length (ys++[v]).length (some (-1))=ys.length:=by
  show(if (-1:Int)<0 then ((-1:Int)+((ys++[v]).length:Int)).toNat else min (-1:Int).toNat (ys++[v]).length)=_;rw[jo (by decide),aH,bx];lia
 rw[e1,e2,Nat.sub_zero,di,List.take_left'];rfl
theorem SV(ys:List Int)(z:Int):up (ys++[z])=ys++[z+1]:=by
 unfold up;rw[cZ];simp
noncomputable def cInv(H1:Hp)(acc:jd)(f:List Int->List Int)(ts:List (jd×List Int))(k:Nat)(zs:LUz)(σ:St)(H':Hp):Prop :=
 (∃y,σ=[y])/\Same H1 H'/\∃us,zs=Bd us/\(∀u∈us,H' u.1=some (.lst (u.2.map V.int))/\u.1≠acc)/\us.map (·.2)=(ts.take k).map λ t=>f t.2
theorem cInv.start{H1:Hp}{acc:jd}{f:List Int->List Int}{ts:List (jd×List Int)}(h:H1 acc=none):cInv H1 acc f ts 0 [] [none] (upd H1 acc (.lst [])) :=
 ⟨⟨none,rfl⟩,Same.new h,[],rfl,λ u hu=>(nomatch hu),rfl⟩
theorem cInv.next{H1 H' H'':Hp}{acc r:jd}{f:List Int->List Int}{ts:List (jd×List Int)}{k:Nat}{zs:LUz}{σ σ':St}{u:jd×List Int}(c:cInv H1 acc f ts k zs σ H')(h1:H1 acc=none)(ha:H' acc=some (.lst zs))(hu:ts[k]?=some u)(few:ts.length<=8)(hz:zs.length=k)
  (s:Same H' H'') (n:H' r=none) (e:H'' r=some (.lst ((f u.2).map V.int))) (hs:∃y,σ'=[y]):cNx acc (Bd ts).length (cInv H1 acc f ts) k σ' (.ref r) H'':=by
 obtain⟨_,s1,us,rfl,h2,h3⟩:=c;have hk:=(aF.mp hu).1;have nr:r≠acc:=λ z=>by rw[z,ha]at n;cases n
 refine cNx.mk (aN (An (by rw[Bd,aa];lia))) (by rw[Bd,aa];exact hk) hz (s _ _ ha) ⟨hs,λ b o eb=>?_,us++[(r,f u.2)],?_,λ v hv=>?_,?_⟩
 .rw[Ad (Ag eb h1)];exact s b o (s1 b o eb)
 .rw[Bd,Bd,ai];rfl
 .rcases az.mp hv with hv|hv
  .obtain⟨a,b⟩:=h2 v hv;exact⟨by rw[Ad b];exact s _ _ a,b⟩
  .rw[af.mp hv];exact⟨by rw[Ad nr];exact e,nr⟩
 .rw[ai,h3,aS,hu,ai];rfl
noncomputable def Cb:V->Bool
 |.int i=>decide (1<=i)&&decide (i<=4)
 |_=>false
theorem Pd{v:V}(h:Cb v=true):∃i,v=.int i/\1<=i/\i<=4:=by
 cases v with
 |int i =>
  have h:(decide (1<=i)&&decide (i<=4))=true:=h;rw[ax,decide_eq_true_eq,decide_eq_true_eq]at h;exact⟨i,rfl,h.1,h.2⟩
 |_=>cases h
noncomputable def ky(x y:Int):List Key:=[Sum.inl x,Sum.inl y]
theorem RN{x y x' y':Int}(h:ky x y=ky x' y'):x=x'/\y=y':=by
 unfold ky at h;simp only[List.cons.injEq,Sum.inl.injEq,and_true]at h;exact h
noncomputable def Has(kvs:LKz)(w h:Int):Prop:=∀x y,bef w h x y=true->AS kvs (ky x y)=some (.int (tab x y))
inductive Pw(cS:jd)(vs:LUz)(H:Hp)(Q:VK)(E:XK):Prop
 |mk (a b:V) (h0:vs=[a,b]) (h1:Ty H a) (h2:Ty H b) (h3:(Cb a=true->Cb b=true->∀H',Same H H'->Q .non H')) (h4:(Cb a=false->Rf H E cS λ fs _=>fs=[(("side":jD),a)])) (h5:(Cb a=true->Cb b=false->Rf H E cS λ fs _=>fs=[(("side":jD),b)])):Pw cS vs H Q E
noncomputable def Nw(cS:jd) :Sp:=λ vs H Q E=>Pw cS vs H Q E
inductive MY(vs:LUz)(H:Hp)(Q:VK)(E:XK):Prop
 |mk (n:Int) (h0:vs=[.int n]) (h1:1<=n) (h2:n<=4) (h3:∀l ts H',Same H H'->H l=none->H' l=some (.lst (Bd ts))->AtW H' ts->ts.map (λ t:jd×List Int=>t.2)=EC (n-1).toNat->Q (.ref l) H'):MY vs H Q E
noncomputable def Oj:Sp:=λ vs H Q E=>MY vs H Q E
inductive Nb(vs:LUz)(H:Hp)(Q:VK)(E:XK):Prop
 |mk (d c r:jd) (kvs:LKz) (w h:Int) (xs ys:List Int) (R:Int) (h0:vs=[.ref d,.ref c,.ref r]) (h1:H d=some (.dT kvs)) (h2:H c=some (.lst (xs.map V.int))) (h3:H r=some (.lst (ys.map V.int))) (h4:Has kvs w h) (h5:JJ w h ys xs 1=some R) (h6:∀H',Same H H'->Q (.int R) H'):Nb vs H Q E
noncomputable def Oq:Sp:=λ vs H Q E=>Nb vs H Q E
inductive KB(vs:LUz)(H:Hp)(Q:VK)(E:XK):Prop
 |mk (d:jd) (kvs:LKz) (w h:Int) (h0:vs=[.ref d,.int w,.int h]) (h1:H d=some (.dT kvs)) (h2:1<=w) (h3:w<=4) (h4:1<=h) (h5:h<=4) (h6:Has kvs w h) (h7:∀H',Same H H'->Q (.int (tab w h)) H'):KB vs H Q E
noncomputable def LY:Sp:=λ vs H Q E=>KB vs H Q E
inductive KL(cS:jd)(vs:LUz)(H:Hp)(Q:VK)(E:XK):Prop
 |mk (a b:V) (h0:vs=[a,b]) (h1:Ty H a) (h2:Ty H b) (h3:(∀w h,a=.int w->b=.int h->1<=w->w<=4->1<=h->h<=4->∀H',Same H H'->Q (.int (tab w h)) H')) (h4:(Cb a=false->Rf H E cS λ fs _=>fs=[(("side":jD),a)])) (h5:(Cb a=true->Cb b=false->Rf H E cS λ fs _=>fs=[(("side":jD),b)])):KL cS vs H Q E
noncomputable def HX(cS:jd) :Sp:=λ vs H Q E=>KL cS vs H Q E
inductive SR(K:jw)(vs:LUz)(H:Hp)(Q:VK)(E:XK):Prop
 |mk (a:jd) (ns:List Int) (k:Int) (h0:vs=[.ref a,.int k]) (h1:SqL K H a (ns.map V.int)) (h2:0<=k) (h3:k<1000) (h4:∀z H',Same H H'->Q (.int z) H'):SR K vs H Q E
noncomputable def Ra(K:jw) :Sp:=λ vs H Q E=>SR K vs H Q E
inductive KI(vs:LUz)(H:Hp)(Q:VK)(E:XK):Prop
 |mk (n b:Int) (h0:vs=[.int n,.int b]) (h1:0<=b) (h2:b<=100) (h3:∀r,0<=r->Q (.int r) H):KI vs H Q E
noncomputable def HV:Sp:=λ vs H Q E=>KI vs H Q E
theorem Wr:QH 10 18:=⟨by decide,by decide,by decide⟩
theorem V5{v:V}(h:(!Di v)=true):Cb v=false:=by cases v<;>first|rfl|cases h
theorem V6{i:Int}(h:decide ((1:Int)<=i)=false):Cb (.int i)=false:=by show(decide (1<=i)&&_)=false;rw[h];rfl
theorem MT{i:Int}(h:decide ((1:Int)<=i)=true):Cb (.int i)=decide (i<=4):=by show(decide (1<=i)&&_)=_;rw[h];rfl
theorem Go{f:jd}{fd:jr}(F:Fun K "check_counted" "check_counted" Ch f fd)(T:Txt mg tk)(hU:Pn P w K mg ja 1 "NoSide" cS mH ["side"])(fZ:Aq P w K mg ja 1 "is_whole" lU DD) :
  A3 P w K mg ja (CX1 P w) 3 f fd lW (Nw cS):=by
 have S:Ak ["width","height","side"] lW (Ah Ch):=fsk;refine F.gx S ?_;rintro vs H Q E ⟨a,b,rfl,ta,tb,q,r1,r2⟩;refine⟨rfl,λ cdv A i6 s hr=>?_⟩;refine⟨_,(Af (AE N9 rfl (N3 (AB (Aa Ai (Aj Al)))) (AW 2 S.nd) (Af (AK (PW.pt (F1 (Br (Bg (Ao fZ hr (Aj Ar)))) (DR (Br (Ii Co Co Ac Ar (AF (v:=.int 4) rfl T.iJ ⟨_,rfl⟩)))))) (Af (Mg Hi hU hr (Aj Ar))) A1)))),?_⟩;refine⟨_,rfl,_,rfl,A8 2,λ t ht=>⟨t,rfl,⟨_,SqT.of Ae⟩,OU (K:=K) (a:=t) (xs:=[a,b]) (λ i σ H'=>(∃y,σ=[some a,some b,y])/\H'=upd H t (.tup [a,b])/\(0<i->Cb a=true)/\(1<i->Cb b=true)) ⟨⟨none,rfl⟩,rfl,(λ z=>absurd z (by decide)),λ z=>absurd z (by decide)⟩ (λ i σ H' _ hp=>by rw[hp.2.1];exact SqT.of Ae) ?_ ?_⟩⟩
 .rintro i x σ H' hx ⟨⟨y,rfl⟩,rfl,h0,h1⟩;have s1:Same H (upd H t (.tup [a,b])):=Same.new ht;obtain⟨tx,hI⟩:Ty H x/\(Cb x=false->Rf H E cS λ fs _=>fs=[(("side":jD),x)]):=by
   match i,hx with
   |0,hx=>cases hx;exact⟨ta,r1⟩
   |1,hx=>cases hx;exact⟨tb,r2 (h0 (by lia))⟩
   |i+2,hx=>cases hx
  have good:Cb x=true->(0<i+1->Cb a=true)/\(1<i+1->Cb b=true):=λ hc=>by
   match i,hx with
   |0,hx=>cases hx;exact⟨λ_=>hc,λ z=>absurd z (by decide)⟩
   |1,hx=>cases hx;exact⟨λ_=>h0 (by lia),λ_=>hc⟩
   |i+2,hx=>cases hx
  refine⟨_,rfl,x,rfl,tx.same s1,_,rfl,BA (λ hb=>?_) λ hb=>?_⟩
  .exact NN ⟨_,rfl,rfl,λ y dx T H2 hy s2 e ed nd hT nT=>(hI (V5 hb)).raise s1 hy s2 e ed nd hT rfl⟩
  .obtain⟨i,rfl⟩:∃i,x=.int i:=by cases x<;>first|exact⟨_,rfl⟩|cases hb
   refine⟨_,rfl,_,_,rfl,rfl,_,rfl,BA (λ h1=>?_) (λ h1=>?_)⟩
   .refine⟨_,_,rfl,rfl,_,rfl,BA (λ h2=>?_) (λ h2=>?_)⟩
    .have h2:decide (i<=(4:Int))=false:=by simpa using h2
     exact⟨_,rfl,rfl,λ y dx T H2 hy s2 e ed nd hT nT=>(hI ((MT h1).trans h2)).raise s1 hy s2 e ed nd hT rfl⟩
    .have h2:decide (i<=(4:Int))=true:=by simpa using h2
     obtain⟨g1,g2⟩:=good ((MT h1).trans h2);exact⟨⟨_,rfl⟩,rfl,g1,g2⟩
   .exact⟨_,rfl,NN ⟨_,rfl,rfl,λ y dx T H2 hy s2 e ed nd hT nT=>(hI (V6 h1)).raise s1 hy s2 e ed nd hT rfl⟩⟩
 .rintro σ H' ⟨⟨y,rfl⟩,rfl,h0,h1⟩;exact q (h0 (by show 0<2;decide)) (h1 (by show 1<2;decide)) _ (Same.new ht)
theorem GX{f:jd}{fd:jr}(F:Fun K "ways_to_part" "ways_to_part" Cy f fd)(T:Txt mg tk):A3 P w K mg ja CX0 1 f fd lX Oj:=by
 have S:Ak ["length","ways","step","longer"] lX (Ah Cy):=fsk;refine F.g S ?_;rintro vs H Q E ⟨n,rfl,n1,n2,q⟩;refine⟨rfl,λ cdv A i6 s hr=>?_⟩;refine⟨_,(Ab (Av 1 S.nd (B8 (Aj (B8 (Aj Ac)))))
  (Ab (AE PassesOwn.never rfl (Bm rfl T.z_range (Aa Ac (Aj Ai))) (AW 2 S.nd) (Ab (EU rfl (AW 3 S.nd) (A6 Al) (λ_ _ _ _ _=>pgk (nk ["way"])) (λ_ _ _ _ _=>(Ap NC (DU (Rb (K:=K)) Ai F4 (F3 (Im ED Ac))) (B8 (Aj (Ap AC (Ax (RZ (K:=K)) Ai (Im ED Ac)) Ac))))) (N:=["way"]) (fr:=[none]))
  (Af (Av 1 S.nd (Ap NC Az (Bi rfl (A6 Al) (λ_ _ _ _ _=>pgk (nk ["way"])) (λ_ _ _ _ _=>(Ap NC Ai (B8 (Aj Ac)))) (N:=["way"]) (fr:=[none])))))))
  (Af (Am Al)))),?_⟩
 refine⟨A8 1,λ a ha=>⟨A8 1,λ l hl=>?_⟩⟩;have sa:Same H (upd H a (.lst [.int 1])):=Same.new ha;have sl:Same (upd H a (.lst [.int 1])) (upd (upd H a (.lst [.int 1])) l (.lst [.ref a])):=Same.new hl;refine⟨_,rfl,1,n,rfl,⟨by lia,by lia,by lia,by lia⟩,AT (lo:=1) (n:=(n-1).toNat) (λ i σ H'=>∃l ts,(∃y z,σ=[some (.int n),some (.ref l),y,z])/\Same H H'/\H l=none/\H' l=some (.lst (Bd ts))/\AtW H' ts/\ts.map (λ t:jd×List Int=>t.2)=EC i)
  ⟨l,[(a,[1])],⟨none,none,rfl⟩,sa.trans sl,Hj sa hl,Ae,λ t ht=>?_,rfl⟩ ?_ ?_⟩
 .rw[af.mp ht];exact sl _ _ Ae
 .rintro i σ H1 hi ⟨l,ts,⟨y,z,rfl⟩,s1,nl,hl,ht,hw⟩;have i3:i<4:=by lia
  have few:ts.length<=8:=by
   have:=QK i3;rw[<-hw,aa]at this;exact this
  have good:∀u∈ts,u.2≠[]/\u.2.length<=4:=λ u hu=>ST i3 u.2 (by rw[<-hw];exact ao.mpr ⟨u,hu,rfl⟩);refine⟨_,rfl,l,rfl,⟨_,SqL.of hl⟩,λ acc jb=>Be (K:=K) (a:=l) (ys:=Bd ts) (cInv H1 acc up ts) (cInv.start jb) (λ k zs σ H' _ _ hp=>SqL.of (hp.2.1 _ _ hl)) ?_ ?_⟩
  .rintro k x zs σ H' hx hk hl' jb' hp;obtain⟨⟨y,rfl⟩,hs,_⟩:=id hp;obtain⟨u,hu,rfl⟩:=Ep hx;have hum:=aA hu;have hua:=hs _ _ (ht u hum);obtain⟨w0,e0,he⟩:∃w0 e0,u.2=w0++[e0]:=⟨u.2.dropLast,u.2.getLast (good u hum).1,(cw _).symm⟩;have hl4:=(good u hum).2;rw[he,aH,bx]at hl4;have em:u.2.map V.int=w0.map V.int++[.int e0]:=by rw[he,ai];rfl
   have ea:atI (u.2.map V.int) (-1)=some (.int e0):=by rw[em];exact SG _ _
   have ec:JK (u.2.map V.int) none (some (-1))=w0.map V.int:=by rw[em];exact MN _ _
   refine⟨_,rfl,_,rfl,_,rfl,u.1,_,rfl,SqL.of hua,λ c hc=>?_⟩;rw[show(-(1:Int))=-1 from rfl,ec];have sc:Same H' (upd H' c (.lst (w0.map V.int))):=Same.new hc;refine⟨_,rfl,_,rfl,u.1,_,_,_,rfl,rfl,SqL.of (sc _ _ hua),ea,_,_,rfl,rfl,A8 1,λ m hm=>?_⟩;have sm:Same (upd H' c (.lst (w0.map V.int))) (upd (upd H' c (.lst (w0.map V.int))) m (.lst [.int (e0+1)])):=Same.new hm;refine⟨c,m,w0.map V.int,[.int (e0+1)],rfl,rfl,sm _ _ Ae,Ae,aN (An (by rw[aa,bx];lia)),λ r hr=>?_⟩;refine hp.next jb jb' hu few hl' ((sc.trans sm).trans (Same.new hr)) (Hj (sc.trans sm) hr) ?_ ⟨_,rfl⟩;rw[Ae,he,SV,ai];rfl
  .rintro zs σ H2 hlen hacc2 ⟨⟨y0,rfl⟩,s2,us,rfl,hu2,hm2⟩;rw[Bd,aa,aM]at hm2;refine⟨_,rfl,_,rfl,l,rfl,⟨_,SqL.of (s2 _ _ hl)⟩,λ acc' jb'=>Be (K:=K) (a:=l) (ys:=Bd ts) (cInv H2 acc' on ts) (cInv.start jb') (λ k zs σ H' _ _ hp=>SqL.of (hp.2.1 _ _ (s2 _ _ hl))) ?_ ?_⟩
   .rintro k x zs σ H' hx hk hl' ha' hp;obtain⟨⟨y,rfl⟩,hs,_⟩:=id hp;obtain⟨u,hu,rfl⟩:=Ep hx;have hum:=aA hu;have hua:=(s2.trans hs) _ _ (ht u hum);have hl4:=(good u hum).2;refine⟨_,rfl,A8 1,λ m hm=>?_⟩;have sm:Same H' (upd H' m (.lst [.int 1])):=Same.new hm;refine⟨u.1,m,u.2.map V.int,[.int 1],rfl,rfl,sm _ _ hua,Ae,aN (An (by rw[aa,bx];lia)),λ r hr=>?_⟩;refine hp.next jb' ha' hu few hl' (sm.trans (Same.new hr)) (Hj sm hr) ?_ ⟨_,rfl⟩;rw[Ae,on,ai];rfl
   .rintro zs σ H3 hlen3 hacc3 ⟨⟨y1,rfl⟩,s3,vs,rfl,hu3,hm3⟩;rw[Bd,aa,aM]at hm3;have lu:us.length=ts.length:=by rw[<-aa (f:=λ t:jd×List Int=>t.2),hm2,aa]
    have lv:vs.length=ts.length:=by rw[<-aa (f:=λ t:jd×List Int=>t.2),hm3,aa]
    refine⟨acc,acc',Bd us,Bd vs,rfl,rfl,s3 _ _ hacc2,hacc3,aN (An (by rw[Bd,Bd,aa,aa];lia)),λ r hr=>?_⟩;have sr:Same H3 (upd H3 r (.lst (Bd us++Bd vs))):=Same.new hr;refine⟨r,us++vs,⟨_,_,rfl⟩,((s1.trans s2).trans s3).trans sr,Hj ((s1.trans s2).trans s3) hr,?_,λ t hm=>?_,?_⟩
    .rw[Ae,Bd,Bd,Bd,ai]
    .rcases az.mp hm with hm|hm
     .exact sr _ _ (s3 _ _ (hu2 t hm).1)
     .exact sr _ _ (hu3 t hm).1
    .rw[ai,hm2,hm3,EC,<-hw,aB,aB];rfl
 .rintro σ H1 ⟨l,ts,⟨y,z,rfl⟩,s1,nl,hl,ht,hw⟩;exact⟨_,rfl,q l ts H1 s1 nl hl ht hw⟩
theorem Xw{a b:Int}(h1:a.natAbs<1000000000)(h2:b.natAbs<1000000000):IntMulOk a b:=by
 have c:(2:Nat)^128=340282366920938463463374607431768211456:=by decide +kernel
 refine M4 ?_ ?_<;>rw[c]<;>lia
theorem Gm{f:jd}{fd:jr}(F:Fun K "count_of_grid" "count_of_grid" Cf f fd):A3 P w K mg ja CX0 1 f fd mY Oq:=by
 have S:Ak ["counts","columns","rows","product","width","height"] mY (Ah Cf):=fsk;refine F.g S ?_;rintro vs H Q E ⟨d,c,r,kvs,w,h,xs,ys,R,rfl,hd,hc,hrr,has,hg,q⟩;refine⟨rfl,λ cdv A i6 s hr=>?_⟩;have hu:=Ea hr;refine⟨_,(Ab (Av 3 S.nd Ac)
  (Ab (AE PassesOwn.never rfl (A6 Al) (AW 4 S.nd) (Af (AE PassesOwn.never rfl (A6 Ar) (AW 5 S.nd) (Af (Av 3 S.nd (Ap Cr Az (Dp hu Ai (AB (Aa AG (Aj B0))))))))))
  (Af (Am Az)))),?_⟩
 refine⟨_,rfl,c,rfl,⟨_,SqL.of hc⟩,Bu (K:=K) (a:=c) (xs:=xs.map V.int) (λ i σ H'=>Same H H'/\∃p x5 x6,σ=[some (.ref d),some (.ref c),some (.ref r),some (.int p),x5,x6]/\JJ w h ys (xs.drop i) p=some R)
  ⟨Same.refl H,1,none,none,rfl,hg⟩ (λ i σ H' _ hp=>SqL.of (hp.1 _ _ hc)) ?_ ?_⟩
 .rintro i x σ H1 hx ⟨s1,p,x5,x6,rfl,hg1⟩;obtain⟨z,hz,rfl⟩:=ints_get hx;rw[FM hz,JJ]at hg1;refine⟨_,rfl,r,rfl,⟨_,SqL.of (s1 _ _ hrr)⟩,Bu (K:=K) (a:=r) (xs:=ys.map V.int) (λ j σ H'=>Same H H'/\∃p x6,σ=[some (.ref d),some (.ref c),some (.ref r),some (.int p),some (.int z),x6]/\((gin w h z (ys.drop j) p).bind λ q=>JJ w h ys (xs.drop (i+1)) q)=some R)
   ⟨s1,p,x6,rfl,hg1⟩ (λ i σ H' _ hp=>SqL.of (hp.1 _ _ hrr)) ?_ ?_⟩
  .rintro j y σ H2 hy ⟨s2,p,x6,rfl,hg2⟩;obtain⟨y,hy',rfl⟩:=ints_get hy;rw[FM hy',gin]at hg2;split at hg2
   .rename_i hb;obtain⟨hb,p1,t1⟩:=hb;refine⟨_,rfl,_,rfl,_,rfl,_,rfl,A8 2,λ t ht=>?_⟩;have st:Same H2 (upd H2 t (.tup [.int z,.int y])):=Same.new ht;have dg:=DGet.t (k:=ky z y) ((s2.trans st) _ _ hd) (show(upd H2 t (.tup [.int z,.int y])) t=some (.tup ((ky z y).map kV)) from Ae);rw[has z y hb]at dg;exact⟨d,_,rfl,dg,_,_,rfl,rfl,Xw p1 t1,s2.trans st,_,_,rfl,hg2⟩
   .cases hg2
  .rintro σ H2 ⟨s2,p,x6,rfl,hg2⟩;rw[aa,bM,gin]at hg2;exact⟨s2,p,_,_,rfl,hg2⟩
 .rintro σ H1 ⟨s1,p,x5,x6,rfl,hg1⟩;rw[aa,bM,JJ]at hg1;cases hg1;exact⟨_,rfl,q _ s1⟩
theorem Ez{f:jd}{fd:jr}(F:Fun K "count_by_smaller" "count_by_smaller" B7 f fd)(T:Txt mg tk)(gE:Aq P w K mg ja 1 "ways_to_part" lX Oj)(gF:Aq P w K mg ja 1 "count_of_grid" mY Oq):A3 P w K mg ja CX0 2 f fd mZ LY:=by
 have S:Ak ["counts","width","height","total","columns","rows","lines"] mZ (Ah B7):=fsk;refine F.g S ?_;rintro vs H Q E ⟨d,kvs,w,h,rfl,hd,w1,w2,h1,h2,has,q⟩;refine⟨rfl,λ cdv A i6 s hr=>?_⟩;refine⟨_,(Ab (Av 3 S.nd Ac)
  (Ab (AE PassesOwn.never rfl (A6 (Ao gE hr (Aj Al))) (AW 4 S.nd) (Af (AE PassesOwn.never rfl (A6 (Ao gE hr (Aj Ar))) (AW 5 S.nd) (Ab (Av 6 S.nd (Ap Cl (Ap AC (AL AV T.z_len (Aj AG)) (AL AV T.z_len (Aj B0))) Ac))
  (Af (AK (A4 op_eq (Ap Bj (pv 6) Ac) Ac) (Af (C7 (i:=3) S.nd rfl (bN rfl) (Ao gF hr (Aa Ai (Aa AG (Aj B0)))) Dv)) (Af (AK (A4 R7 (pv 6) Ac) (Af (C7 (i:=3) S.nd rfl (bN rfl) (Ao gF hr (Aa Ai (Aa AG (Aj B0)))) NR)) A1))))))))
  (Af (Am Az)))),?_⟩
 refine⟨_,rfl,w,rfl,w1,w2,λ l ts H1 s1 _ hl ht hw=>⟨l,rfl,⟨_,SqL.of hl⟩,Bu (K:=K) (a:=l) (xs:=Bd ts) (λ i σ H'=>Same H1 H'/\∃t x4 x5 x6,σ=[some (.ref d),some (.int w),some (.int h),some (.int t),x4,x5,x6]/\Nn w h (EC (h-1).toNat) ((ts.drop i).map λ t:jd×List Int=>t.2) t=some (tab w h)) ⟨Same.refl H1,1,none,none,none,rfl,?_⟩ (λ i σ H' _ hp=>SqL.of (hp.1 _ _ hl)) ?_ ?_⟩⟩
 .rw[di,hw];exact UG w1 w2 h1 h2
 .rintro i x σ H2 hx ⟨s2,t,x4,x5,x6,rfl,hg⟩;obtain⟨u,hu,rfl⟩:=Ep hx;rw[FM hu,aJ,Nn]at hg;have hua:=s2 _ _ (ht u (aA hu));refine⟨_,rfl,h,rfl,h1,h2,λ l' ts' H3 s3 _ hl' ht' hw'=>⟨l',rfl,⟨_,SqL.of hl'⟩,Bu (K:=K) (a:=l') (xs:=Bd ts') (λ j σ H'=>Same H3 H'/\∃t x5 x6,σ=[some (.ref d),some (.int w),some (.int h),some (.int t),some (.ref u.1),x5,x6]/\((tin w h u.2 ((ts'.drop j).map λ t:jd×List Int=>t.2) t).bind λ q=>Nn w h (EC (h-1).toNat) ((ts.drop (i+1)).map λ t:jd×List Int=>t.2) q)=some (tab w h)) ⟨Same.refl H3,t,x5,x6,rfl,?_⟩ (λ j σ H' _ hp=>SqL.of (hp.1 _ _ hl')) ?_ ?_⟩⟩
  .rw[di,hw'];exact hg
  .rintro j y σ H4 hy ⟨s4,t,x5,x6,rfl,hg2⟩;obtain⟨v,hv,rfl⟩:=Ep hy;rw[FM hv,aJ,tin]at hg2;have hva:=s4 _ _ (ht' v (aA hv));have hua4:=(s3.trans s4) _ _ hua;have hd4:H4 d=some (.dT kvs):=(s1.trans (s2.trans (s3.trans s4))) _ _ hd;rw[<-aa (f:=V.int) (as:=u.2),<-aa (f:=V.int) (as:=v.2)]at hg2;refine⟨_,rfl,u.1,_,rfl,.inl (SqL.of hua4),_,rfl,v.1,_,rfl,.inl (SqL.of hva),_,_,rfl,rfl,_,_,rfl,rfl,?_⟩;refine⟨_,rfl,_,_,rfl,rfl,(show(0:Int)<2 from by decide),rfl,_,rfl,BA (λ hb=>?_) (λ hb=>?_)⟩
   .rw[jo (V.int.inj (jF hb))]at hg2;cases eg:JJ w h v.2 u.2 1 with
    |none=>rw[eg]at hg2;cases hg2
    |some g =>
     rw[eg]at hg2;exact⟨_,rfl,_,rfl,_,rfl,_,rfl,d,u.1,v.1,kvs,w,h,u.2,v.2,g,rfl,hd4,hua4,hva,has,eg,λ H5 s5=>⟨_,_,rfl,rfl,s4.trans s5,_,_,_,rfl,hg2⟩⟩
   .rw[jj (λ z=>of_decide_eq_false hb (congrArg V.int z))]at hg2;refine⟨_,rfl,_,_,rfl,rfl,_,rfl,BA (λ hc=>?_) (λ hc=>?_)⟩
    .rw[jo (jF hc)]at hg2;cases eg:JJ w h v.2 u.2 1 with
     |none=>rw[eg]at hg2;cases hg2
     |some g =>
      rw[eg]at hg2;exact⟨_,rfl,_,rfl,_,rfl,_,rfl,d,u.1,v.1,kvs,w,h,u.2,v.2,g,rfl,hd4,hua4,hva,has,eg,λ H5 s5=>⟨_,_,rfl,rfl,s4.trans s5,_,_,_,rfl,hg2⟩⟩
    .rw[jj (of_decide_eq_false hc)]at hg2;exact⟨s4,_,_,_,rfl,hg2⟩
  .rintro σ H4 ⟨s4,t,x5,x6,rfl,hg2⟩;rw[Bd,aa,bM,b9,tin]at hg2;exact⟨s2.trans (s3.trans s4),t,_,_,_,rfl,hg2⟩
 .rintro σ H2 ⟨s2,t,x4,x5,x6,rfl,hg⟩;rw[Bd,aa,bM,b9,Nn]at hg;cases hg;exact⟨_,rfl,q _ (s1.trans s2)⟩
theorem R9{f:jd}{fd:jr}(F:Fun K "count" "count" Le f fd)(T:Txt mg tk)(gl:Dz P w K mg ja 3 "check_counted" lW (Nw cS))(hV:Aq P w K mg ja 2 "count_by_smaller" mZ LY):A3 P w K mg ja (CX1 P w) 4 f fd lW (HX cS):=by
 have S:Ak ["width","height","counts","wide","high"] lW (Ah Le):=fsk;refine F.gx S ?_;rintro vs H Q E ⟨a,b,rfl,ta,tb,q,r1,r2⟩;refine⟨rfl,λ cdv A i6 s hr=>?_⟩;have hu:=Ea hr;refine⟨_,(Ab (Bh (Ge gl hr (R3 Hi (R4 (H:=H) (E:=E))) (Aa Ai (Aj Al))))
  (Ab (Av 2 S.nd Ip)
  (Ab (AE N9 rfl (Bm rfl T.z_range (Aa Ac (Aj (Ap AC Ai Ac)))) (AW 3 S.nd) (Af (AE N9 rfl (Bm rfl T.z_range (Aa Ac (Aj (Ap AC Al Ac)))) (AW 4 S.nd) (Af (Er hu Ar (AB (Aa Az (Aj AG))) (Ao hV hr (Aa Ar (Aa Az (Aj AG)))) rfl)))))
  (Af (Am (Dp hu Ar (AB (Aa Ai (Aj Al))))))))),?_⟩
 refine⟨_,rfl,_,rfl,a,b,rfl,ta,tb,λ ca cb H1 s1=>?_,λ ca=>Tp (Same.refl H) (r1 ca) KZ,λ ca cb=>Tp (Same.refl H) (r2 ca cb) KZ⟩;obtain⟨w,rfl,w1,w2⟩:=Pd ca;obtain⟨h,rfl,h1,h2⟩:=Pd cb;intro d hd;refine⟨_,rfl,_,_,rfl,rfl,1,w+1,rfl,⟨by lia,by lia,by lia,by lia⟩,AT (lo:=1) (n:=(w+1-1).toNat) (λ i σ H'=>(∃y z,σ=[some (.int w),some (.int h),some (.ref d),y,z])/\Same H1 H'/\∃kvs,H' d=some (.dT kvs)/\kvs.length<=4*i/\∀x y,1<=x->x<=(i:Int)->1<=y->y<=h->AS kvs (ky x y)=some (.int (tab x y)))
  ⟨⟨none,none,rfl⟩,Same.new hd,[],Ae,ah _,λ x y a b=>by lia⟩ ?_ ?_⟩
 .rintro i σ H2 hi ⟨⟨y,z,rfl⟩,s2,kvs,hk,hkl,ha⟩;refine⟨_,rfl,_,_,rfl,rfl,1,h+1,rfl,⟨by lia,by lia,by lia,by lia⟩,AT (lo:=1) (n:=(h+1-1).toNat) (λ j σ H'=>(∃z,σ=[some (.int w),some (.int h),some (.ref d),some (.int (1+(i:Int))),z])/\Same H1 H'/\∃kvs,H' d=some (.dT kvs)/\kvs.length<=4*i+j/\(∀x y,1<=x->x<=(i:Int)->1<=y->y<=h->AS kvs (ky x y)=some (.int (tab x y)))/\∀y,1<=y->y<=(j:Int)->AS kvs (ky (1+(i:Int)) y)=some (.int (tab (1+(i:Int)) y)))
   ⟨⟨z,rfl⟩,s2,kvs,hk,by lia,ha,λ y a b=>by lia⟩ ?_ ?_⟩
  .rintro j σ H3 hj ⟨⟨z,rfl⟩,s3,kv,hk3,hl3,b1,b2⟩;have has:Has kv (1+(i:Int)) (1+(j:Int)):=λ x y hb=>by
    unfold bef at hb;simp only[ax,cx,decide_eq_true_eq]at hb;obtain⟨⟨⟨x1,x2⟩,y1,y2⟩,lt⟩:=hb;by_cases e:x=1+(i:Int)
    .subst e;exact b2 y y1 (by lia)
    .exact b1 x y x1 (by lia) y1 (by lia)
   refine⟨_,rfl,_,rfl,_,rfl,d,kv,1+(i:Int),1+(j:Int),rfl,hk3,by lia,by lia,by lia,by lia,has,λ H4 s4=>⟨_,rfl,_,rfl,_,rfl,A8 2,λ t ht=>?_⟩⟩;have hk4:(upd H4 t (.tup [.int (1+(i:Int)),.int (1+(j:Int))])) d=some (.dT kv):=Same.new ht _ _ (s4 _ _ hk3);refine⟨d,_,rfl,DPut.t (k:=ky (1+(i:Int)) (1+(j:Int))) hk4 Ae (An (by lia)),⟨_,rfl⟩,λ b o e=>?_,_,Ae,?_,λ x y x1 x2 y1 y2=>?_,λ y y1 y2=>?_⟩
   .rw[Ad (Ag e hd)];exact Same.new ht _ _ (s4 _ _ (s3 b o e))
   .have:=Ca kv (ky (1+(i:Int)) (1+(j:Int))) (V.int (tab (1+(i:Int)) (1+(j:Int))));lia
   .rw[CT,jj (λ e=>by have:=(RN e).1;lia)];exact b1 x y x1 x2 y1 y2
   .rw[CT];by_cases e:y=1+(j:Int)
    .rw[jo (by rw[e]),e]
    .rw[jj (λ z=>e (RN z).2)];exact b2 y y1 (by lia)
  .rintro σ H3 ⟨⟨z,rfl⟩,s3,kv,hk3,hl3,b1,b2⟩;refine⟨⟨_,_,rfl⟩,s3,kv,hk3,by lia,λ x y x1 x2 y1 y2=>?_⟩;by_cases e:x=1+(i:Int)
   .rw[e];exact b2 y y1 (by lia)
   .exact b1 x y x1 (by lia) y1 y2
 .rintro σ H2 ⟨⟨y,z,rfl⟩,s2,kvs,hk,hkl,ha⟩;refine⟨_,rfl,_,rfl,_,rfl,A8 2,λ t ht=>?_⟩;have st:Same H2 (upd H2 t (.tup [.int w,.int h])):=Same.new ht;have dg:=DGet.t (k:=ky w h) (st _ _ hk) (show(upd H2 t (.tup [.int w,.int h])) t=some (.tup ((ky w h).map kV)) from Ae);rw[ha w h w1 (by lia) h1 (a9 _)]at dg;exact⟨d,_,rfl,dg,q w h rfl rfl w1 w2 h1 h2 _ ((s1.trans s2).trans st)⟩
theorem Qb{f:jd}{fd:jr}(F:Fun K "_law_at" "_law_at" Gb f fd)(T:Txt mg tk):A3 P w K mg ja CX0 1 f fd mI (Ra K):=by
 have S:Ak ["_law_script","_law_k","_law_cell"] mI (Ah Gb):=fsk;refine F.g S ?_;rintro vs H Q E ⟨a,ns,k,rfl,hS,hk0,hk1,q⟩;refine⟨rfl,λ cdv A i6 s hr=>?_⟩;refine⟨_,(Ab (AK (A4 D4 Al (AL AV T.z_len (Aj Ai))) (Af (Am (Ax Du Ai Al))) A1)
  (Ab (Av 2 S.nd Ac)
  (Ab (AK (A4 (R6 hr) Ai (B8 EX)) (Af (Av 2 S.nd (Ax Du Ai (Ap Bj Al (AL AV T.z_len (Aj Ai)))))) A1)
  (Af (Am (Ap Bj (Ap Cr (Ap AC (Ap AC (Ap Bj Ar Ac) (Ap Cr Ac Al)) Ac) Ac) Ac)))))),?_⟩
 have fin:∀z:Int,IntMulOk (z % 1000003+104729*k+13) 48271:=λ z=>by
  have a:=bj z (b:=1000003) (by decide);have b:=bp z (b:=1000003) (by decide);exact Kl (by lia) (by lia) (by decide) (by decide)
 refine⟨_,rfl,_,rfl,a,_,rfl,.inl hS,_,_,rfl,rfl,_,rfl,BA (λ h=>?_) (λ h=>?_)⟩
 .have h':=jF h;rw[aa]at h';obtain⟨z,hz⟩:=Pj hk0 h';exact⟨_,rfl,_,rfl,a,_,_,_,rfl,rfl,hS,hz,q _ H (Same.refl H)⟩
 .refine⟨_,rfl,A8 0,λ e he=>?_⟩;obtain⟨H1,g,s1,e1⟩:=nw (.lst []) he;rw[g];refine⟨_,_,W3 (s1.seq hS),Xu e1,⟨_,rfl⟩,⟨_,rfl⟩,Qv _,_,rfl,BA (λ h1=>?_) (λ h1=>?_)⟩
  .rw[jo rfl,deq,Qw]at h1;have hne:ns≠[]:=λ z=>by rw[jn z]at h1;cases h1
   have hpos:0<ns.length:=List.length_pos_iff.mpr hne;obtain⟨z,hz⟩:=Pj (ns:=ns) (k:=k % (((ns.map V.int).length:Nat):Int)) (bj _ (by rw[aa];lia)) (by rw[aa];exact bp _ (by lia));refine⟨_,rfl,_,rfl,_,rfl,a,_,rfl,.inl (s1.seq hS),_,_,rfl,rfl,(by rw[aa];lia),a,_,_,_,rfl,rfl,s1.seq hS,hz,?_⟩;exact⟨_,rfl,_,_,rfl,rfl,(show(0:Int)<1000003 from by decide),_,rfl,_,_,rfl,rfl,Kl (by decide) (by decide) (by lia) (by lia),_,_,rfl,rfl,_,_,rfl,rfl,_,_,rfl,rfl,fin _,_,_,rfl,rfl,(show(0:Int)<2147483647 from by decide),q _ H1 s1⟩
  .exact⟨_,rfl,_,_,rfl,rfl,(show(0:Int)<1000003 from by decide),_,rfl,_,_,rfl,rfl,Kl (by decide) (by decide) (by lia) (by lia),_,_,rfl,rfl,_,_,rfl,rfl,_,_,rfl,rfl,fin _,_,_,rfl,rfl,(show(0:Int)<2147483647 from by decide),q _ H1 s1⟩
theorem Ln{f:jd}{fd:jr}(F:Fun K "_law_knead" "_law_knead" BE f fd)(T:Txt mg tk):A3 P w K mg ja CX0 1 f fd mJ HV:=by
 have S:Ak ["_law_number","_law_by","_law_digits","_law_k","_law_found"] mJ (Ah BE):=fsk;refine F.g S ?_;rintro vs H Q E ⟨n,b,rfl,b0,b1,q⟩;refine⟨rfl,λ cdv A i6 s hr=>?_⟩;obtain⟨tt,htt,fin⟩:∃rd,PSs (B3 CX0 P w K mg ja ["_law_number","_law_by","_law_digits","_law_k","_law_found"] "_law_knead" (Ah BE) f cdv A i6 s H E).nox ((A7 BE).drop 2) rd /\
   ∀(d:Int)(x3:Option V),0<=d->rd { nx:=λ_ H'=>Q .non H',rt:=Q } [some (.int n),some (.int b),some (.int d),x3,none] H:=by
  refine⟨_,(Ab (AK (A4 R7 Ar Ac) (Af (Am (Ap Bj Ar Ac))) A1)
  (Ab (Av 0 S.nd (Ap AC (Ap Bj Ai Ac) (Ap Cr Ac Al)))
  (Ab (Av 4 S.nd (Ap AC Ac Al))
  (Ab (AE PassesOwn.never rfl (CZ rfl T.z_range (Aj Ac)) (AW 3 S.nd) (Ab (Av 4 S.nd (Ap Bj (Ap Cr (Ap AC (Ap Cr AG Ac) Ai) (Ap AC (Ap Bj Ai Ac) Ac)) Ac))
  (Af (Av 0 S.nd (Ap AC (Ap AC (Ap F8 Ai Ac) (Ap Bj AG Ac)) Az)))))
  (Af (Am AG)))))),?_⟩
  intro d x3 d0;refine⟨_,rfl,_,_,rfl,rfl,_,rfl,BA (λ h=>?_) (λ h=>?_)⟩
  .exact⟨_,rfl,_,_,rfl,rfl,(show(0:Int)<1000000000 from by decide),q _ (bj _ (by decide))⟩
  .have a:=bj n (b:=900001) (by decide);have c:=bp n (b:=900001) (by decide);refine⟨_,rfl,_,_,rfl,rfl,(show(0:Int)<900001 from by decide),_,rfl,_,_,rfl,rfl,Kl (by decide) (by decide) (by lia) (by lia),_,_,rfl,rfl,_,rfl,_,_,rfl,rfl,3,rfl,by decide,by decide,?_⟩;refine AT (lo:=0) (n:=(3:Int).toNat) (λ i σ H'=>H'=H/\∃N F x2 x3,σ=[some (.int N),some (.int b),x2,x3,some (.int F)]/\0<=N/\N<=1000000/\0<=F/\F<=715827883) ⟨rfl,_,_,_,_,rfl,by lia,by lia,by lia,by lia⟩ ?_ ?_
   .rintro i σ H' hi ⟨rfl,N,F,x2,x3,rfl,n0,n1,f0,f1⟩;have hi3:i<3:=hi;have m0:=bj N (b:=8887) (by decide);have m1:=bp N (b:=8887) (by decide);refine⟨_,rfl,_,_,rfl,rfl,Kl (by lia) (by lia) (by decide) (by decide),_,rfl,_,_,rfl,rfl,_,rfl,_,_,rfl,rfl,(show(0:Int)<8887 from by decide),_,_,rfl,rfl,_,_,rfl,rfl,Kl (by lia) (by lia) (by lia) (by lia),_,_,rfl,rfl,(show(0:Int)<715827883 from by decide),?_⟩;have g0:=bj ((F*8191+N)*(N % 8887+5501)) (b:=715827883) (by decide);have g1:=bp ((F*8191+N)*(N % 8887+5501)) (b:=715827883) (by decide);generalize (F*8191+N)*(N % 8887+5501) % 715827883=F' at g0 g1 |-;refine⟨_,rfl,_,_,rfl,rfl,Su _ (by decide) (by decide),_,rfl,_,_,rfl,rfl,(show(0:Int)<1013 from by decide),_,_,rfl,rfl,_,rfl,_,_,rfl,rfl,rfl,_,_,_,_,rfl,?_,?_,by lia,by lia⟩
    .lia
    .lia
   .rintro σ H' ⟨rfl,N,F,x2,x3,rfl,n0,n1,f0,f1⟩;exact⟨_,rfl,q _ f0⟩
 refine⟨_,(Ab (Av 2 S.nd Ac)
  (Ab (AK (PW.pt (F1 (A4 D4 Ai Ac) (DR (A4 R8 Ai (Ap Lj Ac Ac))))) (Ab (Av 2 S.nd (AL S3 T.z_abs (Aj Ai)))
  (Af (AE PassesOwn.never rfl (CZ rfl T.z_range (Aj Al)) (AW 3 S.nd) (Af (Av 2 S.nd (Ap F8 Ar Ac)))))) A1)
  htt)),?_⟩
 have loop:∀(d:Int),0<=d->(if d<0 then -d else d)=d:=λ d h=>by rw[jj (by lia)]
 refine⟨_,rfl,_,_,rfl,rfl,_,rfl,BA (λ h=>?_) (λ h=>?_)⟩
 .refine NN ⟨_,rfl,_,rfl,_,rfl,b,rfl,by lia,by lia,AT (lo:=0) (n:=b.toNat) (λ i σ H'=>H'=H/\∃d x3,σ=[some (.int n),some (.int b),some (.int d),x3,none]/\0<=d) ⟨rfl,_,_,rfl,by split<;>lia⟩ ?_ ?_⟩
  .rintro i σ H' hi ⟨rfl,d,x3,rfl,d0⟩;exact⟨_,rfl,_,_,rfl,rfl,Su _ (by decide) (by decide),rfl,_,_,rfl,by lia⟩
  .rintro σ H' ⟨rfl,d,x3,rfl,d0⟩;exact fin d x3 d0
 .refine⟨_,rfl,_,_,rfl,rfl,Wr,_,_,rfl,rfl,_,rfl,BA (λ h1=>?_) (λ h1=>fin 0 none (by lia))⟩;refine⟨_,rfl,_,rfl,_,rfl,b,rfl,by lia,by lia,AT (lo:=0) (n:=b.toNat) (λ i σ H'=>H'=H/\∃d x3,σ=[some (.int n),some (.int b),some (.int d),x3,none]/\0<=d) ⟨rfl,_,_,rfl,by split<;>lia⟩ ?_ ?_⟩
  .rintro i σ H' hi ⟨rfl,d,x3,rfl,d0⟩;exact⟨_,rfl,_,_,rfl,rfl,Su _ (by decide) (by decide),rfl,_,_,rfl,by lia⟩
  .rintro σ H' ⟨rfl,d,x3,rfl,d0⟩;exact fin d x3 d0
noncomputable abbrev P4:=Int×Int×Int×Int
noncomputable def HH(p:P4):LUz:=[.int p.1,.int p.2.1,.int p.2.2.1,.int p.2.2.2]
noncomputable def All2{α β:Type}(R:α->β->Prop):List α->List β->Prop
 |[],[]=>True
 |x::xs,y::ys=>R x y/\All2 R xs ys
 |[],_::_=>False
 |_::_,[]=>False
theorem All2.mono{α β:Type}{R R':α->β->Prop}(m:∀x y,R x y->R' x y):∀{xs:List α}{ys:List β},All2 R xs ys->All2 R' xs ys
 |[],[],_=>trivial
 |x::xs,y::ys,h=>⟨m _ _ h.1,All2.mono m h.2⟩
 |[],_::_,h=>h.elim
 |_::_,[],h=>h.elim
theorem All2.len{α β:Type}{R:α->β->Prop}:∀{xs:List α}{ys:List β},All2 R xs ys->xs.length=ys.length
 |[],[],_=>rfl
 |x::xs,y::ys,h=>by rw[aL,aL,All2.len h.2]
 |[],_::_,h=>h.elim
 |_::_,[],h=>h.elim
theorem All2.snoc{α β:Type}{R:α->β->Prop}{a:α}{b:β}(r:R a b):∀{xs:List α}{ys:List β},All2 R xs ys->All2 R (xs++[a]) (ys++[b])
 |[],[],_=>⟨r,trivial⟩
 |x::xs,y::ys,h=>⟨h.1,All2.snoc r h.2⟩
 |[],_::_,h=>h.elim
 |_::_,[],h=>h.elim
theorem All2.get{α β:Type}{R:α->β->Prop}:∀{xs:List α}{ys:List β}{i:Nat}{x:α},All2 R xs ys->xs[i]?=some x->∃y,ys[i]?=some y/\R x y
 |x::xs,y::ys,0,_,h,e=>by cases e;exact⟨y,rfl,h.1⟩
 |x::xs,y::ys,i+1,_,h,e=>All2.get (i:=i) h.2 e
 |[],[],_,_,_,e=>by cases e
 |[],_::_,_,_,h,_=>h.elim
 |_::_,[],_,_,h,_=>h.elim
noncomputable def TupAt(N:jd->Prop)(H:Hp)(v:V)(p:P4):Prop:=∃t,v=.ref t/\N t/\H t=some (.tup (HH p))
noncomputable def WO(N:jd->Prop)(H:Hp)(v:V)(ps:List P4):Prop:=∃a xs,v=.ref a/\N a/\H a=some (.lst xs)/\All2 (TupAt N H) xs ps
noncomputable def Kx(N:jd->Prop)(H H':Hp):Prop:=∀b o,N b->H b=some o->H' b=some o
theorem Kx.of{N:jd->Prop}{H H':Hp}(s:Same H H'):Kx N H H':=λ b o _ e=>s b o e
theorem TupAt.kx{N:jd->Prop}{H H':Hp}(k:Kx N H H'){v:V}{p:P4}(h:TupAt N H v p):TupAt N H' v p:=let ⟨t,a,b,c⟩:=h;⟨t,a,b,k _ _ b c⟩
noncomputable def CP(lo hi:P4->Int)(ps:List P4)(k:Nat):Bool:=ps.any λ p=>decide (lo p<(k:Int))&&decide ((k:Int)<hi p)
noncomputable def DY(lo hi:P4->Int)(ps:List P4):Option Nat:=(GV (ps.map λ p=>(hi p).toNat)).dropLast.find? λ k=>!CP lo hi ps k
noncomputable def Jg:Nat->List P4->Option Bool
 |0,_=>none
 |n+1,ps=>if ps.length=1 then some true else
  match DY (λ p=>p.2.1) (λ p=>p.2.2.2) ps with
  |some k=>(Jg n (ps.filter λ p=>decide (p.2.2.2<=(k:Int)))).bind λ b=>if b=true then Jg n (ps.filter λ p=>decide (p.2.1>=(k:Int))) else some false
  |none=>match DY (λ p=>p.1) (λ p=>p.2.2.1) ps with
   |some k=>(Jg n (ps.filter λ p=>decide (p.2.2.1<=(k:Int)))).bind λ b=>if b=true then Jg n (ps.filter λ p=>decide (p.1>=(k:Int))) else some false
   |none=>some false
noncomputable def okP(p:P4):Bool:=decide (1<=p.2.2.1)&&decide (p.2.2.1<=4)&&(decide (1<=p.2.2.2)&&decide (p.2.2.2<=4))
theorem All2.app{α β:Type}{R:α->β->Prop}{xs:List α}{ys:List β}(h:All2 R xs ys):All2 R xs (ys++[]):=by rw[aR];exact h
noncomputable def QC(n:Nat)(lo hi:P4->Int)(ps:List P4)(k:Nat):Option Bool:=(Jg n (ps.filter λ p=>decide (hi p<=(k:Int)))).bind λ b=>if b=true then Jg n (ps.filter λ p=>decide (lo p>=(k:Int))) else some false
theorem K1(n:Nat)(ps:List P4):Jg (n+1) ps=if ps.length=1 then some true else match DY (λ p=>p.2.1) (λ p=>p.2.2.2) ps with
  |some k=>QC n (λ p=>p.2.1) (λ p=>p.2.2.2) ps k
  |none=>match DY (λ p=>p.1) (λ p=>p.2.2.1) ps with
   |some k=>QC n (λ p=>p.1) (λ p=>p.2.2.1) ps k
   |none=>some false:=rfl
theorem OI(g:P4->Int):∀{ps:List P4},(∀p∈ps,1<=g p)->(ps.map λ p:P4=>V.int (g p))=(ps.map λ p:P4=>(g p).toNat).map λ k:Nat=>V.int (k:Int)
 |[],_=>rfl
 |p::r,h=>by
  have a:=h p aw;rw[aJ,aJ,aJ,OI g (ps:=r) λ x hx=>h x (ay _ hx),bF (by lia)]
theorem V3(xs:LUz):JK xs none (some (-1))=xs.dropLast:=by
 by_cases e:xs=[]
 .subst e;rfl
 .rw[<-cw e,MN,cZ]
theorem Jo{ps:List P4}{c:P4->Bool}(h:ps.all okP=true):(ps.filter c).all okP=true:=by
 rw[aI]at h |-;exact λ x hx=>h x (b7.mp hx).1
inductive Pu(n:Nat)(vs:LUz)(H:Hp)(Q:VK)(E:XK):Prop
 |mk (v:V) (ps:List P4) (b:Bool) (h0:vs=[v]) (h1:WO (λ_=>True) H v ps) (h2:ps.all okP=true) (h3:ps.length<=20) (h4:Jg n ps=some b) (h5:∀H',Same H H'->Q (.bl b) H'):Pu n vs H Q E
noncomputable def EI(n:Nat) :Sp:=λ vs H Q E=>Pu n vs H Q E
theorem X7{vs:LUz}{H:Hp}{Q:VK}{E:XK}:¬EI 0 vs H Q E:=by
 rintro⟨v,ps,b,_,_,_,_,h,_⟩;cases h
noncomputable abbrev SL:LSz:=["_law_panes","_law_line","_law_first"]
theorem Ei:Ak SL mB (Ah AN):=fsk
noncomputable abbrev ixT(K:jw)(c:Int):TE:=tOp (UW K) (Fu 0) (tC (.int c))
noncomputable abbrev cfT(K:jw)(t:TE):TE:=KW (MG K (Fu 0)) (E7 0) (Oe t) (Fu 0) [none,some 1]
noncomputable def V4(K:jw)(n:Nat)(c d:Int):TS:=VT (MG K (tSl (UV K) (tSS K (LV (MG K (Fu 0)) (E7 0) (ixT K c) [none])) Of (Us (tUn (rU λ i=>V.int (-i)) (tC (.int 1)))))) (E7 1)
 (VS (VQ (tB (tCB (λ xs H Q=>∃(p:jd)(bs:List Bool),xs=[V.ref p]/\SqL K H p (bs.map V.bl)/\true=true/\Q (V.bl (bs.any id)) H) (JT (LV (MG K (Fu 0)) (E7 0) (QU (tOp (rI0 λ i j=>V.bl (decide (i<j))) (ixT K d) (Fu 1)) (tOp (rI0 λ i j=>V.bl (decide (i<j))) (Fu 1) (ixT K c))) [none,some 1]) Nr))))
  (UJ (P8 (cfT K (tOp (rI0 λ i j=>V.bl (decide (i<=j))) (ixT K c) (Fu 1))) (E7 2)) (VO (QU (HL (EI n) [] E0 (JT (Fu 2) Nr)) (HL (EI n) [] E0 (JT (cfT K (tOp (rI0 λ i j=>V.bl (decide (j<=i))) (ixT K d) (Fu 1))) Nr))))) Ut)
theorem Pb{H:Hp}{ps:List P4}{xs:LUz}{a:jd}{k:Int}{c:P4->Bool}{t:TE}{x2:Option V}{Q:VK}(szl:xs.length<=jt)(ha:H a=some (.lst xs))(al:All2 (TupAt (λ_=>True) H) xs ps)
  (hc:∀p u H' (Z:Bool->Hp->Prop),H' u=some (.tup (HH p))->Z (c p) H'->Oe t [some (.ref u),some (.int k)] H' Z) (q:∀acc zs H',Same H H'->H' acc=some (.lst zs)->All2 (TupAt (λ_=>True) H') zs (ps.filter c)->Q (.ref acc) H'):cfT K t [some (.ref a),some (.int k),x2] H Q:=by
 refine⟨_,rfl,a,rfl,⟨_,SqL.of ha⟩,λ acc na=>Fm (K:=K) (a:=a) (ys:=xs) (λ i zs σ H'=>(∃y,σ=[y,some (.int k)])/\Same H H'/\All2 (TupAt (λ_=>True) H) zs ((ps.take i).filter c)) ⟨⟨none,rfl⟩,Same.new na,trivial⟩ (λ i zs σ H' _ _ hp=>SqL.of (hp.2.1 _ _ ha)) ?_ ?_⟩
 .rintro i x zs σ H' hx li hz jb ⟨⟨y,rfl⟩,s7,alz⟩;obtain⟨p,hp,tp⟩:=al.get hx;obtain⟨u,rfl,_,ht⟩:=id tp;refine hc p u H' _ (s7 _ _ ht) ?_;cases hd:c p with
  |true=>exact⟨_,rfl,fNx.mk szl li hz jb ⟨⟨_,rfl⟩,λ x o e=>by rw[Ad (Ag e na)];exact s7 x o e,by rw[aS,hp,bC];simp only[Option.toList,dy,eZ,hd,if_true];exact alz.snoc tp⟩⟩
  |false=>exact fSk.mk li hz jb ⟨⟨_,rfl⟩,s7,by rw[aS,hp,bC];simp only[Option.toList,dy,eZ,hd];exact alz.app⟩
 .rintro zs σ H7 hz7 hacc7 ⟨_,s7,al7⟩;rw[al.len,aM]at al7;exact q acc zs H7 s7 hacc7 (al7.mono λ_ _=>TupAt.kx (Kx.of s7))
theorem W7{n:Nat}{c d:Int}{lo hi:P4->Int}(hc:∀p:P4,atI (HH p) c=some (.int (hi p)))(hd:∀p:P4,atI (HH p) d=some (.int (lo p))){D:DA}{H H1:Hp}{ps:List P4}{b:Bool}{xs:LUz}{a:jd}{x1 x2:Option V}(szl:xs.length<=jt)(ok:ps.all okP=true)(len:ps.length<=20)(bd:∀p∈ps,1<=hi p/\hi p<=4)(ha:H a=some (.lst xs))(al:All2 (TupAt (λ_=>True) H) xs ps)
  (q:∀H',Same H H'->D.rt (.bl b) H') (s1:Same H H1) (hres:∀k,DY lo hi ps=some k->QC n lo hi ps k=some b) (hno:DY lo hi ps=none->∀x1 x2 H',Same H H'->D.nx [some (.ref a),x1,x2] H'):V4 K n c d D [some (.ref a),x1,x2] H1:=by
 have ha1:=s1 _ _ ha;have al1:=al.mono λ_ _=>TupAt.kx (Kx.of s1);refine⟨_,rfl,a,rfl,⟨_,SqL.of ha1⟩,λ acc na=>Be (K:=K) (a:=a) (ys:=xs) (λ i zs σ H'=>(∃y,σ=[y])/\Same H1 H'/\zs=(ps.take i).map λ p:P4=>V.int (hi p)) ⟨⟨none,rfl⟩,Same.new na,rfl⟩ (λ i zs σ H' _ _ hp=>SqL.of (hp.2.1 _ _ ha1)) ?_ ?_⟩
 .rintro i x zs σ H' hx li hz jb ⟨⟨y,rfl⟩,s2,rfl⟩;obtain⟨p,hp,t,rfl,_,ht⟩:=al1.get hx;exact⟨_,rfl,t,_,_,_,rfl,rfl,SqT.of (s2 _ _ ht),hc p,cNx.mk szl li hz jb ⟨⟨_,rfl⟩,λ c o e=>by rw[Ad (Ag e na)];exact s2 c o e,by rw[aS,hp,ai];rfl⟩⟩
 rintro zs σ H2 hz jb ⟨_,s2,rfl⟩;rw[al1.len,aM]at jb;refine⟨acc,ps.map λ p:P4=>(hi p).toNat,rfl,SqL.of (by rw[jb,OI hi λ p hp=>(bd p hp).1]),λ k hk=>?_,λ l3 nl3=>?_⟩
 .obtain⟨p,hp,rfl⟩:=ao.mp hk;have:=bd p hp;exact⟨by lia,by lia⟩
 refine nv nl3 λ H3 s3 e3=>?_;refine⟨_,rfl,_,rfl,l3,_,rfl,SqL.of e3,λ l4 nl4=>?_⟩;rw[show(-(1:Int))=-1 from rfl,V3,<-List.map_dropLast];refine nv nl4 λ H4 s4 e4=>?_;have S4:=s1.trans (s2.trans (s3.trans s4));have hline:DY lo hi ps=(GV (ps.map λ p:P4=>(hi p).toNat)).dropLast.find? λ k=>!CP lo hi ps k:=rfl;generalize (GV (ps.map λ p:P4=>(hi p).toNat)).dropLast=L at e4 hline |-;refine⟨l4,rfl,⟨_,SqL.of e4⟩,Bu (K:=K) (a:=l4) (xs:=L.map λ k:Nat=>V.int (k:Int)) (λ i σ H'=>(∃x1 x2,σ=[some (.ref a),x1,x2])/\Same H4 H'/\(L.drop i).find? (λ k=>!CP lo hi ps k)=DY lo hi ps) ⟨⟨_,_,rfl⟩,Same.refl H4,by rw[di,hline]⟩ (λ i σ H' _ hp=>SqL.of (hp.2.1 _ _ e4)) ?_ ?_⟩
 .rintro i x σ H5 hx ⟨⟨x1,x2,rfl⟩,s5,hfi⟩;obtain⟨k,hk,rfl⟩:∃k,L[i]?=some k/\x=.int (k:Int):=by
   rw[aE]at hx;cases e:L[i]? with
   |none=>rw[e]at hx;cases hx
   |some k=>rw[e]at hx;exact⟨k,rfl,(Option.some.inj hx).symm⟩
  rw[FM hk]at hfi;have S5:=S4.trans s5;have ha5:=S5 _ _ ha;have al5:=al.mono λ_ _=>TupAt.kx (Kx.of S5);refine⟨_,rfl,a,rfl,⟨_,SqL.of ha5⟩,λ acc5 na5=>Be (K:=K) (a:=a) (ys:=xs) (λ i zs σ H'=>(∃y,σ=[y,some (.int (k:Int))])/\Same H5 H'/\zs=(((ps.take i).map λ p:P4=>decide (lo p<(k:Int))&&decide ((k:Int)<hi p)).map V.bl)) ⟨⟨none,rfl⟩,Same.new na5,rfl⟩ (λ i zs σ H' _ _ hp=>SqL.of (hp.2.1 _ _ ha5)) ?_ ?_⟩
  .rintro i x zs σ H' hx li hz jb ⟨⟨y,rfl⟩,s6,rfl⟩;obtain⟨p,hp,t,rfl,_,ht⟩:=al5.get hx;have ht6:=s6 _ _ ht;have fin:∀bo:Bool,bo=(decide (lo p<(k:Int))&&decide ((k:Int)<hi p))->cNx acc5 xs.length (λ i zs σ H'=>(∃y,σ=[y,some (.int (k:Int))])/\Same H5 H'/\zs=(((ps.take i).map λ p:P4=>decide (lo p<(k:Int))&&decide ((k:Int)<hi p)).map V.bl)) i [some (.ref t),some (.int (k:Int))] (.bl bo) H':=λ bo hb =>
    cNx.mk szl li hz jb ⟨⟨_,rfl⟩,λ x o e=>by rw[Ad (Ag e na5)];exact s6 x o e,by rw[aS,hp,ai,ai,hb];rfl⟩
   refine⟨_,rfl,t,_,_,_,rfl,rfl,SqT.of ht6,hd p,_,rfl,_,_,rfl,rfl,_,rfl,BA (λ d1=>?_) (λ d1=>fin false (by rw[d1];rfl))⟩;exact⟨_,rfl,_,rfl,t,_,_,_,rfl,rfl,SqT.of ht6,hc p,_,_,rfl,rfl,fin _ (by rw[d1];rfl)⟩
  rintro zs σ H6 hz jb ⟨_,s6,rfl⟩;rw[al1.len,aM]at jb;have ec:(ps.map λ p:P4=>decide (lo p<(k:Int))&&decide ((k:Int)<hi p)).any id=CP lo hi ps k:=by
   unfold CP;rw[eE];rfl
  refine⟨acc5,_,rfl,SqL.of jb,rfl,_,rfl,?_⟩;rw[ec];rw[bQ]at hfi;have S6:=S5.trans s6;cases hcr:CP lo hi ps k with
  |true =>
   rw[hcr]at hfi;exact Bt rfl ⟨⟨_,_,rfl⟩,s5.trans s6,hfi⟩
  |false =>
   rw[hcr]at hfi;refine Cn rfl ?_;have hres:=hres k hfi.symm;unfold QC at hres;unfold UJ P8;refine Pb szl (S6 _ _ ha) (al.mono λ_ _=>TupAt.kx (Kx.of S6)) (c:=λ p=>decide (hi p<=(k:Int))) (t:=tOp (rI0 λ i j=>V.bl (decide (i<=j))) (ixT K c) (Fu 1)) (λ p t H' Z ht z=>⟨_,rfl,t,_,_,_,rfl,rfl,SqT.of ht,hc p,_,rfl,_,_,rfl,rfl,_,rfl,z⟩) λ acc7 zs H7 s7 hacc7 al7=>?_;cases hA:Jg n (ps.filter λ p=>decide (hi p<=(k:Int))) with
   |none=>rw[hA]at hres;cases hres
   |some bA =>
   rw[hA]at hres;have S7:=S6.trans s7;refine⟨_,rfl,.ref acc7,_,bA,rfl,⟨acc7,zs,rfl,trivial,hacc7,al7⟩,Jo ok,aV (bY _ _) len,hA,λ H8 s8=>⟨_,rfl,?_⟩⟩;have hres:(if bA=true then Jg n (ps.filter λ p=>decide (lo p>=(k:Int))) else some false)=some b:=hres;cases bA with
   |false =>
    rw[jj aq]at hres;cases hres;exact Bt rfl (q _ (S7.trans s8))
   |true =>
    rw[jo rfl]at hres;refine Cn rfl ?_;have S8:=S7.trans s8;unfold HL JT;refine Pb szl (S8 _ _ ha) (al.mono λ_ _=>TupAt.kx (Kx.of S8)) (c:=λ p=>decide (lo p>=(k:Int))) (t:=tOp (rI0 λ i j=>V.bl (decide (j<=i))) (ixT K d) (Fu 1)) (λ p t H' Z ht z=>⟨_,rfl,t,_,_,_,rfl,rfl,SqT.of ht,hd p,_,rfl,_,_,rfl,rfl,_,rfl,z⟩) λ acc9 zs9 H9 s9 hacc9 al9=>?_;exact⟨.ref acc9,_,b,rfl,⟨acc9,zs9,rfl,trivial,hacc9,al9⟩,Jo ok,aV (bY _ _) len,hres,λ H10 s10=>q _ (S8.trans (s9.trans s10))⟩
 .rintro σ H5 ⟨⟨x1,x2,rfl⟩,s5,hfi⟩;rw[aa,bM,List.find?_nil]at hfi;exact hno hfi.symm _ _ _ (S4.trans s5)
theorem GZ{f:jd}{fd:jr}{n:Nat}(F:Fun K "_law_cuttable" "_law_cuttable" AN f fd)(T:Txt mg tk)(gd:Aq P w K mg ja (n+3) "_law_cuttable" mB (EI n)):A3 P w K mg ja CX0 (n+4) f fd mB (EI (n+1)):=by
 have S:=Ei;refine F.g S ?_;rintro vs H Q E ⟨v,ps,b,rfl,pan,ok,len,hcut,q⟩;refine⟨rfl,λ cdv A i6 s hr=>?_⟩;obtain⟨a,xs,rfl,_,ha,al⟩:=pan;rw[K1]at hcut;have xl:=al.len;have szl:xs.length<=jt:=aN (An (by lia));have okB:∀p∈ps,(1<=p.2.2.1/\p.2.2.1<=4)/\1<=p.2.2.2/\p.2.2.2<=4:=λ p hp=>by
  have:=aI.mp ok p hp;unfold okP at this;simp only[ax,decide_eq_true_eq]at this;exact this
 obtain⟨h1,h2⟩:PS (B3 CX0 P w K mg ja SL "_law_cuttable" (Ah AN) f cdv A i6 s H E).nox ((A7 AN).getD 1 (.Pass ⟨0,0,0,0⟩)) (V4 K n 3 1)/\PS (B3 CX0 P w K mg ja SL "_law_cuttable" (Ah AN) f cdv A i6 s H E).nox ((A7 AN).getD 2 (.Pass ⟨0,0,0,0⟩)) (V4 K n 2 0):=⟨(AE PassesOwn.never rfl (A6 (DU Fz (O9 rfl rfl T.z_sorted rfl T.z_set (Bi rfl (A6 Ai) (λ_ _ _ _ _=>pgk (nk mK)) (λ_ _ _ _ _=>(Ax (B5 (K:=K)) Ai Ac)) (N:=mK) (fr:=[none]))) F4 (F3 (Im ED Ac)))) (AR (i:=1) S.nd rfl (dv rfl)) (Af (AK (Br (Bg (AL Jl T.z_any (Aj (Bi rfl (A6 Ai) (λ_ _ _ _ _=>pgk (nk lV)) (λ_ _ _ _ _=>(BG (By D4 (Ax (B5 (K:=K)) Ai Ac) Al) (Ck (By D4 Al (Ax (B5 (K:=K)) Ai Ac))))) (N:=lV) (fr:=[none,some 1])))))) (Ab (DS rfl (AW 2 S.nd) (A6 Ai) (λ_ _ _ _ _=>pgk (nk lV)) (λ_ _ _ _ _=>(A4 Co (Ax (B5 (K:=K)) Ai Ac) Al)) (λ_ _ _ _ _=>Ai) (N:=lV) (fr:=[none,some 1]))
  (Af (Am (BG (Ao gd hr (Aj Ar) (by lia)) (Ck (Ao gd hr (Aj (DV rfl (A6 Ai) (λ_ _ _ _ _=>pgk (nk lV)) (λ_ _ _ _ _=>(A4 R8 (Ax (B5 (K:=K)) Ai Ac) Al)) (λ_ _ _ _ _=>Ai) (N:=lV) (fr:=[none,some 1]))) (by lia))))))) A1))),(AE PassesOwn.never rfl (A6 (DU Fz (O9 rfl rfl T.z_sorted rfl T.z_set (Bi rfl (A6 Ai) (λ_ _ _ _ _=>pgk (nk mK)) (λ_ _ _ _ _=>(Ax (B5 (K:=K)) Ai Ac)) (N:=mK) (fr:=[none]))) F4 (F3 (Im ED Ac)))) (AR (i:=1) S.nd rfl (dv rfl)) (Af (AK (Br (Bg (AL Jl T.z_any (Aj (Bi rfl (A6 Ai) (λ_ _ _ _ _=>pgk (nk lV)) (λ_ _ _ _ _=>(BG (By D4 (Ax (B5 (K:=K)) Ai Ac) Al) (Ck (By D4 Al (Ax (B5 (K:=K)) Ai Ac))))) (N:=lV) (fr:=[none,some 1])))))) (Ab (DS rfl (AW 2 S.nd) (A6 Ai) (λ_ _ _ _ _=>pgk (nk lV)) (λ_ _ _ _ _=>(A4 Co (Ax (B5 (K:=K)) Ai Ac) Al)) (λ_ _ _ _ _=>Ai) (N:=lV) (fr:=[none,some 1]))
  (Af (Am (BG (Ao gd hr (Aj Ar) (by lia)) (Ck (Ao gd hr (Aj (DV rfl (A6 Ai) (λ_ _ _ _ _=>pgk (nk lV)) (λ_ _ _ _ _=>(A4 R8 (Ax (B5 (K:=K)) Ai Ac) Al)) (λ_ _ _ _ _=>Ai) (N:=lV) (fr:=[none,some 1]))) (by lia))))))) A1)))⟩
 refine⟨_,(Ab (AK (A4 op_eq (AL AV T.z_len (Aj Ai)) Ac) (Af (Am E5)) A1) (Ab h1 (Ab h2 (Af (Am E5))))),?_⟩;refine⟨_,rfl,a,_,rfl,.inl (SqL.of ha),rfl,_,rfl,BA (λ e1=>?_) (λ e1=>?_)⟩
 .rw[jo (by have:=V.int.inj (jF e1);lia)]at hcut;cases hcut;exact q _ (Same.refl H)
 .rw[jj (λ z=>of_decide_eq_false e1 (by rw[xl,z];rfl))]at hcut;refine W7 (hi:=λ p=>p.2.2.2) (lo:=λ p=>p.2.1) (λ_=>at3) (λ_=>at1) szl ok len (λ p hp=>(okB p hp).2) ha al q (Same.refl H) (λ k hk=>by rw[hk]at hcut;exact hcut) λ hn x1 x2 H1 s1=>?_;rw[hn]at hcut;refine W7 (hi:=λ p=>p.2.2.1) (lo:=λ p=>p.1) (λ_=>at2) (λ_=>at0) szl ok len (λ p hp=>(okB p hp).1) ha al q s1 (λ k hk=>by rw[hk]at hcut;exact hcut) λ hn x1 x2 H2 s2=>?_;rw[hn]at hcut;cases hcut;exact q _ s2
noncomputable abbrev BL:=List (Int×Int)
noncomputable def kvB(d:BL):List (Key×V):=d.map λ p=>(Sum.inl p.1,V.int p.2)
noncomputable def Ih(d:BL)(k v:Int):BL:=if d.any (λ p=>decide (p.1=k)) then d.map (λ p=>if p.1=k then (p.1,v) else p) else d++[(k,v)]
noncomputable def D7(d:BL)(k:Int):Option Int:=(d.find? λ p=>decide (p.1=k)).map (·.2)
noncomputable def BC(n:Int):Int:=1*2^(n-1).toNat-1
noncomputable def As(lines:Int):Nat->List Int
 |0=>[1]
 |k+1=>if Builtin.bitAnd lines (1*2^k)=0 then (As lines k).set ((As lines k).length-1) (((As lines k).getLast?).getD 0+1) else As lines k++[1]
noncomputable def Dw(a:Int×Int)(f:BL)(b:Int×Int):BL:=Ih f (Builtin.bitAnd a.1 b.1) ((D7 f (Builtin.bitAnd a.1 b.1)).getD 0+a.2*b.2)
noncomputable def BH(bs:BL)(f:BL)(a:Int×Int):BL:=bs.foldl (Dw a) f
noncomputable def OR(as bs:BL):BL:=as.foldl (BH bs) []
noncomputable def Ay(d:BL)(lines:Int):Int:=((d.filter λ p=>decide (Builtin.bitAnd p.1 lines=0)).map (·.2)).sum
theorem Vi(d:BL)(k:Int):((kvB d).any λ kv=>decide (kv.1=(Sum.inl k:Key)))=d.any (λ p=>decide (p.1=k)):=by
 unfold kvB;rw[eE];refine congrArg (λ g=>d.any g) (funext λ p=>?_);show decide ((Sum.inl p.1:Key)=Sum.inl k)=_;exact decide_eq_decide.mpr ⟨λ h=>Sum.inl.inj h,λ h=>by rw[h]⟩
theorem RQ(d:BL)(k v:Int):BZ (kvB d) (Sum.inl k) (.int v)=kvB (Ih d k v):=by
 unfold BZ Ih;rw[Vi];split
 .unfold kvB;rw[aB,aB];refine bE λ p _=>?_;show(if (Sum.inl p.1:Key)=Sum.inl k then _ else _)=_;by_cases h:p.1=k
  .rw[jo (by rw[h])];show _=((Sum.inl (if p.1=k then (p.1,v) else p).1:Key),V.int (if p.1=k then (p.1,v) else p).2);rw[jo h]
  .rw[jj (λ z=>h (Sum.inl.inj z))];show _=((Sum.inl (if p.1=k then (p.1,v) else p).1:Key),V.int (if p.1=k then (p.1,v) else p).2);rw[jj h]
 .unfold kvB;rw[ai];rfl
theorem RO(d:BL)(k:Int):AS (kvB d) (Sum.inl k)=(D7 d k).map V.int:=by
 unfold AS D7 kvB
 induction d with
 |nil=>rfl
 |cons p r ih =>
  rw[aJ,bQ,bQ];by_cases h:p.1=k
  .rw[jn (show(Sum.inl p.1:Key)=Sum.inl k by rw[h]),jn h];rfl
  .rw[js (show ¬(Sum.inl p.1:Key)=Sum.inl k from λ z=>h (Sum.inl.inj z)),js h];exact ih
theorem O2(d:BL)(k v:Int):(Ih d k v).length<=d.length+1:=by
 unfold Ih;split
 .rw[aa];exact bJ _
 .rw[aH];exact ah _
theorem Ou(bs f:BL)(a:Int×Int):(BH bs f a).length<=f.length+bs.length:=by
 unfold BH
 induction bs generalizing f with
 |nil=>exact ah _
 |cons b r ih =>
  have h1:=ih (Dw a f b);have h2:(Dw a f b).length<=f.length+1:=O2 _ _ _;rw[List.foldl_cons,aL];lia
theorem ON{d:BL}{i:Nat}{p:Key×V}(h:(kvB d)[i]?=some p):∃q,d[i]?=some q/\p=(Sum.inl q.1,V.int q.2):=by
 unfold kvB at h;rw[aE]at h;obtain⟨q,hq,e⟩:=ba.mp h;exact⟨q,hq,e.symm⟩
theorem Dt(d:BL):(kvB d).length=d.length:=aa _
inductive Nf(vs:LUz)(H:Hp)(Q:VK)(E:XK):Prop
 |mk (n:Int) (h0:vs=[.int n]) (h1:1<=n) (h2:n<=4) (h3:Q (.int (BC n)) H):Nf vs H Q E
noncomputable def Fx:Sp:=λ vs H Q E=>Nf vs H Q E
inductive KD(vs:LUz)(H:Hp)(Q:VK)(E:XK):Prop
 |mk (lines len:Int) (h0:vs=[.int lines,.int len]) (h1:1<=len) (h2:len<=4) (h3:∀l H',Same H H'->H l=none->H' l=some (.lst ((As lines (len-1).toNat).map V.int))->Q (.ref l) H'):KD vs H Q E
noncomputable def CV:Sp:=λ vs H Q E=>KD vs H Q E
inductive Jz(vs:LUz)(H:Hp)(Q:VK)(E:XK):Prop
 |mk (a b:jd) (as bs:BL) (h0:vs=[.ref a,.ref b]) (h1:H a=some (.dK (kvB as))) (h2:H b=some (.dK (kvB bs))) (h3:a≠b) (h4:as.length<=8) (h5:bs.length<=8) (h6:(∀p∈bs,0<=p.2/\p.2<=1000000000)) (h7:∀l H',Same H H'->H l=none->H' l=some (.dK (kvB (OR as bs)))->Q (.ref l) H'):Jz vs H Q E
noncomputable def JZ:Sp:=λ vs H Q E=>Jz vs H Q E
inductive GJ(vs:LUz)(H:Hp)(Q:VK)(E:XK):Prop
 |mk (a:jd) (as:BL) (lines:Int) (h0:vs=[.ref a,.int lines]) (h1:H a=some (.dK (kvB as))) (h2:as.length<=100) (h3:∀H',Same H H'->Q (.int (Ay as lines)) H'):GJ vs H Q E
noncomputable def Cv:Sp:=λ vs H Q E=>GJ vs H Q E
theorem Lq{f:jd}{fd:jr}(F:Fun K "all_lines" "all_lines" DN f fd):A3 P w K mg ja CX0 1 f fd lX Fx:=by
 have S:Ak lX lX (Ah DN):=fsk;refine F.g S ?_;rintro vs H Q E ⟨n,rfl,n1,n4,q⟩;refine⟨rfl,λ cdv A i6 s hr=>?_⟩;refine⟨_,(Af (Am (Ap Cl (Ap NA Ac (Ap Cl Ai Ac)) Ac))),?_⟩;exact⟨_,rfl,_,_,rfl,rfl,_,_,rfl,rfl,⟨by lia,by lia,by decide⟩,_,_,rfl,rfl,q⟩
theorem Kf(lines:Int):∀k,1<=(As lines k).length/\(As lines k).length<=k+1
 |0=>⟨ah 1,ah 1⟩
 |k+1=>by
  have h:=Kf lines k;rw[As];split
  .rw[List.length_set];lia
  .rw[aH];show 1<=(As lines k).length+1/\(As lines k).length+1<=_;lia
noncomputable abbrev Up:LSz:=["lines","length","parts","line"]
theorem Gj{f:jd}{fd:jr}(F:Fun K "parts_between" "parts_between" Cd f fd)(T:Txt mg tk):A3 P w K mg ja CX0 1 f fd me CV:=by
 have S:Ak Up me (Ah Cd):=fsk;refine F.g S ?_;rintro vs H Q E ⟨lines,len,rfl,l1,l4,q⟩;refine⟨rfl,λ cdv A i6 s hr=>?_⟩;refine⟨_,(Ab (Av 2 S.nd (B8 (Aj Ac)))
  (Ab (AE PassesOwn.never rfl (Bm rfl T.z_range (Aa Ac (Aj Al))) (AW 3 S.nd) (Af (AK (F2 (Ap Gh Ai (Ap NA Ac (Ap Cl Az Ac))) (λ_=>rfl)) (Af (Bh (EW Ar (Aj Ac)))) (Af (Tv Ar (Im ED Ac) Si Ac Dv Re)))))
  (Af (Am Ar)))),?_⟩
 refine⟨A8 1,λ l nl=>?_⟩;refine nv nl λ H0 s0 e0=>?_;refine⟨_,rfl,1,len,rfl,⟨by lia,by lia,by lia,by lia⟩,AT (lo:=1) (n:=(len-1).toNat) (λ i σ H'=>(∃y,σ=[some (.int lines),some (.int len),some (.ref l),y])/\Same H H'/\H' l=some (.lst ((As lines i).map V.int))) ⟨⟨_,rfl⟩,s0,e0⟩ ?_ ?_⟩
 .rintro i σ H1 hi ⟨⟨y,rfl⟩,s1,h1⟩;obtain⟨pl,pu⟩:=Kf lines i;refine⟨_,rfl,_,rfl,_,_,rfl,rfl,_,_,rfl,rfl,⟨by lia,by lia,by decide⟩,_,_,rfl,rfl,_,rfl,?_⟩;have ei:(1+(i:Int)-1).toNat=i:=by lia
  refine BA (λ c=>?_) (λ c=>?_)
  .have c:¬Builtin.bitAnd lines (1*2^i)=0:=λ z=>by rw[ei,z]at c;cases c
   refine⟨_,rfl,.inl ⟨rfl,_,SqL.of h1⟩,l,_,_,rfl,rfl,h1,An (by rw[aa];lia),⟨_,rfl⟩,λ y o e=>by rw[Ad (Ag e nl)];exact s1 _ _ e,?_⟩;rw[As,jj c,ai,Ae];rfl
  .have c:Builtin.bitAnd lines (1*2^i)=0:=by
    rw[ei]at c;exact(bne_eq_false_iff_eq).mp c
   obtain⟨z,hz⟩:∃z,(As lines i).getLast?=some z:=⟨_,List.getLast?_eq_some_getLast (λ z=>by rw[z]at pl;cases pl)⟩;refine⟨_,rfl,_,rfl,l,_,_,rfl,rfl,SqL.of h1,by rw[List.getLast?_map,hz];rfl,_,_,rfl,rfl,l,_,-1,(As lines i).length-1,rfl,rfl,h1,?_,⟨_,rfl⟩,λ y o e=>by rw[Ad (Ag e nl)];exact s1 _ _ e,?_⟩
   .rw[aa];unfold ixN;rw[jj (by decide),jo (by lia)];exact congrArg some (by lia)
   .rw[As,jo c,hz,Ae,List.map_set];rfl
 .rintro σ H1 ⟨⟨y,rfl⟩,s1,h1⟩;exact⟨_,rfl,q l H1 s1 nl h1⟩
noncomputable abbrev WT:LSz:=["by_lines","strips_by_lines","found","lines","many","more","times","both"]
theorem Xv{a b:Int}(h0:0<=b)(h1:b<=1000000000):IntMulOk a b:=IntMulOk.of_right (by
 unfold Builtin.Int.intBits;split
 .exact aP _
 .have:b.natAbs.log2<30:=(Nat.log2_lt (by intro z;simp_all)).mpr (by lia);lia)
theorem IS{a:jd}{ob:PySem.Obj}{d:BL}{g:TG}{tb:TS}{D:DA}{σ:St}{H:Hp}(Pv:Nat->St->Hp->Prop)(h0:Pv 0 σ H)(hl:∀i σ H,i<=d.length->Pv i σ H->H a=some (.frz ob (.dK (kvB d))))
  (hs:∀i (p:Int×Int) σ H t,d[i]?=some p->Pv i σ H->H t=none->g (.ref t) σ (upd H t (.tup [.int p.1,.int p.2])) λ σ2 H2=>tb { D with nx:=Pv (i+1),ct:=Pv (i+1),bk:=D.nx } σ2 H2) (hd:∀σ H,Pv d.length σ H->D.nx σ H) :
  ∃W:Nat->Nat->St->Hp->Prop,(∃m,W 0 m σ H)/\∀i m σ H,W i m σ H ->
   ((Itm a ob).stop i H/\D.nx σ H)\/((Itm a ob).go i H/\∃N:St->Hp->Prop,(∀σ' H',N σ' H'->∃m',m'<m/\W (i+1) m' σ' H')/\∀x H',(Itm a ob).yld i H x H'->g x σ H' λ σ2 H2=>tb { D with nx:=N,ct:=N,bk:=D.nx } σ2 H2):=by
 refine Q0 (kvs:=kvB d) Pv h0 (λ i σ H h=>hl i σ H (by rw[Dt]at h;exact h)) (λ i p σ H t hp pv nt=>?_) (λ σ H pv=>hd σ H (by rw[Dt]at pv;exact pv));obtain⟨q,hq,rfl⟩:=ON hp;exact hs i q σ H t hq pv nt
theorem Pc(bs:BL):∀(as:BL)(f:BL),(as.foldl (BH bs) f).length<=f.length+as.length*bs.length
 |[],f=>by simp
 |a::r,f=>by
  have h1:=Pc bs r (BH bs f a);have h2:=Ou bs f a;rw[List.foldl_cons,aL,fJ];lia
theorem Lo{f:jd}{fd:jr}(F:Fun K "in_common" "in_common" DL f fd):A3 P w K mg ja CX0 1 f fd m5 JZ:=by
 have S:Ak WT m5 (Ah DL):=fsk;refine F.g S ?_;rintro vs H Q E ⟨a,b,as,bs,rfl,ha,hb,nab,la,lb,sm,q⟩;refine⟨rfl,λ cdv A i6 s hr=>?_⟩;have hu:=Ea hr;refine⟨_,(Ab (Av 2 S.nd Ml)
  (Ab (AE PassesOwn.never rfl (Il Ai) (CO rfl (A2 (AW 3 S.nd) (A2 (AW 4 S.nd) Bx))) (Af (AE PassesOwn.never rfl (Il (Mj Al)) (CO rfl (A2 (AW 5 S.nd) (A2 (AW 6 S.nd) Bx))) (Ab (Av 7 S.nd (Ap Gh Az B0))
  (Af (Er hu Ar (pv 7) (Ap AC (Rx hu Ar (pv 7) Ac ⟨rfl,rfl,rfl,rfl⟩) (Ap Cr AG (pv 6))) rfl))))))
  (Af (Am (Mj (O8 Ar)))))),?_⟩
 refine λ l nl=>?_;refine nv nl λ H0 s0 e0=>?_;have al:a≠l:=Ag ha nl;have bl:b≠l:=Ag hb nl;refine⟨_,rfl,a,_,rfl,s0 _ _ ha,λ oa=>?_⟩;have keep:∀{G:Hp},(∀x o,x≠a->x≠b->H x=some o->G x=some o)->True:=λ_=>trivial;have nfz:∀o w,H b≠some (.frz o w):=λ o w z=>by rw[hb]at z;cases z
 refine IS (a:=a) (ob:=oa) (d:=as) (λ i σ H'=>(∃y3 y4 y5 y6 y7,σ=[some (.ref a),some (.ref b),some (.ref l),y3,y4,y5,y6,y7])/\(∀x o,x≠a->x≠b->H x=some o->H' x=some o)/\H' a=some (.frz oa (.dK (kvB as)))/\(H' b=some (.dK (kvB bs))\/∃ob,H' b=some (.frz ob (.dK (kvB bs)))/\∀o w,H b≠some (.frz o w))/\H' l=some (.dK (kvB ((as.take i).foldl (BH bs) [])))) ⟨⟨_,_,_,_,_,rfl⟩,λ x o na nb e=>by rw[Ad na];exact s0 _ _ e,Ae,.inl (by rw[Ad (Ne.symm nab)];exact s0 _ _ hb),by rw[Ad (Ne.symm al)];exact e0⟩ (λ i σ H' _ hp=>hp.2.2.1) ?_ ?_
 .rintro i pa σ H1 t hpa ⟨⟨y3,y4,y5,y6,y7,rfl⟩,k1,fa,fb,fl⟩ nt;refine nv nt λ H2 s2 e2=>?_;refine⟨t,_,rfl,SqT.of e2,rfl,_,_,rfl,_,_,rfl,rfl,_,rfl,b,.dK (kvB bs),fb.imp (λ h=>s2 _ _ h) (λ⟨ob,h,n⟩=>⟨ob,s2 _ _ h,n⟩),b,_,rfl,Ae,λ ob=>?_⟩;rw[KU];have ia:i<as.length:=(aF.mp hpa).1;have tk:(as.take (i+1)).foldl (BH bs) []=BH bs ((as.take i).foldl (BH bs) []) pa:=by rw[aS,hpa,cP];rfl
  have fl2:((as.take i).foldl (BH bs) []).length<=64:=by
   have:=Pc bs (as.take i) [];rw[cm]at this;have:min i as.length*bs.length<=8*8:=dQ (by lia) lb;simp only[c7]at *;lia
  refine IS (a:=b) (ob:=ob) (d:=bs) (λ j σ H'=>(∃y5 y6 y7,σ=[some (.ref a),some (.ref b),some (.ref l),some (.int pa.1),some (.int pa.2),y5,y6,y7])/\(∀x o,x≠a->x≠b->H x=some o->H' x=some o)/\H' a=some (.frz oa (.dK (kvB as)))/\H' b=some (.frz ob (.dK (kvB bs)))/\H' l=some (.dK (kvB ((bs.take j).foldl (Dw pa) ((as.take i).foldl (BH bs) []))))) ⟨⟨_,_,_,rfl⟩,λ x o na nb e=>by rw[Ad nb];exact s2 _ _ (k1 x o na nb e),by rw[Ad nab];exact s2 _ _ fa,Ae,by rw[Ad (Ne.symm bl)];exact s2 _ _ fl⟩ (λ i σ H' _ hp=>hp.2.2.2.1) ?_ ?_
  .rintro j pb σ H3 t3 hpb ⟨⟨y5,y6,y7,rfl⟩,k3,fa3,fb3,fl3⟩ nt3;refine nv nt3 λ H4 s4 e4=>?_;have fl4:=s4 _ _ fl3;have pm:=sm pb (aA hpb);have tkb:(bs.take (j+1)).foldl (Dw pa) ((as.take i).foldl (BH bs) [])=Dw pa ((bs.take j).foldl (Dw pa) ((as.take i).foldl (BH bs) [])) pb:=by rw[aS,hpb,cP];rfl
   have lb4:((bs.take j).foldl (Dw pa) ((as.take i).foldl (BH bs) [])).length<=100:=aV (Ou (bs.take j) ((as.take i).foldl (BH bs) []) pa) (by rw[cm];lia);generalize (bs.take j).foldl (Dw pa) ((as.take i).foldl (BH bs) [])=fd at fl4 tkb lb4;refine⟨t3,_,rfl,SqT.of e4,rfl,_,_,rfl,_,_,rfl,rfl,_,rfl,_,rfl,_,_,rfl,rfl,?_⟩;refine⟨_,rfl,l,rfl,.inl ⟨_,.inl fl4⟩,_,rfl,_,DGet.k (k:=Sum.inl (Builtin.bitAnd pa.1 pb.1)) fl4,?_⟩;rw[RO,show((D7 fd (Builtin.bitAnd pa.1 pb.1)).map V.int).getD (.int 0)=V.int ((D7 fd (Builtin.bitAnd pa.1 pb.1)).getD 0) by cases D7 fd (Builtin.bitAnd pa.1 pb.1)<;>rfl];refine⟨_,rfl,_,rfl,_,_,rfl,rfl,Xv pm.1 pm.2,_,_,rfl,rfl,_,rfl,_,rfl,l,_,rfl,DPut.k (k:=Sum.inl (Builtin.bitAnd pa.1 pb.1)) fl4 (An (by rw[Dt];lia)),⟨_,_,_,rfl⟩,λ x o na nb e=>?_,?_,?_,?_⟩
   .rw[Ad (Ag e nl)];exact s4 _ _ (k3 x o na nb e)
   .rw[Ad al];exact s4 _ _ fa3
   .rw[Ad bl];exact s4 _ _ fb3
   .rw[Ae,RQ,tkb];rfl
  .rintro σ H3 ⟨⟨y5,y6,y7,rfl⟩,k3,fa3,fb3,fl3⟩;rw[aM]at fl3;exact⟨⟨_,_,_,_,_,rfl⟩,k3,fa3,.inr ⟨ob,fb3,nfz⟩,by rw[tk];exact fl3⟩
 .rintro σ H1 ⟨⟨y3,y4,y5,y6,y7,rfl⟩,k1,fa,fb,fl⟩;rw[aM]at fl;refine⟨_,rfl,a,oa,_,fa,(λ o w z=>by have z:H a=some (.frz o w):=z;rw[ha]at z;cases z),b,.dK (kvB bs),fb.imp (λ h=>by rw[Ad (Ne.symm nab)];exact h) (λ⟨ob,h,n⟩=>⟨ob,by rw[Ad (Ne.symm nab)];exact h,n⟩),q l _ (λ x o e=>?_) nl ?_⟩
  .by_cases xb:x=b
   .rw[xb,Ae,<-hb,<-xb,e]
   .rw[Ad xb];by_cases xa:x=a
    .rw[xa,Ae,<-ha,<-xa,e]
    .rw[Ad xa];exact k1 x o xa xb e
  .rw[Ad (Ne.symm bl),Ad (Ne.symm al)];exact fl
noncomputable def DZ(d:BL)(lines:Int):List Int:=(d.filter λ p=>decide (Builtin.bitAnd p.1 lines=0)).map (·.2)
theorem MS{a:jd}{ob:PySem.Obj}{d:BL}{g:TG}{tc:TT}{te:TE}{σ:St}{H1:Hp}{acc:jd}{Qr:Hp->Prop}(Pv:Nat->LUz->St->Hp->Prop)(h0:Pv 0 [] σ (upd H1 acc (.lst [])))
  (hq:∀i xs σ H,i<=d.length->H acc=some (.lst xs)->Pv i xs σ H->H a=some (.frz ob (.dK (kvB d))))
  (hs:∀i (p:Int×Int) t xs σ H,d[i]?=some p->i<d.length->xs.length<=i->H acc=some (.lst xs)->Pv i xs σ H->H t=none->g (.ref t) σ (upd H t (.tup [.int p.1,.int p.2])) λ σ2 H2=>tc σ2 H2 λ b Hb=>match b with
   |true=>te σ2 Hb λ v H3=>fNx acc (kvB d).length Pv i σ2 v H3
   |false=>fSk acc (kvB d).length Pv i σ2 Hb)
  (hd:∀xs σ H,xs.length<=d.length->H acc=some (.lst xs)->Pv d.length xs σ H->Qr H) :
  ∃W:Nat->Nat->St->Hp->Prop,(∃m,W 0 m σ (upd H1 acc (.lst [])))/\∀i m σ1 H2,W i m σ1 H2 ->
   ((Itm a ob).stop i H2/\Qr H2)\/((Itm a ob).go i H2/\∀x H3,(Itm a ob).yld i H2 x H3->g x σ1 H3 λ σ4 H4=>tc σ4 H4 λ b Hb=>match b with
    |true=>te σ4 Hb λ v H5=>∃xs,H5 acc=some (.lst xs)/\xs.length<jt/\∃m',m'<m/\W (i+1) m' σ4 (upd H5 acc (.lst (xs++[v])))
    |false=>∃m',m'<m/\W (i+1) m' σ4 Hb):=by
 have kl:=Dt d;refine MR (kvs:=kvB d) Pv h0 (λ i xs σ H h=>hq i xs σ H (by rw[<-kl];exact h)) (λ i p t xs σ H hp hi hx ha pv nt=>?_) (λ xs σ H hx ha pv=>hd xs σ H (by rw[<-kl];exact hx) ha (by rw[<-kl];exact pv));obtain⟨q,hq',rfl⟩:=ON hp;exact hs i q t xs σ H hq' (by rw[<-kl];exact hi) hx ha pv nt
theorem GY{f:jd}{fd:jr}(F:Fun K "rows_without" "rows_without" Cz f fd)(T:Txt mg tk):A3 P w K mg ja CX0 1 f fd mf Cv:=by
 have S:Ak mf mf (Ah Cz):=fsk;refine F.g S ?_;rintro vs H Q E ⟨a,as,lines,rfl,ha,la,q⟩;refine⟨rfl,λ cdv A i6 s hr=>?_⟩;refine⟨_,(Af (Am (AL Jk T.z_sum (Aj (O8 (DV rfl (Il Ai) (λ_ _ _ _ _=>(Hl (K:=K) (n:=2) rfl (A2 (AR (i:=0) (nk m6) rfl (bN rfl)) (A2 (AR (i:=1) (nk m6) rfl (bN rfl)) Bx)))) (λ_ _ _ _ _=>(A4 op_eq (Ap Gh Ai Ar) Ac)) (λ_ _ _ _ _=>Al) (N:=m6) (fr:=[none,none,some 1]))))))),?_⟩;refine⟨_,rfl,a,_,rfl,ha,λ oa acc jb=>?_⟩;have na:a≠acc:=λ z=>by rw[<-z,Ae]at jb;cases jb
 refine MS (a:=a) (ob:=oa) (d:=as) (λ i zs σ H'=>(∃x y,σ=[x,y,some (.int lines)])/\(∀x o,x≠a->H x=some o->H' x=some o)/\H' a=some (.frz oa (.dK (kvB as)))/\zs=(DZ (as.take i) lines).map V.int) ⟨⟨_,_,rfl⟩,λ x o xa e=>?_,by rw[Ad na,Ae],rfl⟩ (λ i xs σ H' _ _ hp=>hp.2.2.1) ?_ ?_
 .rw[Ad (λ z=>by rw[<-z,Ad xa,e]at jb;cases jb),Ad xa];exact e
 .rintro i p t zs σ H1 hp hi hz ha1 ⟨⟨x,y,rfl⟩,k1,fa,rfl⟩ nt;refine nv nt λ H2 s2 e2=>?_;have tk:(as.take (i+1))=as.take i++[p]:=by rw[aS,hp];rfl
  have a2:=s2 _ _ ha1;have hi':i<(kvB as).length:=by rw[Dt];exact hi
  have kw:DZ (as.take (i+1)) lines=DZ (as.take i) lines++DZ [p] lines:=by
   rw[tk];unfold DZ;rw[bC,ai]
  refine⟨t,_,rfl,SqT.of e2,rfl,_,_,rfl,_,_,rfl,rfl,_,rfl,_,rfl,_,_,rfl,rfl,rfl,_,rfl,?_⟩;by_cases c:Builtin.bitAnd p.1 lines=0
  .rw[jn (show V.int (Builtin.bitAnd p.1 lines)=V.int 0 by rw[c])];refine⟨_,rfl,fNx.mk (aN (An (by rw[Dt];lia))) hi' hz a2 ⟨⟨_,_,rfl⟩,λ x o xa e=>?_,?_,?_⟩⟩
   .rw[Ad (λ z=>by rw[z]at e;rw[Ad (Ne.symm na),e]at jb;cases jb)];exact s2 _ _ (k1 x o xa e)
   .rw[Ad na];exact s2 _ _ fa
   .rw[kw,ai];unfold DZ;rw[fD (by exact jn c)];rfl
  .rw[js (show ¬V.int (Builtin.bitAnd p.1 lines)=V.int 0 from λ z=>c (V.int.inj z))];refine fSk.mk hi' hz a2 ⟨⟨_,_,rfl⟩,λ x o xa e=>s2 _ _ (k1 x o xa e),s2 _ _ fa,?_⟩;have:DZ [p] lines=[]:=by unfold DZ;rw[fE (by rw[jp];exact c)];rfl
   rw[kw,this,aR]
 .rintro zs σ H1 hz ha1 ⟨⟨x,y,rfl⟩,k1,fa,rfl⟩;rw[aM]at ha1;refine⟨a,oa,_,fa,(λ o w z=>by have z:H a=some (.frz o w):=z;rw[ha]at z;cases z),acc,_,rfl,SqL.of (by rw[Ad (Ne.symm na)];exact ha1),rfl,q _ λ x o e=>?_⟩;by_cases xa:x=a
  .rw[xa,Ae,<-ha,<-xa,e]
  .rw[Ad xa];exact k1 x o xa e
noncomputable def stripT:List ((Int×Int)×BL):=[((1,1),[(0,1)]),((1,2),[(0,1)]),((2,1),[(0,1),(1,1)]),((1,3),[(0,1)]),((2,2),[(0,1),(1,3)]),((3,1),[(0,1),(1,1),(2,1),(3,1)]),((1,4),[(0,1)]),((2,3),[(0,1),(1,9)]),((3,2),[(0,1),(1,5),(2,5),(3,7)]),((4,1),[(0,1),(1,1),(2,1),(3,1),(4,1),(5,1),(6,1),(7,1)]),((2,4),[(0,1),(1,27)]),((3,3),[(0,1),(1,31),(2,31),(3,49)]),((4,2),[(0,1),(1,11),(2,7),(3,13),(4,11),(5,13),(6,13),(7,15)]),((3,4),[(0,1),(1,217),(2,217),(3,343)]),((4,3),[(0,1),(1,177),(2,85),(3,199),(4,177),(5,199),(6,199),(7,225)]),((4,4),[(0,1),(1,3183),(2,1471),(3,3265),(4,3183),(5,3265),(6,3265),(7,3375)])]
noncomputable def A0(l t:Int):BL:=(stripT.lookup (l,t)).getD []
noncomputable def Au(parts:List Int)(i7:Int):BL:=parts.foldl (λ f p=>OR f (A0 i7 p)) [(BC i7,1)]
noncomputable def StAt(H:Hp)(st:jd)(ok:Int->Int->Prop):Prop:=∃kvs:LKz,H st=some (.dT kvs)/\∀l t,ok l t->∃d,AS kvs [Sum.inl l,Sum.inl t]=some (.ref d)/\H d=some (.dK (kvB (A0 l t)))
theorem StAt.same{H H':Hp}{st:jd}{ok:Int->Int->Prop}(h:StAt H st ok)(s:Same H H'):StAt H' st ok:=by
 obtain⟨kvs,e,h⟩:=h;exact⟨kvs,s _ _ e,λ l t o=>let ⟨d,e1,e2⟩:=h l t o;⟨d,e1,s _ _ e2⟩⟩
inductive Jv(vs:LUz)(H:Hp)(Q:VK)(E:XK):Prop
 |mk (st l:jd) (ps:List Int) (i7:Int) (h0:vs=[.ref st,.ref l,.int i7]) (h1:1<=i7) (h2:i7<=4) (h3:H l=some (.lst (ps.map V.int))) (h4:(∀p∈ps,1<=p/\p<=4)) (h5:StAt H st (λ a b=>a=i7/\b∈ps)) (h6:∀d H',Same H H'->H d=none->H' d=some (.dK (kvB (Au ps i7)))->Q (.ref d) H'):Jv vs H Q E
noncomputable def Ct:Sp:=λ vs H Q E=>Jv vs H Q E
noncomputable def KOk(d:BL):Prop:=(d.map (·.1)).Nodup/\∀p∈d,0<=p.1/\p.1<8
theorem KOk.len{d:BL}(h:KOk d):d.length<=8:=by
 have:=GA 8 (d.map (·.1)) h.1 λ x hx=>by
  obtain⟨p,hp,rfl⟩:=ao.mp hx;exact h.2 p hp
 rw[aa]at this;exact this
theorem X8:∀a b:Fin 8,0<=Builtin.bitAnd (a.val:Int) (b.val:Int)/\Builtin.bitAnd (a.val:Int) (b.val:Int)<8:=by decide +kernel
theorem SH{a b:Int}(a0:0<=a)(a1:a<8)(b0:0<=b)(b1:b<8):0<=Builtin.bitAnd a b/\Builtin.bitAnd a b<8:=by
 have:=X8 ⟨a.toNat,by lia⟩ ⟨b.toNat,by lia⟩;rw[show((a.toNat:Nat):Int)=a by lia,show((b.toNat:Nat):Int)=b by lia]at this;exact this
theorem KOk.put{d:BL}(h:KOk d){k v:Int}(k0:0<=k)(k1:k<8):KOk (Ih d k v):=by
 unfold Ih;split
 .refine⟨?_,λ p hp=>?_⟩
  .rw[aB,show((λ p:Int×Int=>p.1)∘λ p:Int×Int=>if p.1=k then (p.1,v) else p)=λ p=>p.1 from funext λ p=>by show(if p.1=k then (p.1,v) else p).1=p.1;split<;>rfl];exact h.1
  .obtain⟨q,hq,rfl⟩:=ao.mp hp;have:=h.2 q hq;split<;>exact this
 .rename_i c;refine⟨?_,λ p hp=>?_⟩
  .rw[ai];refine ez.mpr ⟨h.1,bP.mpr ⟨(λ z=>nomatch z),cB⟩,λ x hx y hy e=>c ?_⟩;obtain⟨q,hq,rfl⟩:=ao.mp hx;rw[af.mp hy]at e;exact cE.mpr ⟨q,hq,jn e⟩
  .rcases az.mp hp with hp|hp
   .exact h.2 p hp
   .rw[af.mp hp];exact⟨k0,k1⟩
theorem KOk.row{bs:BL}(hb:∀p∈bs,0<=p.1/\p.1<8){a:Int×Int}(a0:0<=a.1)(a1:a.1<8){f:BL}(h:KOk f):KOk (BH bs f a):=by
 unfold BH
 induction bs generalizing f with
 |nil=>exact h
 |cons b r ih =>
  have hb0:=hb b aw;have:=SH a0 a1 hb0.1 hb0.2;exact ih (λ p hp=>hb p (ay _ hp)) (h.put this.1 this.2)
theorem KOk.com{bs:BL}(hb:∀p∈bs,0<=p.1/\p.1<8):∀{as f:BL},(∀p∈as,0<=p.1/\p.1<8)->KOk f->KOk (as.foldl (BH bs) f)
 |[],f,_,h=>h
 |a::r,f,ha,h=>KOk.com hb (as:=r) (λ p hp=>ha p (ay _ hp)) (h.row hb (ha a aw).1 (ha a aw).2)
theorem Fd{α:Type}{k:Int×Int}{v:α}:∀{l:List ((Int×Int)×α)},l.lookup k=some v->(k,v)∈l
 |[],h=>by cases h
 | (k',v')::r,h=>by
  rw[aX]at h;by_cases e:k=k'
  .rw[show(k==k')=true by rw[e];exact beq_self_eq_true _]at h;cases h;rw[e];exact aw
  .rw[show(k==k')=false from beq_eq_false_iff_ne.mpr e]at h;exact ay _ (Fd h)
theorem PF:stripT.all (λ e=>e.2.all (λ p=>decide (0<=p.1)&&decide (p.1<8)&&(decide (0<=p.2)&&decide (p.2<=1000000000)))&&decide (e.2.length<=8))=true:=by decide +kernel
theorem BX(l t:Int):(∀p∈A0 l t,(0<=p.1/\p.1<8)/\0<=p.2/\p.2<=1000000000)/\(A0 l t).length<=8:=by
 unfold A0;cases e:stripT.lookup (l,t) with
 |none=>exact⟨λ p hp=>(nomatch hp),aP _⟩
 |some d =>
  have hm:((l,t),d)∈stripT:=Fd e;have:=aI.mp PF _ hm;rw[ax]at this;refine⟨λ p hp=>?_,jF this.2⟩;have:=aI.mp this.1 p hp;rw[ax,ax,ax,jp,jp,jp,jp]at this;exact this
theorem HA{n:Int}(n1:1<=n)(n4:n<=4):0<=BC n/\BC n<8:=by
 obtain⟨k,hk,rfl⟩:∃k:Nat,k<5/\n=k:=⟨n.toNat,by lia,by lia⟩
 match k,hk,n1 with
 |1,_,_=>decide
 |2,_,_=>decide
 |3,_,_=>decide
 |4,_,_=>decide
 |0,_,h=>lia
theorem Eo{i7:Int}(n1:1<=i7)(n4:i7<=4)(ps:List Int):KOk (Au ps i7):=by
 unfold Au;have h0:KOk [(BC i7,1)]:=⟨bP.mpr ⟨(λ z=>nomatch z),cB⟩,λ p hp=>by rw[af.mp hp];exact HA n1 n4⟩;have:∀(ps:List Int)(f:BL),KOk f->KOk (ps.foldl (λ f p=>OR f (A0 i7 p)) f):=λ ps=>by
  induction ps with
  |nil=>exact λ f h=>h
  |cons p r ih=>exact λ f h=>ih _ (KOk.com (λ q hq=>((BX i7 p).1 q hq).1) h.2 ⟨cB,λ q hq=>(nomatch hq)⟩)
 exact this ps _ h0
noncomputable abbrev SK:LSz:=["strips","parts","thick","found","part"]
theorem Gi{f:jd}{fd:jr}(F:Fun K "rows_by_lines" "rows_by_lines" Cc f fd)(fY:Aq P w K mg ja 1 "all_lines" lX Fx)(hZ:Aq P w K mg ja 1 "in_common" m5 JZ):A3 P w K mg ja CX0 2 f fd mh Ct:=by
 have S:Ak SK mh (Ah Cc):=fsk;refine F.g S ?_;rintro vs H Q E ⟨st,l,ps,i7,rfl,t1,t4,hl,p4,sa,q⟩;refine⟨rfl,λ cdv A i6 s hr=>?_⟩;have hu:=Ea hr;refine⟨_,(Ab (Av 3 S.nd (OB (Mi (Ao fY hr (Aj Ar)) Ac O5) rfl rfl (by decide) (by decide)))
  (Ab (AE PassesOwn.never rfl (A6 Al) (AW 4 S.nd) (Af (Av 3 S.nd (Ao hZ hr (Aa Az (Aj (Dp hu Ai (AB (Aa Ar (Aj AG))))))))))
  (Af (Am Az)))),?_⟩
 refine λ d nd=>⟨_,rfl,i7,rfl,t1,t4,Ae,[(Sum.inl (BC i7),.int 1)],rfl,(show 1<=15 by decide),?_⟩;rw[KU,show Fc [] [((Sum.inl (BC i7):Key),V.int 1)]=kvB [(BC i7,1)] from rfl];refine nv nd λ H0 s0 e0=>?_;refine⟨_,rfl,l,rfl,⟨_,SqL.of (s0 _ _ hl)⟩,Bu (K:=K) (a:=l) (xs:=ps.map V.int) (λ i σ H'=>∃(y4:Option V)(dd:jd),σ=[some (.ref st),some (.ref l),some (.int i7),some (.ref dd),y4]/\Same H H'/\H dd=none/\H' dd=some (.dK (kvB (Au (ps.take i) i7)))) ⟨_,d,rfl,s0,nd,e0⟩ (λ i σ H' _ hp=>by obtain⟨_,_,_,s',_⟩:=hp;exact SqL.of (s' _ _ hl)) ?_ ?_⟩
 .rintro i v σ H1 hv ⟨y4,dd,rfl,s1,ndd,hdd⟩;obtain⟨p,hp,rfl⟩:=ints_get hv;have pm:=aA hp;obtain⟨kvs,hst,hs⟩:=sa;obtain⟨sd,v1,v2⟩:=hs i7 p ⟨rfl,pm⟩;have tk:Au (ps.take (i+1)) i7=OR (Au (ps.take i) i7) (A0 i7 p):=by
   unfold Au;rw[aS,hp,cP];rfl
  refine⟨_,rfl,_,rfl,_,rfl,_,rfl,A8 2,λ t nt=>?_⟩;refine nv nt λ H2 s2 e2=>?_;have s02:=s1.trans s2;have dg:DGet H2 st (.ref t) (some (.ref sd)):=by
   have:=DGet.t (H:=H2) (a:=st) (b:=t) (k:=[Sum.inl i7,Sum.inl p]) (s02 _ _ hst) e2;rw[v1]at this;exact this
  refine⟨st,_,rfl,dg,dd,sd,Au (ps.take i) i7,A0 i7 p,rfl,s2 _ _ hdd,s02 _ _ v2,(λ z=>by rw[z,v2]at ndd;cases ndd),(Eo t1 t4 _).len,(BX i7 p).2,λ q hq=>((BX i7 p).1 q hq).2,λ d3 H3 s3 n3 h3=>⟨_,d3,rfl,s02.trans s3,Kk s02 n3,by rw[tk];exact h3⟩⟩
 .rintro σ H1 ⟨y4,dd,rfl,s1,ndd,hdd⟩;rw[aa,aM]at hdd;exact⟨_,rfl,q dd H1 s1 ndd hdd⟩
noncomputable def Oh(l t:Int):BL:=(List.range (BC l).toNat).foldl (λ f (i:Nat)=>Ih f ((i:Int)+1) (Ay (Au (As ((i:Int)+1) (l-1).toNat) t) (BC t))) [(0,1)]
inductive Ju(vs:LUz)(H:Hp)(Q:VK)(E:XK):Prop
 |mk (st:jd) (l t:Int) (h0:vs=[.ref st,.int l,.int t]) (h1:1<=l) (h2:l<=4) (h3:1<=t) (h4:t<=4) (h5:StAt H st (λ a b=>a=t/\1<=b/\b<l)) (h6:∀d H',Same H H'->H d=none->H' d=some (.dK (kvB (A0 l t)))->Q (.ref d) H'):Ju vs H Q E
noncomputable def JV:Sp:=λ vs H Q E=>Ju vs H Q E
theorem PB:∀l t:Fin 5,0<l.val->0<t.val->Oh (l.val:Int) (t.val:Int)=A0 l.val t.val:=by decide +kernel
theorem P9{l t:Int}(l1:1<=l)(l4:l<=4)(t1:1<=t)(t4:t<=4):Oh l t=A0 l t:=by
 have:=PB ⟨l.toNat,by lia⟩ ⟨t.toNat,by lia⟩ (by show 0<l.toNat;lia) (by show 0<t.toNat;lia);rw[show((l.toNat:Nat):Int)=l by lia,show((t.toNat:Nat):Int)=t by lia]at this;exact this
theorem PY:∀(l:Fin 5)(i:Fin 8),0<l.val->(i.val:Int)<BC l.val->∀p∈As ((i.val:Int)+1) ((l.val:Int)-1).toNat,1<=p/\p<l.val:=by decide +kernel
theorem R5{l:Int}{i:Nat}(l1:1<=l)(l4:l<=4)(hi:(i:Int)<BC l):∀p∈As ((i:Int)+1) (l-1).toNat,1<=p/\p<l:=by
 have a8:=HA l1 l4;have:=PY ⟨l.toNat,by lia⟩ ⟨i,by lia⟩ (by show 0<l.toNat;lia) (by show(i:Int)<BC (l.toNat:Int);rw[show((l.toNat:Nat):Int)=l by lia];exact hi);rw[show((l.toNat:Nat):Int)=l by lia]at this;exact this
noncomputable abbrev Uo:LSz:=["strips","length","thick","found","lines","by_lines"]
theorem E8{g:Nat->Int}{k:Nat->Int}:∀(n:Nat)(f:BL),((List.range n).foldl (λ f i=>Ih f (k i) (g i)) f).length<=f.length+n
 |0,f=>ah _
 |n+1,f=>by
  rw[bH,cP];have h1:=E8 (g:=g) (k:=k) n f;have h2:=O2 ((List.range n).foldl (λ f i=>Ih f (k i) (g i)) f) (k n) (g n);exact aV h2 (by lia)
theorem F9{f:jd}{fd:jr}(F:Fun K "strips_of_size" "strips_of_size" BR f fd)(T:Txt mg tk)(fY:Aq P w K mg ja 1 "all_lines" lX Fx)(fV:Aq P w K mg ja 1 "parts_between" me CV)(fX:Aq P w K mg ja 2 "rows_by_lines" mh Ct)(f6:Aq P w K mg ja 1 "rows_without" mf Cv):A3 P w K mg ja CX0 3 f fd m7 JV:=by
 have S:Ak Uo m7 (Ah BR):=fsk;refine F.g S ?_;rintro vs H Q E ⟨st,l,t,rfl,l1,l4,t1,t4,sa,q⟩;refine⟨rfl,λ cdv A i6 s hr=>?_⟩;have hu:=Ea hr;have a8:=HA l1 l4;refine⟨_,(Ab (Av 3 S.nd (OB (Mi Ac Ac O5) rfl rfl (by decide) (by decide)))
  (Ab (AE PassesOwn.never rfl (Bm rfl T.z_range (Aa Ac (Aj (Ap AC (Ao fY hr (Aj Al)) Ac)))) (AW 4 S.nd) (Ab (Av 5 S.nd (Ao fX hr (Aa Ai (Aa (Ao fV hr (Aa AG (Aj Al))) (Aj Ar)))))
  (Af (Er hu Az AG (Ao f6 hr (Aa B0 (Aj (Ao fY hr (Aj Ar))))) rfl))))
  (Af (Am Az)))),?_⟩
 refine λ d nd=>⟨Ae,[(Sum.inl 0,.int 1)],rfl,(show 1<=15 by decide),?_⟩;rw[KU,show Fc [] [((Sum.inl 0:Key),V.int 1)]=kvB [(0,1)] from rfl];refine nv nd λ H0 s0 e0=>?_;refine⟨_,rfl,l,rfl,l1,l4,_,_,rfl,rfl,1,BC l+1,rfl,⟨by lia,by lia,by lia,by lia⟩,?_⟩;refine AT (lo:=1) (n:=(BC l+1-1).toNat) (λ i σ H'=>∃(y4 y5:Option V),σ=[some (.ref st),some (.int l),some (.int t),some (.ref d),y4,y5]/\Same H H'/\H' d=some (.dK (kvB ((List.range i).foldl (λ f (i:Nat)=>Ih f ((i:Int)+1) (Ay (Au (As ((i:Int)+1) (l-1).toNat) t) (BC t))) [(0,1)])))) ⟨_,_,rfl,s0,e0⟩ ?_ ?_
 .rintro i σ H1 hi ⟨y4,y5,rfl,s1,h1⟩;have hia:(i:Int)<BC l:=by lia
  have pin:=R5 (i:=i) l1 l4 hia;rw[show(1:Int)+(i:Int)=(i:Int)+1 by lia];refine⟨_,rfl,_,rfl,_,rfl,(i:Int)+1,l,rfl,l1,l4,λ lp H2 s2 n2 h2=>⟨_,rfl,st,lp,_,t,rfl,t1,t4,h2,λ p hp=>⟨(pin p hp).1,by have:=(pin p hp).2;lia⟩,?_,λ dr H3 s3 n3 h3=>?_⟩⟩
  .obtain⟨kvs,hst,hs⟩:=sa;exact⟨kvs,(s1.trans s2) _ _ hst,λ a b ⟨ea,hb⟩=>let ⟨sd,v1,v2⟩:=hs a b ⟨ea,pin b hb⟩;⟨sd,v1,(s1.trans s2) _ _ v2⟩⟩
  .have s13:=s1.trans (s2.trans s3);refine⟨_,rfl,_,rfl,t,rfl,t1,t4,dr,_,BC t,rfl,h3,aV (Eo t1 t4 _).len (by decide),λ H4 s4=>?_⟩;have h4:=(s2.trans (s3.trans s4)) _ _ h1;refine⟨_,rfl,_,rfl,d,_,rfl,DPut.k (k:=Sum.inl ((i:Int)+1)) h4 (An (by rw[Dt];exact aV (E8 i [(0,1)]) (by show 1+i<=1000;lia))),_,_,rfl,λ x o e=>?_,?_⟩
   .rw[Ad (Ag e nd)];exact(s13.trans s4) _ _ e
   .rw[Ae,RQ,bH,cP];rfl
 .rintro σ H1 ⟨y4,y5,rfl,s1,h1⟩;rw[show(BC l+1-1).toNat=(BC l).toNat by lia]at h1;exact⟨_,rfl,q d H1 s1 nd (by rw[<-P9 l1 l4 t1 t4];exact h1)⟩
theorem Ww{a b:Int}(h0:0<=a)(h1:a<=1000000000):IntMulOk a b:=IntMulOk.of_left (by
 unfold Builtin.Int.intBits;split
 .exact aP _
 .have:a.natAbs.log2<30:=(Nat.log2_lt (by intro z;simp_all)).mpr (by lia);lia)
noncomputable def V9(fs lt:BL)(i8:Int)(i:Nat):Int:=(D7 fs (i:Int)).getD 0*Ay lt (Builtin.bitAnd i8 (i:Int))
noncomputable def AD(fs lt:BL)(i8:Int)(n:Nat):Int:=((List.range n).map (V9 fs lt i8)).sum
inductive J0(vs:LUz)(H:Hp)(Q:VK)(E:XK):Prop
 |mk (a b:jd) (fs lt:BL) (i8:Int) (n:Nat) (h0:vs=[.ref a,.ref b,.int i8,.int n]) (h1:H a=some (.dK (kvB fs))) (h2:H b=some (.dK (kvB lt))) (h3:lt.length<=8) (h4:n<=8) (h5:(∀i:Nat,i<n->∃v,D7 fs (i:Int)=some v/\0<=v/\v<=1000000000)) (h6:∀H',Same H H'->Q (.int (AD fs lt i8 n)) H'):J0 vs H Q E
noncomputable def FY:Sp:=λ vs H Q E=>J0 vs H Q E
noncomputable abbrev MX:LSz:=mL
theorem Iu{f:jd}{fd:jr}(F:Fun K "rows_before" "rows_before" CG f fd)(T:Txt mg tk)(f6:Aq P w K mg ja 1 "rows_without" mf Cv):A3 P w K mg ja CX0 2 f fd mL FY:=by
 have S:Ak MX MX (Ah CG):=fsk;refine F.g S ?_;rintro vs H Q E ⟨a,b,fs,lt,i8,n,rfl,ha,hb,lb,n8,al,q⟩;refine⟨rfl,λ cdv A i6 s hr=>?_⟩;have hu:=Ea hr;refine⟨_,(Af (Am (AL Jk T.z_sum (Aj (Bi rfl (CZ rfl T.z_range (Aj Az)) (λ_ _ _ _ _=>pgk (nk ["less","firsts","later","common"])) (λ_ _ _ _ _=>(Ap Cr (Dp hu Al Ai) (Ao f6 hr (Aa Ar (Aj (Ap Gh Az Ai)))))) (N:=["less","firsts","later","common"]) (fr:=[none,some 0,some 1,some 2])))))),?_⟩;refine⟨_,rfl,n,rfl,by lia,by lia,λ acc jb=>Fl (lo:=0) (n:=(n:Int).toNat) (λ i zs σ H'=>(∃x,σ=[x,some (.ref a),some (.ref b),some (.int i8)])/\Same H H'/\zs=((List.range i).map (V9 fs lt i8)).map V.int) ⟨⟨_,rfl⟩,Same.new jb,rfl⟩ ?_ ?_⟩
 .rintro i zs σ H1 hi hl ha1 ⟨⟨x,rfl⟩,s1,rfl⟩;rw[cu];obtain⟨v,hv,v0,v1⟩:=al i (by lia);have dg:DGet H1 a (.int (i:Int)) (some (.int v)):=by
   have:=DGet.k (H:=H1) (k:=Sum.inl (i:Int)) (s1 _ _ ha);rw[RO,hv]at this;exact this
  refine⟨_,rfl,_,rfl,a,_,rfl,dg,_,rfl,_,rfl,_,rfl,_,_,rfl,rfl,b,lt,Builtin.bitAnd i8 (i:Int),rfl,s1 _ _ hb,by lia,λ H2 s2=>⟨_,_,rfl,rfl,Ww v0 v1,?_⟩⟩;refine cNx.mk (aN (An (by lia))) hi hl (s2 _ _ ha1) ⟨⟨_,rfl⟩,λ x o e=>?_,?_⟩
  .rw[Ad (Ag e jb)];exact s2 _ _ (s1 _ _ e)
  .rw[bH,ai,ai];show _=_++[V.int ((D7 fs (i:Int)).getD 0*Ay lt (Builtin.bitAnd i8 (i:Int)))];rw[hv];rfl
 .rintro zs σ H1 hl ha1 ⟨_,s1,rfl⟩;rw[bR]at ha1;exact⟨acc,_,rfl,SqL.of ha1,rfl,q H1 s1⟩
noncomputable def Kz(fs lt:BL)(i8 number:Int):Nat->Nat->Option Nat
 |0,_=>none
 |k+1,n=>if n<fs.length then (if AD fs lt i8 (n+1)<=number then Kz fs lt i8 number k (n+1) else some n) else none
noncomputable def Fb(b:Int)(q:P4):P4:=(q.2.1,b+q.1,q.2.2.2,b+q.2.2.1)
noncomputable def JA(sb:Int->Int->Nat->Int->Option (List P4))(i7:Int):List Int->Int->Int->Int->Option (List P4)
 |[],_,_,_=>some []
 |p::rest,i8,number,b=>(Kz (A0 i7 p) (Au rest i7) i8 number 9 0).bind λ n =>
  if 0<Ay (Au rest i7) (Builtin.bitAnd i8 n)/\Ay (Au rest i7) (Builtin.bitAnd i8 n)<=1000000000 then
   (sb i7 p n ((number-AD (A0 i7 p) (Au rest i7) i8 n) / Ay (Au rest i7) (Builtin.bitAnd i8 n))).bind λ ps =>
    (JA sb i7 rest (Builtin.bitAnd i8 n) ((number-AD (A0 i7 p) (Au rest i7) i8 n) % Ay (Au rest i7) (Builtin.bitAnd i8 n)) (b+p)).map λ r=>ps.map (Fb b)++r
  else none
noncomputable def BO:Nat->Int->Int->Nat->Int->Option (List P4)
 |0,_,_,_,_=>none
 |k+1,a,b,n,number=>if n=0 then some [(0,0,b,a)] else JA (BO k) b (As n (a-1).toNat) (BC b) number 0
noncomputable def PnL(H:Hp)(l:jd)(out:List P4):Prop:=∃ts:List (jd×P4),H l=some (.lst (A9 ts))/\(∀t∈ts,H t.1=some (.tup (HH t.2)))/\ts.map (·.2)=out
theorem PnL.same{H H':Hp}{l:jd}{out:List P4}(h:PnL H l out)(s:Same H H'):PnL H' l out:=by
 obtain⟨ts,a,b,c⟩:=h;exact⟨ts,s _ _ a,λ t ht=>s _ _ (b t ht),c⟩
noncomputable def InM(m:Int)(a b:Int):Prop:=1<=a/\a<=m/\1<=b/\b<=m
inductive GK(k:Nat)(vs:LUz)(H:Hp)(Q:VK)(E:XK):Prop
 |mk (st sz:jd) (a b m:Int) (n:Nat) (number:Int) (out:List P4) (h0:vs=[.ref st,.ref sz,.int n,.int number]) (h1:H sz=some (.tup [.int a,.int b])) (h2:m<=4) (h3:InM m a b) (h4:StAt H st (InM m)) (h5:n<=7) (h6:BO k a b n number=some out) (h7:out.length<=100) (h8:∀l H',Same H H'->H l=none->PnL H' l out->Q (.ref l) H'):GK k vs H Q E
noncomputable def BP(k:Nat) :Sp:=λ vs H Q E=>GK k vs H Q E
inductive KC(k:Nat)(vs:LUz)(H:Hp)(Q:VK)(E:XK):Prop
 |mk (st l:jd) (ps:List Int) (i7 m i8 number:Int) (out:List P4) (h0:vs=[.ref st,.ref l,.int i7,.int i8,.int number]) (h1:H l=some (.lst (ps.map V.int))) (h2:m<=4) (h3:(∀p∈ps,InM m i7 p)) (h4:StAt H st (InM m)) (h5:ps.length<=4) (h6:JA (BO k) i7 ps i8 number 0=some out) (h7:out.length<=100) (h8:∀l' H',Same H H'->H l'=none->PnL H' l' out->Q (.ref l') H'):KC k vs H Q E
noncomputable def DE(k:Nat) :Sp:=λ vs H Q E=>KC k vs H Q E
theorem Nu:stripT.all (λ e=>(List.range e.2.length).all λ i=>(D7 e.2 (i:Int)).isSome)=true:=by decide +kernel
theorem MH{d:BL}{k v:Int}(h:D7 d k=some v):(k,v)∈d:=by
 unfold D7 at h;obtain⟨p,hp,rfl⟩:=ba.mp h;have:=List.find?_some hp;have e:p.1=k:=jF this;rw[<-e];exact fA hp
theorem FW{l t:Int}{i:Nat}(h:i<(A0 l t).length):∃v,D7 (A0 l t) (i:Int)=some v/\0<=v/\v<=1000000000:=by
 have so:=(BX l t).1;unfold A0 at h so |-;cases e:stripT.lookup (l,t) with
 |none=>rw[e]at h;cases h
 |some d =>
  rw[e]at h so;have:=aI.mp (aI.mp Nu _ (Fd e)) i (aQ.mpr h);obtain⟨v,hv⟩:=dm.mp this;exact⟨v,hv,(so _ (MH hv)).2⟩
theorem MO{ps:List Int}{i:Nat}:JK (ps.map V.int) (some ((i:Int)+1)) none=(ps.drop (i+1)).map V.int:=by
 unfold JK;rw[<-List.map_drop,<-List.map_take,aa];unfold HT.sIx;simp only[];rw[jj (by lia)];have e:min ((i:Int)+1).toNat ps.length=min (i+1) ps.length:=by rw[show((i:Int)+1).toNat=i+1 by lia]
 rw[e];congr 1;by_cases h:i+1<=ps.length
 .rw[Nat.min_eq_left h,fF (by rw[eQ];lia)]
 .rw[Nat.min_eq_right (by lia),bM,List.drop_eq_nil_of_le (by lia),List.take_nil]
noncomputable abbrev LM:LSz:=["strips","parts","thick","common","number","panes","begin","place","part","firsts","later","lines","rest","strip"]
theorem Qa{f:jd}{fd:jr}{k:Nat}(F:Fun K "row_by" "row_by" C0 f fd)(T:Txt mg tk)(fX:Aq P w K mg ja 2 "rows_by_lines" mh Ct)(gg:Aq P w K mg ja 2 "rows_before" mL FY)(f6:Aq P w K mg ja 1 "rows_without" mf Cv)(iK:Aq P w K mg ja (2*k+3) "strip_by" mi (BP k)):A3 P w K mg ja CX0 (2*k+4) f fd mw (DE k):=by
 have S:Ak LM mw (Ah C0):=fsk;refine F.g S ?_;rintro vs H Q E ⟨st,l,ps,i7,m,i8,number,out,rfl,hl,m4,pm,sa,p4,hrow,few,q⟩;refine⟨rfl,λ cdv A i6 s hr=>?_⟩;have hu:=Ea hr;obtain⟨tA,hA,kA⟩:∃rd,PSs (B3 CX0 P w K mg ja LM "row_by" (Ah C0) f cdv A i6 s H E).nox ((L7 (nth (A7 C0) 2)).drop 4) rd/\∀(i8 number b p:Int)(n:Nat)(rest:List Int)(fa la pl:jd)(acc ps':List P4)(w1 w7 w12 w13:Option V)(D:DA)(H1:Hp),Same H H1->H pl=none->InM m i7 p->H1 fa=some (.dK (kvB (A0 i7 p)))->H1 la=some (.dK (kvB (Au rest i7)))->PnL H1 pl acc->n<(A0 i7 p).length->0<Ay (Au rest i7) (Builtin.bitAnd i8 n)->Ay (Au rest i7) (Builtin.bitAnd i8 n)<=1000000000 ->
   BO k i7 p n ((number-AD (A0 i7 p) (Au rest i7) i8 n) / Ay (Au rest i7) (Builtin.bitAnd i8 n))=some ps'->acc.length+ps'.length<=100 ->
   (∀w12 w13 H',Same H H'->PnL H' pl (acc++ps'.map (Fb b))->D.nx [some (.ref st),w1,some (.int i7),some (.int (Builtin.bitAnd i8 n)),some (.int ((number-AD (A0 i7 p) (Au rest i7) i8 n) % Ay (Au rest i7) (Builtin.bitAnd i8 n))),some (.ref pl),some (.int (b+p)),w7,some (.int p),some (.ref fa),some (.ref la),some (.int n),w12,w13] H') ->
   rd D [some (.ref st),w1,some (.int i7),some (.int i8),some (.int number),some (.ref pl),some (.int b),w7,some (.int p),some (.ref fa),some (.ref la),some (.int n),w12,w13] H1:=by
  refine⟨_,(Ab (C7 (i:=4) S.nd rfl (bN rfl) (Ao gg hr (Aa (pv 9) (Aa (pv 10) (Aa Az (Aj (pv 11))))) (by lia)) NR)
  (Ab (Av 3 S.nd (Ap Gh Az (pv 11)))
  (Ab (Av 12 S.nd (Ao f6 hr (Aa (pv 10) (Aj Az)) (by lia)))
  (Ab (Av 13 S.nd (Ao iK hr (Aa Ai (Aa (AB (Aa Ar (Aj (pv 8)))) (Aa (pv 11) (Aj (Ap F8 AG (pv 12)))))) (by lia)))
  (Ab (Bh (Rz bI fh fg Km B0 (Aj (Bi rfl (A6 (pv 13)) (λ_ _ _ _ _=>(Hl (K:=K) (n:=4) rfl (A2 (AR (i:=0) (nk lY) rfl (bN rfl)) (A2 (AR (i:=1) (nk lY) rfl (bN rfl)) (A2 (AR (i:=2) (nk lY) rfl (bN rfl)) (A2 (AR (i:=3) (nk lY) rfl (bN rfl)) Bx)))))) (λ_ _ _ _ _=>(AB (Aa Al (Aa (Ap AC AG Ai) (Aa Az (Aj (Ap AC AG Ar))))))) (N:=lY) (fr:=[none,none,none,none,some 6])))))
  (Ab (Av 4 S.nd (Ap Bj AG (pv 12)))
  (Af (C7 (i:=6) S.nd rfl (dv rfl) (pv 8) Dv)))))))),?_⟩
  intro i8 number b p n rest fa la pl acc ps' w1 w7 w12 w13 D H1 s1 npl ip ha hla hpl nl pos big hsb few' qq;have r8:=(Eo ip.1 (by have:=ip.2.1;lia) rest).len;have n8:=(BX i7 p).2;refine⟨_,rfl,_,rfl,_,rfl,_,rfl,_,rfl,fa,la,A0 i7 p,Au rest i7,i8,n,rfl,ha,hla,r8,by lia,(λ i hi=>FW (l:=i7) (t:=p) (by lia)),λ H2 s2=>⟨_,_,rfl,rfl,_,rfl,_,rfl,_,_,rfl,rfl,?_⟩⟩;have e1:(λ i j:Int=>i-j) number (AD (A0 i7 p) (Au rest i7) i8 n)=number-AD (A0 i7 p) (Au rest i7) i8 n:=rfl;rw[e1];clear e1;generalize number-AD (A0 i7 p) (Au rest i7) i8 n=num at hsb qq;refine⟨_,rfl,_,rfl,la,Au rest i7,Builtin.bitAnd i8 n,rfl,s2 _ _ hla,by lia,λ H3 s3=>⟨_,rfl,_,rfl,_,rfl,A8 2,λ t nt=>?_⟩⟩;generalize Ay (Au rest i7) (Builtin.bitAnd i8 n)=r at hsb qq pos big;refine nv nt λ H4 s4 e4=>?_;have s14:=s2.trans (s3.trans s4);refine⟨_,rfl,_,rfl,_,rfl,_,_,rfl,rfl,Su _ pos (by lia),st,t,i7,p,m,n,num / r,ps',rfl,e4,m4,ip,sa.same (s1.trans s14),by lia,hsb,by lia,λ ls H5 s5 n5 ⟨us,u1,u2,u3⟩=>?_⟩;obtain⟨ts,p1,p2,p3⟩:=hpl;have s15:=s14.trans s5;have tl:=congrArg List.length p3;have ul:=congrArg List.length u3;rw[aa]at tl ul;refine⟨_,rfl,.inl ⟨rfl,_,SqL.of (s15 _ _ p1)⟩,_,rfl,ls,rfl,⟨_,SqL.of u1⟩,λ acc' jb=>Be (K:=K) (a:=ls) (ys:=A9 us) (λ i zs σ H'=>(∃x0 x1 x2 x3,σ=[x0,x1,x2,x3,some (.int b)])/\Same H5 H'/\∃ws:List (jd×P4),zs=A9 ws/\(∀t∈ws,H' t.1=some (.tup (HH t.2)))/\ws.map (·.2)=(ps'.map (Fb b)).take i) ⟨⟨_,_,_,_,rfl⟩,Same.new jb,[],rfl,(λ t ht=>nomatch ht),rfl⟩ (λ i zs σ H' _ _ hp=>SqL.of (hp.2.1 _ _ u1)) ?_ ?_⟩
  .rintro i v zs σ H6 hv hi hz ha6 ⟨⟨x0,x1,x2,x3,rfl⟩,s6,ws,rfl,w2,w3⟩;obtain⟨u,hu',rfl⟩:=BF hv;have um:=aA hu';have u6:H6 u.1=some (.tup [.int u.2.1,.int u.2.2.1,.int u.2.2.2.1,.int u.2.2.2.2]):=s6 _ _ (u2 u um);refine⟨u.1,_,rfl,SqT.of u6,rfl,_,_,rfl,_,_,rfl,_,_,rfl,_,_,rfl,rfl,_,rfl,_,rfl,_,rfl,_,_,rfl,rfl,_,rfl,_,rfl,_,rfl,_,_,rfl,rfl,A8 4,λ t7 n7=>?_⟩;obtain⟨H7,e,s7,e7⟩:=nw (.tup (HH (Fb b u.2))) n7;have e:upd H6 t7 (.tup [.int u.2.2.1,.int (b+u.2.1),.int u.2.2.2.2,.int (b+u.2.2.2.1)])=H7:=e;rw[e];clear e;have ha7:=s7 _ _ ha6;have kp:∀{x:jd}{xs:LUz}{o:LUz},H7 x=some (.tup xs)->(upd H7 acc' (.lst o)) x=some (.tup xs):=λ h=>by rw[Ad (Bp h ha7 (by intro z;cases z))];exact h
   have hp:ps'[i]?=some u.2:=by rw[<-u3,aE,hu'];rfl
   refine cNx.mk (aN (An (by rw[AU];lia))) hi hz ha7 ⟨⟨_,_,_,_,rfl⟩,λ x o e=>?_,ws++[(t7,Fb b u.2)],by rw[A9,A9,ai];rfl,λ t ht=>?_,?_⟩
   .rw[Ad (Ag e jb)];exact s7 _ _ (s6 _ _ e)
   .rcases az.mp ht with ht|ht
    .exact kp (s7 _ _ (w2 t ht))
    .rw[af.mp ht];exact kp e7
   .rw[ai,w3,aS,aE,hp];rfl
  .rintro zs σ H6 hz ha6 ⟨_,s6,ws,rfl,w2,w3⟩;rw[AU,ul,<-aa (f:=Fb b),aM]at w3;have wl:=congrArg List.length w3;rw[aa,aa]at wl;have s16:=s15.trans s6;have pl6:=s16 _ _ p1;refine⟨pl,acc',A9 ts,A9 ws,rfl,rfl,pl6,ha6,aN (An (by rw[AU,AU];lia)),?_⟩;have ea:A9 ts++A9 ws=A9 (ts++ws):=by rw[A9,A9,A9,ai]
   rw[ea];have kp:∀{x:jd}{xs:LUz},H6 x=some (.tup xs)->(upd H6 pl (.lst (A9 (ts++ws)))) x=some (.tup xs):=λ h=>by rw[Ad (Bp h pl6 (by intro z;cases z))];exact h
   refine⟨_,rfl,_,rfl,_,_,rfl,rfl,pos,_,rfl,_,rfl,_,_,rfl,rfl,qq _ _ _ (λ x o e=>?_) ⟨ts++ws,Ae,λ t ht=>?_,by rw[ai,p3,w3]⟩⟩
   .rw[Ad (Ag e npl)];exact s16 _ _ (s1 _ _ e)
   .rcases az.mp ht with ht|ht
    .exact kp (s16 _ _ (p2 t ht))
    .exact kp (w2 t ht)
 obtain⟨tB,hB,kB⟩:∃rd,PSs (B3 CX0 P w K mg ja LM "row_by" (Ah C0) f cdv A i6 s H E).nox (L7 (nth (A7 C0) 2)) rd/\∀(i:Nat)(i8 number b p:Int)(rest:List Int)(pl:jd)(acc r:List P4)(w9 w10 w11 w12 w13:Option V)(D:DA)(H1:Hp),Same H H1->H pl=none->ps[i]?=some p->ps.drop (i+1)=rest->PnL H1 pl acc->JA (BO k) i7 (p::rest) i8 number b=some r->acc.length+r.length<=100 ->
   (∀i8 number r' acc' w9 w10 w11 w12 w13 H',Same H H'->PnL H' pl acc'->JA (BO k) i7 rest i8 number (b+p)=some r'->acc'++r'=acc++r->D.nx [some (.ref st),some (.ref l),some (.int i7),some (.int i8),some (.int number),some (.ref pl),some (.int (b+p)),some (.int i),some (.int p),w9,w10,w11,w12,w13] H') ->
   rd D [some (.ref st),some (.ref l),some (.int i7),some (.int i8),some (.int number),some (.ref pl),some (.int b),some (.int i),some (.int p),w9,w10,w11,w12,w13] H1:=by
  refine⟨_,(Ab (Av 9 S.nd (Dp hu Ai (AB (Aa Ar (Aj (pv 8))))))
  (Ab (Av 10 S.nd (Ao fX hr (Aa Ai (Aa (DU Fz Al (F3 (Ap AC (pv 7) Ac)) F4) (Aj Ar))) (by lia)))
  (Ab (Av 11 S.nd Ac)
  (Ab (Ij PassesOwn.never (A4 Co (Ao gg hr (Aa (pv 9) (Aa (pv 10) (Aa Az (Aj (Ap AC (pv 11) Ac))))) (by lia)) AG) (Af (C7 (i:=11) S.nd rfl (bN rfl) Ac Dv)))
  hA)))),?_⟩
  intro i i8 number b p rest pl acc r w9 w10 w11 w12 w13 D H1 s1 npl hp hd hpl hrow few qq;have ip:=pm p (aA hp);rw[JA]at hrow;obtain⟨n,hn,hrow⟩:=cI.mp hrow;split at hrow
  case isFalse=>cases hrow
  rename_i hpos;obtain⟨ps',hsb,hrow⟩:=cI.mp hrow;obtain⟨r',hr',rfl⟩:=ba.mp hrow;obtain⟨kvs,hst,hs⟩:=sa;obtain⟨sd,v1,v2⟩:=hs i7 p ip;refine⟨_,rfl,_,rfl,_,rfl,A8 2,λ t nt=>?_⟩;refine nv nt λ H2 s2 e2=>?_;have s02:=s1.trans s2;have dg:DGet H2 st (.ref t) (some (.ref sd)):=by
   have:=DGet.t (H:=H2) (a:=st) (b:=t) (k:=[Sum.inl i7,Sum.inl p]) (s02 _ _ hst) e2;rw[v1]at this;exact this
  refine⟨st,_,rfl,dg,_,rfl,_,rfl,_,rfl,_,_,rfl,rfl,_,rfl,l,_,rfl,SqL.of (s02 _ _ hl),λ lr nlr=>?_⟩;rw[MO,hd];refine nv nlr λ H3 s3 e3=>?_;have s03:=s02.trans s3;have pr:∀x∈rest,x∈ps:=λ x hx=>fQ (by rw[hd];exact hx);refine⟨_,rfl,st,lr,rest,i7,rfl,ip.1,by have:=ip.2.1;lia,e3,λ x hx=>⟨(pm x (pr x hx)).2.2.1,by have:=(pm x (pr x hx)).2.2.2;lia⟩,⟨kvs,s03 _ _ hst,λ a c ⟨ea,hc⟩=>?_⟩,λ la H4 s4 n4 h4=>?_⟩
  .rw[ea];obtain⟨sd,v1,v2⟩:=hs i7 c (pm c (pr c hc));exact⟨sd,v1,s03 _ _ v2⟩
  have s04:=s03.trans s4;have s14:=s2.trans (s3.trans s4);have n8:=(BX i7 p).2;have r8:=(Eo ip.1 (by have:=ip.2.1;lia) rest).len;refine⟨λ c σ H'=>∃j:Nat,σ=[some (.ref st),some (.ref l),some (.int i7),some (.int i8),some (.int number),some (.ref pl),some (.int b),some (.int i),some (.int p),some (.ref sd),some (.ref la),some (.int j),w12,w13]/\Same H4 H'/\Kz (A0 i7 p) (Au rest i7) i8 number c j=some n,⟨9,0,rfl,Same.refl _,hn⟩,?_⟩;rintro c σ H5 ⟨j,rfl,s5,hj⟩;have s05:=s04.trans s5;cases c with
  |zero=>cases hj
  |succ c =>
   rw[Kz]at hj;split at hj
   case isFalse=>cases hj
   rename_i jl;refine⟨_,rfl,_,rfl,_,rfl,_,rfl,_,_,rfl,rfl,sd,la,A0 i7 p,Au rest i7,i8,j+1,rfl,s05 _ _ v2,s5 _ _ h4,r8,by lia,(λ x hx=>FW (by lia)),λ H6 s6=>⟨_,rfl,_,_,rfl,rfl,_,rfl,?_⟩⟩;by_cases hc:AD (A0 i7 p) (Au rest i7) i8 (j+1)<=number
   .rw[jo hc]at hj;refine Cn (jn hc) ⟨_,λ σ' H' h=>⟨c,br c,h⟩,_,rfl,_,_,rfl,rfl,j+1,rfl,s5.trans s6,hj⟩
   .rw[jj hc]at hj;cases hj;refine Bt (js hc) ?_;have s06:=s05.trans s6;have s16:=s14.trans (s5.trans s6);have Vy:=few;rw[aH,aa]at Vy;exact kA i8 number b p _ rest sd la pl acc ps' _ _ _ _ D H6 s06 npl ip (s06 _ _ v2) ((s5.trans s6) _ _ h4) (hpl.same s16) jl hpos.1 hpos.2 hsb (by lia) λ w12 w13 H' s' pn=>qq _ _ r' _ _ _ _ _ _ H' s' pn hr' (by rw[aZ])
 refine⟨_,(Ab (Av 5 S.nd (B8 EX))
  (Ab (N2 (i:=6) S.nd rfl (dv rfl) Ac)
  (Ab (AE PassesOwn.never rfl (Hk rfl T.z_enumerate (Aj Al)) (CO rfl (A2 (AW 7 S.nd) (A2 (AW 8 S.nd) Bx))) hB)
  (Af (Am B0))))),?_⟩
 refine⟨A8 0,λ pl npl=>?_⟩;refine nv npl λ H0 s0 e0=>?_;refine⟨_,rfl,l,rfl,⟨_,SqL.of (s0 _ _ hl)⟩,FF (K:=K) (a:=l) (xs:=ps.map V.int) (λ i σ H'=>∃(i8 number b:Int)(acc r:List P4)(w7 w8 w9 w10 w11 w12 w13:Option V),σ=[some (.ref st),some (.ref l),some (.int i7),some (.int i8),some (.int number),some (.ref pl),some (.int b),w7,w8,w9,w10,w11,w12,w13]/\Same H H'/\PnL H' pl acc/\JA (BO k) i7 (ps.drop i) i8 number b=some r/\acc++r=out) ⟨i8,number,0,[],out,_,_,_,_,_,_,_,rfl,s0,⟨[],e0,(λ t ht=>nomatch ht),rfl⟩,hrow,rfl⟩ (λ i σ H' _ hp=>by obtain⟨_,_,_,_,_,_,_,_,_,_,_,_,_,s',_⟩:=hp;exact SqL.of (s' _ _ hl)) ?_ ?_⟩
 .rintro i v σ H1 t hv ⟨i8,number,b,acc,r,w7,w8,w9,w10,w11,w12,w13,rfl,s1,pn,hr1,ho⟩ nt;obtain⟨p,hp,rfl⟩:=ints_get hv;refine nv nt λ H2 s2 e2=>?_;have il:=(aF.mp hp).1;have dr:ps.drop i=p::ps.drop (i+1):=by rw[b5 il];rw[ag il]at hp;rw[Option.some.inj hp]
  rw[dr]at hr1;refine⟨t,_,rfl,SqT.of e2,rfl,_,_,rfl,_,_,rfl,rfl,kB i i8 number b p _ pl acc r _ _ _ _ _ _ H2 (s1.trans s2) npl hp rfl (pn.same s2) hr1 (by rw[<-aH,ho];exact few) λ c' n' r' a' y9 y10 y11 y12 y13 H' s' pn' hr' he=>⟨c',n',_,a',r',_,_,_,_,_,_,_,rfl,s',pn',hr',by rw[he];exact ho⟩⟩
 .rintro σ H1 ⟨i8,number,b,acc,r,w7,w8,w9,w10,w11,w12,w13,rfl,s1,pn,hr1,ho⟩;rw[aa,bM]at hr1;cases hr1;rw[aR]at ho;exact⟨_,rfl,q pl H1 s1 npl (by rw[<-ho];exact pn)⟩
theorem LW{vs:LUz}{H:Hp}{Q:VK}{E:XK}:¬BP 0 vs H Q E:=by
 rintro⟨st,sz,a,b,m,n,number,out,_,_,_,_,_,_,h,_⟩;cases h
theorem PV:∀(a:Fin 5)(n:Fin 8),0<a.val->(∀p∈As (n.val:Int) ((a.val:Int)-1).toNat,1<=p/\p<=a.val)/\(As (n.val:Int) ((a.val:Int)-1).toNat).length<=4:=by decide +kernel
theorem DW{a:Int}{n:Nat}(a1:1<=a)(a4:a<=4)(n7:n<=7):(∀p∈As (n:Int) (a-1).toNat,1<=p/\p<=a)/\(As (n:Int) (a-1).toNat).length<=4:=by
 have:=PV ⟨a.toNat,by lia⟩ ⟨n,by lia⟩ (by show 0<a.toNat;lia);rw[show((a.toNat:Nat):Int)=a by lia]at this;exact this
theorem Fp:Ak mi mi (Ah EK):=fsk
theorem Mo{f:jd}{fd:jr}{k:Nat}(F:Fun K "strip_by" "strip_by" EK f fd)(fY:Aq P w K mg ja 1 "all_lines" lX Fx)(fV:Aq P w K mg ja 1 "parts_between" me CV)(gz:Aq P w K mg ja (2*k+4) "row_by" mw (DE k)):A3 P w K mg ja CX0 (2*k+5) f fd mi (BP (k+1)):=by
 have S:=Fp;refine F.g S ?_;rintro vs H Q E ⟨st,sz,a,b,m,n,number,out,rfl,hsz,m4,⟨a1,am,b1,bm⟩,sa,n7,hs,few,q⟩;refine⟨rfl,λ cdv A i6 s hr=>?_⟩;rw[BO]at hs;refine⟨_,(Ab (AK (A4 op_eq Ar Ac) (Af (Am (B8 (Aj (AB (Aa Ac (Aa Ac (Aa (Ax Aw Al Ac) (Aj (Ax Aw Al Ac)))))))))) A1)
  (Af (Am (Ao gz hr (Aa Ai (Aa (Ao fV hr (Aa Ar (Aj (Ax Aw Al Ac))) (by lia)) (Aa (Ax Aw Al Ac) (Aa (Ao fY hr (Aj (Ax Aw Al Ac)) (by lia)) (Aj Az))))) (by lia))))),?_⟩
 refine⟨_,rfl,rfl,_,rfl,?_⟩;by_cases c:n=0
 .rw[jo c]at hs;cases hs;refine Cn (jn (by rw[c];rfl)) ?_;refine⟨_,rfl,sz,_,_,_,rfl,rfl,SqT.of hsz,FP,_,rfl,sz,_,_,_,rfl,rfl,SqT.of hsz,FQ,A8 4,λ t nt=>?_⟩;obtain⟨H1,e,s1,e1⟩:=nw (.tup (HH (0,0,b,a))) nt;have e:upd H t (.tup [.int 0,.int 0,.int b,.int a])=H1:=e;rw[e];clear e;refine⟨A8 1,λ l nl=>q l _ (s1.trans (Same.new nl)) (Kk s1 nl) ⟨[(t,(0,0,b,a))],Ae,λ u hu=>?_,rfl⟩⟩;rw[af.mp hu];exact(Same.new nl) _ _ e1
 .rw[jj c]at hs;refine Bt (js (λ z=>c (by have:=V.int.inj z;lia))) ?_;have pl:=DW (n:=n) a1 (by lia) n7;refine⟨_,rfl,_,rfl,_,rfl,sz,_,_,_,rfl,rfl,SqT.of hsz,FQ,(n:Int),a,rfl,a1,by lia,λ lp H1 s1 n1 h1=>?_⟩;refine⟨_,rfl,sz,_,_,_,rfl,rfl,SqT.of (s1 _ _ hsz),FP,_,rfl,sz,_,_,_,rfl,rfl,SqT.of (s1 _ _ hsz),FP,b,rfl,b1,by lia,_,rfl,?_⟩;exact⟨st,lp,_,b,m,BC b,number,out,rfl,h1,m4,λ p hp=>⟨b1,bm,(pl.1 p hp).1,by have:=(pl.1 p hp).2;lia⟩,sa.same s1,pl.2,hs,few,λ l' H2 s2 n2 pn=>q l' H2 (s1.trans s2) (Kk s1 n2) pn⟩
noncomputable def CF(d:BL):Int:=(d.map (·.2)).sum
theorem Lx(d:BL):(kvB d).map (·.2)=(d.map (·.2)).map V.int:=by unfold kvB;rw[aB,aB];rfl
noncomputable def No(w h:Int):Nat->Nat->Int->Option (Nat×Int)
 |0,_,_=>none
 |k+1,n,number=>if n<=7 then (if CF (Au (As n (w-1).toNat) h)<=number then No w h k (n+1) (number-CF (Au (As n (w-1).toNat) h)) else some (n,number)) else none
noncomputable def Li(w h number:Int):Option (List P4):=(No w h 9 0 number).bind λ x=>JA (BO 9) h (As x.1 (w-1).toNat) 0 x.2 0
inductive GO(vs:LUz)(H:Hp)(Q:VK)(E:XK):Prop
 |mk (st:jd) (ww hh m number:Int) (out:List P4) (h0:vs=[.ref st,.int ww,.int hh,.int number]) (h1:m<=4) (h2:InM m ww hh) (h3:StAt H st (InM m)) (h4:Li ww hh number=some out) (h5:out.length<=100) (h6:∀l H',Same H H'->H l=none->PnL H' l out->Q (.ref l) H'):GO vs H Q E
noncomputable def HU:Sp:=λ vs H Q E=>GO vs H Q E
theorem Wu:∀a:Fin 5,0<a.val->As 0 ((a.val:Int)-1).toNat=[(a.val:Int)]:=by decide +kernel
theorem Vc{a:Int}(a1:1<=a)(a4:a<=4):As ((0:Nat):Int) (a-1).toNat=[a]:=by
 have:=Wu ⟨a.toNat,by lia⟩ (by show 0<a.toNat;lia);rw[show((a.toNat:Nat):Int)=a by lia]at this;exact this
noncomputable abbrev QF:LSz:=["strips","width","height","number","lines","many"]
theorem Mq{f:jd}{fd:jr}(F:Fun K "panes_by" "panes_by" EM f fd)(T:Txt mg tk)(fV:Aq P w K mg ja 1 "parts_between" me CV)(fX:Aq P w K mg ja 2 "rows_by_lines" mh Ct)(gz:Aq P w K mg ja 22 "row_by" mw (DE 9)):A3 P w K mg ja CX0 23 f fd m8 HU:=by
 have S:Ak QF m8 (Ah EM):=fsk;refine F.g S ?_;rintro vs H Q E ⟨st,ww,hh,m,number,out,rfl,m4,⟨w1,wm,h1,hm⟩,sa,hp,few,q⟩;refine⟨rfl,λ cdv A i6 s hr=>?_⟩;obtain⟨⟨n,num⟩,hn,hrow⟩:=cI.mp hp;have sr:∀{H':Hp}{ps:List Int},Same H H'->(∀p∈ps,1<=p/\p<=ww)->StAt H' st (λ a b=>a=hh/\b∈ps):=λ s' hps=>by
  obtain⟨kvs,hst,hs⟩:=sa;exact⟨kvs,s' _ _ hst,λ a b ⟨ea,hb⟩=>by
   rw[ea];obtain⟨sd,v1,v2⟩:=hs hh b ⟨h1,hm,(hps b hb).1,by have:=(hps b hb).2;lia⟩;exact⟨sd,v1,s' _ _ v2⟩⟩
 refine⟨_,(Ab (Av 4 S.nd Ac)
  (Ab (Av 5 S.nd (AL G3 T.z_sum (Aj (EV ci cH dj Fa (Ao fX hr (Aa Ai (Aa (B8 (Aj Al)) (Aj Ar))))))))
  (Ab (Ij PassesOwn.never (A4 Co B0 Az) (Ab (C7 (i:=3) S.nd rfl (bN rfl) B0 NR)
  (Ab (C7 (i:=4) S.nd rfl (bN rfl) Ac Dv)
  (Af (Av 5 S.nd (AL G3 T.z_sum (Aj (EV ci cH dj Fa (Ao fX hr (Aa Ai (Aa (Ao fV hr (Aa AG (Aj Al))) (Aj Ar))))))))))))
  (Af (Am (Ao gz hr (Aa Ai (Aa (Ao fV hr (Aa AG (Aj Al))) (Aa Ar (Aa Ac (Aj Az))))))))))),?_⟩
 refine⟨_,rfl,_,rfl,A8 1,λ l0 n0=>?_⟩;refine nv n0 λ H0 s0 e0=>?_;refine⟨_,rfl,st,l0,[ww],hh,rfl,h1,by lia,e0,λ p hp=>by rw[af.mp hp];exact⟨w1,by lia⟩,sr s0 (λ p hp=>by rw[af.mp hp];exact⟨w1,a9 _⟩),λ d1 H1 s1 n1 hd1=>⟨.inr (.inr (.inl ⟨rfl,.inl ⟨_,hd1⟩⟩)),d1,_,rfl,rfl,hd1,λ v nvw=>?_⟩⟩;refine nv nvw λ H2 s2 e2=>?_;have s02:=s0.trans (s1.trans s2);refine⟨v,d1,_,_,rfl,e2,s2 _ _ hd1,Lx _,rfl,?_⟩;refine⟨λ c σ H'=>∃(j:Nat)(nm:Int),σ=[some (.ref st),some (.int ww),some (.int hh),some (.int nm),some (.int j),some (.int (CF (Au (As j (ww-1).toNat) hh)))]/\Same H H'/\No ww hh c j nm=some (n,num),⟨9,0,number,by rw[Vc w1 (by lia)];rfl,s02,hn⟩,?_⟩;rintro c σ H3 ⟨j,nm,rfl,s3,hj⟩;cases c with
 |zero=>cases hj
 |succ c =>
  rw[No]at hj;split at hj
  case isFalse=>cases hj
  rename_i j7;refine⟨_,rfl,_,rfl,_,_,rfl,rfl,_,rfl,?_⟩;by_cases hc:CF (Au (As j (ww-1).toNat) hh)<=nm
  .rw[jo hc]at hj;have j8:j+1<=7:=by
    cases c with
    |zero=>cases hj
    |succ c =>
     rw[No]at hj;split at hj
     .assumption
     .cases hj
   have pl:=DW (n:=j+1) w1 (by lia) j8;refine Cn (jn hc) ⟨_,λ σ' H' h=>⟨c,br c,h⟩,_,rfl,_,rfl,_,_,rfl,rfl,_,rfl,_,_,rfl,rfl,_,rfl,_,rfl,_,rfl,((j+1:Nat):Int),ww,rfl,w1,by lia,λ lp H4 s4 n4 h4=>⟨_,rfl,st,lp,_,hh,rfl,h1,by lia,h4,λ p hp=>⟨(pl.1 p hp).1,by have:=(pl.1 p hp).2;lia⟩,sr (s3.trans s4) pl.1,λ d5 H5 s5 n5 h5=>⟨.inr (.inr (.inl ⟨rfl,.inl ⟨_,h5⟩⟩)),d5,_,rfl,rfl,h5,λ v nvw=>?_⟩⟩⟩;refine nv nvw λ H6 s6 e6=>?_;exact⟨v,d5,_,_,rfl,e6,s6 _ _ h5,Lx _,rfl,j+1,_,rfl,s3.trans (s4.trans (s5.trans s6)),hj⟩
  .rw[jj hc]at hj;cases hj;refine Bt (js hc) ?_;have pl:=DW (n:=n) w1 (by lia) j7;refine⟨_,rfl,_,rfl,_,rfl,(n:Int),ww,rfl,w1,by lia,λ lp H4 s4 n4 h4=>⟨_,rfl,_,rfl,st,lp,_,hh,m,0,num,out,rfl,h4,m4,λ p hp=>⟨h1,hm,(pl.1 p hp).1,by have:=(pl.1 p hp).2;lia⟩,sa.same (s3.trans s4),pl.2,hrow,few,λ l' H5 s5 n5 pn=>q l' H5 (s3.trans (s4.trans s5)) (Kk (s3.trans s4) n5) pn⟩⟩
noncomputable abbrev rk(q:P4):Rk:=⟨q.1,q.2.1,q.2.2.1,q.2.2.2⟩
noncomputable def Bs(ps:List P4)(len i7:Int):Int:=((lns (ps.map rk) ⟨0,0,i7,len⟩ true).map λ l=>1*2^(l-1).toNat).sum
inductive GR(vs:LUz)(H:Hp)(Q:VK)(E:XK):Prop
 |mk (l:jd) (ps:List P4) (len i7:Int) (h0:vs=[.ref l,.int len,.int i7]) (h1:PnL H l ps) (h2:ps.length<=100) (h3:1<=len) (h4:len<=4) (h5:1<=i7) (h6:i7<=4) (h7:∀H',Same H H'->Q (.int (Bs ps len i7)) H'):GR vs H Q E
noncomputable def EG:Sp:=λ vs H Q E=>GR vs H Q E
theorem T9{rs:List Rk}{i7 len:Int}(h:len<=12):(lns rs ⟨0,0,i7,len⟩ true).length<=12:=by
 unfold lns;refine aV (M9 _) ?_;show(len-(0+1)).toNat<=12;lia
theorem Ms{f:jd}{fd:jr}(F:Fun K "lines_of" "lines_of" EO f fd)(T:Txt mg tk)(gf:Aq P w K mg ja 3 "lines_through" mz Nv):A3 P w K mg ja CX0 4 f fd mC EG:=by
 have S:Ak mC mC (Ah EO):=fsk;refine F.g S ?_;rintro vs H Q E ⟨l,ps,len,i7,rfl,⟨ts,p1,p2,p3⟩,few,l1,l4,t1,t4,q⟩;refine⟨rfl,λ cdv A i6 s hr=>?_⟩;have tl:=congrArg List.length p3;rw[aa]at tl;refine⟨_,(Af (Am (AL Jk T.z_sum (Aj (Bi rfl (A6 (Ao gf hr (Aa (AB (Aa Ac (Aa Ac (Aa Ar (Aj Al))))) (Aa Ai (Aj (AF (v:=.int 1) rfl T.gC ⟨_,rfl⟩)))))) (λ_ _ _ _ _=>pgk (nk ["line"])) (λ_ _ _ _ _=>(Ap NA Ac (Ap Cl Ai Ac))) (N:=["line"]) (fr:=[none])))))),?_⟩;refine⟨_,rfl,_,rfl,A8 4,λ b nb=>?_⟩;refine nv nb λ H0 s0 e0=>?_;have rr:A9 (ts.map λ t=>(t.1,rk t.2))=A9 ts:=by rw[A9,A9,aB];rfl
 have rc:rcs (ts.map λ t=>(t.1,rk t.2))=ps.map rk:=by rw[rcs,aB,<-p3,aB];rfl
 have ok:Rk.ok ⟨0,0,i7,len⟩:=⟨by show(0:Int)<i7;lia,by show(0:Int)<len;lia⟩;refine⟨_,rfl,b,l,⟨0,0,i7,len⟩,ts.map λ t=>(t.1,rk t.2),true,rfl,e0,by rw[rr];exact s0 _ _ p1,λ t ht=>?_,by rw[aa];lia,ok,λ u=>by cases u;exact⟨a9 _,by show i7<=12;lia⟩;exact⟨a9 _,by show len<=12;lia⟩,λ c H1 s1 h1=>?_⟩
 .obtain⟨u,hu,rfl⟩:=ao.mp ht;exact s0 _ _ (p2 u hu)
 rw[rc]at h1;have ml:∀a∈lns (ps.map rk) ⟨0,0,i7,len⟩ true,0<a/\a<4:=λ a ha=>by
  have:=(Hq ok).mp ha;exact⟨this.1,by have h2:a<len:=this.2.1;lia⟩
 have s01:=s0.trans s1;have ll:(lns (ps.map rk) ⟨0,0,i7,len⟩ true).length<=12:=T9 (by show len<=12;lia);have q':∀H',Same H H'->Q (.int ((lns (ps.map rk) ⟨0,0,i7,len⟩ true).map λ l=>1*2^(l-1).toNat).sum) H':=q;generalize lns (ps.map rk) ⟨0,0,i7,len⟩ true=ls at h1 ml ll q';refine⟨c,rfl,⟨_,SqL.of h1⟩,λ acc jb=>Be (K:=K) (a:=c) (ys:=ls.map V.int) (λ i zs σ H'=>(∃x,σ=[x])/\Same H1 H'/\zs=((ls.take i).map λ l=>(1*2^(l-1).toNat:Int)).map V.int) ⟨⟨_,rfl⟩,Same.new jb,rfl⟩ (λ i zs σ H' _ _ hp=>SqL.of (hp.2.1 _ _ h1)) ?_ ?_⟩
 .rintro i v zs σ H2 hv hi hz ha2 ⟨⟨x,rfl⟩,s2,rfl⟩;obtain⟨a,ha,rfl⟩:=ints_get hv;have am:=ml a (aA ha);refine⟨_,rfl,_,_,rfl,rfl,_,_,rfl,rfl,⟨by lia,by lia,by decide⟩,cNx.mk (aN (An (by rw[aa];lia))) hi hz ha2 ⟨⟨_,rfl⟩,λ x o e=>?_,?_⟩⟩
  .rw[Ad (Ag e jb)];exact s2 _ _ e
  .rw[aS,ha,ai,ai];rfl
 .rintro zs σ H2 hz ha2 ⟨_,s2,rfl⟩;rw[aa,aM]at ha2;exact⟨acc,_,rfl,SqL.of ha2,rfl,q' H2 (s01.trans s2)⟩
noncomputable def atF(ps:List P4)(b p:Int):List P4:=(ps.filter λ q=>decide (b<=q.2.1)&&decide (q.2.1<b+p)).map λ q=>(q.2.1-b,q.1,q.2.2.2-b,q.2.2.1)
inductive GL(vs:LUz)(H:Hp)(Q:VK)(E:XK):Prop
 |mk (l:jd) (ps:List P4) (b p:Int) (h0:vs=[.ref l,.int b,.int p]) (h1:PnL H l ps) (h2:ps.length<=100) (h3:∀l' H',Same H H'->H l'=none->PnL H' l' (atF ps b p)->Q (.ref l') H'):GL vs H Q E
noncomputable def HQ:Sp:=λ vs H Q E=>GL vs H Q E
theorem Mp{f:jd}{fd:jr}(F:Fun K "strip_at" "strip_at" EL f fd)(T:Txt mg tk):A3 P w K mg ja CX0 1 f fd ng HQ:=by
 have S:Ak ["panes","begin","part","inner"] ng (Ah EL):=fsk;refine F.g S ?_;rintro vs H Q E ⟨l,ps,b,p,rfl,⟨ts,p1,p2,p3⟩,few,q⟩;refine⟨rfl,λ cdv A i6 s hr=>?_⟩;have tl:=congrArg List.length p3;rw[aa]at tl;refine⟨_,(Ab (DS rfl (AW 3 S.nd) (A6 Ai) (λ_ _ _ _ _=>pgk (nk ["pane","begin","part"])) (λ_ _ _ _ _=>(Ii Co D4 Al (Ax (B5 (K:=K)) Ai (AF (v:=.int 1) rfl T.gC ⟨_,rfl⟩)) (Ap AC Al Ar))) (λ_ _ _ _ _=>Ai) (N:=["pane","begin","part"]) (fr:=[none,some 1,some 2]))
  (Af (Am (Bi rfl (A6 Az) (λ_ _ _ _ _=>(Hl (K:=K) (n:=4) rfl (A2 (AR (i:=0) (nk lY) rfl (bN rfl)) (A2 (AR (i:=1) (nk lY) rfl (bN rfl)) (A2 (AR (i:=2) (nk lY) rfl (bN rfl)) (A2 (AR (i:=3) (nk lY) rfl (bN rfl)) Bx)))))) (λ_ _ _ _ _=>(AB (Aa (Ap Cl Al AG) (Aa Ai (Aa (Ap Cl Az AG) (Aj Ar)))))) (N:=lY) (fr:=[none,none,none,none,some 1]))))),?_⟩
 refine⟨_,rfl,l,rfl,⟨_,SqL.of p1⟩,λ acc jb=>Fm (K:=K) (a:=l) (ys:=A9 ts) (λ i zs σ H'=>(∃x,σ=[x,some (.int b),some (.int p)])/\Same H H'/\∃us:List (jd×P4),zs=A9 us/\(∀t∈us,H' t.1=some (.tup (HH t.2)))/\us.map (·.2)=(ps.take i).filter λ q=>decide (b<=q.2.1)&&decide (q.2.1<b+p)) ⟨⟨_,rfl⟩,Same.new jb,[],rfl,(λ t ht=>nomatch ht),rfl⟩ (λ i zs σ H' _ _ hp=>SqL.of (hp.2.1 _ _ p1)) ?_ ?_⟩
 .rintro i v zs σ H1 hv hi hz ha1 ⟨⟨x,rfl⟩,s1,us,rfl,u2,u3⟩;obtain⟨u,hu',rfl⟩:=BF hv;have u1:H1 u.1=some (.tup [.int u.2.1,.int u.2.2.1,.int u.2.2.2.1,.int u.2.2.2.2]):=s1 _ _ (p2 u (aA hu'));have hp:ps[i]?=some u.2:=by rw[<-p3,aE,hu'];rfl
  have tk:ps.take (i+1)=ps.take i++[u.2]:=by rw[aS,hp];rfl
  have kp:∀{x:jd}{xs o:LUz},H1 x=some (.tup xs)->(upd H1 acc (.lst o)) x=some (.tup xs):=λ h=>by rw[Ad (Bp h ha1 (by intro z;cases z))];exact h
  have no:(decide (b<=u.2.2.1)&&decide (u.2.2.1<b+p))=false->us.map (·.2)=(ps.take (i+1)).filter λ q=>decide (b<=q.2.1)&&decide (q.2.1<b+p):=λ z=>by
   rw[tk,bC,u3,fE (by rw[z];decide),eZ,aR]
  refine⟨_,rfl,_,rfl,u.1,_,_,_,rfl,rfl,SqT.of u1,at1,_,_,rfl,rfl,_,rfl,?_⟩;by_cases c1:b<=u.2.2.1
  .refine Cn (jn c1) ⟨_,rfl,_,rfl,_,_,rfl,rfl,_,_,rfl,rfl,_,rfl,?_⟩;by_cases c2:u.2.2.1<b+p
   .rw[jn c2];refine⟨_,rfl,fNx.mk (aN (An (by rw[AU];lia))) hi hz ha1 ⟨⟨_,rfl⟩,λ x o e=>by rw[Ad (Ag e jb)];exact s1 _ _ e,us++[u],by rw[A9,A9,ai];rfl,λ t ht=>?_,?_⟩⟩
    .rcases az.mp ht with ht|ht
     .exact kp (u2 t ht)
     .rw[af.mp ht];exact kp u1
    .rw[tk,bC,ai,u3,fD (by rw[jn c1,jn c2];rfl)];rfl
   .rw[js c2];exact fSk.mk hi hz ha1 ⟨⟨_,rfl⟩,s1,us,rfl,u2,no (by rw[js c2,bX])⟩
  .refine Bt (js c1) ⟨_,rfl,?_⟩;exact fSk.mk hi hz ha1 ⟨⟨_,rfl⟩,s1,us,rfl,u2,no (by rw[js c1];rfl)⟩
 .rintro zs σ H1 hz ha1 ⟨⟨x,rfl⟩,s1,us,rfl,u2,u3⟩;rw[AU,tl,aM]at u3;have ul:=bY (λ q:P4=>decide (b<=q.2.1)&&decide (q.2.1<b+p)) ps;have ul2:=congrArg List.length u3;rw[aa]at ul2;refine⟨_,rfl,acc,rfl,⟨_,SqL.of ha1⟩,λ acc2 hacc2=>Be (K:=K) (a:=acc) (ys:=A9 us) (λ i zs σ H'=>(∃x0 x1 x2 x3,σ=[x0,x1,x2,x3,some (.int b)])/\Same H1 H'/\∃ws:List (jd×P4),zs=A9 ws/\(∀t∈ws,H' t.1=some (.tup (HH t.2)))/\ws.map (·.2)=(atF ps b p).take i) ⟨⟨_,_,_,_,rfl⟩,Same.new hacc2,[],rfl,(λ t ht=>nomatch ht),rfl⟩ (λ i zs σ H' _ _ hp=>SqL.of (hp.2.1 _ _ ha1)) ?_ ?_⟩
  .rintro i v zs σ H6 hv hi hz ha6 ⟨⟨x0,x1,x2,x3,rfl⟩,s6,ws,rfl,w2,w3⟩;obtain⟨u,hu',rfl⟩:=BF hv;have u6:H6 u.1=some (.tup [.int u.2.1,.int u.2.2.1,.int u.2.2.2.1,.int u.2.2.2.2]):=s6 _ _ (u2 u (aA hu'));refine⟨u.1,_,rfl,SqT.of u6,rfl,_,_,rfl,_,_,rfl,_,_,rfl,_,_,rfl,rfl,_,rfl,_,rfl,_,_,rfl,rfl,_,rfl,_,rfl,_,rfl,_,_,rfl,rfl,_,rfl,A8 4,λ t7 n7=>?_⟩;obtain⟨H7,e,s7,e7⟩:=nw (.tup (HH (u.2.2.1-b,u.2.1,u.2.2.2.2-b,u.2.2.2.1))) n7;have e:upd H6 t7 (.tup [.int (u.2.2.1-b),.int u.2.1,.int (u.2.2.2.2-b),.int u.2.2.2.1])=H7:=e;rw[e];clear e;have ha7:=s7 _ _ ha6;have kp:∀{x:jd}{xs o:LUz},H7 x=some (.tup xs)->(upd H7 acc2 (.lst o)) x=some (.tup xs):=λ h=>by rw[Ad (Bp h ha7 (by intro z;cases z))];exact h
   have hp:(ps.filter λ q=>decide (b<=q.2.1)&&decide (q.2.1<b+p))[i]?=some u.2:=by rw[<-u3,aE,hu'];rfl
   refine cNx.mk (aN (An (by rw[AU];lia))) hi hz ha7 ⟨⟨_,_,_,_,rfl⟩,λ x o e=>?_,ws++[(t7,(u.2.2.1-b,u.2.1,u.2.2.2.2-b,u.2.2.2.1))],by rw[A9,A9,ai];rfl,λ t ht=>?_,?_⟩
   .rw[Ad (Ag e hacc2)];exact s7 _ _ (s6 _ _ e)
   .rcases az.mp ht with ht|ht
    .exact kp (s7 _ _ (w2 t ht))
    .rw[af.mp ht];exact kp e7
   .rw[ai,w3,aS];unfold atF;rw[aE,hp];rfl
  .rintro zs σ H6 hz ha6 ⟨_,s6,ws,rfl,w2,w3⟩;have al:(atF ps b p).length=us.length:=by unfold atF;rw[aa];exact ul2.symm
   rw[AU,<-al,aM]at w3;exact q acc2 H6 (s1.trans s6) (Kk s1 hacc2) ⟨ws,ha6,w2,w3⟩
noncomputable def JH(ns:List P4->Int->Int->Nat->Option Int)(i7:Int)(ps:List P4):List Int->Int->Int->Option Int
 |[],_,_=>some 0
 |p::rest,i8,b =>
  if 0<=Bs (atF ps b p) i7 p/\(Bs (atF ps b p) i7 p).toNat<(A0 i7 p).length then
   (ns (atF ps b p) i7 p (Bs (atF ps b p) i7 p).toNat).bind λ x =>
    if 0<=x/\x<=1000000000 then (JH ns i7 ps rest (Builtin.bitAnd i8 (Bs (atF ps b p) i7 p)) (b+p)).map λ y=>AD (A0 i7 p) (Au rest i7) i8 (Bs (atF ps b p) i7 p).toNat+x*Ay (Au rest i7) (Builtin.bitAnd i8 (Bs (atF ps b p) i7 p))+y
    else none
  else none
noncomputable def He:Nat->List P4->Int->Int->Nat->Option Int
 |0,_,_,_,_=>none
 |k+1,ps,a,b,n=>if n=0 then some 0 else JH (He k) b ps (As n (a-1).toNat) (BC b) 0
inductive GQ(k:Nat)(vs:LUz)(H:Hp)(Q:VK)(E:XK):Prop
 |mk (st l sz:jd) (ps:List P4) (a b m:Int) (n:Nat) (out:Int) (h0:vs=[.ref st,.ref l,.ref sz,.int n]) (h1:PnL H l ps) (h2:ps.length<=100) (h3:H sz=some (.tup [.int a,.int b])) (h4:m<=4) (h5:InM m a b) (h6:StAt H st (InM m)) (h7:n<=7) (h8:He k ps a b n=some out) (h9:∀H',Same H H'->Q (.int out) H'):GQ k vs H Q E
noncomputable def BQ(k:Nat) :Sp:=λ vs H Q E=>GQ k vs H Q E
inductive KG(k:Nat)(vs:LUz)(H:Hp)(Q:VK)(E:XK):Prop
 |mk (st l lp:jd) (ps:List P4) (parts:List Int) (i7 m i8 out:Int) (h0:vs=[.ref st,.ref l,.ref lp,.int i7,.int i8]) (h1:PnL H l ps) (h2:ps.length<=100) (h3:H lp=some (.lst (parts.map V.int))) (h4:m<=4) (h5:(∀p∈parts,InM m i7 p)) (h6:StAt H st (InM m)) (h7:parts.length<=4) (h8:JH (He k) i7 ps parts i8 0=some out) (h9:∀H',Same H H'->Q (.int out) H'):KG k vs H Q E
noncomputable def DG(k:Nat) :Sp:=λ vs H Q E=>KG k vs H Q E
theorem VA(ps:List P4)(b p:Int):(atF ps b p).length<=ps.length:=by unfold atF;rw[aa];exact bY _ _
noncomputable abbrev Pp:LSz:=["strips","panes","parts","thick","common","number","begin","place","part","later","strip","lines"]
theorem FA{f:jd}{fd:jr}{k:Nat}(F:Fun K "number_in_rows" "number_in_rows" Bb f fd)(T:Txt mg tk)(fX:Aq P w K mg ja 2 "rows_by_lines" mh Ct)(ib:Aq P w K mg ja 1 "strip_at" ng HQ)(gm:Aq P w K mg ja 4 "lines_of" mC EG)(gg:Aq P w K mg ja 2 "rows_before" mL FY)(f6:Aq P w K mg ja 1 "rows_without" mf Cv)(iN:Aq P w K mg ja (2*k+5) "number_in_strips" mj (BQ k)):A3 P w K mg ja CX0 (2*k+6) f fd mx (DG k):=by
 have S:Ak Pp mx (Ah Bb):=fsk;refine F.g S ?_;rintro vs H Q E ⟨st,l,lp,ps,parts,i7,m,i8,out,rfl,pn,few,hl,m4,pm,sa,p4,hnum,q⟩;refine⟨rfl,λ cdv A i6 s hr=>?_⟩;have hu:=Ea hr;obtain⟨tB,hB,kB⟩:∃rd,PSs (B3 CX0 P w K mg ja Pp "number_in_rows" (Ah Bb) f cdv A i6 s H E).nox (L7 (nth (A7 Bb) 2)) rd/\∀(i:Nat)(i8 number b p y:Int)(rest:List Int)(w9 w10 w11:Option V)(D:DA)(H1:Hp),Same H H1->parts[i]?=some p->parts.drop (i+1)=rest->JH (He k) i7 ps (p::rest) i8 b=some y ->
   (∀i8 number' y' w9 w10 w11 H',Same H H'->JH (He k) i7 ps rest i8 (b+p)=some y'->number'+y'=number+y->D.nx [some (.ref st),some (.ref l),some (.ref lp),some (.int i7),some (.int i8),some (.int number'),some (.int (b+p)),some (.int i),some (.int p),w9,w10,w11] H') ->
   rd D [some (.ref st),some (.ref l),some (.ref lp),some (.int i7),some (.int i8),some (.int number),some (.int b),some (.int i),some (.int p),w9,w10,w11] H1:=by
  refine⟨_,(Ab (Av 9 S.nd (Ao fX hr (Aa Ai (Aa (DU Fz Ar (F3 (Ap AC (pv 7) Ac)) F4) (Aj Az))) (by lia)))
  (Ab (Av 10 S.nd (Ao ib hr (Aa Al (Aa (pv 6) (Aj (pv 8)))) (by lia)))
  (Ab (Av 11 S.nd (Ao gm hr (Aa (pv 10) (Aa Az (Aj (pv 8)))) (by lia)))
  (Ab (C7 (i:=5) S.nd rfl (bN rfl) (Ao gg hr (Aa (Dp hu Ai (AB (Aa Az (Aj (pv 8))))) (Aa (pv 9) (Aa AG (Aj (pv 11))))) (by lia)) Dv)
  (Ab (Av 4 S.nd (Ap Gh AG (pv 11)))
  (Ab (C7 (i:=5) S.nd rfl (bN rfl) (Ap Cr (Ao iN hr (Aa Ai (Aa (pv 10) (Aa (AB (Aa Az (Aj (pv 8)))) (Aj (pv 11))))) (by lia)) (Ao f6 hr (Aa (pv 9) (Aj AG)) (by lia))) Dv)
  (Af (C7 (i:=6) S.nd rfl (bN rfl) (pv 8) Dv)))))))),?_⟩
  intro i i8 number b p y rest w9 w10 w11 D H1 s1 hp hd hnum qq;have ip:=pm p (aA hp);rw[JH]at hnum;split at hnum
  case isFalse=>cases hnum
  rename_i hl0;obtain⟨x,hx,hnum⟩:=cI.mp hnum;split at hnum
  case isFalse=>cases hnum
  rename_i hxs;obtain⟨y',hy',rfl⟩:=ba.mp hnum;have pr:∀x∈rest,x∈parts:=λ x hx=>fQ (by rw[hd];exact hx);obtain⟨kvs,hst,hs⟩:=id sa;obtain⟨sd,v1,v2⟩:=hs i7 p ip;have t4:i7<=4:=by have:=ip.2.1;lia
  have q4:p<=4:=by have:=ip.2.2.2;lia
  have r8:=(Eo ip.1 t4 rest).len;have n8:=(BX i7 p).2;refine⟨_,rfl,_,rfl,_,rfl,_,_,rfl,rfl,_,rfl,lp,_,rfl,SqL.of (s1 _ _ hl),λ lr nlr=>?_⟩;rw[MO,hd];refine nv nlr λ H2 s2 e2=>?_;have s02:=s1.trans s2;refine⟨_,rfl,st,lr,rest,i7,rfl,ip.1,t4,e2,λ x hx=>⟨(pm x (pr x hx)).2.2.1,by have:=(pm x (pr x hx)).2.2.2;lia⟩,⟨kvs,s02 _ _ hst,λ a c ⟨ea,hc⟩=>?_⟩,λ la H3 s3 n3 h3=>?_⟩
  .rw[ea];obtain⟨sd,v1,v2⟩:=hs i7 c (pm c (pr c hc));exact⟨sd,v1,s02 _ _ v2⟩
  have s03:=s02.trans s3;refine⟨_,rfl,_,rfl,_,rfl,l,ps,b,p,rfl,pn.same s03,few,λ ls H4 s4 n4 pn4=>?_⟩;have s04:=s03.trans s4;have fa:(atF ps b p).length<=100:=aV (VA ps b p) few;refine⟨_,rfl,_,rfl,_,rfl,ls,atF ps b p,i7,p,rfl,pn4,fa,ip.1,t4,ip.2.2.1,q4,λ H5 s5=>?_⟩;have s05:=s04.trans s5;obtain⟨n,hn⟩:∃n:Nat,Bs (atF ps b p) i7 p=(n:Int):=⟨_,(bF hl0.1).symm⟩;rw[hn]at hl0 hx hy' qq |-;rw[bR]at hl0 hx qq;refine⟨_,rfl,_,rfl,_,rfl,_,rfl,A8 2,λ t nt=>?_⟩;refine nv nt λ H6 s6 e6=>?_;have s06:=s05.trans s6;have s36:=s4.trans (s5.trans s6);have dg:DGet H6 st (.ref t) (some (.ref sd)):=by
   have:=DGet.t (H:=H6) (a:=st) (b:=t) (k:=[Sum.inl i7,Sum.inl p]) (s06 _ _ hst) e6;rw[v1]at this;exact this
  refine⟨st,_,rfl,dg,_,rfl,_,rfl,_,rfl,sd,la,A0 i7 p,Au rest i7,i8,n,rfl,s06 _ _ v2,s36 _ _ h3,r8,by lia,(λ x hx=>FW (by lia)),λ H7 s7=>⟨_,_,rfl,rfl,_,rfl,_,rfl,_,_,rfl,rfl,?_⟩⟩;refine⟨_,rfl,_,rfl,_,rfl,_,rfl,_,rfl,A8 2,λ t2 nt2=>?_⟩;refine nv nt2 λ H8 s8 e8=>?_;have s08:=s06.trans (s7.trans s8);have s48:=s5.trans (s6.trans (s7.trans s8));refine⟨_,rfl,st,ls,t2,atF ps b p,i7,p,m,n,x,rfl,pn4.same s48,fa,e8,m4,ip,sa.same s08,by lia,hx,λ H9 s9=>⟨_,rfl,_,rfl,la,_,Builtin.bitAnd i8 n,rfl,(s4.trans (s48.trans s9)) _ _ h3,by lia,λ H10 s10=>⟨_,_,rfl,rfl,Ww hxs.1 hxs.2,_,_,rfl,rfl,_,rfl,_,rfl,_,_,rfl,rfl,?_⟩⟩⟩;refine qq _ _ y' _ _ _ H10 (s08.trans (s9.trans s10)) hy' ?_;show number+AD (A0 i7 p) (Au rest i7) i8 n+x*Ay (Au rest i7) (Builtin.bitAnd i8 n)+y'=_;lia
 refine⟨_,(Ab (Av 5 S.nd Ac)
  (Ab (Av 6 S.nd Ac)
  (Ab (AE PassesOwn.never rfl (Hk rfl T.z_enumerate (Aj Ar)) (CO rfl (A2 (AW 7 S.nd) (A2 (AW 8 S.nd) Bx))) hB)
  (Af (Am B0))))),?_⟩
 refine⟨_,rfl,lp,rfl,⟨_,SqL.of hl⟩,FF (K:=K) (a:=lp) (xs:=parts.map V.int) (λ i σ H'=>∃(i8 number b y:Int)(w7 w8 w9 w10 w11:Option V),σ=[some (.ref st),some (.ref l),some (.ref lp),some (.int i7),some (.int i8),some (.int number),some (.int b),w7,w8,w9,w10,w11]/\Same H H'/\JH (He k) i7 ps (parts.drop i) i8 b=some y/\number+y=out) ⟨i8,0,0,out,_,_,_,_,_,rfl,Same.refl _,hnum,cu _⟩ (λ i σ H' _ hp=>by obtain⟨_,_,_,_,_,_,_,_,_,_,s',_⟩:=hp;exact SqL.of (s' _ _ hl)) ?_ ?_⟩
 .rintro i v σ H1 t hv ⟨i8,number,b,y,w7,w8,w9,w10,w11,rfl,s1,hr1,ho⟩ nt;obtain⟨p,hp,rfl⟩:=ints_get hv;refine nv nt λ H2 s2 e2=>?_;have il:=(aF.mp hp).1;have dr:parts.drop i=p::parts.drop (i+1):=by rw[b5 il];rw[ag il]at hp;rw[Option.some.inj hp]
  rw[dr]at hr1;exact⟨t,_,rfl,SqT.of e2,rfl,_,_,rfl,_,_,rfl,rfl,kB i i8 number b p y _ _ _ _ _ H2 (s1.trans s2) hp rfl hr1 λ c' n' y' y9 y10 y11 H' s' hr' he=>⟨c',n',_,y',_,_,_,_,_,rfl,s',hr',by rw[he];exact ho⟩⟩
 .rintro σ H1 ⟨i8,number,b,y,w7,w8,w9,w10,w11,rfl,s1,hr1,ho⟩;rw[aa,bM]at hr1;cases hr1;rw[ce]at ho;exact⟨_,rfl,by rw[ho];exact q H1 s1⟩
theorem M0{vs:LUz}{H:Hp}{Q:VK}{E:XK}:¬BQ 0 vs H Q E:=by
 rintro⟨st,l,sz,ps,a,b,m,n,out,_,_,_,_,_,_,_,_,h,_⟩;cases h
theorem BB:Ak mj mj (Ah B6):=fsk
theorem Ew{f:jd}{fd:jr}{k:Nat}(F:Fun K "number_in_strips" "number_in_strips" B6 f fd)(fY:Aq P w K mg ja 1 "all_lines" lX Fx)(fV:Aq P w K mg ja 1 "parts_between" me CV)(gA:Aq P w K mg ja (2*k+6) "number_in_rows" mx (DG k)):A3 P w K mg ja CX0 (2*k+7) f fd mj (BQ (k+1)):=by
 have S:=BB;refine F.g S ?_;rintro vs H Q E ⟨st,l,sz,ps,a,b,m,n,out,rfl,pn,few,hsz,m4,⟨a1,am,b1,bm⟩,sa,n7,hs,q⟩;refine⟨rfl,λ cdv A i6 s hr=>?_⟩;rw[He]at hs;refine⟨_,(Ab (AK (A4 op_eq Az Ac) (Af (Am Ac)) A1)
  (Af (Am (Ao gA hr (Aa Ai (Aa Al (Aa (Ao fV hr (Aa Az (Aj (Ax Aw Ar Ac))) (by lia)) (Aa (Ax Aw Ar Ac) (Aj (Ao fY hr (Aj (Ax Aw Ar Ac)) (by lia))))))) (by lia))))),?_⟩
 refine⟨_,rfl,rfl,_,rfl,?_⟩;by_cases c:n=0
 .rw[jo c]at hs;cases hs;exact Cn (jn (by rw[c];rfl)) (q H (Same.refl _))
 .rw[jj c]at hs;refine Bt (js (λ z=>c (by have:=V.int.inj z;lia))) ?_;have pl:=DW (n:=n) a1 (by lia) n7;refine⟨_,rfl,_,rfl,_,rfl,_,rfl,sz,_,_,_,rfl,rfl,SqT.of hsz,FQ,(n:Int),a,rfl,a1,by lia,λ lp H1 s1 n1 h1=>?_⟩;refine⟨_,rfl,sz,_,_,_,rfl,rfl,SqT.of (s1 _ _ hsz),FP,_,rfl,sz,_,_,_,rfl,rfl,SqT.of (s1 _ _ hsz),FP,b,rfl,b1,by lia,?_⟩;exact⟨st,l,lp,ps,_,b,m,BC b,out,rfl,pn.same s1,few,h1,m4,λ p hp=>⟨b1,bm,(pl.1 p hp).1,by have:=(pl.1 p hp).2;lia⟩,sa.same s1,pl.2,hs,λ H2 s2=>q H2 (s1.trans s2)⟩
theorem DX{w h:Int}{ls ld:jd}:(IV w h ls ld).lookup ("panes":jD)=none:=Ub _ _ _ _ (by decide +kernel) (by decide +kernel) (by decide +kernel) (by decide +kernel)
noncomputable abbrev mks(ps:List Rc):List (Rk×Option Int):=ps.map λ r=>(r,none)
inductive Jt(tb3 C:jd)(vs:LUz)(H:Hp)(Q:VK)(E:XK):Prop
 |mk (a dx ls ld:jd) (w h:Int) (ts:List (jd×Rc)) (kvs:LKz) (t:Tr) (h0:vs=[.ref a]) (h1:PanelAt C H a w h ts dx ls ld kvs) (h2:TabOk GF FE tb3 H) (h3:BM ⟨0,0,h,w⟩ t) (h4:(mks (rcs ts)).Perm (AJ t ⟨0,0,h,w⟩)) (h5:∀v H',SameX tb3 H H'->TabOk GF FE tb3 H'->Q v H'):Jt tb3 C vs H Q E
noncomputable def JU(tb3 C:jd) :Sp:=λ vs H Q E=>Jt tb3 C vs H Q E
theorem ND{f tb3:jd}{fd:jr}(F:Fun K "tree_of" "tree_of" FZ f fd)(T:Txt mg tk)(PC:QE K C)(f7:SM P w K mg ja 1 C "panes" mm (Fv C))(ic:Aq P w K mg ja 8 "cut_up" lZ (HW tb3))(ie:Aq P w K mg ja 4 "tree_from" ["entries"] (La K cW cU cL)) :
  A3 P w K mg ja CX0 9 f fd my (JU tb3 C):=by
 have S:Ak ["panel","entries","word","number"] my (Ah FZ):=fsk;refine F.g S ?_;rintro vs H Q E ⟨a,dx,ls,ld,ww,hh,ts,kvs,tr,rfl,pn,tab,fit,pm,q⟩;refine⟨rfl,λ cdv A i6 s hr=>?_⟩;have gw:=pn.sw;have gh:=pn.sh;have few:=pn.few;refine⟨_,(Ab (Av 1 S.nd (Ao ic hr (Aa (AB (Aa Ac (Aa Ac (Aa (B9 Ai rfl) (Aj (B9 Ai rfl)))))) (Aj (Bi rfl (A6 (Io f7 hr Ai)) (λ_ _ _ _ _=>pgk (nk ["pane"])) (λ_ _ _ _ _=>(AB (Aa Ai (Aj Gd)))) (N:=["pane"]) (fr:=[none]))))))
  (Ab (AE PassesOwn.never rfl (A6 Al) (CO rfl (A2 (AW 2 S.nd) (A2 (AW 3 S.nd) Bx))) (Af (AK (A4 op_eq Ar (AF (v:=.str "room") rfl T.iB ⟨_,rfl⟩)) (Af CY) A1)))
  (Af (Am (Ao ie hr (Aj Al)))))),?_⟩
 refine⟨_,rfl,a,C,dx,_,_,rfl,pn.ob,PC.cl,PC.n_height,Fh _ _ _ _,_,rfl,a,C,dx,_,_,rfl,pn.ob,PC.cl,PC.n_width,Fg _ _ _ _,A8 4,λ ta hta=>?_⟩;refine nv hta λ H0 s0 e0=>?_;have pn0:=pn.same s0;refine⟨_,rfl,a,dx,_,rfl,pn0.ob,DX,a,dx,ls,ld,ww,hh,ts,kvs,rfl,pn0,λ l hl=>?_⟩;refine nv hl λ H1 s1 e1=>?_;have at1':=(pn0.same s1).ats;refine⟨l,rfl,⟨_,SqL.of e1⟩,λ acc jb=>Be (K:=K) (a:=l) (ys:=A9 ts) (λ i zs σ H'=>(∃y,σ=[y])/\Same H1 H'/\∃us:List PT,zs=pcs us/\PcO H' us/\cons us=(mks (rcs ts)).take i) ⟨⟨none,rfl⟩,Same.new jb,[],rfl,λ x hx=>(nomatch hx),rfl⟩ (λ i zs σ H' _ _ hp=>SqL.of (hp.2.1 _ _ e1)) ?_ ?_⟩
 .rintro i x zs σ H' hx hi hl' jb' ⟨⟨y,rfl⟩,hs,us,rfl,hus,em⟩;obtain⟨u,hu',rfl⟩:=BF hx;refine⟨_,rfl,A8 2,λ t ht=>?_⟩;have nat:acc≠t:=Ag jb' ht;refine nv ht λ H2 s2 e2=>?_;have ac2:=s2 _ _ jb';have rl:(A9 ts).length=ts.length:=aa _;have up:∀{b:jd}{vs:LUz}{o:LUz},H2 b=some (.tup vs)->(upd H2 acc (.lst o)) b=some (.tup vs):=λ h=>by rw[Ad (Bp h ac2 (by intro z;cases z))];exact h
  refine cNx.mk (aN (An (by lia))) hi hl' ac2 ⟨⟨_,rfl⟩,λ c o e=>?_,us++[(t,u.1,u.2,none)],by rw[R1],λ x hx=>?_,?_⟩
  .rw[Ad (Ag e jb)];exact(hs.trans s2) c o e
  .rcases az.mp hx with hx|hx
   .exact⟨up ((hus.same s2) x hx).1,up ((hus.same s2) x hx).2⟩
   .rw[af.mp hx];exact⟨up e2,up ((hs.trans s2) _ _ (at1' u (aA hu')))⟩
  .have:(mks (rcs ts))[i]?=some (u.2,none):=by rw[aE,aE,hu'];rfl
   rw[Q7,em,aS,this];rfl
 rintro zs σ H2 hzl ac2 ⟨_,s2,us,rfl,hus,em⟩;have rl:(A9 ts).length=(mks (rcs ts)).length:=by rw[aa,aa,aa]
 rw[rl,aM]at em;have ul:us.length=ts.length:=by
  have:=congrArg List.length em;rw[aa,aa,aa]at this;exact this
 have s02:=s0.trans (s1.trans s2);refine⟨ta,acc,⟨0,0,hh,ww⟩,us,tr,rfl,(s1.trans s2) _ _ e0,ac2,hus,by lia,⟨by show(0:Int)<hh;lia,by show(0:Int)<ww;lia⟩,(λ u=>by cases u;exact⟨a9 _,by show hh<=12;lia⟩;exact⟨a9 _,by show ww<=12;lia⟩),fit,by rw[em];exact pm,tab.same s02,λ le xs G H3 sx tab3 hle hens nd fit' isf gp=>?_⟩;have sN:SameX tb3 H H3:=s02.x.trans sx;refine⟨_,rfl,le,rfl,⟨_,SqL.of hle⟩,Bu (K:=K) (a:=le) (xs:=xs) (λ i σ H'=>(∃x2 x3,σ=[some (.ref a),some (.ref le),x2,x3])/\H'=H3) ⟨⟨_,_,rfl⟩,rfl⟩ (λ i σ H' _ hp=>by rw[hp.2];exact SqL.of hle) ?_ ?_⟩
 .rintro i x σ H' hx ⟨⟨x2,x3,rfl⟩,rfl⟩;obtain⟨e,ea,he,rfl,hen⟩:=hens.get hx
  match e,hen with
  |.w m,hen=>exact⟨ea,_,rfl,SqT.of hen,rfl,_,_,rfl,_,_,rfl,rfl,_,rfl,rfl,_,rfl,Bt (by decide +kernel) ⟨⟨_,_,rfl⟩,rfl⟩⟩
  |.c true k,hen=>exact⟨ea,_,rfl,SqT.of hen,rfl,_,_,rfl,_,_,rfl,rfl,_,rfl,rfl,_,rfl,Bt (by decide +kernel) ⟨⟨_,_,rfl⟩,rfl⟩⟩
  |.c false k,hen=>exact⟨ea,_,rfl,SqT.of hen,rfl,_,_,rfl,_,_,rfl,rfl,_,rfl,rfl,_,rfl,Bt (by decide +kernel) ⟨⟨_,_,rfl⟩,rfl⟩⟩
 .rintro σ H' ⟨⟨x2,x3,rfl⟩,rfl⟩;exact⟨_,rfl,le,xs,G,rfl,SqL.of hle,hens,nd,λ v H4 s4 ob=>q v H4 (sN.trans s4.x) (tab3.same s4)⟩
inductive KM(vs:LUz)(H:Hp)(Q:VK)(E:XK):Prop
 |mk (n:Int) (h0:vs=[.int n]) (h1:1<=n) (h2:n<=4) (h3:∀st H',Same H H'->StAt H' st (InM n)->Q (.ref st) H'):KM vs H Q E
noncomputable def HY:Sp:=λ vs H Q E=>KM vs H Q E
theorem RK(a b:Int):(a<=if b>a then b else a)/\(b<=if b>a then b else a)/\((if b>a then b else a)=a\/(if b>a then b else a)=b):=by split<;>lia
noncomputable abbrev p4(r:Rc):P4:=(r.t,r.l,r.b,r.r)
noncomputable def Mz(ps:List P4)(ww hh:Int):Option Int:=if 0<=Bs ps ww hh/\Bs ps ww hh<=7 then (JH (He 9) hh ps (As (Bs ps ww hh) (ww-1).toNat) 0 0).map λ y=>y+((List.range (Bs ps ww hh).toNat).map λ(i:Nat)=>CF (Au (As i (ww-1).toNat) hh)).sum else none
inductive FR(tb3 C:jd)(vs:LUz)(H:Hp)(Q:VK)(E:XK):Prop
 |mk (a dx ls ld:jd) (w h:Int) (ts:List (jd×Rc)) (kvs:LKz) (t:Tr) (out:Int) (h0:vs=[.ref a]) (h1:PanelAt C H a w h ts dx ls ld kvs) (h2:w<=4) (h3:h<=4) (h4:TabOk GF FE tb3 H) (h5:BM ⟨0,0,h,w⟩ t) (h6:(mks (rcs ts)).Perm (AJ t ⟨0,0,h,w⟩)) (h7:Mz ((rcs ts).map p4) w h=some out) (h8:∀H',SameX tb3 H H'->TabOk GF FE tb3 H'->Q (.int out) H'):FR tb3 C vs H Q E
noncomputable def G7(tb3 C:jd) :Sp:=λ vs H Q E=>FR tb3 C vs H Q E
theorem PanelAt.pnl{C:jd}{H:Hp}{a:jd}{w h:Int}{ts:List (jd×Rc)}{dx ls ld:jd}{kvs:LKz}(p:PanelAt C H a w h ts dx ls ld kvs){l:jd}(n:H l=none):PnL (upd H l (.lst (A9 ts))) l ((rcs ts).map p4):=by
 refine⟨ts.map λ t=>(t.1,p4 t.2),by rw[Ae,A9,A9,aB];rfl,λ t ht=>?_,by rw[rcs,aB,aB];rfl⟩;obtain⟨u,hu,rfl⟩:=ao.mp ht;exact(Same.new n) _ _ (p.ats u hu)
theorem PanelAt.tb{C T:jd}{pos:Pos}{i9:jD}{H H':Hp}{a:jd}{w h:Int}{ts:List (jd×Rc)}{dx ls ld:jd}{kvs:LKz}(p:PanelAt C H a w h ts dx ls ld kvs)(s:SameX T H H')(hT:TabOk pos i9 T H):PanelAt C H' a w h ts dx ls ld kvs:=by
 obtain⟨ps,eT,_⟩:=hT;have k:∀{y:jd}{o:HO},H y=some o->(∀ps,o≠.tbl ps)->H' y=some o:=λ e no=>s _ _ (λ z=>by rw[z,eT]at e;exact no _ (Option.some.inj e).symm) e;exact⟨k p.ob (by intro ps z;cases z),k p.lst (by intro ps z;cases z),k p.dic (by intro ps z;cases z),λ t ht=>k (p.ats t ht) (by intro ps z;cases z),p.til,p.few,p.srt,p.look,p.sw,p.sh⟩
noncomputable abbrev WS:LSz:=["panel","strips","lines","number","less"]
noncomputable def szs(i n:Nat):List (List Int):=(List.range i).flatMap λ(a:Nat)=>(List.range n).map λ(b:Nat)=>[(a:Int)+1,(b:Int)+1]
theorem szs_mem{i n:Nat}{z:List Int}:z∈szs i n↔∃a b:Nat,a<i/\b<n/\z=[(a:Int)+1,(b:Int)+1]:=by
 unfold szs;rw[List.mem_flatMap]
 constructor
 .rintro⟨a,ha,hz⟩;obtain⟨b,hb,rfl⟩:=ao.mp hz;exact⟨a,b,aQ.mp ha,aQ.mp hb,rfl⟩
 .rintro⟨a,b,ha,hb,rfl⟩;exact⟨a,aQ.mpr ha,ao.mpr ⟨b,aQ.mpr hb,rfl⟩⟩
theorem KY{n:Nat}:∀i,(szs i n).length=i*n
 |0=>by unfold szs;simp
 |i+1=>by
  have h:=KY (n:=n) i;unfold szs at h |-;rw[bH,dU,aH,h,fJ];simp
theorem Rr{κ:Type}[DecidableEq κ](kvs:List (κ×V))(k:κ)(v:V):(BZ kvs k v).length<=kvs.length+1:=by
 unfold BZ;split
 .rw[aa];exact bJ _
 .rw[aH];exact ah _
noncomputable abbrev Uq:LSz:=["longest","sizes","length","strips","thick"]
theorem JD{f:jd}{fd:jr}(F:Fun K "all_strips" "all_strips" Dl f fd)(T:Txt mg tk)(ig:Aq P w K mg ja 3 "strips_of_size" m7 JV):A3 P w K mg ja CX0 4 f fd mM HY:=by
 have S:Ak Uq mM (Ah Dl):=fsk;refine F.g S ?_;rintro vs H Q E ⟨n,rfl,n1,n4,q⟩;refine⟨rfl,λ cdv A i6 s hr=>?_⟩;have hu:=Ea hr;obtain⟨m,rfl⟩:∃m:Nat,n=m:=⟨n.toNat,by lia⟩;refine⟨_,(Ab (Av 1 S.nd (B8 EX))
  (Ab (AE PassesOwn.never rfl (Bm rfl T.z_range (Aa Ac (Aj (Ap AC Ai Ac)))) (AR (i:=2) S.nd rfl (dv rfl)) (Af (Bh (Rz bI fh fg Km Al (Aj (Bi rfl (Bm rfl T.z_range (Aa Ac (Aj (Ap AC Ai Ac)))) (λ_ _ _ _ _=>pgk (nk ["thick","length"])) (λ_ _ _ _ _=>(AB (Aa Al (Aj Ai)))) (N:=["thick","length"]) (fr:=[none,some 2])))))))
  (Ab (Av 3 S.nd Ip)
  (Ab (AE PassesOwn.never rfl (A6 (N5 rfl T.z_sorted rfl T.z_sum (Aj Al))) (CO rfl (A2 (AR (i:=2) S.nd rfl (dv rfl)) (A2 (AW 4 S.nd) Bx))) (Af (Er hu Az (AB (Aa Ar (Aj AG))) (Ao ig hr (Aa Az (Aa Ar (Aj AG)))) rfl)))
  (Af (Am Az)))))),?_⟩
 refine⟨A8 0,λ l nl=>?_⟩;refine nv nl λ H0 s0 e0=>?_;refine⟨_,rfl,_,_,rfl,rfl,1,(m:Int)+1,rfl,⟨by lia,by lia,by lia,by lia⟩,AT (lo:=1) (n:=((m:Int)+1-1).toNat) (λ i σ H'=>(∃y2,σ=[some (.int m),some (.ref l),y2,none,none])/\Same H H'/\∃ts:List (jd×List Int),H' l=some (.lst (A9 ts))/\(∀t∈ts,H' t.1=some (.tup (t.2.map V.int)))/\ts.map (·.2)=szs i m) ⟨⟨_,rfl⟩,s0,[],e0,(λ t ht=>nomatch ht),rfl⟩ ?_ ?_⟩
 .rintro i σ H1 hi ⟨⟨y2,rfl⟩,s1,ts,t1,t2,t3⟩;refine⟨_,rfl,.inl ⟨rfl,_,SqL.of t1⟩,_,rfl,_,_,rfl,rfl,1,(m:Int)+1,rfl,⟨by lia,by lia,by lia,by lia⟩,λ acc jb=>Fl (lo:=1) (n:=((m:Int)+1-1).toNat) (λ j zs σ H'=>(∃x,σ=[x,some (.int (1+(i:Int)))])/\Same H1 H'/\∃us:List (jd×List Int),zs=A9 us/\(∀t∈us,H' t.1=some (.tup (t.2.map V.int)))/\us.map (·.2)=(List.range j).map λ(b:Nat)=>[(i:Int)+1,(b:Int)+1]) ⟨⟨_,rfl⟩,Same.new jb,[],rfl,(λ t ht=>nomatch ht),rfl⟩ ?_ ?_⟩
  .rintro j zs σ H2 hj hz ha2 ⟨⟨x,rfl⟩,s2,us,rfl,u2,u3⟩;refine⟨_,rfl,_,rfl,A8 2,λ t nt=>?_⟩;obtain⟨H3,e,s3,e3⟩:=nw (.tup ([(i:Int)+1,(j:Int)+1].map V.int)) nt;have e:upd H2 t (.tup [.int (1+(i:Int)),.int (1+(j:Int))])=H3:=by rw[dH 1 (i:Int),dH 1 (j:Int)];exact e
   rw[e];clear e;have ha3:=s3 _ _ ha2;have kp:∀{x:jd}{xs o:LUz},H3 x=some (.tup xs)->(upd H3 acc (.lst o)) x=some (.tup xs):=λ h=>by rw[Ad (Bp h ha3 (by intro z;cases z))];exact h
   refine cNx.mk (aN (An (by lia))) hj hz ha3 ⟨⟨_,rfl⟩,λ x o e=>?_,us++[(t,[(i:Int)+1,(j:Int)+1])],by rw[A9,A9,ai];rfl,λ u hu=>?_,?_⟩
   .rw[Ad (Ag e jb)];exact s3 _ _ (s2 _ _ e)
   .rcases az.mp hu with hu|hu
    .exact kp (s3 _ _ (u2 u hu))
    .rw[af.mp hu];exact kp e3
   .rw[ai,u3,bH,ai];rfl
  .rintro zs σ H2 hz ha2 ⟨_,s2,us,rfl,u2,u3⟩;rw[show((m:Int)+1-1).toNat=m by lia]at u3 hz;have tl:=congrArg List.length t3;rw[aa,KY]at tl;have l2:=s2 _ _ t1;have:i*m<=4*4:=dQ (by lia) (by lia);refine⟨l,acc,A9 ts,A9 us,rfl,rfl,l2,ha2,aN (An (by rw[AU,AU];rw[AU]at hz;lia)),⟨_,rfl⟩,λ x o e=>?_,ts++us,by rw[Ae,A9,A9,A9,ai],λ t ht=>?_,?_⟩
   .rw[Ad (Ag e nl)];exact s2 _ _ (s1 _ _ e)
   .rw[Ad (λ z=>by
     rcases az.mp ht with ht|ht
     .have:=s2 _ _ (t2 t ht);rw[z,l2]at this;cases this
     .have:=u2 t ht;rw[z,l2]at this;cases this)]
    rcases az.mp ht with ht|ht
    .exact s2 _ _ (t2 t ht)
    .exact u2 t ht
   .rw[ai,t3,u3];unfold szs;rw[bH,dU];simp
 .rintro σ H1 ⟨⟨y2,rfl⟩,s1,ts,t1,t2,t3⟩;rw[show((m:Int)+1-1).toNat=m by lia]at t3;have tl:=congrArg List.length t3;rw[aa,KY]at tl;have:m*m<=4*4:=dQ (by lia) (by lia);refine λ d nd=>?_;refine nv nd λ H2 s2 e2=>?_;refine⟨_,rfl,l,ts,rfl,SqL.of (s2 _ _ t1),by lia,rfl,λ t ht=>s2 _ _ (t2 t ht),λ lr ts' nlr pm srt=>?_⟩;refine nv nlr λ H3 s3 e3=>?_;have s13:=s1.trans (s2.trans s3);have mem:∀t∈ts',H3 t.1=some (.tup (t.2.map V.int))/\∃a b:Nat,a<m/\b<m/\t.2=[(a:Int)+1,(b:Int)+1]:=λ t ht=>by
   have h:=pm.mem_iff.mp ht;exact⟨(s2.trans s3) _ _ (t2 t h),szs_mem.mp (by rw[<-t3];exact ao.mpr ⟨t,h,rfl⟩)⟩
  refine⟨lr,rfl,⟨_,SqL.of e3⟩,Bu (K:=K) (a:=lr) (xs:=A9 ts') (λ i σ H'=>(∃y2 y4,σ=[some (.int m),some (.ref l),y2,some (.ref d),y4])/\(∀x o,x≠d->H3 x=some o->H' x=some o)/\∃kvs:LKz,H' d=some (.dT kvs)/\kvs.length<=i/\∀j,j<i->∀t,ts'[j]?=some t->∀a b:Int,t.2=[a,b]->∃dd,AS kvs [Sum.inl a,Sum.inl b]=some (.ref dd)/\H' dd=some (.dK (kvB (A0 a b)))) ⟨⟨_,_,rfl⟩,(λ x o _ e=>e),[],s3 _ _ e2,ah _,(λ j hj=>absurd hj (fj j))⟩ (λ i σ H' _ hp=>SqL.of (hp.2.1 _ _ (Bp e3 (s3 _ _ e2) (by intro z;cases z)) e3)) ?_ ?_⟩
  .rintro i v σ H4 hv ⟨⟨y2,y4,rfl⟩,k4,kvs,h4,kl,hj⟩;obtain⟨t,ht,rfl⟩:=BF hv;obtain⟨h3,a,b,am,bm,et⟩:=mem t (aA ht);rw[et]at h3;have d3:=s3 _ _ e2;have h4t:H4 t.1=some (.tup [.int ((a:Int)+1),.int ((b:Int)+1)]):=k4 _ _ (Bp h3 d3 (by intro z;cases z)) h3;have il:=(aF.mp ht).1;have tl':ts'.length=m*m:=by rw[pm.length_eq];exact tl
   refine⟨t.1,_,rfl,SqT.of h4t,rfl,_,_,rfl,_,_,rfl,rfl,_,rfl,_,rfl,_,rfl,d,(a:Int)+1,(b:Int)+1,rfl,by lia,by lia,by lia,by lia,⟨kvs,h4,λ x y ⟨ex,y1,y2⟩=>?_⟩,λ dd H5 s5 n5 h5=>⟨_,rfl,_,rfl,_,rfl,A8 2,λ t6 n6=>?_⟩⟩
   .have hm:[x,y]∈szs m m:=szs_mem.mpr ⟨b,(y-1).toNat,bm,by lia,by rw[ex,show(((y-1).toNat:Nat):Int)+1=y by lia]⟩;rw[<-t3]at hm;obtain⟨u,hu,eu⟩:=ao.mp hm;obtain⟨j,hj'⟩:=fM.mp (pm.mem_iff.mpr hu);refine hj j ?_ u hj' x y eu;refine Nat.lt_of_not_le λ le=>?_;have jl:=(aF.mp hj').1;rw[ag jl]at hj';rw[ag il]at ht;have e1:ts'[j].2=[x,y]:=by rw[Option.some.inj hj'];exact eu
    have e4:ts'[i].2=[(a:Int)+1,(b:Int)+1]:=by rw[Option.some.inj ht];exact et
    have ne:i≠j:=λ z=>by
     subst z;rw[e1]at e4;have:=(List.cons.inj (List.cons.inj e4).2).1;have:=(List.cons.inj e4).1;lia
    have:=bZ.mp srt i j (by rw[aa];exact il) (by rw[aa];exact jl) (by lia);rw[List.getElem_map,List.getElem_map,e1,e4]at this;simp only[cX,cC]at this;lia
   .refine nv n6 λ H6 s6 e6=>?_;have s46:=s5.trans s6;have h6:=s46 _ _ h4;have d6:=s6 _ _ h5;refine⟨d,_,rfl,DPut.t (k:=[Sum.inl ((a:Int)+1),Sum.inl ((b:Int)+1)]) h6 e6 (An (by lia)),⟨_,_,rfl⟩,λ x o xd e=>by rw[Ad xd];exact s46 _ _ (k4 x o xd e),_,Ae,aV (Rr _ _ _) (by lia),λ j hj2 u hu x y eu=>?_⟩;rw[CT];by_cases c:([Sum.inl x,Sum.inl y]:List Key)=[Sum.inl ((a:Int)+1),Sum.inl ((b:Int)+1)]
    .rw[jo c];have c1:x=(a:Int)+1:=Sum.inl.inj (List.cons.inj c).1;have c2:y=(b:Int)+1:=Sum.inl.inj (List.cons.inj (List.cons.inj c).2).1;exact⟨dd,rfl,by rw[Ad (Bp d6 h6 (by intro z;cases z)),c1,c2];exact d6⟩
    .rw[jj c];have ji:j≠i:=λ z=>by
      rw[z,ht]at hu;cases hu;rw[et]at eu;exact c (by rw[<-(List.cons.inj eu).1,<-(List.cons.inj (List.cons.inj eu).2).1])
     obtain⟨d7,v1,v2⟩:=hj j (by lia) u hu x y eu;exact⟨d7,v1,by rw[Ad (Bp (s46 _ _ v2) h6 (by intro z;cases z))];exact s46 _ _ v2⟩
  .rintro σ H4 ⟨⟨y2,y4,rfl⟩,k4,kvs,h4,kl,hj⟩;refine⟨_,rfl,q d H4 (λ x o e=>k4 _ _ (Ag (s1 _ _ e) nd) (s13 _ _ e)) ⟨kvs,h4,λ x y ⟨x1,x2,y1,y2⟩=>?_⟩⟩;have hm:[x,y]∈szs m m:=szs_mem.mpr ⟨(x-1).toNat,(y-1).toNat,by lia,by lia,by rw[show(((x-1).toNat:Nat):Int)+1=x by lia,show(((y-1).toNat:Nat):Int)+1=y by lia]⟩;rw[<-t3]at hm;obtain⟨u,hu,eu⟩:=ao.mp hm;obtain⟨j,hj'⟩:=fM.mp (pm.mem_iff.mpr hu);exact hj j (by rw[AU];exact(aF.mp hj').1) u hj' x y eu
theorem Ec:∀{t:Tr}{p:Rk},BM p t->∀r c,p.t<=r->r<p.b->p.l<=c->c<p.r->∃g∈AJ t p,GB.Rc.has g.1 r c
 |.whole m,p,_,r,c,a1,a2,a3,a4=>⟨(p,m),by rw[AJ];exact af.mpr rfl,a1,a2,a3,a4⟩
 |.cut u k x y,p,f,r,c,a1,a2,a3,a4=>by
  rw[fitR_cut]at f;obtain⟨⟨b1,b2⟩,fx,fy⟩:=f;rw[AJ];cases u with
  |true =>
   by_cases h:c<p.l+k
   .obtain⟨g,hg,z⟩:=Ec (p:=p.fst true k) fx r c a1 a2 a3 h;exact⟨g,bB _ hg,z⟩
   .obtain⟨g,hg,z⟩:=Ec (p:=p.oth true k) fy r c a1 a2 (show p.l+k<=c by lia) a4;exact⟨g,av _ hg,z⟩
  |false =>
   by_cases h:r<p.t+k
   .obtain⟨g,hg,z⟩:=Ec (p:=p.fst false k) fx r c a1 h a3 a4;exact⟨g,bB _ hg,z⟩
   .obtain⟨g,hg,z⟩:=Ec (p:=p.oth false k) fy r c (show p.t+k<=r by lia) a2 a3 a4;exact⟨g,av _ hg,z⟩
theorem NU{t:Tr}{ww hh:Int}(w1:1<=ww)(h1:1<=hh)(f:Fit t ww hh):GB.Tiles ww hh ((AJ t ⟨0,0,hh,ww⟩).map (·.1)):=by
 refine⟨λ p hp=>?_,IR (p:=⟨0,0,hh,ww⟩) (show(0:Int)<hh by lia) (show(0:Int)<ww by lia) (Vx f),λ r c a1 a2 a3 a4=>?_⟩
 .obtain⟨g,hg,rfl⟩:=ao.mp hp;exact TU w1 h1 f g hg
 .obtain⟨g,hg,z⟩:=Ec (p:=⟨0,0,hh,ww⟩) (Vx f) r c a1 a2 a3 a4;exact⟨g.1,ao.mpr ⟨g,hg,rfl⟩,z⟩
noncomputable def trn:Tr->Tr
 |.whole m=>.whole m
 |.cut u k x y=>.cut (!u) k (trn x) (trn y)
theorem FH:∀{t:Tr}{w h:Int},Fit t w h->Fit (trn t) h w
 |.whole _,w,h,_=>by rw[trn,Fit];trivial
 |.cut u k x y,w,h,f=>by
  rw[Fit]at f;rw[trn,Fit];cases u with
  |true =>
   obtain⟨a,b,c,d⟩:=f;exact⟨a,b,FH c,FH d⟩
  |false =>
   obtain⟨a,b,c,d⟩:=f;exact⟨a,b,FH c,FH d⟩
noncomputable def btB(c:Int)(j:Nat):Bool:=!decide (Builtin.bitAnd c (1*2^j)=0)
noncomputable def mkB:List Int->Int->Bool
 |[],_=>false
 |p::r,z=>decide (z=p)||mkB r (z-p)
noncomputable def allP:List (List Int):=[[],[1],[2],[3],[4],[1,1],[1,2],[2,1],[1,3],[3,1],[2,2],[1,1,1],[1,1,2],[1,2,1],[2,1,1],[1,1,1,1]]
theorem Pl:allP.all (λ ps=>decide (ps.tail∈allP)&&ps.all λ p=>decide (1<=p)&&decide (p<=4))=true:=by decide +kernel
noncomputable def Tn(h:Int):List Int->Nat->Bool
 |[],c=>decide (Ay [(BC h,1)] (c:Int)<=1)&&(decide (Ay [(BC h,1)] (c:Int)<=0)||(List.range 3).all λ j=>decide (h<=(j:Int)+1)||!btB (c:Int) j)
 |p::r,c=>decide (Ay (Au (p::r) h) (c:Int)=AD (A0 h p) (Au r h) (c:Int) (A0 h p).length)
theorem Rm:(List.range 4).all (λ h=>allP.all λ ps=>(List.range 8).all λ c=>Tn ((h:Int)+1) ps c&&(decide (0<=Ay (Au ps ((h:Int)+1)) (c:Int))&&decide (Ay (Au ps ((h:Int)+1)) (c:Int)<=1000000000)))=true:=by decide +kernel
noncomputable def lnB(n:Nat)(a:Nat):Bool:=decide (As (n:Int) a∈allP)&&decide ((As (n:Int) a).sum=(a:Int)+1)&&(List.range a).all λ j=>mkB (As (n:Int) a) ((j:Int)+1)==btB (n:Int) j
noncomputable def S9(n:Int):Nat->Int
 |0=>0
 |k+1=>S9 n k+if btB n k=true then 1*2^k else 0
noncomputable def stB(a b:Nat)(n:Nat):Bool:=match D7 (A0 ((a:Int)+1) ((b:Int)+1)) (n:Int) with
 |none=>false
 |some v=>if n=0 then decide (v=1) else decide (v=Ay (Au (As (n:Int) a) ((b:Int)+1)) (BC ((b:Int)+1)))&&(As (n:Int) a).all λ p=>decide (p<=a)
theorem PD:(List.range 4).all (λ a=>(List.range 4).all λ b=>decide ((A0 ((a:Int)+1) ((b:Int)+1)).length=2^a)&&(List.range (2^a)).all (stB a b))=true:=by decide +kernel
theorem RM:(List.range 4).all (λ a=>(List.range (2^a)).all λ n=>lnB n a&&decide (S9 (n:Int) a=(n:Int)))=true:=by decide +kernel
theorem SW:(List.range 4).all (λ w=>(List.range 4).all λ h=>decide (tab ((w:Int)+1) ((h:Int)+1)=((List.range (2^w)).map λ(i:Nat)=>CF (Au (As (i:Int) w) ((h:Int)+1))).sum))=true:=by decide +kernel
theorem JP:(List.range 4).all (λ h=>(List.range h).all λ j=>btB (BC ((h:Int)+1)) j)=true:=by decide +kernel
theorem Uj:(List.range 8).all (λ c=>(List.range 8).all λ n=>(List.range 3).all λ j=>btB (Builtin.bitAnd (c:Int) (n:Int)) j==(btB (c:Int) j&&btB (n:Int) j))=true:=by decide +kernel
theorem NV{a:Int}(a1:1<=a)(a4:a<=4):∃k:Nat,k<4/\a=(k:Int)+1:=⟨(a-1).toNat,by lia,by lia⟩
theorem VC{p:Int}{r:List Int}(h:p::r∈allP):r∈allP:=by
 have:=aI.mp Pl _ h;rw[ax,jp]at this;exact this.1
theorem Fo{ps:List Int}(h:ps∈allP){p:Int}(hp:p∈ps):1<=p/\p<=4:=by
 have:=aI.mp Pl _ h;rw[ax]at this;have:=aI.mp this.2 p hp;rw[ax,jp,jp]at this;exact this
theorem Lf{h c:Int}{ps:List Int}(h1:1<=h)(h4:h<=4)(m:ps∈allP)(c0:0<=c)(c8:c<8):Tn h ps c.toNat=true/\0<=Ay (Au ps h) c/\Ay (Au ps h) c<=1000000000:=by
 obtain⟨k,hk,rfl⟩:=NV h1 h4;have:=aI.mp (aI.mp (aI.mp Rm k (aQ.mpr hk)) ps m) c.toNat (aQ.mpr (by lia));rw[ax,ax,jp,jp,bF c0]at this;exact this
theorem PL{h c p:Int}{r:List Int}(h1:1<=h)(h4:h<=4)(m:p::r∈allP)(c0:0<=c)(c8:c<8):Ay (Au (p::r) h) c=AD (A0 h p) (Au r h) c (A0 h p).length:=by
 have:=(Lf h1 h4 m c0 c8).1;rw[Tn,jp,bF c0]at this;exact this
theorem Rl{h c:Int}(h1:1<=h)(h4:h<=4)(c0:0<=c)(c8:c<8)(pos:0<Ay (Au [] h) c):Ay (Au [] h) c<=1/\∀j:Nat,(j:Int)+1<h->btB c j=false:=by
 have:=(Lf h1 h4 (show[]∈allP by decide) c0 c8).1;rw[Tn,ax,cx,jp,jp,bF c0]at this;refine⟨this.1,λ j hj=>?_⟩;rcases this.2 with z|z
 .exact absurd z (Int.not_le.mpr pos)
 .have:=aI.mp z j (aQ.mpr (by lia));rw[cx,jp]at this;rcases this with y|y
  .lia
  .cases z2:btB c j with
   |false=>rfl
   |true=>rw[z2]at y;cases y
theorem LX{a b:Int}(a1:1<=a)(a4:a<=4)(b1:1<=b)(b4:b<=4):(A0 a b).length=2^(a-1).toNat/\∀n:Nat,n<2^(a-1).toNat->∃v,D7 (A0 a b) (n:Int)=some v/\(n=0->v=1)/\(n≠0->v=Ay (Au (As (n:Int) (a-1).toNat) b) (BC b)/\∀p∈As (n:Int) (a-1).toNat,p<a):=by
 obtain⟨x,hx,rfl⟩:=NV a1 a4;obtain⟨y,hy,rfl⟩:=NV b1 b4;have:=aI.mp (aI.mp PD x (aQ.mpr hx)) y (aQ.mpr hy);rw[ax,jp]at this;rw[show((x:Int)+1-1).toNat=x by lia];refine⟨this.1,λ n hn=>?_⟩;have:=aI.mp this.2 n (aQ.mpr hn);unfold stB at this;split at this
 .cases this
 .rename_i v e;refine⟨v,e,λ z=>?_,λ z=>?_⟩
  .rw[jo z,jp]at this;exact this
  .rw[jj z,ax,jp]at this;refine⟨this.1,λ p hp=>?_⟩;have:=jF (aI.mp this.2 p hp);lia
theorem Lw{a:Int}(a1:1<=a)(a4:a<=4){n:Nat}(hn:n<2^(a-1).toNat):As (n:Int) (a-1).toNat∈allP/\(As (n:Int) (a-1).toNat).sum=a/\(∀j:Nat,(j:Int)+1<a->mkB (As (n:Int) (a-1).toNat) ((j:Int)+1)=btB (n:Int) j)/\S9 (n:Int) (a-1).toNat=(n:Int)/\n<8:=by
 obtain⟨x,hx,rfl⟩:=NV a1 a4;rw[show((x:Int)+1-1).toNat=x by lia]at hn |-;have:=aI.mp (aI.mp RM x (aQ.mpr hx)) n (aQ.mpr hn);rw[ax,jp]at this;unfold lnB at this;rw[ax,ax,jp,jp]at this;refine⟨this.1.1.1,this.1.1.2,λ j hj=>eq_of_beq (aI.mp this.1.2 j (aQ.mpr (by lia))),this.2,aK hn (dP (by decide) (show x<=3 by lia))⟩
theorem Uk{c:Int}{n j:Nat}(c0:0<=c)(c8:c<8)(n8:n<8)(j3:j<3):btB (Builtin.bitAnd c (n:Int)) j=(btB c j&&btB (n:Int) j):=by
 have:=aI.mp (aI.mp (aI.mp Uj c.toNat (aQ.mpr (by lia))) n (aQ.mpr n8)) j (aQ.mpr j3);rw[bF c0]at this;exact eq_of_beq this
theorem Kr{rs:List Rk}{n:Int}:∀m:Nat,(∀k:Nat,k<m->((∀r∈rs,¬(r.l<(k:Int)+1/\(k:Int)+1<r.r))↔btB n k=true))->((Gv rs true 0 m).map λ l=>(1*2^(l-1).toNat:Int)).sum=S9 n m
 |0,_=>rfl
 |m+1,h=>by
  rw[Gv,S9,ai,b6,Kr m λ k hk=>h k (by lia)];congr 1;have hm:=h m (br m);by_cases c:btB n m=true
  .rw[jo c,jj (λ z=>by
    obtain⟨r,hr,z⟩:=cE.mp z;have z:=brkR_iff.mp z;exact hm.mpr c r hr ⟨by have:=z.1;show r.l<_;rw[cu,dH]at this;exact this,by have:=z.2;rw[cu,dH]at this;exact this⟩)]
   show(1*2^((0:Int)+1+m-1).toNat:Int)+0=_;rw[show((0:Int)+1+m-1).toNat=m by lia,ce]
  .rw[jj c];have:rs.any (FO true (0+1+(m:Int)))=true:=by
    refine Decidable.byContradiction λ z=>c (hm.mp λ r hr y=>z (cE.mpr ⟨r,hr,brkR_iff.mpr ?_⟩));rw[cu,dH];exact y
   rw[jo this];rfl
noncomputable def nbU(S:List P4)(z:Int):Prop:=∀q∈S,¬(q.2.1<z/\z<q.2.2.2)
theorem nbU.perm{S Q:List P4}{z:Int}(e:Q.Perm S):nbU Q z↔nbU S z:=⟨λ h q hq=>h q (e.mem_iff.mpr hq),λ h q hq=>h q (e.mem_iff.mp hq)⟩
theorem MB{S:List P4}{a b:Int}{n:Nat}(a1:1<=a)(a4:a<=4)(hn:n<2^(a-1).toNat)(h:∀j:Nat,(j:Int)+1<a->(nbU S ((j:Int)+1)↔btB (n:Int) j=true)):Bs S a b=(n:Int):=by
 have:=Kr (rs:=S.map rk) (n:=(n:Int)) (a-1).toNat λ k hk=>by
  rw[<-h k (by lia)];exact⟨λ z q hq=>z _ (ao.mpr ⟨q,hq,rfl⟩),λ z r hr=>by obtain⟨q,hq,rfl⟩:=ao.mp hr;exact z q hq⟩
 rw[(Lw a1 a4 hn).2.2.2.1]at this;rw[<-this];unfold Bs lns;show((Gv _ true 0 (a-(0+1)).toNat).map _).sum=_;rw[cu]
theorem OW{fs lt:BL}{c x:Int}:∀(k n:Nat),fs.length<=n+k->AD fs lt c n<=x->x<AD fs lt c fs.length->n<=fs.length->∃m,Kz fs lt c x k n=some m/\m<fs.length/\AD fs lt c m<=x/\x<AD fs lt c (m+1)
 |0,n,h,a,b,l=>by
  have:n=fs.length:=by lia
  rw[this]at a;lia
 |k+1,n,h,a,b,l=>by
  have nl:n<fs.length:=by
   refine Nat.lt_of_le_of_ne l λ z=>?_;rw[z]at a;lia
  rw[Kz,jo nl];by_cases c2:AD fs lt c (n+1)<=x
  .rw[jo c2];exact OW k (n+1) (by lia) c2 b nl
  .rw[jj c2];exact⟨n,rfl,nl,a,by lia⟩
theorem SC(fs lt:BL)(c:Int)(n:Nat):AD fs lt c (n+1)=AD fs lt c n+(D7 fs (n:Int)).getD 0*Ay lt (Builtin.bitAnd c (n:Int)):=by
 unfold AD;rw[bH,ai,b6];show _+(V9 fs lt c n+0)=_;rw[ce];rfl
noncomputable def Cutt(S:List P4)(p:Rk):Prop:=∃t,BM p t/\(mks (S.map rk)).Perm (AJ t p)
theorem Cutt.perm{S Q:List P4}{p:Rk}(c:Cutt S p)(e:Q.Perm S):Cutt Q p:=by
 obtain⟨t,f,g⟩:=c;exact⟨t,f,((e.map _).map _).trans g⟩
theorem Cutt.ins{S:List P4}{p:Rk}(ok:p.ok)(c:Cutt S p){q:P4}(h:q∈S):p.t<=q.1/\q.1<q.2.2.1/\q.2.2.1<=p.b/\p.l<=q.2.1/\q.2.1<q.2.2.2/\q.2.2.2<=p.r:=by
 obtain⟨t,f,g⟩:=c;exact Cs ok.1 ok.2 f (rk q,none) (g.mem_iff.mp (ao.mpr ⟨rk q,ao.mpr ⟨q,h,rfl⟩,rfl⟩))
noncomputable def tuR(b:Int)(p:Rk):Rk:=⟨p.l,b+p.t,p.r,b+p.b⟩
theorem L4(b:Int):∀(t:Tr)(p:Rk),AJ (trn t) (tuR b p)=(AJ t p).map λ g=>(tuR b g.1,g.2)
 |.whole m,p=>rfl
 |.cut u k x y,p=>by
  rw[trn,AJ,AJ,ai,<-L4 b x,<-L4 b y];have e1:(tuR b p).fst (!u) k=tuR b (p.fst u k):=by
   cases u
   .show(⟨p.l,b+p.t,p.r,b+p.t+k⟩:Rk)=⟨p.l,b+p.t,p.r,b+(p.t+k)⟩;rw[eh]
   .rfl
  have e2:(tuR b p).oth (!u) k=tuR b (p.oth u k):=by
   cases u
   .show(⟨p.l,b+p.t+k,p.r,b+p.b⟩:Rk)=⟨p.l,b+(p.t+k),p.r,b+p.b⟩;rw[eh]
   .rfl
  rw[e1,e2]
theorem Cutt.tu{S:List P4}{p:Rk}(c:Cutt S p)(b:Int):Cutt (S.map (Fb b)) (tuR b p):=by
 obtain⟨t,f,g⟩:=c;refine⟨trn t,?_,?_⟩
 .have:Fit (trn t) (b+p.b-(b+p.t)) (p.r-p.l):=by
   rw[show b+p.b-(b+p.t)=p.b-p.t by lia];exact FH f
  exact this
 .rw[L4];have:=g.map λ g=>(tuR b g.1,g.2);rw[aB,aB]at this;rw[aB];show((S.map _).map _).Perm _;rw[aB];exact this
theorem Cutt.join{A B:List P4}{h l m e:Int}(a:Cutt A ⟨0,l,h,m⟩)(b:Cutt B ⟨0,m,h,e⟩)(h1:l<m)(h2:m<e):Cutt (A++B) ⟨0,l,h,e⟩:=by
 obtain⟨t,f,g⟩:=a;obtain⟨u,f2,g2⟩:=b;have e1:Rk.fst ⟨0,l,h,e⟩ true (m-l)=⟨0,l,h,m⟩:=by
  show(⟨0,l,h,l+(m-l)⟩:Rk)=_;rw[show l+(m-l)=m by lia]
 have e2:Rk.oth ⟨0,l,h,e⟩ true (m-l)=⟨0,m,h,e⟩:=by
  show(⟨0,l+(m-l),h,e⟩:Rk)=_;rw[show l+(m-l)=m by lia]
 refine⟨.cut true (m-l) t u,fitR_cut.mpr ⟨⟨by lia,by show m-l<e-l;lia⟩,by rw[e1];exact f,by rw[e2];exact f2⟩,?_⟩;rw[AJ,e1,e2,ai];show((A.map rk++B.map rk).map _).Perm _;rw[ai];exact g.append g2
structure Gs(k:Nat)(a b:Int)(n:Nat)(x:Int)(S:List P4):Prop where
 ct:Cutt S ⟨0,0,b,a⟩
 ln:∀j:Nat,(j:Int)+1<a->(nbU S ((j:Int)+1)↔btB (n:Int) j=true)
 lv:∀y,0<y->y<b->∃q∈S,q.1<y/\y<q.2.2.1
 nm:∀Q:List P4,Q.Perm S->He k Q a b n=some x
structure Gr(k:Nat)(h:Int)(ps:List Int)(c x b0:Int)(out:List P4):Prop where
 ct:ps≠[]->Cutt out ⟨0,b0,h,b0+ps.sum⟩
 up:∀z,b0<z->z<b0+ps.sum->(nbU out z↔mkB ps (z-b0)=true)
 lv:∀j:Nat,(j:Int)+1<h->btB c j=true->∃q∈out,q.1<(j:Int)+1/\(j:Int)+1<q.2.2.1
 nm:∀pre Q:List P4,(∀q∈pre,q.2.1<b0)->Q.Perm (pre++out)->JH (He k) h Q ps c b0=some x
 nl:ps=[]->out=[]
theorem OJ:∀{ps:List Int}{z:Int},(∀p∈ps,1<=p)->z<=0->mkB ps z=false
 |[],z,_,_=>rfl
 |p::r,z,h,hz=>by
  have h1:=h p aw;rw[mkB,OJ (ps:=r) (λ q hq=>h q (ay _ hq)) (by lia),Bool.or_false];exact js (by lia)
theorem Og:∀{ps:List Int},(∀p∈ps,1<=p)->0<=ps.sum/\(ps≠[]->0<ps.sum)
 |[],_=>⟨a9 _,λ h=>absurd rfl h⟩
 |p::r,h=>by
  have h1:=h p aw;have h2:=(Og (ps:=r) (λ q hq=>h q (ay _ hq))).1;rw[cX];exact⟨by lia,λ_=>by lia⟩
theorem SD{pre S r:List P4}{b p:Int}(h1:∀q∈pre,q.2.1<b)(h2:∀q∈S,0<=q.1/\q.1<p)(h3:∀q∈r,b+p<=q.2.1):atF (pre++(S.map (Fb b)++r)) b p=S:=by
 unfold atF;have e1:pre.filter (λ q=>decide (b<=q.2.1)&&decide (q.2.1<b+p))=[]:=cQ.mpr λ q hq z=>by
  rw[ax,jp,jp]at z;have:=h1 q hq;lia
 have e2:r.filter (λ q=>decide (b<=q.2.1)&&decide (q.2.1<b+p))=[]:=cQ.mpr λ q hq z=>by
  rw[ax,jp,jp]at z;have:=h3 q hq;lia
 have e3:(S.map (Fb b)).filter (λ q=>decide (b<=q.2.1)&&decide (q.2.1<b+p))=S.map (Fb b):=cj.mpr λ q hq=>by
  obtain⟨u,hu,rfl⟩:=ao.mp hq;have:=h2 u hu;rw[ax,jp,jp];exact⟨by show b<=b+u.1;lia,by show b+u.1<b+p;lia⟩
 rw[bC,bC,e1,e2,e3,dG,aR,aB];refine(bE λ q _=>?_).trans (eU S);show(b+q.1-b,q.2.1,b+q.2.2.1-b,q.2.2.2)=q;rw[show b+q.1-b=q.1 by lia,show b+q.2.2.1-b=q.2.2.1 by lia]
theorem Ui{Q R:List P4}{b p:Int}(e:Q.Perm R):(atF Q b p).Perm (atF R b p):=(e.filter _).map _
theorem Ib{k:Nat}{h:Int}(h1:1<=h)(h4:h<=4):∀(ps:List Int),ps∈allP->(∀p∈ps,∀(n:Nat)(x:Int),n<2^(h-1).toNat->0<=x->x<(D7 (A0 h p) (n:Int)).getD 0->∃S,BO k h p n x=some S/\Gs k h p n x S)->∀c x b0:Int,0<=c->c<8->0<=x->x<Ay (Au ps h) c->∃out,JA (BO k) h ps c x b0=some out/\Gr k h ps c x b0 out
 |[],_,_,c,x,b0,c0,c8,x0,x1=>by
  obtain⟨w1,w2⟩:=Rl h1 h4 c0 c8 (by lia);have:x=0:=by lia
  subst this;refine⟨[],rfl,λ z=>absurd rfl z,λ z z1 z2=>?_,λ j hj hb=>?_,λ pre Q _ _=>rfl,λ_=>rfl⟩
  .rw[cC]at z2;lia
  .rw[w2 j hj]at hb;cases hb
 |p::r,m,HS,c,x,b0,c0,c8,x0,x1=>by
  have pp:=Fo m (p:=p) aw;have mr:=VC m;have r1:∀q∈r,1<=q:=λ q hq=>(Fo mr hq).1;obtain⟨sl,sv⟩:=LX h1 h4 pp.1 pp.2;rw[PL h1 h4 m c0 c8]at x1;have p8:2^(h-1).toNat<=8:=dP (by decide) (show(h-1).toNat<=3 by lia);obtain⟨n,hn,nl,nb,na⟩:=OW (fs:=A0 h p) (lt:=Au r h) (c:=c) (x:=x) 9 0 (by lia) x0 x1 (aP _);rw[sl]at nl;have n8:n<8:=by lia
  obtain⟨v,hv,_⟩:=sv n nl;have ca:=SH c0 c8 (b:=(n:Int)) (by lia) (by lia);obtain⟨_,w0,w9⟩:=Lf h1 h4 mr ca.1 ca.2;rw[SC,hv]at na;have na:x-AD (A0 h p) (Au r h) c n<v*Ay (Au r h) (Builtin.bitAnd c (n:Int)):=by
   have na:x<AD (A0 h p) (Au r h) c n+v*Ay (Au r h) (Builtin.bitAnd c (n:Int)):=na;lia
  have nb:0<=x-AD (A0 h p) (Au r h) c n:=by lia
  rw[JA,hn,bT];generalize hB:AD (A0 h p) (Au r h) c n=B at na nb;generalize hW:Ay (Au r h) (Builtin.bitAnd c (n:Int))=W at na w0 w9;have wp:0<W:=by
   rcases Int.lt_or_eq_of_le w0 with z|z
   .exact z
   .rw[<-z,Int.mul_zero]at na;lia
  have q0:0<=(x-B) / W:=Int.ediv_nonneg nb w0;have q1:(x-B) / W<v:=Int.ediv_lt_of_lt_mul wp na;have m0:0<=(x-B) % W:=bj _ (by lia);have m1:(x-B) % W<W:=bp _ wp;obtain⟨S,hS,gs⟩:=HS p aw n ((x-B) / W) nl q0 (by rw[hv];exact q1);obtain⟨out,ho,gr⟩:=Ib h1 h4 r mr (λ p hp=>HS p (ay _ hp)) (Builtin.bitAnd c (n:Int)) ((x-B) % W) (b0+p) ca.1 ca.2 m0 (by rw[hW];exact m1);rw[jo ⟨wp,w9⟩,hS,bT,ho];refine⟨S.map (Fb b0)++out,rfl,?_⟩;have okS:Rk.ok ⟨0,0,p,h⟩:=⟨by show(0:Int)<p;lia,by show(0:Int)<h;lia⟩;have inS:∀q∈S,0<=q.1/\q.1<p/\q.2.2.1<=p:=λ q hq=>by
   obtain⟨i1,i2,i3,_⟩:=gs.ct.ins okS hq;exact⟨i1,dk i2 i3,i3⟩
  obtain⟨rs0,rs1⟩:=Og r1;have inR:∀q∈out,b0+p<=q.2.1:=λ q hq=>by
   by_cases e:r=[]
   .rw[gr.nl e]at hq;cases hq
   .have:=gr.ct e;exact(this.ins ⟨by show(0:Int)<h;lia,by show b0+p<b0+p+r.sum;have:=rs1 e;lia⟩ hq).2.2.2.1
  have tuS:Cutt (S.map (Fb b0)) ⟨0,b0,h,b0+p⟩:=by
   have:=gs.ct.tu b0;unfold tuR at this;rw[show b0+(⟨0,0,p,h⟩:Rk).t=b0 from ce _]at this;exact this
  refine⟨λ_=>?_,λ z z1 z2=>?_,λ j hj hb=>?_,λ pre Q hpre hQ=>?_,λ z=>by cases z⟩
  .by_cases e:r=[]
   .rw[gr.nl e,aR,e,cX,cC,ce];exact tuS
   .have:=tuS.join (e:=b0+p+r.sum) (gr.ct e) (by lia) (by have:=rs1 e;lia);rw[cX,<-eh];exact this
  .rw[cX]at z2;rw[mkB];rcases Int.lt_trichotomy (z-b0) p with lt|eq|gt
   .rw[js (by lia),OJ r1 (by lia)];refine⟨λ nb=>?_,λ z=>by cases z⟩;obtain⟨q,hq,a,b⟩:=gs.lv (z-b0) (by lia) lt;exact absurd (show b0+q.1<z/\z<b0+q.2.2.1 by lia) (nb (Fb b0 q) (bB _ (ao.mpr ⟨q,hq,rfl⟩)))
   .rw[jn eq];refine⟨λ_=>rfl,λ_ q hq y=>?_⟩;rcases az.mp hq with hq|hq
    .obtain⟨u,hu,rfl⟩:=ao.mp hq;have:=inS u hu;have y2:z<b0+u.2.2.1:=y.2;lia
    .have:=inR q hq;lia
   .rw[js (by lia),Bool.false_or,show z-b0-p=z-(b0+p) by lia,<-gr.up z (by lia) (by lia)];refine⟨λ nb q hq=>nb q (av _ hq),λ nb q hq y=>?_⟩;rcases az.mp hq with hq|hq
    .obtain⟨u,hu,rfl⟩:=ao.mp hq;have:=inS u hu;have y2:z<b0+u.2.2.1:=y.2;lia
    .exact nb q hq y
  .by_cases e:btB (n:Int) j=true
   .obtain⟨q,hq,z⟩:=gr.lv j hj (by rw[Uk c0 c8 n8 (by lia),hb,e];rfl);exact⟨q,av _ hq,z⟩
   .have:=λ z=>e ((gs.ln j hj).mp z);unfold nbU at this;obtain⟨q,hq,z⟩:∃q∈S,q.2.1<(j:Int)+1/\(j:Int)+1<q.2.2.2:=by
     refine Decidable.byContradiction λ y=>this λ q hq z=>y ⟨q,hq,z⟩
    exact⟨Fb b0 q,bB _ (ao.mpr ⟨q,hq,rfl⟩),z⟩
  .have ap:=Ui (b:=b0) (p:=p) hQ;rw[SD hpre (λ q hq=>⟨(inS q hq).1,(inS q hq).2.1⟩) inR]at ap;have li:Bs (atF Q b0 p) h p=(n:Int):=MB h1 h4 nl λ j hj=>(nbU.perm ap).trans (gs.ln j hj);have nx:=gr.nm (pre++S.map (Fb b0)) Q (λ q hq=>by
    rcases az.mp hq with hq|hq
    .have:=hpre q hq;lia
    .obtain⟨u,hu,rfl⟩:=ao.mp hq;have:=inS u hu;show b0+u.1<b0+p;lia) (by rw[aZ];exact hQ)
   have v9:v<=1000000000:=by
    have:=MH hv;exact((BX h p).1 _ this).2.2
   rw[JH,li,bR,jo ⟨by lia,by rw[sl];exact nl⟩,gs.nm _ ap,bT];rw[jo ⟨q0,by lia⟩,nx,hB,hW];show some _=some _;congr 1;have:=Int.mul_ediv_add_emod (x-B) W;rw[Int.mul_comm]at this;lia
theorem HM:∀(k:Nat)(a b:Int)(n:Nat)(x:Int),1<=a->a<=4->1<=b->b<=4->a+b<=(k:Int)+1->n<2^(a-1).toNat->0<=x->x<(D7 (A0 a b) (n:Int)).getD 0->∃S,BO k a b n x=some S/\Gs k a b n x S
 |0,a,b,n,x,a1,_,b1,_,ab,_,_,_=>by lia
 |k+1,a,b,n,x,a1,a4,b1,b4,ab,hn,x0,x1=>by
  obtain⟨_,sv⟩:=LX a1 a4 b1 b4;obtain⟨v,hv,v0,vn⟩:=sv n hn;rw[hv]at x1;have x1:x<v:=x1;rw[BO];by_cases e:n=0
  .rw[jo e];subst e;have:=v0 rfl;have:x=0:=by lia
   subst this;refine⟨_,rfl,⟨.whole none,by unfold BM;rw[Fit];trivial,cJ _⟩,λ j hj=>⟨λ nb=>?_,λ z=>?_⟩,λ y y0 y1=>⟨_,af.mpr rfl,y0,y1⟩,λ Q _=>?_⟩
   .exact absurd (show(0:Int)<(j:Int)+1/\(j:Int)+1<a by lia) (nb _ (af.mpr rfl))
   .have:btB ((0:Nat):Int) j=false:=by
     have:∀j:Fin 3,btB ((0:Nat):Int) j.val=false:=by decide +kernel
     exact this ⟨j,by lia⟩
    rw[this]at z;cases z
   .rw[He,jo rfl]
  .rw[jj e];obtain⟨ve,pl⟩:=vn e;obtain⟨pa,ps,pm,_,n8⟩:=Lw a1 a4 hn;obtain⟨f0,f8⟩:=HA b1 b4;obtain⟨out,ho,gr⟩:=Ib (k:=k) b1 b4 (As (n:Int) (a-1).toNat) pa (λ p hp n x hn x0 x1=>HM k b p n x b1 b4 (Fo pa hp).1 (Fo pa hp).2 (by have:=pl p hp;lia) hn x0 x1) (BC b) x 0 f0 f8 x0 (by rw[<-ve];exact x1);refine⟨out,ho,?_,λ j hj=>?_,λ y y0 y1=>?_,λ Q hQ=>?_⟩
   .have:=gr.ct (λ z=>by rw[z,cC]at ps;lia);rw[ps,cu]at this;exact this
   .have:=gr.up ((j:Int)+1) (by lia) (by rw[ps];lia);rw[dc,pm j hj]at this;exact this
   .obtain⟨i,hi,rfl⟩:∃i:Nat,i<3/\y=(i:Int)+1:=⟨(y-1).toNat,by lia,by lia⟩;refine gr.lv i y1 ?_;obtain⟨hb,hb4,rfl⟩:=NV b1 b4;exact aI.mp (aI.mp JP hb (aQ.mpr hb4)) i (aQ.mpr (by lia))
   .rw[He,jj e];exact gr.nm [] Q (λ q hq=>nomatch hq) hQ
theorem QP{w h:Int}{N:Nat}(N8:N<=8):∀(k n:Nat)(x:Int),N<=n+k->n<=N->0<=x->x+((List.range n).map λ(i:Nat)=>CF (Au (As (i:Int) (w-1).toNat) h)).sum<((List.range N).map λ(i:Nat)=>CF (Au (As (i:Int) (w-1).toNat) h)).sum ->
  ∃(m:Nat)(y:Int),No w h k n x=some (m,y)/\m<N/\0<=y/\y<CF (Au (As (m:Int) (w-1).toNat) h)/\y+((List.range m).map λ(i:Nat)=>CF (Au (As (i:Int) (w-1).toNat) h)).sum=x+((List.range n).map λ(i:Nat)=>CF (Au (As (i:Int) (w-1).toNat) h)).sum
 |0,n,x,h1,h2,x0,lt=>by
  have:n=N:=by lia
  subst this;lia
 |k+1,n,x,h1,h2,x0,lt=>by
  have nN:n<N:=by
   refine Nat.lt_of_le_of_ne h2 λ z=>?_;subst z;lia
  rw[No,jo (by lia)];have sc:((List.range (n+1)).map λ(i:Nat)=>CF (Au (As (i:Int) (w-1).toNat) h)).sum=((List.range n).map λ(i:Nat)=>CF (Au (As (i:Int) (w-1).toNat) h)).sum+CF (Au (As (n:Int) (w-1).toNat) h):=by
   rw[bH,ai,b6];show _+(_+0)=_;rw[ce]
  by_cases c:CF (Au (As (n:Int) (w-1).toNat) h)<=x
  .rw[jo c];obtain⟨m,y,a1,a2,a3,a4,a5⟩:=QP N8 k (n+1) (x-CF (Au (As (n:Int) (w-1).toNat) h)) (by lia) nN (by lia) (by rw[sc];lia);exact⟨m,y,a1,a2,a3,a4,by rw[a5,sc];lia⟩
  .rw[jj c];exact⟨n,x,rfl,nN,x0,by lia,rfl⟩
theorem WJ:∀a:Fin 8,Builtin.bitAnd (a.val:Int) 0=0:=by decide +kernel
theorem UQ{d:BL}(h:KOk d):CF d=Ay d 0:=by
 have e:(d.filter λ p=>decide (Builtin.bitAnd p.1 0=0))=d:=cj.mpr λ p hp=>jn (by
  have k:=h.2 p hp;have:=WJ ⟨p.1.toNat,by lia⟩;rw[show((p.1.toNat:Nat):Int)=p.1 by lia]at this;exact this)
 unfold CF Ay;rw[e]
theorem N7{w h x:Int}(w1:1<=w)(w4:w<=4)(h1:1<=h)(h4:h<=4)(x0:0<=x)(x1:x<tab w h):∃out,Li w h x=some out/\Cutt out ⟨0,0,h,w⟩/\∀Q:List P4,Q.Perm out->Mz Q w h=some x:=by
 have tt:tab w h=((List.range (2^(w-1).toNat)).map λ(i:Nat)=>CF (Au (As (i:Int) (w-1).toNat) h)).sum:=by
  obtain⟨a,ha,rfl⟩:=NV w1 w4;obtain⟨b,hb,rfl⟩:=NV h1 h4;rw[show((a:Int)+1-1).toNat=a by lia];exact jF (aI.mp (aI.mp SW a (aQ.mpr ha)) b (aQ.mpr hb))
 rw[tt]at x1;have p8:2^(w-1).toNat<=8:=dP (by decide) (show(w-1).toNat<=3 by lia);obtain⟨n,y,ht,hn,y0,y1,ye⟩:=QP p8 9 0 x (by lia) (aP _) x0 (by rw[eW,b9,cC,ce];exact x1);rw[eW,b9,cC,ce]at ye;obtain⟨pa,ps,pm,_,n8⟩:=Lw w1 w4 hn;obtain⟨out,ho,gr⟩:=Ib (k:=9) h1 h4 (As (n:Int) (w-1).toNat) pa (λ p hp n x hn x0 x1=>HM 9 h p n x h1 h4 (Fo pa hp).1 (Fo pa hp).2 (by have:=(Fo pa hp).2;lia) hn x0 x1) 0 y 0 (by lia) (by lia) y0 (by rw[<-UQ (Eo h1 h4 _)];exact y1);refine⟨out,by unfold Li;rw[ht];exact ho,?_,λ Q hQ=>?_⟩
 .have:=gr.ct (λ z=>by rw[z,cC]at ps;lia);rw[ps,cu]at this;exact this
 .have li:Bs Q w h=(n:Int):=MB w1 w4 hn λ j hj=>by
   have:=gr.up ((j:Int)+1) (by lia) (by rw[ps];lia);rw[dc,pm j hj]at this;exact(nbU.perm hQ).trans this
  unfold Mz;rw[li,jo ⟨by lia,by lia⟩,gr.nm [] Q (λ q hq=>nomatch hq) hQ,bR];exact congrArg some ye
theorem L5(u:Bool):∀(t:Tr)(p:Rk),∃g∈AJ t p,g.1.hi u=p.hi u
 |.whole m,p=>⟨(p,m),af.mpr rfl,rfl⟩
 |.cut v k x y,p=>by
  obtain⟨g,hg,e⟩:=L5 u y (p.oth v k);exact⟨g,av _ hg,by rw[e];cases u<;>cases v<;>rfl⟩
theorem rise_mem{ns:List Nat}{k:Nat}:k∈GV ns↔(1<=k/\k<=4)/\k∈ns:=by
 unfold GV;rw[b7,dL];refine and_congr_left λ_=>?_;simp only[aO,bi,or_false];lia
theorem To(ns:List Nat):(GV ns).Pairwise (·<·):=List.Pairwise.filter _ (by decide)
theorem Sq{l:List Nat}(pw:l.Pairwise (·<·)){k:Nat}:k∈l.dropLast↔k∈l/\∃m∈l,k<m:=by
 by_cases e:l=[]
 .subst e;simp
 .have z:=cw e;generalize l.getLast e=x at z;generalize l.dropLast=d at z |-;subst z;have pw:=fP.mp pw
  constructor
  .intro h;exact⟨bB _ h,x,by simp,pw.2.2 k h x (by simp)⟩
  .rintro⟨h,m,hm,lt⟩;rcases az.mp h with h|h
   .exact h
   .rw[af]at h;rcases az.mp hm with hm|hm
    .have:=pw.2.2 m hm x (by simp);lia
    .rw[af]at hm;lia
noncomputable def loU(u:Bool)(q:P4):Int:=if u then q.2.1 else q.1
noncomputable def hiU(u:Bool)(q:P4):Int:=if u then q.2.2.2 else q.2.2.1
theorem Cutt.part{S:List P4}{p:Rk}{u:Bool}{z:Int}(ok:p.ok)(c:Cutt S p)(z1:p.lo u<z)(z2:z<p.hi u)(nb:∀q∈S,¬(loU u q<z/\z<hiU u q)):Cutt (S.filter λ q=>decide (hiU u q<=z)) (p.fst u (z-p.lo u))/\Cutt (S.filter λ q=>decide (loU u q>=z)) (p.oth u (z-p.lo u))/\∃q∈S,hiU u q=z:=by
 have inn:=λ q (hq:q∈S)=>c.ins ok hq;obtain⟨t,f,g⟩:=c;have lu:∀q:P4,(rk q).lo u=loU u q:=λ q=>by cases u<;>rfl
 have hu:∀q:P4,(rk q).hi u=hiU u q:=λ q=>by cases u<;>rfl
 have zz:p.lo u+(z-p.lo u)=z:=by lia
 obtain⟨_,f1,f2,g1,g2⟩:=Kg (u:=u) (a:=z-p.lo u) ok f g (by lia) (by rw[Bc];lia) (λ y hy=>by
  obtain⟨r,hr,rfl⟩:=ao.mp hy;obtain⟨q,hq,rfl⟩:=ao.mp hr;intro w;have w:(rk q).lo u<p.lo u+(z-p.lo u)/\p.lo u+(z-p.lo u)<(rk q).hi u:=w;rw[zz,lu,hu]at w;exact nb q hq w)
 rw[zz]at g1 g2;have lh:∀q∈S,loU u q<hiU u q:=λ q hq=>by
  have:=inn q hq;cases u
  .exact this.2.1
  .exact this.2.2.2.2.1
 have s1:(mks (S.map rk)).filter (λ g=>decide (g.1.lo u<z))=mks ((S.filter λ q=>decide (hiU u q<=z)).map rk):=by
  show((S.map rk).map _).filter _=((S.filter _).map rk).map _;rw[aB,aB,fc];refine congrArg (List.map _) (dq λ q hq=>?_);show decide ((rk q).lo u<z)=_;rw[lu];have:=lh q hq;have:=nb q hq;exact decide_eq_decide.mpr ⟨λ_=>by lia,λ_=>by lia⟩
 have s2:(mks (S.map rk)).filter (λ g=>decide (z<=g.1.lo u))=mks ((S.filter λ q=>decide (loU u q>=z)).map rk):=by
  show((S.map rk).map _).filter _=((S.filter _).map rk).map _;rw[aB,aB,fc];refine congrArg (List.map _) (dq λ q hq=>?_);show decide (z<=(rk q).lo u)=_;rw[lu]
 rw[s1]at g1;rw[s2]at g2;refine⟨⟨_,f1,g1⟩,⟨_,f2,g2⟩,?_⟩;obtain⟨y,hy,e⟩:=L5 u (ahd t u (z-p.lo u)) (p.fst u (z-p.lo u));obtain⟨r,hr,rfl⟩:=ao.mp (g1.mem_iff.mpr hy);obtain⟨q,hq,rfl⟩:=ao.mp hr;refine⟨q,(b7.mp hq).1,?_⟩;rw[<-hu,<-zz,<-(PM (p:=p) (u:=u) (k:=z-p.lo u)).2.2.2.2];exact e
theorem Ks{S:List P4}{p:Rk}{u:Bool}(ok:p.ok)(c:Cutt S p)(b0:0<=p.lo u)(b4:p.hi u<=4):(∀k:Nat,DY (loU u) (hiU u) S=some k->p.lo u<(k:Int)/\(k:Int)<p.hi u/\∀q∈S,¬(loU u q<(k:Int)/\(k:Int)<hiU u q))/\(DY (loU u) (hiU u) S=none->∀z,p.lo u<z->z<p.hi u->¬∀q∈S,¬(loU u q<z/\z<hiU u q)):=by
 have inn:∀q∈S,p.lo u<=loU u q/\loU u q<hiU u q/\hiU u q<=p.hi u:=λ q hq=>by
  have:=c.ins ok hq;cases u
  .exact⟨this.1,this.2.1,this.2.2.1⟩
  .exact⟨this.2.2.2.1,this.2.2.2.2.1,this.2.2.2.2.2⟩
 have cr:∀k:Nat,CP (loU u) (hiU u) S k=true↔¬∀q∈S,¬(loU u q<(k:Int)/\(k:Int)<hiU u q):=λ k=>by
  unfold CP;rw[cE]
  constructor
  .rintro⟨q,hq,z⟩ h;rw[ax,jp,jp]at z;exact h q hq z
  .intro h;refine Decidable.byContradiction λ y=>h λ q hq z=>y ⟨q,hq,?_⟩;rw[ax,jp,jp];exact z
 have mem:∀k:Nat,k∈(GV (S.map λ q=>(hiU u q).toNat)).dropLast↔(1<=k/\k<=4)/\(∃q∈S,hiU u q=(k:Int))/\∃q∈S,(k:Int)<hiU u q:=λ k=>by
  rw[Sq (To _),rise_mem]
  constructor
  .rintro⟨⟨a,b⟩,m,hm,lt⟩;obtain⟨q,hq,e⟩:=ao.mp b;obtain⟨r,hr,e2⟩:=ao.mp (rise_mem.mp hm).2;have:=inn q hq;have:=inn r hr;exact⟨a,⟨q,hq,by lia⟩,r,hr,by lia⟩
  .rintro⟨a,⟨q,hq,e⟩,r,hr,lt⟩;have:=inn r hr;exact⟨⟨a,ao.mpr ⟨q,hq,by lia⟩⟩,(hiU u r).toNat,rise_mem.mpr ⟨⟨by lia,by lia⟩,ao.mpr ⟨r,hr,rfl⟩⟩,by lia⟩
 unfold DY
 constructor
 .intro k hk;have h1:=(mem k).mp (fA hk);have h2:=List.find?_some hk;obtain⟨⟨a1,a2⟩,⟨q,hq,e⟩,r,hr,lt⟩:=h1;have i1:=inn q hq;have i2:=inn r hr;refine⟨by lia,by lia,Decidable.byContradiction λ z=>?_⟩;rw[(cr k).mpr z]at h2;cases h2
 .intro hk z z1 z2 nb;obtain⟨_,c2,q,hq,e⟩:=c.part ok z1 z2 nb;have zk:((z.toNat:Nat):Int)=z:=by lia
  have hm:=(mem z.toNat).mpr ⟨⟨by lia,by lia⟩,⟨q,hq,by lia⟩,by
   obtain⟨t,f,g⟩:=c;obtain⟨y,hy,e⟩:=L5 u t p;obtain⟨r,hr,rfl⟩:=ao.mp (g.mem_iff.mpr hy);obtain⟨q,hq,rfl⟩:=ao.mp hr;have:hiU u q=p.hi u:=by rw[<-e];cases u<;>rfl
   exact⟨q,hq,by lia⟩⟩
  have:=List.find?_eq_none.mp hk _ hm;have cf:CP (loU u) (hiU u) S z.toNat=false:=by
   cases h:CP (loU u) (hiU u) S z.toNat with
   |false=>rfl
   |true=>rw[cr,zk]at h;exact absurd nb h
  rw[cf]at this;exact this rfl
theorem Jf:∀(n:Nat)(S:List P4)(p:Rk),p.ok->(∀u,0<=p.lo u/\p.hi u<=4)->Cutt S p->p.len true+p.len false<=n->Jg n S=some true
 |0,S,p,ok,_,_,h=>by
  have:=DQ ok true;have:=DQ ok false;rw[Bc,Bc]at h;lia
 |n+1,S,p,ok,bd,c,h=>by
  have bt:∀(u:Bool)(k:Nat),p.lo u<(k:Int)->(k:Int)<p.hi u->(∀q∈S,¬(loU u q<(k:Int)/\(k:Int)<hiU u q))->QC n (loU u) (hiU u) S k=some true:=λ u k k1 k2 nb=>by
   obtain⟨c1,c2,_⟩:=c.part ok k1 k2 nb;obtain⟨o1,o2⟩:=Ic (u:=u) (k:=(k:Int)-p.lo u) ok (by lia) (by rw[Bc];lia);have hl:=h;rw[Bc,Bc]at hl;have bu:=bd u;have bt:=bd true;have bf:=bd false;unfold QC;have:=Jf n _ _ o1 (λ v=>?_) c1 ?_
   .rw[this,bT,jo rfl];refine Jf n _ _ o2 (λ v=>?_) c2 ?_
    .cases u<;>cases v<;>simp[Rk.oth,Rk.lo,Rk.hi]at bt bf bu k1 k2 |-<;>lia
    .rw[Bc,Bc];cases u<;>simp[Rk.oth,Rk.lo,Rk.hi]at hl k1 k2 |-<;>lia
   .cases u<;>cases v<;>simp[Rk.fst,Rk.lo,Rk.hi]at bt bf bu k1 k2 |-<;>lia
   .rw[Bc,Bc];cases u<;>simp[Rk.fst,Rk.lo,Rk.hi]at hl k1 k2 |-<;>lia
  rw[K1];split
  .rfl
  .rename_i len;have lt:=Ks (u:=true) ok c (bd true).1 (bd true).2;have lf:=Ks (u:=false) ok c (bd false).1 (bd false).2;split
   .rename_i k hk;obtain⟨a,b,d⟩:=lt.1 k hk;exact bt true k a b d
   .rename_i nt;split
    .rename_i k hk;obtain⟨a,b,d⟩:=lf.1 k hk;exact bt false k a b d
    .rename_i nf;obtain⟨t,f,g⟩:=c;refine absurd (QQ ok f g (by rw[aa,aa];exact len)) λ z=>z ?_;refine List.eq_nil_iff_forall_not_mem.mpr λ y hy=>?_;obtain⟨u,a⟩:=y;obtain⟨y1,y2,y3⟩:=(FD ok).mp hy;have y3:∀q∈S,¬(loU u q<a/\a<hiU u q):=λ q hq z=>by
      refine y3 (rk q) (ao.mpr ⟨(rk q,none),ao.mpr ⟨rk q,ao.mpr ⟨q,hq,rfl⟩,rfl⟩,rfl⟩) ?_;cases u<;>exact z
     cases u
     .exact lf.2 nf a y1 y2 y3
     .exact lt.2 nt a y1 y2 y3
theorem Pe{z:Int}(a:1<=z)(b:z<=4):Cb (.int z)=true:=by show(decide (1<=z)&&decide (z<=4))=true;rw[jn a,jn b];rfl
theorem CC{z:Int}(a:1<=z)(b:z<=4)(h:Cb (.int z)=false):False:=aq (h.symm.trans (Pe a b))
noncomputable def NF(w h:Int):V->Bool
 |.int i=>decide (0<=i)&&decide (i<tab w h)
 |_=>false
inductive GP(cS cN C:jd)(vs:LUz)(H:Hp)(Q:VK)(E:XK):Prop
 |mk (a b v:V) (h0:vs=[a,b,v]) (h1:Ty H a) (h2:Ty H b) (h3:Ty H v) (h4:(∀ww hh:Int,a=.int ww->b=.int hh->1<=ww->ww<=4->1<=hh->hh<=4->(∀(x:Int)(out:List P4),v=.int x->0<=x->x<tab ww hh->Cutt out ⟨0,0,hh,ww⟩->(∀Q:List P4,Q.Perm out->Mz Q ww hh=some x)->Li ww hh x=some out->∀a dx ls ld ts kvs H',Same H H'->H a=none->PanelAt C H' a ww hh ts dx ls ld kvs->(rcs ts).Perm (out.map rk)->Q (.ref a) H')/\(NF ww hh v=false->Rf H E cN λ fs _=>fs=[(("number":jD),v)]))) (h5:(Cb a=false->Rf H E cS λ fs _=>fs=[(("side":jD),a)])) (h6:(Cb a=true->Cb b=false->Rf H E cS λ fs _=>fs=[(("side":jD),b)])):GP cS cN C vs H Q E
noncomputable def EF(cS cN C:jd) :Sp:=λ vs H Q E=>GP cS cN C vs H Q E
theorem II:∀{t:Tr}{w h:Int},1<=w->1<=h->Fit t w h->(t.sz:Int)<=w*h
 |.whole _,w,h,w1,h1,_=>by
  rw[Tr.sz];have:1*1<=w*h:=dS w1 h1 (by decide) (by lia);exact this
 |.cut true k x y,w,h,w1,h1,f=>by
  rw[Fit]at f;obtain⟨a,b,c,d⟩:=f;have e1:=II (t:=x) a h1 c;have e2:=II (t:=y) (by lia) h1 d;rw[Int.sub_mul]at e2;rw[Tr.sz];lia
 |.cut false k x y,w,h,w1,h1,f=>by
  rw[Fit]at f;obtain⟨a,b,c,d⟩:=f;have e1:=II (t:=x) w1 a c;have e2:=II (t:=y) w1 (by lia) d;rw[Int.mul_sub]at e2;rw[Tr.sz];lia
theorem Cutt.til{S:List P4}{w h:Int}(w1:1<=w)(w4:w<=4)(h1:1<=h)(h4:h<=4)(c:Cutt S ⟨0,0,h,w⟩):Tiles w h (S.map rk)/\S.length<=16:=by
 obtain⟨t,f,g⟩:=c;have f:Fit t (w-0) (h-0):=f;rw[dc,dc]at f
 constructor
 .refine(NU w1 h1 f).perm ?_;have:=g.map (·.1);rw[aB]at this;refine List.Perm.trans (fR ?_) this;exact((bE (g:=id) (λ_ _=>rfl)).trans (eU _)).symm
 .have:=g.length_eq;rw[aa,aa,Eb]at this;have l:=II w1 h1 f;have:w*h<=4*4:=dS w4 h4 (by lia) (by decide);lia
theorem Mr{f:jd}{fd:jr}(F:Fun K "panel_by" "panel_by" EN f fd)(T:Txt mg tk)(ii:Pn P w K mg ja 1 "NoNumber" cN mO ["number"])(ij:Od P w K mg ja 4 "Panel" C mU (LZ K C))(fZ:Aq P w K mg ja 1 "is_whole" lU DD)(gq:Dz P w K mg ja 4 "count" lW (HX cS))(gu:Aq P w K mg ja 4 "all_strips" mM HY)(ik:Aq P w K mg ja 23 "panes_by" m8 HU):A3 P w K mg ja (CX1 P w) 24 f fd mP (EF cS cN C):=by
 have S:Ak ["width","height","number","many"] mP (Ah EN):=fsk;refine F.gx S ?_;rintro vs H Q E ⟨a,b,v,rfl,ta,tb,tv,q,r1,r2⟩;refine⟨rfl,λ cdv A i6 s hr=>?_⟩;refine⟨_,(Ab (Av 3 S.nd (Ge gq hr (R3 Hi (R4 (H:=H) (E:=E))) (Aa Ai (Aj Al))))
  (Ab (AK (PW.pt (F1 (Br (Bg (Ao fZ hr (Aj Ar)))) (DR (Br (Ii Co D4 Ac Ar Az))))) (Af (Mg Hi ii hr (Aj Ar))) A1)
  (Af (Am (OA ij hr (Aa Ai (Aa Al (Aj (Ao ik hr (Aa (Ao gu hr (Aj (AL (K4 rfl) T.z_max (Aa Ai (Aj Al))))) (Aa Ai (Aa Al (Aj Ar))))))))))))),?_⟩
 refine⟨_,rfl,_,rfl,a,b,rfl,ta,tb,λ ww hh ea eb w1 w4 h1 h4 H1 s1=>?_,λ ca=>Tp (Same.refl H) (r1 ca) KZ,λ ca cb=>Tp (Same.refl H) (r2 ca cb) KZ⟩;obtain⟨q2,rn⟩:=q ww hh ea eb w1 w4 h1 h4;subst ea eb;refine⟨_,rfl,v,rfl,tv.same s1,_,rfl,BA (λ hb=>?_) λ hb=>?_⟩
 .exact NN ⟨_,rfl,rfl,λ y dx T H2 hy s2 e ed nd hT nT=>(rn (by cases v<;>first|rfl|cases hb)).raise s1 hy s2 e ed nd hT rfl⟩
 obtain⟨number,rfl⟩:∃i,v=.int i:=by cases v<;>first|exact⟨_,rfl⟩|cases hb
 have nv0:(decide (0<=number)&&decide (number<tab ww hh))=false->NF ww hh (.int number)=false:=λ z=>z;refine⟨_,rfl,_,_,rfl,rfl,_,rfl,BA (λ n0=>?_) (λ n0=>?_)⟩
 .refine⟨_,rfl,_,_,rfl,rfl,_,rfl,BA (λ nt=>?_) (λ nt=>?_)⟩
  .have nt:decide (number<tab ww hh)=false:=by simpa using nt
   exact⟨_,rfl,rfl,λ y dx T H2 hy s2 e ed nd hT nT=>(rn (nv0 (by rw[nt,bX]))).raise s1 hy s2 e ed nd hT rfl⟩
  have n0:0<=number:=jF n0;have nt:number<tab ww hh:=by simpa using nt
  obtain⟨out,hp,ct,nm⟩:=N7 w1 w4 h1 h4 n0 nt;obtain⟨til,few⟩:=ct.til w1 w4 h1 h4;obtain⟨m1,m2,m3⟩:=RK ww hh;refine⟨_,rfl,_,rfl,_,rfl,_,rfl,_,_,rfl,_,rfl,by lia,by lia,λ st H2 s2 sa=>⟨_,rfl,_,rfl,_,rfl,st,ww,hh,_,number,out,rfl,?_,⟨w1,m1,h1,m2⟩,sa,hp,by lia,λ l H3 s3 nl ⟨ts,t1,t2,t3⟩=>?_⟩⟩
  .lia
  intro x dx nx ndx nex;have s03:=s1.trans (s2.trans s3);have sB:Same H3 (upd (upd H3 dx (.own x)) x (.ins C dx [])):=λ b o e=>by rw[Ad (Ag e nx),Ad (Ag e ndx)];exact e
  have eB:(upd (upd H3 dx (.own x)) x (.ins C dx [])) x=some (.ins C dx []):=Ae;generalize upd (upd H3 dx (.own x)) x (.ins C dx [])=HB at sB eB |-;have rr:A9 (ts.map λ t=>(t.1,rk t.2))=A9 ts:=by rw[A9,A9,aB];rfl
  have rc:rcs (ts.map λ t=>(t.1,rk t.2))=out.map rk:=by rw[rcs,aB,<-t3,aB];rfl
  have tl:=congrArg List.length t3;rw[aa]at tl;refine⟨x,dx,l,ww,hh,ts.map λ t=>(t.1,rk t.2),rfl,eB,SqL.of (by rw[rr];exact sB _ _ t1),λ t ht=>?_,by rw[rc];exact til,by rw[aa];lia,⟨w1,by lia⟩,⟨h1,by lia⟩,λ ts' ls ld kvs H4 sx pm pn=>⟨rfl,q2 number out rfl n0 nt ct nm hp x dx ls ld ts' kvs H4 (λ y o e=>sx _ _ (Ag (s03 _ _ e) nx) (sB _ _ (s03 _ _ e))) (Kk s03 nx) pn (by rw[<-rc];exact pm.map _)⟩⟩;obtain⟨u,hu,rfl⟩:=ao.mp ht;exact sB _ _ (t2 u hu)
 .exact⟨_,rfl,NN ⟨_,rfl,rfl,λ y dx T H2 hy s2 e ed nd hT nT=>(rn (nv0 (by rw[n0];rfl))).raise s1 hy s2 e ed nd hT rfl⟩⟩
theorem Ll{f tb3:jd}{fd:jr}(F:Fun K "number_of" "number_of" DK f fd)(T:Txt mg tk)(PC:QE K C)(f7:SM P w K mg ja 1 C "panes" mm (Fv C))(gl:Dz P w K mg ja 3 "check_counted" lW (Nw cS))(io:Aq P w K mg ja 9 "tree_of" my (JU tb3 C))(gu:Aq P w K mg ja 4 "all_strips" mM HY)(gm:Aq P w K mg ja 4 "lines_of" mC EG)(fV:Aq P w K mg ja 1 "parts_between" me CV)(fX:Aq P w K mg ja 2 "rows_by_lines" mh Ct)(gA:Aq P w K mg ja 24 "number_in_rows" mx (DG 9)):A3 P w K mg ja CX0 25 f fd my (G7 tb3 C):=by
 have S:Ak WS my (Ah DK):=fsk;refine F.g S ?_;rintro vs H Q E ⟨a,dx,ls,ld,ww,hh,ts,kvs,tr,out,rfl,pn,w4,h4,tab,fit,pm,hn,q⟩;refine⟨rfl,λ cdv A i6 s hr=>?_⟩;have gw:=pn.sw;have gh:=pn.sh;have few:=pn.few;unfold Mz at hn;split at hn
 case isFalse=>cases hn
 rename_i hl0;obtain⟨y,hy,rfl⟩:=ba.mp hn;obtain⟨n,en⟩:∃n:Nat,Bs ((rcs ts).map p4) ww hh=(n:Int):=⟨_,(bF hl0.1).symm⟩;rw[en]at hl0 hy q;rw[bR]at q;have pl:=λ(j:Nat)(hj:j<=n)=>DW (n:=j) gw.1 w4 (by lia);have rl:((rcs ts).map p4).length<=100:=by rw[aa,aa];lia
 refine⟨_,(Ab (Bh (Ge gl hr Hm (Aa (B9 Ai rfl) (Aj (B9 Ai rfl)))))
  (Ab (Bh (Ao io hr (Aj Ai)))
  (Ab (Av 1 S.nd (Ao gu hr (Aj (AL (K4 rfl) T.z_max (Aa (B9 Ai rfl) (Aj (B9 Ai rfl)))))))
  (Ab (Av 2 S.nd (Ao gm hr (Aa (Io f7 hr Ai) (Aa (B9 Ai rfl) (Aj (B9 Ai rfl))))))
  (Ab (Av 3 S.nd (Ao gA hr (Aa Al (Aa (Io f7 hr Ai) (Aa (Ao fV hr (Aa Ar (Aj (B9 Ai rfl)))) (Aa (B9 Ai rfl) (Aj Ac)))))))
  (Ab (AE PassesOwn.never rfl (CZ rfl T.z_range (Aj Ar)) (AW 4 S.nd) (Af (C7 (i:=3) S.nd rfl (bN rfl) (AL G3 T.z_sum (Aj (EV ci cH dj Fa (Ao fX hr (Aa Al (Aa (Ao fV hr (Aa AG (Aj (B9 Ai rfl)))) (Aj (B9 Ai rfl)))))))) Dv)))
  (Af (Am Az)))))))),?_⟩
 refine⟨_,rfl,a,C,dx,_,_,rfl,pn.ob,PC.cl,PC.n_width,Fg _ _ _ _,_,rfl,a,C,dx,_,_,rfl,pn.ob,PC.cl,PC.n_height,Fh _ _ _ _,.int ww,.int hh,rfl,⟨_,rfl⟩,⟨_,rfl⟩,λ_ _ H1 s1=>?_,λ c=>(CC gw.1 w4 c).elim,λ_ c=>(CC gh.1 h4 c).elim⟩;have pn1:=pn.same s1;refine⟨_,rfl,a,dx,ls,ld,ww,hh,ts,kvs,tr,rfl,pn1,tab.same s1,fit,pm,λ v H2 s2 tab2=>?_⟩;have pn2:=pn1.tb s2 (tab.same s1);have x2:SameX tb3 H H2:=s1.x.trans s2;obtain⟨m1,m2,m3⟩:=RK ww hh;refine⟨_,rfl,a,C,dx,_,_,rfl,pn2.ob,PC.cl,PC.n_width,Fg _ _ _ _,_,rfl,a,C,dx,_,_,rfl,pn2.ob,PC.cl,PC.n_height,Fh _ _ _ _,_,_,rfl,_,rfl,by lia,by lia,λ st H3 s3 sa=>?_⟩;have pn3:=pn2.same s3;refine⟨_,rfl,a,dx,_,rfl,pn3.ob,DX,a,dx,ls,ld,ww,hh,ts,kvs,rfl,pn3,λ l nl=>?_⟩;have pl4:=pn3.pnl nl;obtain⟨H4,e,s4,_⟩:=nw (.lst (A9 ts)) nl;rw[e]at pl4 |-;clear e;have pn4:=pn3.same s4;refine⟨_,rfl,a,C,dx,_,_,rfl,pn4.ob,PC.cl,PC.n_width,Fg _ _ _ _,_,rfl,a,C,dx,_,_,rfl,pn4.ob,PC.cl,PC.n_height,Fh _ _ _ _,l,_,ww,hh,rfl,pl4,rl,gw.1,w4,gh.1,h4,λ H5 s5=>?_⟩;rw[en];have pn5:=pn4.same s5;refine⟨_,rfl,_,rfl,a,dx,_,rfl,pn5.ob,DX,a,dx,ls,ld,ww,hh,ts,kvs,rfl,pn5,λ l6 nl6=>?_⟩;have pl6:=pn5.pnl nl6;obtain⟨H6,e,s6,_⟩:=nw (.lst (A9 ts)) nl6;rw[e]at pl6 |-;clear e;have pn6:=pn5.same s6;refine⟨_,rfl,_,rfl,a,C,dx,_,_,rfl,pn6.ob,PC.cl,PC.n_width,Fg _ _ _ _,(n:Int),ww,rfl,gw.1,w4,λ lp H7 s7 n7 h7=>?_⟩;have pn7:=pn6.same s7;have s37:=s4.trans (s5.trans (s6.trans s7));refine⟨_,rfl,a,C,dx,_,_,rfl,pn7.ob,PC.cl,PC.n_height,Fh _ _ _ _,st,l6,lp,_,_,hh,_,0,y,rfl,pl6.same s7,rl,h7,?_,λ p hp=>⟨gh.1,m2,((pl n (ah n)).1 p hp).1,by have:=((pl n (ah n)).1 p hp).2;lia⟩,sa.same s37,(pl n (ah n)).2,hy,λ H8 s8=>?_⟩
 .lia
 have s38:=s37.trans s8;have x8:SameX tb3 H H8:=x2.trans ((s3.trans s38).x);have tab8:=tab2.same (s3.trans s38);have pn8:=pn7.same s8;have sa8:=sa.same s38;refine⟨_,rfl,n,rfl,by lia,by lia,AT (lo:=0) (n:=(n:Int).toNat) (λ i σ H'=>(∃w4,σ=[some (.ref a),some (.ref st),some (.int n),some (.int (y+((List.range i).map λ(i:Nat)=>CF (Au (As i (ww-1).toNat) hh)).sum)),w4])/\Same H8 H') ⟨⟨_,by rw[eW,b9,cC,ce];rfl⟩,Same.refl _⟩ ?_ ?_⟩
 .rintro i σ H9 hi ⟨⟨w4',rfl⟩,s9⟩;rw[cu];have hi:i<n:=by lia
  have pn9:=pn8.same s9;have pi:=pl i (by lia);refine⟨_,rfl,_,rfl,_,rfl,_,rfl,a,C,dx,_,_,rfl,pn9.ob,PC.cl,PC.n_width,Fg _ _ _ _,(i:Int),ww,rfl,gw.1,w4,λ l10 H10 s10 n10 h10=>?_⟩;have pn10:=pn9.same s10;refine⟨_,rfl,a,C,dx,_,_,rfl,pn10.ob,PC.cl,PC.n_height,Fh _ _ _ _,st,l10,_,hh,rfl,gh.1,h4,h10,λ p hp=>⟨(pi.1 p hp).1,by have:=(pi.1 p hp).2;lia⟩,?_,λ d H11 s11 n11 h11=>⟨.inr (.inr (.inl ⟨rfl,.inl ⟨_,h11⟩⟩)),d,_,rfl,rfl,h11,λ v nvw=>?_⟩⟩
  .obtain⟨kvs,hst,hs⟩:=sa8;exact⟨kvs,(s9.trans s10) _ _ hst,λ a b ⟨ea,hb⟩=>by
    rw[ea];obtain⟨sd,v1,v2⟩:=hs hh b ⟨gh.1,m2,(pi.1 b hb).1,by have:=(pi.1 b hb).2;lia⟩;exact⟨sd,v1,(s9.trans s10) _ _ v2⟩⟩
  refine nv nvw λ H12 s12 e12=>?_;refine⟨v,d,_,_,rfl,e12,s12 _ _ h11,Lx _,rfl,_,_,rfl,rfl,⟨some (.int (i:Int)),?_⟩,s9.trans (s10.trans (s11.trans s12))⟩;rw[bH,ai,b6];show _=[_,_,_,some (V.int (_+(_+(CF (Au (As (i:Int) (ww-1).toNat) hh)+0)))),_];rw[ce,<-eh];rfl
 .rintro σ H9 ⟨⟨w4',rfl⟩,s9⟩;rw[bR];exact⟨_,rfl,q H9 (x8.trans s9.x) (tab8.same s9)⟩
inductive Na(K:jw)(vs:LUz)(H:Hp)(Q:VK)(E:XK):Prop
 |mk (a:jd) (ns:List Int) (k m:Int) (h0:vs=[.ref a,.int k,.int m]) (h1:SqL K H a (ns.map V.int)) (h2:0<=k) (h3:k<=50) (h4:0<=m) (h5:m<=50) (h6:∀l ms H',Same H H'->H l=none->H' l=some (.lst ((ms:List Int).map V.int))->(ms.length:Int)<=m->Q (.ref l) H'):Na K vs H Q E
noncomputable def Oo(K:jw) :Sp:=λ vs H Q E=>Na K vs H Q E
theorem Mu{f:jd}{fd:jr}(F:Fun K "_law_more" "_law_more" DP f fd)(T:Txt mg tk)(gc:Aq P w K mg ja 1 "_law_at" mI (Ra K)):A3 P w K mg ja CX0 2 f fd mQ (Oo K):=by
 have S:Ak mQ mQ (Ah DP):=fsk;refine F.g S ?_;rintro vs H Q E ⟨a,ns,k,m,rfl,hS,k0,k1,m0,m1,q⟩;refine⟨rfl,λ cdv A i6 s hr=>?_⟩;refine⟨_,(Af (Am (Bi rfl (CZ rfl T.z_range (Aj Ar)) (λ_ _ _ _ _=>pgk (nk ["_law_k","_law_script","_law_at_here"])) (λ_ _ _ _ _=>(Ao gc hr (Aa Al (Aj (Ap AC Ar Ai))))) (N:=["_law_k","_law_script","_law_at_here"]) (fr:=[none,some 0,some 1])))),?_⟩;refine⟨_,rfl,m,rfl,by lia,by lia,λ acc jb=>Fl (lo:=0) (n:=m.toNat)
  (λ i xs σ H'=>(∃y,σ=[y,some (.ref a),some (.int k)])/\Same H H'/\∃ms:List Int,xs=ms.map V.int) ⟨⟨none,rfl⟩,Same.new jb,[],rfl⟩ ?_ ?_⟩
 .rintro i xs σ H' hi hl jb' ⟨⟨y,rfl⟩,hs,ms,rfl⟩;refine⟨_,rfl,_,rfl,_,rfl,_,_,rfl,rfl,a,ns,_,rfl,hs.seq hS,by lia,by lia,λ z H2 s2=>cNx.mk (aN (An (by lia))) hi hl (s2 _ _ jb') ⟨⟨_,rfl⟩,λ b o e=>?_,ms++[z],by rw[ai];rfl⟩⟩;rw[Ad (Ag e jb)];exact s2 b o (hs b o e)
 .rintro xs σ H' hl jb' ⟨_,hs,ms,rfl⟩;exact q acc ms H' hs jb jb' (by rw[aa]at hl;lia)
inductive Jw(vs:LUz)(H:Hp)(Q:VK)(E:XK):Prop
 |mk (i j:Int) (h0:vs=[.int i,.int j]) (h1:Q (.bl (decide (V.int i=V.int j))) H):Jw vs H Q E
noncomputable def JW:Sp:=λ vs H Q E=>Jw vs H Q E
theorem Lm{f:jd}{fd:jr}(F:Fun K "_law_whole" "_law_whole" Dm f fd)(T:Txt mg tk):A3 P w K mg ja CX0 1 f fd ma JW:=by
 have S:Ak ma ma (Ah Dm):=fsk;refine F.g S ?_;rintro vs H Q E ⟨i,j,rfl,q⟩;refine⟨rfl,λ cdv A i6 s hr=>?_⟩;refine⟨_,(Af (Am (BG (AL BV T.z_isinstance (Aa Ai (Aj (Dq (v:=.ty "int") rfl T.z_int rfl rfl)))) (BG (N6 (AL BV T.z_isinstance (Aa Ai (Aj (Dq (v:=.ty "bool") rfl T.z_bool rfl rfl))))) (Ck (By op_eq Ai Al)))))),?_⟩;exact⟨_,rfl,_,"int","int",rfl,rfl,.inl rfl,_,rfl,Cn (by decide) ⟨_,rfl,_,"int","bool",rfl,rfl,.inr (.inl rfl),_,rfl,_,rfl,Cn (by decide) ⟨_,rfl,_,rfl,rfl,q⟩⟩⟩
inductive MZ(K:jw)(vs:LUz)(H:Hp)(Q:VK)(E:XK):Prop
 |mk (v:V) (d:D) (T:String) (h0:vs=[v,v]) (h1:DIs K H d v) (h2:dep d<=50) (h3:tyS H v=some T) (h4:Q (.bl true) H):MZ K vs H Q E
noncomputable def Om(K:jw) :Sp:=λ vs H Q E=>MZ K vs H Q E
theorem Mt{f:jd}{fd:jr}(F:Fun K "_law_same" "_law_same" DO f fd)(T:Txt mg tk):A3 P w K mg ja CX0 1 f fd ma (Om K):=by
 have S:Ak ma ma (Ah DO):=fsk;refine F.g S ?_;rintro vs H Q E ⟨v,d,T0,rfl,hd,dd,t1,q⟩;refine⟨rfl,λ cdv A i6 s hr=>?_⟩;refine⟨_,(Af (Am (BG (By op_eq (AL BV T.z_isinstance (Aa Ai (Aj (Dq (v:=.ty "bool") rfl T.z_bool rfl rfl)))) (AL BV T.z_isinstance (Aa Al (Aj (Dq (v:=.ty "bool") rfl T.z_bool rfl rfl))))) (Ck (By (op_eq.or (NB hr)) Ai Al))))),?_⟩;refine⟨_,rfl,v,T0,"bool",rfl,t1,.inr (.inl rfl),_,rfl,v,T0,"bool",rfl,t1,.inr (.inl rfl),rfl,_,rfl,Cn (jn rfl) ⟨_,rfl,_,rfl,?_⟩⟩;cases v with
 |ref a=>exact .inr ⟨d,d,hd,hd,⟨a,rfl⟩,⟨a,rfl⟩,dd,by rw[jj aq,Dg _ hd];exact q⟩
 |non=>exact .inl ⟨rfl,by rw[jn rfl];exact q⟩
 |bl b=>exact .inl ⟨rfl,by rw[jn rfl];exact q⟩
 |int i=>exact .inl ⟨rfl,by rw[jn rfl];exact q⟩
 |str x=>exact .inl ⟨rfl,by rw[jn rfl];exact q⟩
 |byt b=>cases t1
 |flt b=>cases t1
 |ty n=>cases t1
inductive Jy(vs:LUz)(H:Hp)(Q:VK)(E:XK):Prop
 |mk (c m:Int) (h0:vs=[.int c,.int m]) (h1:1<=m) (h2:m<=1000000000) (h3:∀r,0<=r->r<m->Q (.int r) H):Jy vs H Q E
noncomputable def JY:Sp:=λ vs H Q E=>Jy vs H Q E
theorem Ey{f:jd}{fd:jr}(F:Fun K "_law_drawn_number" "_law_drawn_number" B1 f fd)(T:Txt mg tk)(gb:Aq P w K mg ja 1 "_law_knead" mJ HV):A3 P w K mg ja CX0 2 f fd nh JY:=by
 have S:Ak ["_law_cell","_law_many","_law_way"] nh (Ah B1):=fsk;refine F.g S ?_;rintro vs H Q E ⟨c,m,rfl,m1,m9,q⟩;refine⟨rfl,λ cdv A i6 s hr=>?_⟩;have mn:(0<if m<2 then m else 2)/\(if m<2 then m else 2)<=m:=by split<;>lia
 refine⟨_,(Ab (Av 2 S.nd (Ap Bj (Ao gb hr (Aa Ai (Aj Ac))) Ac))
  (Ab (AK (A4 op_eq Ar Ac) (Af (Am (Ap Bj (Ao gb hr (Aa Ai (Aj Ac))) (AL (K3 rfl) T.z_min (Aa Ac (Aj Al)))))) A1)
  (Ab (AK (A4 op_eq Ar Ac) (Af (Am (Ap Cl (Ap Cl Al Ac) (Ap Bj (Ao gb hr (Aa Ai (Aj Ac))) (AL (K3 rfl) T.z_min (Aa Ac (Aj Al))))))) A1)
  (Af (Am (Ap Bj (Ap AC (Ap F8 Ai Ac) (Ao gb hr (Aa Ai (Aj Ac)))) Al)))))),?_⟩
 refine⟨_,rfl,c,3,rfl,by decide,by decide,λ r0 g0=>⟨_,_,rfl,rfl,(show(0:Int)<8 by decide),?_⟩⟩;refine⟨_,rfl,rfl,_,rfl,BA (λ_=>?_) (λ_=>?_)⟩
 .refine⟨_,rfl,c,4,rfl,by decide,by decide,λ r g=>⟨_,rfl,_,_,rfl,_,_,rfl,rfl,mn.1,?_⟩⟩;exact q _ (bj _ (by lia)) (dk (bp _ mn.1) mn.2)
 refine⟨_,rfl,rfl,_,rfl,BA (λ_=>?_) (λ_=>?_)⟩
 .refine⟨_,rfl,_,_,rfl,rfl,_,rfl,c,4,rfl,by decide,by decide,λ r g=>⟨_,rfl,_,_,rfl,_,_,rfl,rfl,mn.1,_,_,rfl,rfl,?_⟩⟩;have e0:=bj r (b:=if m<2 then m else 2) (by lia);have e1:=dk (bp r mn.1) mn.2;exact q _ (show(0:Int)<=m-1-_ by lia) (show m-1-_<m by lia)
 .refine⟨_,rfl,_,_,rfl,rfl,Su _ (by decide) (by decide),_,rfl,c,5,rfl,by decide,by decide,λ r g=>⟨_,_,rfl,rfl,_,rfl,_,_,rfl,rfl,(show(0:Int)<m by lia),?_⟩⟩;exact q _ (bj _ (by lia)) (bp _ (by lia))
structure RG(mg:MGz)(K:jw)(cG cS cN:jd):Prop where
 iO:mg "GlassError"=some (.ref cG)
 iD:mg "NoSide"=some (.ref cS)
 iE:mg "NoNumber"=some (.ref cN)
 x_GlassError:xG1 K cG=true
 cl:XCls K cS
 clN:XCls K cN
 n_side:jH K (.ref cS) "side"=some none
 n_number:jH K (.ref cN) "number"=some none
 m:mroIn K cS (.ref cG)=some true
 mN:mroIn K cN (.ref cG)=some true
 kSS:ka K (.ref cS) (.ref cS)=some true
 kSN:ka K (.ref cS) (.ref cN)=some false
 kNN:ka K (.ref cN) (.ref cN)=some true
 kNS:ka K (.ref cN) (.ref cS)=some false
inductive GN(vs:LUz)(H:Hp)(Q:VK)(E:XK):Prop
 |mk (a b v u:V) (nm:jD) (h0:vs=[a,b,v]) (h1:Ty H a) (h2:Ty H b) (h3:Ty H v) (h4:((∃ww hh:Int,a=.int ww/\b=.int hh/\1<=ww/\ww<=4/\1<=hh/\hh<=4/\NF ww hh v=false/\nm="number"/\u=v)\/(Cb a=false/\nm="side"/\u=a)\/(Cb a=true/\Cb b=false/\nm="side"/\u=b))) (h5:∀t H',Same H H'->H' t=some (.tup [.str nm,u])->Q (.ref t) H'):GN vs H Q E
noncomputable def HR:Sp:=λ vs H Q E=>GN vs H Q E
theorem VJ{H H1:Hp}{Q:VK}{x d:jd}{o1 o2:HO}{E1:HO}(hx:H x=some E1)(hd:H d=none):(upd (upd H d o1) x o2) x=some o2/\(upd (upd H d o1) x o2) d=some o1/\∀a o,a≠x->H a=some o->(upd (upd H d o1) x o2) a=some o :=
 ⟨Ae,by rw[Ad (Ne.symm (Ag hx hd)),Ae],λ a o ne e=>by rw[Ad ne,Ad (Ag e hd)];exact e⟩
theorem IA{f:jd}{fd:jr}(F:Fun K "__init__" "NoSide.__init__" CN f fd)(nS:XCls K cS)(nF:jH K (.ref cS) "side"=some none):A3 P w K mg ja CX0 1 f fd mH (Tc cS ["side"]):=by
 have S:Ak mH mH (Ah CN):=fsk;refine F.ok S (λ vs H Q E h=>?_) (λ cdv A i6 s H vs Q E hr h=>?_)
 .obtain⟨x,ws,rfl,hl,_⟩:=h;rw[aL,hl];rfl
 .obtain⟨x,ws,rfl,hl,hx,q⟩:=h;obtain⟨v0,rfl⟩:=Vh hl;refine⟨_,(Af (O3 Ai Al rfl)),?_⟩;refine⟨_,rfl,_,rfl,x,cS,rfl,nS,nF,.inl ⟨hx,λ d hd=>?_⟩⟩;obtain⟨e1,e2,e3⟩:=VJ (H1:=H) (Q:=Q) (o1:=Dh d [("side",v0)]) (o2:=El cS d x) hx hd;exact q d _ hd e1 e2 e3
theorem Gp{f:jd}{fd:jr}(F:Fun K "__init__" "NoNumber.__init__" Ci f fd)(nS:XCls K cN)(nF:jH K (.ref cN) "number"=some none):A3 P w K mg ja CX0 1 f fd mO (Tc cN ["number"]):=by
 have S:Ak mO mO (Ah Ci):=fsk;refine F.ok S (λ vs H Q E h=>?_) (λ cdv A i6 s H vs Q E hr h=>?_)
 .obtain⟨x,ws,rfl,hl,_⟩:=h;rw[aL,hl];rfl
 .obtain⟨x,ws,rfl,hl,hx,q⟩:=h;obtain⟨v0,rfl⟩:=Vh hl;refine⟨_,(Af (O3 Ai Al rfl)),?_⟩;refine⟨_,rfl,_,rfl,x,cN,rfl,nS,nF,.inl ⟨hx,λ d hd=>?_⟩⟩;obtain⟨e1,e2,e3⟩:=VJ (H1:=H) (Q:=Q) (o1:=Dh d [("number",v0)]) (o2:=El cN d x) hx hd;exact q d _ hd e1 e2 e3
theorem OL{f:jD}{v:V}:([(f,v)]:LFz).lookup f=some v:=by simp[List.lookup]
theorem Iy{f:jd}{fd:jr}(F:Fun K "_law_refused" "_law_refused" C4 f fd)(T:Txt mg tk)(R:RG mg K cG cS cN)(gi:Dz P w K mg ja 24 "panel_by" mP (EF cS cN C)):A3 P w K mg ja CX0 25 f fd ni HR:=by
 have S:Ak ["_law_width","_law_height","_law_number","_law_caught","_law_found","e"] ni (Ah C4):=fsk;refine F.g S ?_;rintro vs H Q E ⟨a,b,v,u,nm,rfl,ta,tb,tv,hc,q⟩;refine⟨rfl,λ cdv A i6 s hr=>?_⟩;refine⟨_,(Ab (Av 3 S.nd Gd)
  (Ab (Av 4 S.nd Gd)
  (Ab (PQ (i:=4) (im:=5) S.nd rfl (bN rfl) rfl rfl (λ_=>Wo gi hr (Aa Ai (Aa Al (Aj Ar)))) rfl R.iO R.x_GlassError rfl rfl (λ_=>(Af (Av 3 S.nd B0))))
  (Ab (AK (A4 Vd Az Gd) (Af (Am (AB (Aa DT (Aj AG))))) A1)
  (Ab (AK (PW.pt (Rp (Bg (AL Dy T.z_isinstance (Aa Az (Aj (AF (v:=.ref (cN)) rfl R.iE rfl))))) (O1 (Br (Bg (AL Dy T.z_isinstance (Aa Az (Aj (AF (v:=.ref (cS)) rfl R.iD rfl))))))))) (Af (Am (AB (Aa DT (Aj (O7 Az rfl)))))) A1)
  (Ab (AK (PW.pt (Rp (Bg (AL Dy T.z_isinstance (Aa Az (Aj (AF (v:=.ref (cS)) rfl R.iD rfl))))) (O1 (Br (Bg (AL Dy T.z_isinstance (Aa Az (Aj (AF (v:=.ref (cN)) rfl R.iE rfl))))))))) (Af (Am (AB (Aa DT (Aj (O7 Az rfl)))))) A1)
  (Af (Am (AB (Aa DT (Aj Gd))))))))))),?_⟩
 refine⟨XE H (λ C fs _=>(C=cN/\nm="number"\/C=cS/\nm="side")/\fs=[(nm,u)]),⟨_,rfl,_,rfl,_,rfl,a,b,v,rfl,ta,tb,tv,λ ww hh e1 e2 w1 w2 h1 h2=>⟨λ x out e3 x0 x1 _ _ _=>?_,λ nv=>XE.rf λ fs H' e=>?_⟩,λ ca=>XE.rf λ fs H' e=>?_,λ ca cb=>XE.rf λ fs H' e=>?_⟩,?_⟩
 .exfalso;subst e1 e2 e3;rcases hc with ⟨w',h',e1,e2,_,_,_,_,c,_⟩|⟨c,_⟩|⟨_,c,_⟩
  .cases e1;cases e2;have:(decide (0<=x)&&decide (x<tab ww hh))=false:=c;rw[jn x0,jn x1]at this;cases this
  .exact CC w1 w2 c
  .exact CC h1 h2 c
 .subst e1 e2;rcases hc with ⟨_,_,_,_,_,_,_,_,_,c1,c2⟩|⟨c,_⟩|⟨_,c,_⟩
  .rw[c1,c2];exact⟨.inl ⟨rfl,rfl⟩,e⟩
  .exact(CC w1 w2 c).elim
  .exact(CC h1 h2 c).elim
 .rcases hc with ⟨_,_,c,_,c1,c2,_⟩|⟨_,c1,c2⟩|⟨c,_⟩
  .rw[c]at ca;exact(CC c1 c2 ca).elim
  .rw[c1,c2];exact⟨.inr ⟨rfl,rfl⟩,e⟩
  .rw[ca]at c;cases c
 .rcases hc with ⟨_,_,_,c,_,_,c1,c2,_⟩|⟨c,_⟩|⟨_,_,c1,c2⟩
  .rw[c]at cb;exact(CC c1 c2 cb).elim
  .rw[ca]at c;cases c
  .rw[c1,c2];exact⟨.inr ⟨rfl,rfl⟩,e⟩
 .rintro x C' d T0 T2 H' ⟨x',C2,dx,fs,ev,rfl,hx,s34,xr,cc,rfl⟩ fl hT2 nT2;obtain rfl:x=x':=Value.ref.inj ev;obtain⟨rfl,xr',s5⟩:=Ur hx s34 xr fl hT2;obtain⟨⟨dx',ed,nd,hd⟩,T3,hxT⟩:=xr';cases ed;generalize AH H' x C2 (some dx) T2=H5 at hd hxT s5 |-;have he:SS H5 x C2:=.inl ⟨dx,_,.inr ⟨T3,hxT⟩,hd⟩;rcases cc with ⟨rfl,rfl⟩|⟨rfl,rfl⟩
  .refine⟨R.mN,_,rfl,?_⟩;refine⟨_,rfl,rfl,_,rfl,Bt (js (by intro z;cases z)) ⟨_,rfl,x,C2,.ref C2,.ref C2,true,rfl,he,R.clN,rfl,(λ_ z=>z),R.kNN,_,rfl,Cn rfl ⟨_,rfl,x,C2,.ref cS,.ref cS,false,rfl,he,R.clN,rfl,(λ_ z=>z),R.kNS,_,rfl,Cn rfl ?_⟩⟩⟩;exact⟨_,rfl,x,C2,dx,_,u,rfl,.inr ⟨T3,hxT⟩,hd,R.clN,R.n_number,OL,A8 2,λ t' ht'=>q t' _ (s5.trans (Same.new ht')) Ae⟩
  .refine⟨R.m,_,rfl,?_⟩;refine⟨_,rfl,rfl,_,rfl,Bt (js (by intro z;cases z)) ⟨_,rfl,x,C2,.ref cN,.ref cN,false,rfl,he,R.cl,rfl,(λ_ z=>z),R.kSN,_,rfl,Bt rfl (Bt rfl ?_)⟩⟩;refine⟨_,rfl,x,C2,.ref C2,.ref C2,true,rfl,he,R.cl,rfl,(λ_ z=>z),R.kSS,_,rfl,Cn rfl ⟨_,rfl,x,C2,.ref cN,.ref cN,false,rfl,he,R.cl,rfl,(λ_ z=>z),R.kSN,_,rfl,Cn rfl ?_⟩⟩;exact⟨_,rfl,x,C2,dx,_,u,rfl,.inr ⟨T3,hxT⟩,hd,R.cl,R.n_side,OL,A8 2,λ t' ht'=>q t' _ (s5.trans (Same.new ht')) Ae⟩
noncomputable def rcD(p:Rc):D:=.tup (.cons (.at (.int p.t)) (.cons (.at (.int p.l)) (.cons (.at (.int p.b)) (.cons (.at (.int p.r)) .nil))))
noncomputable def Lg:List Rc->Ds
 |[]=>.nil
 |p::r=>.cons (rcD p) (Lg r)
theorem UT{K:jw}{H:Hp}{a:jd}{p:Rc}(h:H a=some (.tup (D8 p.t p.l p.b p.r))):DIs K H (rcD p) (.ref a):=by
 unfold rcD;rw[DIs];refine⟨a,_,rfl,SqT.of h,?_⟩;rw[DIss];refine⟨_,_,rfl,by rw[DIs];exact⟨rfl,rfl⟩,?_⟩;rw[DIss];refine⟨_,_,rfl,by rw[DIs];exact⟨rfl,rfl⟩,?_⟩;rw[DIss];refine⟨_,_,rfl,by rw[DIs];exact⟨rfl,rfl⟩,?_⟩;rw[DIss];refine⟨_,_,rfl,by rw[DIs];exact⟨rfl,rfl⟩,?_⟩;rw[DIss]
theorem Oz{K:jw}{H:Hp}:∀{ts:List (jd×Rc)},At H ts->DIss K H (Lg (rcs ts)) (A9 ts)
 |[],_=>by rw[show Lg (rcs [])=.nil from rfl,DIss];rfl
 |t::r,h=>by
  show DIss K H (.cons (rcD t.2) (Lg (rcs r))) (V.ref t.1::A9 r);rw[DIss];exact⟨_,_,rfl,UT (h t aw),Oz λ u hu=>h u (ay _ hu)⟩
theorem Tq(p:Rc):dep (rcD p)=1:=by
 unfold rcD;simp[dep,D9]
theorem Md:∀ps:List Rc,D9 (Lg ps)<=1
 |[]=>by rw[show Lg []=.nil from rfl,D9];lia
 |p::r=>by
  have:=Md r;show D9 (.cons (rcD p) (Lg r))<=1;rw[D9,Tq];lia
theorem MA{K:jw}{H:Hp}{l:jd}{ts:List (jd×Rc)}(h:SqL K H l (A9 ts))(a:At H ts):DIs K H (.lst (Lg (rcs ts))) (.ref l):=by
 rw[DIs];exact⟨l,_,rfl,h,Oz a⟩
theorem Qi(ps:List Rc):dep (.lst (Lg ps))<=50:=by
 have:=Md ps;rw[dep];lia
structure RP(mg:MGz)(K:jw)(C:jd):Prop where
 iP:mg "Panel"=some (.ref C)
 i:Ng K C
 k:ka K (.ref C) (.ref C)=some true
noncomputable abbrev MW:LSz:=["_law_script","_law_width","_law_height","_law_many","_law_known","_law_cell","_law_number","_law_panel","_law_panes","_law_odd","_law_thing","_law_told"]
theorem Vu{A:jx}{k:Nat}(hr:Room k A):A.units+4<j5:=cK (dX (by decide:4<=64) _) hr.units
theorem Vv{A:jx}{k:Nat}(hr:Room k A):A.units+1<j5:=cK (dX (by decide:1<=64) _) hr.units
inductive Ps(tb3:jd)(K:jw)(vs:LUz)(H:Hp)(Q:VK)(E:XK):Prop
 |mk (a:jd) (ns:List Int) (h0:vs=[.ref a]) (h1:SqL K H a (ns.map V.int)) (h2:ns.length<=63) (h3:H tb3=some (.tbl #[])) (h4:∀H',Q (.bl true) H'):Ps tb3 K vs H Q E
noncomputable def sp_law(tb3:jd)(K:jw) :Sp:=λ vs H Q E=>Ps tb3 K vs H Q E
theorem QR{w h:Int}(w1:1<=w)(w4:w<=4)(h1:1<=h)(h4:h<=4):1<=tab w h/\tab w h<=1000000:=by
 obtain rfl|rfl|rfl|rfl:w=1\/w=2\/w=3\/w=4:=by lia
 all_goals (obtain rfl|rfl|rfl|rfl:h=1\/h=2\/h=3\/h=4:=by lia)
 all_goals decide +kernel
theorem Wq:QH 10 20:=⟨by decide,by decide,by decide⟩
theorem Wp:QH 10 30:=⟨by decide,by decide,by decide⟩
noncomputable def T6(m z y:Int):LUz:=[.int m,.int (-1),.int z,.int y,.bl true,.non,.str "0",.int (10^(30:Int).toNat)]
theorem FC{w h i:Int}(z:i<0\/tab w h<=i):NF w h (.int i)=false:=by
 show(decide (0<=i)&&decide (i<tab w h))=false;rcases z with z|z
 .rw[js (by lia)];rfl
 .rw[js (p:=i<tab w h) (by lia),bX]
theorem RA{w h z y:Int}{v:V}(w1:1<=w)(w4:w<=4)(h1:1<=h)(h4:h<=4)(hz:tab w h<=z)(hy:y<0)(m:v∈T6 (tab w h) z y):NF w h v=false/\BN v=true:=by
 unfold T6 at m;simp only[aO,bi,or_false]at m;rcases m with rfl|rfl|rfl|rfl|rfl|rfl|rfl|rfl
 .exact⟨FC (.inr (a9 _)),rfl⟩
 .exact⟨FC (.inl (by decide)),rfl⟩
 .exact⟨FC (.inr hz),rfl⟩
 .exact⟨FC (.inl hy),rfl⟩
 .exact⟨rfl,rfl⟩
 .exact⟨rfl,rfl⟩
 .exact⟨rfl,rfl⟩
 .refine⟨FC (.inr (eN (QR w1 w4 h1 h4).2 ?_)),rfl⟩;decide +kernel
noncomputable abbrev kP(p:Rc):List Key:=[.inl p.t,.inl p.l,.inl p.b,.inl p.r]
noncomputable def kL(ps:List Rc):List (List Key):=ps.map kP
theorem RY:∀x y,kL x=kL y->x=y
 |[],[],_=>rfl
 |p::x,q::y,e=>by
  unfold kL at e;rw[aJ,aJ]at e;injection e with e1 e2;injection e1 with a e1;injection e1 with b e1;injection e1 with c e1;injection e1 with d;cases p;cases q;cases a;cases b;cases c;cases d;rw[RY x y e2]
 |[],_::_,e=>by cases e
 |_::_,[],e=>by cases e
theorem OH{H:Hp}:∀{ts:List (jd×Rc)},At H ts->Nest H (kL (rcs ts)) (A9 ts)
 |[],_=>trivial
 |t::ts,h=>⟨⟨t.1,rfl,h t aw⟩,OH λ u hu=>h u (ay _ hu)⟩
theorem Hu{H:Hp}{v:V}(f:BN v=true):Ty H v:=by cases v<;>first|exact⟨_,rfl⟩|cases f
theorem Sj{K:jw}{H:Hp}{v:V}(f:BN v=true):∃d,DIs K H d v/\dep d<=50:=⟨.at v,by rw[DIs];exact⟨rfl,f⟩,by rw[dep];lia⟩
theorem NY{a:jd}{ob:PySem.Obj}{kvs:List (Key×V)}{g:TG}{te:TE}{σ:St}{H1:Hp}{acc:jd}{Qr:Hp->Prop}(Pv:Nat->LUz->St->Hp->Prop)(h0:Pv 0 [] σ (upd H1 acc (.lst [])))
  (hq:∀i xs σ H,i<=kvs.length->H acc=some (.lst xs)->Pv i xs σ H->H a=some (.frz ob (.dK kvs)))
  (hs:∀i p xs σ H,kvs[i]?=some p->i<kvs.length->xs.length=i->H acc=some (.lst xs)->Pv i xs σ H->g (kV p.1) σ H λ σ2 H2=>te σ2 H2 λ v H3=>cNx acc kvs.length Pv i σ2 v H3)
  (hd:∀xs σ H,xs.length=kvs.length->H acc=some (.lst xs)->Pv kvs.length xs σ H->Qr H) :
  ∃W:Nat->Nat->St->Hp->Prop,(∃m,W 0 m σ (upd H1 acc (.lst [])))/\∀i m σ1 H2,W i m σ1 H2 ->
   ((Itk a ob).stop i H2/\Qr H2)\/((Itk a ob).go i H2/\∀x H3,(Itk a ob).yld i H2 x H3->g x σ1 H3 λ σ4 H4=>te σ4 H4 λ v H5=>∃xs,H5 acc=some (.lst xs)/\xs.length<jt/\∃m',m'<m/\W (i+1) m' σ4 (upd H5 acc (.lst (xs++[v])))):=by
 refine⟨cW acc kvs.length Pv,⟨kvs.length,aP _,rfl,[],rfl,Ae,h0⟩,?_⟩;rintro i m σ1 H2 ⟨hi,rfl,xs,hl,ha,hp⟩;have hsq:=hq i xs σ1 H2 hi ha hp;rcases cV i kvs.length with h|h
 .refine .inr ⟨⟨kvs,kvs[i],hsq,ag h⟩,?_⟩;rintro x H3 ⟨z,hz,rfl,rfl⟩;exact hs i z xs σ1 _ (hz kvs hsq) h hl ha hp
 .have e:i=kvs.length:=b8 hi h;subst e;exact .inl ⟨⟨kvs,hsq,ah _⟩,hd xs σ1 H2 hl ha hp⟩
noncomputable abbrev KN:=List (Int×jd×List Rc)
noncomputable def knK(L:KN):List (Key×V):=L.map λ z=>(.inl z.1,.ref z.2.1)
structure KnAt(ww hh:Int)(H:Hp)(L:KN):Prop where
 nd:(L.map (·.1)).Nodup
 at_:∀z∈L,NAt H z.2.1 (kL z.2.2)/\Mz (z.2.2.map p4) ww hh=some z.1
theorem KnAt.keep{ww hh:Int}{H H':Hp}{L:KN}(k:KnAt ww hh H L)(ht:∀b ys,H b=some (.tup ys)->H' b=some (.tup ys)):KnAt ww hh H' L:=⟨k.nd,λ z hz=>⟨(k.at_ z hz).1.keep ht,(k.at_ z hz).2⟩⟩
theorem RS:∀{L:KN}{x:Int},AS (knK L) (.inl x)=none->x∉L.map (·.1)
 |[],_,_=>bi
 |z::r,x,h=>by
  have h:AS ((.inl z.1,.ref z.2.1)::knK r) (.inl x:Key)=none:=h;by_cases e:z.1=x
  .rw[AY (congrArg Sum.inl e)]at h;cases h
  .rw[AZ λ q=>e (Sum.inl.inj q)]at h;rw[aJ];intro m;rcases aO.mp m with m|m
   .exact e m.symm
   .exact RS h m
theorem Vj{ww hh:Int}{H:Hp}{x:Int}{t:jd}{R:List Rc}:∀{L:KN},KnAt ww hh H L->NAt H t (kL R)->Mz (R.map p4) ww hh=some x->∃L',BZ (knK L) (.inl x) (.ref t)=knK L'/\KnAt ww hh H L'/\L'.length<=L.length+1:=by
 intro L k nt nm;cases hv:AS (knK L) (.inl x) with
 |none =>
  refine⟨L++[(x,t,R)],?_,⟨?_,λ z hz=>?_⟩,by rw[aH];exact ah _⟩
  .rw[Rq _ hv];unfold knK;rw[ai];rfl
  .rw[ai,ez];refine⟨k.nd,fC _ _,λ a ha b hb=>?_⟩;rw[de,af]at hb;rintro rfl;rw[hb]at ha;exact RS hv ha
  .rcases az.mp hz with hz|hz
   .exact k.at_ z hz
   .cases af.mp hz;exact⟨nt,nm⟩
 |some v =>
  refine⟨L.map λ z=>if z.1=x then (x,t,R) else z,?_,⟨?_,λ z hz=>?_⟩,by rw[aa];exact bJ _⟩
  .unfold BZ;rw[jo (by rw[CU,hv];rfl)];unfold knK;rw[aB,aB];refine bE λ z _=>?_;show(if (Sum.inl z.1:Key)=.inl x then _ else _)=_;by_cases e:z.1=x
   .simp[e]
   .simp[e]
  .rw[aB];have:L.map ((·.1)∘λ z=>if z.1=x then (x,t,R) else z)=L.map (·.1):=bE λ z _=>by
    show(if z.1=x then (x,t,R) else z).1=z.1;split
    .rename_i e;exact e.symm
    .rfl
   rw[this];exact k.nd
  .obtain⟨y,hy,rfl⟩:=ao.mp hz;split
   .exact⟨nt,nm⟩
   .exact k.at_ y hy
theorem RV:∀{L:KN}{i:Nat}{z:Int×jd×List Rc},(L.map (·.1)).Nodup->L[i]?=some z->AS (knK L) (.inl z.1)=some (.ref z.2.1)
 |y::r,0,z,_,e=>by
  cases e;exact AY (p:=((.inl y.1:Key),V.ref y.2.1)) rfl
 |y::r,i+1,z,nd,e=>by
  rw[aJ,bP]at nd;have e:r[i]?=some z:=e;have ne:y.1≠z.1:=λ q=>nd.1 (q ▸ ao.mpr ⟨z,aA e,rfl⟩);exact(AZ (p:=((.inl y.1:Key),V.ref y.2.1)) λ q=>ne (Sum.inl.inj q)).trans (RV nd.2 e)
theorem OO{ww hh:Int}{H:Hp}:∀{L:KN},(∀z∈L,NAt H z.2.1 (kL z.2.2)/\Mz (z.2.2.map p4) ww hh=some z.1)->NsAt H (L.map λ z=>kL z.2.2) (L.map λ z=>V.ref z.2.1)
 |[],_=>trivial
 |z::r,h=>⟨⟨_,rfl,(h z aw).1⟩,OO λ y hy=>h y (ay _ hy)⟩
theorem W2{ww hh:Int}{H:Hp}{L:KN}(k:KnAt ww hh H L):(L.map λ z=>kL z.2.2).Nodup:=by
 have nd:=k.nd;have at_:=k.at_;clear k
 induction L with
 |nil=>exact cB
 |cons z r ih =>
  rw[aJ,bP]at nd |-;refine⟨λ m=>nd.1 ?_,ih nd.2 λ y hy=>at_ y (ay _ hy)⟩;obtain⟨y,hy,e⟩:=ao.mp m;have e:=RY _ _ e;have a:=(at_ y (ay _ hy)).2;rw[e,(at_ z aw).2]at a;rw[Option.some.inj a];exact ao.mpr ⟨y,hy,rfl⟩
theorem F7{K:jw}{H:Hp}{t:jd}{s:jD}{i:Int}(h:H t=some (.tup [V.str s,.int i])):DIs K H (.tup (.cons (.at (.str s)) (.cons (.at (.int i)) .nil))) (.ref t):=by
 rw[DIs];refine⟨t,_,rfl,SqT.of h,?_⟩;rw[DIss];refine⟨_,_,rfl,by rw[DIs];exact⟨rfl,rfl⟩,?_⟩;rw[DIss];refine⟨_,_,rfl,by rw[DIs];exact⟨rfl,rfl⟩,?_⟩;rw[DIss]
theorem Mm{s:jD}{i:Int}:dep (.tup (.cons (.at (.str s)) (.cons (.at (.int i)) .nil)))<=50:=by
 rw[dep,D9,D9,D9,dep,dep];decide
theorem OE{s:jD}{i:Int}:deq (.tup (.cons (.at (.str s)) (.cons (.at (.int i)) .nil))) (.tup (.cons (.at (.str s)) (.cons (.at (.int i)) .nil)))=true :=
 Dg (K:=[]) (H:=λ a=>if a=0 then some (.tup [V.str s,.int i]) else none) _ (F7 (t:=0) rfl)
theorem Uw{K:jw}{H H':Hp}{a:jd}{xs:LUz}(h:SqL K H a xs)(k:∀o,H a=some o->(∃ys,o=.lst ys\/∃ob,o=.frz ob (.lst ys))->H' a=some o):SqL K H' a xs:=by
 rcases h with (h|⟨ob,h⟩)|h
 .exact .inl (.inl (k _ h ⟨_,.inl rfl⟩))
 .exact .inl (.inr ⟨ob,k _ h ⟨_,.inr ⟨_,rfl⟩⟩⟩)
 .exact .inr h
theorem Pm{H:Hp}:∀{ts:List (jd×Rc)},At H ts->All2 (TupAt (λ_=>True) H) (A9 ts) ((rcs ts).map p4)
 |[],_=>trivial
 |t::ts,h=>⟨⟨t.1,rfl,trivial,h t aw⟩,Pm λ u hu=>h u (ay _ hu)⟩
theorem Vf{f tb3:jd}{fd:jr}(F:Fun K "law" "law" CB f fd)(T:Txt mg tk)(R:RP mg K C)(PC:QE K C)(gc:Aq P w K mg ja 1 "_law_at" mI (Ra K))(iq:Aq P w K mg ja 2 "_law_more" mQ (Oo K))(gb:Aq P w K mg ja 1 "_law_knead" mJ HV)
  (ir:Aq P w K mg ja 1 "_law_whole" ma JW) (gd:Aq P w K mg ja 15 "_law_cuttable" mB (EI 12)) (gB:Aq P w K mg ja 25 "_law_refused" ni HR) (iu:Aq P w K mg ja 1 "_law_same" ma (Om K)) (iw:Aq P w K mg ja 2 "_law_drawn_number" nh JY)
  (gq:Dz P w K mg ja 4 "count" lW (HX cS)) (gi:Dz P w K mg ja 24 "panel_by" mP (EF cS cN C)) (f7:SM P w K mg ja 1 C "panes" mm (Fv C)) (ix:Aq P w K mg ja 25 "number_of" my (G7 tb3 C)):A3 P w K mg ja CX0 26 f fd mR (sp_law tb3 K):=by
 have S:Ak MW mR (Ah CB):=fsk;refine F.g S ?_;rintro vs H Q E ⟨a,ns,rfl,hS,hlen,htb,q⟩;refine⟨rfl,λ cdv A i6 s hr=>?_⟩;have hu:=Vv hr;have hu4:=Vu hr;obtain⟨tD,hD,kD⟩:∃rd,PSs (B3 CX0 P w K mg ja MW "law" (Ah CB) f cdv A i6 s H E).nox ((A7 CB).drop 8) rd/\∀(x0 x3 x4 x5 x6 x7 x8 x9:Option V)(ww hh:Int)(v:V)(H1:Hp),1<=ww->ww<=4->1<=hh->hh<=4->NF ww hh v=false->BN v=true ->
   rd { nx:=λ_ H'=>Q .non H',rt:=Q } [x0,some (.int ww),some (.int hh),x3,x4,x5,x6,x7,x8,x9,some v,none] H1:=by
  refine⟨_,(Ab (Av 11 S.nd (Ao gB hr (Aa Al (Aa Ar (Aj (pv 10))))))
  (Ab (AK (PW.pt (F1 (A4 Mn (Ax Aw (pv 11) Ac) DT) (DR (Br (Bg (Ao iu hr (Aa (Ax Aw (pv 11) Ac) (Aj (pv 10))))))))) (Af (Am E5)) A1)
  (Af (Am (BG (By (NB hr) (Ao gB hr (Aa Al (Aa Ac (Aj (pv 10))))) (AB (Aa DT (Aj Ac)))) (Ck (By (NB hr) (Ao gB hr (Aa Ac (Aa Ac (Aj (pv 10))))) (AB (Aa DT (Aj Ac)))))))))),?_⟩
  intro x0 x3 x4 x5 x6 x7 x8 x9 ww hh v H1 w1 w4 h1 h4 nu fl;refine⟨_,rfl,_,rfl,_,rfl,.int ww,.int hh,v,v,"number",rfl,⟨_,rfl⟩,⟨_,rfl⟩,Hu fl,.inl ⟨ww,hh,rfl,rfl,w1,w4,h1,h4,nu,rfl,rfl⟩,λ t1 H2 s2 e2=>?_⟩;obtain⟨dd,hd,hdep⟩:=Sj (K:=K) (H:=H2) fl;obtain⟨T0,hT0⟩:=Hu (H:=H2) fl;refine⟨_,rfl,t1,_,_,_,rfl,rfl,SqT.of e2,FQ,rfl,_,rfl,Bt (by rw[jn rfl];rfl) ⟨_,rfl,t1,_,_,_,rfl,rfl,SqT.of e2,FP,_,rfl,v,dd,T0,rfl,hd,hdep,hT0,_,rfl,Bt rfl ?_⟩⟩;refine⟨_,rfl,_,rfl,.int ww,.int 5,v,.int 5,"side",rfl,⟨_,rfl⟩,⟨_,rfl⟩,Hu fl,.inr (.inr ⟨Pe w1 w4,rfl,rfl,rfl⟩),λ t2 H3 s3 e3=>?_⟩;refine⟨A8 2,λ t3 n3=>?_⟩;refine nv n3 λ H4 s4 e4=>?_;refine⟨.tup (.cons (.at (.str "side")) (.cons (.at (.int 5)) .nil)),.tup (.cons (.at (.str "side")) (.cons (.at (.int 5)) .nil)),F7 (s4 _ _ e3),F7 e4,⟨_,rfl⟩,⟨_,rfl⟩,Mm,_,rfl,?_⟩;refine Cn OE ⟨_,rfl,.int 0,.int 5,v,.int 0,"side",rfl,⟨_,rfl⟩,⟨_,rfl⟩,Hu fl,.inr (.inl ⟨rfl,rfl,rfl⟩),λ t5 H5 s5 e5=>?_⟩;refine⟨A8 2,λ t6 n6=>?_⟩;refine nv n6 λ H6 s6 e6=>?_;refine⟨.tup (.cons (.at (.str "side")) (.cons (.at (.int 0)) .nil)),.tup (.cons (.at (.str "side")) (.cons (.at (.int 0)) .nil)),F7 (s6 _ _ e5),F7 e6,⟨_,rfl⟩,⟨_,rfl⟩,Mm,?_⟩;rw[show deq (.tup (.cons (.at (.str "side")) (.cons (.at (.int 0)) .nil))) (.tup (.cons (.at (.str "side")) (.cons (.at (.int 0)) .nil)))=true from OE];exact q _
 obtain⟨tC,hC,kC⟩:∃rd,PSs (B3 CX0 P w K mg ja MW "law" (Ah CB) f cdv A i6 s H E).nox ((A7 CB).drop 6) rd/\∀(x4 x5 x6 x7 x8:Option V)(ww hh:Int)(H1:Hp),1<=ww->ww<=4->1<=hh->hh<=4->SqL K H1 a (ns.map V.int) ->
   rd { nx:=λ_ H'=>Q .non H',rt:=Q } [some (.ref a),some (.int ww),some (.int hh),some (.int (tab ww hh)),x4,x5,x6,x7,x8,none,none,none] H1:=by
  refine⟨_,(Ab (Av 9 S.nd (B8 (Aa Az (Aa (Im ED Ac) (Aa (Ap AC Az (Ap Bj (Ao gc hr (Aa Ai (Aj Ac))) (Ap Lj Ac Ac))) (Aa (Ap Cl (Im ED Ac) (Ap Bj (Ao gc hr (Aa Ai (Aj Ac))) (Ap Lj Ac Ac))) (Aa E5 (Aa Gd (Aa DT (Aj (Ap Lj Ac Ac)))))))))))
  (Ab (Av 10 S.nd (Ax Du (pv 9) (Ap Bj (Ao gb hr (Aa (Ao gc hr (Aa Ai (Aj Ac))) (Aj Ac))) Ac)))
  hD)),?_⟩
  intro x4 x5 x6 x7 x8 ww hh H1 w1 w4 h1 h4 hS1;refine⟨_,rfl,_,rfl,_,rfl,_,rfl,a,ns,1,rfl,hS1,by decide,by decide,λ z H2 s2=>⟨_,_,rfl,rfl,Wq,_,_,rfl,rfl,(show(0:Int)<10^(20:Int).toNat from by decide),_,_,rfl,rfl,?_⟩⟩;refine⟨_,rfl,_,rfl,a,ns,1,rfl,s2.seq hS1,by decide,by decide,λ z2 H3 s3=>⟨_,_,rfl,rfl,Xs,_,_,rfl,rfl,(show(0:Int)<10^(9:Int).toNat from by decide),_,_,rfl,rfl,_,_,rfl,rfl,Wp,A8 8,λ o ho=>?_⟩⟩;have hz:tab ww hh<=tab ww hh+z % 10^(20:Int).toNat:=by
   have:=bj z (b:=10^(20:Int).toNat) (by decide);lia
  have hy:-2-z2 % 10^(9:Int).toNat<0:=by
   have:=bj z2 (b:=10^(9:Int).toNat) (by decide);lia
  obtain⟨H4,e,s4,e4⟩:=nw (.lst (T6 (tab ww hh) (tab ww hh+z % 10^(20:Int).toNat) (-2-z2 % 10^(9:Int).toNat))) ho;refine Eq.mpr (congrArg _ e) ?_;refine⟨_,rfl,_,rfl,a,ns,1,rfl,(s2.trans (s3.trans s4)).seq hS1,by decide,by decide,λ z3 H5 s5=>⟨_,6,rfl,by decide,by decide,λ r r0=>?_⟩⟩;obtain⟨v,hv,hm⟩:=VB (L:=T6 (tab ww hh) (tab ww hh+z % 10^(20:Int).toNat) (-2-z2 % 10^(9:Int).toNat)) (i:=r % 8) (bj _ (by decide)) (bp _ (by decide));obtain⟨nu,fl⟩:=RA w1 w4 h1 h4 hz hy hm;exact⟨_,_,rfl,rfl,(show(0:Int)<8 from by decide),o,_,_,v,rfl,rfl,SqL.of (s5 _ _ e4),hv,kD _ _ _ _ _ _ _ _ ww hh v H5 w1 w4 h1 h4 nu fl⟩
 obtain⟨tB,hB,kB⟩:∃rd,PSs (B3 CX0 P w K mg ja MW "law" (Ah CB) f cdv A i6 s H E).nox ((A7 CB).drop 5) rd/\∀(x5 x6 x7 x8:Option V)(d:jd)(L:KN)(ww hh:Int)(H1:Hp),1<=ww->ww<=4->1<=hh->hh<=4->SqL K H1 a (ns.map V.int)->H1 d=some (.dK (knK L))->KnAt ww hh H1 L->L.length<=3 ->
   rd { nx:=λ_ H'=>Q .non H',rt:=Q } [some (.ref a),some (.int ww),some (.int hh),some (.int (tab ww hh)),some (.ref d),x5,x6,x7,x8,none,none,none] H1:=by
  refine⟨_,(Ab (AK (A4 Mn (Tz hu4 rfl rfl T.z_len rfl T.z_set (Bi rfl (Ru AG) (λ_ _ _ _ _=>pgk (nk ["_law_number","_law_known"])) (λ_ _ _ _ _=>(Dp hu Al Ai)) (N:=["_law_number","_law_known"]) (fr:=[none,some 4]))) (AL QA T.z_len (Aj AG))) (Af (Am E5)) A1)
  hC),?_⟩
  intro x5 x6 x7 x8 d L ww hh H1 w1 w4 h1 h4 hS1 hd kn l3;have kl:(knK L).length=L.length:=aa _;refine⟨_,rfl,d,knK L,rfl,.inl hd,λ ob acc jb=>?_⟩;have eF:(upd H1 d (.frz ob (.dK (knK L)))) d=some (.frz ob (.dK (knK L))):=Ae;have kF:∀b o,b≠d->H1 b=some o->(upd H1 d (.frz ob (.dK (knK L)))) b=some o:=λ b o n e=>by rw[Ad n];exact e
  have tF:∀b ys,H1 b=some (.tup ys)->(upd H1 d (.frz ob (.dK (knK L)))) b=some (.tup ys):=λ b ys e=>kF b _ (Bp e hd (λ z=>nomatch z)) e;have sF:SqL K (upd H1 d (.frz ob (.dK (knK L)))) a (ns.map V.int):=Uw hS1 λ o e z=>kF _ _ (λ q=>by rw[q,hd]at e;cases e;rcases z with ⟨_,z|⟨_,z⟩⟩<;>cases z) e;generalize upd H1 d (.frz ob (.dK (knK L)))=HF at jb eF tF sF |-;clear kF;have knF:=kn.keep tF;refine NY (a:=d) (ob:=ob) (kvs:=knK L) (λ i xs σ H'=>(∃y,σ=[y,some (.ref d)])/\Same HF H'/\xs=(L.take i).map λ z=>V.ref z.2.1) ⟨⟨none,rfl⟩,Same.new jb,rfl⟩ (λ i xs σ H' _ _ p=>p.2.1 _ _ eF) ?_ ?_
  .rintro i p xs σ H' hp hi hl jb' ⟨⟨y,rfl⟩,hs,rfl⟩;obtain⟨z,hz,rfl⟩:∃z,L[i]?=some z/\p=(.inl z.1,.ref z.2.1):=by
    unfold knK at hp;rw[aE]at hp;cases hz:L[i]? with
    |none=>rw[hz]at hp;cases hp
    |some z=>rw[hz]at hp;cases hp;exact⟨z,rfl,rfl⟩
   refine⟨_,rfl,_,rfl,d,.ref z.2.1,rfl,.inl ⟨knK L,.inl z.1,.inr ⟨ob,hs _ _ eF⟩,rfl,(RV kn.nd hz).symm⟩,cNx.mk (aN (An (by lia))) hi hl jb' ⟨⟨_,rfl⟩,λ b o e=>?_,by rw[aS,hz,ai];rfl⟩⟩;rw[Ad (Ag e jb)];exact hs b o e
  .rintro xs σ H' hl jb' ⟨_,hs,rfl⟩;have knS:=knF.keep λ b ys e=>hs b _ e;rw[kl,aM]at jb';refine⟨acc,_,_,rfl,SqL.of jb',OO knS.at_,by rw[aa];exact l3,W2 knS,_,rfl,d,knK L,rfl,.inr ⟨ob,hs _ _ eF⟩,rfl,_,rfl,Bt (by rw[aa,kl,jn rfl];rfl) ?_⟩;exact kC _ _ _ _ _ ww hh H' w1 w4 h1 h4 (hs.seq sF)
 obtain⟨tA,hA,kA⟩:∃rd,PSs (B3 CX0 P w K mg ja MW "law" (Ah CB) f cdv A i6 s H E).nox ((A7 CB).drop 3) rd/\∀(ww hh:Int)(H1:Hp),1<=ww->ww<=4->1<=hh->hh<=4->SqL K H1 a (ns.map V.int)->H1 tb3=some (.tbl #[]) ->
   rd { nx:=λ_ H'=>Q .non H',rt:=Q } [some (.ref a),some (.int ww),some (.int hh),some (.int (tab ww hh)),none,none,none,none,none,none,none,none] H1:=by
  refine⟨_,(Ab (N2 (i:=4) S.nd rfl (dv rfl) Ml)
  (Ab (AE PassesOwn.never rfl (A6 (Ao iq hr (Aa Ai (Aa Ac (Aj Ac))))) (AW 5 S.nd) (Ab (Av 6 S.nd (Ao iw hr (Aa B0 (Aj Az))))
  (Ab (Av 7 S.nd (Ge gi hr Hm (Aa Al (Aa Ar (Aj (pv 6))))))
  (Ab (AK (PW.pt (F1 (Br (Bg (AL Oa T.z_isinstance (Aa (pv 7) (Aj (AF (v:=.ref (C)) rfl R.iP rfl)))))) (F1 (A4 Mn (B9 (pv 7) rfl) Al) (DR (A4 Mn (B9 (pv 7) rfl) Ar))))) (Af (Am E5)) A1)
  (Ab (Av 8 S.nd (Io f7 hr (pv 7)))
  (Ab (AK (PW.pt (F1 (Br (Bg (Ao gd hr (Aj (pv 8))))) (DR (Br (Bg (Ao ir hr (Aa (Ao ix hr (Aj (pv 7))) (Aj (pv 6))))))))) (Af (Am E5)) A1)
  (Ab (AK (A4 (R6 hr) (Io f7 hr (Ge gi hr Hm (Aa Al (Aa Ar (Aj (pv 6)))))) (pv 8)) (Af (Am E5)) A1)
  (Af (Er hu AG (pv 6) (Gf E9 rfl T.z_tuple rfl (Aj (pv 8))) rfl)))))))))
  hB)),?_⟩
  intro ww hh H1 w1 w4 h1 h4 hS1 tab1;obtain⟨tb1,tb9⟩:=QR w1 w4 h1 h4;intro d nd;refine nv nd λ H2 s2 e2=>?_;refine⟨_,rfl,a,ns,1,3,rfl,s2.seq hS1,by decide,by decide,by decide,by decide,λ l ms H3 s3 nl el ml=>⟨l,rfl,⟨_,SqL.of el⟩,?_⟩⟩;have s13:=s2.trans s3;refine Bu (K:=K) (a:=l) (xs:=ms.map V.int) (λ i σ H'=>(∃x5 x6 x7 x8,σ=[some (.ref a),some (.int ww),some (.int hh),some (.int (tab ww hh)),some (.ref d),x5,x6,x7,x8,none,none,none])/\SqL K H' a (ns.map V.int)/\H' l=some (.lst (ms.map V.int))/\TabOk GF FE tb3 H'/\∃L,H' d=some (.dK (knK L))/\KnAt ww hh H' L/\L.length<=i)
   ⟨⟨_,_,_,_,rfl⟩,s13.seq hS1,el,TabOk.new (s13 _ _ tab1),[],s3 _ _ e2,⟨cB,λ_ z=>nomatch z⟩,ah _⟩ (λ i σ H' _ hp=>SqL.of hp.2.2.1) ?_ ?_
  .rintro i x σ H4 hx ⟨⟨x5,x6,x7,x8,rfl⟩,sq4,l4,tab4,L,d4,kn4,ll⟩;obtain⟨c,rfl⟩:∃c:Int,x=.int c:=by
    rw[aE]at hx;cases hz:ms[i]? with
    |none=>rw[hz]at hx;cases hx
    |some z=>rw[hz]at hx;cases hx;exact⟨z,rfl⟩
   have im:i<3:=by
    have:=(aF.mp hx).1;rw[aa]at this;lia
   refine⟨_,rfl,_,rfl,c,tab ww hh,rfl,tb1,by lia,λ x x0 x1=>?_⟩;have nvt:NF ww hh (.int x)=true:=by
    show(decide (0<=x)&&decide (x<tab ww hh))=true;rw[jn x0,jn x1];rfl
   refine⟨_,rfl,_,rfl,_,rfl,.int ww,.int hh,.int x,rfl,⟨_,rfl⟩,⟨_,rfl⟩,⟨_,rfl⟩,λ w' h' q1 q2 _ _ _ _=>⟨λ x' out q3 _ _ ct nm hp a2 dx ls ld tz kvs H5 s5 na pn pm=>?_,λ nu=>?_⟩,λ c=>(CC w1 w4 c).elim,λ_ c=>(CC h1 h4 c).elim⟩
   rotate_left
   .cases q1;cases q2;rw[nvt]at nu;cases nu
   cases q1;cases q2;cases q3;have okR:Rk.ok ⟨0,0,hh,ww⟩:=⟨by show(0:Int)<hh;lia,by show(0:Int)<ww;lia⟩;obtain⟨S2,hS2⟩:∃S2,S2=(rcs tz).map p4:=⟨_,rfl⟩;have pS:S2.Perm out:=by
    have:=pm.map p4;rw[<-hS2,aB]at this;refine this.trans (fR ?_);exact(bE (g:=id) (λ_ _=>rfl)).trans (eU _)
   have cS2:=ct.perm pS;have rS:S2.map rk=rcs tz:=by
    rw[hS2,aB];exact(bE (g:=id) (λ_ _=>rfl)).trans (eU _)
   obtain⟨til,few⟩:=cS2.til w1 w4 h1 h4;have cg:=Jf 12 S2 ⟨0,0,hh,ww⟩ okR (λ u=>by cases u;exact⟨a9 0,h4⟩;exact⟨a9 0,w4⟩) cS2 (by show ww-0+(hh-0)<=12;lia);have okS:S2.all okP=true:=aI.mpr λ p hp=>by
    have z:=cS2.ins okR hp;unfold okP;simp only[ax,decide_eq_true_eq];have z1:p.2.2.1<=hh:=z.2.2.1;have z2:p.2.2.2<=ww:=z.2.2.2.2.2;have z3:(0:Int)<=p.1:=z.1;have z4:(0:Int)<=p.2.1:=z.2.2.2.1;have z5:=z.2.1;have z6:=z.2.2.2.2.1;lia
   have num:=nm S2 pS;refine⟨_,rfl,a2,C,dx,_,_,.ref C,true,rfl,pn.ob,R.i,rfl,Xk,R.k,_,rfl,Bt rfl ⟨_,rfl,a2,C,dx,_,_,rfl,pn.ob,PC.cl,PC.n_width,Fg _ _ _ _,_,rfl,rfl,_,rfl,Bt (by rw[jn rfl];rfl) ⟨_,rfl,a2,C,dx,_,_,rfl,pn.ob,PC.cl,PC.n_height,Fh _ _ _ _,_,rfl,rfl,_,rfl,Bt (by rw[jn rfl];rfl) ?_⟩⟩⟩;refine⟨_,rfl,a2,dx,_,rfl,pn.ob,DX,a2,dx,ls,ld,ww,hh,tz,kvs,rfl,pn,λ l6 nl6=>?_⟩;refine nv nl6 λ H6 s6 e6=>?_;have pn6:=pn.same s6;refine⟨_,rfl,.ref l6,S2,true,rfl,⟨l6,_,rfl,trivial,e6,by rw[hS2];exact Pm pn6.ats⟩,okS,by lia,cg,λ H7 s7=>⟨_,rfl,Bt rfl ?_⟩⟩;have pn7:=pn6.same s7;obtain⟨t,fit,pmt⟩:=cS2;rw[rS]at pmt;refine⟨_,rfl,a2,dx,ls,ld,ww,hh,tz,kvs,t,x,rfl,pn7,w4,h4,TabOk.same tab4 (s5.trans (s6.trans s7)),fit,pmt,by rw[<-hS2];exact num,λ H8 s8 tab8=>?_⟩;obtain⟨tps,etb,_⟩:=TabOk.same tab4 (s5.trans (s6.trans s7));have n8:∀b o,H7 b=some o->(∀ps,o≠.tbl ps)->H8 b=some o:=λ b o e n=>s8 b o (λ z=>by rw[z,etb]at e;cases e;exact n _ rfl) e;have k48:∀b o,H4 b=some o->(∀ps,o≠.tbl ps)->H8 b=some o:=λ b o e n=>n8 b o (s7 _ _ (s6 _ _ (s5 _ _ e))) n;have at8:At H8 tz:=λ t ht=>n8 _ _ (pn7.ats t ht) (λ_ z=>nomatch z);have l8:H8 l6=some (.lst (A9 tz)):=n8 _ _ (s7 _ _ e6) (λ_ z=>nomatch z);refine⟨_,rfl,_,_,rfl,_,rfl,Bt (by rw[jn rfl];rfl) ?_⟩;refine⟨_,rfl,_,rfl,_,rfl,.int ww,.int hh,.int x,rfl,⟨_,rfl⟩,⟨_,rfl⟩,⟨_,rfl⟩,λ w' h' q1 q2 _ _ _ _=>⟨λ x' out' q3 _ _ ct' nm' hp' a3 dx3 ls3 ld3 tz3 kvs3 H9 s9 na9 pn9 pm9=>?_,λ nu=>?_⟩,λ c=>(CC w1 w4 c).elim,λ_ c=>(CC h1 h4 c).elim⟩
   rotate_left
   .cases q1;cases q2;rw[nvt]at nu;cases nu
   cases q1;cases q2;cases q3;have eo:out'=out:=Option.some.inj (hp'.symm.trans hp);subst eo;have er:rcs tz3=rcs tz:=GB.sorted_same (w:=ww) (h:=hh) pn9.til.ins (by lia) (by lia) (pm9.trans pm.symm) pn9.srt pn.srt;refine⟨a3,dx3,_,rfl,pn9.ob,DX,a3,dx3,ls3,ld3,ww,hh,tz3,kvs3,rfl,pn9,λ l10 nl10=>?_⟩;refine nv nl10 λ H10 s10 e10=>?_;have s810:=s9.trans s10;have D3:=MA (K:=K) (SqL.of e10) (pn9.ats.same s10);have D1:=MA (K:=K) (SqL.of (s810 _ _ l8)) (at8.same s810);rw[er]at D3;refine⟨_,rfl,_,_,D3,D1,⟨_,rfl⟩,⟨_,rfl⟩,Qi _,_,rfl,Bt (by rw[jo rfl,Dg _ D3];rfl) ?_⟩;refine⟨_,rfl,l6,_,rfl,.inl ⟨SqL.of (s810 _ _ l8),λ t7 nt7=>?_⟩⟩;refine nv nt7 λ H11 s11 e11=>?_;have s811:=s810.trans s11;have k411:∀b o,H4 b=some o->(∀ps,o≠.tbl ps)->H11 b=some o:=λ b o e n=>s811 _ _ (k48 b o e n);have kn11:=kn4.keep λ b ys e=>k411 b _ e (λ_ z=>nomatch z);have d11:=k411 _ _ d4 (λ_ z=>nomatch z);have nk:NAt H11 t7 (kL (rcs tz)):=⟨_,e11,OH (at8.same s811)⟩;obtain⟨L',eL,kn',ll'⟩:=Vj kn11 nk (by rw[<-hS2];exact num);have kl:(knK L).length=L.length:=aa _;have tab11:=TabOk.same tab8 s811;refine⟨_,rfl,_,rfl,d,_,rfl,DPut.k (k:=.inl x) d11 (An (by lia)),⟨_,_,_,_,rfl⟩,?_,?_,?_,L',?_,?_,by lia⟩
   .refine Uw sq4 λ o e z=>?_;rw[Ad (λ q=>by rw[q,d4]at e;cases e;rcases z with ⟨_,z|⟨_,z⟩⟩<;>cases z)];exact k411 _ _ e λ ps q=>by rcases z with ⟨_,z|⟨_,z⟩⟩<;>(rw[z]at q;cases q)
   .rw[Ad (Bp l4 d4 (λ z=>nomatch z))];exact k411 _ _ l4 (λ_ z=>nomatch z)
   .obtain⟨ps,e1,e2,e3⟩:=tab11;refine⟨ps,by rw[Ad (Bp e1 d11 (λ z=>nomatch z))];exact e1,e2,?_⟩;rcases e3 with e3|⟨c,c1,c2⟩
    .exact .inl e3
    .exact .inr ⟨c,c1,by rw[Ad (Bp c2 d11 (λ z=>nomatch z))];exact c2⟩
   .rw[Ae,eL]
   .refine kn'.keep λ b ys e=>?_;rw[Ad (Bp e d11 (λ z=>nomatch z))];exact e
  .rintro σ H4 ⟨⟨x5,x6,x7,x8,rfl⟩,sq4,l4,tab4,L,d4,kn4,ll⟩;rw[aa]at ll;exact kB _ _ _ _ d L ww hh H4 w1 w4 h1 h4 sq4 d4 kn4 (by lia)
 refine⟨_,(Ab (Av 1 S.nd (Ap AC Ac (Ap Bj (Ao gb hr (Aa (Ao gc hr (Aa Ai (Aj Ac))) (Aj Ac))) Ac)))
  (Ab (Av 2 S.nd (Ap AC Ac (Ap Bj (Ao gb hr (Aa (Ao gc hr (Aa Ai (Aj Ac))) (Aj Ac))) Ac)))
  (Ab (Av 3 S.nd (Ge gq hr Hm (Aa Al (Aj Ar))))
  hA))),?_⟩
 refine⟨_,rfl,a,ns,0,rfl,hS,by decide,by decide,λ z0 H1 s1=>⟨_,1,rfl,by decide,by decide,λ r1 r10=>⟨_,_,rfl,rfl,(show(0:Int)<4 from by decide),_,_,rfl,rfl,?_⟩⟩⟩;refine⟨_,rfl,a,ns,0,rfl,s1.seq hS,by decide,by decide,λ z1 H2 s2=>⟨_,2,rfl,by decide,by decide,λ r2 r20=>⟨_,_,rfl,rfl,(show(0:Int)<4 from by decide),_,_,rfl,rfl,?_⟩⟩⟩;have w1:1<=1+r1 % 4:=by lia
 have w4:1+r1 % 4<=4:=by lia
 have h1:1<=1+r2 % 4:=by lia
 have h4:1+r2 % 4<=4:=by lia
 refine⟨_,rfl,_,rfl,⟨_,_,rfl,⟨_,rfl⟩,⟨_,rfl⟩,λ w' h' e1 e2 _ _ _ _ H3 s3=>?_,λ c=>(CC w1 w4 c).elim,λ_ c=>(CC h1 h4 c).elim⟩⟩;cases e1;cases e2;have s03:=s1.trans (s2.trans s3);exact kA _ _ H3 w1 w4 h1 h4 (s03.seq hS) (s03 _ _ htb)
noncomputable def icB(K:jw)(C:jd):Bool:=plainGet K C Str.empty&&(hasDictIn K C&&(plainOver K C&&((jH K (.ref C) "__setattr__"==some (some (.builtin "object.__setattr__")))&&((jH K (.ref C) "__class__"==some (some (.builtin "object.__class__"))) &&
 ((specialIn K (.builtin "object.__class__") "__get__"==some (some (.builtin "getset_descriptor.__get__")))&&((takesIn K (.builtin "object.__class__")==some true)&&((mroIn K C (.type "object")==some true)&&(makesIn K C&&ku K (.ref C)))))))))
theorem Lz{C:jd}(h:icB K C=true):Ng K C/\makesIn K C=true/\ku K (.ref C)=true:=by
 unfold icB at h;simp only[ax,beq_iff_eq]at h;obtain⟨a,b,c,d,e,f,g,i,j,l⟩:=h;exact⟨⟨⟨a,b,c,d⟩,e,f,g,i⟩,j,l⟩
noncomputable def Vk(K:jw)(cT cW cU cL:jd):Bool:=([(cW,"mark"),(cU,"at"),(cU,"first"),(cU,"other"),(cL,"at"),(cL,"first"),(cL,"other")]:List (jd×jD)).all (λ p=>jH K (.ref p.1) p.2==some none) &&
 ([(cW,cW,true),(cW,cU,false),(cW,cL,false),(cU,cW,false),(cL,cW,false),(cU,cU,true),(cU,cL,false),(cL,cU,false),(cL,cL,true),(cW,cT,true),(cU,cT,true),(cL,cT,true)]:List (jd×jd×Bool)).all (λ p=>ka K (.ref p.1) (.ref p.2.1)==some p.2.2)
theorem We(h:Vk K cT cW cU cL=true)(iW:Ng K cW)(iU:Ng K cU)(iL:Ng K cL)(gT:mg "Tree"=some (.ref cT))(gW:mg "Whole"=some (.ref cW))(gU:mg "Upright"=some (.ref cU))(gL:mg "Level"=some (.ref cL)):RT mg K cT cW cU cL:=by
 unfold Vk at h;rw[ax,aI,aI]at h;obtain⟨h1,h2⟩:=h;have f1:∀p∈([(cW,"mark"),(cU,"at"),(cU,"first"),(cU,"other"),(cL,"at"),(cL,"first"),(cL,"other")]:List (jd×jD)),jH K (.ref p.1) p.2=some none:=λ p hp=>beq_iff_eq.mp (h1 p hp);have f2:∀p∈([(cW,cW,true),(cW,cU,false),(cW,cL,false),(cU,cW,false),(cL,cW,false),(cU,cU,true),(cU,cL,false),(cL,cU,false),(cL,cL,true),(cW,cT,true),(cU,cT,true),(cL,cT,true)]:List (jd×jd×Bool)),ka K (.ref p.1) (.ref p.2.1)=some p.2.2:=λ p hp=>beq_iff_eq.mp (h2 p hp);simp only[List.forall_mem_cons,bi,false_implies,implies_true,and_true]at f1 f2;obtain⟨a1,a2,a3,a4,a5,a6,a7⟩:=f1;obtain⟨k1,k2,k3,k4,k5,k6,k7,k8,k9,k10,k11,k12⟩:=f2;refine⟨gT,gW,gU,gL,iW,?_,a1,?_,?_,?_,k1,?_,?_,?_,k10,?_⟩
 .intro u;cases u;exact iL;exact iU
 .intro u;cases u;exact a5;exact a2
 .intro u;cases u;exact a6;exact a3
 .intro u;cases u;exact a7;exact a4
 .intro u;cases u;exact k3;exact k2
 .intro u;cases u;exact k5;exact k4
 .intro u v;cases u<;>cases v;exact k9;exact k8;exact k7;exact k6
 .intro u;cases u;exact k12;exact k11
end
theorem Qk{α β:Type}{us:List α}{p:β}{ps:List β}(h:us.length=(p::ps).length):∃u vs,us=u::vs/\vs.length=ps.length:=by
 cases us with
 |nil=>cases h
 |cons u vs=>exact⟨u,vs,rfl,Nat.succ.inj h⟩
theorem Qj{α β:Type}{us:List α}(h:us.length=([]:List β).length):us=[]:=dw.mp h
noncomputable abbrev FB(K:jw)(x i9:jD)(st:jE)(f:jd):Prop:=∃fd,Fun K x i9 st f fd
noncomputable abbrev FJ(K:jw)(x:jD)(st:jE)(f:jd):Prop:=kg K jq x=some (some (.ref f))/\FB K x x st f
noncomputable abbrev FI(K:jw)(x:jD)(st:jE):Prop:=∃f,FJ K x st f
noncomputable abbrev MI(K:jw)(C:jd)(x i9:jD)(st:jE)(f:jd):Prop:=jH K (.ref C) x=some (some (.ref f))/\isFn K (.ref f)=true/\FB K x i9 st f
structure HC(P:jk)(w:ju)(K:jw)(mg:MGz)(ja:jy):Prop where
 ex:∃h:jy,K.In h/\h.Ns jq mg
noncomputable abbrev BOk(x i9:jD)(st:jE)(ps:LSz):Prop:=∀(kV doc pm:jg)(an:Option jd)(cdv ct:jg)(us:LWz),us.length=ps.length->bindArgs (fnOf x i9 (Bz st) (A7 st) (Ah st) .none kV doc pm an cdv ct) ⟨us,[]⟩=pure (ps.zip us)
section
variable{P:jk}{w:ju}{K:jw}{mg:MGz}{ja:jy}{x i9:jD}{st:jE}{f C:jd}{n:Nat}{ps:LSz}{sp:Sp}{v:jg}
theorem HC.g(c:HC P w K mg ja)(a:kg K jq x=some (some v)):mg x=some v:=let ⟨_,X,G⟩:=c.ex;mg_of X G a
theorem HC.d(c:HC P w K mg ja)(i:FI K x st)(ok:∀{f fd},Fun K x x st f fd->A3 P w K mg ja CX0 n f fd ps sp)(hb:BOk x x st ps:=by intro _ _ _ _ _ _ us hl;(repeat (obtain⟨_,_,e,h⟩:=Qk hl;clear hl;subst e;have hl:=h;clear h));cases Qj hl;rfl):Aq P w K mg ja n x ps sp:=let ⟨_,a,_,F⟩:=i;⟨_,_,ok F,c.g a,F.kp,F.binds hb⟩
theorem HC.dx(c:HC P w K mg ja)(i:FI K x st)(ok:∀{f fd},Fun K x x st f fd->A3 P w K mg ja (CX1 P w) n f fd ps sp)(hb:BOk x x st ps:=by intro _ _ _ _ _ _ us hl;(repeat (obtain⟨_,_,e,h⟩:=Qk hl;clear hl;subst e;have hl:=h;clear h));cases Qj hl;rfl):Dz P w K mg ja n x ps sp:=let ⟨_,a,_,F⟩:=i;⟨_,_,ok F,c.g a,F.kp,F.binds hb⟩
theorem HC.m(_:HC P w K mg ja)(l:Cls K C)(i:MI K C x i9 st f)(ok:∀fd,Fun K x i9 st f fd->A3 P w K mg ja CX0 n f fd ps sp)(hb:BOk x i9 st ps:=by intro _ _ _ _ _ _ us hl;(repeat (obtain⟨_,_,e,h⟩:=Qk hl;clear hl;subst e;have hl:=h;clear h));cases Qj hl;rfl):SM P w K mg ja n C x ps sp:=let ⟨a,b,_,F⟩:=i;⟨l,_,_,⟨a,b,F.kp⟩,ok _ F,F.binds hb⟩
theorem HC.k{cn:jD}(c:HC P w K mg ja)(m:makesIn K C=true)(k:ku K (.ref C)=true)(ac:kg K jq cn=some (some (.ref C)))(i:MI K C "__init__" i9 st f)(ok:∀fd,Fun K "__init__" i9 st f fd->A3 P w K mg ja CX0 n f fd ps sp)(hb:BOk "__init__" i9 st ps:=by intro _ _ _ _ _ _ us hl;(repeat (obtain⟨_,_,e,h⟩:=Qk hl;clear hl;subst e;have hl:=h;clear h));cases Qj hl;rfl):Od P w K mg ja n cn C ps sp:=let ⟨a,b,_,F⟩:=i;⟨_,_,⟨m,a,b,k⟩,ok _ F,c.g ac,F.binds hb⟩
theorem HC.xm{cn:jD}{ns:LSz}(c:HC P w K mg ja)(l:LN K C=true)(e:G0 K C f=true)(k:ku K (.ref C)=true)(ac:kg K jq cn=some (some (.ref C)))(i:MI K C "__init__" i9 st f)(ok:∀fd,Fun K "__init__" i9 st f fd->XCls K C->A3 P w K mg ja CX0 n f fd ps (Tc C ns))(fw:ns.length<=1000:=by decide)(hb:BOk "__init__" i9 st ps:=by intro _ _ _ _ _ _ us hl;(repeat (obtain⟨_,_,e,h⟩:=Qk hl;clear hl;subst e;have hl:=h;clear h));cases Qj hl;rfl):Pn P w K mg ja n cn C ps ns:=let ⟨a,b,_,F⟩:=i;⟨fw,_,_,⟨XCls.of l,e,k,b⟩,ok _ F (XCls.of l),c.g ac,F.binds hb⟩
end
theorem all_mk{l:OpenLaw}{w:ju}{K:jw}{h:jy}{mg:MGz}{fa:jd}(X:K.In h)(G:h.Ns jq mg)(hfa:mg "law"=some (.ref fa))
  {C:jd} (aC:kg K jq "Panel"=some (some (.ref C)))
  (pg_C:plainGet K C Str.empty=true)
  (hd_C:hasDictIn K C=true)
  (po_C:plainOver K C=true)
  (sa_C:jH K (.ref C) "__setattr__"=some (some (.builtin "object.__setattr__")))
  (mk_C:makesIn K C=true)
  (kc_C:ku K (.ref C)=true)
  (n_C_width:jH K (.ref C) "width"=some none)
  (n_C_height:jH K (.ref C) "height"=some none)
  (n_C_sorted_panes:jH K (.ref C) "sorted_panes"=some none)
  (n_C_by_square:jH K (.ref C) "by_square"=some none)
  {cT:jd} (aT:kg K jq "Tree"=some (some (.ref cT)))
  {cW:jd} (aC_cW:kg K jq "Whole"=some (some (.ref cW))) (ic_cW:icB K cW=true)
  {f_cW:jd} {od_cW an_cW:Option jd} {sl_cW:AOz} {oc_cW kV_cW dc_cW pm_cW cd_cW ct_cW:jg} {T_cW:jd} {to_cW:jg} {td_cW:Option jd} {ts_cW:AOz} {ti_cW:Array jg} {tn_cW:Nat} (a_cWcW:jH K (.ref cW) "__init__"=some (some (.ref f_cW))) (i_cW:isFn K (.ref f_cW)=true) (l_cW:K.lookup f_cW=some ⟨oc_cW,od_cW,.func (fnOf "__init__" "Whole.__init__" (Bz Bw) (A7 Bw) (Ah Bw) (.ref T_cW) kV_cW dc_cW pm_cW an_cW cd_cW ct_cW),sl_cW⟩) (cc_cW:codeIn K cd_cW "Whole.__init__"=true) (k_cW:ku K (.ref f_cW)=true) (lT_cW:K.lookup T_cW=some ⟨to_cW,td_cW,.seq ti_cW tn_cW,ts_cW⟩) (eT_cW:ti_cW=#[.none])
  {cU:jd} (aC_cU:kg K jq "Upright"=some (some (.ref cU))) (ic_cU:icB K cU=true)
  {f_cU:jd} (h_cUcU:MI K cU "__init__" "Upright.__init__" C5 f_cU)
  {cL:jd} (aC_cL:kg K jq "Level"=some (some (.ref cL))) (ic_cL:icB K cL=true)
  {f_cL:jd} (h_cLcL:MI K cL "__init__" "Level.__init__" Do f_cL)
  (kit:Vk K cT cW cU cL=true)
  {cG:jd} (aG:kg K jq "GlassError"=some (some (.ref cG))) (eG:xG1 K cG=true)
  {cS:jd} (aC_cS:kg K jq "NoSide"=some (some (.ref cS))) (kC_cS:ku K (.ref cS)=true) (nC_cS:jH K (.ref cS) "side"=some none)
  {f_cS:jd} (h_cScS:MI K cS "__init__" "NoSide.__init__" CN f_cS)
  (ei_cS:G0 K cS f_cS=true) (xc_cS:LN K cS=true) (xm_cS:mroIn K cS (.ref cG)=some true)
  {cN:jd} (aC_cN:kg K jq "NoNumber"=some (some (.ref cN))) (kC_cN:ku K (.ref cN)=true) (nC_cN:jH K (.ref cN) "number"=some none)
  {f_cN:jd} (h_cNcN:MI K cN "__init__" "NoNumber.__init__" Ci f_cN)
  (ei_cN:G0 K cN f_cN=true) (xc_cN:LN K cN=true) (xm_cN:mroIn K cN (.ref cG)=some true)
  (kt0:(ka K (.ref cS) (.ref cS)==some true)=true)
  (kt1:(ka K (.ref cS) (.ref cN)==some false)=true)
  (kt2:(ka K (.ref cN) (.ref cN)==some true)=true)
  (kt3:(ka K (.ref cN) (.ref cS)==some false)=true)
  (kt4:(ka K (.ref C) (.ref C)==some true)=true)
  (icC:icB K C=true)
  (h0:FI K "is_whole" EQ)
  (h1:FI K "is_side" Ga)
  (h2:FI K "is_rectangle" C1)
  (h3:FI K "inside" Ia)
  (h4:FI K "squares_of" Dj)
  (h5:FI K "check_sides" CK)
  (h6:FI K "check_panes" CL)
  (h7:FI K "panes_by_square" BD)
  (h8:FI K "check_covered" Cg)
  {f9:jd} (h9C:MI K C "__init__" "Panel.__init__" Dn f9)
  {f10:jd} (h10C:MI K C "panes" "Panel.panes" CM f10)
  (h11:FI K "line_breaks" CI)
  (h12:FI K "goes_through" C3)
  (h13:FI K "lines_through" Ce)
  (h14:FI K "check_counted" Ch)
  (h15:FI K "ways_to_part" Cy)
  (h16:FI K "count_of_grid" Cf)
  (h17:FI K "count_by_smaller" B7)
  (h18:FI K "count" Le)
  (h19:FI K "cut_from" ER)
  (h20:FI K "tree_from" DJ)
  (h21:FI K "first_piece" CJ)
  (h22:FI K "other_piece" CH)
  (h23:FI K "entries_by" Dk)
  (h24:FI K "entry_for" DM)
  {f25:jd} {od25 an25:Option jd} {sl25:AOz} {oc25 kV25 dc25 pm25 cd25 ct25:jg} (a25:kg K jq "cut_up"=some (some (.ref f25))) (l25:K.lookup f25=some ⟨oc25,od25,.func (fnOf "cut_up" "cut_up" (Bz Bl) (A7 Bl) (Ah Bl) .none kV25 dc25 pm25 an25 cd25 ct25),sl25⟩) (cc25:codeIn K cd25 "cut_up"=true) (k25:ku K (.ref f25)=true) {c25 tb3:jd} (ec25:cd25=.ref c25) (hC25:LF K c25 tb3=true)
  (h26:FI K "tree_of" FZ)
  (h27:FI K "all_lines" DN)
  (h28:FI K "parts_between" Cd)
  (h29:FI K "in_common" DL)
  (h30:FI K "rows_without" Cz)
  (h31:FI K "rows_by_lines" Cc)
  (h32:FI K "strips_of_size" BR)
  (h33:FI K "all_strips" Dl)
  (h34:FI K "rows_before" CG)
  (h35:FI K "strip_by" EK)
  (h36:FI K "row_by" C0)
  (h37:FI K "panes_by" EM)
  (h38:FI K "panel_by" EN)
  (h39:FI K "lines_of" EO)
  (h40:FI K "strip_at" EL)
  (h41:FI K "number_in_strips" B6)
  (h42:FI K "number_in_rows" Bb)
  (h43:FI K "number_of" DK)
  (h44:FI K "_law_at" Gb)
  (h45:FI K "_law_more" DP)
  (h46:FI K "_law_knead" BE)
  (h47:FI K "_law_whole" Dm)
  (h48:FI K "_law_cuttable" AN)
  (h49:FI K "_law_refused" C4)
  (h50:FI K "_law_same" DO)
  (h51:FI K "_law_drawn_number" B1)
  {f52:jd} (h52:FJ K "law" CB f52)
  {bm:jd} {bsl:AOz} (abm:kg K jq "__builtins__"=some (some (.ref bm))) (lbm:K.lookup bm=some ⟨.type "module",some builtinsNs,.plain,bsl⟩) (nbm1:bm≠builtinsNs) (nbm2:bm≠jq)
  (z0:kg K jq "isinstance"=some none)
  (z1:kg K jq "int"=some none)
  (z2:kg K jq "bool"=some none)
  (z3:kg K jq "tuple"=some none)
  (z4:kg K jq "list"=some none)
  (z5:kg K jq "len"=some none)
  (z6:kg K jq "range"=some none)
  (z7:kg K jq "all"=some none)
  (z8:kg K jq "any"=some none)
  (z9:kg K jq "sorted"=some none)
  (z10:kg K jq "reversed"=some none)
  (z11:kg K jq "max"=some none)
  (z12:kg K jq "enumerate"=some none)
  (z13:kg K jq "sum"=some none)
  (z14:kg K jq "set"=some none)
  (z15:kg K jq "abs"=some none)
  (z16:kg K jq "min"=some none)
  {tk0:kH} (g0:kg K jq "LONGEST_SIDE"=some (some (.int 12 tk0)))
  {tk1:kH} (g1:kg K jq "MOST_PANES"=some (some (.int 52 tk1)))
  {tk2:kH} (g2:kg K jq "WHOLE"=some (some (.str "whole" tk2)))
  {tk3:kH} (g3:kg K jq "UPRIGHT_cuts"=some (some (.str "upright" tk3)))
  {tk4:kH} (g4:kg K jq "LEVEL_cuts"=some (some (.str "level" tk4)))
  {tk5:kH} (g5:kg K jq "TOP"=some (some (.int 0 tk5)))
  {tk6:kH} (g6:kg K jq "LEFT"=some (some (.int 1 tk6)))
  {tk7:kH} (g7:kg K jq "ROOM"=some (some (.str "room" tk7)))
  {tk8:kH} (g8:kg K jq "LONGEST_COUNTED"=some (some (.int 4 tk8)))
  : ∃fd:jr,(∀(s:jf)(v:jg),BindsTo s fd ⟨[v],[]⟩ [("_law_script",v)])/\∀ja:jy,K.In ja->ja.Ns jq mg->A3 l.prog w K mg ja CX0 26 fa fd mR (sp_law tb3 K):=by
 have e:=hfa.symm.trans (mg_of X G h52.1);cases e;have T:Txt mg (tk0,tk1,tk2,tk3,tk4,tk5,tk6,tk7,tk8):=⟨jN X G z0,jN X G z1,jN X G z2,jN X G z3,jN X G z4,jN X G z5,jN X G z6,jN X G z7,jN X G z8,jN X G z9,jN X G z10,jN X G z11,jN X G z12,jN X G z13,jN X G z14,jN X G z15,jN X G z16,mg_of X G g0,mg_of X G g1,mg_of X G g2,mg_of X G g3,mg_of X G g4,mg_of X G g5,mg_of X G g6,mg_of X G g7,mg_of X G g8⟩;have PC:QE K C:=⟨⟨pg_C,hd_C,po_C,sa_C⟩,n_C_width,n_C_height,n_C_sorted_panes,n_C_by_square⟩;obtain⟨I_cW,mk_cW,kc_cW⟩:=Lz ic_cW;obtain⟨I_cU,mk_cU,kc_cU⟩:=Lz ic_cU;obtain⟨I_cL,mk_cL,kc_cL⟩:=Lz ic_cL;have R0:RT mg K cT cW cU cL:=We kit I_cW I_cU I_cL (mg_of X G aT) (mg_of X G aC_cW) (mg_of X G aC_cU) (mg_of X G aC_cL);have kq0:=beq_iff_eq.mp kt0;have kq1:=beq_iff_eq.mp kt1;have kq2:=beq_iff_eq.mp kt2;have kq3:=beq_iff_eq.mp kt3;have kq4:=beq_iff_eq.mp kt4;have hB0:VI K mg:=⟨bm,bsl,mg_of X G abm,nbm1,nbm2,lbm⟩;have RG0:RG mg K cG cS cN:=⟨mg_of X G aG,mg_of X G aC_cS,mg_of X G aC_cN,eG,XCls.of xc_cS,XCls.of xc_cN,nC_cS,nC_cN,xm_cS,xm_cN,kq0,kq1,kq2,kq3⟩;have RP0:RP mg K C:=⟨mg_of X G aC,(Lz icC).1,kq4⟩;have F_cW:FunD K "__init__" "Whole.__init__" Bw f_cW _:=⟨⟨_,_,_,_,_,_,_,_,_,_,_,tn_cW,rfl,l_cW,cc_cW,lT_cW,by rw[eT_cW]⟩,k_cW⟩;have b_cW:=F_cW.binds (ps:=mq) (ds:=[]) λ_ _ _ _ _ _ _ us hl=>by obtain⟨u0,u1,rfl⟩:=Xx ((aR us) ▸ hl);exact⟨_,rfl,rfl⟩
 have F25:=TX (st:=Bl) l25 cc25 k25 ec25;have b25:=F25.fn.binds (ps:=lZ) λ_ _ _ _ _ _ us hl=>by (repeat (obtain⟨_,_,e,h⟩:=Qk hl;clear hl;subst e;have hl:=h;clear h));cases Qj hl;rfl
 obtain⟨ha52,fd,F52⟩:=h52;obtain⟨oc,od,kV,doc,pm,an,cdv,ct,osl,rfl,lk,hcd⟩:=id F52.ex;refine⟨fnOf "law" "law" (Bz CB) (A7 CB) (Ah CB) .none kV doc pm an cdv ct,λ s v=>.of_eq rfl,λ ja _ _=>?_⟩;have c:HC l.prog w K mg ja:=⟨h,X,G⟩;have gP:Od l.prog w K mg ja 1 "Whole" cW mq (QX cW):=⟨_,_,⟨mk_cW,a_cWcW,i_cW,kc_cW⟩,JE F_cW R0,mg_of X G aC_cW,b_cW⟩;have gN:=c.k mk_cU kc_cU aC_cU h_cUcU λ_ F=>Hd F R0;have gO:=c.k mk_cL kc_cL aC_cL h_cLcL λ_ F=>JG F R0;have hU:=c.xm xc_cS ei_cS kC_cS aC_cS h_cScS λ_ F x=>IA F x nC_cS;have ii:=c.xm xc_cN ei_cN kC_cN aC_cN h_cNcN λ_ F x=>Gp F x nC_cN;have fZ:=c.d h0 λ F=>Mv F T;have gG:=c.d h1 λ F=>NE F T fZ;have gH:=c.d h2 λ F=>Ha F T fZ;have gj:=c.d h3 λ F=>Qc F;have gk:=c.d h4 λ F=>JB F T;have gI:=c.d h5 λ F=>I0 F gG;have gJ:=c.d h6 λ F=>I8 F T gH gj;have gK:=c.d h7 λ F=>EZ F T gk;have gM:=c.d h8 λ F=>Gn F gk;have ij:=c.k mk_C kc_C aC h9C λ_ F=>JF F T PC gI gJ gK gM;have f7:=c.m ⟨pg_C,hd_C,po_C,sa_C⟩ h10C λ_ F=>I9 F T PC;have gR:=c.d h11 λ F=>Ix F;have gV:=c.d h12 λ F=>Hc F T gR;have gf:=c.d h13 λ F=>Gk F T gV;have gl:=c.dx h14 λ F=>Go F T hU fZ;have gE:=c.d h15 λ F=>GX F T;have gF:=c.d h16 λ F=>Gm F;have hV:=c.d h17 λ F=>Ez F T gE gF;have gq:=c.dx h18 λ F=>R9 F T gl hV;have gQ:=c.d (sp:=EH cW cU cL) h19 λ F=>Mw F T gN gO;have ie:=c.d (sp:=La K cW cU cL) h20 λ F=>Lk F T R0 gP gQ;have gX:=c.d h21 λ F=>Iz F T;have gY:=c.d h22 λ F=>Iw F T;have g9:=c.d h23 λ F=>JC F T gX gY;have gZ:=c.d h24 λ F=>Lp F T gf;have ic:Aq l.prog w K mg ja 8 "cut_up" lZ (HW tb3):=⟨_,_,Qd F25 hC25 hB0 gj gZ g9,mg_of X G a25,k25,b25⟩;have io:=c.d h26 λ F=>ND F T PC f7 ic ie;have fY:=c.d h27 λ F=>Lq F;have fV:=c.d h28 λ F=>Gj F T;have hZ:=c.d h29 λ F=>Lo F;have f6:=c.d h30 λ F=>GY F T;have fX:=c.d h31 λ F=>Gi F fY hZ;have ig:=c.d h32 λ F=>F9 F T fY fV fX f6;have gu:=c.d h33 λ F=>JD F T ig;have gg:=c.d h34 λ F=>Iu F T f6;have iF:∀n:Nat,Aq l.prog w K mg ja (2*n+3) "strip_by" mi (BP n)->Aq l.prog w K mg ja (2*n+4) "row_by" mw (DE n):=λ n z=>c.d h36 λ F=>Qa F T fX gg f6 z;have iQ:∀n:Nat,Aq l.prog w K mg ja (2*n+3) "strip_by" mi (BP n)/\Aq l.prog w K mg ja (2*n+4) "row_by" mw (DE n):=λ n=>by
  induction n with
  |zero=>exact⟨c.d h35 λ F=>FG F Fp λ_ _ _ _=>LW,iF 0 (c.d h35 λ F=>FG F Fp λ_ _ _ _=>LW)⟩
  |succ n ih =>
   have z:Aq l.prog w K mg ja (2*(n+1)+3) "strip_by" mi (BP (n+1)):=c.d h35 λ F=>Mo F fY fV ih.2;exact⟨z,iF (n+1) z⟩
 have gz:=(iQ 9).2;have ik:=c.d h37 λ F=>Mq F T fV fX gz;have gi:=c.dx h38 λ F=>Mr F T ii ij fZ gq gu ik;have gm:=c.d h39 λ F=>Ms F T gf;have ib:=c.d h40 λ F=>Mp F T;have iG:∀n:Nat,Aq l.prog w K mg ja (2*n+5) "number_in_strips" mj (BQ n)->Aq l.prog w K mg ja (2*n+6) "number_in_rows" mx (DG n):=λ n z=>c.d h42 λ F=>FA F T fX ib gm gg f6 z;have iR:∀n:Nat,Aq l.prog w K mg ja (2*n+5) "number_in_strips" mj (BQ n)/\Aq l.prog w K mg ja (2*n+6) "number_in_rows" mx (DG n):=λ n=>by
  induction n with
  |zero=>exact⟨c.d h41 λ F=>FG F BB λ_ _ _ _=>M0,iG 0 (c.d h41 λ F=>FG F BB λ_ _ _ _=>M0)⟩
  |succ n ih =>
   have z:Aq l.prog w K mg ja (2*(n+1)+5) "number_in_strips" mj (BQ (n+1)):=c.d h41 λ F=>Ew F fY fV ih.2;exact⟨z,iG (n+1) z⟩
 have gA:=(iR 9).2;have ix:=c.d h43 λ F=>Ll F T PC f7 gl io gu gm fV fX gA;have gc:=c.d h44 λ F=>Qb F T;have iq:=c.d h45 λ F=>Mu F T gc;have gb:=c.d h46 λ F=>Ln F T;have ir:=c.d h47 λ F=>Lm F T;have iS:∀n:Nat,Aq l.prog w K mg ja (n+3) "_law_cuttable" mB (EI n):=λ n=>by
  induction n with
  |zero=>exact c.d h48 λ F=>FG F Ei λ_ _ _ _=>X7
  |succ n ih=>exact c.d h48 λ F=>GZ F T ih
 have gd:=iS 12;have gB:=c.d h49 λ F=>Iy F T RG0 gi;have iu:=c.d h50 λ F=>Mt F T;have iw:=c.d h51 λ F=>Ey F T gb;exact Vf F52 T RP0 PC gc iq gb ir gd gB iu iw gq gi f7 ix
theorem walk(tb3:jd){l:OpenLaw}{q:jk}{loose:LSz}{XP:(MGz)->jy->Prop}{YP:ju->jy->Prop}{d:DefRec}{K:lC->jw}{Ts:List jd}(hm_tb3:tb3∈Ts)(hn:l.most=some 63)(hdf:d.params.defaults=[])
  (hY:∀(w:ju)(h:jy),YP w h->(K w.params).In h) (hT:∀(w:ju)(h:jy),YP w h->∀T∈Ts,h.get? T=some (tabObj #[])/\(K w.params).lookup T=none/\∃c,CodeHd h c T)
  (F:∀(w:ju)(mg:MGz)(fa:jd)(h:jy),(K w.params).In h->h.Ns jq mg->mg d.name=some (.ref fa) ->
   ∃fd:jr,(∀(s:jf)(u:jg),BindsTo s fd ⟨[u],[]⟩ [("_law_script",u)])/\∀ja:jy,(K w.params).In ja->ja.Ns jq mg->A3 l.prog w (K w.params) mg ja CX0 26 fa fd mR (sp_law tb3 (K w.params))) :
  WalkO q loose XP YP l.row.toRowW d [] (λ f vs=>PySem.call f vs) :=
 L2.walk_ofT (n:=63) (k:=26) (x:="_law_script") (CX:=λ_=>CX0) (sp:=λ w=>sp_law tb3 (K w.params)) hn (by decide) hdf ⟨rfl,by decide,by decide⟩ hY hT F (λ_ _ a ns hl hO hS=>⟨a,ns,rfl,hS,hl,hO.2 tb3 hm_tb3,λ_=>rfl⟩) λ_ _ _ _ _ z=>z
end K42
open PySem PySem.W PyProof.Rows
set_option maxRecDepth 100000 in
set_option maxHeartbeats 0 in
theorem PySem.Challenge.cw_glazebench_k42_panels_by_numbers_holds : PySem.Challenge.rw_glazebench_k42_panels_by_numbers.Holds := by
 refine KH.prep fun said => ?_
 have fx : ∀ s, KH.Xp lS s = true → XL (KH.qv lS) [] (s.heap.nsMap jq) s.heap := fun s e => xl_of s (fT.mp e).1
 have fr : ∀ s, KH.Xp lS s = true → RecFacts (RowW.records (OpenRow.toRowW PySem.Challenge.rw_glazebench_k42_panels_by_numbers.row)) s.heap := fun s e => recFacts_of (fT.mp e).2
 refine holds_open (XP := XL (KH.qv lS) []) KH.left (L2.hookT (kHook KH.KK KH.kas KH.kas_is) KH.Ts).of (L2.hookT (kHook KH.KK KH.kas KH.kas_is) KH.Ts).keeps fx XL.keeps (by rfl) (by rfl) (by rfl) fr (by rfl) said (by decide +kernel) ?hb ?hw ?hc
 case hb => exact ⟨rfl,rfl, rfl,rfl, rfl, by decide +kernel⟩
 case hw => w_witness2
 case hc =>
  k_fill
  refine K42.walk (l := PySem.Challenge.rw_glazebench_k42_panels_by_numbers) (Ts := KH.Ts) 577 (by simp [KH.Ts]) rfl rfl (fun w h Y => PySem.W.kIn_of Y.1) ?HT ?F
  case HT =>
   intro w h Y T hT
   refine ⟨Y.2 T hT, ?_⟩
   have hT : T ∈ [577] := hT
   simp only [aO, bi, or_false] at hT
   subst hT
   ·exact ⟨by kernel_rfl, 581, L2.codeTB_of (c := 581) (T := 577) (by kernel_rfl) h (PySem.W.kIn_of Y.1)⟩
  case F =>
   intro w mg fa h KX G hmg
   refine' K42.all_mk (tb3 := 577) KX G hmg ?_ ?_ ?_ ?_ ?_ ?_ ?_ ?_ ?_ ?_ ?_ ?_ ?_ ?_ ?_ ?_ ?_ ?_ ?_ ?_ ?_ ?_ ?_ ?_ ?_ ?_ ?_ ?_ ?_ ?_ ?_ ?_ ?_ ?_ ?_ ?_ ?_ ?_ ?_ ?_ ?_ ?_ ?_ ?_ ?_ ?_ ?_ ?_ ?_ ?_ ?_ ?_ ?_ ?_ ?_ ?_ ?_ ?_ ?_ ?_ ?_ ?_ ?_ ?_ ?_ ?_ ?_ ?_ ?_ ?_ ?_ ?_ ?_ ?_ ?_ ?_ ?_ ?_ ?_ ?_ ?_ ?_ ?_ ?_ ?_ ?_ ?_ ?_ ?_ ?_ ?_ ?_ ?_ ?_ ?_ ?_ ?_ ?_ ?_ ?_ ?_ ?_ ?_ ?_ ?_ ?_ ?_ ?_ ?_ ?_ ?_ ?_ ?_ ?_ ?_ ?_ ?_ ?_ ?_ ?_ ?_ ?_ ?_ ?_ ?_ ?_ ?_ ?_ ?_ ?_ ?_ ?_ ?_ ?_ ?_ ?_ ?_ ?_ <;> try first | k_is | exact ⟨_, by k_is, _, ⟨⟨_,_,_,_,_,_,_,_,_,rfl, by k_is, by k_is⟩, by k_is⟩⟩ | exact ⟨by k_is, by k_is, _, ⟨⟨_,_,_,_,_,_,_,_,_,rfl, by k_is, by k_is⟩, by k_is⟩⟩ | exact ⟨by k_is, _, ⟨⟨_,_,_,_,_,_,_,_,_,rfl, by k_is, by k_is⟩, by k_is⟩⟩ | with_reducible rfl | kernel_rfl | decide
