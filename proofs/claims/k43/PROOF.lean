import PyProof.Rows.All
import Wide.All
import OpenK.AllK
import Wide.FinOn
import Lean
import PyProof.EqAt
import PyProof.EqKinds
import PyProof.TupleCall
import PyProof.Rows.SortRuns
import PyProof.CompMap
import PyProof.NeKinds
import PyProof.ExcAttrAll.ValueError
import PyProof.StationsW
import PyProof.PassesOwn
import PyProof.RulesAs
import PyProof.NsDelKeeps
import PyProof.DictItems
import KE.KPairComp
import KE.KMinKey
import KE.KDictList
import KE.KDictOf
import KE.KEqDict
import PyProof.DictIter
import PyProof.DictWalks
import PyProof.Rows.DictUnroll
import KE.KRevIter
import KE.KLam
import KE.KSortKey
import KE.KSortTup
import PyProof.Rows.StrJoin2
import PyProof.Rows.StrNews
import PyProof.StrLawsTight
import PyProof.StrWalks
import PyProof.StrBlockH
import KE.KIntText
import KE.LcSums
import KE.KNest
import PyProof.ZipIter
import KE.KItemsList
import KE.KDictSum
import PyProof.Rows.SetFrom
import PyProof.Draws
import KE.KDictLaws
import PyProof.SumWalkG
import PyProof.Rows.TupIter
import PyProof.WalksMore
import PyProof.SetRoads
import PySem.Challenge.RW_glazebench_k43_numbers_of_panels
set_option Elab.async false
set_option compiler.extract_closed false
set_option bootstrap.genMatcherCode false
set_option genSizeOf false
set_option tactic.hygienic false
set_option linter.all false
set_option maxRecDepth 100000
set_option maxHeartbeats 4000000
open List renaming length_map→aa,mem_singleton→ae,map_append→af,getElem?_eq_getElem→ai,size_toArray→aj,mem_of_getElem?→ak,mem_map→ao,length_append→aq,mem_append→aw,getElem?_map→ax,all_eq_true→az,map_map→aA,mem_append_right→aB,getElem?_eq_some_iff→aD,mem_cons_self→aE,mem_cons_of_mem→aF,take_length→aI,append_nil→aJ,length_cons→aL,take_succ→aN,mem_range→aO,mem_cons→aQ,map_cons→aR,append_assoc→aX,length_singleton→aY,not_mem_nil→aZ,lookup_cons→ba,mem_append_left→be,mem_filter→bg,getD_eq_getElem?_getD→bj,filter_append→bt,range_succ→bA,map_congr_left→bC,getElem?_eq_none→bD,sum_nil→bI,any_eq_true→bL,map_nil→bN,sum_append→bQ,length_take→bZ,drop_length→b5,pairwise_iff_getElem→ce,find?_cons→cf,filter_eq_self→cj,getElem_mem→cm,nodup_cons→cu,foldl_append→cx,getElem?_append_right→cA,dropLast_concat→cB,drop_eq_getElem_cons→cE,replicate_succ→cH,sum_cons→cI,range_zero→cK,filter_eq_nil_iff→cM,filter_congr→cN,length_filter_le→cO,any_cons→cP,of_mem_zip→cR,nil_append→cV,length_nil→cY,dropLast_concat_getLast→cZ,getElem_of_mem→c9,getElem?_range→da,flatMap_append→db,nodup_nil→dh,map_singleton→di,map_id→dw,flatten_cons→dz,ext_getElem?→dA,filter_cons→dC,getElem?_set_self→dF,foldl_cons→dI,map_eq_cons_iff→dO,getElem?_set_ne→dP,drop_zero→dQ,getD→dU,filterMap_cons→dX,all_cons→dY,contains_cons→d9,reverse_cons→eI,pairwise_map→eJ,length_range→eK,flatMap_cons→eL,length_drop→eW,cons_append→eX,forIn_cons→eY,filter_nil→eZ,filter_map→fc,nodup_iff_pairwise_ne→fm,mem_of_find?_eq_some→fu,pairwise_singleton→fB,length_eq_zero_iff→fC,filter_cons_of_pos→fD,filter_cons_of_neg→fE,take_of_length_le→fG,length_eq_one_iff→fH,any_map→fJ,all_map→fK,mem_iff_getElem?→fM,eq_nil_or_concat→fN,concat_eq_append→fO,mem_of_mem_drop→fQ,length_dropLast→fR
open PySem.Heap renaming get?_push_of_some→ag,lt_size→ay,get?_push_size→aH,get?_update_ne→bX,get?_update_other→bY,size_push→b8,get?_update_self→b9,get?_push_ne→cy,size_update→dD,get?_push_at→eM,get?_none_of_le→fT
open Nat renaming le_refl→ah,le_of_lt→aK,ne_of_lt→aM,lt_of_lt_of_le→aP,zero_le→aU,le_trans→aV,lt_irrefl→bM,lt_succ_of_lt→bO,lt_succ_self→bS,le_succ→bT,pow_le_pow_right→cg,le_antisymm→cw,lt_or_ge→df,mul_le_mul→dm,lt_of_le_of_lt→du,le_of_eq→dH,add_sub_cancel→eA,succ_mul→eO,sub_self→eP,ne_of_gt→eQ,min_self→eR,lt_trichotomy→eS
open Bool renaming false_ne_true→au,and_eq_true→av,false_eq_true→aS,eq_iff_iff→bJ,or_eq_true→bW,and_false→dj,and_eq_true_iff→dR,and_true→dZ,not_eq_true'→eN,or_false→fz,false_or→fA,or_true→fL
open Int renaming le_refl→aW,toNat_of_nonneg→bn,emod_lt_of_pos→bx,zero_add→bF,emod_nonneg→bG,add_zero→bK,sub_zero→bP,toNat_natCast→bV,le_trans→dJ,add_comm→dL,mul_le_mul→dW,add_assoc→eh
open Option renaming map_eq_some_iff→bc,bind_some→bR,map_some→bU,bind_eq_some_iff→cJ,isSome_iff_exists→dv,isSome_map→d8
open Array renaming getElem?_eq_some_iff→bp,length_toList→bB,getElem?_eq_getElem→cb,getD_eq_getD_getElem?→de,getElem?_toList→dM,getElem?_eq_none→fF,toArray_toList→fP,toList_append→fU
open Or renaming inl→bq,inr→dB
open PySem.F renaming plainAttrs_list→bE,slot_dict_valueiterator_next→bH,plainAttrs_dict→ci,type_list_pop→cq,slot_list_pop→cr,slot_dict_values→cC,type_dict_values→dk,slot_dict_get→dE,args_dict_valueiterator_next_1→dG,entry_dict_valueiterator_next→dN,slot_dict_values_iter→eF,attrBase_ValueError→eU,type_list_extend→fg,slot_list_extend→fh,slot_dict_items→fj,args_dict_get_3→fk,entry_dict_get→fq
open Classical renaming byContradiction→cz
open Prod renaming ext→cQ,mk→dS
open List.Perm renaming of_eq→eE,trans→fS
open PySem renaming Addr→jF,wpAny_bind→jG,Shared→jH,Value→jJ,wpAny_pure→jL,FuncData→jM,Program→jN,mainGlobals→jQ,model→jS,wpAny→jT,sizeLine→jU,starEach→jV,World→jW,Around→jZ,Stmt→j0,Str→j5,Heap→j6,Expr→j9,sizeLine_eq→ka,wpAny_mono→ke,wpAny_truthy_bool→kg,compareOp→kh,wpAny_Call_Name_kw→ki,wpAny_holding→km,importedModules→kn,backTo→kr,sysModules→kt,wpAny_typeNameOfWhole_valiter→ku,treeTable→kx,wpAny_loadPart_at→kC,rawInt→kD,Scope→kF,wpAny_passesOwn→kG,wpAny_newObj_type→kH,wpAny_typeNameOf_valiter→kJ,codeAny→kK,codeAny_mono→kL,tupleKind_room_in1→kM,wpAny_execs_nil→kN,wpAny_call→kR,wpAny_call_entry→kT,wpAny_standAt→kU,binaryOp→kW,cLine→kY,wpAny_setField→kZ,plainObj_wpAny_Assign_Attribute→lg,wpAny_isOneOf_valiter→lj,Tok→lm,wpAny_attempt→lq,wpAny_field→lx,wpAny_isSubtype_exc→ly,DictEntry→lA,wpAny_loadPart→lC,wpAny_pyIter_list→lE,wpAny_dictEntries→lG,Params→lH,wpAny_newList→lI,wpAny_execs_cons→lJ,wpAny_lookBehind→lK,pastItsLine_dict→lL,call_meets→lN,Env→lO
open PySem.W renaming Frag→jX,findIn→kc,mg_none_of→kj,boot_heap→kq,nsIn→kI,keepIn→kP,kitOne→kQ,kia_one→kX,any_some→lB,callWith_K→lD,looks_findIn→lM
open PyProof.Rows renaming seqObj→j4,listUpdate_at→kO,seqEpoch_at→lF
open PySem.Challenge renaming pw_glazebench_k43_numbers_of_panels→lW
theorem jI{p:Prop}[Decidable p](h:p):decide p=true:=decide_eq_true h
theorem jK{c:Prop}{h:Decidable c}(n:¬c){α:Sort u}{t e:α}:ite c t e=e:=if_neg n
theorem jO{p:Prop}[Decidable p]:decide p=true↔p:=decide_eq_true_iff
theorem jP{c:Prop}{h:Decidable c}(n:c){α:Sort u}{t e:α}:ite c t e=t:=if_pos n
theorem jR{p:Prop}[Decidable p](h:¬p):decide p=false:=decide_eq_false h
theorem jY{p:Prop}[Decidable p](h:decide p=true):p:=of_decide_eq_true h
abbrev VPz:=PySem.Value→PySem.Shared→Prop
abbrev PNz:=List (PySem.Addr × PySem.Obj)
abbrev MGz:=PySem.Str→Option PySem.Value
abbrev AOz:=Array (Option PySem.Value)
abbrev LSz:=List PySem.Str
abbrev LWz:=List PySem.Value
open Option renaming some→O,none→Y
open Bool renaming true→nZ,false→oe
open Decidable renaming decide→og
theorem Z{α:Sort u}{a:α}:a=a:=rfl
namespace L2
open PySem.W
open PySem PyProof.Rows
noncomputable def Lm{α β:Type}(oS:jN->LSz->LSz->(jH->Bool)->Bool->jH->α)(ms:LSz)(p q:jN)(lo:LSz)(Xt:jH->Bool)(Yf:jH->β)(h0:j6)(s:jH):Bool×α×β:=
 ((((staticsOk ms h0 s.heap&&namesBound p s.heap)&&gensDone s)&&laidKept h0 s.heap),oS q lo ms Xt nZ s,Yf s)
noncomputable abbrev Fh(P:lH)(os:OsState):jH:=Shared.mk (kq P) (Array.mk []) boot_drawn boot_toks os
theorem RU{p q:jN}{lo:LSz}{Xt:jH->Bool}{β:Type}{Yf:jH->β}{Ya:jW->β}{N m:Nat}{an:Option jJ}
  (bo:∀w:jW,Option.map (λs=>(s.heap,s.gens,s.drawn,s.toks)) (fencedOpening kx p w N)=O (kq w.params,Array.mk [],boot_drawn,boot_toks))
  (sz:∀w:jW,((kq w.params).isNs jQ,(kq w.params).objs.size,(kq w.params).nsMap jQ "__annotations__")=(nZ,m,an))
  (rn:∀(w:jW)(os:OsState),Option.map (Lm openSeen (kn p.main.body) p q lo Xt Yf<|kq w.params) (topRun kx p w m an N (Fh w.params os)<|topStub p)=O (nZ,openGood q lo,Ya w)):
  LeftO p q lo Xt Yf Ya N:=by
 intro w;obtain⟨s0,e0,e1⟩:=bc.mp<|bo w;obtain⟨hp,gs,dr,tk,os⟩:=s0;simp only[dS.injEq]at e1;obtain⟨rfl,rfl,rfl,rfl⟩:=e1;have z:=sz w;simp only[dS.injEq]at z;obtain⟨z1,z2,z3⟩:=z;obtain⟨s1,r1,r2⟩:=bc.mp<|rn w os;unfold Lm at r2;simp only[dS.injEq]at r2;obtain⟨l1,l2,l3⟩:=r2;have tf:topFrom kx p w N (Fh w.params os)=O s1:=by
  unfold topFrom;dsimp only;rw[z1,z2,z3];show Option.bind (topRun kx p w m an N (Fh w.params os)<|topStub p) _=_;rw[r1];show(match (((staticsOk (kn p.main.body) (kq w.params) s1.heap&&namesBound p s1.heap)&&gensDone s1)&&laidKept (kq w.params) s1.heap)with|true=>O s1|false=>Y)=_;rw[l1]
 unfold openEnds;rw[e0];show Option.map _ (topFrom kx p w N<|Fh w.params os)=_;rw[tf];exact congrArg O<|cQ l2 l3
noncomputable def S6:List Obj->Nat->BT->BT
 |[],_,t=>t
 |o::r,i,t=>S6 r (i+1)<|t.ins i o
noncomputable def C9(ok:Thread->Bool)(stp:SharedT->Thread->Option (SharedT×Thread)):Nat->SharedT->Thread->Option SharedT
 |0,_,_=>Y
 |n+1,s,t=>match through t with
  |true=>O s
  |false=>match ok t with
   |false=>Y
   |true=>match stp s t with
    |some (s1,t1)=>C9 ok stp n s1 t1
    |none=>Y
theorem IF{tb:String->Option Builtin}{p:jN}{w:jW}{m:Nat}{an:Option jJ}:∀{n:Nat}{s s1:SharedT}{t:Thread},C9 (stepOk m an) (stepT (denote tb) p w) n s t=O s1->topRun tb p w m an n s.abs t=O s1.abs
 |0,_,_,_,h=>by cases h
 |n+1,s,s1,t,h=>by
  rw[C9]at h;rw[topRun];cases ht:through t with
  |true=>rw[ht]at h;cases h;rfl
  |false=>
   rw[ht]at h;cases hk:stepOk m an t with
   |false=>rw[hk]at h;cases h
   |true=>
    rw[hk]at h;cases hs:stepT (denote tb) p w s t with
    |none=>rw[hs]at h;cases h
    |some r=>
     obtain⟨s2,t2⟩:=r;rw[hs]at h;rw[stepT_spec hs];exact IF h
noncomputable def Yv(P:lH):BT:=S6 (kq P).objs.toList 0 .nil
noncomputable def Fu(P:lH)(os:OsState):SharedT:=SharedT.mk (Yv P) 11 (kq P).life (Array.mk []) boot_drawn boot_toks os
theorem Uw(P:lH)(os:OsState):(Fu P os).abs=Fh P os:=by kernel_rfl
theorem W2{p q:jN}{lo ms:LSz}{Xt:jH->Bool}{α β:Type}{Yf:jH->β}{N m:Nat}{an:Option jJ}{w:jW}{os:OsState}{r:Bool×α×β}{oS:jN->LSz->LSz->(jH->Bool)->Bool->jH->α}
  (h:Option.map (λs=>Lm oS ms p q lo Xt Yf (kq w.params)<|SharedT.abs s) (C9 (stepOk m an) (stepT (denote kx) p w) N (Fu w.params os)<|topStub p)=O r):
  Option.map (Lm oS ms p q lo Xt Yf<|kq w.params) (topRun kx p w m an N (Fh w.params os)<|topStub p)=O r:=by
 obtain⟨s,e,z⟩:=bc.mp h;have e:=IF e;rw[Uw]at e;rw[e];exact congrArg O z
theorem Ye{B α β:Type}{r:Option B}{f:B->Bool}{g:B->α}{k:B->β}{a:α}{b:β}(h1:r.map f=O nZ)(h2:r.map g=O a)(h3:r.map k=O b):r.map (λs=>(f s,g s,k s))=O (nZ,a,b):=by
 cases r with
 |none=>cases h1
 |some s=>
  have e1:=Option.some.inj h1;have e2:=Option.some.inj h2;have e3:=Option.some.inj h3;exact congrArg O<|cQ e1<|cQ e2 e3
noncomputable def Yd(ms:LSz)(p:jN)(h0:j6)(s:jH):Bool:=(((staticsOk ms h0 s.heap&&namesBound p s.heap)&&gensDone s)&&laidKept h0 s.heap)
def Y2(N m:Nat)(an:Option jJ){p p':jN}{sT:(Code->Sem Fin)->jN->jW->SharedT->Thread->Option (SharedT×Thread)}{dn:(String->Option Builtin)->Code->Sem Fin}{tT:String->Option Builtin}{iM:List j0->LSz}{oS:∀(q:jN)(lo ms:LSz)(Xt:jH->Bool)(g0:Bool)(s:jH),_}(h1:@stepT=sT)(h0:@denote=dn)(h2:kx=tT)(h3:@kn=iM)(h4:@openSeen=oS)(h5:p=p'):Prop:=∀(w:jW)(os:OsState),Option.map (λs=>Yd (iM p'.main.body) p' (kq w.params)<|SharedT.abs s) (C9 (stepOk m an) (sT (dn tT) p' w) N (Fu w.params os)<|topStub p')=O nZ
def RunB(N m:Nat)(an:Option jJ)(q:jN->jN)(lo:LSz)(Xt:jN->jH->Bool){p p':jN}{sT:(Code->Sem Fin)->jN->jW->SharedT->Thread->Option (SharedT×Thread)}{dn:(String->Option Builtin)->Code->Sem Fin}{tT:String->Option Builtin}{iM:List j0->LSz}{oS:∀(q:jN)(lo ms:LSz)(Xt:jH->Bool)(g0:Bool)(s:jH),_}(h1:@stepT=sT)(h0:@denote=dn)(h2:kx=tT)(h3:@kn=iM)(h4:@openSeen=oS)(h5:p=p'):Prop:=∀(w:jW)(os:OsState),Option.map (λs=>oS (q p') lo (iM p'.main.body) (Xt p') nZ<|SharedT.abs s) (C9 (stepOk m an) (sT (dn tT) p' w) N (Fu w.params os)<|topStub p')=O (openGood (q p') lo)
def Y1(N m:Nat)(an:Option jJ){β:Type}(Yf:jH->β)(Ya:jW->β){p p':jN}{sT:(Code->Sem Fin)->jN->jW->SharedT->Thread->Option (SharedT×Thread)}{dn:(String->Option Builtin)->Code->Sem Fin}{tT:String->Option Builtin}{iM:List j0->LSz}{oS:∀(q:jN)(lo ms:LSz)(Xt:jH->Bool)(g0:Bool)(s:jH),_}(h1:@stepT=sT)(h0:@denote=dn)(h2:kx=tT)(h3:@kn=iM)(h4:@openSeen=oS)(h5:p=p'):Prop:=∀(w:jW)(os:OsState),Option.map (λs=>Yf<|SharedT.abs s) (C9 (stepOk m an) (sT (dn tT) p' w) N (Fu w.params os)<|topStub p')=O (Ya w)
theorem US{q:jN->jN}{lo:LSz}{Xt:jN->jH->Bool}{β:Type}{Yf:jH->β}{Ya:jW->β}{N m:Nat}{an:Option jJ}{p p':jN}{sT:(Code->Sem Fin)->jN->jW->SharedT->Thread->Option (SharedT×Thread)}{dn:(String->Option Builtin)->Code->Sem Fin}{tT:String->Option Builtin}{iM:List j0->LSz}{oS:∀(q:jN)(lo ms:LSz)(Xt:jH->Bool)(g0:Bool)(s:jH),_}{h1:@stepT=sT}{h0:@denote=dn}{h2:kx=tT}{h3:@kn=iM}{h4:@openSeen=oS}{h5:p=p'}
  (rA:Y2 N m an h1 h0 h2 h3 h4 h5) (rB:RunB N m an q lo Xt h1 h0 h2 h3 h4 h5) (rC:Y1 N m an Yf Ya h1 h0 h2 h3 h4 h5):
  ∀(w:jW)(os:OsState),Option.map (Lm openSeen (kn p.main.body) p (q p) lo (Xt p) Yf<|kq w.params) (topRun kx p w m an N (Fh w.params os)<|topStub p)=O (nZ,openGood (q p) lo,Ya w):=by
 subst h1 h0 h2 h3 h4 h5;exact λw os=>W2<|Ye (rA w os) (rB w os)<|rC w os
open PySem.Spec
noncomputable def hookT(K:Hook)(Ts:List jF):Hook:=
 ⟨K.α×List (Option Obj),λs=>(K.obs s,Ts.map λT=>s.heap.get? T),λw=>(K.val w,Ts.map λ_=>O<|tabObj #[]),λw h=>K.says w h/\∀T∈Ts,h.get? T=O (tabObj #[]),
  λw s e=>⟨K.of w s (dS.inj e).1,λT hT=>by
   have e2:=(dS.inj e).2;have:=List.map_eq_map_iff.mp e2 T hT;exact this⟩,λw h h' x k=>⟨K.keeps w h h' x.1 k,λT hT=>k _ _<|x.2 T hT⟩⟩
def KA{β:Type _}(N m:Nat)(an:Option jJ)(q:jN->jN)(lo:LSz)(Xt:jN->jH->Bool)(g:type_of% (openGood (q default) lo)->β)(b:jN->β){p p':jN}{sT:(Code->Sem Fin)->jN->jW->SharedT->Thread->Option (SharedT×Thread)}{dn:(String->Option Builtin)->Code->Sem Fin}{tT:String->Option Builtin}{iM:List j0->LSz}{oS:∀(q:jN)(lo ms:LSz)(Xt:jH->Bool)(g0:Bool)(s:jH),_}(h1:@stepT=sT)(h0:@denote=dn)(h2:kx=tT)(h3:@kn=iM)(h4:@openSeen=oS)(h5:p=p'):Prop:=∀(w:jW)(os:OsState),Option.map (λs=>g<|oS (q p') lo (iM p'.main.body) (Xt p') nZ<|SharedT.abs s) (C9 (stepOk m an) (sT (dn tT) p' w) N (Fu w.params os)<|topStub p')=O (b<|q p')
theorem KA.of{β:Type _}{N m:Nat}{an:Option jJ}{q:jN->jN}{lo:LSz}{Xt:jN->jH->Bool}{g:type_of% (openGood (q default) lo)->β}{b:jN->β}{p p':jN}{sT:(Code->Sem Fin)->jN->jW->SharedT->Thread->Option (SharedT×Thread)}{dn:(String->Option Builtin)->Code->Sem Fin}{tT:String->Option Builtin}{iM:List j0->LSz}{oS:∀(q:jN)(lo ms:LSz)(Xt:jH->Bool)(g0:Bool)(s:jH),_}{h1:@stepT=sT}{h0:@denote=dn}{h2:kx=tT}{h3:@kn=iM}{h4:@openSeen=oS}{h5:p=p'}(f:jN->jH->β)(c:jN->β)(hf:∀ms X s,g (openSeen (q p) lo ms X nZ s)=f p s)(hb:b (q p)=c p)(r:∀(w:jW)(os:OsState),Option.map (λs=>f p'<|SharedT.abs s) (C9 (stepOk m an) (sT (dn tT) p' w) N (Fu w.params os)<|topStub p')=O (c p')):KA N m an q lo Xt g b h1 h0 h2 h3 h4 h5:=by
 subst h1 h0 h2 h3 h4 h5;intro w os;rw[hb,<-r w os];congr 1;funext s;exact hf _ _ _
theorem RunB.of5{N m:Nat}{an:Option jJ}{q:jN->jN}{lo:LSz}{Xt:jN->jH->Bool}{p p':jN}{sT:(Code->Sem Fin)->jN->jW->SharedT->Thread->Option (SharedT×Thread)}{dn:(String->Option Builtin)->Code->Sem Fin}{tT:String->Option Builtin}{iM:List j0->LSz}{oS:∀(q:jN)(lo ms:LSz)(Xt:jH->Bool)(g0:Bool)(s:jH),_}{h1:@stepT=sT}{h0:@denote=dn}{h2:kx=tT}{h3:@kn=iM}{h4:@openSeen=oS}{h5:p=p'}(r1:KA N m an q lo Xt (λx=>x.1) (expectedOf) h1 h0 h2 h3 h4 h5)(r2:KA N m an q lo Xt (λx=>(x.2.1,x.2.2.1)) (λ_=>(bltViewBooted,nZ)) h1 h0 h2 h3 h4 h5)(r3:KA N m an q lo Xt (λx=>(x.2.2.2.1,x.2.2.2.2.1)) (λq=>(nZ,pinGoodD<|drecsOf q)) h1 h0 h2 h3 h4 h5)(r4:KA N m an q lo Xt (λx=>x.2.2.2.2.2.1) (λq=>plainGoodE q<|looseW q lo) h1 h0 h2 h3 h4 h5)(r6:KA N m an q lo Xt (λx=>x.2.2.2.2.2.2.1) (λq=>plainGoodD q lo) h1 h0 h2 h3 h4 h5)(r5:KA N m an q lo Xt (λx=>x.2.2.2.2.2.2.2) (λq=>(wideGood q,clsGoodW q lo)) h1 h0 h2 h3 h4 h5):RunB N m an q lo Xt h1 h0 h2 h3 h4 h5:=λw os=>by
 have e1:=r1 w os;have e2:=r2 w os;have e3:=r3 w os;have e4:=r4 w os;have e5:=r5 w os;have e6:=r6 w os;show Option.map _ _=_;generalize C9 _ _ _ _ _=r at e1 e2 e3 e4 e5 e6 |-;cases r with
 |none=>cases e1
 |some s=>
  have e1:=Option.some.inj e1;have e2:=dS.inj<|Option.some.inj e2;have e3:=dS.inj<|Option.some.inj e3;have e4:=Option.some.inj e4;have e6:=Option.some.inj e6;have e5:=Option.some.inj e5;exact congrArg O<|cQ e1<|cQ e2.1<|cQ e2.2<|cQ e3.1<|cQ e3.2<|cQ e4<|cQ e6 e5
noncomputable def B3(s:j0):Arguments:=match s with
 |.FunctionDef _ a _ _ _ _ _ _ _ _=>a
 |_=>{posonlyargs:=[],args:=[],vararg:=Y,kwonlyargs:=[],kw_defaults:=[],kwarg:=Y,defaults:=[]}
noncomputable def A9(s:j0):List j0:=match s with
 |.FunctionDef _ _ b _ _ _ _ _ _ _=>b
 |_=>[]
noncomputable def Ah(s:j0):kF:=match s with
 |.FunctionDef _ _ _ _ _ _ sc _ _ _=>sc
 |_=>{kind:=.function,names:=[],isGenerator:=oe,isCoroutine:=oe}
noncomputable def Bj(s:j0)(j:Nat):j0:=match s with
 |.ClassDef _ _ _ body _ _ _ _ _ _ _=>body.getD j<|.Pass ⟨0,0,0,0⟩
 |_=>.Pass ⟨0,0,0,0⟩
end L2
namespace KH
open PySem.W
open PySem PyProof.Rows L2
noncomputable def top(i:Nat):j0:=lW.main.body.getD i<|.Pass ⟨0,0,0,0⟩
noncomputable def kE(P:lH)(x:j5)(t:lm)(v:jJ):lA:=⟨PyData.keyHash P x,.str x t,v⟩
noncomputable abbrev fo(a b:j5)(e:j0)(d m:jJ)(c:jF):Obj:=⟨(.type "function"),Y,(.func<|fnOf a b (B3 e) (A9 e) (Ah e) d .none .none m Y (.ref c) .none),#[]⟩
noncomputable abbrev cp(a b:j5)(t u v:lm)(l n:Int)(r:jF)(i:Int)(p:jF)(q x y:jJ)(j k:Int)(z:lm):Obj:=⟨(.type "code"),Y,(.fields #[(.str a t),(.str b u),(.str "/claim/cut.py" v),(.int l 0),(.int n 0),(.int (0) 0),(.int (0) 0),(.int (3) 0),(.ref r),(.bool nZ),(.int i 0),(.ref p),.none,q,x,y,(.int j 0),(.int k 0),(.str "/claim/cut.py" z)]),#[]⟩
noncomputable abbrev co(a b:j5)(t u v:lm)(l n:Int)(r:jF)(i:Int)(p q x y:jF)(j k:Int)(z:lm):Obj:=⟨(.type "code"),Y,(.fields #[(.str a t),(.str b u),(.str "/claim/cut.py" v),(.int l 0),(.int n 0),(.int (0) 0),(.int (0) 0),(.int (3) 0),(.ref r),(.bool nZ),(.int i 0),(.ref p),.none,(.ref q),(.ref x),(.ref y),(.int j 0),(.int k 0),(.str "/claim/cut.py" z)]),#[]⟩
noncomputable abbrev aac:jJ:=.str "glazebench.panels" 418
noncomputable abbrev aad:jJ:=.str "glazebench.blocks" 554
noncomputable abbrev aae:jJ:=.str "glazebench.counts" 610
noncomputable abbrev aaf:jJ:=.str "glazebench.cuts" 665
noncomputable abbrev aag:jJ:=.str "glazebench.leads" 896
noncomputable abbrev aah:jJ:=.str "glazebench.rooms" 965
noncomputable abbrev aai:jJ:=.str "glazebench.numbers" 1026
noncomputable abbrev aaj:jJ:=.str "law_glazebench_k43_numbers_of_panels" 1189
local macro_rules|`(aaa $a $t:num $l $n $r:num $j:num $e $m $x)=>do
 let f:=λ(i:Lean.TSyntax `num)k=>Lean.Syntax.mkNumLit (toString (i.getNat+k))
 `((nat_lit $(f r 5),co $a $a $t $(f t 1) $(f t 2) $l $n $r 181 $(f r 1) $(f r 2) $(f r 3) $(f r 4) $j $l $(f j 1))::(nat_lit $(f r 6),fo $a $a $e .none $m $(f r 5))::$x)
local macro_rules|`(aaa $a $b $t:num $l $n $r:num $j:num $e $m $x)=>do
 let f:=λ(i:Lean.TSyntax `num)k=>Lean.Syntax.mkNumLit (toString (i.getNat+k))
 `((nat_lit $(f r 5),co $a $b $t $(f t 1) $(f t 2) $l $n $r 181 $(f r 1) $(f r 2) $(f r 3) $(f r 4) $j $l $(f j 1))::(nat_lit $(f r 6),fo $a $b $e .none $m $(f r 5))::$x)
local macro_rules|`(aab $a $t:num $l $n $r:num $j:num $e $m $x)=>do
 let f:=λ(i:Lean.TSyntax `num)k=>Lean.Syntax.mkNumLit (toString (i.getNat+k))
 `((nat_lit $(f r 3),cp $a $a $t $(f t 1) $(f t 2) $l $n $r 181 $(f r 1) .none .none (.ref $(f r 2)) $j $l $(f j 1))::(nat_lit $(f r 4),fo $a $a $e .none $m $(f r 3))::$x)
local macro_rules|`(aab $a $b $t:num $l $n $r:num $j:num $e $m $x)=>do
 let f:=λ(i:Lean.TSyntax `num)k=>Lean.Syntax.mkNumLit (toString (i.getNat+k))
 `((nat_lit $(f r 3),cp $a $b $t $(f t 1) $(f t 2) $l $n $r 181 $(f r 1) .none .none (.ref $(f r 2)) $j $l $(f j 1))::(nat_lit $(f r 4),fo $a $b $e .none $m $(f r 3))::$x)
noncomputable def KK:lH->jX:=λP=>(nat_lit 2,⟨.none,Y,(.dict #[] 0),#[]⟩)::(nat_lit 3,⟨(.type "dict"),Y,(.dict #[kE P "__name__" 165<|.str "law_glazebench_k43_numbers_of_panels" 1189,kE P "__doc__" 166 .none,kE P "__package__" 167 .none,kE P "__loader__" 168<|.builtin "__main__.__loader__#opaque",kE P "__spec__" 169 .none,kE P "__annotations__" 170<|.ref 6,kE P "__builtins__" 171<|.ref 4,kE P "__file__" 173<|.str "/claim/cut.py" 172,kE P "__cached__" 174 .none,kE P "_wall" 193<|.ref 21,kE P "GlassError" 213<|.ref 31,kE P "NoSide" 238<|.ref 51,kE P "TooMany" 263<|.ref 70,kE P "NoPane" 288<|.ref 89,kE P "Overlap" 313<|.ref 108,kE P "Bare" 338<|.ref 127,kE P "NoBlock" 363<|.ref 146,kE P "Stuck" 392<|.ref 165,kE P "NoNumber" 417<|.ref 184,kE P "LONGEST_SIDE" 421<|.int (12) 420,kE P "MOST_PANES" 423<|.int (52) 422,kE P "is_whole" 430<|.ref 193,kE P "is_side" 437<|.ref 200,kE P "is_rectangle" 443<|.ref 205,kE P "inside" 452<|.ref 212,kE P "squares_of" 462<|.ref 219,kE P "check_sides" 471<|.ref 226,kE P "check_panes" 481<|.ref 233,kE P "panes_by_square" 492<|.ref 240,kE P "check_covered" 501<|.ref 247,kE P "Panel" 553<|.ref 281,kE P "TOP" 557<|.int (0) 556,kE P "LEFT" 559<|.int (1) 558,kE P "apart" 568<|.ref 292,kE P "is_block" 574<|.ref 297,kE P "check_block" 582<|.ref 304,kE P "panes_in" 588<|.ref 309,kE P "line_breaks" 597<|.ref 316,kE P "goes_through" 603<|.ref 321,kE P "lines_through" 609<|.ref 326,kE P "LONGEST_COUNTED" 613<|.int (4) 612,kE P "check_counted" 622<|.ref 333,kE P "ways_to_part" 628<|.ref 338,kE P "count_of_grid" 640<|.ref 345,kE P "count_by_smaller" 653<|.ref 352,kE P "count" 664<|.ref 359,kE P "WHOLE" 668<|.str "whole" 667,kE P "UPRIGHT_cuts" 670<|.str "upright" 669,kE P "LEVEL_cuts" 672<|.str "level" 671,kE P "Tree" 728<|.ref 400,kE P "Whole" 753<|.ref 422,kE P "Upright" 782<|.ref 441,kE P "Level" 811<|.ref 460,kE P "kind_of" 818<|.ref 469,kE P "entry_of" 826<|.ref 476,kE P "entries_of" 836<|.ref 483,kE P "cut_from" 846<|.ref 490,kE P "tree_from" 858<|.ref 497,kE P "entries_by" 870<|.ref 504,kE P "turned_word" 877<|.ref 511,kE P "first_piece" 886<|.ref 518,kE P "other_piece" 895<|.ref 525,kE P "LEVEL_leads" 899<|.str "level" 898,kE P "UPRIGHT_leads" 901<|.str "upright" 900,kE P "runs" 911<|.ref 532,kE P "columns_parted" 917<|.ref 537,kE P "rows_parted" 923<|.ref 542,kE P "level_leads" 935<|.ref 549,kE P "upright_leads" 941<|.ref 554,kE P "leads" 950<|.ref 561,kE P "lies_on" 958<|.ref 568,kE P "turn" 964<|.ref 573,kE P "ROOM" 968<|.str "room" 967,kE P "entry_for" 974<|.ref 578,kE P "cut_up" 983<|.ref 585,kE P "pane_broken" 989<|.ref 590,kE P "breaks_of" 1002<|.ref 597,kE P "one_longer" 1013<|.ref 604,kE P "four_that_turn" 1019<|.ref 609,kE P "tree_of" 1025<|.ref 614,kE P "all_lines" 1034<|.ref 621,kE P "parts_between" 1044<|.ref 628,kE P "in_common" 1058<|.ref 635,kE P "rows_by_lines" 1069<|.ref 642,kE P "rows_without" 1075<|.ref 647,kE P "strips_of_size" 1087<|.ref 654,kE P "all_strips" 1093<|.ref 659,kE P "rows_before" 1099<|.ref 664,kE P "row_by" 1105<|.ref 669,kE P "strip_by" 1115<|.ref 676,kE P "panes_by" 1127<|.ref 683,kE P "panel_by" 1137<|.ref 690,kE P "lines_of" 1143<|.ref 695,kE P "strip_at" 1149<|.ref 700,kE P "number_in_rows" 1167<|.ref 707,kE P "number_in_strips" 1177<|.ref 714,kE P "number_of" 1188<|.ref 721,kE P "_law_at" 1199<|.ref 728,kE P "_law_more" 1205<|.ref 733,kE P "_law_knead" 1216<|.ref 740,kE P "_law_mark" 1223<|.ref 747,kE P "_law_drawn" 1238<|.ref 754,kE P "_law_rectangles" 1251<|.ref 761,kE P "_law_number" 1260<|.ref 768,kE P "_law_wheel" 1266<|.ref 773,kE P "_law_great" 1274<|.ref 780,kE P "_law_refused" 1283<|.ref 787,kE P "law" 1302<|.ref 794] 108),#[]⟩)::(nat_lit 30,⟨(.type "dict"),Y,(.dict #[kE P "__module__" 203<|.str "glazebench.errors" 194,kE P "__firstlineno__" 207<|.int (5) 206,kE P "__static_attributes__" 208<|.ref 29,kE P "__weakref__" 210<|.ref 32,kE P "__doc__" 211 .none] 3),#[]⟩)::(nat_lit 31,⟨(.type "type"),Y,(.cls { name:="GlassError",bases:=[(.type "ValueError")],mro:=[(.ref 31),(.type "ValueError"),(.type "Exception"),(.type "BaseException"),(.type "object")],ns:=30,qualname:="GlassError",hasDict:=nZ,slotNames:=[],subclasses:=[(.ref 51),(.ref 70),(.ref 89),(.ref 108),(.ref 127),(.ref 146),(.ref 165),(.ref 184)],abstract:=oe,collection:=Y,hasDel:=oe}),#[O<|.ref 22,Y,O<|.str "GlassError" 196,O<|.str "GlassError" 204,O<|.builtin "ValueError.__new__",O<|.bool nZ]⟩)::(nat_lit 32,⟨(.type "getset_descriptor"),Y,(.fields #[(.str "__weakref__" 209),(.ref 31),(.builtin "ExceptionGroup.__weakref__"),.none]),#[]⟩)::(aaa "__init__" "NoSide.__init__" 226 9 2 42 231 (Bj (top 3) 0) (.str "glazebench.errors" 194)<|(nat_lit 50,⟨(.type "dict"),Y,(.dict #[kE P "__module__" 221<|.str "glazebench.errors" 194,kE P "__firstlineno__" 225<|.int (7) 224,kE P "__init__" 233<|.ref 48,kE P "__static_attributes__" 235<|.ref 49,kE P "__doc__" 236 .none] 2),#[]⟩)::(nat_lit 51,⟨(.type "type"),Y,(.cls { name:="NoSide",bases:=[(.ref 31)],mro:=[(.ref 51),(.ref 31),(.type "ValueError"),(.type "Exception"),(.type "BaseException"),(.type "object")],ns:=50,qualname:="NoSide",hasDict:=nZ,slotNames:=[],subclasses:=[],abstract:=oe,collection:=Y,hasDel:=oe}),#[O<|.ref 35,Y,O<|.str "NoSide" 214,O<|.str "NoSide" 222,O<|.builtin "ValueError.__new__",O<|.bool nZ]⟩)::(aaa "__init__" "Stuck.__init__" 376 33 4 156 383 (Bj (top 9) 0) (.str "glazebench.errors" 194)<|(nat_lit 164,⟨(.type "dict"),Y,(.dict #[kE P "__module__" 371<|.str "glazebench.errors" 194,kE P "__firstlineno__" 375<|.int (31) 374,kE P "__init__" 385<|.ref 162,kE P "__static_attributes__" 389<|.ref 163,kE P "__doc__" 390 .none] 2),#[]⟩)::(nat_lit 165,⟨(.type "type"),Y,(.cls { name:="Stuck",bases:=[(.ref 31)],mro:=[(.ref 165),(.ref 31),(.type "ValueError"),(.type "Exception"),(.type "BaseException"),(.type "object")],ns:=164,qualname:="Stuck",hasDict:=nZ,slotNames:=[],subclasses:=[],abstract:=oe,collection:=Y,hasDel:=oe}),#[O<|.ref 149,Y,O<|.str "Stuck" 364,O<|.str "Stuck" 372,O<|.builtin "ValueError.__new__",O<|.bool nZ]⟩)::(aaa "is_whole" 424 44 1 187 428 (top 14) aac<|aaa "is_side" 431 46 1 194 435 (top 15) aac<|aab "is_rectangle" 438 48 1 201 441 (top 16) aac<|aaa "inside" 444 54 2 206 450 (top 17) aac<|aaa "squares_of" 453 57 1 213 460 (top 18) aac<|aaa "check_sides" 463 63 2 220 469 (top 19) aac<|aaa "check_panes" 472 67 2 227 479 (top 20) aac<|aaa "panes_by_square" 482 73 1 234 490 (top 21) aac<|aaa "check_covered" 493 81 2 241 499 (top 22) aac<|aab "__init__" "Panel.__init__" 514 87 4 255 517 (Bj (top 23) 0) aac<|aaa "panes" "Panel.panes" 520 99 1 260 524 (Bj (top 23) 1) aac<|aaa "pane_at" "Panel.pane_at" 527 102 3 267 533 (Bj (top 23) 2) aac<|aab "turned" "Panel.turned" 536 105 1 274 539 (Bj (top 23) 3) aac<|(nat_lit 280,⟨(.type "dict"),Y,(.dict #[kE P "__module__" 509<|.str "glazebench.panels" 418,kE P "__firstlineno__" 513<|.int (85) 512,kE P "__init__" 519<|.ref 259,kE P "panes" 526<|.ref 266,kE P "pane_at" 535<|.ref 273,kE P "turned" 541<|.ref 278,kE P "__static_attributes__" 546<|.ref 279,kE P "__dict__" 548<|.ref 282,kE P "__weakref__" 550<|.ref 283,kE P "__doc__" 551 .none] 4),#[]⟩)::(nat_lit 281,⟨(.type "type"),Y,(.cls { name:="Panel",bases:=[(.type "object")],mro:=[(.ref 281),(.type "object")],ns:=280,qualname:="Panel",hasDict:=nZ,slotNames:=[],subclasses:=[],abstract:=oe,collection:=Y,hasDel:=oe}),#[Y,Y,O<|.str "Panel" 502,O<|.str "Panel" 510,O<|.builtin "object.__new__",O<|.bool nZ]⟩)::(nat_lit 282,⟨(.type "getset_descriptor"),Y,(.fields #[(.str "__dict__" 547),(.ref 281),(.builtin "function.__dict__"),(.builtin "function.__dict__#set")]),#[]⟩)::(nat_lit 283,⟨(.type "getset_descriptor"),Y,(.fields #[(.str "__weakref__" 549),(.ref 281),(.builtin "ExceptionGroup.__weakref__"),.none]),#[]⟩)::(aaa "apart" 560 111 2 286 566 (top 27) aad<|aab "is_block" 569 114 2 293 572 (top 28) aad<|aaa "check_block" 575 118 2 298 580 (top 29) aad<|aab "panes_in" 583 121 2 305 586 (top 30) aad<|aaa "line_breaks" 589 124 3 310 595 (top 31) aad<|aab "goes_through" 598 126 3 317 601 (top 32) aad<|aab "lines_through" 604 128 3 322 607 (top 33) aad<|aaa "check_counted" 614 132 2 327 620 (top 36) aae<|aab "ways_to_part" 623 136 1 334 626 (top 37) aae<|aaa "count_of_grid" 629 142 3 339 638 (top 38) aae<|aaa "count_by_smaller" 641 148 3 346 651 (top 39) aae<|aaa "count" 654 158 2 353 662 (top 40) aae<|(nat_lit 399,⟨(.type "dict"),Y,(.dict #[kE P "__module__" 680<|.str "glazebench.cuts" 665,kE P "__firstlineno__" 684<|.int (169) 683,kE P "leaves" 690<|.ref 371,kE P "depth" 697<|.ref 378,kE P "turned" 703<|.ref 383,kE P "fits" 712<|.ref 390,kE P "same" 720<|.ref 397,kE P "__static_attributes__" 721<|.ref 398,kE P "__dict__" 723<|.ref 401,kE P "__weakref__" 725<|.ref 402,kE P "__doc__" 726 .none] 4),#[]⟩)::(nat_lit 400,⟨(.type "type"),Y,(.cls { name:="Tree",bases:=[(.type "object")],mro:=[(.ref 400),(.type "object")],ns:=399,qualname:="Tree",hasDict:=nZ,slotNames:=[],subclasses:=[(.ref 422),(.ref 441),(.ref 460)],abstract:=oe,collection:=Y,hasDel:=oe}),#[Y,Y,O<|.str "Tree" 673,O<|.str "Tree" 681,O<|.builtin "object.__new__",O<|.bool nZ]⟩)::(nat_lit 401,⟨(.type "getset_descriptor"),Y,(.fields #[(.str "__dict__" 722),(.ref 400),(.builtin "function.__dict__"),(.builtin "function.__dict__#set")]),#[]⟩)::(nat_lit 402,⟨(.type "getset_descriptor"),Y,(.fields #[(.str "__weakref__" 724),(.ref 400),(.builtin "ExceptionGroup.__weakref__"),.none]),#[]⟩)::(nat_lit 412,⟨(.type "tuple"),Y,(.seq #[.none] 0),#[]⟩)::(nat_lit 418,co "__init__" "Whole.__init__" 741 742 743 187 2 413 181 414 415 416 417 746 187 747)::(nat_lit 419,fo "__init__" "Whole.__init__" (Bj (top 46) 0) (.ref 412) (.str "glazebench.cuts" 665) 418)::(nat_lit 421,⟨(.type "dict"),Y,(.dict #[kE P "__module__" 736<|.str "glazebench.cuts" 665,kE P "__firstlineno__" 740<|.int (185) 739,kE P "__init__" 748<|.ref 419,kE P "__static_attributes__" 750<|.ref 420,kE P "__doc__" 751 .none] 2),#[]⟩)::(nat_lit 422,⟨(.type "type"),Y,(.cls { name:="Whole",bases:=[(.ref 400)],mro:=[(.ref 422),(.ref 400),(.type "object")],ns:=421,qualname:="Whole",hasDict:=nZ,slotNames:=[],subclasses:=[],abstract:=oe,collection:=Y,hasDel:=oe}),#[O<|.ref 405,Y,O<|.str "Whole" 729,O<|.str "Whole" 737,O<|.builtin "object.__new__",O<|.bool nZ]⟩)::(aaa "__init__" "Upright.__init__" 766 191 4 432 773 (Bj (top 47) 0) aaf<|(nat_lit 440,⟨(.type "dict"),Y,(.dict #[kE P "__module__" 761<|.str "glazebench.cuts" 665,kE P "__firstlineno__" 765<|.int (189) 764,kE P "__init__" 775<|.ref 438,kE P "__static_attributes__" 779<|.ref 439,kE P "__doc__" 780 .none] 2),#[]⟩)::(nat_lit 441,⟨(.type "type"),Y,(.cls { name:="Upright",bases:=[(.ref 400)],mro:=[(.ref 441),(.ref 400),(.type "object")],ns:=440,qualname:="Upright",hasDict:=nZ,slotNames:=[],subclasses:=[],abstract:=oe,collection:=Y,hasDel:=oe}),#[O<|.ref 425,Y,O<|.str "Upright" 754,O<|.str "Upright" 762,O<|.builtin "object.__new__",O<|.bool nZ]⟩)::(aaa "__init__" "Level.__init__" 795 197 4 451 802 (Bj (top 48) 0) aaf<|(nat_lit 459,⟨(.type "dict"),Y,(.dict #[kE P "__module__" 790<|.str "glazebench.cuts" 665,kE P "__firstlineno__" 794<|.int (195) 793,kE P "__init__" 804<|.ref 457,kE P "__static_attributes__" 808<|.ref 458,kE P "__doc__" 809 .none] 2),#[]⟩)::(nat_lit 460,⟨(.type "type"),Y,(.cls { name:="Level",bases:=[(.ref 400)],mro:=[(.ref 460),(.ref 400),(.type "object")],ns:=459,qualname:="Level",hasDict:=nZ,slotNames:=[],subclasses:=[],abstract:=oe,collection:=Y,hasDel:=oe}),#[O<|.ref 444,Y,O<|.str "Level" 783,O<|.str "Level" 791,O<|.builtin "object.__new__",O<|.bool nZ]⟩)::(aaa "cut_from" 837 217 4 484 844 (top 52) aaf<|aaa "tree_from" 847 221 1 491 856 (top 53) aaf<|aaa "entries_by" 859 231 2 498 868 (top 54) aaf<|aaa "first_piece" 878 246 3 512 884 (top 56) aaf<|aaa "other_piece" 887 250 3 519 893 (top 57) aaf<|aaa "runs" 902 257 2 526 909 (top 61) aag<|aab "columns_parted" 912 265 3 533 915 (top 62) aag<|aab "rows_parted" 918 267 3 538 921 (top 63) aag<|aaa "level_leads" 924 269 2 543 933 (top 64) aag<|aab "upright_leads" 936 275 3 550 939 (top 65) aag<|aaa "leads" 942 282 2 555 948 (top 66) aag<|aaa "lies_on" 951 286 2 562 956 (top 67) aag<|aab "turn" 959 290 1 569 962 (top 68) aag<|aab "entry_for" 969 296 2 574 972 (top 71) aah<|aaa "cut_up" 975 307 2 579 981 (top 72) aah<|aab "pane_broken" 984 309 3 586 987 (top 73) aah<|aaa "breaks_of" 990 311 2 591 1000 (top 74) aah<|aaa "one_longer" 1003 318 2 598 1011 (top 75) aah<|aab "four_that_turn" 1014 325 1 605 1017 (top 76) aah<|aab "tree_of" 1020 330 1 610 1023 (top 77) aah<|aaa "all_lines" 1028 337 1 615 1032 (top 79) aai<|aaa "parts_between" 1035 339 2 622 1042 (top 80) aai<|aaa "in_common" 1045 347 2 629 1056 (top 81) aai<|aaa "rows_by_lines" 1059 354 3 636 1067 (top 82) aai<|aab "rows_without" 1070 359 2 643 1073 (top 83) aai<|aaa "strips_of_size" 1076 361 3 648 1085 (top 84) aai<|aab "all_strips" 1088 367 1 655 1091 (top 85) aai<|aab "rows_before" 1094 375 4 660 1097 (top 86) aai<|aab "row_by" 1100 377 5 665 1103 (top 87) aai<|aaa "strip_by" 1106 394 4 670 1113 (top 88) aai<|aaa "panes_by" 1116 398 4 677 1125 (top 89) aai<|aaa "panel_by" 1128 406 3 684 1135 (top 90) aai<|aab "lines_of" 1138 411 3 691 1141 (top 91) aai<|aab "strip_at" 1144 413 3 696 1147 (top 92) aai<|aaa "number_in_rows" 1150 416 5 701 1165 (top 93) aai<|aaa "number_in_strips" 1168 428 4 708 1175 (top 94) aai<|aaa "number_of" 1178 432 1 715 1186 (top 95) aai<|aaa "_law_at" 1191 442 2 722 1197 (top 97) aaj<|aab "_law_more" 1200 449 3 729 1203 (top 98) aaj<|aaa "_law_knead" 1206 451 2 734 1214 (top 99) aaj<|aaa "_law_mark" 1217 465 1 741 1221 (top 100) aaj<|aaa "_law_drawn" 1224 467 3 748 1236 (top 101) aaj<|aaa "_law_rectangles" 1239 481 5 755 1249 (top 102) aaj<|aaa "_law_number" 1252 490 1 762 1258 (top 103) aaj<|aab "_law_wheel" 1261 500 1 769 1264 (top 104) aaj<|aaa "_law_great" 1267 512 1 774 1272 (top 105) aaj<|aaa "_law_refused" 1275 515 1 781 1281 (top 106) aaj<|aaa "law" 1284 526 1 788 1300 (top 107) aaj<|(nat_lit 4,⟨(.type "module"),(O 0),.plain,#[]⟩)::[])))))))
noncomputable def kas:List jF:=(KK { strHash:=λ_=>0,shareClass:=id,mergeTok:=id,idOf:=λ_=>0,idOfShared:=λ_ _=>0,followText:=λ_=>oe,idOfImm:=λ_=>0}).map λx=>x.1
noncomputable def keeps:List Nat:=0::2::3::4::5::6::7::8::9::10::12::13::14::15::16::17::18::19::20::21::22::23::25::26::27::28::29::30::31::32::33::35::36::37::38::39::40::42::43::44::45::46::47::48::49::50::51::52::53::54::55::56::57::59::60::61::62::63::64::65::66::67::68::70::71::72::73::74::75::76::77::79::80::81::82::83::84::85::86::87::88::89::90::91::92::93::94::95::97::98::99::100::101::102::103::104::105::106::107::[]
noncomputable def lo:LSz:=["Whole"]
noncomputable def Ts:List jF:=nat_lit 580::[]
theorem said:PySem.Challenge.rw_glazebench_k43_numbers_of_panels.wellSaid=nZ:=by
 unfold OpenLaw.wellSaid OpenRow.wellSaid OpenRow.partSaid looksOpen
 repeat' (with_reducible refine look_both ?_ ?_)
 all_goals decide +kernel
theorem prep(h:PySem.Challenge.rw_glazebench_k43_numbers_of_panels.row.wellSaid=nZ->PySem.Challenge.rw_glazebench_k43_numbers_of_panels.row.Holds):PySem.Challenge.rw_glazebench_k43_numbers_of_panels.Holds:=by
 w_on
 exact holds_law said h
noncomputable def qv(p:jN):jN:=view p keeps
noncomputable def Xp(p:jN)(s:jH):Bool:=xlAt (qv p) [] s&&recOk (RowW.records<|OpenRow.toRowW PySem.Challenge.rw_glazebench_k43_numbers_of_panels.row) s
theorem kas_is(P:lH):kas=(KK P).map (λx=>x.1):=by kernel_rfl
theorem XW:opening lW=plainProg lW.main.scope.names:=by kernel_rfl
theorem Uc(s:jH):fenceModules? lW s=O s:=by kernel_rfl
theorem V9(w:jW):((kq w.params).isNs jQ,(kq w.params).objs.size,(kq w.params).nsMap jQ "__annotations__")=(nZ,11,(O<|.ref 6)):=by kernel_rfl
open PySem.W.Fast renaming te10156331382660048174→lP,te11892475500146522536→lQ,te14364793385576792824→lR,te4187177175401517315→lS,te5923862056798008813→lU
theorem lV:lW=lW:=rfl
theorem YW:Y2 12076 11 (O<|.ref 6) lP lQ lR lU lS lV:=λw os=>by kernel_rfl
theorem XI:KA 12076 11 (O<|.ref 6) qv lo Xp (λx=>x.1) (expectedOf) lP lQ lR lU lS lV:=λw os=>by kernel_rfl
theorem XH:KA 12076 11 (O<|.ref 6) qv lo Xp (λx=>(x.2.1,x.2.2.1)) (λ_=>(bltViewBooted,nZ)) lP lQ lR lU lS lV:=λw os=>by kernel_rfl
theorem XF:KA 12076 11 (O<|.ref 6) qv lo Xp (λx=>(x.2.2.2.1,x.2.2.2.2.1)) (λq=>(nZ,pinGoodD<|drecsOf q)) lP lQ lR lU lS lV:=λw os=>by kernel_rfl
noncomputable def pc(p:jN)(n:j5):ClsRec:=(clsOf? (qv p) n).getD ⟨n,Y,[],[],0,[]⟩
theorem pls:plainsOf (qv lW) (looseW (qv lW) lo)=[pc lW "Panel",pc lW "Tree"]:=by kernel_rfl
theorem XE:KA 12076 11 (O<|.ref 6) qv lo Xp (λx=>x.2.2.2.2.2.1) (λq=>plainGoodE q<|looseW q lo) lP lQ lR lU lS lV:=.of (λp s=>[s.heap.plainShapeAt (pc p "Panel").withCmp,s.heap.plainShapeAt (pc p "Tree").withCmp]) (λp=>[O (pc p "Panel").withCmp.plainShape,O (pc p "Tree").withCmp.plainShape]) (λ_ _ s=>congrArg (List.map λc:ClsRec=>s.heap.plainShapeAt c.withCmp) pls) (congrArg (List.map λc:ClsRec=>O c.withCmp.plainShape) pls) λw os=>by kernel_rfl
theorem XE2:KA 12076 11 (O<|.ref 6) qv lo Xp (λx=>x.2.2.2.2.2.2.1) (λq=>plainGoodD q lo) lP lQ lR lU lS lV:=λw os=>by kernel_rfl
theorem XD:KA 12076 11 (O<|.ref 6) qv lo Xp (λx=>x.2.2.2.2.2.2.2) (λq=>(wideGood q,clsGoodW q lo)) lP lQ lR lU lS lV:=λw os=>by kernel_rfl
theorem YV:RunB 12076 11 (O<|.ref 6) qv lo Xp lP lQ lR lU lS lV:=RunB.of5 XI XH XF XE XE2 XD
theorem YU:Y1 12076 11 (O<|.ref 6) (hookT (kHook KK kas kas_is) Ts).obs (hookT (kHook KK kas kas_is) Ts).val lP lQ lR lU lS lV:=λw os=>by kernel_rfl
theorem ran:∀(w:jW)(os:OsState),Option.map (Lm openSeen (kn lW.main.body) lW (qv lW) lo (Xp lW) (hookT (kHook KK kas kas_is) Ts).obs<|kq w.params) (topRun kx lW w 11 (O<|.ref 6) 12076 (Fh w.params os)<|topStub lW)=O (nZ,openGood (qv lW) lo,(hookT (kHook KK kas kas_is) Ts).val w):=US YW YV YU
theorem left:LeftO lW (qv lW) lo (Xp lW) (hookT (kHook KK kas kas_is) Ts).obs (hookT (kHook KK kas kas_is) Ts).val 12076:=RU (boot_open XW (by decide) Uc) V9 ran
end KH
namespace L2
open PySem.W
open PySem PySem.Spec PyProof.Rows
abbrev Key:=Sum Int j5
noncomputable def JC:Key->jJ->Bool
 |.inl k,v=>Value.isInt k v
 |.inr x,v=>Value.isStrOf x v
noncomputable def Zd(w:jW):Key->Int
 |.inl k=>hashInt k
 |.inr x=>hashStr w x
theorem Bh:∀{k:Key}{v:jJ},JC k v=nZ->(∃i t,k=Sum.inl i/\v=Value.int i t)\/(∃x t,k=Sum.inr x/\v=Value.str x t)
 |.inl i,v,h=>by
  obtain⟨t,e⟩:=Value.isInt_shape (k:=i) (v:=v) h;exact .inl ⟨i,t,Z,e⟩
 |.inr x,v,h=>by
  obtain⟨t,e⟩:=Value.isStrOf_shape (x:=x) (v:=v) h;exact .inr ⟨x,t,Z,e⟩
theorem Sa(i:Int)(t:lm):JC (.inl i) (.int i t)=nZ:=by simp[JC,Value.isInt]
theorem RZ(x:j5)(t:lm):JC (.inr x) (.str x t)=nZ:=by simp[JC,Value.isStrOf]
theorem WO(a b:Int):og ((Sum.inl a:Key)=Sum.inl b)=(a==b):=by
 by_cases e:a=b
 .subst e;simp
 .have h:¬(Sum.inl a:Key)=Sum.inl b:=λq=>e<|Sum.inl.inj q;rw[jR h];exact(beq_eq_false_iff_ne.mpr e).symm
theorem WK(a b:j5):og ((Sum.inr a:Key)=Sum.inr b)=og (a=b):=by
 by_cases e:a=b
 .subst e;simp
 .have h:¬(Sum.inr a:Key)=Sum.inr b:=λq=>e<|Sum.inr.inj q;rw[jR h,jR e]
theorem WN(a:Int)(b:j5):og ((Sum.inl a:Key)=Sum.inr b)=oe:=jR (λq=>nomatch q)
theorem WL(a:j5)(b:Int):og ((Sum.inr a:Key)=Sum.inl b)=oe:=jR (λq=>nomatch q)
noncomputable def AN(prog:jN)(w:jW):PySem.KeyKind prog w Key where
 is:=JC
 hash:=Zd w
 inj:=λv a b ha hb=>by
  rcases Bh ha with⟨i,t,rfl,rfl⟩|⟨x,t,rfl,rfl⟩
  .rcases Bh hb with⟨j,u,rfl,e⟩|⟨y,u,rfl,e⟩
   .injection e with e1 _;rw[e1]
   .exact nomatch e
  .rcases Bh hb with⟨j,u,rfl,e⟩|⟨y,u,rfl,e⟩
   .exact nomatch e
   .injection e with e1 _;rw[e1]
 byValue:=λk v h=>by
  rcases Bh h with⟨i,t,rfl,rfl⟩|⟨x,t,rfl,rfl⟩<;>rfl
 pyHash:=λhv h=>by
  rcases Bh hv with⟨i,t,rfl,rfl⟩|⟨x,t,rfl,rfl⟩
  .exact wpAny_pyHash_int h
  .exact wpAny_pyHash_str h
 eqBool:=λhu hv h=>by
  rcases Bh hu with⟨i,t,rfl,rfl⟩|⟨x,t,rfl,rfl⟩
  .rcases Bh hv with⟨j,u,rfl,rfl⟩|⟨y,u,rfl,rfl⟩
   .rw[WO]at h;exact wpAny_eqBool_int h
   .rw[WN]at h;exact SeqAt.EqAt.int_str i t y u _ _ _ _ h
  .rcases Bh hv with⟨j,u,rfl,rfl⟩|⟨y,u,rfl,rfl⟩
   .rw[WL]at h;exact SeqAt.EqAt.str_int x t j u _ _ _ _ h
   .rw[WK]at h;exact wpAny_eqBool_str h
 «strs»:=λk x t v h=>by
  rcases Bh h with⟨i,u,rfl,e⟩|⟨y,u,rfl,e⟩
  .exact nomatch e
  .injection e with e1 _;subst e1;cases v<;>rfl
theorem NV(prog:jN)(w:jW)(i:Int)(t:lm):(AN prog w).is (.inl i) (.int i t)=nZ:=Sa i t
theorem NU(prog:jN)(w:jW)(x:j5)(t:lm):(AN prog w).is (.inr x) (.str x t)=nZ:=RZ x t
inductive V where
 |non|bl (b:Bool)|int (i:Int)|str (x:j5)|byt (b:Array UInt8)|flt (b:UInt64)|ref (a:jF)|ty (n:String)
 deriving DecidableEq
abbrev LKz:=List<|List Key×V
abbrev LFz:=List<|j5×V
abbrev LUz:=List V
def RelV:V->jJ->Prop
 |.non,u=>u=Value.none
 |.bl b,u=>u=Value.bool b
 |.int i,u=>∃t,u=Value.int i t
 |.str x,u=>∃t,u=Value.str x t
 |.byt b,u=>∃t,u=Value.bytes b t
 |.flt b,u=>∃t,u=Value.float b t
 |.ref a,u=>u=Value.ref a
 |.ty n,u=>u=Value.type n
abbrev Vals:LUz->LWz->Prop:=Paired RelV
theorem Vals.length{xs:LUz}{us:LWz}(r:Vals xs us):xs.length=us.length:=Paired.length r
theorem Vals.get:∀{xs:LUz}{us:LWz}{i:Nat}{x:V},Vals xs us->xs[i]?=O x->∃u,us[i]?=O u/\RelV x u
 |_,_,_,_,.nil,e=>by simp at e
 |_,_,0,_,.cons r _,e=>by simp at e;subst e;exact⟨_,Z,r⟩
 |_,_,i+1,x,.cons _ t,e=>by
  obtain⟨u,h1,h2⟩:=Vals.get (i:=i) (x:=x) t (by simpa using e);exact⟨u,by simpa using h1,h2⟩
theorem Vals.set{x:V}{u:jJ}(r:RelV x u):∀{xs:LUz}{us:LWz}(i:Nat),Vals xs us->Vals (xs.set i x) (us.set i u)
 |_,_,_,.nil=>.nil
 |_,_,0,.cons _ t=>.cons r t
 |_,_,i+1,.cons q t=>.cons q<|Vals.set r i t
theorem Vals.append:∀{xs ys:LUz}{us ws:LWz},Vals xs us->Vals ys ws->Vals (xs++ys) (us++ws)
 |_,_,_,_,.nil,s=>s
 |_,_,_,_,.cons r t,s=>.cons r<|Vals.append t s
theorem Vals.take:∀{xs:LUz}{us:LWz}(n:Nat),Vals xs us->Vals (xs.take n) (us.take n)
 |_,_,0,_=>.nil
 |_,_,_+1,.nil=>.nil
 |_,_,n+1,.cons r t=>.cons r<|Vals.take n t
theorem Vals.drop:∀{xs:LUz}{us:LWz}(n:Nat),Vals xs us->Vals (xs.drop n) (us.drop n)
 |_,_,0,r=>r
 |_,_,_+1,.nil=>.nil
 |_,_,n+1,.cons _ t=>Vals.drop n t
def RelO:Option V->Option jJ->Prop
 |some v,O u=>RelV v u
 |none,Y=>True
 |_,_=>False
def KV{κ:Type}:List (κ×V)->List (κ×jJ)->Prop:=Paired λ(p:κ×V)(q:κ×jJ)=>p.1=q.1/\RelV p.2 q.2
noncomputable def kV:Key->V
 |.inl i=>.int i
 |.inr x=>.str x
inductive HO where
 |lst (xs:LUz)
 |tup (xs:LUz)
 |dK (kvs:List<|Key×V)|dT (kvs:LKz)
 |set (S:Int->Bool) (n:Nat)
 |ins (C dx:jF) (fs:LFz)
 |own (x:jF)
 |xd (fs:LFz)
 |met (f x:jF)
 |rng (lo hi:Int)
 |frz (o:Obj) (u:HO)
 |tbl (ps:Array jJ)
 |ext (φ:j6->Prop)
abbrev Hp:=jF->Option HO
noncomputable def upd(H:Hp)(a:jF)(o:HO):Hp:=λb=>if b=a then O o else H b
theorem Ae{H:Hp}{a:jF}{o:HO}:upd H a o a=O o:=by unfold upd;rw[jP Z]
theorem Af{H:Hp}{a b:jF}{o:HO}(h:b≠a):upd H a o b=H b:=by unfold upd;rw[jK h]
theorem Mb{H:Hp}{a:jF}{o u:HO}:upd (upd H a o) a u=upd H a u:=by
 funext b;unfold upd;split<;>rfl
theorem AQ{H:Hp}{a b:jF}{o u:HO}(h:H a=O o)(h':H b=O u)(d:o≠u):a≠b:=by
 intro e;subst e;rw[h]at h';exact d<|Option.some.inj h'
theorem Ad{H:Hp}{a b:jF}{o:HO}(h:H a=O o)(h':H b=Y):a≠b:=by
 intro e;subst e;rw[h]at h';cases h'
section
variable(P:jN)(w:jW)
def ObjOk(H:Hp)(h:j6)(a:jF):HO->Prop
 |.lst xs=>xs.length<=jU/\∃(its:LWz)(n:Nat),Vals xs its/\h.get? a=O { cls:=.type "list",data:=.seq its.toArray n}
 |.tup xs=>xs.length<=jU/\∃its:LWz,Vals xs its/\IsTup h a its.toArray
 |.dK kvs=>kvs.length<=jU/\(a==kt)=oe/\∃vs,KV kvs vs/\h.DictOf (AN P w) a vs
 |.dT kvs=>kvs.length<=jU/\(a==kt)=oe/\∃xs:List<|List Key×jF×jJ,
   Paired (λ(p:List Key×V)(q:List Key×jF×jJ)=>p.1=q.1/\H q.2.1=O (.tup<|p.1.map kV)/\RelV p.2 q.2.2) kvs xs /\
   ∃o es ep,h.get? a=O o/\o.ExactDict/\o.data=.dict es ep/\es.toList=xs.map (entryOfKey<|tupleKind<|AN P w)/\(xs.map (·.1)).Nodup
 |.set S n=>h.SetOf (intKind P w) a S n
 |.ins C dx fs=>H dx=O (.own a)/\fs.length<=1000/\dx≠a/\h.get? a=O (instObj C dx) /\
   ∃mA,h.Ns1 dx mA/\(∀f,RelO (fs.lookup f)<|mA f)/\PySem.Within mA (fs.map (·.1))
 |.own _=>∃o,h.get? a=O o
 |.xd fs=>∃mA,h.Ns1 a mA/\∀f,RelO (fs.lookup f)<|mA f
 |.rng lo hi=>∃t u v,h.get? a=O { cls:=.type "range",data:=.fields #[.int lo t,.int hi u,.int 1 v]}
 |.frz o u=>h.get? a=O o/\ObjOk H h a u
 |.tbl ps=>h.get? a=O { cls:=.none,data:=.fields ps}
 |.met f x=>h.get? a=O (methodObj (.ref f)<|.ref x)
 |.ext φ=>φ h/\(∃o,h.get? a=O o)/\∀h1 h2:j6,φ h1->(∀o,h1.get? a=O o->h2.get? a=O o)->φ h2
def HOk(H:Hp)(h:j6):Prop:=∀a o,H a=O o->ObjOk P w H h a o
end
section
variable{P:jN}{w:jW}{H H':Hp}{h h':j6}{a:jF}{o:HO}
theorem ObjOk.lt(x:ObjOk P w H h a o):a<h.objs.size:=by
 cases o with
 |lst xs=>obtain⟨_,_,_,_,e⟩:=x;exact ay e
 |tup xs=>obtain⟨_,_,_,p⟩:=x;exact p.lt
 |dK kvs=>obtain⟨_,_,_,_,o,_,_,e,_⟩:=x;exact ay e
 |dT kvs=>obtain⟨_,_,_,_,o,_,_,e,_⟩:=x;exact ay e
 |set S n=>obtain⟨o,_,_,_,e,_⟩:=x;exact ay e
 |ins C dx fs=>obtain⟨_,_,_,e,_⟩:=x;exact ay e
 |own y=>obtain⟨_,e⟩:=x;exact ay e
 |xd fs=>obtain⟨_,⟨_,_,_,e,_⟩,_⟩:=x;exact ay e
 |rng lo hi=>obtain⟨_,_,_,e⟩:=x;exact ay e
 |frz ob u=>obtain⟨e,_⟩:=x;exact ay e
 |tbl ps=>exact ay (show h.get? a=O _ from x)
 |met f y=>exact ay (show h.get? a=O _ from x)
 |ext φ=>obtain⟨_,⟨_,e⟩,_⟩:=x;exact ay e
theorem Paired.mapP{α β:Type}{F G:α->β->Prop}:∀{l₁:List α}{l₂:List β},Paired F l₁ l₂->(∀a b,F a b->G a b)->Paired G l₁ l₂
 |_,_,.nil,_=>.nil
 |_,_,.cons r t,f=>.cons (f _ _ r)<|Paired.mapP t f
theorem ObjOk.stay(x:ObjOk P w H h a o)(k:∀b u,(b=a\/H b=O (.own a))->h.get? b=O u->h'.get? b=O u)
  (ho:∀b,H b=O (.own a)->H' b=O (.own a)) (ht:∀b xs,H b=O (.tup xs)->H' b=O (.tup xs)):ObjOk P w H' h' a o:=by
 induction o with
 |lst xs=>obtain⟨z,its,n,r,e⟩:=x;exact⟨z,its,n,r,k _ _ (.inl Z) e⟩
 |tup xs=>obtain⟨z,its,r,ob,e,c⟩:=x;exact⟨z,its,r,ob,k _ _ (.inl Z) e,c⟩
 |dK kvs=>obtain⟨z,y,vs,r,ob,es,ep,e,c⟩:=x;exact⟨z,y,vs,r,ob,es,ep,k _ _ (.inl Z) e,c⟩
 |dT kvs=>
  obtain⟨z,y,xs,r,ob,es,ep,e,c⟩:=x;exact⟨z,y,xs,Paired.mapP r λp q z=>⟨z.1,ht _ _ z.2.1,z.2.2⟩,ob,es,ep,k _ _ (.inl Z) e,c⟩
 |set S n=>obtain⟨ob,es,ep,t,e,c⟩:=x;exact⟨ob,es,ep,t,k _ _ (.inl Z) e,c⟩
 |ins C dx fs=>
  obtain⟨d,z,ne,e,mA,⟨od,es,ep,e2,c⟩,r⟩:=x;exact⟨ho _ d,z,ne,k _ _ (.inl Z) e,mA,⟨od,es,ep,k _ _ (.inr d) e2,c⟩,r⟩
 |own y=>obtain⟨ob,e⟩:=x;exact⟨ob,k _ _ (.inl Z) e⟩
 |xd fs=>obtain⟨mA,⟨od,es,ep,e,c⟩,r⟩:=x;exact⟨mA,⟨od,es,ep,k _ _ (.inl Z) e,c⟩,r⟩
 |rng lo hi=>obtain⟨t,u,v,e⟩:=x;exact⟨t,u,v,k _ _ (.inl Z) e⟩
 |frz ob u ih=>obtain⟨e,q⟩:=x;exact⟨k _ _ (.inl Z) e,ih q⟩
 |tbl ps=>
  have e:h.get? a=O { cls:=.none,data:=.fields ps}:=x;show h'.get? a=O { cls:=.none,data:=.fields ps};exact k a _ (.inl Z) e
 |met f y=>
  have e:h.get? a=O (methodObj (.ref f)<|.ref y):=x;show h'.get? a=O (methodObj (.ref f)<|.ref y);exact k a _ (.inl Z) e
 |ext φ=>obtain⟨p,⟨o,e⟩,st⟩:=x;exact⟨st _ _ p λo q=>k _ _ (.inl Z) q,⟨o,k _ _ (.inl Z) e⟩,st⟩
theorem HOk.lt(x:HOk P w H h)(e:H a=O o):a<h.objs.size:=(x a o e).lt
theorem HOk.fresh(x:HOk P w H h)(e:h.objs.size<=a):H a=Y:=by
 cases q:H a with
 |none=>rfl
 |some u=>exact absurd (aP (x.lt q) e)<|bM _
theorem HOk.kept(x:HOk P w H h)(k:∀b u,h.get? b=O u->h'.get? b=O u):HOk P w H h':=λa o e=>
 (x a o e).stay (λb u _ q=>k b u q) (λ_ q=>q) λ_ _ q=>q
theorem HOk.laid(x:HOk P w H h)(k:∀b u,h.get? b=O u->h'.get? b=O u)(hp:h.objs.size<=a)(new:ObjOk P w (upd H a o) h' a o):HOk P w (upd H a o) h':=λb u e=>by
 have hn:=x.fresh hp;by_cases hb:b=a
 .subst hb;rw[Ae]at e;cases e;exact new
 .rw[Af hb]at e;exact(x b u e).stay (λc v _ q=>k c v q) (λc q=>by rw[Af<|Ad q hn];exact q) λc xs q=>by rw[Af<|Ad q hn];exact q
end
def Rd(H:Hp)(a:jF)(u:HO):Prop:=H a=O u\/∃o,H a=O (.frz o u)
theorem Rd.ok{P:jN}{w:jW}{H:Hp}{h:j6}{a:jF}{u:HO}(r:Rd H a u)(x:HOk P w H h):ObjOk P w H h a u:=by
 rcases r with r|⟨o,r⟩
 .exact x a u r
 .obtain⟨_,q⟩:=x a _ r;exact q
def Mut:Option HO->Prop
 |some (.lst _)=>True
 |some (.dK _)=>True
 |some (.dT _)=>True
 |some (.set _ _)=>True
 |some (.ins _ _ _)=>True
 |some (.ext _)=>True
 |_=>False
section
variable{P:jN}{w:jW}{H:Hp}{h h':j6}{x e:jF}{o':HO}
theorem HOk.write(ok:HOk P w H h)(mu:Mut<|H x)(he:e=x\/H e=O (.own x))(k:∀b u,b≠e->h.get? b=O u->h'.get? b=O u)(heo:∃u,h'.get? e=O u)
  (new:ObjOk P w (upd H x o') h' x o'):HOk P w (upd H x o') h':=λb u q=>by
 have nown:∀c y,H c=O (.own y)->c≠x:=λc y r z=>by subst z;rw[r]at mu;exact mu
 have ntup:∀c xs,H c=O (.tup xs)->c≠x:=λc xs r z=>by subst z;rw[r]at mu;exact mu
 by_cases hb:b=x
 .subst hb;rw[Ae]at q;cases q;exact new
 .rw[Af hb]at q;by_cases hbe:b=e
  .have q':H b=O (.own x):=by
    rcases he with z|z
    .exact absurd (hbe.trans z) hb
    .rw[hbe];exact z
   rw[q]at q';cases q';obtain⟨v,hv⟩:=heo;exact⟨v,by rw[hbe];exact hv⟩
  .refine(ok b u q).stay (λc v hc r=>k c v ?_ r) (λc r=>by rw[Af<|nown c b r];exact r) λc xs r=>by rw[Af<|ntup c xs r];exact r
   rcases hc with rfl|hc
   .exact hbe
   .rintro rfl;rcases he with z|z
    .exact nown c b hc z
    .rw[hc]at z;cases z;exact hb Z
end
structure Un(fs ex:List jF)(H H':Hp)(h h':j6):Prop where
 keep:∀b o,h.get? b=O o->H b=Y->b∉fs->b∉ex->h'.get? b=O o
 slot:∀b o,h.get? b=O o->H b=Y->b∈fs->b∉ex->∃sl,h'.get? b=O { o with slots:=sl}
 free:∀b o,h.get? b=O o->H b=Y->b∉ex->H' b=Y
 there:∀b o,h.get? b=O o->b∉ex->∃o',h'.get? b=O o'
 tups:∀b xs,H b=O (.tup xs)->H' b=O (.tup xs)
 frzs:∀b o u,H b=O (.frz o u)->H' b=O (.frz o u)
 tbls:∀b ps,H b=O (.tbl ps)->∃more,H' b=O (.tbl<|ps++more)
section
variable{fs fs' ex ex':List jF}{H H1 H2:Hp}{h h1 h2 h':j6}{a x e:jF}{o:HO}
theorem Un.any(u:Un fs ex H H1 h h1){b:jF}{ob:Obj}(q:h.get? b=O ob)(n:H b=Y)(hx:b∉ex):∃sl,h1.get? b=O { ob with slots:=sl}:=by
 by_cases hb:b∈fs
 .exact u.slot b ob q n hb hx
 .exact⟨ob.slots,u.keep b ob q n hb hx⟩
theorem Un.kept(k:∀b u,h.get? b=O u->h'.get? b=O u):Un fs ex H H h h':=
 ⟨λb ob q _ _ _=>k b ob q,λb ob q _ _ _=>⟨ob.slots,k b ob q⟩,λ_ _ _ n _=>n,λb ob q _=>⟨ob,k b ob q⟩,λ_ _ q=>q,λ_ _ _ q=>q,λ_ ps q=>⟨#[],by rw[q];simp⟩⟩
theorem Un.refl:Un fs ex H H h h:=Un.kept λ_ _ q=>q
theorem Un.laid(k:∀b u,h.get? b=O u->h'.get? b=O u)(hp:h.objs.size<=a)(hn:H a=Y):Un fs ex H (upd H a o) h h' where
 keep:=λb u q _ _ _=>k b u q
 slot:=λb u q _ _ _=>⟨u.slots,k b u q⟩
 free:=λb u q n _=>by rw[Af<|aM<|aP (ay q) hp];exact n
 there:=λb u q _=>⟨u,k b u q⟩
 tups:=λb xs q=>by rw[Af<|Ad q hn];exact q
 frzs:=λb u xs q=>by rw[Af<|Ad q hn];exact q
 tbls:=λb ps q=>⟨#[],by rw[Af<|Ad q hn,q];simp⟩
theorem Un.write(mu:Mut<|H x)(he:e=x\/H e=O (.own x))(k:∀b u,b≠e->h.get? b=O u->h'.get? b=O u)(heo:∃u,h'.get? e=O u):Un fs ex H (upd H x o) h h':=by
 have hx:∀b,H b=Y->b≠x:=λb n z=>by subst z;rw[n]at mu;exact mu
 have hb:∀b,H b=Y->b≠e:=λb n z=>by
  subst z;rcases he with r|r
  .exact hx b n r
  .rw[n]at r;cases r
 have hm:∀b u,H b=O u->¬Mut (O u)->b≠x:=λb u q nm z=>by subst z;rw[q]at mu;exact nm mu
 refine⟨λb u q n _ _=>k b u (hb b n) q,λb u q n _ _=>⟨u.slots,k b u (hb b n) q⟩,λb u q n _=>by rw[Af<|hx b n];exact n,λb u q _=>?_,
  λb xs q=>by rw[Af<|hm b _ q λz=>z];exact q,λb u xs q=>by rw[Af<|hm b _ q λz=>z];exact q,λb ps q=>⟨#[],by rw[Af<|hm b _ q λz=>z,q];simp⟩⟩
 by_cases hbe:b=e
 .subst hbe;exact heo
 .exact⟨u,k b u hbe q⟩
end
noncomputable def trk(h:j6)(H:Hp):List jF:=(List.range h.objs.size).filter λa=>(H a).isSome
noncomputable def MK(h:j6)(H:Hp):j6:=hideAll h<|trk h H
theorem Sd(h:j6)(H:Hp):(MK h H).objs.size=h.objs.size:=hideAll_size _ _
theorem TW{h:j6}{H:Hp}{b:jF}{o:Obj}(e:h.get? b=O o)(n:H b=Y):(MK h H).get? b=O o:=
 hideAll_get _ e λhm=>by
  have q:(H b).isSome=nZ:=(bg.mp hm).2;rw[n]at q;simp at q
theorem Vd{h:j6}{H:Hp}{b:jF}{o:Obj}(e:(MK h H).get? b=O o):h.get? b=O o/\H b=Y:=by
 have e':h.get? b=O o:=of_hideAll (trk h H) e;refine⟨e',?_⟩;cases q:H b with
 |none=>rfl
 |some x=>
  have hm:b∈trk h H:=bg.mpr ⟨aO.mpr<|ay e',by simp[q]⟩;have z:(MK h H).get? b=Y:=hideAll_none (trk h H) hm;rw[z]at e;cases e
structure Mod(K:jX)(mg:MGz)(jD:j6):Prop where
 kin:K.In jD
 glob:jD.Ns jQ mg
 blt:∃mb,jD.Ns builtinsNs mb/\∀x:j5,x≠"__name__"->mb x=bootBuiltins x
 nolimit:jD.NoLimit
structure Cx where
 prog:jN
 w:jW
 K:jX
 mg:MGz
 jD:j6
 A:jZ
 N:LSz
 s₀:jH
 H₀:Hp
 env:lO
 jz:List lO
 stack:List lO
 ex:List jF
 fn:j5->Bool
 calm:Bool
 pn:PNz
 xe:VPz
noncomputable def frs(l:List lO):List jF:=l.filterMap (·.frame)
noncomputable abbrev Cx.fs(X:Cx):List jF:=frs X.jz
def Vis(sc:kF)(x:j5):Prop:=sc.names.lookup x=O .local\/sc.names.lookup x=O .cell\/sc.names.lookup x=O .free
def Loc(sc:kF)(x:j5):Prop:=sc.names.lookup x=O .local\/sc.names.lookup x=O .cell
def Zn(env:lO)(h:j6)(m:MGz)(x:j5)(u:jJ):Prop:=
 (env.kindOf x=O .local/\m x=O u)\/((env.kindOf x=O .cell\/env.kindOf x=O .free)/\∃c,env.cells.lookup x=O c/\h.IsCell c (O u))
structure Cx.Ok(X:Cx):Prop where
 mod:Mod X.K X.mg X.jD
 kind:X.env.scope.kind=.function
 glob:X.env.globals=jQ
 blt:X.env.builtins=builtinsNs
 above:X.s₀.heap.objs.size<=X.env.locals
 inj:∀x y c,X.env.cells.lookup x=O c->X.env.cells.lookup y=O c->x=y
 has:∀x,(X.env.kindOf x=O .cell\/X.env.kindOf x=O .free)->∃c,X.env.cells.lookup x=O c
 cab:∀x c,X.fn x=nZ->X.env.cells.lookup x=O c->X.s₀.heap.objs.size<=c
 hd:X.calm=nZ->X.A.handled=Y
 frames:X.A.frames=O X.stack
 stk:X.stack=X.jz\/(X.stack=X.env::X.jz/\X.env.frame=O X.env.locals)
 exf:∀b∈X.ex,b≠X.env.locals/\∀x c,X.env.cells.lookup x=O c->c≠b
 bs:∀b o,X.jD.get? b=O o->X.s₀.heap.get? b=O o/\X.H₀ b=Y
 bsz:X.jD.objs.size<=X.s₀.heap.objs.size
 noex:∀b o,X.jD.get? b=O o->b∉X.ex
 exfs:∀b∈X.ex,b∉X.fs
 funs:X.s₀.heap.FunFrames X.jD X.jz
 frf:∀b∈X.fs,X.H₀ b=Y
structure Inv(X:Cx)(jy:PNz)(B:List<|Option V)(H:Hp)(s:jH):Prop where
 ok:X.Ok
 os:s.os=X.s₀.os
 bare:AllBare s.gens
 jD:Un X.fs X.ex X.H₀ H X.s₀.heap s.heap
 loc:∃m,s.heap.Ns X.env.locals m/\∀(i:Nat)(x:j5)(v:V),X.N[i]?=O x->B[i]?=O (O v)->Vis X.env.scope x->∃u,RelV v u/\Zn X.env s.heap m x u
 cell:∀x c,X.env.cells.lookup x=O c->∃v,s.heap.IsCell c v
 free:H X.env.locals=Y
 freeC:∀x c,X.env.cells.lookup x=O c->H c=Y
 pin:∀p∈X.pn++jy,s.heap.get? p.1=O p.2/\H p.1=Y/\p.1≠X.env.locals/\p.1∉X.fs/\∀v,p.2.data≠.cell v
 hok:HOk X.prog X.w H s.heap
 len:B.length=X.N.length
section
variable{X:Cx}{jy:PNz}{B:List<|Option V}{H H':Hp}{s:jH}{h':j6}
theorem Cx.Ok.nofr(ok:X.Ok){b:jF}{o:Obj}(e:X.jD.get? b=O o):b∉X.fs:=λhb=>by
 have:=(ok.funs.mem hb).1;rw[e]at this;cases this
theorem Inv.bs(I:Inv X jy B H s):∀b o,X.jD.get? b=O o->s.heap.get? b=O o/\H b=Y:=λb o e=>
 ⟨I.jD.keep b o (I.ok.bs b o e).1 (I.ok.bs b o e).2 (I.ok.nofr e)<|I.ok.noex b o e,I.jD.free b o (I.ok.bs b o e).1 (I.ok.bs b o e).2<|I.ok.noex b o e⟩
theorem Inv.bk(I:Inv X jy B H s):∀b o,X.jD.get? b=O o->s.heap.get? b=O o:=λb o e=>(I.bs b o e).1
theorem Inv.mod(I:Inv X jy B H s):Mod X.K X.mg X.jD:=I.ok.mod
theorem Inv.kIn(I:Inv X jy B H s):X.K.In s.heap:=I.ok.mod.kin.keeps I.bk
theorem Inv.lt(I:Inv X jy B H s):X.env.locals<s.heap.objs.size:=let ⟨_,hn,_⟩:=I.loc;hn.lt
theorem Inv.sz(I:Inv X jy B H s):X.s₀.heap.objs.size<=s.heap.objs.size:=aV I.ok.above<|aK I.lt
theorem Inv.nofs(I:Inv X jy B H s){a:jF}(h:s.heap.objs.size<=a):a∉X.fs:=λhb=>by
 obtain⟨_,o,ho,_⟩:=I.ok.funs.mem hb;exact absurd (aP (ay ho)<|aV I.sz h)<|bM _
theorem Inv.cne(I:Inv X jy B H s):∀x c,X.env.cells.lookup x=O c->c≠X.env.locals:=λx c e z=>by
 obtain⟨v,o,ho,hd⟩:=I.cell x c e;obtain⟨m,⟨o',es,ep,ho',hd',_⟩,_⟩:=I.loc;rw[z,ho']at ho;cases ho;rw[hd']at hd;cases hd
theorem Inv.funs(I:Inv X jy B H s):s.heap.FunFrames X.jD X.jz:=by
 have all:∀(l:List lO),(∀b∈frs l,b∈X.fs)->X.s₀.heap.FunFrames X.jD l->s.heap.FunFrames X.jD l:=by
  intro l
  induction l with
  |nil=>intro _ _;trivial
  |cons env r ih=>
   intro hs hl;obtain⟨hk,⟨L,o,hf,hn,ho,hd⟩,hr⟩:=hl;have hL:L∈X.fs:=hs L (by unfold frs;rw[dX,hf];exact aE);obtain⟨sl,e⟩:=I.jD.slot L o ho (I.ok.frf L hL) hL λz=>I.ok.exfs L z hL;exact⟨hk,⟨L,_,hf,hn,e,hd⟩,ih (λb hb=>hs b (by unfold frs;rw[dX,hf];exact aF _ hb)) hr⟩
 exact all X.jz (λ_ hb=>hb) I.ok.funs
theorem Inv.stack(I:Inv X jy B H s):s.heap.FunFrames X.jD X.stack:=by
 rcases I.ok.stk with e|⟨e,hf⟩
 .rw[e];exact I.funs
 .rw[e];obtain⟨m,hn,_⟩:=I.loc;refine .cons (by rw[I.ok.kind];decide) hf hn ?_ I.funs;exact fT<|aV I.ok.bsz I.ok.above
theorem Inv.stkSub(I:Inv X jy B H s):∀b∈frs X.stack,b∈X.env.locals::X.fs:=λb hb=>by
 rcases I.ok.stk with e|⟨e,hf⟩
 .rw[e]at hb;exact aF _ hb
 .rw[e]at hb;unfold frs at hb;rw[dX,hf]at hb;exact hb
theorem Inv.stkFree(I:Inv X jy B H s):∀b∈frs X.stack,H b=Y:=λb hb=>by
 rcases aQ.mp (I.stkSub b hb)with e|hb
 .rw[e];exact I.free
 .obtain⟨_,o,ho,_⟩:=I.ok.funs.mem hb;exact I.jD.free b o ho (I.ok.frf b hb) λz=>I.ok.exfs b z hb
theorem Inv.step{g':Array GenState}{t':Nat}{d':Drawn}{ch:List jF}(I:Inv X jy B H s)
  (hch:∀b∈ch,(b∈X.ex\/X.s₀.heap.objs.size<=b)/\b≠X.env.locals/\(∀x c,X.env.cells.lookup x=O c->c≠b)/\∀p∈X.pn++jy,p.1≠b)
  (keep:∀b o,b≠X.env.locals->b∉X.fs->b∉ch->s.heap.get? b=O o->H b=Y->h'.get? b=O o)
  (slot:∀b o,b≠X.env.locals->b∈X.fs->b∉ch->s.heap.get? b=O o->H b=Y->∃sl,h'.get? b=O { o with slots:=sl}) (free:∀b o,b∉ch->s.heap.get? b=O o->H b=Y->H' b=Y)
  (there:∀b o,b∉ch->s.heap.get? b=O o->∃o',h'.get? b=O o')
  (tups:∀b xs,H b=O (.tup xs)->H' b=O (.tup xs)) (frzs:∀b o u,H b=O (.frz o u)->H' b=O (.frz o u)) (tbls:∀b ps,H b=O (.tbl ps)->∃more,H' b=O (.tbl<|ps++more))
  (ns:∀m,s.heap.Ns X.env.locals m->h'.Ns X.env.locals m) (hok:HOk X.prog X.w H' h') (hg:AllBare g'):
  Inv X jy B H' { s with heap:=h',gens:=g',drawn:=d',toks:=t'}:=by
 have neL:∀b o,X.s₀.heap.get? b=O o->b≠X.env.locals:=λb o e=>aM<|aP (ay e) I.ok.above;have neC:∀b o,X.s₀.heap.get? b=O o->b∉X.ex->b∉ch:=λb o e hx hb=>by
  rcases(hch b hb).1 with z|z
  .exact hx z
  .exact absurd (aP (ay e) z) (bM _)
 have cellK:∀x c,X.env.cells.lookup x=O c->∀v,s.heap.IsCell c v->h'.IsCell c v:=λx c e v ⟨o,ho,hd⟩=>by
  have nch:c∉ch:=λz=>(hch c z).2.2.1 x c e Z;by_cases hc:c∈X.fs
  .obtain⟨sl,q⟩:=slot c o (I.cne x c e) hc nch ho<|I.freeC x c e;exact⟨_,q,hd⟩
  .exact⟨o,keep c o (I.cne x c e) hc nch ho<|I.freeC x c e,hd⟩
 refine⟨I.ok,I.os,hg,⟨λb o e n hb hx=>?_,λb o e n hb hx=>?_,λb o e n hx=>?_,λb o e hx=>?_,λb xs e=>tups b xs<|I.jD.tups b xs e,λb o xs e=>frzs b o xs<|I.jD.frzs b o xs e,λb ps e=>?_⟩,?_,λx c e=>?_,?_,λx c e=>?_,λp hp=>?_,hok,I.len⟩
 .exact keep b o (neL b o e) hb (neC b o e hx) (I.jD.keep b o e n hb hx) (I.jD.free b o e n hx)
 .obtain⟨sl,e1⟩:=I.jD.slot b o e n hb hx;obtain⟨sl',e2⟩:=slot b _ (neL b o e) hb (neC b o e hx) e1<|I.jD.free b o e n hx;exact⟨sl',e2⟩
 .obtain⟨o',e1⟩:=I.jD.there b o e hx;exact free b o' (neC b o e hx) e1<|I.jD.free b o e n hx
 .obtain⟨o',e1⟩:=I.jD.there b o e hx;exact there b o' (neC b o e hx) e1
 .obtain⟨m1,e1⟩:=I.jD.tbls b ps e;obtain⟨m2,e2⟩:=tbls b _ e1;exact⟨m1++m2,by rw[e2,Array.append_assoc]⟩
 .obtain⟨m,hn,hl⟩:=I.loc;refine⟨m,ns m hn,λi x v e1 e2 e3=>?_⟩;obtain⟨u,r,l⟩:=hl i x v e1 e2 e3;refine⟨u,r,?_⟩;rcases l with l|⟨k,c,e,z⟩
  .exact .inl l
  .exact .inr ⟨k,c,e,cellK x c e _ z⟩
 .obtain⟨v,z⟩:=I.cell x c e;exact⟨v,cellK x c e v z⟩
 .obtain⟨m,⟨o,_,_,ho,_⟩,_⟩:=I.loc;exact free _ o (λz=>(hch _ z).2.1 Z) ho I.free
 .obtain⟨v,o,ho,hd⟩:=I.cell x c e;exact free c o (λz=>(hch c z).2.2.1 x c e Z) ho<|I.freeC x c e
 .obtain⟨e,n,ne,nf,d⟩:=I.pin p hp;have nch:p.1∉ch:=λz=>(hch p.1 z).2.2.2 p hp Z;exact⟨keep p.1 p.2 ne nf nch e n,free p.1 p.2 nch e n,ne,nf,d⟩
theorem Inv.un{t':Nat}(I:Inv X jy B H s)(u:Un X.fs [] H H' s.heap h')(hok:HOk X.prog X.w H' h'):Inv X jy B H' { s with heap:=h',toks:=t'}:=by
 obtain⟨m,⟨o,es,ep,ho,r⟩,_⟩:=id I.loc;obtain⟨sl,hL⟩:=u.any ho I.free (by simp);exact I.step (g':=s.gens) (d':=s.drawn) (ch:=[]) (λ_ z=>nomatch z) (λb o _ hb _ e n=>u.keep b o e n hb<|by simp) (λb o _ hb _ e n=>u.slot b o e n hb<|by simp) (λb o _ e n=>u.free b o e n<|by simp) (λb o _ e=>u.there b o e<|by simp) u.tups u.frzs u.tbls (λm' hm=>by
  obtain⟨o',es',ep',ho',r'⟩:=hm;rw[ho]at ho';cases ho';exact⟨_,es',ep',hL,r'⟩) hok I.bare
theorem Inv.call{g':Array GenState}{t':Nat}{d':Drawn}{ch:List jF}(I:Inv X jy B H s)(u:Un (frs X.stack) ch H H' s.heap h')(hok:HOk X.prog X.w H' h')(hg:AllBare g')
  (hch:∀b∈ch,(b∈X.ex\/X.s₀.heap.objs.size<=b)/\b≠X.env.locals/\(∀x c,X.env.cells.lookup x=O c->c≠b)/\∀p∈X.pn++jy,p.1≠b):
  Inv X jy B H' { s with heap:=h',gens:=g',drawn:=d',toks:=t'}:=by
 obtain⟨m,⟨o,es,ep,ho,r⟩,_⟩:=id I.loc;obtain⟨sl,hL⟩:=u.any ho I.free λz=>(hch _ z).2.1 Z;exact I.step (ch:=ch) hch (λb o hL hb hc e n=>u.keep b o e n (λz=>(aQ.mp<|I.stkSub b z).elim hL hb) hc) (λb o _ _ hc e n=>u.any e n hc) (λb o hc e n=>u.free b o e n hc) (λb o hc e=>u.there b o e hc) u.tups u.frzs u.tbls (λm' hm=>by
  obtain⟨o',es',ep',ho',r'⟩:=hm;rw[ho]at ho';cases ho';exact⟨_,es',ep',hL,r'⟩) hok hg
theorem Inv.turned{t':Nat}{it:jF}(I:Inv X jy B H s)(k:∀b o,b≠it->s.heap.get? b=O o->h'.get? b=O o)(hn:H it=Y)(hL:it≠X.env.locals)
  (h1:it∈X.ex\/X.s₀.heap.objs.size<=it) (h2:∀x c,X.env.cells.lookup x=O c->c≠it) (h3:∀p∈X.pn++jy,p.1≠it):Inv X jy B H { s with heap:=h',toks:=t'}:=by
 have nit:∀b u,H b=O u->b≠it:=λb u e z=>by rw[z,hn]at e;cases e
 refine I.step (g':=s.gens) (d':=s.drawn) (ch:=[it]) (λb hb=>?_) (λb o _ _ hc e _=>k b o (λz=>hc<|by simp[z]) e) (λb o _ _ hc e _=>⟨o.slots,k b o (λz=>hc<|by simp[z]) e⟩) (λ_ _ _ _ n=>n)
  (λb o hc e=>⟨o,k b o (λz=>hc<|by simp[z]) e⟩) (λ_ _ e=>e) (λ_ _ _ e=>e) (λb ps e=>⟨#[],by rw[e];simp⟩) (λm hm=>?_) (λb u e=>?_) I.bare
 .have e:b=it:=by simpa using hb
  subst e;exact⟨h1,hL,h2,h3⟩
 .obtain⟨o,es,ep,ho,r⟩:=hm;exact⟨o,es,ep,k _ o (Ne.symm hL) ho,r⟩
 .refine(I.hok b u e).stay (λc v hc q=>k c v ?_ q) (λ_ q=>q) λ_ _ q=>q;rcases hc with z|z
  .rw[z];exact nit b u e
  .exact nit c _ z
theorem Inv.tok(I:Inv X jy B H s)(t:Nat):Inv X jy B H { s with toks:=t}:=I.un (h':=s.heap) (t':=t) Un.refl I.hok
theorem Inv.kept{t':Nat}(I:Inv X jy B H s)(k:∀b u,s.heap.get? b=O u->h'.get? b=O u):Inv X jy B H { s with heap:=h',toks:=t'}:=I.un (Un.kept k)<|I.hok.kept k
theorem Inv.laid{a:jF}{o:HO}{t':Nat}(I:Inv X jy B H s)(k:∀b u,s.heap.get? b=O u->h'.get? b=O u)(hp:s.heap.objs.size<=a)(new:ObjOk X.prog X.w (upd H a o) h' a o):
  Inv X jy B (upd H a o) { s with heap:=h',toks:=t'}:=I.un (Un.laid k hp<|I.hok.fresh hp)<|I.hok.laid k hp new
theorem Inv.write{x e:jF}{o:HO}{t':Nat}(I:Inv X jy B H s)(mu:Mut<|H x)(he:e=x\/H e=O (.own x))(k:∀b u,b≠e->s.heap.get? b=O u->h'.get? b=O u)(heo:∃u,h'.get? e=O u)
  (new:ObjOk X.prog X.w (upd H x o) h' x o):Inv X jy B (upd H x o) { s with heap:=h',toks:=t'}:=I.un (Un.write mu he k heo)<|I.hok.write mu he k heo new
theorem Inv.pins_of{jy':PNz}(I:Inv X jy B H s)(h:∀p∈jy',s.heap.get? p.1=O p.2/\H p.1=Y/\p.1≠X.env.locals/\p.1∉X.fs/\∀v,p.2.data≠.cell v):Inv X jy' B H s:=
 ⟨I.ok,I.os,I.bare,I.jD,I.loc,I.cell,I.free,I.freeC,λp hp=>(aw.mp hp).elim (λz=>I.pin p<|be _ z)<|h p,I.hok,I.len⟩
theorem J0{N:LSz}(hN:N.Nodup){i j:Nat}{x:j5}(a:N[i]?=O x)(b:N[j]?=O x):i=j:=by
 obtain⟨h1,e1⟩:=aD.mp a;obtain⟨h2,e2⟩:=aD.mp b;exact(List.getElem_inj hN).mp<|e1.trans e2.symm
theorem R5{M:Model}{A:jZ}{E:VPz}{i:Nat}{x:j5}{v:V}{u:jJ}{Q:Unit->jH->Prop}(I:Inv X jy B H s)(hN:X.N.Nodup)(hi:X.N[i]?=O x)(hx:Loc X.env.scope x)(r:RelV v u)
  (h:∀s',Inv X jy (B.set i<|O v) H s'->(∃a,Heap.SameBut a s.heap s'.heap/\(a=X.env.locals\/X.env.cells.lookup x=O a))->Q () s') (hf:X.fn x=nZ\/X.env.scope.names.lookup x=O .local:=by first|exact .inl Z|exact .inr Z|assumption):jT M A (storeName X.env x u) Q E s:=by
 obtain⟨m,hn,hl⟩:=id I.loc;have hcls:(X.env.scope.kind==.class||(X.env.scope.kind==.module&&X.env.locals != X.env.globals))=oe:=by rw[I.ok.kind];rfl
 have hiσ:i<B.length:=by rw[I.len];exact(aD.mp hi).1
 have cne:=I.cne;have tracked:∀{a:jF}{h':j6},(∃o,s.heap.get? a=O o/\H a=Y)->Heap.SameBut a s.heap h'->HOk X.prog X.w H h':=λ{a h'} ha hs b ob e=>by
  obtain⟨_,_,hfree⟩:=ha;refine(I.hok b ob e).stay (λc w' hc q=>(hs.2 c ?_).trans q) (λ_ q=>q) λ_ _ q=>q;rintro rfl;rcases hc with rfl|hc
  .rw[hfree]at e;cases e
  .rw[hfree]at hc;cases hc
 rcases hx with hk|hk
 .refine wpAny_storeName_local hk hn (λh' hn' hs=>?_) hcls;obtain⟨oL,_,_,hoL,_⟩:=id hn;refine h _ ⟨I.ok,I.os,I.bare,⟨λb o e n hb hx=>?_,λb o e n hb hx=>?_,I.jD.free,λb o e hx=>?_,I.jD.tups,I.jD.frzs,I.jD.tbls⟩,⟨_,hn',λj y v' e1 e2 e3=>?_⟩,λy c e=>?_,I.free,I.freeC,λp hp=>?_,tracked ⟨oL,hoL,I.free⟩ hs,by simpa using I.len⟩ ⟨_,hs,.inl Z⟩
  .exact(hs.2 b<|aM<|aP (ay e) I.ok.above).trans (I.jD.keep b o e n hb hx)
  .obtain⟨sl,e1⟩:=I.jD.slot b o e n hb hx;exact⟨sl,(hs.2 b<|aM<|aP (ay e) I.ok.above).trans e1⟩
  .obtain⟨o',e1⟩:=I.jD.there b o e hx;exact⟨o',(hs.2 b<|aM<|aP (ay e) I.ok.above).trans e1⟩
  .by_cases hj:j=i
   .subst hj;rw[hi]at e1;cases e1;rw[dF hiσ]at e2;cases e2;exact⟨u,r,.inl ⟨hk,by simp⟩⟩
   .rw[dP<|Ne.symm hj]at e2;obtain⟨u',r',q⟩:=hl j y v' e1 e2 e3;refine⟨u',r',?_⟩;rcases q with⟨k,e⟩|⟨k,c,e,z⟩
    .refine .inl ⟨k,?_⟩;have:y≠x:=λe=>hj<|J0 hN e1<|e ▸ hi;simp[this,e]
    .exact .inr ⟨k,c,e,z.sameBut hs<|cne y c e⟩
  .obtain⟨w',z⟩:=I.cell y c e;exact⟨w',z.sameBut hs<|cne y c e⟩
  .obtain⟨e,n,ne,nf,d⟩:=I.pin p hp;exact⟨(hs.2 p.1 ne).trans e,n,ne,nf,d⟩
 .have hfn:X.fn x=nZ:=by
   rcases hf with z|z
   .exact z
   .rw[z]at hk;cases hk
  obtain⟨c,hc⟩:=I.ok.has x<|.inl hk;obtain⟨w',z⟩:=I.cell x c hc;refine wpAny_storeName_cell I.ok.kind hk hc z λh' hc' hs=>?_;obtain⟨oc,hoc,hocd⟩:=id z;refine h { s with heap:=h'} ⟨I.ok,I.os,I.bare,⟨λb o e n hb hx=>?_,λb o e n hb hx=>?_,I.jD.free,λb o e hx=>?_,I.jD.tups,I.jD.frzs,I.jD.tbls⟩,⟨m,hn.sameBut hs<|Ne.symm<|cne x c hc,λj y v' e1 e2 e3=>?_⟩,λy c' e=>?_,I.free,I.freeC,λp hp=>?_,tracked ⟨oc,hoc,I.freeC x c hc⟩ hs,by simpa using I.len⟩ ⟨c,hs,.inr hc⟩
  .exact(hs.2 b<|aM<|aP (ay e)<|I.ok.cab x c hfn hc).trans (I.jD.keep b o e n hb hx)
  .obtain⟨sl,e1⟩:=I.jD.slot b o e n hb hx;exact⟨sl,(hs.2 b<|aM<|aP (ay e)<|I.ok.cab x c hfn hc).trans e1⟩
  .obtain⟨o',e1⟩:=I.jD.there b o e hx;exact⟨o',(hs.2 b<|aM<|aP (ay e)<|I.ok.cab x c hfn hc).trans e1⟩
  .by_cases hj:j=i
   .subst hj;rw[hi]at e1;cases e1;rw[dF hiσ]at e2;cases e2;exact⟨u,r,.inr ⟨.inl hk,c,hc,hc'⟩⟩
   .rw[dP<|Ne.symm hj]at e2;obtain⟨u',r',q⟩:=hl j y v' e1 e2 e3;refine⟨u',r',?_⟩;rcases q with q|⟨k,c',e,z'⟩
    .exact .inl q
    .refine .inr ⟨k,c',e,z'.sameBut hs ?_⟩;rintro rfl;exact hj<|J0 hN e1<|I.ok.inj _ _ _ e hc ▸ hi
  .by_cases hcc:c'=c
   .subst hcc;exact⟨_,hc'⟩
   .obtain⟨w2,z2⟩:=I.cell y c' e;exact⟨w2,z2.sameBut hs hcc⟩
  .obtain⟨e,n,ne,nf,d⟩:=I.pin p hp;refine⟨(hs.2 p.1 ?_).trans e,n,ne,nf,d⟩;intro q;rw[q,hoc]at e;have q':oc=p.2:=Option.some.inj e;exact d w' (by rw[<-q'];exact hocd)
theorem Gb{M:Model}{A:jZ}{E:VPz}{i:Nat}{x:j5}{v:V}{u:jJ}{Q:Unit->jH->Prop}(I:Inv X jy B H s)(hN:X.N.Nodup)(hi:X.N[i]?=O x)(hx:Loc X.env.scope x)(r:RelV v u)
  (h:∀s',Inv X jy (B.set i<|O v) H s'->Q () s') (hf:X.fn x=nZ\/X.env.scope.names.lookup x=O .local:=by first|exact .inl Z|exact .inr Z|assumption):jT M A (storeName X.env x u) Q E s:=
 R5 I hN hi hx r (λs' I' _=>h s' I') hf
theorem Inv.call'{s':jH}{ch:List jF}(I:Inv X jy B H s)(ho:s'.os=s.os)(u:Un (frs X.stack) ch H H' s.heap s'.heap)(hok:HOk X.prog X.w H' s'.heap)(hg:AllBare s'.gens)
  (hch:∀b∈ch,(b∈X.ex\/X.s₀.heap.objs.size<=b)/\b≠X.env.locals/\(∀x c,X.env.cells.lookup x=O c->c≠b)/\∀p∈X.pn++jy,p.1≠b):Inv X jy B H' s':=by
 obtain⟨h',g',d',t',o'⟩:=s';have e:o'=s.os:=ho;subst e;exact I.call (g':=g') (t':=t') (d':=d') u hok hg hch
end
abbrev XK:=jJ->Option jF->Hp->Prop
abbrev St:=List<|Option V
abbrev VK:=V->Hp->Prop
abbrev TE:=St->Hp->VK->Prop
abbrev TT:=St->Hp->(Bool->Hp->Prop)->Prop
abbrev TA:=St->Hp->(LUz->Hp->Prop)->Prop
structure E4 where
 nx:St->Hp->Prop
 rt:VK
 bk:St->Hp->Prop:=λ_ _=>False
 ct:St->Hp->Prop:=λ_ _=>False
abbrev TS:=E4->St->Hp->Prop
def EP(X:Cx)(jy:PNz)(B:St)(Q:VK)(u:jJ)(s':jH):Prop:=∃v H',Inv X jy B H' s'/\RelV v u/\Q v H'
def TP(X:Cx)(jy:PNz)(B:St)(Q:Bool->Hp->Prop)(b:Bool)(s':jH):Prop:=∃H',Inv X jy B H' s'/\Q b H'
def AP(X:Cx)(jy:PNz)(B:St)(Q:LUz->Hp->Prop)(us:LWz)(s':jH):Prop:=∃vs H',Inv X jy B H' s'/\Vals vs us/\Q vs H'
def SP(X:Cx)(jy:PNz)(D:E4)(f:Flow)(s':jH):Prop:=
 match f with
 |.next=>∃σ' H',Inv X jy σ' H' s'/\D.nx σ' H'
 |.brk=>∃σ' H',Inv X jy σ' H' s'/\D.bk σ' H'
 |.cont=>∃σ' H',Inv X jy σ' H' s'/\D.ct σ' H'
 |.ret u=>∃v σ' H',Inv X jy σ' H' s'/\RelV v u/\D.rt v H'
def PE(X:Cx)(e:j9)(t:TE):Prop:=
 ∀(jy:PNz)(s:jH)(B:St)(H:Hp)(Q:VK),Inv X jy B H s->t B H Q->jT (jS X.prog X.w) X.A (eval e X.env) (EP X jy B Q) X.xe s
def PT(X:Cx)(e:j9)(t:TT):Prop:=
 ∀(jy:PNz)(s:jH)(B:St)(H:Hp)(Q:Bool->Hp->Prop),Inv X jy B H s->t B H Q->jT (jS X.prog X.w) X.A (isTrue e X.env<|eval e X.env) (TP X jy B Q) X.xe s
def PW(X:Cx)(e:j9)(t:TT):Prop:=
 ∀(whole:Sem jJ)(jy:PNz)(s:jH)(B:St)(H:Hp)(Q:Bool->Hp->Prop),Inv X jy B H s->t B H Q->jT (jS X.prog X.w) X.A (isTrue e X.env whole) (TP X jy B Q) X.xe s
theorem PW.pt{X:Cx}{e:j9}{t:TT}(h:PW X e t):PT X e t:=h _
def PA(X:Cx)(es:List j9)(t:TA):Prop:=
 ∀(pos:Pos)(jy:PNz)(s:jH)(B:St)(H:Hp)(Q:LUz->Hp->Prop),Inv X jy B H s->t B H Q->jT (jS X.prog X.w) X.A (spliced<|kr pos<|jV es X.env) (AP X jy B Q) X.xe s
def PS(X:Cx)(st:j0)(t:TS):Prop:=
 ∀(jy:PNz)(s:jH)(B:St)(H:Hp)(D:E4),Inv X jy B H s->t D B H->jT (jS X.prog X.w) X.A (exec st X.env) (SP X jy D) X.xe s
def PSs(X:Cx)(st:List j0)(t:TS):Prop:=
 ∀(jy:PNz)(s:jH)(B:St)(H:Hp)(D:E4),Inv X jy B H s->t D B H->jT (jS X.prog X.w) X.A (execs st X.env) (SP X jy D) X.xe s
theorem thn{α:Type}{t:Sem α}{Q Q':α->jH->Prop}{M:Model}{A:jZ}{E:VPz}{s:jH}(h:jT M A t Q E s)(hQ:∀a s,Q a s->Q' a s):jT M A t Q' E s:=ke h hQ λ_ _ x=>x
section
variable{X:Cx}
inductive Y7(i:Nat)(B:St)(H:Hp)(Q:VK):Prop
 |mk (v:V) (e:B[i]?=O (O v)) (q:Q v H):Y7 i B H Q
def Xs(i:Nat):TE:=λB H Q=>Y7 i B H Q
inductive IBl(x:V)(Q:Bool->Prop):Prop
 |mk (c:Bool) (e:x=.bl c) (q:Q c):IBl x Q
def tC(v:V):TE:=λ_ H Q=>Q v H
theorem W5{i:Nat}{x:j5}{pos:Pos}(hN:X.N[i]?=O x)(hv:Vis X.env.scope x)(hd:(x==("__debug__":j5))=oe:=by decide)(hcd:(x==("__classdict__":j5))=oe:=by decide):PE X (.Name x pos) (Xs i):=by
 intro jy s B H Q I h;obtain⟨v,e,h⟩:=h;obtain⟨m,hn,hl⟩:=I.loc;obtain⟨u,r,l⟩:=hl i x v hN e hv;have fin:EP X jy B Q u s:=⟨v,H,I,r,h⟩;rcases l with⟨hk,hm⟩|⟨hk,c,hc,hcell⟩
 .exact wpAny_Name (wpAny_loadName_local I.ok.kind hk hn hm fin) hd
 .rcases hk with hk|hk
  .exact wpAny_Name (wpAny_loadName_cell I.ok.kind hk hc hcell fin) hd
  .exact wpAny_Name (wpAny_loadName_free I.ok.kind hk hc hcell fin hcd) hd
theorem Ab{i j pos}:PE X (.Constant (.int i) j pos) (tC<|.int i):=λ_ _ _ H _ I h=>wpAny_Constant_int ⟨.int i,H,I.tok _,⟨_,Z⟩,h⟩
theorem Gk{b j pos}:PE X (.Constant (.bool b) j pos) (tC<|.bl b):=λ_ _ _ H _ I h=>Constant_bool ⟨.bl b,H,I,Z,h⟩
theorem CY{j pos}:PE X (.Constant .none j pos) (tC .non):=λ_ _ _ H _ I h=>Constant_none ⟨.non,H,I,Z,h⟩
theorem Eb{x j pos}:PE X (.Constant (.str x) j pos) (tC<|.str x):=λ_ _ _ H _ I h=>Calls.Constant_str ⟨.str x,H,I.tok _,⟨_,Z⟩,h⟩
def Gl(X:Cx)(x:j5):Prop:=X.env.kindOf x=O .globalImplicit
theorem Eg{E:VPz}{jy:PNz}{s:jH}{B:St}{H:Hp}{x:j5}{u:jJ}{pos:Pos}{Q:VPz}(I:Inv X jy B H s)(hg:Gl X x)(hm:X.mg x=O u)(h:Q u s)
  (hd:(x==("__debug__":j5))=oe:=by decide):jT (jS X.prog X.w) X.A (eval (.Name x pos) X.env) Q E s:=
 Calls.Name_function_global I.ok.kind hg (Calls.loadGlobal_global (by rw[I.ok.glob];exact I.mod.glob.keeps I.bk) hm h) hd
theorem Eh{E:VPz}{jy:PNz}{s:jH}{B:St}{H:Hp}{x:j5}{u:jJ}{pos:Pos}{Q:VPz}(I:Inv X jy B H s)(hg:Gl X x)(hm:X.mg x=Y)(hv:bootBuiltins x=O u)(h:Q u s)
  (hn:x≠"__name__":=by decide) (hd:(x==("__debug__":j5))=oe:=by decide):jT (jS X.prog X.w) X.A (eval (.Name x pos) X.env) Q E s:=by
 obtain⟨mb,h1,h2⟩:=I.mod.blt;exact Calls.Name_function_global I.ok.kind hg (Calls.loadGlobal_builtin (by rw[I.ok.glob];exact I.mod.glob.keeps I.bk) hm (by rw[I.ok.blt];exact h1.keeps I.bk) ((h2 x hn).trans hv) h) hd
theorem AH{x:j5}{v:V}{u:jJ}{pos:Pos}(hg:Gl X x)(hm:X.mg x=O u)(r:RelV v u)(hd:(x==("__debug__":j5))=oe:=by decide):PE X (.Name x pos) (tC v):=
 λ_ _ _ H _ I h=>Eg I hg hm ⟨v,H,I,r,h⟩ hd
theorem Gj{x:j5}{v:V}{u:jJ}{pos:Pos}(hg:Gl X x)(hm:X.mg x=Y)(hv:bootBuiltins x=O u)(r:RelV v u)(hn:x≠"__name__":=by decide)(hd:(x==("__debug__":j5))=oe:=by decide):PE X (.Name x pos) (tC v):=
 λ_ _ _ H _ I h=>Eh I hg hm hv ⟨v,H,I,r,h⟩ hn hd
variable{a b:j9}{ta tb:TE}{pos:Pos}
def PC(X:Cx)(op:CmpOp)(a b:j9)(t:TE):Prop:=
 ∀(jy:PNz)(s:jH)(B:St)(H:Hp)(Q:VK),Inv X jy B H s->t B H Q ->
  jT (jS X.prog X.w) X.A (eval a X.env) (λv s₁=>jT (jS X.prog X.w) X.A (eval b X.env) (λu s₂=>jT (jS X.prog X.w) X.A (kh op v u) (EP X jy B Q) X.xe s₂) X.xe s₁) X.xe s
def tB(t:TE):TT:=λB H Q=>t B H λx H1=>IBl x λc=>Q c H1
theorem SY{op:CmpOp}{t:TE}(h:PC X op a b t)(h1:behindInMarks op b=oe:=by first|exact nobehind _ (by decide) (by decide)|rfl):PT X (.Compare a [op] [b] pos) (tB t):=by
 intro jy s B H Q I hw;refine wpAny_isTrue_Compare1 (thn (h jy s B H _ I hw) λv s1 h1=>thn h1 λu s2 h2=>thn h2 λc s3 hz_=>?_) h1;obtain⟨x,H1,I1,r1,q1⟩:=hz_;obtain⟨d,rfl,q⟩:=q1;cases r1;exact kg ⟨H1,I1,q⟩
theorem Bk{e:j9}{t:TE}(h:PE X e t)(he:∀whole,isTrue e X.env whole=(do let v <-whole;standAt e.pos;holding [v] (truthy v)):=by intro _;rfl):PT X e (tB t):=by
  intro jy s B H Q I hw;refine isTrue_plain (thn (h jy s B H _ I hw) λv s1 hz_=>?_)<|he _;obtain⟨x,H1,I1,r1,q1⟩:=hz_;obtain⟨d,rfl,q⟩:=q1;cases r1;exact kg ⟨H1,I1,q⟩
variable{tA tB':TT}{rest:List j9}
def YS(t u:TT):TT:=λB H Q=>t B H λc H1=>if c=nZ then u B H1 Q else Q oe H1
def tOr(t u:TT):TT:=λB H Q=>t B H λc H1=>if c=nZ then Q nZ H1 else u B H1 Q
def YI(t:TT):TT:=λB H Q=>t B H λc H1=>Q (!c) H1
theorem Iq(ha:PT X a tA):PW X (.BoolOp .And [a] pos) tA:=by
 intro wh jy s B H Q I h;refine isTrue_and<|thn (ha jy s B H Q I h) λc s1 e=>?_;cases c with
 |true=>exact isTrue_and_nil e
 |false=>exact e
theorem CT(ha:PT X a tA):PW X (.BoolOp .Or [a] pos) tA:=by
 intro wh jy s B H Q I h;refine isTrue_or<|thn (ha jy s B H Q I h) λc s1 e=>?_;cases c with
 |false=>exact isTrue_or_nil e
 |true=>exact e
theorem Jd(ha:PT X a tA)(hb:PW X (.BoolOp .And (b::rest) pos) tB'):PW X (.BoolOp .And (a::b::rest) pos) (YS tA tB'):=by
 intro wh jy s B H Q I h;refine isTrue_and<|thn (ha jy s B H _ I h) λc s1 hz_=>?_;obtain⟨H1,I1,q1⟩:=hz_;cases c with
 |true=>exact hb wh jy s1 B H1 Q I1 q1
 |false=>exact⟨H1,I1,q1⟩
theorem Ev(ha:PT X a tA)(hb:PW X (.BoolOp .Or (b::rest) pos) tB'):PW X (.BoolOp .Or (a::b::rest) pos) (tOr tA tB'):=by
 intro wh jy s B H Q I h;refine isTrue_or<|thn (ha jy s B H _ I h) λc s1 hz_=>?_;obtain⟨H1,I1,q1⟩:=hz_;cases c with
 |true=>exact⟨H1,I1,q1⟩
 |false=>exact hb wh jy s1 B H1 Q I1 q1
theorem BD(ha:PT X a tA):PT X (.UnaryOp .Not a pos) (YI tA):=by
 intro jy s B H Q I h;exact isTrue_not<|ha jy s B H (λc H1=>Q (!c) H1) I h
def X4(ta tb:TE):TE:=λB H Q=>ta B H λx H1=>IBl x λc=>if c=nZ then tb B H1 Q else Q (.bl oe) H1
def YH(ta tb:TE):TE:=λB H Q=>ta B H λx H1=>IBl x λc=>if c=nZ then Q (.bl nZ) H1 else tb B H1 Q
def Xw(ta:TE):TE:=λB H Q=>ta B H λx H1=>IBl x λc=>Q (.bl<|!c) H1
theorem D4{op}{t:TE}(h:PE X a t):PE X (.BoolOp op [a] pos) t:=λjy s B H Q I hw=>BoolOp_one<|h jy s B H Q I hw
theorem EV(ha:PE X a ta)(hb:PE X (.BoolOp .And (b::rest) pos) tb):PE X (.BoolOp .And (a::b::rest) pos) (X4 ta tb):=by
 intro jy s B H Q I h;refine BoolOp_and<|thn (ha jy s B H _ I h) λv s1 hz_=>?_;obtain⟨x,H1,I1,r1,q1⟩:=hz_;obtain⟨c,rfl,q1⟩:=q1;cases r1;refine kg ?_;cases c with
 |true=>exact hb jy s1 B H1 Q I1 q1
 |false=>exact⟨.bl oe,H1,I1,Z,q1⟩
theorem Q0(ha:PE X a ta)(hb:PE X (.BoolOp .Or (b::rest) pos) tb):PE X (.BoolOp .Or (a::b::rest) pos) (YH ta tb):=by
 intro jy s B H Q I h;refine BoolOp_or<|thn (ha jy s B H _ I h) λv s1 hz_=>?_;obtain⟨x,H1,I1,r1,q1⟩:=hz_;obtain⟨c,rfl,q1⟩:=q1;cases r1;refine kg ?_;cases c with
 |false=>exact hb jy s1 B H1 Q I1 q1
 |true=>exact⟨.bl nZ,H1,I1,Z,q1⟩
theorem Td(ha:PE X a ta):PE X (.UnaryOp .Not a pos) (Xw ta):=by
 intro jy s B H Q I h;refine UnaryOp_<|thn (ha jy s B H _ I h) λv s1 hz_=>?_;obtain⟨x,H1,I1,r1,q1⟩:=hz_;obtain⟨c,rfl,q1⟩:=q1;cases r1;exact not_of<|kg ⟨.bl<|!c,H1,I1,Z,q1⟩
end
def SqL(K:jX)(H:Hp)(a:jF)(xs:LUz):Prop:=
 Rd H a (.lst xs) \/
  ∃(o:Obj)(its:Array jJ)(n:Nat),K.lookup a=O o/\o.cls=.type "list"/\o.dict=Y/\o.data=.seq its n/\its.size<=jU/\Vals xs its.toList
def SqT(K:jX)(H:Hp)(a:jF)(xs:LUz):Prop:=
 Rd H a (.tup xs) \/
  ∃(o:Obj)(its:Array jJ)(n:Nat),K.lookup a=O o/\o.cls=.type "tuple"/\o.data=.seq its n/\its.size<=jU/\Vals xs its.toList
noncomputable def Zk:jJ->Option V
 |.none=>O .non
 |.bool b=>O<|.bl b
 |.int i _=>O<|.int i
 |.str x _=>O<|.str x
 |.bytes b _=>O<|.byt b
 |.float b _=>O<|.flt b
 |.ref a=>O<|.ref a
 |.type n=>O<|.ty n
 |_=>Y
theorem RelV.abs{x:V}{u:jJ}(r:RelV x u):Zk u=O x:=by
 cases x with
 |non=>cases r;rfl
 |bl _=>cases r;rfl
 |int _=>obtain⟨t,rfl⟩:=r;rfl
 |str _=>obtain⟨t,rfl⟩:=r;rfl
 |byt _=>obtain⟨t,rfl⟩:=r;rfl
 |flt _=>obtain⟨t,rfl⟩:=r;rfl
 |ref _=>cases r;rfl
 |ty _=>cases r;rfl
theorem RelV.inj{x y:V}{u:jJ}(r:RelV x u)(q:RelV y u):x=y:=Option.some.inj<|r.abs.symm.trans q.abs
theorem Vals.inj:∀{xs ys:LUz}{us:LWz},Vals xs us->Vals ys us->xs=ys
 |_,_,_,.nil,.nil=>rfl
 |_,_,_,.cons r t,.cons r' t'=>by rw[r.inj r',Vals.inj t t']
section
variable{X:Cx}{jy:PNz}{B:St}{H:Hp}{s:jH}{a:jF}{xs ys:LUz}
theorem SqL.of{K:jX}(h:H a=O (.lst xs)):SqL K H a xs:=.inl<|.inl h
theorem SqT.of{K:jX}(h:H a=O (.tup xs)):SqT K H a xs:=.inl<|.inl h
theorem Inv.list(I:Inv X jy B H s)(h:SqL X.K H a xs):∃its:LWz,Vals xs its/\PlainL s.heap a its.toArray/\xs.length<=jU:=by
 rcases h with h|⟨o,its,n,hk,hc,hd,hs,hz,r⟩
 .obtain⟨z,its,n,r,e⟩:=h.ok I.hok;exact⟨its,r,⟨_,n,e,Z,Z,Z⟩,z⟩
 .refine⟨its.toList,r,⟨o,n,I.kIn a o hk,hc,hd,by simpa using hs⟩,?_⟩;have e:=r.length;simp only[bB]at e;lia
theorem Inv.tuple(I:Inv X jy B H s)(h:SqT X.K H a xs):∃its:LWz,Vals xs its/\IsTup s.heap a its.toArray/\xs.length<=jU:=by
 rcases h with h|⟨o,its,n,hk,hc,hs,hz,r⟩
 .obtain⟨z,its,r,p⟩:=h.ok I.hok;exact⟨its,r,p,z⟩
 .refine⟨its.toList,r,⟨o,I.kIn a o hk,hc,n,by simpa using hs⟩,?_⟩;have e:=r.length;simp only[bB]at e;lia
theorem Inv.list_inj(I:Inv X jy B H s)(h:SqL X.K H a xs)(h':SqL X.K H a ys):xs=ys:=by
 obtain⟨its,r,⟨o,n,e,_,_,d⟩,_⟩:=I.list h;obtain⟨its',r',⟨o',n',e',_,_,d'⟩,_⟩:=I.list h';rw[e]at e';cases e';rw[d]at d';injection d' with d1 _;have:its=its':=by simpa using congrArg Array.toList d1
 subst this;exact r.inj r'
theorem Inv.tuple_inj(I:Inv X jy B H s)(h:SqT X.K H a xs)(h':SqT X.K H a ys):xs=ys:=by
 obtain⟨its,r,⟨o,e,_,n,d⟩,_⟩:=I.tuple h;obtain⟨its',r',⟨o',e',_,n',d'⟩,_⟩:=I.tuple h';rw[e]at e';cases e';rw[d]at d';injection d' with d1 _;have:its=its':=by simpa using congrArg Array.toList d1
 subst this;exact r.inj r'
end
noncomputable abbrev Cx.wish(X:Cx)(E:VPz):Cx:={X with xe:=E}
noncomputable abbrev Cx.nox(X:Cx):Cx:=X.wish λ_ _=>False
theorem Cx.Ok.wish{X:Cx}(ok:X.Ok)(E:VPz):(X.wish E).Ok:=
 ⟨ok.mod,ok.kind,ok.glob,ok.blt,ok.above,ok.inj,ok.has,ok.cab,ok.hd,ok.frames,ok.stk,ok.exf,ok.bs,ok.bsz,ok.noex,ok.exfs,ok.funs,ok.frf⟩
theorem Cx.Ok.unwish{X:Cx}{E:VPz}(ok:(X.wish E).Ok):X.Ok:=
 ⟨ok.mod,ok.kind,ok.glob,ok.blt,ok.above,ok.inj,ok.has,ok.cab,ok.hd,ok.frames,ok.stk,ok.exf,ok.bs,ok.bsz,ok.noex,ok.exfs,ok.funs,ok.frf⟩
section
variable{X:Cx}{jy:PNz}{B:St}{H:Hp}{s:jH}{E:VPz}
theorem Inv.wish(I:Inv X jy B H s)(E:VPz):Inv (X.wish E) jy B H s:=⟨I.ok.wish E,I.os,I.bare,I.jD,I.loc,I.cell,I.free,I.freeC,I.pin,I.hok,I.len⟩
theorem Inv.unwish(I:Inv (X.wish E) jy B H s):Inv X jy B H s:=⟨I.ok.unwish,I.os,I.bare,I.jD,I.loc,I.cell,I.free,I.freeC,I.pin,I.hok,I.len⟩
theorem SP.unwish{D:E4}{f:Flow}{s':jH}(h:SP (X.wish E) jy D f s'):SP X jy D f s':=by
 cases f with
 |next=>obtain⟨σ',H',I,q⟩:=h;exact⟨σ',H',I.unwish,q⟩
 |brk=>obtain⟨σ',H',I,q⟩:=h;exact⟨σ',H',I.unwish,q⟩
 |cont=>obtain⟨σ',H',I,q⟩:=h;exact⟨σ',H',I.unwish,q⟩
 |ret u=>obtain⟨v,σ',H',I,r,q⟩:=h;exact⟨v,σ',H',I.unwish,r,q⟩
theorem PSs.nox{st:List j0}{t:TS}(h:PSs X.nox st t):PSs X st t:=λjy s B H D I hw=>
 ke (h jy s B H D (I.wish _) hw) (λ_ _ q=>q.unwish) λ_ _ z=>False.elim z
end
section
variable{X:Cx}{st:j0}{rest:List j0}{t u:TS}{e:j9}{te:TE}{pos:Pos}
def Xx:TS:=λD B H=>D.nx B H
def YE(t u:TS):TS:=λD B H=>t { D with nx:=u D} B H
theorem A6:PSs X [] Xx:=λ_ _ B H _ I h=>kN ⟨B,H,I,h⟩
theorem Ac(h1:PS X st t)(h2:PSs X rest u):PSs X (st::rest) (YE t u):=by
 intro jy s B H D I h;refine lJ<|thn (h1 jy s B H { D with nx:=u D} I h) λf s1 q=>?_;cases f with
 |next=>
  obtain⟨σ',H',I',q⟩:=q;exact h2 jy s1 σ' H' D I' q
 |ret v=>exact q
 |brk=>exact q
 |cont=>exact q
theorem Ag(h1:PS X st t):PSs X [st] t:=by
 intro jy s B H D I h;refine lJ<|thn (h1 jy s B H D I h) λf s1 q=>?_;cases f with
 |next=>exact kN q
 |ret v=>exact q
 |brk=>exact q
 |cont=>exact q
theorem Inv.quiet{jy:PNz}{B:St}{H:Hp}{s:jH}(I:Inv X jy B H s):interactive X.env=oe:=by simp[interactive,I.ok.kind]
def Xz(te:TE):TS:=λD B H=>te B H λ_ H1=>D.nx B H1
theorem AM(he:PE X e te)(hs:swapsWith e Y pos.line X.env=pure oe:=by rfl):PS X (.Expr e pos) (Xz te):=by
 intro jy s B H D I h;exact wpAny_Expr_any (thn (he jy s B H _ I h) λv s1 ⟨x,H1,I1,r1,q1⟩=>⟨B,H1,I1,q1⟩) I.quiet hs
def YG(te:TE):TS:=λD B H=>te B H D.rt
theorem Aq(he:PE X e te):PS X (.Return (O e) pos) (YG te):=by
 intro jy s B H D I h;exact wpAny_Return_some<|thn (he jy s B H _ I h) λv s1 ⟨x,H1,I1,r1,q1⟩=>⟨x,B,H1,I1,r1,q1⟩
def YK(c:TT)(t u:TS):TS:=λD B H=>c B H λb H1=>if b=nZ then t D B H1 else u D B H1
theorem AG{c:j9}{a b:List j0}{tc:TT}(hc:PT X c tc)(ha:PSs X a t)(hb:PSs X b u):PS X (.If c a b pos) (YK tc t u):=by
 intro jy s B H D I h;refine wpAny_If<|thn (hc jy s B H _ I h) λd s1 hz_=>?_;obtain⟨H1,I1,q1⟩:=hz_;cases d with
 |true=>exact ha jy s1 B H1 D I1 q1
 |false=>exact hb jy s1 B H1 D I1 q1
def Wv:TS:=λ_ _ _=>False
theorem CU:PS X st Wv:=λ_ _ _ _ _ _ h=>h.elim
end
abbrev TG:=V->St->Hp->(St->Hp->Prop)->Prop
abbrev TGs:=LUz->St->Hp->(St->Hp->Prop)->Prop
def PG(X:Cx)(target:j9)(t:TG):Prop:=
 ∀(jy:PNz)(s:jH)(B:St)(H:Hp)(v:V)(u:jJ)(Q:St->Hp->Prop),Inv X jy B H s->RelV v u->t v B H Q ->
  jT (jS X.prog X.w) X.A (assign target X.env u) (λ_ s'=>∃σ' H',Inv X jy σ' H' s'/\Q σ' H') X.xe s
def PGs(X:Cx)(ts:List j9)(t:TGs):Prop:=
 ∀(jy:PNz)(s:jH)(B:St)(H:Hp)(vs:LUz)(us:LWz)(Q:St->Hp->Prop),Inv X jy B H s->Vals vs us->t vs B H Q ->
  jT (jS X.prog X.w) X.A (assignInOrder ((assignEach ts X.env).map (·.2)) us) (λ_ s'=>∃σ' H',Inv X jy σ' H' s'/\Q σ' H') X.xe s
abbrev U2:=V->V->V->Hp->(Hp->Prop)->Prop
def Xk(X:Cx)(t:U2):Prop:=
 ∀(jy:PNz)(s:jH)(B:St)(H:Hp)(o i v:V)(ov iv u:jJ)(Q:Hp->Prop),Inv X jy B H s->RelV o ov->RelV i iv->RelV v u->t o i v H Q ->
  jT (jS X.prog X.w) X.A (setItem ov iv u) (λ_ s'=>∃H',Inv X jy B H' s'/\Q H') X.xe s
abbrev TIp:=V->V->Hp->VK->Prop
def PIp(X:Cx)(op:Operator)(t:TIp):Prop:=
 ∀(jy:PNz)(s:jH)(B:St)(H:Hp)(x y:V)(v u:jJ)(Q:VK),Inv X jy B H s->RelV x v->RelV y u->t x y H Q ->
  jT (jS X.prog X.w) X.A (inplaceOp op v u) (EP X jy B Q) X.xe s
section
variable{X:Cx}{pos:Pos}
def Og(i:Nat):TG:=λv B H Q=>Q (B.set i<|O v) H
theorem AD{i:Nat}{x:j5}(hN:X.N.Nodup)(hi:X.N[i]?=O x)(hx:Loc X.env.scope x)(hf:X.fn x=nZ\/X.env.scope.names.lookup x=O .local:=by first|exact .inl Z|exact .inr Z|assumption):PG X (.Name x pos) (Og i):=by
 intro jy s B H v u Q I r h;exact wpAny_assign_Name<|Gb I hN hi hx r (λs' I'=>⟨_,H,I',h⟩) hf
theorem AS(i:Nat){x:j5}(hN:X.N.Nodup)(hi:X.N[i]?=O x:=by rfl)(hx:Loc X.env.scope x:=by exact bq Z)(hf:X.fn x=nZ\/X.env.scope.names.lookup x=O .local:=by first|exact .inl Z|exact .inr Z|assumption):PG X (.Name x pos) (Og i):=AD hN hi hx hf
def Zh:TGs:=λvs B H Q=>vs=[]/\Q B H
def Yn(t:TG)(u:TGs):TGs:=λvs B H Q=>∃v r,vs=v::r/\t v B H λσ' H'=>u r σ' H' Q
theorem AY:PGs X [] Zh:=by
 intro jy s B H vs us Q I r h;obtain⟨e,h⟩:=h;subst e;cases r;exact assignInOrder_nil ⟨B,H,I,h⟩
theorem Au{e:j9}{es:List j9}{t:TG}{u:TGs}(h1:PG X e t)(h2:PGs X es u)
  (hs:(assignEach (e::es) X.env).map (·.2)=assign e X.env::(assignEach es X.env).map (·.2):=by rfl):PGs X (e::es) (Yn t u):=by
 intro jy s B H vs us Q I r h;obtain⟨v,vr,e1,h⟩:=h;subst e1;cases r with
 |cons r rr=>
  rw[hs];refine assignInOrder_cons<|thn (h1 jy s B H _ _ _ I r h) λ_ s1 hz_=>?_;obtain⟨σ1,H1,I1,q1⟩:=hz_;exact h2 jy s1 σ1 H1 _ _ Q I1 rr q1
inductive Wf(K:jX)(n:Nat)(t:TGs)(v:V)(B:St)(H:Hp)(Q:St->Hp->Prop):Prop
 |mk (a:jF) (xs:LUz) (e:v=.ref a) (s:SqT K H a xs) (l:xs.length=n) (q:t xs B H Q):Wf K n t v B H Q
def Ym(K:jX)(n:Nat)(t:TGs):TG:=λv B H Q=>Wf K n t v B H Q
theorem BS{es:List j9}{k:Nat}{t:TGs}{n:Nat}(hc:X.calm=nZ)(h:PGs X es t)
  (hn:(assignEach es X.env).length=n:=by rfl) (hst:(assignEach es X.env).findIdx? (·.1)=Y:=by rfl):PG X (.Tuple es k pos) (Ym X.K n t):=by
 intro jy s B H v u Q I r hw;obtain⟨a,xs,e1,hq,hl,hw⟩:=hw;subst e1;cases r;obtain⟨its,rv,ht,hz⟩:=I.tuple hq;refine assign_Tuple_tuple (I.ok.hd hc) ht (by simp[hn,<-hl,rv.length]) hst λh' hx=>?_;have I1:Inv X jy B H { s with heap:=h'}:=I.kept (t':=s.toks) λb o e=>hx b o (aM<|ay e) e;exact h jy _ B H xs _ Q I1 (by simpa using rv) hw
def Zg(to ti:TE)(t:U2):TG:=λv B H Q=>to B H λo H1=>ti B H1 λi H2=>t o i v H2 λH3=>Q B H3
theorem W4{o i:j9}{to ti:TE}{t:U2}(ho:PE X o to)(hi:PE X i ti)(hs:Xk X t)
    (ha:∀v,assign (.Subscript o i pos) X.env v=(do
      let ov <-holding [v] (eval o X.env)
      let iv <-holding [v,ov] (eval i X.env)
      standAt pos
      holding [v,ov,iv] (setItem ov iv v)
      release [v,ov,iv] []):=by intro _;rfl):PG X (.Subscript o i pos) (Zg to ti t):=by
  intro jy s B H v u Q I r h;rw[ha];refine jG<|km<|thn (ho jy s B H _ I h) λov s1 hz_=>?_;obtain⟨x,H1,I1,r1,q1⟩:=hz_;refine jG<|km<|thn (hi jy s1 B H1 _ I1 q1) λiv s2 hz_=>?_;obtain⟨y,H2,I2,r2,q2⟩:=hz_;refine jG<|kU<|jG<|km<|thn (hs jy s2 B H2 x y v ov iv u _ I2 r1 r2 r q2) λ_ s3 hz_=>?_;obtain⟨H3,I3,q3⟩:=hz_;exact wpAny_release ⟨B,H3,I3,q3⟩
def Ry(te:TE)(g:TG):TS:=λD B H=>te B H λx H1=>g x B H1 D.nx
theorem Ta{tg e:j9}{te:TE}{g:TG}(he:PE X e te)(hg:PG X tg g)(hs:swapsWithSole [tg] e pos.line X.env=pure oe:=by rfl)(hw:swappedStores [tg] e X.env=pure Y:=by rfl)
  (h1:(assignEach [tg] X.env).map (·.2)=[assign tg X.env]:=by rfl):PS X (.Assign [tg] e pos) (Ry te g):=by
 intro jy s B H D I h;refine wpAny_Assign_stores (thn (he jy s B H _ I h) λv s1 hz_=>?_) hs hw;obtain⟨x,H1,I1,r1,q1⟩:=hz_;rw[h1];exact thn (hg jy s1 B H1 x v _ I1 r1 q1) λ_ s2 q=>q
theorem Ms{i:Nat}{x:j5}{e:j9}{te:TE}{pos':Pos}(hN:X.N.Nodup)(hi:X.N[i]?=O x)(hx:Loc X.env.scope x)(he:PE X e te)(hs:swapsWith e (O<|.Name x pos') pos.line X.env=pure oe:=by rfl)(hf:X.fn x=nZ\/X.env.scope.names.lookup x=O .local:=by first|exact .inl Z|exact .inr Z|assumption):
  PS X (.Assign [.Name x pos'] e pos) (Ry te<|Og i):=by
 intro jy s B H D I h;refine wpAny_Assign_Name (thn (he jy s B H _ I h) λv s1 hz_=>?_) hs;obtain⟨y,H1,I1,r1,q1⟩:=hz_;exact Gb I1 hN hi hx r1 (λs2 I2=>⟨_,H1,I2,q1⟩) hf
theorem Az(i:Nat){x:j5}{e:j9}{te:TE}{pos':Pos}(hN:X.N.Nodup)(he:PE X e te)(hi:X.N[i]?=O x:=by rfl)(hx:Loc X.env.scope x:=by exact bq Z)(hs:swapsWith e (O<|.Name x pos') pos.line X.env=pure oe:=by rfl)(hf:X.fn x=nZ\/X.env.scope.names.lookup x=O .local:=by first|exact .inl Z|exact .inr Z|assumption):
  PS X (.Assign [.Name x pos'] e pos) (Ry te<|Og i):=Ms hN hi hx he hs hf
def YR(i:Nat)(te:TE)(ti:TIp):TS:=λD B H=>∃x,B[i]?=O (O x)/\te B H λy H1=>ti x y H1 λz H2=>D.nx (B.set i<|O z) H2
theorem CW{i:Nat}{x:j5}{e:j9}{te:TE}{op:Operator}{ti:TIp}{pos':Pos}(hN:X.N.Nodup)(hi:X.N[i]?=O x)(hx:Loc X.env.scope x)(he:PE X e te)(ho:PIp X op ti)(hf:X.fn x=nZ\/X.env.scope.names.lookup x=O .local:=by first|exact .inl Z|exact .inr Z|assumption):
  PS X (.AugAssign (.Name x pos') op e pos) (YR i te ti):=by
 intro jy s B H D I h;obtain⟨v,e1,h⟩:=h;obtain⟨m,hn,hl⟩:=I.loc;have vis:Vis X.env.scope x:=by rcases hx with k|k;exact .inl k;exact .inr<|.inl k
 obtain⟨u,r,l⟩:=hl i x v hi e1 vis;refine wpAny_AugAssign_Name ?_;have go:jT (jS X.prog X.w) X.A (eval e X.env) (λw s₂=>jT (jS X.prog X.w) X.A (inplaceOp op u w) (λr s₃=>jT (jS X.prog X.w) X.A (storeName X.env x r) (λ_=>SP X jy D .next) X.xe s₃) X.xe s₂) X.xe s:=by
  refine thn (he jy s B H _ I h) λw s1 hz_=>?_;obtain⟨y,H1,I1,r1,q1⟩:=hz_;refine thn (ho jy s1 B H1 v y u w _ I1 r r1 q1) λz s2 hz_=>?_;obtain⟨zv,H2,I2,r2,q2⟩:=hz_;exact Gb I2 hN hi hx r2 (λs3 I3=>⟨_,H2,I3,q2⟩) hf
 rcases l with⟨hk,hm⟩|⟨hk,c,hc,hcell⟩
 .exact wpAny_loadName_local I.ok.kind hk hn hm go
 .rcases hk with hk|hk
  .exact wpAny_loadName_cell I.ok.kind hk hc hcell go
  .rcases hx with k|k
   .have:X.env.scope.names.lookup x=O .free:=hk;rw[k]at this;cases this
   .have:X.env.scope.names.lookup x=O .free:=hk;rw[k]at this;cases this
def X3(to ti te:TE)(tget:V->V->Hp->VK->Prop)(tip:TIp)(tset:U2):TS:=λD B H=>to B H λo H1=>ti B H1 λi H2=>tget o i H2 λx H3=>te B H3 λy H4=>tip x y H4 λz H5=>tset o i z H5 λH6=>D.nx B H6
def Y3(X:Cx)(t:V->V->Hp->VK->Prop):Prop:=
 ∀(jy:PNz)(s:jH)(B:St)(H:Hp)(o i:V)(ov iv:jJ)(Q:VK),Inv X jy B H s->RelV o ov->RelV i iv->t o i H Q ->
  jT (jS X.prog X.w) X.A (getItem ov iv) (EP X jy B Q) X.xe s
theorem UV{o i e:j9}{to ti te:TE}{tget:V->V->Hp->VK->Prop}{tip:TIp}{tset:U2}{op:Operator}{tpos:Pos}(ho:PE X o to)(hi:PE X i ti)(hg:Y3 X tget)(he:PE X e te)(hp:PIp X op tip)(hs:Xk X tset)
    (ha:∀ov iv new,augStore i ov iv new=(do holding [new,ov,iv] (setItem ov iv new);release [new,ov,iv] [];pure .next):=by intros;rfl):PS X (.AugAssign (.Subscript o i tpos) op e pos) (X3 to ti te tget tip tset):=by
  intro jy s B H D I h;refine wpAny_AugAssign_SubscriptAny (thn (ho jy s B H _ I h) λov s1 hz_=>?_) ha;obtain⟨x1,H1,I1,r1,q1⟩:=hz_;refine thn (hi jy s1 B H1 _ I1 q1) λiv s2 hz_=>?_;obtain⟨x2,H2,I2,r2,q2⟩:=hz_;refine thn (hg jy s2 B H2 x1 x2 ov iv _ I2 r1 r2 q2) λold s3 hz_=>?_;obtain⟨x3,H3,I3,r3,q3⟩:=hz_;refine thn (he jy s3 B H3 _ I3 q3) λv s4 hz_=>?_;obtain⟨x4,H4,I4,r4,q4⟩:=hz_;refine thn (hp jy s4 B H4 x3 x4 old v _ I4 r3 r4 q4) λnew s5 hz_=>?_;obtain⟨x5,H5,I5,r5,q5⟩:=hz_;exact thn (hs jy s5 B H5 x1 x2 x5 ov iv new _ I5 r1 r2 r5 q5) λ_ s6 ⟨H6,I6,q6⟩=>⟨B,H6,I6,q6⟩
def ipI(f:Int->Int->Int):TIp:=λx y H Q=>∃i j,x=.int i/\y=.int j/\Q (.int<|f i j) H
theorem Ej:PIp X .Add (ipI λi j=>i+j):=by
 intro jy s B H x y v u Q I r1 r2 h;obtain⟨i,j,e1,e2,q⟩:=h;subst e1;subst e2;obtain⟨t,rfl⟩:=r1;obtain⟨t',rfl⟩:=r2;exact iadd_int ⟨.int _,H,I.tok _,⟨_,Z⟩,q⟩
theorem Px:PIp X .Sub (ipI λi j=>i-j):=by
 intro jy s B H x y v u Q I r1 r2 h;obtain⟨i,j,e1,e2,q⟩:=h;subst e1;subst e2;obtain⟨t,rfl⟩:=r1;obtain⟨t',rfl⟩:=r2;exact isub_int ⟨.int _,H,I.tok _,⟨_,Z⟩,q⟩
def Wt(c:TT)(tb:TS):TS:=λD B H=>∃W:Nat->St->Hp->Prop,(∃m,W m B H)/\∀m B H,W m B H ->
 c B H λb H1=>if b=nZ then ∃N:St->Hp->Prop,(∀σ' H',N σ' H'->∃m',m'<m/\W m' σ' H')/\tb { D with nx:=N,ct:=N,bk:=D.nx} B H1 else D.nx B H1
theorem Jf{c:j9}{body:List j0}{tc:TT}{tb:TS}(hp:PassesOwn (jS X.prog X.w) X.A X.env X.xe)(hc:PT X c tc)(hb:PSs X body tb):PS X (.While c body [] pos) (Wt tc tb):=by
 intro jy s B H D I h;obtain⟨W,⟨m0,w0⟩,turn⟩:=h;refine wpAny_While<|codeAny_whileLoop (λn s'=>∃σ' H',Inv X jy σ' H' s'/\W n σ' H') ?_ m0 ⟨B,H,I,w0⟩;rintro n s1 ⟨σ1,H1,I1,w1⟩;refine kG hp<|thn (hc jy s1 σ1 H1 _ I1<|turn n σ1 H1 w1) λb s2 hz_=>?_;obtain⟨H2,I2,q2⟩:=hz_;cases b with
 |true=>
  obtain⟨N,hN,q2⟩:=q2;rw[jP Z];refine kG hp<|thn (hb jy s2 σ1 H2 _ I2 q2) λf s3 q3=>?_;cases f with
  |next=>
   obtain⟨σ3,H3,I3,n3⟩:=q3;obtain⟨m',hm,w3⟩:=hN σ3 H3 n3;exact⟨m',hm,σ3,H3,I3,w3⟩
  |cont=>
   obtain⟨σ3,H3,I3,n3⟩:=q3;obtain⟨m',hm,w3⟩:=hN σ3 H3 n3;exact⟨m',hm,σ3,H3,I3,w3⟩
  |brk=>exact q3
  |ret v=>exact q3
 |false=>
  rw[jK au];exact kN ⟨σ1,H2,I2,q2⟩
end
structure It where
 go:Nat->Hp->Prop
 yld:Nat->Hp->V->Hp->Prop
 stop:Nat->Hp->Prop
def Ik(X:Cx)(jy:PNz)(H:Hp)(b:jF):Prop:=
 H b=Y/\b≠X.env.locals/\b∉X.fs/\(b∈X.ex\/X.s₀.heap.objs.size<=b)/\(∀x c,X.env.cells.lookup x=O c->c≠b)/\∀p∈X.pn++jy,p.1≠b
theorem Inv.fpOk{X:Cx}{jy:PNz}{B:St}{H H':Hp}{s:jH}{b:jF}(I:Inv X jy B H s)(hb:s.heap.objs.size<=b)(hn:H' b=Y):Ik X jy H' b:=by
 refine⟨hn,eQ<|aP I.lt hb,I.nofs hb,.inr<|aV I.sz hb,λx c e z=>?_,λp hp z=>?_⟩
 .obtain⟨v,q⟩:=I.cell x c e;exact absurd (aP q.lt (by rw[z];exact hb))<|bM _
 .exact absurd (aP (ay (I.pin p hp).1) (by rw[z];exact hb)) (bM _)
structure PD(P:jN)(w:jW)(K:jX)(tg:j9)(J:It)(fp:List jF)(it:jF)(tn:Nat->j6->Prop):Prop where
 mem:it∈fp
 obj:∀i h,tn i h->∀b∈fp,∃o,h.get? b=O o/\∀v,o.data≠.cell v
 keep:∀i h h',tn i h->(∀b∈fp,∀o,h.get? b=O o->h'.get? b=O o)->tn i h'
 item:∀(X:Cx),X.prog=P->X.w=w->X.K=K->X.calm=nZ->∀(i:Nat)(jy:PNz)(s:jH)(B:St)(H:Hp)(E:VPz),Inv X jy B H s->(∀b∈fp,Ik X jy H b)->tn i s.heap->J.go i H ->
  jT (jS P w) X.A (pyNext<|.ref it) (λr s1=>∃u,r=O u /\
   jT (jS P w) X.A (letOwnedTupleGo tg (.ref it) u) (λ_ s2=>∃x H',Inv X jy B H' s2/\RelV x u/\J.yld i H x H'/\tn (i+1) s2.heap/\∀b∈fp,H' b=Y) E s1) E s
 done:∀(X:Cx),X.prog=P->X.w=w->X.K=K->X.calm=nZ->∀(i:Nat)(jy:PNz)(s:jH)(B:St)(H:Hp)(E:VPz),Inv X jy B H s->(∀b∈fp,Ik X jy H b)->tn i s.heap->J.stop i H ->
  jT (jS P w) X.A (pyNext<|.ref it) (λr s1=>r=Y/\Inv X jy B H s1) E s
 self:∀(A:jZ)(i:Nat)(s:jH)(Q:VPz)(E:VPz),tn i s.heap->Q (.ref it) s->jT (jS P w) A (pyIter<|.ref it) Q E s
abbrev TI:=St->Hp->(It->Hp->Prop)->Prop
def PIE(X:Cx)(jy:PNz)(B:St)(tg:j9)(R:It->Hp->Prop)(itv:jJ)(s2:jH):Prop:=
 ∃(it:jF)(fp:List jF)(tn:Nat->j6->Prop)(J:It)(H':Hp),itv=.ref it/\Inv X jy B H' s2/\PD X.prog X.w X.K tg J fp it tn/\tn 0 s2.heap/\(∀b∈fp,Ik X jy H' b)/\R J H'
def PI(X:Cx)(tg iter:j9)(wi:TI):Prop:=
 ∀(jy:PNz)(s:jH)(B:St)(H:Hp)(R:It->Hp->Prop),Inv X jy B H s->wi B H R ->
  jT (jS X.prog X.w) X.A (eval iter X.env) (λv s1=>jT (jS X.prog X.w) X.A (pyIter v) (PIE X jy B tg R) X.xe s1) X.xe s
theorem QG{M:Model}{A:jZ}{E:VPz}{s:jH}{tg:j9}{it:jF}{u:jJ}{o:Obj}{n:String}{vs:Array jJ}{Q:Unit->jH->Prop}(ho:s.heap.get? it=O o)(hc:o.cls=.type n)(hd:o.data=.fields vs)
    (hn:["enumerate","zip","dict_itemiterator","dict_reverseitemiterator","odict_iterator","itertools.zip_longest","itertools.pairwise"].contains n=oe) (hQ:Q () s):jT M A (letOwnedTupleGo tg (.ref it) u) Q E s:=by
  unfold letOwnedTupleGo;cases tg<;>first
    |exact jL hQ
    | (cases u<;>first
        |exact jL hQ
        | (refine jG (wpAny_load ho ?_)
           rw[hc,hd];show jT M A (if (["enumerate","zip","dict_itemiterator","dict_reverseitemiterator","odict_iterator","itertools.zip_longest","itertools.pairwise"].contains n&&vs[0]?==O (kD _))=nZ then _ else _) Q E s;rw[jK (by intro h;rw[hn,Bool.false_and]at h;cases h)];exact jL hQ))
noncomputable def Itl(K:jX)(a:jF):It:=
 ⟨λi H=>∃xs x,SqL K H a xs/\xs[i]?=O x,λi H x H'=>H'=H/\∀xs,SqL K H a xs->xs[i]?=O x,λi H=>∃xs,SqL K H a xs/\xs.length<=i⟩
noncomputable def Itt(K:jX)(a:jF):It:=
 ⟨λi H=>∃xs x,SqT K H a xs/\xs[i]?=O x,λi H x H'=>H'=H/\∀xs,SqT K H a xs->xs[i]?=O x,λi H=>∃xs,SqT K H a xs/\xs.length<=i⟩
noncomputable def Itr(lo:Int)(n:Nat):It:=⟨λi _=>i<n,λi H x H'=>H'=H/\x=.int (lo+i),λi _=>n<=i⟩
theorem Rv{P:jN}{w:jW}{K:jX}{tg:j9}(a it:jF):PD P w K tg (Itl K a) [it] it (λi h=>h.IsListIter it a i) where
 mem:=by simp
 obj:=λi h st b hb=>by
  have e:b=it:=by simpa using hb
  subst e;obtain⟨o,e,c,d⟩:=st;exact⟨o,e,λv z=>by rw[d]at z;cases z⟩
 keep:=λi h h' st k=>st.at λo e=>k it (by simp) o e
 item:=by
  intro X hP hw hK hc i jy s B H E I hf st hg;subst hP hw hK;obtain⟨xs,x,hq,hx⟩:=hg;obtain⟨its,rv,p,hz⟩:=I.list hq;obtain⟨u,hu,ru⟩:=rv.get hx;obtain⟨f0,f1,f2,f3,f4,f5⟩:=hf it (by simp);refine wpAny_pyNext_list_item st p.isList (x:=u) (by simpa using hu) λh' st' sb=>?_;have I1:Inv X jy B H { s with heap:=h'}:=I.turned (t':=s.toks) (λb o hb e=>(sb.2 b hb).trans e) f0 f1 f3 f4 f5;obtain⟨o,e,c,d⟩:=id st';exact⟨u,Z,QG (s:={s with heap:=h'}) e c d (by decide) ⟨x,H,I1,ru,⟨Z,λys hy=>by rw[I.list_inj hy hq];exact hx⟩,st',λb hb=>(hf b hb).1⟩⟩
 done:=by
  intro X hP hw hK hc i jy s B H E I hf st hg;subst hP hw hK;obtain⟨xs,hq,hx⟩:=hg;obtain⟨its,rv,p,hz⟩:=I.list hq;obtain⟨f0,f1,f2,f3,f4,f5⟩:=hf it (by simp);have hl:=rv.length;exact wpAny_pyNext_list_end (I.ok.hd hc) st p.isList (by simp;lia) λh' eb=>⟨Z,I.turned (t':=s.toks) (λb o hb e=>eb b o hb e) f0 f1 f3 f4 f5⟩
 self:=λ_ _ _ _ _ st h=>wpAny_pyIter_listiter st h
theorem OF{P:jN}{w:jW}{K:jX}{tg:j9}(a it:jF):PD P w K tg (Itt K a) [it] it (λi h=>h.IsTupleIter it a i) where
 mem:=by simp
 obj:=λi h st b hb=>by
  have e:b=it:=by simpa using hb
  subst e;obtain⟨o,e,c,d⟩:=st;exact⟨o,e,λv z=>by rw[d]at z;cases z⟩
 keep:=λi h h' st k=>st.at λo e=>k it (by simp) o e
 item:=by
  intro X hP hw hK hc i jy s B H E I hf st hg;subst hP hw hK;obtain⟨xs,x,hq,hx⟩:=hg;obtain⟨its,rv,p,hz⟩:=I.tuple hq;obtain⟨u,hu,ru⟩:=rv.get hx;obtain⟨f0,f1,f2,f3,f4,f5⟩:=hf it (by simp);refine wpAny_pyNext_tuple_item st (show s.heap.IsTuple a its.toArray from p) (x:=u) (by simpa using hu) λh' st' sb=>?_;have I1:Inv X jy B H { s with heap:=h'}:=I.turned (t':=s.toks) (λb o hb e=>(sb.2 b hb).trans e) f0 f1 f3 f4 f5;obtain⟨o,e,c,d⟩:=id st';exact⟨u,Z,QG (s:={s with heap:=h'}) e c d (by decide) ⟨x,H,I1,ru,⟨Z,λys hy=>by rw[I.tuple_inj hy hq];exact hx⟩,st',λb hb=>(hf b hb).1⟩⟩
 done:=by
  intro X hP hw hK hc i jy s B H E I hf st hg;subst hP hw hK;obtain⟨xs,hq,hx⟩:=hg;obtain⟨its,rv,p,hz⟩:=I.tuple hq;obtain⟨f0,f1,f2,f3,f4,f5⟩:=hf it (by simp);have hl:=rv.length;exact wpAny_pyNext_tuple_end (I.ok.hd hc) st (show s.heap.IsTuple a its.toArray from p) (by simp;lia) λh' eb=>⟨Z,I.turned (t':=s.toks) (λb o hb e=>eb b o hb e) f0 f1 f3 f4 f5⟩
 self:=λ_ _ _ _ _ st h=>wpAny_pyIter_tupleiter st h
theorem OG{P:jN}{w:jW}{K:jX}{tg:j9}(it:jF)(lo:Int)(n:Nat):PD P w K tg (Itr lo n) [it] it (λi h=>IsRangeIter h it (lo+(i:Nat)*1) ((n:Int)-(i:Nat)) 1) where
 mem:=by simp
 obj:=λi h st b hb=>by
  have e:b=it:=by simpa using hb
  subst e;exact⟨_,st,λv z=>by
   have z':Data.fields _=Data.cell v:=z;cases z'⟩
 keep:=λi h h' st k=>k it (by simp) _ st
 item:=by
  intro X hP hw hK hc i jy s B H E I hf st hg;subst hP hw hK;obtain⟨f0,f1,f2,f3,f4,f5⟩:=hf it (by simp);have W:=Walks.range (prog:=X.prog) (w:=X.w) (I.ok.hd hc) it lo 1 n;refine W.item i s _ _ hg st λv h' tk hv st' kk=>?_;obtain⟨t,rfl⟩:=hv;have I1:Inv X jy B H { s with heap:=h',toks:=tk}:=I.turned (λb o hb e=>kk b o (by simpa using hb) e) f0 f1 f3 f4 f5;refine⟨_,Z,QG (s:={s with heap:=h',toks:=tk}) (n:="range_iterator") st' Z Z (by decide) ⟨.int<|lo+i,H,I1,⟨t,?_⟩,⟨Z,Z⟩,st',λb hb=>(hf b hb).1⟩⟩;rw[Int.mul_one]
 done:=by
  intro X hP hw hK hc i jy s B H E I hf st hg;subst hP hw hK;obtain⟨f0,f1,f2,f3,f4,f5⟩:=hf it (by simp);exact wpAny_pyNext_range_end (I.ok.hd hc) st (by have:n<=i:=hg;lia) λh' eb=>⟨Z,I.turned (t':=s.toks) (λb o hb e=>eb b o hb e) f0 f1 f3 f4 f5⟩
 self:=λ_ _ _ _ _ st h=>wpAny_pyIter_rangeiter st h
section
variable{X:Cx}{tg:j9}
inductive Xl(x:V)(S Q:jF->Prop):Prop
 |mk (a:jF) (e:x=.ref a) (s:S a) (q:Q a):Xl x S Q
def Yk(K:jX)(tl:TE):TI:=λB H R=>tl B H λx H1=>Xl x (λa=>∃xs,SqL K H1 a xs) λa=>R (Itl K a) H1
def Ze(K:jX)(tl:TE):TI:=λB H R=>tl B H λx H1=>Xl x (λa=>∃xs,SqT K H1 a xs) λa=>R (Itt K a) H1
theorem AA{l:j9}{tl:TE}(hl:PE X l tl):PI X tg l (Yk X.K tl):=by
 intro jy s B H R I h;refine thn (hl jy s B H _ I h) λv s1 hz_=>?_;obtain⟨x,H1,I1,r1,q1⟩:=hz_;obtain⟨a,e,⟨xs,hq⟩,q⟩:=q1;subst e;cases r1;obtain⟨its,rv,p,hz⟩:=I1.list hq;refine lE p.isList ?_;refine⟨s1.heap.objs.size,[s1.heap.objs.size],_,_,H1,Z,I1.kept (t':=s1.toks) λb o e=>ag _ e,Rv a _,⟨_,aH _ Z,Z,Z⟩,λb hb=>?_,q⟩;have e:b=s1.heap.objs.size:=by simpa using hb
 subst e;exact I1.fpOk (ah _)<|I1.hok.fresh<|ah _
theorem Mw{l:j9}{tl:TE}(hl:PE X l tl):PI X tg l (Ze X.K tl):=by
 intro jy s B H R I h;refine thn (hl jy s B H _ I h) λv s1 hz_=>?_;obtain⟨x,H1,I1,r1,q1⟩:=hz_;obtain⟨a,e,⟨xs,hq⟩,q⟩:=q1;subst e;cases r1;obtain⟨its,rv,p,hz⟩:=I1.tuple hq;refine wpAny_pyIter_tuple (show s1.heap.IsTuple a its.toArray from p) ?_;refine⟨s1.heap.objs.size,[s1.heap.objs.size],_,_,H1,Z,I1.kept (t':=s1.toks) λb o e=>ag _ e,OF a _,⟨_,aH _ Z,Z,Z⟩,λb hb=>?_,q⟩;have e:b=s1.heap.objs.size:=by simpa using hb
 subst e;exact I1.fpOk (ah _)<|I1.hok.fresh<|ah _
theorem N6{jy:PNz}{B:St}{H:Hp}{s:jH}{R:It->Hp->Prop}{E:VPz}{lo hi:Int}{t u v:lm}{tk:Nat}(I:Inv X jy B H s)(h1:-(2^62)<=lo)(h2:lo<2^62)(h3:-(2^62)<=hi)(h4:hi<2^62)
  (q:R (Itr lo (hi-lo).toNat) H):jT (jS X.prog X.w) X.A (pyIter<|.ref s.heap.objs.size) (PIE X jy B tg R) E { s with heap:=s.heap.push { cls:=.type "range",data:=.fields #[.int lo t,.int hi u,.int 1 v]},toks:=tk}:=by
 refine wpAny_pyIter_range (IsRange.new ..) (small_one h1 h2 h3 h4) ?_;have I1:Inv X jy B H { s with heap:=s.heap.push { cls:=.type "range",data:=.fields #[.int lo t,.int hi u,.int 1 v]},toks:=tk}:=I.kept λb o e=>ag _ e;refine⟨(s.heap.push { cls:=.type "range",data:=.fields #[.int lo t,.int hi u,.int 1 v]}).objs.size,[(s.heap.push { cls:=.type "range",data:=.fields #[.int lo t,.int hi u,.int 1 v]}).objs.size],_,_,H,Z,
  I1.kept (t':=tk) λb o e=>ag _ e,OG _ lo (hi-lo).toNat,?_,λb hb=>?_,q⟩
 .have e1:lo+((0:Nat):Int)*1=lo:=by simp
  have e2:(((hi-lo).toNat:Nat):Int)-((0:Nat):Int)=Builtin.Range.rangeSize lo hi 1:=by rw[rangeSize_one];split<;>lia
  show IsRangeIter _ _ (lo+((0:Nat):Int)*1) ((((hi-lo).toNat:Nat):Int)-((0:Nat):Int)) 1;rw[e1,e2];exact aH _ Z
 .have e:b=(s.heap.push { cls:=.type "range",data:=.fields #[.int lo t,.int hi u,.int 1 v]}).objs.size:=by simpa using hb
  subst e;exact I1.fpOk (ah _)<|I1.hok.fresh<|ah _
inductive Wg(vs:LUz)(R:Int->Prop):Prop
 |mk (j:Int) (e:vs=[.int j]) (l:-(2^62)<=j) (h:j<2^62) (q:R j):Wg vs R
def Yj(ta:TA):TI:=λB H R=>ta B H λvs H1=>Wg vs λj=>R (Itr 0 j.toNat) H1
def Yi(ta:TA):TI:=λB H R=>ta B H λvs H1=>∃i j:Int,vs=[.int i,.int j]/\(-(2^62)<=i/\i<2^62/\-(2^62)<=j/\j<2^62)/\R (Itr i (j-i).toNat) H1
theorem Cg{a:j9}{ta:TA}{p pos:Pos}(hg:Gl X "range")(hm:X.mg "range"=Y)(ha:PA X [a] ta)(hs:jV [a] X.env=[(oe,eval a X.env)]:=by rfl):PI X tg (.Call (.Name "range" p) [a] [] pos) (Yj ta):=by
 intro jy s B H R I h;refine Call_<|Eh I hg hm boot_range<|PyProof.Rows.callWith_type1 (thn (ha pos jy s B H _ I h) λus s1 hz_=>?_) hs Z;obtain⟨vs,H1,I1,r1,q1⟩:=hz_;obtain⟨j,e,q1,q2,q⟩:=q1;subst e;cases r1 with
 |cons r rr=>
  cases rr;obtain⟨t,rfl⟩:=r;exact call_range_1 (N6 I1 (by lia) (by lia) q1 q2<|by simpa using q)
theorem AV{a b:j9}{ta:TA}{p pos:Pos}(hg:Gl X "range")(hm:X.mg "range"=Y)(ha:PA X [a,b] ta)(hs:jV [a,b] X.env=[(oe,eval a X.env),(oe,eval b X.env)]:=by rfl)(hs2:jV [b] X.env=[(oe,eval b X.env)]:=by rfl):
  PI X tg (.Call (.Name "range" p) [a,b] [] pos) (Yi ta):=by
 intro jy s B H R I h;refine Call_ (Eh I hg hm boot_range<|PyProof.Rows.callWith_type1 (thn (ha pos jy s B H _ I h) λus s1 hz_=>?_) (by rw[hs,hs2]) (by rw[hs2];rfl));obtain⟨vs,H1,I1,r1,q1⟩:=hz_;obtain⟨i,j,e,⟨q1,q2,q3,q4⟩,q⟩:=q1;subst e;cases r1 with
 |cons r rr=>
  cases rr with
  |cons r' rr=>
   cases rr;obtain⟨t,rfl⟩:=r;obtain⟨t',rfl⟩:=r';exact call_range_2<|N6 I1 q1 q2 q3 q4 q
def YL(wi:TI)(g:TG)(tb:TS):TS:=λD B H=>wi B H λJ H1=>∃W:Nat->Nat->St->Hp->Prop,(∃m,W 0 m B H1)/\∀i m B H,W i m B H ->
 (J.stop i H/\D.nx B H)\/(J.go i H/\∃N:St->Hp->Prop,(∀σ' H',N σ' H'->∃m',m'<m/\W (i+1) m' σ' H')/\∀x H',J.yld i H x H'->g x B H' λσ2 H2=>tb { D with nx:=N,ct:=N,bk:=D.nx} σ2 H2)
noncomputable def Mv(fp:List jF)(h:j6):PNz:=fp.filterMap λb=>(h.get? b).map λo=>(b,o)
theorem BH{fp:List jF}{h:j6}{b:jF}{o:Obj}(hb:b∈fp)(e:h.get? b=O o):(b,o)∈Mv fp h:=List.mem_filterMap.mpr ⟨b,hb,by rw[e];rfl⟩
theorem RM{fp:List jF}{h:j6}{p:jF×Obj}(hp:p∈Mv fp h):p.1∈fp/\h.get? p.1=O p.2:=by
 obtain⟨b,hb,e⟩:=List.mem_filterMap.mp hp;cases q:h.get? b with
 |none=>rw[q]at e;cases e
 |some o=>
  rw[q]at e;have e':(b,o)=p:=Option.some.inj e;subst e';exact⟨hb,q⟩
theorem Inv.pinned{jy:PNz}{B:St}{H:Hp}{s:jH}{fp:List jF}(I:Inv X jy B H s)(hf:∀b∈fp,Ik X jy H b)(ho:∀b∈fp,∃o,s.heap.get? b=O o/\∀v,o.data≠.cell v):Inv X (jy++Mv fp s.heap) B H s:=
 I.pins_of λp hp=>(aw.mp hp).elim (λz=>I.pin p<|aB _ z) λz=>by
  obtain⟨hb,e⟩:=RM z;obtain⟨f0,f1,f2,_⟩:=hf p.1 hb;obtain⟨o,e',d⟩:=ho p.1 hb;rw[e]at e';cases e';exact⟨e,f0,f1,f2,d⟩
theorem Inv.unpinned{jy pl:PNz}{B:St}{H:Hp}{s:jH}(I:Inv X (jy++pl) B H s):Inv X jy B H s:=I.pins_of λp hp=>I.pin p<|aB _<|be _ hp
theorem AF{iter:j9}{body:List j0}{wi:TI}{g:TG}{tb:TS}{pos:Pos}(hp:PassesOwn (jS X.prog X.w) X.A X.env X.xe)(hc:X.calm=nZ)(hi:PI X tg iter wi)(hg:PG X tg g)(hb:PSs X body tb)
  (hs:∀x,foldedSetIterable iter X.env x=pure x:=by intro _;rfl):PS X (.For tg iter body [] pos) (YL wi g tb):=by
 intro jy s B H D I h;refine wpAny_For (thn (hi jy s B H _ I h) λv s1 h1=>thn h1 λitv s2 h2=>?_) hs;obtain⟨it,fp,tn,J,H2,e,I2,T,st2,f2,W,⟨m0,w0⟩,turn⟩:=h2;subst e;have stat:∀{H':Hp},(∀b∈fp,H' b=Y)->∀b∈fp,Ik X jy H' b:=λhn b hb=>⟨hn b hb,(f2 b hb).2⟩;refine codeAny_forLoop_any (λn s'=>∃i σ' H',Inv X jy σ' H' s'/\tn i s'.heap/\(∀b∈fp,H' b=Y)/\W i n σ' H') ?_ m0 ⟨0,B,H2,I2,st2,λb hb=>(f2 b hb).1,w0⟩;rintro n s3 ⟨i,σ3,H3,I3,st3,fr3,w3⟩;rcases turn i n σ3 H3 w3 with⟨stop,qn⟩|⟨go,N,hN,step⟩
 .refine kG hp (thn (T.done X Z Z Z hc i jy s3 σ3 H3 X.xe I3 (stat fr3) st3 stop) λr s4 hz_=>?_);obtain⟨hr,I4⟩:=hz_;subst hr;exact kN ⟨σ3,H3,I4,qn⟩
 .refine kG hp (thn (T.item X Z Z Z hc i jy s3 σ3 H3 X.xe I3 (stat fr3) st3 go) λr s4 hz_=>?_);obtain⟨u,hr,h4⟩:=hz_;subst hr;refine kG hp<|thn h4 λ_ s5 hz_=>?_;obtain⟨x,H5,I5,r5,y5,st5,fr5⟩:=hz_;have I5':=I5.pinned (stat fr5)<|T.obj _ _ st5;refine kG hp<|thn (hg _ s5 σ3 H5 x u _ I5' r5<|step x H5 y5) λ_ s6 hz_=>?_;obtain⟨σ6,H6,I6,q6⟩:=hz_;refine kG hp<|thn (hb _ s6 σ6 H6 _ I6 q6) λf s7 q7=>?_;have again:∀{σ7:St}{H7:Hp},Inv X (jy++Mv fp s5.heap) σ7 H7 s7->N σ7 H7->∃m,m<n/\∃i σ' H',Inv X jy σ' H' s7/\tn i s7.heap/\(∀b∈fp,H' b=Y)/\W i m σ' H':=λ{σ7 H7} I7 n7=>by
   obtain⟨m',hm,w7⟩:=hN σ7 H7 n7;refine⟨m',hm,i+1,σ7,H7,I7.unpinned,T.keep _ _ _ st5 λb hb o e=>(I7.pin (b,o)<|aB _<|aB _<|BH hb e).1,λb hb=>?_,w7⟩;obtain⟨o,e,d⟩:=T.obj _ _ st5 b hb;exact(I7.pin (b,o)<|aB _<|aB _<|BH hb e).2.1
  cases f with
  |next=>obtain⟨σ7,H7,I7,n7⟩:=q7;exact again I7 n7
  |cont=>obtain⟨σ7,H7,I7,n7⟩:=q7;exact again I7 n7
  |brk=>obtain⟨σ7,H7,I7,q7⟩:=q7;exact⟨σ7,H7,I7.unpinned,q7⟩
  |ret v=>obtain⟨x7,σ7,H7,I7,r7,q7⟩:=q7;exact⟨x7,σ7,H7,I7.unpinned,r7,q7⟩
end
theorem Bn{K:jX}{a:jF}{xs:LUz}{g:TG}{tb:TS}{D:E4}{B:St}{H:Hp}(Pv:Nat->St->Hp->Prop)(h0:Pv 0 B H)(hl:∀i B H,i<=xs.length->Pv i B H->SqL K H a xs)
  (hs:∀i x B H,xs[i]?=O x->Pv i B H->g x B H λσ2 H2=>tb { D with nx:=Pv<|i+1,ct:=Pv<|i+1,bk:=D.nx} σ2 H2) (hd:∀B H,Pv xs.length B H->D.nx B H):
  ∃W:Nat->Nat->St->Hp->Prop,(∃m,W 0 m B H)/\∀i m B H,W i m B H ->
   ((Itl K a).stop i H/\D.nx B H)\/((Itl K a).go i H/\∃N:St->Hp->Prop,(∀σ' H',N σ' H'->∃m',m'<m/\W (i+1) m' σ' H')/\∀x H',(Itl K a).yld i H x H'->g x B H' λσ2 H2=>tb { D with nx:=N,ct:=N,bk:=D.nx} σ2 H2):=by
 refine⟨λi m B H=>m=xs.length-i/\i<=xs.length/\Pv i B H,⟨xs.length,by simp,aU _,h0⟩,?_⟩;rintro i m B H ⟨rfl,hi,p⟩;have q:=hl i B H hi p;by_cases hlt:i<xs.length
 .refine .inr ⟨⟨xs,xs[i],q,by simp[hlt]⟩,Pv<|i+1,λσ' H' p'=>⟨xs.length-(i+1),by lia,Z,hlt,p'⟩,λx H' y=>?_⟩;obtain⟨e,y⟩:=y;subst e;exact hs i x B _ (y xs q) p
 .have e:i=xs.length:=by lia
  subst e;exact .inl ⟨⟨xs,q,ah _⟩,hd B H p⟩
theorem MN{K:jX}{a:jF}{xs:LUz}{g:TG}{tb:TS}{D:E4}{B:St}{H:Hp}(Pv:Nat->St->Hp->Prop)(h0:Pv 0 B H)(hl:∀i B H,i<=xs.length->Pv i B H->SqT K H a xs)
  (hs:∀i x B H,xs[i]?=O x->Pv i B H->g x B H λσ2 H2=>tb { D with nx:=Pv<|i+1,ct:=Pv<|i+1,bk:=D.nx} σ2 H2) (hd:∀B H,Pv xs.length B H->D.nx B H):
  ∃W:Nat->Nat->St->Hp->Prop,(∃m,W 0 m B H)/\∀i m B H,W i m B H ->
   ((Itt K a).stop i H/\D.nx B H)\/((Itt K a).go i H/\∃N:St->Hp->Prop,(∀σ' H',N σ' H'->∃m',m'<m/\W (i+1) m' σ' H')/\∀x H',(Itt K a).yld i H x H'->g x B H' λσ2 H2=>tb { D with nx:=N,ct:=N,bk:=D.nx} σ2 H2):=by
 refine⟨λi m B H=>m=xs.length-i/\i<=xs.length/\Pv i B H,⟨xs.length,by simp,aU _,h0⟩,?_⟩;rintro i m B H ⟨rfl,hi,p⟩;have q:=hl i B H hi p;by_cases hlt:i<xs.length
 .refine .inr ⟨⟨xs,xs[i],q,by simp[hlt]⟩,Pv<|i+1,λσ' H' p'=>⟨xs.length-(i+1),by lia,Z,hlt,p'⟩,λx H' y=>?_⟩;obtain⟨e,y⟩:=y;subst e;exact hs i x B _ (y xs q) p
 .have e:i=xs.length:=by lia
  subst e;exact .inl ⟨⟨xs,q,ah _⟩,hd B H p⟩
theorem AT{lo:Int}{n:Nat}{g:TG}{tb:TS}{D:E4}{B:St}{H:Hp}(Pv:Nat->St->Hp->Prop)(h0:Pv 0 B H)
  (hs:∀i B H,i<n->Pv i B H->g (.int<|lo+i) B H λσ2 H2=>tb { D with nx:=Pv<|i+1,ct:=Pv<|i+1,bk:=D.nx} σ2 H2) (hd:∀B H,Pv n B H->D.nx B H):
  ∃W:Nat->Nat->St->Hp->Prop,(∃m,W 0 m B H)/\∀i m B H,W i m B H ->
   ((Itr lo n).stop i H/\D.nx B H)\/((Itr lo n).go i H/\∃N:St->Hp->Prop,(∀σ' H',N σ' H'->∃m',m'<m/\W (i+1) m' σ' H')/\∀x H',(Itr lo n).yld i H x H'->g x B H' λσ2 H2=>tb { D with nx:=N,ct:=N,bk:=D.nx} σ2 H2):=by
 refine⟨λi m B H=>m=n-i/\i<=n/\Pv i B H,⟨n,by simp,aU _,h0⟩,?_⟩;rintro i m B H ⟨rfl,hi,p⟩;by_cases hlt:i<n
 .refine .inr ⟨hlt,Pv<|i+1,λσ' H' p'=>⟨n-(i+1),by lia,Z,hlt,p'⟩,λx H' y=>?_⟩;obtain⟨e,y⟩:=y;subst e y;exact hs i B _ hlt p
 .have e:i=n:=by lia
  subst e;exact .inl ⟨ah _,hd B H p⟩
abbrev R2:=V->V->Hp->VK->Prop
def OpR(X:Cx)(f:jJ->jJ->Sem jJ)(r:R2):Prop:=
 ∀(jy:PNz)(s:jH)(B:St)(H:Hp)(x y:V)(v u:jJ)(Q:VK),Inv X jy B H s->RelV x v->RelV y u->r x y H Q ->
  jT (jS X.prog X.w) X.A (f v u) (EP X jy B Q) X.xe s
def UnR(X:Cx)(f:jJ->Sem jJ)(r:V->Hp->VK->Prop):Prop:=
 ∀(jy:PNz)(s:jH)(B:St)(H:Hp)(x:V)(v:jJ)(Q:VK),Inv X jy B H s->RelV x v->r x H Q ->
  jT (jS X.prog X.w) X.A (f v) (EP X jy B Q) X.xe s
def Cq(X:Cx)(f:jJ)(r:LUz->Hp->VK->Prop):Prop:=
 ∀(jy:PNz)(s:jH)(B:St)(H:Hp)(xs:LUz)(us:LWz)(Q:VK),Inv X jy B H s->Vals xs us->r xs H Q ->
  jT (jS X.prog X.w) X.A (call f us) (EP X jy B Q) X.xe s
def Zl(X:Cx)(r:V->Hp->(Bool->Hp->Prop)->Prop):Prop:=
 ∀(jy:PNz)(s:jH)(B:St)(H:Hp)(x:V)(v:jJ)(Q:Bool->Hp->Prop),Inv X jy B H s->RelV x v->r x H Q ->
  jT (jS X.prog X.w) X.A (truthy v) (TP X jy B Q) X.xe s
def tOp(r:R2)(ta tb:TE):TE:=λB H Q=>ta B H λx H1=>tb B H1 λy H2=>r x y H2 Q
def tUn(r:V->Hp->VK->Prop)(ta:TE):TE:=λB H Q=>ta B H λx H1=>r x H1 Q
inductive II1(C:Int->Int->Prop)(g:Int->Int->V)(x y:V)(H:Hp)(Q:VK):Prop
 |mk (i j:Int) (e1:x=.int i) (e2:y=.int j) (c:C i j) (q:Q (g i j) H):II1 C g x y H Q
inductive II0(g:Int->Int->V)(x y:V)(H:Hp)(Q:VK):Prop
 |mk (i j:Int) (e1:x=.int i) (e2:y=.int j) (q:Q (g i j) H):II0 g x y H Q
inductive IU(g:Int->V)(x:V)(H:Hp)(Q:VK):Prop
 |mk (i:Int) (e:x=.int i) (q:Q (g i) H):IU g x H Q
def rI(C:Int->Int->Prop)(g:Int->Int->V):R2:=λx y H Q=>II1 C g x y H Q
def rI0(g:Int->Int->V):R2:=λx y H Q=>II0 g x y H Q
def rU(g:Int->V):V->Hp->VK->Prop:=λx H Q=>IU g x H Q
section
variable{X:Cx}{a b c:j9}{ta tb tc:TE}{pos:Pos}
theorem Xe(ha:PE X a ta)(hb:PE X b tb){jy:PNz}{s:jH}{B:St}{H:Hp}{R:V->V->Hp->Prop}(I:Inv X jy B H s)
  (h:ta B H λx H1=>tb B H1 λy H2=>R x y H2) {Q:VPz} {f:jJ->jJ->Sem jJ}
  (hf:∀v u s2 x y H2,Inv X jy B H2 s2->RelV x v->RelV y u->R x y H2->jT (jS X.prog X.w) X.A (f v u) Q X.xe s2):
  jT (jS X.prog X.w) X.A (eval a X.env) (λv s₁=>jT (jS X.prog X.w) X.A (eval b X.env) (λu s₂=>jT (jS X.prog X.w) X.A (f v u) Q X.xe s₂) X.xe s₁) X.xe s:=by
 refine thn (ha jy s B H _ I h) λv s1 hz_=>?_;obtain⟨x,H1,I1,r1,q1⟩:=hz_;refine thn (hb jy s1 B H1 _ I1 q1) λu s2 hz_=>?_;obtain⟨y,H2,I2,r2,q2⟩:=hz_;exact hf v u s2 x y H2 I2 r1 r2 q2
theorem Ao{op:Operator}{r:R2}(ho:OpR X (kW op) r)(ha:PE X a ta)(hb:PE X b tb):PE X (.BinOp a op b pos) (tOp r ta tb):=by
 intro jy s B H Q I h;exact wpAny_BinOp<|Xe ha hb I h λv u s2 x y H2 I2 rx ry q=>ho jy s2 B H2 x y v u Q I2 rx ry q
theorem Hv{op:UnaryOp}{r:V->Hp->VK->Prop}(ho:UnR X (unaryOp op) r)(ha:PE X a ta):PE X (.UnaryOp op a pos) (tUn r ta):=by
 intro jy s B H Q I h;exact UnaryOp_<|thn (ha jy s B H _ I h) λv s1 ⟨x,H1,I1,r1,q1⟩=>ho jy s1 B H1 x v Q I1 r1 q1
theorem opI{f:jJ->jJ->Sem jJ}{C:Int->Int->Prop}{g:Int->Int->Int}
  (rule:∀(i j:Int)(t u:lm)(s:jH)(Q:VPz)(E:VPz),C i j->Q (.int (g i j) s.toks) { s with toks:=s.toks+1}->jT (jS X.prog X.w) X.A (f (.int i t)<|.int j u) Q E s):
  OpR X f (rI C λi j=>.int<|g i j):=by
 intro jy s B H x y v u Q I rx ry h;obtain⟨i,j,rfl,rfl,hc,q⟩:=h;obtain⟨t,rfl⟩:=rx;obtain⟨t',rfl⟩:=ry;exact rule i j t t' s _ _ hc ⟨.int<|g i j,H,I.tok _,⟨_,Z⟩,q⟩
theorem WD{f:jJ->jJ->Sem jJ}{g:Int->Int->Int}
  (rule:∀(i j:Int)(t u:lm)(s:jH)(Q:VPz)(E:VPz),Q (.int (g i j) s.toks) { s with toks:=s.toks+1}->jT (jS X.prog X.w) X.A (f (.int i t)<|.int j u) Q E s):
  OpR X f (rI0 λi j=>.int<|g i j):=by
 intro jy s B H x y v u Q I rx ry h;obtain⟨i,j,rfl,rfl,q⟩:=h;obtain⟨t,rfl⟩:=rx;obtain⟨t',rfl⟩:=ry;exact rule i j t t' s _ _ ⟨.int<|g i j,H,I.tok _,⟨_,Z⟩,q⟩
theorem Va{f:jJ->jJ->Sem jJ}{g:Int->Int->Bool}
  (rule:∀(i j:Int)(t u:lm)(s:jH)(Q:VPz)(E:VPz),Q (.bool<|g i j) s->jT (jS X.prog X.w) X.A (f (.int i t)<|.int j u) Q E s):
  OpR X f (rI0 λi j=>.bl<|g i j):=by
 intro jy s B H x y v u Q I rx ry h;obtain⟨i,j,rfl,rfl,q⟩:=h;obtain⟨t,rfl⟩:=rx;obtain⟨t',rfl⟩:=ry;exact rule i j t t' s _ _ ⟨.bl<|g i j,H,I,Z,q⟩
def Xm(i j:Int):Prop:=0<=j/\j<=1000000/\i.natAbs<2^64
theorem A7:OpR X (kW .Add) (rI0 λi j=>.int<|i+j):=WD λ_ _ _ _ _ _ _ q=>add_int q
theorem BG:OpR X (kW .Sub) (rI0 λi j=>.int<|i-j):=WD λ_ _ _ _ _ _ _ q=>sub_int q
theorem AW:OpR X (kW .Mod) (rI (λ_ j=>0<j) λi j=>.int<|i % j):=opI λi j _ _ _ _ _ hc q=>by
 have h1:(0:Int)<j:=hc;exact mod_int' (by lia) (by rw[Int.fmod_eq_emod_of_nonneg i<|by lia];exact q)
theorem WC:OpR X (kW .Pow) (rI Xm λi j=>.int<|i^j.toNat):=opI λ_ _ _ _ _ _ _ hc q=>pow_int_small hc.1 hc.2.1 hc.2.2 q
theorem Pg:OpR X (kW .LShift) (rI Xm λi j=>.int<|i*2^j.toNat):=opI λ_ _ _ _ _ _ _ hc q=>lshift_int_small hc.1 hc.2.1 hc.2.2 q
theorem GJ:OpR X (kW .BitAnd) (rI0 λi j=>.int<|Builtin.bitAnd i j):=WD λ_ _ _ _ _ _ _ q=>and_int q
theorem unI{f:jJ->Sem jJ}{g:Int->Int}
  (rule:∀(i:Int)(t:lm)(s:jH)(Q:VPz)(E:VPz),Q (.int (g i) s.toks) { s with toks:=s.toks+1}->jT (jS X.prog X.w) X.A (f<|.int i t) Q E s):
  UnR X f (rU λi=>.int<|g i):=by
 intro jy s B H x v Q I rx h;obtain⟨i,rfl,q⟩:=h;obtain⟨t,rfl⟩:=rx;exact rule i t s _ _ ⟨.int<|g i,H,I.tok _,⟨_,Z⟩,q⟩
theorem E6:UnR X (unaryOp .USub) (rU λi=>.int<|-i):=unI λ_ _ _ _ _ q=>neg_int q
end
noncomputable def X5:V->V->Bool
 |.non,.non=>nZ|.non,.int _=>nZ|.int _,.non=>nZ|.non,.bl _=>nZ|.bl _,.non=>nZ|.non,.str _=>nZ|.str _,.non=>nZ
 |.int _,.int _=>nZ|.bl _,.bl _=>nZ|.str _,.str _=>nZ|.byt _,.byt _=>nZ
 |.int _,.str _=>nZ|.str _,.int _=>nZ|.bl _,.str _=>nZ|.str _,.bl _=>nZ
 |_,_=>oe
def rEq:R2:=λx y H Q=>X5 x y=nZ/\Q (.bl<|og<|x=y) H
def rNe:R2:=λx y H Q=>X5 x y=nZ/\Q (.bl<|!decide (x=y)) H
theorem QN{i j:Int}:og (V.int i=V.int j)=(i==j):=by
 rw[bJ];simp
theorem Uj{i j:Bool}:og (V.bl i=V.bl j)=(i==j):=by
 rw[bJ];simp
theorem QM{i j:j5}:og (V.str i=V.str j)=(i==j):=by
 rw[bJ];simp
theorem QO{i j:Array UInt8}:og (V.byt i=V.byt j)=(i.toList==j.toList):=by
 rw[bJ];cases i;cases j;simp
section
variable{X:Cx}{a b c:j9}{ta tb tc:TE}{pos:Pos}
theorem AL{jy:PNz}{B:St}{H:Hp}{s:jH}{Q:VK}{k k':Bool}(I:Inv X jy B H s)(q:Q (.bl k) H)(e:k=k'):EP X jy B Q (.bool k') s:=by
 subst e;exact⟨.bl k,H,I,Z,q⟩
theorem Bu:OpR X (kh .Eq) rEq:=by
 intro jy s B H x y v u Q I rx ry h;obtain⟨hs,q⟩:=h;cases x with
 |non=>
  cases rx;cases y with
  |non=>cases ry;exact PySem.EqNone.eq_none_none (AL I q<|by simp)
  |bl j=>cases ry;exact PySem.EqNone.eq_none_bool (AL I q<|by simp)
  |int j=>obtain⟨t',rfl⟩:=ry;exact PySem.EqNone.eq_none_int (AL I q<|by simp)
  |str j=>obtain⟨t',rfl⟩:=ry;exact PySem.EqNone.eq_none_str (AL I q<|by simp)
  |_=>exact absurd (show oe=nZ from hs) au
 |bl i=>
  cases rx;cases y with
  |non=>cases ry;exact PySem.EqNone.eq_bool_none (AL I q<|by simp)
  |bl j=>cases ry;exact eq_bool<|AL I q Uj
  |str j=>obtain⟨t',rfl⟩:=ry;exact PySem.EqMixed.eq_bool_str (AL I q<|by simp)
  |_=>exact absurd (show oe=nZ from hs) au
 |int i=>
  obtain⟨t,rfl⟩:=rx;cases y with
  |non=>cases ry;exact PySem.EqNone.eq_int_none (AL I q<|by simp)
  |int j=>obtain⟨t',rfl⟩:=ry;exact eq_int<|AL I q QN
  |str j=>obtain⟨t',rfl⟩:=ry;exact PySem.EqMixed.eq_int_str (AL I q<|by simp)
  |_=>exact absurd (show oe=nZ from hs) au
 |str i=>
  obtain⟨t,rfl⟩:=rx;cases y with
  |non=>cases ry;exact PySem.EqNone.eq_str_none (AL I q<|by simp)
  |bl j=>cases ry;exact PySem.EqMixed.eq_str_bool (AL I q<|by simp)
  |int j=>obtain⟨t',rfl⟩:=ry;exact PySem.EqMixed.eq_str_int (AL I q<|by simp)
  |str j=>obtain⟨t',rfl⟩:=ry;exact eq_str<|AL I q QM
  |_=>exact absurd (show oe=nZ from hs) au
 |byt i=>
  obtain⟨t,rfl⟩:=rx;cases y with
  |byt j=>obtain⟨t',rfl⟩:=ry;exact eq_bytes<|AL I q QO
  |_=>exact absurd (show oe=nZ from hs) au
 |_=>cases y<;>exact absurd (show oe=nZ from hs) au
theorem Jl:OpR X (kh .NotEq) rNe:=by
 intro jy s B H x y v u Q I rx ry h;obtain⟨hs,q⟩:=h;cases x with
 |non=>
  cases rx;cases y with
  |non=>cases ry;exact PySem.EqNone.ne_none_none (AL I q<|by simp)
  |bl j=>cases ry;exact PySem.EqNone.ne_none_bool (AL I q<|by simp)
  |int j=>obtain⟨t',rfl⟩:=ry;exact PySem.EqNone.ne_none_int (AL I q<|by simp)
  |str j=>obtain⟨t',rfl⟩:=ry;exact PySem.EqNone.ne_none_str (AL I q<|by simp)
  |_=>exact absurd (show oe=nZ from hs) au
 |bl i=>
  cases rx;cases y with
  |non=>cases ry;exact PySem.EqNone.ne_bool_none (AL I q<|by simp)
  |bl j=>cases ry;exact ne_bool<|AL I q<|congrArg not Uj
  |str j=>obtain⟨t',rfl⟩:=ry;exact PySem.EqMixed.ne_bool_str (AL I q<|by simp)
  |_=>exact absurd (show oe=nZ from hs) au
 |int i=>
  obtain⟨t,rfl⟩:=rx;cases y with
  |non=>cases ry;exact PySem.EqNone.ne_int_none (AL I q<|by simp)
  |int j=>obtain⟨t',rfl⟩:=ry;exact ne_int<|AL I q<|congrArg not QN
  |str j=>obtain⟨t',rfl⟩:=ry;exact PySem.EqMixed.ne_int_str (AL I q<|by simp)
  |_=>exact absurd (show oe=nZ from hs) au
 |str i=>
  obtain⟨t,rfl⟩:=rx;cases y with
  |non=>cases ry;exact PySem.EqNone.ne_str_none (AL I q<|by simp)
  |bl j=>cases ry;exact PySem.EqMixed.ne_str_bool (AL I q<|by simp)
  |int j=>obtain⟨t',rfl⟩:=ry;exact PySem.EqMixed.ne_str_int (AL I q<|by simp)
  |str j=>obtain⟨t',rfl⟩:=ry;exact ne_str<|AL I q<|congrArg not QM
  |_=>exact absurd (show oe=nZ from hs) au
 |byt i=>
  obtain⟨t,rfl⟩:=rx;cases y with
  |byt j=>obtain⟨t',rfl⟩:=ry;exact ne_bytes<|AL I q<|congrArg not QO
  |_=>exact absurd (show oe=nZ from hs) au
 |_=>cases y<;>exact absurd (show oe=nZ from hs) au
theorem DJ:OpR X (kh .Lt) (rI0 λi j=>.bl<|og<|i<j):=Va λ_ _ _ _ _ _ _ q=>lt_int q
theorem BZ:OpR X (kh .LtE) (rI0 λi j=>.bl<|og<|i<=j):=Va λ_ _ _ _ _ _ _ q=>le_int q
theorem NC:OpR X (kh .Gt) (rI0 λi j=>.bl<|og<|j<i):=Va λ_ _ _ _ _ _ _ q=>gt_int q
theorem VU:OpR X (kh .GtE) (rI0 λi j=>.bl<|og<|j<=i):=Va λ_ _ _ _ _ _ _ q=>ge_int q
theorem Tn:OpR X (kh .Is) (λx y H Q=>y=.non/\Q (.bl<|og<|x=.non) H):=by
 intro jy s B H x y v u Q I rx ry h;obtain⟨rfl,q⟩:=h;cases ry;refine is_none_gen<|AL I q ?_;cases x<;>first
  | (cases rx;rfl)
  | (obtain⟨t,rfl⟩:=rx;rfl)
theorem Tw(b:j9){op:CmpOp}(h:op≠.In:=by decide)(h2:op≠.NotIn:=by decide):behindInMarks op b=oe:=by
 have e1:(op==CmpOp.In)=oe:=by cases op<;>first|rfl|exact absurd Z h
 have e2:(op==CmpOp.NotIn)=oe:=by cases op<;>first|rfl|exact absurd Z h2
 cases b<;>simp[behindInMarks,e1,e2]
theorem Bs{op:CmpOp}{r:R2}(ho:OpR X (kh op) r)(ha:PE X a ta)(hb:PE X b tb)(hm:behindInMarks op b=oe:=by exact Tw _):PE X (.Compare a [op] [b] pos) (tOp r ta tb):=by
 intro jy s B H Q I h;exact wpAny_Compare1 (Xe ha hb I h λv u s2 x y H2 I2 rx ry q=>ho jy s2 B H2 x y v u Q I2 rx ry q) hm
def VJ(t:TE):TT:=λB H Q=>t B H λx H'=>IBl x λk=>Q k H'
theorem A5{op:CmpOp}{r:R2}(ho:OpR X (kh op) r)(ha:PE X a ta)(hb:PE X b tb)(hm:behindInMarks op b=oe:=by exact Tw _):PT X (.Compare a [op] [b] pos) (VJ<|tOp r ta tb):=by
 intro jy s B H Q I h;refine wpAny_isTrue_Compare1 (thn (ha jy s B H _ I h) λv s1 ⟨x,H1,I1,r1,q1⟩=>thn (hb jy s1 B H1 _ I1 q1) λu s2 ⟨y,H2,I2,r2,q2⟩=>
  thn (ho jy s2 B H2 x y v u _ I2 r1 r2 q2) λc s3 ⟨z,H3,I3,r3,k,e,q3⟩=>?_) hm
 subst e;cases r3;exact kg ⟨H3,I3,q3⟩
def S9(r r':R2)(ta tb tc:TE):TE:=λB H Q=>ta B H λx H1=>tb B H1 λy H2=>r x y H2 λz H3=>IBl z λk=>
 (if k=nZ then tc B H3 λw' H4=>r' y w' H4 Q else Q (.bl oe) H3)
theorem ET{op op':CmpOp}{r r':R2}(ho:OpR X (kh op) r)(ho':OpR X (kh op') r')(ha:PE X a ta)(hb:PE X b tb)(hc:PE X c tc)
  (hm:lastMarks [op,op'] [b,c]=oe:=by with_unfolding_all rfl):PE X (.Compare a [op,op'] [b,c] pos) (S9 r r' ta tb tc):=by
 intro jy s B H Q I h;refine Compare_chain (thn (ha jy s B H _ I h) λv s1 ⟨x,H1,I1,r1,q1⟩=>chain_link<|thn (hb jy s1 B H1 _ I1 q1) λu s2 ⟨y,H2,I2,r2,q2⟩=>
  thn (ho jy s2 B H2 x y v u _ I2 r1 r2 q2) λd s3 ⟨z,H3,I3,r3,k,e,q3⟩=>?_) hm
 subst e;cases r3;refine kg ?_;cases k with
 |false=>exact ite_ff ⟨.bl oe,H3,I3,Z,q3⟩
 |true=>exact ite_tt<|chain_last<|thn (hc jy s3 B H3 _ I3 q3) λw' s4 ⟨z',H4,I4,r4,q4⟩=>ho' jy s4 B H4 y z' u w' Q I4 r2 r4 q4
theorem Gg{op op':CmpOp}{r r':R2}(ho:OpR X (kh op) r)(ho':OpR X (kh op') r')(ha:PE X a ta)(hb:PE X b tb)(hc:PE X c tc)
  (hm:lastMarks [op,op'] [b,c]=oe:=by with_unfolding_all rfl):PT X (.Compare a [op,op'] [b,c] pos) (VJ<|S9 r r' ta tb tc):=by
 intro jy s B H Q I h;refine isTrue_chain (thn (ha jy s B H _ I h) λv s1 ⟨x,H1,I1,r1,q1⟩=>test_link<|thn (hb jy s1 B H1 _ I1 q1) λu s2 ⟨y,H2,I2,r2,q2⟩=>
  thn (ho jy s2 B H2 x y v u _ I2 r1 r2 q2) λd s3 ⟨z,H3,I3,r3,k,e,q3⟩=>?_) hm
 subst e;cases r3;refine kg ?_;cases k with
 |false=>
  obtain⟨k',e',q'⟩:=q3;cases e';exact ite_ff ⟨H3,I3,q'⟩
 |true=>
  refine ite_tt<|test_last<|thn (hc jy s3 B H3 _ I3 q3) λw' s4 ⟨z',H4,I4,r4,q4⟩=>thn (ho' jy s4 B H4 y z' u w' _ I4 r2 r4 q4) λd' s5 ⟨z2,H5,I5,r5,k2,e2,q5⟩=>?_;subst e2;cases r5;exact kg ⟨H5,I5,q5⟩
def Y0(K:jX)(x:V)(H:Hp)(k:Bool):Prop:=
 match x with
 |.non=>k=oe
 |.bl b=>k=b
 |.int i=>k=(i != 0)
 |.str y=>y.length<=jU/\k=((y.length:Int) != 0)
 |.byt y=>y.size<=jU/\k=((y.size:Int) != 0)
 |.ref p=>(∃xs,SqL K H p xs/\k=!xs.isEmpty)\/(∃xs,SqT K H p xs/\k=!xs.isEmpty)\/∃kvs,H p=O (.dK kvs)/\k=!kvs.isEmpty
 |_=>False
theorem Pw{κ:Type}{kvs:List<|κ×V}{vs:List<|κ×jJ}(r:KV kvs vs):(!vs.isEmpty)=!kvs.isEmpty:=by
 cases r<;>rfl
theorem JG{xs:LUz}{its:LWz}(r:Vals xs its):(!its.toArray.isEmpty)=!xs.isEmpty:=by
 cases r<;>simp
theorem GW:(jU:Nat)<2^63:=by rw[ka];decide
theorem Wq:Zl X (λx H Q=>∃k,Y0 X.K x H k/\Q k H):=by
 intro jy s B H x v Q I rx h;obtain⟨k,e,q⟩:=h;have hl:=GW;have hs:jU=16777216:=ka;cases x with
 |non=>
  cases rx;have e':k=oe:=e;subst e';exact truthy_none ⟨H,I,q⟩
 |bl b=>
  cases rx;have e':k=b:=e;subst e';exact kg ⟨H,I,q⟩
 |int i=>
  obtain⟨t,rfl⟩:=rx;have e':k=(i != 0):=e;subst e';exact PySem.P.truthy_int ⟨H,I,q⟩
 |str y=>
  obtain⟨t,rfl⟩:=rx;obtain⟨hy,e'⟩:y.length<=jU/\k=((y.length:Int) != 0):=e;subst e';exact PySem.P.truthy_str (by lia) ⟨H,I.tok _,q⟩
 |byt y=>
  obtain⟨t,rfl⟩:=rx;obtain⟨hy,e'⟩:y.size<=jU/\k=((y.size:Int) != 0):=e;subst e';exact truthy_bytes (by lia) ⟨H,I.tok _,q⟩
 |ref p=>
  cases rx;have e':(∃xs,SqL X.K H p xs/\k=!xs.isEmpty)\/(∃xs,SqT X.K H p xs/\k=!xs.isEmpty)\/∃kvs,H p=O (.dK kvs)/\k=!kvs.isEmpty:=e;rcases e' with⟨xs,hx,e'⟩|⟨xs,hx,e'⟩|⟨kvs,hx,e'⟩
  .subst e';obtain⟨its,r,pl,hz⟩:=I.list hx;have hlen:=r.length;exact wpAny_truthy_list pl.isList (by simp only[aj];lia) ⟨H,I.tok _,by rw[JG r];exact q⟩
  .subst e';obtain⟨its,r,pl,hz⟩:=I.tuple hx;have hlen:=r.length;exact truthy_tuple pl (by simp only[aj];lia) ⟨H,I.tok _,by rw[JG r];exact q⟩
  .subst e';obtain⟨hz,hS,vs,r,m⟩:kvs.length<=jU/\(p==kt)=oe/\∃vs,KV kvs vs/\s.heap.DictOf (AN X.prog X.w) p vs:=I.hok p _ hx;have hlen:kvs.length=vs.length:=Paired.length r;exact wpAny_truthy_dict hS m (by lia) ⟨H,I.tok _,by rw[Pw r];exact q⟩
 |_=>exact(show False from e).elim
theorem ER(ha:PE X a ta)(he:∀whole,isTrue a X.env whole=(do let v <-whole;standAt a.pos;holding [v] (truthy v))):
    PT X a (λB H Q=>ta B H λx H'=>∃k,Y0 X.K x H' k/\Q k H'):=by
  intro jy s B H Q I h;exact isTrue_plain (thn (ha jy s B H _ I h) λv s1 ⟨x,H1,I1,r1,q1⟩=>Wq jy s1 B H1 x v Q I1 r1 q1)<|he _
theorem D9{x:V}{us:LWz}(r:Vals [x] us):∃u,us=[u]/\RelV x u:=by
 cases r with
 |cons r1 r2=>cases r2;exact⟨_,Z,r1⟩
theorem S0{x y:V}{us:LWz}(r:Vals [x,y] us):∃u w',us=[u,w']/\RelV x u/\RelV y w':=by
 cases r with
 |cons r1 r2=>
  cases r2 with
  |cons r3 r4=>cases r4;exact⟨_,_,Z,r1,r3⟩
theorem Uu:Cq X (.builtin "abs") (λxs H Q=>∃i,xs=[.int i]/\Q (.int<|if i<0 then -i else i) H):=by
 intro jy s B H xs us Q I r h;obtain⟨i,rfl,q⟩:=h;obtain⟨u,rfl,t,rfl⟩:=D9 r;exact call_abs_int λu tk=>⟨.int<|if i<0 then -i else i,H,I.tok _,⟨_,Z⟩,q⟩
theorem L6(hc:X.calm=nZ):Cq X (.builtin "max") (λxs H Q=>∃i j,xs=[.int i,.int j]/\Q (.int<|if j>i then j else i) H):=by
 intro jy s B H xs us Q I r h;obtain⟨i,j,rfl,q⟩:=h;obtain⟨u,w',rfl,⟨t,rfl⟩,⟨t',rfl⟩⟩:=S0 r;refine max_two_ints (I.ok.hd hc) λh' tk k=>⟨_,H,I.kept k,?_,q⟩;by_cases hj:j>i
 .rw[jP hj,jP hj];exact⟨_,Z⟩
 .rw[jK hj,jK hj];exact⟨_,Z⟩
theorem L7:Cq X (.type "int") (λxs H Q=>(∃i,xs=[.int i]/\Q (.int i) H)\/∃k,xs=[.bl k]/\Q (.int<|if k then 1 else 0) H):=by
 intro jy s B H xs us Q I r h;rcases h with⟨i,rfl,q⟩|⟨k,rfl,q⟩
 .obtain⟨u,rfl,t,rfl⟩:=D9 r;exact call_int_int ⟨.int i,H,I,⟨_,Z⟩,q⟩
 .obtain⟨u,rfl,r1⟩:=D9 r;cases r1;exact call_int_bool ⟨.int<|if k then 1 else 0,H,I.tok _,⟨_,Z⟩,q⟩
end
structure ObjM(h:j6)(x dx C:jF)(mA:MGz):Prop where
 obj:h.get? x=O (instObj C dx)
 ns:h.Ns1 dx mA
 ne:dx≠x
set_option tactic.hygienic true in
theorem Ln{h:j6}{dx:jF}{mA:MGz}(n:h.Ns1 dx mA):∃od,h.get? dx=O od/\∀name,lookIn name od=O (mA name):=by
 obtain⟨o,es,ep,ho,hd,hk,_,hm⟩:=n;refine⟨o,ho,λname=>?_⟩;have e:=hm name;unfold nsFind findBy at e;rw[<-Array.find?_toList]at e;unfold lookIn;rw[hd];dsimp only;split
 .rename_i y q;rw[q]at e;exact congrArg O e
 .rename_i q;rw[q]at e;have a:es.toList.any (·.refKey)=oe:=by
   rw[List.any_eq_false];intro y hy;obtain⟨z,t,hkey⟩:=hk y<|Array.mem_toList_iff.mp hy;simp[DictEntry.refKey,hkey]
  have a':¬es.toList.any (·.refKey)=nZ:=by rw[a];exact au
  rw[jK a'];exact congrArg O e
theorem ObjM.look{h:j6}{x dx C:jF}{mA:MGz}(I:ObjM h x dx C mA):∃od,InstAt h x (instObj C dx) C (O od)/\∀name,lookIn name od=O (mA name):=
 let ⟨od,ho,hl⟩:=Ln I.ns
 ⟨od,⟨I.obj,Z,Z,ho⟩,hl⟩
section
variable{prog:jN}{w:jW}{A:jZ}{E:VPz}{s:jH}{K:jX}{x dx C f:jF}{mA:MGz}{name:j5}{v:jJ}
theorem Vr{expr:Bool}{Q:VPz}(X:K.In s.heap)(I:ObjM s.heap x dx C mA)(hg:plainGet K C name=nZ)(hh:hasDictIn K C=nZ)
  (ha:kc K (.ref C) name=O Y) (hv:mA name=O v) (hv':handedIn v=nZ) (h:Q v { s with toks:=s.toks+1}):
  jT (jS prog w) A (getAttr (.ref x) name expr) Q E s:=by
 obtain⟨od,J,hl⟩:=I.look;exact get_value X J (plainGet_of hg).1 (findObj_own hh ha Z<|by rw[hl,hv]) hv' h
theorem TY{pl:Sem Bool}{Q:jJ×LWz->jH->Prop}(X:K.In s.heap)(I:ObjM s.heap x dx C mA)(hg:plainGet K C name=nZ)
  (hf:kc K (.ref C) name=O (O<|.ref f)) (ht:isFn K (.ref f)=nZ) (hv:mA name=Y) (h:Q (.ref f,[.ref x]) s):
  jT (jS prog w) A (getMethod (.ref x) name pl) Q E s:=by
 obtain⟨od,J,hl⟩:=I.look;exact method_fn X J (plainGet_of hg).1 (plainGet_of hg).2 hf (beq_iff_eq.mp ht) (by show(lookIn name od).map (·.isSome)=O oe;rw[hl,hv];rfl) h
theorem UP{ns:LSz}{Q:Unit->jH->Prop}(X:K.In s.heap)(I:ObjM s.heap x dx C mA)
  (hs:kc K (.ref C) "__setattr__"=O (O<|.builtin "object.__setattr__")) (hp:plainOver K C=nZ) (ht:takerIn K C name=O Y) (hh:hasDictIn K C=nZ)
  (hw:PySem.Within mA ns) (hsz:ns.length<=jU)
  (h:∀h',ObjM h' x dx C (λy=>if y=name then O v else mA y)->Heap.SameBut dx s.heap h'->Q () { s with heap:=h',toks:=s.toks+2}):
  jT (jS prog w) A (setAttr (.ref x) name v) Q E s:=by
 obtain⟨od,J,hl⟩:=I.look;refine set_plain X J hs<|osa_open (s:={s with toks:=s.toks+1}) (r:=Y) X J hp ht λb=>?_;obtain⟨cd,hc,hd'⟩:=lB hh;have hx:s.heap.get? x=O ⟨.ref C,O dx,.plain,#[]⟩:=I.obj;refine jG<|jL<|jG<|jG<|lC hx<|jG<|Looks.here (s:={s with toks:=s.toks+1}) (looks_clsIn X hc) ?_;rw[hd'];refine jL (a:=O dx)<|jG<|jL<|jG ?_;refine wpAny_nsSet1 (s:={s with toks:=s.toks+1}) I.ns λh' hn2 hs2=>?_;obtain⟨oD,esD,epD,hoD,hdD,hcD⟩:=hn2.count<|PySem.Within.cons name v hw;refine jG (lK hoD (by rw[hdD];exact lL<|aV hcD (by rw[aL];lia)) ?_);exact jL<|h _ ⟨(hs2.2 _<|Ne.symm I.ne).trans I.obj,hn2,I.ne⟩ hs2
theorem TB{R:Result->jH->Prop}{vs:LWz}{kw:List<|j5×jJ}(X:K.In s.heap)(hm:makesIn K C=nZ)
  (hi:kc K (.ref C) "__init__"=O (O<|.ref f)) (hf:typeIn K (.ref f)=O (.type "function"))
  (h:kK (jS prog w) (A.under<|.builtin "type.__call__" ⟨.ref C::vs,kw⟩) (.call (.ref f) ⟨.ref (s.heap.objs.size+1)::vs,kw⟩) (InitBack (s.heap.objs.size+1) R)
   { s with heap:=(s.heap.push emptyDict).push<|instObj C s.heap.objs.size}):
  kK (jS prog w) A (.call (.ref C) ⟨vs,kw⟩) R s:=by
 obtain⟨hh,g,d,t,os⟩:=s;exact make_core (makes_of X hm) (lM X hi) (λself=>bind_fn X self hf) (.inl Z) h
end
noncomputable def Bl(f:j5)(v:V):LFz->LFz
 |[]=>[(f,v)]
 | (g,x)::r=>if g=f then(g,v)::r else(g,x)::Bl f v r
theorem AC(f g:j5)(v:V):∀fs:LFz,(Bl f v fs).lookup g=if g=f then O v else fs.lookup g
 |[]=>by
  show List.lookup g [(f,v)]=_;by_cases h:g=f
  .have hb:(g==f)=nZ:=beq_iff_eq.mpr h;simp only[List.lookup,hb,jP h]
  .have hb:(g==f)=oe:=beq_eq_false_iff_ne.mpr h;simp only[List.lookup,hb,jK h]
 | (k,x)::r=>by
  have ih:=AC f g v r;rw[show Bl f v ((k,x)::r)=(if k=f then(k,v)::r else(k,x)::Bl f v r)from rfl];by_cases hk:k=f
  .rw[jP hk];by_cases h:g=k
   .have hb:(g==k)=nZ:=beq_iff_eq.mpr h;simp only[List.lookup,hb,jP<|h.trans hk]
   .have hb:(g==k)=oe:=beq_eq_false_iff_ne.mpr h;simp only[List.lookup,hb,jK λe:g=f=>h<|e.trans hk.symm]
  .rw[jK hk];by_cases h:g=k
   .have hb:(g==k)=nZ:=beq_iff_eq.mpr h;simp only[List.lookup,hb,jK λe:g=f=>hk<|h.symm.trans e]
   .have hb:(g==k)=oe:=beq_eq_false_iff_ne.mpr h;simp only[List.lookup,hb];exact ih
theorem DK(f:j5)(v:V):∀fs:LFz,f∈(Bl f v fs).map (·.1)/\∀g,g∈fs.map (·.1)->g∈(Bl f v fs).map (·.1)
 |[]=>⟨by simp[Bl],λg h=>by simp at h⟩
 | (k,x)::r=>by
  obtain⟨i1,i2⟩:=DK f v r;rw[show Bl f v ((k,x)::r)=(if k=f then(k,v)::r else(k,x)::Bl f v r)from rfl];by_cases hk:k=f
  .rw[jP hk];subst hk;exact⟨by simp,λg h=>by simpa using h⟩
  .rw[jK hk];refine⟨?_,λg h=>?_⟩
   .rw[aR];exact aF _ i1
   .rw[aR]at h |-;rcases aQ.mp h with e|e
    .exact aQ.mpr (.inl e)
    .exact aF _ (i2 g e)
theorem HA(f:j5)(v:V):∀fs:LFz,(Bl f v fs).length<=fs.length+1
 |[]=>by simp[Bl]
 | (k,x)::r=>by
  have ih:=HA f v r;rw[show Bl f v ((k,x)::r)=(if k=f then(k,v)::r else(k,x)::Bl f v r)from rfl];by_cases hk:k=f
  .rw[jP hk,aL,aL];lia
  .rw[jK hk,aL,aL];lia
theorem RelO.some_of{v:V}{o:Option jJ}(r:RelO (O v) o):∃u,o=O u/\RelV v u:=by
 cases o with
 |none=>exact(show False from r).elim
 |some u=>exact⟨u,Z,r⟩
theorem RelO.none_of{o:Option jJ}(r:RelO Y o):o=Y:=by
 cases o with
 |none=>rfl
 |some u=>exact(show False from r).elim
theorem Lw{v:V}{u:jJ}(r:RelV v u):handedIn u=nZ:=by
 cases v with
 |non=>cases(show u=Value.none from r);rfl
 |bl b=>cases(show u=Value.bool b from r);rfl
 |int i=>obtain⟨t,e⟩:=(show ∃t,u=Value.int i t from r);cases e;rfl
 |str x=>obtain⟨t,e⟩:=(show ∃t,u=Value.str x t from r);cases e;rfl
 |byt b=>obtain⟨t,e⟩:=(show ∃t,u=Value.bytes b t from r);cases e;rfl
 |flt b=>obtain⟨t,e⟩:=(show ∃t,u=Value.float b t from r);cases e;rfl
 |ref a=>cases(show u=Value.ref a from r);rfl
 |ty n=>cases(show u=Value.type n from r);rfl
section
variable{P:jN}{w:jW}{H H':Hp}{h h':j6}{a C dx:jF}{fs fs':LFz}
theorem Iy(hok:HOk P w H h)(e:H a=O (.ins C dx fs)):∃mA,ObjM h a dx C mA/\(∀f,RelO (fs.lookup f)<|mA f)/\PySem.Within mA (fs.map (·.1))/\fs.length<=1000/\H dx=O (.own a):=by
 obtain⟨d,z,ne,ob,mA,n,r,q⟩:=(show ObjOk P w H h a (.ins C dx fs)from hok a _ e);exact⟨mA,⟨ob,n,ne⟩,r,q,z,d⟩
end
structure Cls(K:jX)(C:jF):Prop where
 pg:plainGet K C Str.empty=nZ
 hd:hasDictIn K C=nZ
 po:plainOver K C=nZ
 sa:kc K (.ref C) "__setattr__"=O (O<|.builtin "object.__setattr__")
theorem Cls.get{K:jX}{C:jF}(c:Cls K C)(f:j5):plainGet K C f=nZ:=c.pg
def NoAttr(K:jX)(C:jF)(f:j5):Prop:=kc K (.ref C) f=O Y
theorem NoAttr.taker{K:jX}{C:jF}{f:j5}(n:NoAttr K C f):takerIn K C f=O Y:=by
 unfold takerIn;rw[show kc K (.ref C) f=O Y from n];rfl
structure VH(K:jX)(C:jF)(m:j5)(f:jF):Prop where
 at_:kc K (.ref C) m=O (O<|.ref f)
 fn:isFn K (.ref f)=nZ
 kp:kP K (.ref f)=nZ
section
variable{X:Cx}{jy:PNz}{B:St}{H:Hp}{s:jH}{a C dx:jF}{fs:LFz}{f:j5}{v:V}{A:jZ}{E:VPz}
theorem P0{b:Bool}{Q:VPz}(I:Inv X jy B H s)(e:H a=O (.ins C dx fs))(c:Cls X.K C)(n:NoAttr X.K C f)(l:fs.lookup f=O v)
  (h:∀u s',Inv X jy B H s'->RelV v u->Q u s'):jT (jS X.prog X.w) A (getAttr (.ref a) f b) Q E s:=by
 obtain⟨mA,nW,r,_,_,_⟩:=Iy I.hok e;obtain⟨u,hu,ru⟩:=RelO.some_of (v:=v) (o:=mA f) (by rw[<-l];exact r f);exact Vr I.kIn nW (c.get f) c.hd n hu (Lw ru)<|h u _ (I.tok _) ru
theorem JI{m:j5}{g:jF}{pl:Sem Bool}{Q:jJ×LWz->jH->Prop}(I:Inv X jy B H s)(e:H a=O (.ins C dx fs))(c:Cls X.K C)(k:VH X.K C m g)(l:fs.lookup m=Y)
  (h:Q (.ref g,[.ref a]) s):jT (jS X.prog X.w) A (getMethod (.ref a) m pl) Q E s:=by
 obtain⟨mA,nW,r,_,_,_⟩:=Iy I.hok e;have hn:mA m=Y:=RelO.none_of (by rw[<-l];exact r m);exact TY I.kIn nW (c.get m) k.at_ k.fn hn h
theorem OU{y:V}{u:jJ}{Q:Unit->jH->Prop}(I:Inv X jy B H s)(e:H a=O (.ins C dx fs))(c:Cls X.K C)(n:NoAttr X.K C f)(hl:fs.length<1000)(ry:RelV y u)
  (h:∀s',Inv X jy B (upd H a<|.ins C dx<|Bl f y fs) s'->Q () s'):jT (jS X.prog X.w) A (setAttr (.ref a) f u) Q E s:=by
 obtain⟨mA,nW,r,wi,_,ho⟩:=Iy I.hok e;have hz:(fs.map (·.1)).length<=jU:=by rw[aa,ka];lia
 refine UP I.kIn nW c.sa c.po n.taker c.hd wi hz λh' O' sb=>h _ ?_;have hd:∃o,h'.get? dx=O o:=let ⟨o,_,_,e',_⟩:=O'.ns;⟨o,e'⟩;refine I.write (x:=a) (e:=dx) (by rw[e];exact True.intro) (.inr ho) (λb q hb z=>(sb.2 b hb).trans z) hd ?_;refine⟨by rw[Af nW.ne];exact ho,?_,nW.ne,O'.obj,_,O'.ns,λg=>?_,λg hg=>?_⟩
 .have:=HA f y fs;lia
 .show RelO ((Bl f y fs).lookup g) (if g=f then O u else mA g);rw[AC];by_cases q:g=f
  .rw[jP q,jP q];exact ry
  .rw[jK q,jK q];exact r g
 .by_cases q:g=f
  .rw[q];exact(DK f y fs).1
  .refine(DK f y fs).2 g (wi g λz=>hg ?_);show(if g=f then O u else mA g)=Y;rw[jK q];exact z
theorem Inv.made(I:Inv X jy B H s):Inv X jy B (upd (upd H s.heap.objs.size<|.own<|s.heap.objs.size+1) (s.heap.objs.size+1)<|.ins C s.heap.objs.size [])
  { s with heap:=(s.heap.push emptyDict).push<|instObj C s.heap.objs.size}:=by
 have e1:(s.heap.push emptyDict).get? s.heap.objs.size=O emptyDict:=aH s.heap Z;have e2:((s.heap.push emptyDict).push<|instObj C s.heap.objs.size).get? (s.heap.objs.size+1)=O (instObj C s.heap.objs.size):=by
  have:=aH (s.heap.push emptyDict) (o:=instObj C s.heap.objs.size) Z;rwa [b8]at this
 have e3:(s.heap.push emptyDict).Ns s.heap.objs.size (λ_=>Y):=⟨emptyDict,#[],_,e1,Z,(λe he=>absurd he<|by simp),λ_=>rfl⟩;have I1:=I.laid (a:=s.heap.objs.size) (o:=.own<|s.heap.objs.size+1) (h':=s.heap.push emptyDict) (t':=s.toks) (λb u q=>ag _ q) (ah _) ⟨_,e1⟩;refine I1.laid (a:=s.heap.objs.size+1) (o:=.ins C s.heap.objs.size []) (t':=s.toks) (λb u q=>ag _ q) (dH<|b8 _ _) ?_;have ne:s.heap.objs.size≠s.heap.objs.size+1:=aM<|bS _;refine⟨by rw[Af ne,Ae],aU _,ne,e2,λ_=>Y,(Heap.Ns1.of_empty e3).at λo q=>ag _ q,λ_=>True.intro,λy hy=>absurd Z hy⟩
theorem QT{prog:jN}{w:jW}{env:lO}{e:j9}{f:j5}{pos:Pos}{s:jH}{Q:VPz}(hb:attributeBase e f env (eval e env)=eval e env)
  (h:jT (jS prog w) A (eval e env) (λo s₁=>jT (jS prog w) A (getAttr o f nZ) Q E s₁) E s):jT (jS prog w) A (eval (.Attribute e f pos) env) Q E s:=
 Attribute_any_ h (by rw[arm_eval_Attribute,hb])
end
inductive YA(K:jX)(f:j5)(x:V)(H:Hp)(Q:VK):Prop
 |mk (a C dx:jF) (fs:LFz) (v:V) (e:x=.ref a) (h:H a=O (.ins C dx fs)) (c:Cls K C) (n:NoAttr K C f) (l:fs.lookup f=O v) (q:Q v H):YA K f x H Q
def YM(K:jX)(ta:TE)(f:j5):TE:=λB H Q=>ta B H λx H1=>YA K f x H1 Q
def YT(K:jX)(ta tv:TE)(f:j5):TS:=λD B H=>tv B H λy H1=>ta B H1 λx H2=>∃a C dx fs,x=.ref a/\H2 a=O (.ins C dx fs)/\Cls K C/\NoAttr K C f/\fs.length<1000 /\
 D.nx B (upd H2 a<|.ins C dx<|Bl f y fs)
section
variable{X:Cx}{o e value:j9}{f:j5}{pos pos' tpos:Pos}{ta tv:TE}
theorem AO(he:PE X e ta)(hb:attributeBase e f X.env (eval e X.env)=eval e X.env):PE X (.Attribute e f pos) (YM X.K ta f):=by
 intro jy s B H Q I h;refine QT hb<|thn (he jy s B H _ I h) λu s1 hz_=>?_;obtain⟨x,H1,I1,rx,a,C,dx,fs,v,ex,ea,c,n,l,q⟩:=hz_;subst ex;obtain rfl:u=Value.ref a:=rx;exact P0 I1 ea c n l λu' s2 I2 ru=>⟨v,H1,I2,ru,q⟩
theorem CV(ha:PE X o ta)(hv:PE X value tv)(hs:swapsWith value (O<|.Attribute o f pos') pos.line X.env=pure oe):PS X (.Assign [.Attribute o f pos'] value pos) (YT X.K ta tv f):=by
 intro jy s B H D I h;refine lg (thn (hv jy s B H _ I h) λu s1 hz_=>?_) hs;obtain⟨y,H1,I1,ry,q⟩:=hz_;refine thn (ha jy s1 B H1 _ I1 q) λov s2 hz_=>?_;obtain⟨x,H2,I2,rx,a,C,dx,fs,ex,ea,c,n,l,q2⟩:=hz_;subst ex;obtain rfl:ov=Value.ref a:=rx;exact OU I2 ea c n l ry λs3 I3=>⟨B,_,I3,q2⟩
end
section
variable{X:Cx}{jy:PNz}{B:St}{H:Hp}{s:jH}{A:jZ}{E:VPz}{Q:VPz}{c:jJ}{b:Bool}
inductive Hn(K:jX)(H:Hp):V->jJ->Prop where
 |non:Hn K H .non<|.type "NoneType"
 |bl (x:Bool):Hn K H (.bl x)<|.type "bool"
 |int (i:Int):Hn K H (.int i)<|.type "int"
 |str (x:j5):Hn K H (.str x)<|.type "str"
 |flt (x:UInt64):Hn K H (.flt x)<|.type "float"
 |lst {a:jF} {xs:LUz} (e:H a=O (.lst xs)):Hn K H (.ref a)<|.type "list"
 |frz {a:jF} {o:Obj} {xs:LUz} (e:H a=O (.frz o<|.lst xs)):Hn K H (.ref a)<|.type "list"
 |tup {a:jF} {xs:LUz} (e:H a=O (.tup xs)):Hn K H (.ref a)<|.type "tuple"
 |dK {a:jF} {kvs:List<|Key×V} (e:H a=O (.dK kvs)):Hn K H (.ref a)<|.type "dict"
 |dT {a:jF} {kvs:LKz} (e:H a=O (.dT kvs)):Hn K H (.ref a)<|.type "dict"
 |ins {a C dx:jF} {fs:LFz} (e:H a=O (.ins C dx fs)) (cl:Cls K C) (ha:kc K (.ref C) "__class__"=O (O<|.builtin "object.__class__"))
   (hn:specialIn K (.builtin "object.__class__") "__get__"=O (O<|.builtin "getset_descriptor.__get__")) (htk:takesIn K (.builtin "object.__class__")=O nZ)
   (hm:mroIn K C (.type "object")=O nZ):Hn K H (.ref a)<|.ref C
theorem Sb{x:V}{u t:jJ}(I:Inv X jy B H s)(rx:RelV x u)(ty:Hn X.K H x t)(e:kQ X.K t c=O b)(h:∀tk,Q (.bool b) { s with toks:=tk}):
  jT (jS X.prog X.w) A (call (.builtin "isinstance") [u,c]) Q E s:=by
 cases ty with
 |non=>cases(show u=Value.none from rx);exact kX kitx_none I.kIn True.intro e (λz=>nomatch z) h
 |bl y=>cases(show u=Value.bool y from rx);exact kX kitx_bool I.kIn True.intro e (λz=>nomatch z) h
 |int i=>obtain⟨t,q⟩:=(show ∃t,u=Value.int i t from rx);cases q;exact kX kitx_int I.kIn True.intro e (λz=>nomatch z) h
 |str y=>obtain⟨t,q⟩:=(show ∃t,u=Value.str y t from rx);cases q;exact kX kitx_str I.kIn True.intro e (λz=>nomatch z) h
 |flt y=>obtain⟨t,q⟩:=(show ∃t,u=Value.float y t from rx);cases q;exact kX kitx_float I.kIn True.intro e (λz=>nomatch z) h
 |@lst a xs ea=>
  cases(show u=Value.ref a from rx);obtain⟨_,_,n,_,h1⟩:=(show ObjOk X.prog X.w H s.heap a (.lst xs)from I.hok a _ ea);exact kX kitx_list I.kIn ⟨_,h1,Z⟩ e (λz=>nomatch z) h
 |@frz a ob xs ea=>
  cases(show u=Value.ref a from rx);obtain⟨_,_,_,n,_,h1⟩:=(show ObjOk X.prog X.w H s.heap a (.frz ob<|.lst xs)from I.hok a _ ea);exact kX kitx_list I.kIn ⟨_,h1,Z⟩ e (λz=>nomatch z) h
 |@tup a xs ea=>
  cases(show u=Value.ref a from rx);obtain⟨_,_,_,p⟩:=(show ObjOk X.prog X.w H s.heap a (.tup xs)from I.hok a _ ea);obtain⟨o,h1,h2,_⟩:=p;exact kX kitx_tuple I.kIn ⟨o,h1,h2⟩ e (λz=>nomatch z) h
 |@dK a kvs ea=>
  cases(show u=Value.ref a from rx);obtain⟨_,_,vs,_,p⟩:=(show ObjOk X.prog X.w H s.heap a (.dK kvs)from I.hok a _ ea);obtain⟨o,es,ep,h1,h2,_⟩:=p;exact kX kitx_dict I.kIn ⟨o,h1,h2.1⟩ e (λz=>nomatch z) h
 |@dT a kvs ea=>
  cases(show u=Value.ref a from rx);obtain⟨_,_,xs,_,o,es,ep,h1,h2,_⟩:=(show ObjOk X.prog X.w H s.heap a (.dT kvs)from I.hok a _ ea);exact kX kitx_dict I.kIn ⟨o,h1,h2.1⟩ e (λz=>nomatch z) h
 |@ins a C dx fs ea cl ha hn htk hm=>
  cases(show u=Value.ref a from rx);obtain⟨mA,nW,_⟩:=Iy I.hok ea;obtain⟨od,J,_⟩:=nW.look;exact kX (kitx_own (cl.get _) cl.hd ha hn htk hm) I.kIn J e (λz=>nomatch z) h
end
structure Room(k:Nat)(A:jZ):Prop where
 hd:A.handled=Y
 dp:A.depth+3*k+5<recursionLimit
 un:A.units+16*k+200<kY
theorem Room.mono{j k:Nat}{A:jZ}(r:Room k A)(h:j<=k):Room j A:=⟨r.hd,by have:=r.dp;lia,by have:=r.un;lia⟩
theorem Room.deeper{k:Nat}{A:jZ}(r:Room (k+1) A)(env:lO):Room k (A.deeper env):=
 ⟨r.hd,by have:=r.dp;show A.depth+1+3*k+5<_;lia,by have:=r.un;show A.units+3+16*k+200<_;lia⟩
theorem Pr{A:jZ}{C:jF}{us:LWz}{kw:List<|j5×jJ}:(A.under<|.builtin "type.__call__" ⟨.ref C::us,kw⟩).depth=A.depth+1:=by
 first|rfl|simp[Around.under,Code.weight,Code.isCreation,Code.isGuard,Code.isCaller,Code.frames,Code.isFrame,guardIds]
theorem Pq{A:jZ}{C:jF}{us:LWz}{kw:List<|j5×jJ}:(A.under<|.builtin "type.__call__" ⟨.ref C::us,kw⟩).units=A.units+1:=by
 first|rfl|simp[Around.under,Code.cUnits,Code.frames,Code.isFrame]
theorem Room.make{k:Nat}{A:jZ}(r:Room (k+1) A)(C:jF)(us:LWz)(kw:List<|j5×jJ):Room k (A.under<|.builtin "type.__call__" ⟨.ref C::us,kw⟩):=
 ⟨r.hd,by have:=r.dp;rw[Pr];lia,by have:=r.un;rw[Pq];lia⟩
theorem Room.depth{k:Nat}{A:jZ}(r:Room k A):A.depth<recursionLimit:=by have:=r.dp;lia
theorem Room.units{k:Nat}{A:jZ}(r:Room k A):A.units+64<kY:=by have:=r.un;lia
def UG:TA:=λ_ H Q=>Q [] H
def VM(ta:TE)(tr:TA):TA:=λB H Q=>ta B H λx H1=>tr B H1 λxs H2=>Q (x::xs) H2
section
variable{X:Cx}{e:j9}{es:List j9}{te:TE}{t:TA}{pos:Pos}
theorem BF:PA X [] UG:=λ_ _ _ _ H Q I h=>Calls.spliced_nil ⟨[],H,I,.nil,h⟩
theorem Aa(ha:PE X e te)(hr:PA X es t)(hs:jV (e::es) X.env=(oe,eval e X.env)::jV es X.env:=by rfl):PA X (e::es) (VM te t):=by
 intro pos jy s B H Q I h;rw[hs];show jT _ _ (spliced ((oe,eval e X.env)::kr pos (jV es X.env))) _ _ s;refine Calls.spliced_cons<|thn (ha jy s B H _ I h) λu s1 hz_=>?_;obtain⟨x,H1,I1,r1,q1⟩:=hz_;exact thn (hr pos jy s1 B H1 _ I1 q1) λus s2 ⟨xs,H2,I2,r2,q2⟩=>⟨x::xs,H2,I2,.cons r1 r2,q2⟩
theorem Aj(ha:PE X e te)(hs:jV [e] X.env=[(oe,eval e X.env)]:=by rfl):PA X [e] (VM te UG):=Aa ha BF hs
def YD(t:TA):TE:=λB H Q=>t B H λxs H1=>xs.length<=jU/\∀p,H1 p=Y->Q (.ref p) (upd H1 p<|.tup xs)
def YJ(t:TA):TE:=λB H Q=>t B H λxs H1=>xs.length<=jU/\∀p,H1 p=Y->Q (.ref p) (upd H1 p<|.lst xs)
theorem A4{x1}(h:PA X es t):PE X (.Tuple es x1 pos) (YD t):=by
 intro jy s B H Q I hq;refine wpAny_Tuple_spliced (thn (h pos jy s B H _ I hq) λus s1 ⟨xs,H1,I1,r,z,q⟩=>⟨by rw[<-r.length];exact z,?_⟩);have hf:H1 s1.heap.objs.size=Y:=I1.hok.fresh<|ah _;refine⟨.ref s1.heap.objs.size,upd H1 s1.heap.objs.size<|.tup xs,I1.laid (t':=s1.toks) (λb u e=>ag _ e) (ah _) ?_,Z,q _ hf⟩;exact⟨z,us,r,⟨_,aH _ Z,Z,_,Z⟩⟩
theorem AJ(h:PA X es t):PE X (.List es pos) (YJ t):=by
 intro jy s B H Q I hq;refine wpAny_List_spliced (thn (h pos jy s B H _ I hq) λus s1 ⟨xs,H1,I1,r,z,q⟩=>⟨by rw[<-r.length];exact z,?_⟩);have hf:H1 s1.heap.objs.size=Y:=I1.hok.fresh<|ah _;refine⟨.ref s1.heap.objs.size,upd H1 s1.heap.objs.size<|.lst xs,I1.laid (t':=s1.toks) (λb u e=>ag _ e) (ah _) ?_,Z,q _ hf⟩;exact⟨z,us,0,r,aH _ Z⟩
end
abbrev Sp:=LUz->Hp->VK->XK->Prop
abbrev CXT:=List lO->Hp->jH->XK->jJ->jH->Prop
structure Env0(P:jN)(w:jW)(K:jX)(mg:MGz)(jD:j6)(A:jZ)(jz:List lO)(s:jH)(H:Hp):Prop where
 frames:A.frames=O jz
 mod:Mod K mg jD
 bs:∀b o,jD.get? b=O o->s.heap.get? b=O o/\H b=Y
 bsz:jD.objs.size<=s.heap.objs.size
 funs:s.heap.FunFrames jD jz
 frf:∀b∈frs jz,H b=Y
 hok:HOk P w H s.heap
 bare:AllBare s.gens
def CE(jz:List lO)(P:jN)(w:jW)(H:Hp)(s:jH)(Q:VK)(u:jJ)(s':jH):Prop:=
 ∃v H',s'.os=s.os/\AllBare s'.gens/\Un (frs jz) [] H H' s.heap s'.heap/\HOk P w H' s'.heap/\RelV v u/\Q v H'
def CR(CX:CXT)(jz:List lO)(P:jN)(w:jW)(H:Hp)(s:jH)(Q:VK)(E:XK)(r:Result)(s':jH):Prop:=
 match r with
 |.ok (.ret u)=>CE jz P w H s Q u s'
 |.ok _=>False
 |.error e=>CX jz H s E e s'
structure A8(P:jN)(w:jW)(K:jX)(mg:MGz)(jD:j6)(CX:CXT)(k:Nat)(f:jF)(fd:jM)(ps:LSz)(sp:Sp):Prop where
 len:∀vs H Q E,sp vs H Q E->vs.length=ps.length
 run:∀(A:jZ)(jz:List lO)(s:jH)(H:Hp)(args:Args)(us:LWz)(vs:LUz)(Q:VK)(E:XK),Room k A->Env0 P w K mg jD A jz s H->BindsTo s fd args (ps.zip us)->Vals vs us->sp vs H Q E ->
  kK (jS P w) A (.call (.ref f) args) (CR CX jz P w H s Q E) s
theorem Env0.make{P:jN}{w:jW}{K:jX}{mg:MGz}{jD:j6}{A:jZ}{jz:List lO}{s:jH}{H:Hp}(e:Env0 P w K mg jD A jz s H)(C:jF)(us:LWz)(kw:List<|j5×jJ):
  Env0 P w K mg jD (A.under<|.builtin "type.__call__" ⟨.ref C::us,kw⟩) jz s H:=⟨by first|exact e.frames|(simpa [Around.under,Code.envs,Code.isFrame,pushEnvs]using e.frames),e.mod,e.bs,e.bsz,e.funs,e.frf,e.hok,e.bare⟩
section
variable{X:Cx}{jy:PNz}{B:St}{H:Hp}{s s':jH}
theorem Inv.env0(I:Inv X jy B H s):Env0 X.prog X.w X.K X.mg X.jD X.A X.stack s H:=
 ⟨I.ok.frames,I.ok.mod,I.bs,aV I.ok.bsz I.sz,I.stack,I.stkFree,I.hok,I.bare⟩
theorem Inv.after{Q:VK}{u:jJ}(I:Inv X jy B H s)(h:CE X.stack X.prog X.w H s Q u s'):EP X jy B Q u s':=by
 obtain⟨v,H',os,bare,un,hok,r,q⟩:=h;obtain⟨hh,g,d,t,os'⟩:=s';obtain rfl:os'=s.os:=os;exact⟨v,H',I.call (h':=hh) (g':=g) (d':=d) (t':=t) (ch:=[]) un hok bare (λb z=>absurd z<|by simp),r,q⟩
end
def PM(sp:Sp)(dvs:LUz)(E:XK)(t:TA):TE:=λB H Q=>t B H λvs H1=>sp (vs++dvs) H1 Q E
def PL(C:jF)(m:j5)(sp:Sp)(dvs:LUz)(E:XK)(ta:TE)(t:TA):TE:=λB H Q=>ta B H λx H1=>∃a dx fs,x=.ref a/\H1 a=O (.ins C dx fs)/\fs.lookup m=Y /\
 t B H1 λvs H2=>sp (x::(vs++dvs)) H2 Q E
def VL(C:jF)(sp:Sp)(dvs:LUz)(E:XK)(t:TA):TE:=λB H Q=>t B H λvs H1=>∀x dx,H1 x=Y->H1 dx=Y->dx≠x ->
 sp (.ref x::(vs++dvs)) (upd (upd H1 dx<|.own x) x<|.ins C dx []) (λv H2=>v=.non/\Q (.ref x) H2) E
def Binds(K:jX)(fd:jM)(ps:LSz)(ds:LWz):Prop:=
 ∀(s:jH)(us:LWz),K.In s.heap->(us++ds).length=ps.length->BindsTo s fd ⟨us,[]⟩ (ps.zip<|us++ds)
theorem Binds.all{K:jX}{fd:jM}{ps:LSz}(h:∀us:LWz,us.length=ps.length->bindArgs fd ⟨us,[]⟩=pure (ps.zip us)):Binds K fd ps []:=λs us _ hl=>by
 rw[aJ]at hl |-;exact .of_eq<|h us hl
def Dc(CX:CXT)(X:Cx)(E:XK):Prop:=∀(jy:PNz)(B:St)(H:Hp)(s:jH)(e:jJ)(s':jH),Inv X jy B H s->CX X.stack H s E e s'->X.xe e s'
section
variable{X:Cx}{CX:CXT}{k:Nat}{f C:jF}{fd:jM}{ps:LSz}{sp:Sp}{dvs:LUz}{ds:LWz}{E:XK}{x m:j5}{p pos apos:Pos}{e o:j9}{es:List j9}{ta:TE}{t:TA}
theorem OX{jy:PNz}{B:St}{H:Hp}{s:jH}{Q:VK}{us:LWz}{vs:LUz}(F:A8 X.prog X.w X.K X.mg X.jD CX k f fd ps sp)(hr:Room k X.A)(hb:Binds X.K fd ps ds)(hd:Vals dvs ds)(hx:Dc CX X E)
  (I:Inv X jy B H s) (r:Vals vs us) (h:sp (vs++dvs) H Q E):jT (jS X.prog X.w) X.A (call (.ref f) us) (EP X jy B Q) X.xe s:=by
 have r2:Vals (vs++dvs) (us++ds):=r.append hd;have hl:(us++ds).length=ps.length:=by rw[<-r2.length];exact F.len _ _ _ _ h
 refine kR<|kL (F.run X.A X.stack s H ⟨us,[]⟩ (us++ds) (vs++dvs) Q E hr I.env0 (hb s us I.kIn hl) r2 h) λr s' hq=>?_;cases r with
 |error e=>exact hx jy B H s e s' I hq
 |ok fl=>
  cases fl with
  |ret u=>exact I.after hq
  |next=>exact False.elim hq
  |brk=>exact False.elim hq
  |cont=>exact False.elim hq
theorem Q3(F:A8 X.prog X.w X.K X.mg X.jD CX k f fd ps sp)(hr:Room k X.A)(hg:Gl X x)(hm:X.mg x=O (.ref f))(hk:kP X.K (.ref f)=nZ)(hb:Binds X.K fd ps ds)(hd:Vals dvs ds)(hx:Dc CX X E)
  (ha:PA X (e::es) t) (hdb:(x==("__debug__":j5))=oe:=by decide) (he:jV (e::es) X.env=(oe,eval e X.env)::jV es X.env:=by rfl) (hpl:(kr pos<|jV es X.env).any (·.1)=oe:=by rfl):
  PE X (.Call (.Name x p) (e::es) [] pos) (PM sp dvs E t):=by
 intro jy s B H Q I h;refine ki<|Eg I hg hm ?_ hdb;refine lD (h₀:=X.jD) I.ok.mod.kin hk (thn (ha pos jy s B H _ I h) λus s1 ⟨vs,H1,I1,r,q⟩=>⟨I1.kIn,?_⟩) he hpl;exact OX F hr hb hd hx I1 r q
theorem UY{pl:Sem Bool}(he:PE X o ta)(c:Cls X.K C)(hm:VH X.K C m f)(F:A8 X.prog X.w X.K X.mg X.jD CX k f fd ps sp)(hr:Room k X.A)(hb:Binds X.K fd ps ds)(hd:Vals dvs ds)(hx:Dc CX X E)(ha:PA X (e::es) t)
    (hst:jV (e::es) X.env=(oe,eval e X.env)::jV es X.env:=by rfl) (hpl:(kr pos<|jV es X.env).any (·.1)=oe:=by rfl)
    (ht:eval (.Call (.Attribute o m apos) (e::es) [] pos) X.env=(do
      let ov <-eval o X.env
      standAt apos.atName
      let (f,first) <-holding [ov] (getMethod ov m pl)
      callWith pos f first (kr pos<|jV (e::es) X.env) (backToKw pos<|keywordEach [] X.env)):=by rfl):
    PE X (.Call (.Attribute o m apos) (e::es) [] pos) (PL C m sp dvs E ta t):=by
  intro jy s B H Q I h;refine methodCall_KW (pl:=pl) (thn (he jy s B H _ I h) λu s1 hz_=>?_) ht;obtain⟨x,H1,I1,rx,a,dx,fs,ex,ea,l,q⟩:=hz_;subst ex;obtain rfl:u=Value.ref a:=rx;refine JI I1 ea c hm l ?_;refine lD (first:=[.ref a]) (h₀:=X.jD) I.ok.mod.kin hm.kp (thn (ha pos jy s1 B H1 _ I1 q) λus s2 ⟨vs,H2,I2,r,q2⟩=>⟨I2.kIn,?_⟩) hst hpl;exact OX (us:=.ref a::us) (vs:=.ref a::vs) F hr hb hd hx I2 (.cons Z r) q2
theorem Te{pl:Sem Bool}(he:PE X o ta)(c:Cls X.K C)(hm:VH X.K C m f)(F:A8 X.prog X.w X.K X.mg X.jD CX k f fd ps sp)(hr:Room k X.A)(hb:Binds X.K fd ps ds)(hd:Vals dvs ds)(hx:Dc CX X E)
    (ht:eval (.Call (.Attribute o m apos) [] [] pos) X.env=(do
      let ov <-eval o X.env
      standAt apos.atName
      let (f,first) <-holding [ov] (getMethod ov m pl)
      callWith pos f first (kr pos<|jV [] X.env) (backToKw pos<|keywordEach [] X.env)):=by rfl):
    PE X (.Call (.Attribute o m apos) [] [] pos) (PL C m sp dvs E ta UG):=by
  intro jy s B H Q I h;refine methodCall_KW (pl:=pl) (thn (he jy s B H _ I h) λu s1 hz_=>?_) ht;obtain⟨x,H1,I1,rx,a,dx,fs,ex,ea,l,q⟩:=hz_;subst ex;obtain rfl:u=Value.ref a:=rx;refine JI I1 ea c hm l ?_;exact callWith_K0 (first:=[.ref a]) I1.kIn hm.kp<|OX (us:=[.ref a]) (vs:=[.ref a]) F hr hb hd hx I1 (.cons Z .nil) q
structure Mk(K:jX)(C f:jF):Prop where
 makes:makesIn K C=nZ
 init:kc K (.ref C) "__init__"=O (O<|.ref f)
 fn:isFn K (.ref f)=nZ
 kp:kP K (.ref C)=nZ
theorem SR{jy:PNz}{B:St}{H:Hp}{s:jH}{Q:VK}{us:LWz}{vs:LUz}(M:Mk X.K C f)(F:A8 X.prog X.w X.K X.mg X.jD CX k f fd ps sp)(hr:Room (k+1) X.A)(hb:Binds X.K fd ps ds)(hd:Vals dvs ds)
  (hx:Dc CX X E) (I:Inv X jy B H s) (r:Vals vs us)
  (h:∀x dx,H x=Y->H dx=Y->dx≠x->sp (.ref x::(vs++dvs)) (upd (upd H dx<|.own x) x<|.ins C dx []) (λv H2=>v=.non/\Q (.ref x) H2) E):
  jT (jS X.prog X.w) X.A (call (.ref C) us) (EP X jy B Q) X.xe s:=by
 have hq:=h (s.heap.objs.size+1) s.heap.objs.size (I.hok.fresh<|bT _) (I.hok.fresh<|ah _)<|aM<|bS _;have I2:=Inv.made (C:=C) I;have r2:Vals (V.ref (s.heap.objs.size+1)::(vs++dvs)) (Value.ref (s.heap.objs.size+1)::(us++ds)):=.cons Z<|r.append hd;have hl:(Value.ref (s.heap.objs.size+1)::us++ds).length=ps.length:=by
  have e:=r2.length;rw[F.len _ _ _ _ hq]at e;exact e.symm
 refine kR (TB (f:=f) I.kIn M.makes M.init (beq_iff_eq.mp M.fn)<|kL (F.run _ X.stack _ _ ⟨Value.ref (s.heap.objs.size+1)::us,[]⟩ (Value.ref (s.heap.objs.size+1)::(us++ds)) _ _ E (hr.make C us [])
  (I2.env0.make C us []) (hb _ (Value.ref (s.heap.objs.size+1)::us) I2.kIn hl) r2 hq) λr s' hq'=>?_)
 cases r with
 |error e=>exact hx jy B _ _ e s' I2 hq'
 |ok fl=>
  cases fl with
  |ret u=>
   obtain⟨v,H',I3,rv,ev,q3⟩:=I2.after hq';subst ev;exact⟨rv,⟨V.ref<|s.heap.objs.size+1,H',I3,Z,q3⟩⟩
  |next=>exact False.elim hq'
  |brk=>exact False.elim hq'
  |cont=>exact False.elim hq'
theorem UZ(M:Mk X.K C f)(F:A8 X.prog X.w X.K X.mg X.jD CX k f fd ps sp)(hr:Room (k+1) X.A)(hg:Gl X x)(hm:X.mg x=O (.ref C))(hb:Binds X.K fd ps ds)(hd:Vals dvs ds)(hx:Dc CX X E)
  (ha:PA X (e::es) t) (hdb:(x==("__debug__":j5))=oe:=by decide) (he:jV (e::es) X.env=(oe,eval e X.env)::jV es X.env:=by rfl) (hpl:(kr pos<|jV es X.env).any (·.1)=oe:=by rfl):
  PE X (.Call (.Name x p) (e::es) [] pos) (VL C sp dvs E t):=by
 intro jy s B H Q I h;refine ki<|Eg I hg hm ?_ hdb;refine lD (h₀:=X.jD) I.ok.mod.kin M.kp (thn (ha pos jy s B H _ I h) λus s1 ⟨vs,H1,I1,r,q⟩=>⟨I1.kIn,?_⟩) he hpl;exact SR M F hr hb hd hx I1 r q
end
structure Al(N P:LSz)(sc:kF):Prop where
 kind:sc.kind=.function
 co:sc.isCoroutine=oe
 gen:sc.isGenerator=oe
 nd:N.Nodup
 pre:N.take P.length=P
 par:∀x∈P,sc.names.lookup x=O .local\/sc.names.lookup x=O .cell
 nofree:∀y∈sc.names,y.2≠.free
theorem fsc{N P:List j5}{sc:kF}(a:sc.kind=.function:=by rfl)(b:sc.isCoroutine=oe:=by rfl)(c:sc.isGenerator=oe:=by rfl)(d:N.Nodup:=by decide +kernel)(e:N.take P.length=P:=by rfl)(f:∀x∈P,sc.names.lookup x=O .local\/sc.names.lookup x=O .cell:=by decide +kernel)(g:∀y∈sc.names,y.2≠.free:=by decide +kernel):Al N P sc:=⟨a,b,c,d,e,f,g⟩
theorem L8{kindOf:j5->Option NameKind}{x:j5}:∀{binds:List<|j5×jJ}{m:MGz},(∀v,(x,v)∉binds)->bindL kindOf binds m x=m x
 |[],_,_=>rfl
 | (n,v)::r,m,h=>by
  unfold bindL;rw[L8 λw hw=>h w<|aF _ hw];split
  .have:x≠n:=by rintro rfl;exact h v aE
   simp[this]
  .rfl
theorem LA{kindOf:j5->Option NameKind}{x:j5}:∀{binds:List<|j5×jJ}{m:MGz},(∀v,(x,v)∉binds)->bindC kindOf binds m x=m x
 |[],_,_=>rfl
 | (n,v)::r,m,h=>by
  unfold bindC;rw[LA λw hw=>h w<|aF _ hw];split
  .rfl
  .have:x≠n:=by rintro rfl;exact h v aE
   simp[this]
theorem L9{kindOf:j5->Option NameKind}{x:j5}{v:jJ}:∀{P:LSz}{vs:LWz}{i:Nat}{m:MGz},P.Nodup->P[i]?=O x->vs[i]?=O v->kindOf x=O .local ->
  bindL kindOf (P.zip vs) m x=O v
 |[],_,_,_,_,h,_,_=>by simp at h
 |_::_,[],_,_,_,_,h,_=>by simp at h
 |p::P,w::vs,0,m,nd,h1,h2,hk=>by
  simp at h1 h2;subst h1;subst h2;show bindL kindOf ((p,w)::P.zip vs) m p=_;unfold bindL;rw[L8 λv hv=>(cu.mp nd).1 (cR hv).1,jP hk];simp
 |p::P,w::vs,i+1,m,nd,h1,h2,hk=>by
  show bindL kindOf ((p,w)::P.zip vs) m x=_;unfold bindL;exact L9 (i:=i) (cu.mp nd).2 (by simpa using h1) (by simpa using h2) hk
theorem LB{kindOf:j5->Option NameKind}{x:j5}{v:jJ}:∀{P:LSz}{vs:LWz}{i:Nat}{m:MGz},P.Nodup->P[i]?=O x->vs[i]?=O v->kindOf x≠O .local ->
  bindC kindOf (P.zip vs) m x=O v
 |[],_,_,_,_,h,_,_=>by simp at h
 |_::_,[],_,_,_,_,h,_=>by simp at h
 |p::P,w::vs,0,m,nd,h1,h2,hk=>by
  simp at h1 h2;subst h1;subst h2;show bindC kindOf ((p,w)::P.zip vs) m p=_;unfold bindC;rw[LA λv hv=>(cu.mp nd).1 (cR hv).1,jK hk];simp
 |p::P,w::vs,i+1,m,nd,h1,h2,hk=>by
  show bindC kindOf ((p,w)::P.zip vs) m x=_;unfold bindC;exact LB (i:=i) (cu.mp nd).2 (by simpa using h1) (by simpa using h2) hk
noncomputable def start(N:LSz)(vs:LUz):St:=vs.map O++List.replicate (N.length-vs.length) Y
noncomputable def Bx(CX:CXT)(P:jN)(w:jW)(K:jX)(mg:MGz)(jD:j6)(N:LSz)(jC:j5)(scope:kF)(f:jF)(cd:jJ)(A:jZ)(jz:List lO)(s:jH)(H:Hp)(E:XK):Cx where
 prog:=P
 w:=w
 K:=K
 mg:=mg
 jD:=jD
 A:=A.deeper<|envOfC jC scope s.heap.objs.size f cd
 N:=N
 s₀:=s
 H₀:=H
 env:=envOfC jC scope s.heap.objs.size f cd
 jz:=jz
 stack:=envOfC jC scope s.heap.objs.size f cd::jz
 ex:=[]
 calm:=nZ
 fn:=λ_=>nZ
 pn:=[]
 xe:=λe s'=>jT (jS P w) (A.deeper<|envOfC jC scope s.heap.objs.size f cd) (leaving (envOfC jC scope s.heap.objs.size f cd) e) (λ_ s''=>CX jz H s E e s'') (λe' s''=>CX jz H s E e' s'') s'
theorem Ou{sc:kF}{n:Nat}{x:j5}(h:sc.names.lookup x=O .cell):∃c,(cellsFrom n sc.names []).lookup x=O c:=by
 have q:=cellsFrom_some sc.names n []<|.inl h;exact dv.mp q
theorem Sc{CX:CXT}{P:jN}{w:jW}{K:jX}{mg:MGz}{jD:j6}{N ps:LSz}{jC:j5}{scope:kF}{f:jF}{cd:jJ}{A:jZ}{jz:List lO}{s s1:jH}{H:Hp}{E:XK}{us:LWz}{vs:LUz}
  (S:Al N ps scope) (hd:A.handled=Y) (e0:Env0 P w K mg jD A jz s H) (hl:vs.length=ps.length) (r:Vals vs us)
  (x:InCallC s s.heap.objs.size (bindL (envOfC jC scope s.heap.objs.size f cd).kindOf (ps.zip us) λ_=>Y) (cellsFrom (s.heap.objs.size+1) scope.names []) (bindC (envOfC jC scope s.heap.objs.size f cd).kindOf (ps.zip us) λ_=>Y) s1):
  Inv (Bx CX P w K mg jD N jC scope f cd A jz s H E) [] (start N vs) H s1:=by
 have hpl:ps.length<=N.length:=by have:=congrArg List.length S.pre;rw[bZ]at this;lia
 obtain⟨h1,tk,rfl,hk⟩:=x.done;have noA:∀b:jF,b∉(Bx CX P w K mg jD N jC scope f cd A jz s H E).ex:=λb z=>absurd (show b∈([]:List jF)from z) (by simp);refine⟨⟨e0.mod,S.kind,Z,Z,ah _,λy z c h1 h2=>?_,λy hy=>?_,λy c _ h=>?_,λ_=>hd,Around.frames_deeper e0.frames,.inr ⟨Z,Z⟩,λb z=>absurd z<|noA b,e0.bs,e0.bsz,λb _ _=>noA b,λb z=>absurd z<|noA b,e0.funs,e0.frf⟩,
  rfl,e0.bare,Un.kept hk,⟨_,x.toInCall.ns,λi y v h1 h2 h3=>?_⟩,λy c h=>⟨_,x.cell y c h⟩,e0.hok.fresh<|ah _,λy c h=>?_,λp hp=>absurd (show p∈([]:PNz)from hp) (by simp),e0.hok.kept hk,?_⟩
 .exact name_of_addr x.apart (PySem.mem_of_lookup h1) (PySem.mem_of_lookup h2)
 .have hy:scope.names.lookup y=O .cell\/scope.names.lookup y=O .free:=hy;rcases hy with hy|hy
  .exact Ou hy
  .exact absurd Z (S.nofree _<|PySem.mem_of_lookup hy)
 .exact aK (x.above y c<|PySem.mem_of_lookup h)
 .have hi:i<vs.length:=by
   unfold start at h2;by_cases hi:i<vs.length
   .exact hi
   .rw[cA<|by simpa using hi]at h2;rw[List.getElem?_replicate]at h2;split at h2<;>cases h2
  have ha:vs[i]?=O v:=by
   unfold start at h2;rw[List.getElem?_append_left (by simpa using hi),ax]at h2;cases e:vs[i]? with
   |none=>rw[e]at h2;cases h2
   |some a=>rw[e]at h2;cases h2;rfl
  obtain⟨u,hu,rv⟩:=r.get ha;have hp:ps[i]?=O y:=by
   rw[<-S.pre,List.getElem?_take_of_lt<|by lia];exact h1
  have ndP:ps.Nodup:=by rw[<-S.pre];exact S.nd.sublist<|List.take_sublist _ _
  refine⟨u,rv,?_⟩;rcases S.par y (ak hp)with k|k
  .exact .inl ⟨k,L9 ndP hp hu k⟩
  .obtain⟨c,e⟩:=Ou (n:=s.heap.objs.size+1) k;refine .inr ⟨.inl k,c,e,?_⟩;have q:=x.cell y c e;rw[LB ndP hp hu (by show scope.names.lookup y≠_;rw[k];decide)]at q;exact q
 .exact e0.hok.fresh (aK<|x.above y c<|PySem.mem_of_lookup h)
 .unfold start;show _=N.length;rw[aq,aa,List.length_replicate];lia
theorem QK{CX:CXT}{P:jN}{w:jW}{K:jX}{mg:MGz}{jD:j6}{k:Nat}{f:jF}{name jC:j5}{params:Arguments}{body:List j0}{scope:kF}{dV kV doc pm cdv ct oc:jJ}{an od:Option jF}
  {osl:AOz} {N ps:LSz} {sp:Sp} (lk:K.lookup f=O ⟨oc,od,.func<|fnOf name jC params body scope dV kV doc pm an cdv ct,osl⟩) (hcd:codeIn K cdv jC=nZ) (S:Al N ps scope)
  (len:∀vs H Q E,sp vs H Q E->vs.length=ps.length)
  (hbody:∀(A:jZ)(jz:List lO)(s:jH)(H:Hp)(vs:LUz)(Q:VK)(E:XK),Room k (A.deeper<|envOfC jC scope s.heap.objs.size f cdv)->sp vs H Q E ->
   ∃t,PSs (Bx CX P w K mg jD N jC scope f cdv A jz s H E) body t/\t { nx:=λ_ H'=>Q .non H',rt:=Q} (start N vs) H):
  A8 P w K mg jD CX (k+1) f (fnOf name jC params body scope dV kV doc pm an cdv ct) ps sp:=by
 refine⟨len,λA jz s H args us vs Q E hr e0 hb r hsp=>?_⟩;have hl:=len _ _ _ _ hsp;have KX:K.In s.heap:=e0.mod.kin.keeps λb o e=>(e0.bs b o e).1;have lim:s.heap.NoLimit:=e0.mod.nolimit.keeps λb o e=>(e0.bs b o e).1;have hkind:∀y∈ps.zip us,scope.names.lookup y.1=O .local\/(scope.names.lookup y.1=O .cell/\((cellsFrom (s.heap.objs.size+1) scope.names []).lookup y.1).isSome=nZ):=λ⟨n,v⟩ hy=>by
  rcases S.par n (cR hy).1 with q|q
  .exact .inl q
  .exact .inr ⟨q,cellsFrom_some _ _ _<|.inl q⟩
 refine codeAny_call_function hr.depth (KX _ _ lk) Z S.co S.gen Z (codeRec_of KX hcd)<|hb _ _ _ _ ?_;refine wpAny_newFunctionEnv_cells S.kind hkind λenv he s1 x=>?_;subst he;refine⟨lim.keeps x.toInCall.keep,codeAny_func ?_⟩;obtain⟨t,ht,hq⟩:=hbody A jz s H vs Q E (hr.deeper _) hsp;have I:Inv (Bx CX P w K mg jD N jC scope f cdv A jz s H E) [] (start N vs) H s1:=Sc S hr.hd e0 hl r x;refine ke (ht [] s1 (start N vs) H _ I hq) (λfl s' hs=>?_) λe s' hs=>hs;have fin:∀{σ':St}{H':Hp}{v:V}{u:jJ},Inv (Bx CX P w K mg jD N jC scope f cdv A jz s H E) [] σ' H' s'->RelV v u->Q v H'->CE jz P w H s Q u s':=
  λ{σ' H' v u} J rv q=>⟨v,H',J.os,J.bare,J.jD,J.hok,rv,q⟩
 cases fl with
 |ret u=>
  obtain⟨v,σ',H',J,rv,q⟩:=hs;exact fin J rv q
 |next=>
  obtain⟨σ',H',J,q⟩:=hs;exact fin (v:=V.non) (u:=Value.none) J Z q
 |brk=>
  obtain⟨_,_,_,q⟩:=hs;exact False.elim q
 |cont=>
  obtain⟨_,_,_,q⟩:=hs;exact False.elim q
section
variable{X:Cx}{x:j5}{p pos:Pos}{e:j9}{es:List j9}{t:TA}{id T:String}{r:LUz->Hp->VK->Prop}
def tCB(r:LUz->Hp->VK->Prop)(t:TA):TE:=λB H Q=>t B H λvs H1=>r vs H1 Q
theorem Th(hc:Cq X (.builtin id) r)(hg:Gl X x)(hm:X.mg x=Y)(hv:bootBuiltins x=O (.builtin id))(ha:PA X (e::es) t)(hn:x≠"__name__":=by decide)(hdb:(x==("__debug__":j5))=oe:=by decide)
  (he:jV (e::es) X.env=(oe,eval e X.env)::jV es X.env:=by rfl) (hpl:(kr pos<|jV es X.env).any (·.1)=oe:=by rfl):PE X (.Call (.Name x p) (e::es) [] pos) (tCB r t):=by
 intro jy s B H Q I h;refine ki<|Eh I hg hm hv ?_ hn hdb;exact PyProof.Rows.callWith_builtin1 (thn (ha pos jy s B H _ I h) λus s1 ⟨vs,H1,I1,r1,q1⟩=>hc jy s1 B H1 vs us Q I1 r1 q1) he hpl
theorem Bg(hc:Cq X (.builtin id) r)(hm:X.mg x=Y)(ha:PA X (e::es) t)(hg:Gl X x:=by rfl)(hv:bootBuiltins x=O (.builtin id):=by rfl)(hn:x≠"__name__":=by decide)(hdb:(x==("__debug__":j5))=oe:=by decide)
  (he:jV (e::es) X.env=(oe,eval e X.env)::jV es X.env:=by rfl) (hpl:(kr pos<|jV es X.env).any (·.1)=oe:=by rfl):PE X (.Call (.Name x p) (e::es) [] pos) (tCB r t):=Th hc hg hm hv ha hn hdb he hpl
theorem Fp(hc:Cq X (.type T) r)(hg:Gl X x)(hm:X.mg x=Y)(hv:bootBuiltins x=O (.type T))(ha:PA X (e::es) t)(hn:x≠"__name__":=by decide)(hdb:(x==("__debug__":j5))=oe:=by decide)
  (he:jV (e::es) X.env=(oe,eval e X.env)::jV es X.env:=by rfl) (hpl:(kr pos<|jV es X.env).any (·.1)=oe:=by rfl):PE X (.Call (.Name x p) (e::es) [] pos) (tCB r t):=by
 intro jy s B H Q I h;refine ki<|Eh I hg hm hv ?_ hn hdb;exact PyProof.Rows.callWith_type1 (thn (ha pos jy s B H _ I h) λus s1 ⟨vs,H1,I1,r1,q1⟩=>hc jy s1 B H1 vs us Q I1 r1 q1) he hpl
end
end L2
namespace HT
open PySem.W
open PySem PyProof.Rows
noncomputable def lexLt:List Int->List Int->Bool
 |[],[]=>oe
 |[],_::_=>nZ
 |_::_,[]=>oe
 |x::xs,y::ys=>if x=y then lexLt xs ys else og<|x<y
theorem lexLt_cons(x y:Int)(xs ys:List Int):lexLt (x::xs) (y::ys)=if x=y then lexLt xs ys else og (x<y):=rfl
theorem lexLt_nil_nil:lexLt [] []=oe:=rfl
section
variable{prog:jN}{w:jW}{A:jZ}{E:VPz}{s:jH}
noncomputable def sIx(n d:Nat):Option Int->Nat
 |none=>d
 |some v=>if v<0 then(v+(n:Int)).toNat else min v.toNat n
end
end HT
namespace L2
open PySem.W
open PySem PySem.Spec PyProof.Rows
abbrev TO:=St->Hp->(Option Int->Hp->Prop)->Prop
def PO(X:Cx)(e:Option j9)(t:TO):Prop:=
 ∀(jy:PNz)(s:jH)(B:St)(H:Hp)(Q:Option Int->Hp->Prop),Inv X jy B H s->t B H Q ->
  jT (jS X.prog X.w) X.A (evalPart e X.env) (λu s'=>∃o H',Inv X jy B H' s'/\IsPart u o/\Q o H') X.xe s
def UF:TO:=λ_ H Q=>Q Y H
def Xv(t:TE):TO:=λB H Q=>t B H λx H1=>∃i,x=.int i/\Q (O i) H1
theorem FQ{ns:List Int}:∀{us:LWz},Vals (ns.map V.int) us->IntsAre us ns:=by
 induction ns with
 |nil=>intro us r;rw[bN]at r;cases r;exact .nil
 |cons n ns ih=>
  intro us r;rw[aR]at r;cases r with
  |cons r1 r2=>
   obtain⟨t,e⟩:=r1;subst e;exact .cons n t<|ih r2
section
variable{X:Cx}{e:j9}{te:TE}{lo hi:Option j9}{tl th:TO}{pos p2:Pos}
theorem Mu:PO X Y UF:=by
 intro jy s B H Q I h;rw[evalPart_none];exact jL ⟨Y,H,I,.none,h⟩
theorem Mt(h:PE X e te):PO X (O e) (Xv te):=by
 intro jy s B H Q I hw;rw[evalPart_some];refine thn (h jy s B H _ I hw) λu s1 hz_=>?_;obtain⟨x,H1,I1,r1,q1⟩:=hz_;obtain⟨i,rfl,q⟩:=q1;obtain⟨t,rfl⟩:=r1;exact⟨O i,H1,I1,.int i t,q⟩
def SlR(X:Cx)(r:V->Option Int->Option Int->Hp->VK->Prop):Prop:=
 ∀(jy:PNz)(s:jH)(B:St)(H:Hp)(x:V)(v vl vu:jJ)(lo hi:Option Int)(sl:jF)(Q:VK),Inv X jy B H s->RelV x v->s.heap.IsSliceOf sl vl vu .none->IsPart vl lo->IsPart vu hi->r x lo hi H Q ->
  ∃T id,typeLookup (.type T) "__getitem__"=pure (O<|.builtin id)/\s.TypeIs v T/\jT (jS X.prog X.w) X.A (getItem v<|.ref sl) (EP X jy B Q) X.xe s
def tSl(r:V->Option Int->Option Int->Hp->VK->Prop)(te:TE)(tl th:TO):TE:=λB H Q=>te B H λx H1=>tl B H1 λl H2=>th B H2 λu H3=>r x l u H3 Q
theorem Ji{r:V->Option Int->Option Int->Hp->VK->Prop}(hr:SlR X r)(he:PE X e te)(hl:PO X lo tl)(hu:PO X hi th):PE X (.Subscript e (.Slice lo hi Y p2) pos) (tSl r te tl th):=by
 intro jy s B H Q I h;refine Subscript_<|thn (he jy s B H _ I h) λv s1 hz_=>?_;obtain⟨x,H1,I1,r1,q1⟩:=hz_;refine wpAny_Slice<|thn (hl jy s1 B H1 _ I1 q1) λvl s2 hz_=>?_;obtain⟨l,H2,I2,pl,q2⟩:=hz_;refine thn (hu jy s2 B H2 _ I2 q2) λvu s3 hz_=>?_;obtain⟨u,H3,I3,pu,q3⟩:=hz_;rw[evalPart_none];refine jL ?_;have I4:Inv X jy B H3 { s3 with heap:=s3.heap.push { cls:=.type "slice",data:=.fields #[vl,vu,.none]}}:=I3.kept (t':=s3.toks) λb ob q=>ag _ q;obtain⟨T,id,hT,ht,hg⟩:=hr jy { s3 with heap:=s3.heap.push { cls:=.type "slice",data:=.fields #[vl,vu,.none]}} B H3 x v vl vu l u s3.heap.objs.size Q I4 r1 (Heap.IsSliceOf.new ..) pl pu q3;show jT (jS X.prog X.w) X.A (subscriptTail e (.Slice lo hi Y p2) v<|.ref s3.heap.objs.size) (EP X jy B Q) X.xe { s3 with heap:=s3.heap.push { cls:=.type "slice",data:=.fields #[vl,vu,.none]}};exact tail_any (ops:=[.ref s3.heap.objs.size,v]) ht hT hg (by with_unfolding_all rfl)
noncomputable def MW(xs:LUz)(lo hi:Option Int):LUz:=(xs.drop<|HT.sIx xs.length 0 lo).take<|HT.sIx xs.length xs.length hi-HT.sIx xs.length 0 lo
theorem Op(xs:LUz)(lo hi:Option Int):(MW xs lo hi).length<=xs.length:=by
 unfold MW;rw[bZ,eW];lia
end
noncomputable def ixN(n:Nat)(i:Int):Option Nat:=if 0<=i then(if i<n then O i.toNat else Y)else if -(n:Int)<=i then O (i+n).toNat else Y
noncomputable def atI{α:Type}(xs:List α)(i:Int):Option α:=(ixN xs.length i).bind λj=>xs[j]?
theorem QD{n:Nat}{i:Int}{j:Nat}(h:ixN n i=O j):seqIndex? i n=O j/\j<n/\-(n:Int)<=i/\i<n:=by
 unfold ixN at h;by_cases h0:0<=i
 .rw[jP h0]at h;by_cases h1:i<n
  .rw[jP h1]at h;have e:i.toNat=j:=Option.some.inj h;exact⟨by rw[seqIndex_of h0 h1,e],by lia,by lia,h1⟩
  .rw[jK h1]at h;cases h
 .rw[jK h0]at h;by_cases h1:-(n:Int)<=i
  .rw[jP h1]at h;have e:(i+n).toNat=j:=Option.some.inj h;exact⟨by rw[seqIndex_neg (by lia) h1,e],by lia,h1,by lia⟩
  .rw[jK h1]at h;cases h
theorem QV{α:Type}{xs:List α}{i:Int}{v:α}(h:atI xs i=O v):∃j,seqIndex? i xs.length=O j/\xs[j]?=O v/\j<xs.length/\-(xs.length:Int)<=i/\i<xs.length:=by
 unfold atI at h;cases e:ixN xs.length i with
 |none=>rw[e]at h;cases h
 |some j=>
  rw[e]at h;obtain⟨h1,h2,h3,h4⟩:=QD e;exact⟨j,h1,h,h2,h3,h4⟩
theorem Ng{α:Type}{xs:List α}{j:Nat}{v:α}(h:xs[j]?=O v):atI xs (j:Int)=O v:=by
 have hj:j<xs.length:=(aD.mp h).1;have e:ixN xs.length (j:Int)=O j:=by
  unfold ixN;rw[jP (by lia),jP<|by lia];simp
 unfold atI;rw[e];exact h
theorem Kc{α:Type}(xs:List α)(v:α):atI (xs++[v]) (-1)=O v:=by
 have hl:(xs++[v]).length=xs.length+1:=by simp
 have e:ixN (xs++[v]).length (-1)=O xs.length:=by
  unfold ixN;rw[hl,jK (by decide),jP<|by lia];congr 1;lia
 unfold atI;rw[e];show(xs++[v])[xs.length]?=O v;simp
def VD(b:j9):Prop:=∀o i,subscripted b oe o i=operate [o,i] (getItem o i)
def IxR(X:Cx)(r:R2):Prop:=
 ∀(value slice:j9)(jy:PNz)(s:jH)(B:St)(H:Hp)(x y:V)(v u:jJ)(Q:VK),Inv X jy B H s->RelV x v->RelV y u->r x y H Q ->
  subscripted slice oe v u=operate [v,u] (getItem v u)->jT (jS X.prog X.w) X.A (subscriptTail value slice v u) (EP X jy B Q) X.xe s
def MtR(X:Cx)(id:String)(r:V->LUz->Hp->VK->Prop):Prop:=
 ∀(jy:PNz)(s:jH)(B:St)(H:Hp)(x:V)(xs:LUz)(v:jJ)(us:LWz)(Q:VK),Inv X jy B H s->RelV x v->Vals xs us->r x xs H Q ->
  jT (jS X.prog X.w) X.A (call (.builtin id) (v::us)) (EP X jy B Q) X.xe s
section
variable{X:Cx}{a b:j9}{ta tb:TE}{pos:Pos}
theorem Av{r:R2}(hr:IxR X r)(ha:PE X a ta)(hb:PE X b tb)(hs:VD b:=by exact λ_ _=>rfl):PE X (.Subscript a b pos) (tOp r ta tb):=by
 intro jy s B H Q I h;exact Subscript_<|Xe ha hb I h λv u s2 x y H2 I2 rx ry q=>hr a b jy s2 B H2 x y v u Q I2 rx ry q<|hs _ _
inductive Y9(K:jX)(x y:V)(H:Hp)(Q:VK):Prop
 |mk (p:jF) (xs:LUz) (i:Int) (v:V) (e1:x=.ref p) (e2:y=.int i) (s:SqL K H p xs) (a:atI xs i=O v) (q:Q v H):Y9 K x y H Q
inductive Y8(K:jX)(x y:V)(H:Hp)(Q:VK):Prop
 |mk (p:jF) (xs:LUz) (i:Int) (v:V) (e1:x=.ref p) (e2:y=.int i) (s:SqT K H p xs) (a:atI xs i=O v) (q:Q v H):Y8 K x y H Q
def XO(K:jX):R2:=λx y H Q=>Y9 K x y H Q
def XN(K:jX):R2:=λx y H Q=>Y8 K x y H Q
theorem Bm:IxR X (XO X.K):=by
 intro value slice jy s B H x y v u Q I rx ry h hs;obtain⟨p,xs,i,z,rfl,rfl,hq,he,q⟩:=h;cases rx;obtain⟨t,rfl⟩:=ry;obtain⟨its,r,pl,hz⟩:=I.list hq;obtain⟨j,h1,h2,h3,h4,h5⟩:=QV he;obtain⟨w,ew,rw'⟩:=r.get h2;have hl:=r.length;have hn:=GW;have fin:EP X jy B Q w s:=⟨z,H,I,rw',q⟩;by_cases h0:0<=i
 .have hj:i.toNat=j:=by
   rw[seqIndex_of h0 h5]at h1;exact Option.some.inj h1
  exact item_listR pl.isList h0 (by lia) (by rw[hj];simpa using ew) fin hs
 .have hj:(i+(its.toArray.size:Int)).toNat=j:=by
   rw[seqIndex_neg (by lia) h4]at h1;rw[aj,<-hl];exact Option.some.inj h1
  exact subscriptTail_builtinR (x:=w) pl.isList.typeIs slot_list_getitem.lookup
   (wpAny_getItem_list_neg (Q:=λr s'=>r=w/\EP X jy B Q r s') pl.isList (by lia) (by rw[aj]<;>lia) (by lia) (by rw[hj];simpa using ew) ⟨Z,fin⟩) hs
theorem As:IxR X (XN X.K):=by
 intro value slice jy s B H x y v u Q I rx ry h hs;obtain⟨p,xs,i,z,rfl,rfl,hq,he,q⟩:=h;cases rx;obtain⟨t,rfl⟩:=ry;obtain⟨its,r,pl,hz⟩:=I.tuple hq;obtain⟨j,h1,h2,h3,h4,h5⟩:=QV he;obtain⟨w,ew,rw'⟩:=r.get h2;have hl:=r.length;have hn:=GW;have fin:EP X jy B Q w s:=⟨z,H,I,rw',q⟩;exact subscriptTail_builtinR (x:=w) pl.typeIs slot_tuple_getitem.lookup
  (getItem_tuple (j:=j) (Q:=λr s'=>r=w/\EP X jy B Q r s') pl (by lia) (by lia) (by rw[aj,<-hl];exact h1) (by simpa using ew) ⟨Z,fin⟩) hs
theorem Pp(its:LWz)(n j:Nat)(u:jJ):Obj.mapSeq (·.setIfInBounds j u) { cls:=.type "list",data:=.seq its.toArray n}={cls:=.type "list",data:=.seq (its.set j u).toArray n}:=by
 simp[Obj.mapSeq]
theorem Inv.lst{jy:PNz}{B:St}{H:Hp}{s:jH}{p:jF}{xs:LUz}(I:Inv X jy B H s)(h:H p=O (.lst xs)):
  ∃(its:LWz)(n:Nat),Vals xs its/\s.heap.get? p=O { cls:=.type "list",data:=.seq its.toArray n}/\xs.length<=jU:=by
 obtain⟨z,its,n,r,e⟩:=I.hok p _ h;exact⟨its,n,r,e,z⟩
theorem Inv.lstUpd{jy:PNz}{B:St}{H:Hp}{s:jH}{p:jF}{xs ys:LUz}{its its':LWz}{n n':Nat}{f:Obj->Obj}(I:Inv X jy B H s)(h:H p=O (.lst xs))
  (ho:s.heap.get? p=O { cls:=.type "list",data:=.seq its.toArray n}) (hf:f { cls:=.type "list",data:=.seq its.toArray n}={cls:=.type "list",data:=.seq its'.toArray n'}) (r:Vals ys its') (hz:ys.length<=jU) (t:Nat):
  Inv X jy B (upd H p<|.lst ys) { s with heap:=s.heap.update p f,toks:=t}:=by
 have e:(s.heap.update p f).get? p=O { cls:=.type "list",data:=.seq its'.toArray n'}:=by
  rw[b9 f ho (by rw[hf]<;>rfl),hf]
 refine I.write (x:=p) (e:=p) (by rw[h];trivial) (.inl Z) (λb u hb q=>(bY _ _<|Ne.symm hb).trans q) ⟨_,e⟩ ?_;exact⟨hz,its',n',r,e⟩
def XM:V->V->V->Hp->(Hp->Prop)->Prop:=λo i v H Q=>∃p xs k j,o=.ref p/\i=.int k/\H p=O (.lst xs)/\ixN xs.length k=O j/\Q (upd H p<|.lst<|xs.set j v)
theorem Nz:Xk X XM:=by
 intro jy s B H o i v ov iv u Q I ro ri rv h;obtain⟨p,xs,k,j,rfl,rfl,hp,hj,q⟩:=h;cases ro;obtain⟨t,rfl⟩:=ri;obtain⟨its,n,r,ho,hz⟩:=I.lst hp;obtain⟨h1,h2,h3,h4⟩:=QD hj;have hl:=r.length;have hn:=GW;have I':Inv X jy B (upd H p<|.lst<|xs.set j v) { s with heap:=s.heap.update p (Obj.mapSeq (·.setIfInBounds j u))}:=
  I.lstUpd hp ho (Pp its n j u) (r.set rv j) (by rw[List.length_set];exact hz) s.toks
 by_cases h0:0<=k
 .have hk:k.toNat=j:=by
   rw[seqIndex_of h0 h4]at h1;exact Option.some.inj h1
  exact ki_setAt ho h0 (by lia) (by rw[aj,<-hl];exact h4) (by rw[hk];exact⟨_,I',q⟩)
 .have hk:(k+(its.toArray.size:Int)).toNat=j:=by
   rw[seqIndex_neg (by lia) h3]at h1;rw[aj,<-hl];exact Option.some.inj h1
  exact ki_setBack ho (by lia) (by rw[aj,<-hl];exact h3) (by lia) (by rw[hk];exact⟨_,I',q⟩)
theorem Mj(lo hi:Option Int)(n:Nat):(sliceBounds lo hi Y n).1=((HT.sIx n 0 lo:Nat):Int)/\(sliceBounds lo hi Y n).2.1=((HT.sIx n n hi:Nat):Int)/\(sliceBounds lo hi Y n).2.2=1:=by
 refine⟨?_,?_,Z⟩
 .cases lo with
  |none=>simp[sliceBounds,HT.sIx]
  |some i=>
   simp only[sliceBounds,HT.sIx,Option.getD_none,show(1:Int)>0 by decide,if_true];by_cases h:i<0
   .simp only[h,if_true]<;>lia
   .simp only[h,if_false]<;>lia
 .cases hi with
  |none=>simp[sliceBounds,HT.sIx]
  |some i=>
   simp only[sliceBounds,HT.sIx,Option.getD_none,show(1:Int)>0 by decide,if_true];by_cases h:i<0
   .simp only[h,if_true]<;>lia
   .simp only[h,if_false]<;>lia
theorem Ks(its:LWz)(lo hi:Option Int):slicePick its.toArray lo hi Y=((its.drop<|HT.sIx its.length 0 lo).take<|HT.sIx its.length its.length hi-HT.sIx its.length 0 lo).toArray:=by
 obtain⟨h1,h2,h3⟩:=Mj lo hi its.toArray.size;unfold slicePick;rw[h1,h2,h3];simp only[sliceRange_one,pick_run,aj]<;>rfl
def XJ(K:jX):V->Option Int->Option Int->Hp->VK->Prop:=λx lo hi H Q=>∃a xs,x=.ref a/\SqL K H a xs/\∀p,H p=Y->Q (.ref p) (upd H p<|.lst<|MW xs lo hi)
theorem Ml:SlR X (XJ X.K):=by
 intro jy s B H x v vl vu lo hi sl Q I rx hs pl pu h;obtain⟨a,xs,rfl,hx,q⟩:=h;cases rx;obtain⟨its,r,ht,hz⟩:=I.list hx;have hlen:=r.length;refine⟨"list",_,slot_list_getitem.lookup,ht.isList.typeIs,?_⟩;refine wpAny_getItem_list_slice ht.isList hs pl pu .none (by simp) ?_ (by rw[aj]<;>lia);rw[Ks,<-hlen];refine⟨.ref s.heap.objs.size,_,I.laid (t':=s.toks) (o:=.lst<|MW xs lo hi) (λb ob q=>ag _ q) (ah _) ?_,Z,q _<|I.hok.fresh<|ah _⟩;exact⟨aV (Op xs lo hi) hz,_,0,(r.drop<|HT.sIx xs.length 0 lo).take<|HT.sIx xs.length xs.length hi-HT.sIx xs.length 0 lo,aH _ Z⟩
noncomputable def Dl:V->Bool
 |.non=>nZ
 |.bl _=>nZ
 |.int _=>nZ
 |.str _=>nZ
 |_=>oe
noncomputable def eqV:V->V->Bool
 |.non,.non=>nZ
 |.bl a,.bl b=>a==b
 |.bl a,.int b=>(if a then 1 else 0)==b
 |.int a,.bl b=>a==(if b then 1 else 0)
 |.int a,.int b=>a==b
 |.str a,.str b=>a==b
 |_,_=>oe
theorem P5{A:jZ}{s:jH}{y x:V}{u v:jJ}(ry:RelV y u)(rx:RelV x v)(fy:Dl y=nZ)(fx:Dl x=nZ):SeqAt.EqAt A s u v (eqV y x):=by
 cases y with
 |non=>
  cases ry;cases x with
  |non=>cases rx;exact SeqAt.EqAt.same _
  |bl b=>cases rx;exact SeqAt.EqAt.none_bool b
  |int b=>obtain⟨t,rfl⟩:=rx;exact SeqAt.EqAt.none_int b t
  |str b=>obtain⟨t,rfl⟩:=rx;exact SeqAt.EqAt.none_str b t
  |_=>exact absurd (show oe=nZ from fx) au
 |bl a=>
  cases ry;cases x with
  |non=>cases rx;exact SeqAt.EqAt.bool_none a
  |bl b=>cases rx;exact SeqAt.EqAt.bool_bool a b
  |int b=>obtain⟨t,rfl⟩:=rx;exact SeqAt.EqAt.bool_int a b t
  |str b=>obtain⟨t,rfl⟩:=rx;exact SeqAt.EqAt.bool_str a b t
  |_=>exact absurd (show oe=nZ from fx) au
 |int a=>
  obtain⟨t',rfl⟩:=ry;cases x with
  |non=>cases rx;exact SeqAt.EqAt.int_none a t'
  |bl b=>cases rx;exact SeqAt.EqAt.int_bool a t' b
  |int b=>obtain⟨t,rfl⟩:=rx;exact SeqAt.EqAt.int_int a t' b t
  |str b=>obtain⟨t,rfl⟩:=rx;exact SeqAt.EqAt.int_str a t' b t
  |_=>exact absurd (show oe=nZ from fx) au
 |str a=>
  obtain⟨t',rfl⟩:=ry;cases x with
  |non=>cases rx;exact SeqAt.EqAt.str_none a t'
  |bl b=>cases rx;exact SeqAt.EqAt.str_bool a t' b
  |int b=>obtain⟨t,rfl⟩:=rx;exact SeqAt.EqAt.str_int a t' b t
  |str b=>obtain⟨t,rfl⟩:=rx;exact SeqAt.EqAt.str_str a t' b t
  |_=>exact absurd (show oe=nZ from fx) au
 |_=>exact absurd (show oe=nZ from fy) au
noncomputable def eqU(x:V)(u:jJ):Bool:=match u with
 |.none=>eqV .non x
 |.bool b=>eqV (.bl b) x
 |.int i _=>eqV (.int i) x
 |.str z _=>eqV (.str z) x
 |_=>oe
theorem Uf{x y:V}{u:jJ}(r:RelV y u)(f:Dl y=nZ):eqU x u=eqV y x:=by
 cases y with
 |non=>cases r;rfl
 |bl b=>cases r;rfl
 |int i=>obtain⟨t,rfl⟩:=r;rfl
 |str z=>obtain⟨t,rfl⟩:=r;rfl
 |_=>exact absurd (show oe=nZ from f) au
theorem G0{x:V}:∀{xs:LUz}{us:LWz},Vals xs us->xs.all Dl=nZ->us.any (eqU x)=xs.any λy=>eqV y x
 |_,_,.nil,_=>rfl
 |y::xs,u::us,.cons r t,f=>by
  rw[dY,av]at f;rw[cP,cP,Uf r f.1,G0 t f.2]
theorem EX{A:jZ}{s:jH}{x:V}{v:jJ}(rx:RelV x v)(fx:Dl x=nZ):∀{xs:LUz}{us:LWz},Vals xs us->xs.all Dl=nZ->∀u∈us,SeqAt.EqAt A s u v (eqU x u)
 |_,_,.nil,_=>λu hu=>by cases hu
 |y::xs,u::us,.cons r t,f=>λu' hu=>by
  rw[dY,av]at f;rcases aQ.mp hu with rfl|hu
  .rw[Uf r f.1];exact P5 r rx f.1 fx
  .exact EX rx fx t f.2 u' hu
noncomputable def inV(x:V)(xs:LUz):Bool:=xs.any λy=>eqV y x
def rIn(K:jX)(neg:Bool):R2:=λx y H Q=>∃p xs,y=.ref p/\(SqL K H p xs\/SqT K H p xs)/\Dl x=nZ/\xs.all Dl=nZ/\Q (.bl<|if neg then !inV x xs else inV x xs) H
theorem Lg:OpR X (kh .In) (rIn X.K oe):=by
 intro jy s B H x y v u Q I rx ry h;obtain⟨p,xs,rfl,hq,fx,fs,q⟩:=h;cases ry;rcases hq with hq|hq
 .obtain⟨its,r,pl,hz⟩:=I.list hq;refine SeqAt.in_listAt (eqU x) pl.isList (λw hw=>EX rx fx r fs w<|by simpa using hw) ⟨.bl _,H,I,Z,?_⟩;rw[show its.toArray.any (eqU x)=its.any (eqU x) by simp,G0 r fs];exact q
 .obtain⟨its,r,pl,hz⟩:=I.tuple hq;refine SeqAt.in_tupleAt (eqU x) pl (λw hw=>EX rx fx r fs w<|by simpa using hw) ⟨.bl _,H,I,Z,?_⟩;rw[show its.toArray.any (eqU x)=its.any (eqU x) by simp,G0 r fs];exact q
theorem Mz:OpR X (kh .NotIn) (rIn X.K nZ):=by
 intro jy s B H x y v u Q I rx ry h;obtain⟨p,xs,rfl,hq,fx,fs,q⟩:=h;cases ry;rcases hq with hq|hq
 .obtain⟨its,r,pl,hz⟩:=I.list hq;refine SeqAt.notIn_listAt (eqU x) pl.isList (λw hw=>EX rx fx r fs w<|by simpa using hw) ⟨.bl _,H,I,Z,?_⟩;rw[show its.toArray.any (eqU x)=its.any (eqU x) by simp,G0 r fs];exact q
 .obtain⟨its,r,pl,hz⟩:=I.tuple hq;refine SeqAt.notIn_tupleAt (eqU x) pl (λw hw=>EX rx fx r fs w<|by simpa using hw) ⟨.bl _,H,I,Z,?_⟩;rw[show its.toArray.any (eqU x)=its.any (eqU x) by simp,G0 r fs];exact q
theorem Bf:Cq X (.builtin "len") (λxs H Q=>∃p ys,xs=[.ref p]/\(SqL X.K H p ys\/SqT X.K H p ys)/\Q (.int ys.length) H):=by
 intro jy s B H xs us Q I r h;obtain⟨p,ys,rfl,hq,q⟩:=h;obtain⟨u,rfl,rx⟩:=D9 r;cases rx;have hn:=GW;rcases hq with hq|hq
 .obtain⟨its,r',pl,hz⟩:=I.list hq;have hlen:=r'.length;exact Calls.call_len_list pl.isList (by simp only[aj]<;>lia) ⟨.int ys.length,H,I.tok _,⟨s.toks+1,by rw[aj,hlen]⟩,q⟩
 .obtain⟨its,r',pl,hz⟩:=I.tuple hq;have hlen:=r'.length;exact len_tuple pl (by simp only[aj]<;>lia) ⟨.int ys.length,H,I.tok _,⟨s.toks+1,by rw[aj,hlen]⟩,q⟩
theorem Nd:Cq X (.type "list") (λxs H Q=>∃p ys,xs=[.ref p]/\(SqL X.K H p ys\/SqT X.K H p ys)/\∀l,H l=Y->Q (.ref l) (upd H l<|.lst ys)):=by
 intro jy s B H xs us Q I r h;obtain⟨p,ys,rfl,hq,q⟩:=h;obtain⟨u,rfl,rx⟩:=D9 r;cases rx;have fin:∀(its:LWz),Vals ys its->ys.length<=jU->∀(h':j6)(c':Nat),(∀b o',s.heap.get? b=O o'->h'.get? b=O o') ->
   h'.get? s.heap.objs.size=O { cls:=.type "list",dict:=Y,data:=.seq its.toArray c',slots:=#[]}->EP X jy B Q (.ref s.heap.objs.size) { s with heap:=h'}:=λits r' hz h' c' kp e=>
  ⟨.ref s.heap.objs.size,_,I.laid (t':=s.toks) kp (ah _) (show ObjOk X.prog X.w _ h' _ (.lst ys)from⟨hz,its,c',r',e⟩),Z,q _<|I.hok.fresh<|ah _⟩
 rcases hq with hq|hq
 .obtain⟨its,r',pl,hz⟩:=I.list hq;have hlen:=r'.length;obtain⟨o,ho,hc,n,hd⟩:=pl.isList;exact call_list_seq p (.inl Z) ho hc hd (λh' c' kp e=>fin its r' hz h' c' kp e) (by simp only[aj]<;>lia)
 .obtain⟨its,r',pl,hz⟩:=I.tuple hq;have hlen:=r'.length;obtain⟨o,ho,hc,n,hd⟩:=pl;exact call_list_seq p (.inr Z) ho hc hd (λh' c' kp e=>fin its r' hz h' c' kp e) (by simp only[aj]<;>lia)
theorem K7:Cq X (.type "tuple") (λxs H Q=>∃p ys,xs=[.ref p]/\((SqL X.K H p ys/\∀l,H l=Y->Q (.ref l) (upd H l<|.tup ys))\/(SqT X.K H p ys/\Q (.ref p) H))):=by
 intro jy s B H xs us Q I r h;obtain⟨p,ys,rfl,h⟩:=h;obtain⟨u,rfl,rx⟩:=D9 r;cases rx;rcases h with⟨hq,q⟩|⟨hq,q⟩
 .obtain⟨its,r',pl,hz⟩:=I.list hq;have hlen:=r'.length;refine call_tuple_list pl.isList (λh' kp=>?_) (by simp only[aj]<;>lia);have I1:Inv X jy B H { s with heap:=h'}:=I.kept (t':=s.toks) kp;have I2:Inv X jy B (upd H h'.objs.size<|.tup ys) { s with heap:=h'.push { cls:=.type "tuple",data:=.seq its.toArray}}:=
   I1.laid (t':=s.toks) (λb o e=>ag _ e) (ah _) (show ObjOk X.prog X.w _ _ _ (.tup ys)from⟨hz,its,r',IsTup.new _ _⟩)
  exact⟨.ref h'.objs.size,_,I2,Z,q _<|I1.hok.fresh<|ah _⟩
 .obtain⟨its,r',pl,hz⟩:=I.tuple hq;exact call_tuple_same pl ⟨.ref p,H,I,Z,q⟩
def tyV(K:jX)(T:String)(x:V)(H:Hp):Prop:=match x with
 |.str _=>T="str"
 |.int _=>T="int"
 |.ref p=>(T="list"/\∃xs,SqL K H p xs)\/(T="tuple"/\∃o,K.lookup p=O o/\o.cls=.type "tuple"/\o.dict=Y) \/
   (T="dict"/\((∃kvs,H p=O (.dK kvs))\/∃kvs,H p=O (.dT kvs)))\/(T="set"/\∃S n,H p=O (.set S n))
 |_=>False
theorem S1{jy:PNz}{B:St}{H:Hp}{s:jH}{T:String}{x:V}{v:jJ}(I:Inv X jy B H s)(r:RelV x v)(ty:tyV X.K T x H):
  s.TypeIs v T/\∀a,v=.ref a->∃ob,s.heap.get? a=O ob/\ob.dict=Y:=by
 cases x with
 |str z=>
  obtain⟨t,rfl⟩:=r;cases(show T="str" from ty);exact⟨typeIs_str s z t,λ_ e=>nomatch e⟩
 |int i=>
  obtain⟨t,rfl⟩:=r;cases(show T="int" from ty);exact⟨typeIs_int s i t,λ_ e=>nomatch e⟩
 |ref p=>
  cases r;rcases ty with⟨rfl,xs,hq⟩|⟨rfl,o,hk,hc,hd⟩|⟨rfl,hk⟩|⟨rfl,S,n,hk⟩
  .obtain⟨its,_,pl,_⟩:=I.list hq;refine⟨pl.isList.typeIs,λa e=>?_⟩;cases e;obtain⟨o,n,e,c,hd,_⟩:=pl;exact⟨o,e,hd⟩
  .refine⟨⟨o,I.kIn p o hk,hc⟩,λa e=>?_⟩;cases e;exact⟨o,I.kIn _ o hk,hd⟩
  .have z:∃o,s.heap.get? p=O o/\o.ExactDict:=by
    rcases hk with⟨kvs,hk⟩|⟨kvs,hk⟩
    .obtain⟨_,_,_,_,o,_,_,e,ex,_⟩:=I.hok p _ hk;exact⟨o,e,ex⟩
    .obtain⟨_,_,_,_,o,_,_,e,ex,_⟩:=I.hok p _ hk;exact⟨o,e,ex⟩
   obtain⟨o,e,ex⟩:=z;refine⟨⟨o,e,ex.1⟩,λa e2=>?_⟩;cases e2;exact⟨o,e,ex.2.1⟩
  .obtain⟨o,_,_,_,e,ex,_⟩:=I.hok p _ hk;refine⟨⟨o,e,ex.1⟩,λa e2=>?_⟩;cases e2;exact⟨o,e,ex.2.1⟩
 |_=>exact False.elim ty
def YQ(K:jX)(T:String)(r:V->LUz->Hp->VK->Prop)(to:TE):TE:=λB H Q=>to B H λx H1=>tyV K T x H1/\r x [] H1 Q
def tBM(K:jX)(T:String)(r:V->LUz->Hp->VK->Prop)(to:TE)(t:TA):TE:=λB H Q=>to B H λx H1=>tyV K T x H1/\t B H1 λxs H2=>r x xs H2 Q
variable{o e:j9}{es:List j9}{to:TE}{t:TA}{name:j5}{apos cpos:Pos}{T id:String}{r:V->LUz->Hp->VK->Prop}
theorem EU(pa:PlainAttrs T)(slot:Slot T name id)(hty:typeOf (.builtin id)=pure (.type "method_descriptor"))(hm:MtR X id r)(ho:PE X o to)
  (hbase:attributeBase o name X.env (eval o X.env)=eval o X.env:=by rfl) (hline:(apos.endLine==cpos.line)=nZ:=by rfl):PE X (.Call (.Attribute o name apos) [] [] cpos) (YQ X.K T r to):=by
 intro jy s B H Q I h;refine wpAny_Call_method0_late hbase hline<|thn (ho jy s B H _ I h) λv s1 hz_=>?_;obtain⟨x,H1,I1,r1,ty,q1⟩:=hz_;obtain⟨h1,h2⟩:=S1 I1 r1 ty;exact⟨T,id,pa,slot,hty,h1,h2,Calls.callWith_builtin Z<|PySem.evalArgs_none<|hm jy s1 B H1 x [] v [] Q I1 r1 .nil q1⟩
theorem Ti(pa:PlainAttrs T)(slot:Slot T name id)(hty:typeOf (.builtin id)=pure (.type "method_descriptor"))(hm:MtR X id r)(ho:PE X o to)(ha:PA X (e::es) t)
  (hbase:attributeBase o name X.env (eval o X.env)=eval o X.env:=by rfl)
  (hfew:((kr cpos<|jV (e::es) X.env).all (λx=>!x.1)&&(backToKw cpos<|keywordEach [] X.env).all (λx=>x.1.isSome)
  &&og ((e::es).length+([]:List Keyword).length+(if ([]:List Keyword).isEmpty then 0 else 1)<30))=nZ:=by rfl)
  (hline:(apos.endLine==cpos.line)=nZ:=by rfl) (hs:jV (e::es) X.env=(oe,eval e X.env)::jV es X.env:=by rfl) (hplain:(kr cpos<|jV es X.env).any (·.1)=oe:=by rfl):
  PE X (.Call (.Attribute o name apos) (e::es) [] cpos) (tBM X.K T r to t):=by
 intro jy s B H Q I h;refine wpAny_Call_method_late hbase hfew hline Z<|thn (ho jy s B H _ I h) λv s1 hz_=>?_;obtain⟨x,H1,I1,r1,ty,q1⟩:=hz_;obtain⟨h1,h2⟩:=S1 I1 r1 ty;refine⟨T,id,pa,slot,hty,h1,h2,?_⟩;have hA:=ha cpos jy s1 B H1 _ I1 q1;rw[hs]at hA |-;refine Calls.callWith_builtin (by show(oe||(kr cpos<|jV es X.env).any (·.1))=oe;rw[hplain]<;>rfl)<|Calls.evalArgs_plain ?_;exact thn hA λus s2 ⟨vs,H2,I2,r2,q2⟩=>hm jy s2 B H2 x vs v us Q I2 r1 r2 q2
end
def MtM(X:Cx)(id:String)(r:V->LUz->Hp->VK->Prop):Prop:=
 ∀(jy:PNz)(s:jH)(B:St)(H:Hp)(x:V)(xs:LUz)(v:jJ)(us:LWz)(Q:VK),Inv X jy B H s->RelV x v->Vals xs us->r x xs H Q ->
  jT (jS X.prog X.w) X.A (call (.builtin id) (v::us)) (EP X jy B Q) X.xe s
theorem Vals.one:∀{x:V}{us:LWz},Vals [x] us->∃u,us=[u]/\RelV x u
 |_,_,.cons r .nil=>⟨_,Z,r⟩
theorem Vals.zero:∀{us:LWz},Vals [] us->us=[]
 |_,.nil=>rfl
theorem Vals.dropLast{xs:LUz}{us:LWz}(h:Vals xs us):Vals xs.dropLast us.dropLast:=by
 induction h with
 |nil=>exact .nil
 |cons r t ih=>
  cases t with
  |nil=>exact .nil
  |cons q t'=>exact .cons r ih
theorem Vals.reverse{xs:LUz}{us:LWz}(h:Vals xs us):Vals xs.reverse us.reverse:=by
 induction h with
 |nil=>exact .nil
 |cons r t ih=>rw[eI,eI];exact Vals.append ih<|.cons r .nil
theorem Vals.rep{xs:LUz}{us:LWz}(h:Vals xs us):∀k:Nat,Vals (List.replicate k xs).flatten (List.replicate k us).flatten
 |0=>.nil
 |k+1=>by
  rw[cH,cH,dz,dz];exact Vals.append h<|Vals.rep h k
theorem P3{α:Type}(l:List α):l.eraseIdx (l.length-1)=l.dropLast:=by
 induction l with
 |nil=>rfl
 |cons a r ih=>
  cases r with
  |nil=>rfl
  |cons b r=>
   have e:(a::b::r).length-1=((b::r).length-1)+1:=by
    have h1:(a::b::r).length=r.length+2:=rfl;have h2:(b::r).length=r.length+1:=rfl;lia
   rw[e,List.eraseIdx_cons_succ,ih]
   all_goals rfl
theorem Ly(its:LWz):∀(k:Nat)(acc:LWz),
  List.foldl (λx1 x2=>x1++x2) acc.toArray (List.replicate k its.toArray)=(acc++(List.replicate k its).flatten).toArray
 |0,acc=>by simp
 |k+1,acc=>by
  have e:acc.toArray++its.toArray=(acc++its).toArray:=by simp
  have e2:(acc++its)++(List.replicate k its).flatten=acc++(List.replicate (k+1) its).flatten:=by
   rw[cH,dz,aX]
  rw[<-e2,<-Ly its k (acc++its),<-e,cH,dI]
section
variable{X:Cx}{jy:PNz}{B:St}{H:Hp}{s:jH}{l b:jF}{xs ys zs:LUz}
theorem Inv.lset{its its':LWz}{n:Nat}{f:Array jJ->Array jJ}{t':Nat}(I:Inv X jy B H s)(hH:H l=O (.lst xs))
  (e:s.heap.get? l=O { cls:=.type "list",data:=.seq its.toArray n}) (hf:f its.toArray=its'.toArray) (hv:Vals ys its') (hz:ys.length<=jU):
  Inv X jy B (upd H l<|.lst ys) { s with heap:=s.heap.update l<|Obj.mapSeq f,toks:=t'}:=by
 have q:=PySem.IsL.update e f;rw[hf]at q;refine I.write (x:=l) (e:=l) (by rw[hH];exact trivial) (.inl Z) (λb' u hb hu=>(bY s.heap (Obj.mapSeq f)<|Ne.symm hb).trans hu) ⟨_,q⟩ ?_;exact⟨hz,its',_,hv,q⟩
theorem Inv.lnew{its:LWz}{t':Nat}(I:Inv X jy B H s)(hv:Vals ys its)(hz:ys.length<=jU):
  Inv X jy B (upd H s.heap.objs.size<|.lst ys) { s with heap:=s.heap.push { cls:=.type "list",data:=.seq its.toArray},toks:=t'}:=
 I.laid (λ_ _ q=>ag _ q) (ah _) ⟨hz,its,0,hv,aH _ Z⟩
theorem Inv.fresh(I:Inv X jy B H s):H s.heap.objs.size=Y:=I.hok.fresh<|ah _
theorem Inv.lstM(I:Inv X jy B H s)(hH:H l=O (.lst xs)):xs.length<=jU/\∃(its:LWz)(n:Nat),Vals xs its/\xs.length=its.length/\s.heap.get? l=O { cls:=.type "list",data:=.seq its.toArray n}:=by
 obtain⟨z,its,n,r,e⟩:=I.hok l _ hH;exact⟨z,its,n,r,r.length,e⟩
theorem NR{n:Nat}(h:n<=jU):Builtin.List.listTooLong n=oe:=by
 unfold Builtin.List.listTooLong;exact jR (by lia)
end
section
variable{X:Cx}
def Qt:V->LUz->Hp->VK->Prop:=λx vs H Q=>∃l xs y,x=.ref l/\vs=[y]/\H l=O (.lst xs)/\xs.length<jU/\Q .non (upd H l<|.lst<|xs++[y])
theorem Lk:MtM X "list.append" Qt:=by
 intro jy s B H x vs v us Q I rx rv h;obtain⟨l,xs,y,rfl,rfl,hH,hz,q⟩:=h;cases rx;obtain⟨u,rfl,ru⟩:=rv.one;obtain⟨z,its,n,r,hl,e⟩:=I.lstM hH;refine lN F.slot_list_append ⟨_,e,Z⟩ F.entry_list_append (F.args_list_append_2 _ _) (PySem.list_append l its.toArray n u (by rw[aj];lia)) ⟨e,?_⟩;refine⟨.non,_,I.lset (its':=its++[u]) hH e (by simp) (r.append<|.cons ru .nil) ?_,Z,q⟩;rw[aq,aY];lia
def UU:V->LUz->Hp->VK->Prop:=λx vs H Q=>∃l b xs zs,x=.ref l/\vs=[.ref b]/\H l=O (.lst xs)/\H b=O (.lst zs)/\xs.length+zs.length<=jU/\Q .non (upd H l<|.lst<|xs++zs)
theorem Lj:MtM X "list.extend" UU:=by
 intro jy s B H x vs v us Q I rx rv h;obtain⟨l,b,xs,zs,rfl,rfl,hH,hB,hz,q⟩:=h;cases rx;obtain⟨u,rfl,ru⟩:=rv.one;cases ru;obtain⟨z,its,n,r,hl,e⟩:=I.lstM hH;obtain⟨z2,its2,n2,r2,hl2,e2⟩:=I.lstM hB;have hsz:its.toArray.size+its2.toArray.size<=jU:=by rw[aj,aj];lia
 have hlong:¬(!its.toArray.isEmpty&&Builtin.List.listTooLong (its.toArray.size+its2.toArray.size))=nZ:=by
  rw[NR hsz,dj];exact au
 refine lN F.slot_list_extend ⟨_,e,Z⟩ F.entry_list_extend (F.args_list_extend_2 _ _)
  (AutoSeq1.list_extend_list_list_0 l its.toArray n b its2.toArray n2 hlong (by rw[aj];lia)<|by lia) ⟨e,e2,?_⟩
 refine⟨.non,_,I.lset (its':=its++its2) hH e (by simp) (r.append r2) ?_,Z,q⟩;rw[aq];lia
def YY:V->LUz->Hp->VK->Prop:=λx vs H Q=>∃l xs y,x=.ref l/\vs=[]/\H l=O (.lst xs)/\xs[xs.length-1]?=O y/\Q y (upd H l<|.lst xs.dropLast)
theorem J1:MtM X "list.pop" YY:=by
 intro jy s B H x vs v us Q I rx rv h;obtain⟨l,xs,y,rfl,rfl,hH,hy,q⟩:=h;cases rx;have hus:=rv.zero;subst hus;obtain⟨z,its,n,r,hl,e⟩:=I.lstM hH;obtain⟨u,hu,ru⟩:=r.get hy;have hy':its.toArray[its.toArray.size-1]?=O u:=by
  show its.toArray[its.length-1]?=O u;rw[<-dM,<-hl];exact hu
 refine lN F.slot_list_pop ⟨_,e,Z⟩ F.entry_list_pop (F.args_list_pop_1 _) (MeetsSeq.list_pop_last l its.toArray n u hy' (by rw[aj];lia)) ⟨e,?_⟩;refine⟨y,_,I.lset (its':=its.dropLast) hH e ?_ r.dropLast ?_,ru,q⟩
 .show its.toArray.eraseIdxIfInBounds (its.toArray.size-1)=its.dropLast.toArray;rw[aj,List.eraseIdxIfInBounds_toArray,P3]
 .rw[fR];lia
inductive YB(x y:V)(H:Hp)(Q:VK):Prop
 |mk (l b:jF) (xs zs:LUz) (e1:x=.ref l) (e2:y=.ref b) (h1:H l=O (.lst xs)) (h2:H b=O (.lst zs)) (n:xs.length+zs.length<=jU) (q:∀p,H p=Y->Q (.ref p) (upd H p<|.lst<|xs++zs)):YB x y H Q
def YZ:R2:=λx y H Q=>YB x y H Q
theorem Ed:OpR X (kW .Add) YZ:=by
 intro jy s B H x y v u Q I rx ry h;obtain⟨l,b,xs,zs,rfl,rfl,hH,hB,hz,q⟩:=h;cases rx;cases ry;obtain⟨z,its,n,r,hl,e⟩:=I.lstM hH;obtain⟨z2,its2,n2,r2,hl2,e2⟩:=I.lstM hB;refine PySem.P.add_list e e2 ?_ (by rw[aj,aj];lia);have ea:its.toArray++its2.toArray=(its++its2).toArray:=by simp
 rw[ea];exact⟨.ref _,_,I.lnew (t':=s.toks) (r.append r2) (by rw[aq];lia),Z,q _ I.fresh⟩
def YX:R2:=λx y H Q=>∃l k xs,x=.ref l/\y=.int k/\H l=O (.lst xs)/\-(2^63)<=k/\k<2^63/\xs.length*k.toNat<=jU /\
 ∀p,H p=Y->Q (.ref p) (upd H p<|.lst (List.replicate k.toNat xs).flatten)
theorem MF{α:Type}(xs:List α)(k:Nat):(List.replicate k xs).flatten.length=k*xs.length:=by
 induction k with
 |zero=>simp
 |succ k ih=>rw[cH,dz,aq,ih,eO,Nat.add_comm]
theorem Tm:OpR X (kW .Mult) YX:=by
 intro jy s B H x y v u Q I rx ry h;obtain⟨l,k,xs,rfl,rfl,hH,h1,h2,hz,q⟩:=h;cases rx;obtain⟨t,rfl⟩:=ry;obtain⟨z,its,n,r,hl,e⟩:=I.lstM hH;have hlen:its.toArray.size*k.toNat<=jU:=by rw[aj,<-hl];exact hz
 have hcap:¬its.toArray.size*k.toNat>(2^63-1) / 8:=by
  have:(jU:Nat)<=(2^63-1) / 8:=by decide
  lia
 have hfit:¬(!Builtin.List.listFitsIndex k)=nZ:=by
  rw[fitsIndex_both h1 h2];exact au
 have hlong:¬Builtin.List.listTooLong (its.toArray.size*k.toNat)=nZ:=by
  rw[NR hlen];exact au
 have hnew:List.foldl (λx1 x2=>x1++x2) #[] (List.replicate (if its.toArray.isEmpty=nZ then 0 else k.toNat) its.toArray)=(List.replicate k.toNat its).flatten.toArray:=by
  have f0:∀m:Nat,List.foldl (λx1 x2=>x1++x2) #[] (List.replicate m its.toArray)=(List.replicate m its).flatten.toArray:=λm=>by
   have:=Ly its m [];rw[cV]at this;exact this
  rw[f0];cases its with
  |nil=>simp
  |cons a r'=>rw[jK<|by simp]
 refine wpAny_binaryOp_repeat_ref (T:="list") (U:="int") (by decide) ⟨_,e,Z⟩ (λs'=>typeIs_int s' k t) noFill_list_mul F.fills_int_mul F.slot_int_rmul repeat_list F.slot_int_index.lookup
  (lN F.slot_int_rmul (typeIs_int s k t) F.entry_int_rmul (F.args_int_rmul_2 _ _) (int___rmul___int_list k t l its.toArray n)
   ⟨e,Z,⟨_,e,Z⟩,lN F.slot_list_mul ⟨_,e,Z⟩ F.entry_list_mul (F.args_list_mul_2 _ _) (AutoListH.list___mul___list_int_3 l its.toArray n k t hfit hcap hlong) ⟨e,?_⟩⟩)
 rw[hnew];exact⟨.ref _,_,I.lnew (t':=s.toks) (r.rep k.toNat) (by rw[MF,Nat.mul_comm];exact hz),Z,q _ I.fresh⟩
end
end L2
namespace Att
open PySem.W
open PySem PySem.Calls PyProof.Rows
theorem Ih{P:lH}{h:j6}:∀(ns:List Int)(vs:LWz),WellAll P h vs (ns.map WData.int)->IntsAre vs ns:=by
 intro ns
 induction ns with
 |nil=>
  intro vs w;rw[bN]at w;cases w;exact .nil
 |cons n ns ih=>
  intro vs w;rw[aR]at w;cases w with
  |cons a b=>
   cases a;exact .cons _ _<|ih _ b
theorem R8{l:OpenLaw}{n:Nat}(hn:l.most=O n){P:lH}{h:j6}{args:List WData}{vals:LWz}
  (hpre:l.row.toRowW.claim.pre args=nZ) (hwl:WellAll P h vals args):
  ∃a vs ns,vals=[Value.ref a]/\args=[WData.list<|ns.map WData.int]/\h.get? a=O { cls:=.type "list",data:=.seq vs.toArray}/\IntsAre vs ns/\ns.length<=n:=by
 have hsh:WShape.hasAll [] args [.list .int]=nZ:=(pre_splitW hpre).1;have hc:l.pre.holds [] { args:=args}=nZ:=(pre_splitW hpre).2;obtain⟨d,r,rfl,h1,h2⟩:=hasAllW_cons hsh;obtain rfl:=hasAllW_nil h2;obtain⟨xs,rfl,h3⟩:=hasW_list h1;obtain⟨ns,rfl⟩:=items_int h3;have hlen:ns.length<=n:=by
  unfold OpenLaw.pre at hc;have h4:(WTm.not<|.lt (.lit<|.int (n:Int))<|.len<|.arg 0).holds [] { args:=[.list<|ns.map .int]}=nZ:=by
   have h4:=(holds_andW hc).1;rw[hn]at h4;exact h4
  have h5:=condW_of h4<|w_not<|w_lt w_lit<|w_len_list<|w_arg Z;rw[aa]at h5;refine Nat.le_of_not_lt λq=>?_;have q':(n:Int)<((ns.length:Nat):Int):=by lia
  first
   | (rw[jI q']at h5;exact absurd h5<|by decide)
   | (simp at h5;lia)
 cases hwl with
 |cons w1 w2=>
  cases w2;cases w1 with
  |list ho hall=>exact⟨_,_,ns,Z,Z,ho,Ih ns _ hall,hlen⟩
theorem RD(l:OpenLaw)(args:List WData):l.row.toRowW.claim.post args (.bool nZ) args=nZ:=
 postW_of (r:=l.row.toRowW) (X:=(nZ==nZ))
  (show WShape.has [] (.bool nZ) .bool=nZ by first|rfl|decide|simp[WShape.has,WShape.arms,WShape.armsAll])
  (show(WTm.eq .res<|.lit<|.bool nZ).value [] { args:=args,res:=O<|.bool nZ,after:=args}=O (.bool<|nZ==nZ)from w_eq_bool (w_res Z) w_lit) Z
theorem attach_call{l:OpenLaw}{n:Nat}{q:jN}{loose:LSz}{XP:(MGz)->j6->Prop}{YP:jW->j6->Prop}{d:DefRec}
  (hn:l.most=O n) (hdf:d.params.defaults=[])
  (call:∀(w:jW)(s₀ s₁:jH)(mg mb:MGz)(fa:jF)(o:Obj)(pm cd doc:jJ)(a:jF)(vs:LWz)(ns:List Int),
   Ground q loose [] XP w s₀ mg mb s₁.heap->YP w s₁.heap ->
   s₁.heap.get? fa=O o->o.data=.func (docDef d.name d.params d.body d.scope pm cd doc)->s₁.heap.CodeRec cd d.name->mg d.name=O (.ref fa) ->
   s₁.heap.get? a=O { cls:=.type "list",data:=.seq vs.toArray}->IntsAre vs ns->ns.length<=n->s₁.gens=#[] ->
   kK (jS l.prog w) callerA (.call (.ref fa) ⟨[.ref a],[]⟩) (λr s'=>r=.ok (.ret<|.bool nZ)/\OldK s₁.heap s'.heap/\s'.os=s₁.os/\AllBare s'.gens) s₁):
  WalkO q loose XP YP l.row.toRowW d [] (λf vs=>PySem.call f vs):=by
 intro w s₀ s₁ mg mb G nX fa o pm cd doc dV kV ho hd hcd hD hmg hg args vals as hpre hlay hrd hwl hlo;obtain rfl:dV=.none:=Dflts.none hD hdf;obtain rfl:kV=.none:=Dflts.noKw hD;obtain⟨a,vs,ns,rfl,rfl,hobj,hints,hlen⟩:=R8 hn hpre hwl;refine enter_call<|kL (call w s₀ s₁ mg mb fa o pm cd doc a vs ns G nX ho (fd_plain hd) hcd hmg hobj hints hlen hg) λr s' hq=>?_;obtain⟨rfl,h2,h3,h4⟩:=hq;exact⟨.inl ⟨.bool nZ,.bool nZ,[],Z,λ_=>rfl,.bool nZ,RD l _,λ_=>⟨List.Pairwise.nil,λ_ hm=>(nomatch hm)⟩⟩,h2,h3,h4⟩
end Att
namespace L2
open PySem.W
open PySem PySem.Spec PyProof.Rows
theorem KD:∀{vs:LWz}{ns:List Int},IntsAre vs ns->Vals (ns.map V.int) vs
 |_,_,.nil=>.nil
 |_,_,.cons n t h=>.cons ⟨t,Z⟩<|KD h
end L2
namespace L2
open PySem.W
open PySem PySem.Spec PyProof.Rows
abbrev CX0:CXT:=λ_ _ _ _ _ _=>False
abbrev E0:XK:=λ_ _ _=>False
theorem Jk{X:Cx}:Dc CX0 X E0:=λ_ _ _ _ _ _ _ h=>h.elim
structure Fun(K:jX)(x jC:j5)(st:j0)(f:jF)(fd:jM):Prop where
 ex:∃(oc:jJ)(od:Option jF)(kV doc pm:jJ)(an:Option jF)(cdv ct:jJ)(osl:AOz),
  fd=fnOf x jC (B3 st) (A9 st) (Ah st) .none kV doc pm an cdv ct/\K.lookup f=O ⟨oc,od,.func fd,osl⟩/\codeIn K cdv jC=nZ
 kp:kP K (.ref f)=nZ
section
variable{P:jN}{w:jW}{K:jX}{mg:MGz}{jD:j6}
theorem Fun.ok{x jC:j5}{st:j0}{f:jF}{fd:jM}{N ps:LSz}{k:Nat}{sp:Sp}(F:Fun K x jC st f fd)(S:Al N ps<|Ah st)(len:∀vs H Q E,sp vs H Q E->vs.length=ps.length)
  (hbody:∀(cdv:jJ)(A:jZ)(jz:List lO)(s:jH)(H:Hp)(vs:LUz)(Q:VK)(E:XK),Room k (A.deeper<|envOfC jC (Ah st) s.heap.objs.size f cdv)->sp vs H Q E ->
   ∃t,PSs (Bx CX0 P w K mg jD N jC (Ah st) f cdv A jz s H E).nox (A9 st) t/\t { nx:=λ_ H'=>Q .non H',rt:=Q} (start N vs) H):A8 P w K mg jD CX0 (k+1) f fd ps sp:=by
 obtain⟨oc,od,kV,doc,pm,an,cdv,ct,osl,rfl,lk,hcd⟩:=F.ex;refine QK lk hcd S len λA jz s H vs Q E hr hsp=>?_;obtain⟨t,h,q⟩:=hbody cdv A jz s H vs Q E hr hsp;exact⟨t,h.nox,q⟩
theorem Fun.binds{x jC:j5}{st:j0}{f:jF}{fd:jM}{ps:LSz}(F:Fun K x jC st f fd)
  (h:∀(kV doc pm:jJ)(an:Option jF)(cdv ct:jJ)(us:LWz),us.length=ps.length->bindArgs (fnOf x jC (B3 st) (A9 st) (Ah st) .none kV doc pm an cdv ct) ⟨us,[]⟩=pure (ps.zip us)):Binds K fd ps []:=by
 obtain⟨oc,od,kV,doc,pm,an,cdv,ct,osl,rfl,lk,hcd⟩:=F.ex;exact .all<|h kV doc pm an cdv ct
end
theorem Ew{A:jZ}{k:Nat}(hr:Room k A):A.units+1<kY:=du (Nat.add_le_add_left (by decide:1<=64) _) hr.units
theorem An{n:Nat}(h:n<=1000):n<jU:=du h (by decide)
section
variable{X:Cx}
theorem pv(i:Nat){x:j5}{pos:Pos}(hN:X.N[i]?=O x:=by rfl)(hv:Vis X.env.scope x:=by first|exact bq Z|exact dB (bq Z)|exact dB<|dB Z)(hd:(x==("__debug__":j5))=oe:=by decide)
  (hcd:(x==("__classdict__":j5))=oe:=by decide):PE X (.Name x pos) (Xs i):=W5 hN hv hd hcd
abbrev Ai{X:Cx}:=@pv X 0
abbrev Ak{X:Cx}:=@pv X 1
abbrev Ap{X:Cx}:=@pv X 2
abbrev A2{X:Cx}:=@pv X 3
abbrev AE{X:Cx}:=@pv X 4
abbrev AX{X:Cx}:=@pv X 5
abbrev DI{X:Cx}:=@pv X 6
abbrev DH{X:Cx}:=@pv X 7
abbrev Di{X:Cx}:=@pv X 8
abbrev Cf{X:Cx}:=@pv X 11
end
theorem TM{A nY:Prop}(h:nY):if oe=nZ then A else nY:=by
 rw[jK au];exact h
theorem Pt{A nY:Prop}(h:A):if nZ=nZ then A else nY:=by
 rw[jP Z];exact h
def Same(H H':Hp):Prop:=∀b o,H b=O o->H' b=O o
theorem Same.refl(H:Hp):Same H H:=λ_ _ h=>h
theorem Same.trans{H H1 H2:Hp}(a:Same H H1)(b:Same H1 H2):Same H H2:=λc o h=>b c o<|a c o h
theorem Same.seq{K:jX}{H H':Hp}{a:jF}{xs:LUz}(e:Same H H')(h:SqL K H a xs):SqL K H' a xs:=by
 rcases h with(h|⟨o,h⟩)|h
 .exact .inl (.inl<|e _ _ h)
 .exact .inl (.inr ⟨o,e _ _ h⟩)
 .exact .inr h
end L2
set_option maxHeartbeats 4000000
namespace L2
open PySem.W
open PySem PySem.Spec PyProof.Rows
section
variable{α:Type}{κ:α->Int}
def Zm(κ:α->Int)(xs:List α):Prop:=xs.Pairwise λx y=>κ x<=κ y
end
section
variable{M:Model}{A:jZ}{E:VPz}{s:jH}{κ:Keyed->Int}{S:Keyed->Prop}{kd:SortKind}
def Tiles(κ:Keyed->Int)(xs:List Keyed):Nat->List (Nat×Nat×Nat)->Nat->Prop
 |a,[],b=>a=b
 |a,p::ps,b=>p.1=a/\0<p.2.1/\Zm κ ((xs.drop a).take p.2.1)/\Tiles κ xs (a+p.2.1) ps b
end
noncomputable def TQ:Option NameKind->Bool
 |some .cell=>nZ
 |some .free=>nZ
 |_=>oe
theorem QE{o:Option NameKind}(h:TQ o=nZ):o=O .cell\/o=O .free:=by
 match o,h with
 |some .cell,_=>exact .inl Z
 |some .free,_=>exact .inr Z
theorem FU(env:lO):∀(l:List<|j5×NameKind)(acc:List<|j5×jF),(∀y∈l,y.2=.free->∃c,env.cells.lookup y.1=O c) ->
  (∀x c,acc.lookup x=O c->env.cells.lookup x=O c) ->
  ∃cl,(forIn l acc (λ(x:j5×NameKind)(r:List (j5×jF))=>if (x.2==.free)=nZ then(cellOf env x.1 >>= λc=>pure<|ForInStep.yield ((x.1,c)::r))else pure<|ForInStep.yield r):Sem<|List<|j5×jF)=pure cl /\
   (∀x c,cl.lookup x=O c->env.cells.lookup x=O c)/\(∀x,((∃c,acc.lookup x=O c)\/(x,NameKind.free)∈l)->∃c,cl.lookup x=O c)
 |[],acc,_,ha=>⟨acc,by rfl,ha,λx h=>h.elim id λz=>nomatch z⟩
 | (n,k)::l,acc,hl,ha=>by
  have hl':∀y∈l,y.2=.free->∃c,env.cells.lookup y.1=O c:=λy hy=>hl y<|aF _ hy;by_cases hk:k=.free
  .subst hk;obtain⟨c,hc⟩:=hl (n,.free) aE Z;have hc':env.cells.lookup n=O c:=hc;have look:∀x,((n,c)::acc).lookup x=if x=n then O c else acc.lookup x:=λx=>by
    rw[ba];by_cases e:x=n
    .subst e;simp
    .rw[jK e,show(x==n)=oe by simpa using e]
   have ha':∀x d,((n,c)::acc).lookup x=O d->env.cells.lookup x=O d:=λx d e=>by
    rw[look]at e;split at e
    .rename_i q;subst q;rw[hc'];exact e
    .exact ha x d e
   obtain⟨cl,e,h1,h2⟩:=FU env l ((n,c)::acc) hl' ha';refine⟨cl,?_,h1,λx h=>h2 x ?_⟩
   .rw[<-e,eY];have ec:cellOf env n=pure c:=by unfold cellOf;rw[hc']
    show((cellOf env n >>= λc=>pure<|ForInStep.yield ((n,c)::acc)) >>= _:Sem<|List<|j5×jF)=_;rw[ec];rfl
   .rcases h with⟨d,q⟩|h
    .left
     rw[look];by_cases z:x=n
     .exact⟨c,by rw[jP z]⟩
     .exact⟨d,by rw[jK z];exact q⟩
    .rcases aQ.mp h with z|z
     .left
      rw[look];exact⟨c,by rw[jP<|congrArg Prod.fst z]⟩
     .exact .inr z
  .obtain⟨cl,e,h1,h2⟩:=FU env l acc hl' ha;refine⟨cl,?_,h1,λx h=>h2 x ?_⟩
   .rw[<-e,eY];have hb:(k==NameKind.free)=oe:=by simpa using hk
    show((if (k==NameKind.free)=nZ then _ else pure<|ForInStep.yield acc) >>= _:Sem<|List<|j5×jF)=_;rw[hb];rfl
   .rcases h with h|h
    .exact .inl h
    .rcases aQ.mp h with z|z
     .exact absurd (congrArg Prod.snd z).symm hk
     .exact .inr z
theorem P7{scope:kF}{env:lO}(h:∀y∈scope.names,y.2=.free->∃c,env.cells.lookup y.1=O c):
  ∃cl,closureFor scope env=pure cl/\(∀x c,cl.lookup x=O c->env.cells.lookup x=O c)/\(∀x,(x,NameKind.free)∈scope.names->∃c,cl.lookup x=O c):=by
 obtain⟨cl,e,h1,h2⟩:=FU env scope.names [] h (λx c e=>by simp at e);refine⟨cl,?_,h1,λx hx=>h2 x<|.inr hx⟩;have e2:closureFor scope env=(forIn scope.names [] (λ(x:j5×NameKind)(r:List (j5×jF))=>if (x.2==.free)=nZ then(cellOf env x.1 >>= λc=>pure<|ForInStep.yield ((x.1,c)::r))else pure<|ForInStep.yield r) >>= λr=>pure r:Sem<|List<|j5×jF):=by
  rfl
 rw[e2,e];rfl
noncomputable abbrev Ba(X:Cx)(scope:kF)(cl:List<|j5×jF)(N:LSz)(C:jF)(s:jH)(H:Hp)(ex:List jF):Cx:=
 { X with N:=N,s₀:=s,H₀:=H,env:=compEnvC scope cl C X.env,jz:=X.stack,ex:=ex,fn:=λ_=>oe,pn:=[],xe:=λ_ _=>False}
noncomputable def Dm(osc:kF)(oN:LSz)(sc:kF)(N:LSz)(fr:List<|Option Nat):Bool:=
 og (sc.kind=.function)&&sc.names.all (λy=>og<|y.2≠.cell)&&sc.names.all (λy=>og (y.2≠.free)||TQ (osc.names.lookup y.1)) &&
 sc.names.all (λy=>og (y.2≠.local)||og (sc.names.lookup y.1=O .local)) &&
 (N.zip fr).all (λy=>match y.2 with
  |none=>nZ
  |some i=>og (oN[i]?=O y.1)&&TQ (osc.names.lookup y.1)&&og (sc.names.lookup y.1=O .free))&&og (N.length=fr.length)
structure IC(osc:kF)(oN:LSz)(sc:kF)(N:LSz)(fr:List<|Option Nat):Prop where
 kind:sc.kind=.function
 nocell:∀y∈sc.names,y.2≠.cell
 free:∀y∈sc.names,y.2=.free->TQ (osc.names.lookup y.1)=nZ
 loc:∀y∈sc.names,y.2=.local->sc.names.lookup y.1=O .local
 slots:∀(j:Nat)(x:j5)(i:Nat),N[j]?=O x->fr[j]?=O (O i)->oN[i]?=O x/\TQ (osc.names.lookup x)=nZ/\sc.names.lookup x=O .free
 len:N.length=fr.length
theorem JW{osc:kF}{oN:LSz}{sc:kF}{N:LSz}{fr:List<|Option Nat}(h:Dm osc oN sc N fr=nZ):IC osc oN sc N fr:=by
 unfold Dm at h;simp only[av,az,decide_eq_true_eq,bW]at h;obtain⟨⟨⟨⟨⟨h1,h2⟩,h3⟩,h4⟩,h5⟩,h6⟩:=h;refine⟨h1,h2,λy hy e=>(h3 y hy).resolve_left λz=>z e,λy hy e=>(h4 y hy).resolve_left λz=>z e,λj x i e1 e2=>?_,h6⟩;have hm:(x,O i)∈N.zip fr:=by
  have:(N.zip fr)[j]?=O (x,O i):=by rw[List.getElem?_zip_eq_some];exact⟨e1,e2⟩
  exact ak this
 have:=h5 _ hm;simp only[av,decide_eq_true_eq]at this;exact⟨this.1.1,this.1.2,this.2⟩
noncomputable def stC(fr:List<|Option Nat)(B:St):St:=fr.map λo=>o.bind λi=>(B[i]?).join
def II(wi:TI)(g:TG)(tc:TT)(te:TE)(fr:List<|Option Nat):TE:=λB H Q=>wi B H λJ H1=>∀acc,H1 acc=Y->∃W:Nat->Nat->St->Hp->Prop,(∃m,W 0 m (stC fr B)<|upd H1 acc<|.lst [])/\∀i m σ1 H2,W i m σ1 H2 ->
 (J.stop i H2/\Q (.ref acc) H2)\/(J.go i H2/\∀x H3,J.yld i H2 x H3->g x σ1 H3 λσ4 H4=>tc σ4 H4 λb Hb=>match b with
  |true=>te σ4 Hb λv H5=>∃xs,H5 acc=O (.lst xs)/\xs.length<jU/\∃m',m'<m/\W (i+1) m' σ4 (upd H5 acc<|.lst<|xs++[v])
  |false=>∃m',m'<m/\W (i+1) m' σ4 Hb)
def PTs(X:Cx)(ifs:List j9)(tc:TT):Prop:=∀jy s B H Q,Inv X jy B H s->tc B H Q->jT (jS X.prog X.w) X.A (forIn ifs nZ λc r=>if r=nZ then do let ok <-isTrue c X.env (eval c X.env);pure (ForInStep.yield ok)else pure<|ForInStep.yield r) (λb s'=>∃H',Inv X jy B H' s'/\Q b H') X.xe s
def Ws:TT:=λ_ H Q=>Q nZ H
theorem Qw{X:Cx}:PTs X [] Ws:=λ_ _ _ _ _ I h=>wpAny_tests_nil ⟨_,I,h⟩
def VN(wi:TI)(g:TG)(te:TE)(fr:List<|Option Nat):TE:=λB H Q=>wi B H λJ H1=>∀acc,H1 acc=Y->∃W:Nat->Nat->St->Hp->Prop,(∃m,W 0 m (stC fr B)<|upd H1 acc<|.lst [])/\∀i m σ1 H2,W i m σ1 H2 ->
 (J.stop i H2/\Q (.ref acc) H2)\/(J.go i H2/\∀x H3,J.yld i H2 x H3->g x σ1 H3 λσ4 H4=>te σ4 H4 λv H5=>∃xs,H5 acc=O (.lst xs)/\xs.length<jU/\∃m',m'<m/\W (i+1) m' σ4 (upd H5 acc<|.lst<|xs++[v]))
section
variable{prog:jN}{w:jW}{A:jZ}{R:Result->jH->Prop}{s:jH}
theorem MX{elt target iter:j9}{ifs:List j9}{scope:kF}{pos:Pos}{it acc:jJ}{env:lO}(I:Nat->jH->Prop)
    (turn:∀n s,I n s->jT (jS prog w) A (pyNext it) (λr s₁=>match r with
      |none=>R (.ok .next) s₁
      |some v=>jT (jS prog w) A (letOwnedTupleGo target it v) (λ_ s₁=>jT (jS prog w) A (assign target env v) (λ_ s₂=>
          jT (jS prog w) A (forIn ifs nZ λc r=>if r=nZ then do let ok <-isTrue c env (eval c env);pure (ForInStep.yield ok)else pure<|ForInStep.yield r) (λok s₃=>
            if ok=nZ then jT (jS prog w) A (eval elt env) (λx s₄=>jT (jS prog w) A (call (.builtin "list.append") [acc,x]) (λ_ s₅=>∃m,m<n/\I m s₅) (notedBy (jS prog w) A env λe s'=>R (.error e) s') s₄)
              (notedBy (jS prog w) A env λe s'=>R (.error e) s') s₃
            else ∃m,m<n/\I m s₃) (notedBy (jS prog w) A env λe s'=>R (.error e) s') s₂)
          (notedBy (jS prog w) A env λe s'=>R (.error e) s') s₁) (notedBy (jS prog w) A env λe s'=>R (.error e) s') s₁) (notedBy (jS prog w) A env λe s'=>R (.error e) s') s)
    (n:Nat) (h:I n s):
    kK (jS prog w) A (.compLoop (.ListComp elt [⟨target,iter,ifs,0⟩] scope pos) 0 it acc env) R s:=by
  refine codeAny_loop Z I (λn s hI=>?_) n h;show jT _ _ ((compTurn (.ListComp elt [⟨target,iter,ifs,0⟩] scope pos) 0 it acc env).onRaise (λx=>do noteFrame x env;theTreesLotGoes x)) _ _ s;refine wpAny_noted ?_;rw[compTurn_list];refine jG<|kU<|jG<|ke (turn n s hI) (λr s₁ h₁=>?_) λ_ _ h'=>h';cases r with
  |none=>exact jL h₁
  |some v=>
    refine jG<|ke h₁ (λ_ s₁ h₁=>?_) λ_ _ h'=>h';refine jG<|ke h₁ (λ_ s₂ h₂=>jG<|ke h₂ (λok s₃ h₃=>?_) λ_ _ h'=>h') λ_ _ h'=>h';cases ok with
    |false=>exact jL ⟨Z,h₃⟩
    |true=>exact jG<|jG<|ke h₃ (λx s₄ h₄=>jG<|ke h₄ (λ_ s₅ h₅=>jL<|jL ⟨Z,h₅⟩) λ_ _ h'=>h') λ_ _ h'=>h'
end
theorem DR{α:Type}{M:Model}{A:jZ}{t:Sem α}{Q:α->jH->Prop}{E:VPz}{s:jH}(h:jT M A t Q (λ_ _=>False) s):jT M A t Q E s:=
 ke h (λ_ _ q=>q) λ_ _ z=>z.elim
theorem OZ{scope:kF}{env:lO}(hc:∀y∈scope.names,y.2≠.cell){x:j5}(h:(relabel scope env).names.lookup x=O .cell\/(relabel scope env).names.lookup x=O .free):(x,NameKind.free)∈scope.names:=by
 have key:∀(l:List<|j5×NameKind),(∀y∈l,y.2≠.cell)->((l.map λ(n,k)=>if (k==NameKind.free&&env.scope.kind==.function&&env.kindOf n==O .cell)then(n,NameKind.cell)else(n,k)).lookup x=O .cell \/
   (l.map λ(n,k)=>if (k==NameKind.free&&env.scope.kind==.function&&env.kindOf n==O .cell)then(n,NameKind.cell)else(n,k)).lookup x=O .free)->(x,NameKind.free)∈l:=by
  intro l
  induction l with
  |nil=>intro _ h;simp at h
  |cons y r ih=>
   obtain⟨n,k⟩:=y;intro hc h;have hr:∀y∈r,y.2≠.cell:=λy hy=>hc y<|aF _ hy;have hk:k≠.cell:=hc (n,k) aE;rw[aR]at h;by_cases hxn:x=n
   .subst hxn;have hkf:k=.free:=by
     by_cases hb:(k==NameKind.free&&env.scope.kind==.function&&env.kindOf x==O .cell)=nZ
     .simp only[av,beq_iff_eq]at hb;exact hb.1.1
     .simp only[hb,jK,aS,if_false]at h;simp only[ba,beq_self_eq_true]at h;rcases h with h|h
      .exact absurd (Option.some.inj h) hk
      .exact Option.some.inj h
    rw[hkf];exact aE
   .have hb:(x==n)=oe:=by simpa using hxn
    refine aF _<|ih hr ?_;by_cases hq:(k==NameKind.free&&env.scope.kind==.function&&env.kindOf n==O .cell)=nZ
    .simp only[hq,if_true,ba,hb]at h;exact h
    .simp only[hq,aS,if_false,ba,hb]at h;exact h
 exact key scope.names hc h
theorem Gf{env:lO}{x:j5}:∀{l:List<|j5×NameKind},l.lookup x=O .free ->
  ((l.map λ(n,k)=>if (k==NameKind.free&&env.scope.kind==.function&&env.kindOf n==O .cell)then(n,NameKind.cell)else(n,k)).lookup x=O .cell \/
   (l.map λ(n,k)=>if (k==NameKind.free&&env.scope.kind==.function&&env.kindOf n==O .cell)then(n,NameKind.cell)else(n,k)).lookup x=O .free)
 |[],h=>by simp at h
 | (n,k)::r,h=>by
  rw[aR];by_cases hxn:x=n
  .subst hxn;simp only[ba,beq_self_eq_true]at h;have hk:=Option.some.inj h;subst hk;by_cases hq:(NameKind.free==NameKind.free&&env.scope.kind==.function&&env.kindOf x==O .cell)=nZ
   .left
    show List.lookup x ((if (NameKind.free==NameKind.free&&env.scope.kind==.function&&env.kindOf x==O .cell)=nZ then(x,NameKind.cell)else(x,NameKind.free))::_)=_;rw[jP hq,ba,beq_self_eq_true]
   .right
    show List.lookup x ((if (NameKind.free==NameKind.free&&env.scope.kind==.function&&env.kindOf x==O .cell)=nZ then(x,NameKind.cell)else(x,NameKind.free))::_)=_;rw[jK hq,ba,beq_self_eq_true]
  .have hb:(x==n)=oe:=by simpa using hxn
   simp only[ba,hb]at h;have ih:=Gf (env:=env) h;by_cases hq:(k==NameKind.free&&env.scope.kind==.function&&env.kindOf n==O .cell)=nZ
   .simp only[hq,if_true,ba,hb];exact ih
   .simp only[hq,aS,if_false,ba,hb];exact ih
theorem NX{x:j5}{k:NameKind}:∀{l:List<|j5×NameKind},l.lookup x=O k->(x,k)∈l
 |[],h=>by simp at h
 | (n,j)::r,h=>by
  by_cases e:x=n
  .subst e;simp only[ba,beq_self_eq_true]at h;rw[<-Option.some.inj h];exact aE
  .have hb:(x==n)=oe:=by simpa using e
   simp only[ba,hb]at h;exact aF _<|NX h
section
variable{X:Cx}{elt tg iter:j9}{scope:kF}{pos:Pos}{wi:TI}{g:TG}{te:TE}{N:LSz}{fr:List<|Option Nat}
theorem P6{jy:PNz}{B:St}{H:Hp}{s s1:jH}{cl:List<|j5×jF}{ex:List jF}{C:jF}{m:MGz}(I:Inv X jy B H s)(ck:IC X.env.scope X.N scope N fr)
    (c1:∀x c,cl.lookup x=O c->X.env.cells.lookup x=O c) (c2:∀x,(x,NameKind.free)∈scope.names->∃c,cl.lookup x=O c) (hex:∀b∈ex,Ik X jy H b/\b<s.heap.objs.size) (hC:s.heap.objs.size<=C)
    (hn:s1.heap.Ns C m) (k:∀b o,s.heap.get? b=O o->s1.heap.get? b=O o) (ho:s1.os=s.os) (hg:s1.gens=s.gens):
    Inv (Ba X scope cl N C s H ex) [] (stC fr B) H s1:=by
  have lt_ne:∀{b:jF}{o:Obj},s.heap.get? b=O o->b≠C:=λe=>aM<|aP (ay e) hC;have ok:(Ba X scope cl N C s H ex).Ok:=
    { mod:=I.ok.mod
      kind:=ck.kind
      glob:=I.ok.glob
      blt:=I.ok.blt
      above:=hC
      inj:=λx y c e1 e2=>I.ok.inj x y c (c1 x c e1) (c1 y c e2)
      has:=λx h=>c2 x (OZ ck.nocell h)
      cab:=λx c z=>by cases z
      hd:=I.ok.hd
      frames:=I.ok.frames
      stk:=.inl Z
      exf:=λb hb=>⟨aM<|aP (hex b hb).2 hC,λx c e=>(hex b hb).1.2.2.2.2.1 x c<|c1 x c e⟩
      bs:=I.bs
      bsz:=aV I.ok.bsz I.sz
      noex:=λb o e hb=>by
        rcases(hex b hb).1.2.2.2.1 with z|z
        · exact I.ok.noex b o e z
        · exact absurd (aP (ay e)<|aV I.ok.bsz z) (bM _)
      exfs:=λb hb hz=>by
        rcases aQ.mp (I.stkSub b hz)with z|z
        · exact(hex b hb).1.2.1 z
        · exact(hex b hb).1.2.2.1 z
      funs:=I.stack
      frf:=I.stkFree}
  refine⟨ok,ho,by rw[hg];exact I.bare,Un.kept k,⟨m,hn,λj x v e1 e2 e3=>?_⟩,λx c e=>?_,I.hok.fresh hC,λx c e=>I.freeC x c<|c1 x c e,λp hp=>by simp at hp,I.hok.kept k,?_⟩
  · have e1':N[j]?=O x:=e1
    unfold stC at e2;rw[ax]at e2;cases q:fr[j]? with
    |none=>rw[q]at e2;cases e2
    |some o=>
      rw[q]at e2;cases o with
      |none=>
        have:(Y:Option V)=O v:=Option.some.inj e2;cases this
      |some i=>
        have e2':(B[i]?).join=O v:=Option.some.inj e2;obtain⟨s1',s2',s3'⟩:=ck.slots j x i e1' q;have hσ:B[i]?=O (O v):=by
          cases z:B[i]? with
          |none=>rw[z]at e2';cases e2'
          |some y=>rw[z]at e2';exact congrArg O e2'
        have hcf:=QE s2';obtain⟨m0,hn0,hl⟩:=I.loc;obtain⟨u,r,lk⟩:=hl i x v s1' hσ<|dB hcf;refine⟨u,r,dB ⟨Gf s3',?_⟩⟩;obtain⟨c,hc⟩:=c2 x<|NX s3';refine⟨c,hc,?_⟩;rcases lk with⟨z,_⟩|⟨_,c',hc',hv⟩
        · rcases hcf with y|y
          · have z':X.env.scope.names.lookup x=O .local:=z
            rw[y]at z';cases z'
          · have z':X.env.scope.names.lookup x=O .local:=z
            rw[y]at z';cases z'
        · have:=c1 x c hc
          rw[hc']at this;cases this;exact hv.keeps k
  · obtain⟨v,z⟩:=I.cell x c (c1 x c e)
    exact⟨v,z.keeps k⟩
  · unfold stC
    rw[aa];exact ck.len.symm
variable{ifs:List j9}{tc:TT}
theorem L5{jy:PNz}{B:St}{H:Hp}{s:jH}{Q:VK}{cl:List<|j5×jF}{R:jJ->jF->Result->jH->Prop}(hc:X.calm=nZ)(I:Inv X jy B H s)(hi:PI X tg iter wi)
  (hg:∀cl C s H ex,PG (Ba X scope cl N C s H ex) tg g) (hcn:∀cl C s H ex,PTs (Ba X scope cl N C s H ex) ifs tc) (he:∀cl C s H ex,PE (Ba X scope cl N C s H ex) elt te) (ck:IC X.env.scope X.N scope N fr)
  (c1:∀x c,cl.lookup x=O c->X.env.cells.lookup x=O c) (c2:∀x,(x,NameKind.free)∈scope.names->∃c,cl.lookup x=O c)
  (h:II wi g tc te fr B H Q)
  (hR:∀acc C s' H' m,s'.heap.Ns C m->Ik X jy H' C->Inv X jy B H' s'->Q (.ref acc) H'->R (.ref acc) C (.ok .next) s'):
  jT (jS X.prog X.w) X.A (eval iter X.env) (λx s₁=>jT (jS X.prog X.w) X.A (pyIter x) (λit s₂=>jT (jS X.prog X.w) X.A (newList []) (λacc s₃=>
   jT (jS X.prog X.w) X.A (newFunctionEnv scope X.env.globals cl [] X.env.qual Y .none<|O X.env) (λcenv s₄=>
    kK (jS X.prog X.w) X.A (.compStart (.ListComp elt [⟨tg,iter,ifs,0⟩] scope pos) 0 it acc { cenv with scope:=relabel scope X.env}) (R acc cenv.locals) s₄) X.xe s₃) X.xe s₂) X.xe s₁) X.xe s:=by
 refine thn (hi jy s B H _ I h) λv s1 h1=>thn h1 λitv s2 h2=>?_;obtain⟨it,fp,tn,J,H2,e,I2,T,st2,f2,q2⟩:=h2;subst e;refine kH (wpAny_newFunctionEnv ck.nocell (by intro y hy;simp at hy) (λh₁ hns₁ hsb₁=>?_) ck.kind);dsimp only at hns₁ hsb₁ |-;have I3:Inv X jy B (upd H2 s2.heap.objs.size<|.lst []) { s2 with heap:=s2.heap.push { cls:=.type "list",dict:=Y,data:=.seq ([]:LWz).toArray}}:=I2.lnew (t':=s2.toks) (its:=[]) .nil<|aU _;have acc0:H2 s2.heap.objs.size=Y:=I2.fresh;obtain⟨W,⟨m0,w0⟩,turn⟩:=q2 s2.heap.objs.size acc0;generalize hH3:s2.heap.push { cls:=.type "list",dict:=Y,data:=.seq ([]:LWz).toArray}=h3 at hns₁ hsb₁ I3 |-;have hz3:h3.objs.size=s2.heap.objs.size+1:=by rw[<-hH3,b8]
 have k23:∀b o,s2.heap.get? b=O o->h3.get? b=O o:=λb o e=>by rw[<-hH3];exact ag _ e
 have k34:∀b o,h3.get? b=O o->h₁.get? b=O o:=λb o e=>hsb₁.extBut b o (aM<|ay e)<|ag _ e;have fpo:∀b∈fp,∃o,s2.heap.get? b=O o/\∀v,o.data≠.cell v:=T.obj 0 _ st2;have hex:∀b∈fp,Ik X jy (upd H2 s2.heap.objs.size<|.lst []) b/\b<h3.objs.size:=λb hb=>by
  obtain⟨o,eo,_⟩:=fpo b hb;have lt:=ay eo;obtain⟨f0,fr'⟩:=f2 b hb;exact⟨⟨by rw[Af<|aM lt];exact f0,fr'⟩,by rw[hz3];exact bO lt⟩
 have I4:Inv (Ba X scope cl N h3.objs.size { s2 with heap:=h3} (upd H2 s2.heap.objs.size<|.lst []) fp) [] (stC fr B) (upd H2 s2.heap.objs.size<|.lst []) { s2 with heap:=h₁,toks:=s2.toks+([]:List<|j5×jJ).length}:=
  P6 I3 ck c1 c2 hex (ah _) hns₁ k34 Z Z
 have stat:∀{H':Hp},(∀b∈fp,H' b=Y)->∀b∈fp,Ik (Ba X scope cl N h3.objs.size { s2 with heap:=h3} (upd H2 s2.heap.objs.size<|.lst []) fp) [] H' b:=λhn b hb=>
  ⟨hn b hb,(I4.ok.exf b hb).1,I4.ok.exfs b hb,.inl hb,(I4.ok.exf b hb).2,λp hp=>by simp at hp⟩
 have stn:∀i h h',tn i h->(∀b o,h.get? b=O o->h'.get? b=O o)->tn i h':=λi h h' st kk=>T.keep i h h' st λb _ o e=>kk b o e;have loop:kK (jS X.prog X.w) X.A (.compLoop (.ListComp elt [⟨tg,iter,ifs,0⟩] scope pos) 0 (.ref it) (.ref s2.heap.objs.size)<|compEnvC scope cl h3.objs.size X.env) (R (.ref s2.heap.objs.size) h3.objs.size)
   { s2 with heap:=h₁,toks:=s2.toks+([]:List<|j5×jJ).length}:=by
  refine MX (λn s'=>∃i σ' H',Inv (Ba X scope cl N h3.objs.size { s2 with heap:=h3} (upd H2 s2.heap.objs.size<|.lst []) fp) [] σ' H' s'/\tn i s'.heap/\(∀b∈fp,H' b=Y)/\W i n σ' H') ?_ m0
   ⟨0,_,_,I4,stn _ _ _ st2 λb o e=>k34 b o<|k23 b o e,λb hb=>(hex b hb).1.1,w0⟩
  rintro n s3 ⟨i,σ3,H3,J3,st3,fr3,w3⟩;rcases turn i n σ3 H3 w3 with⟨stop,qn⟩|⟨go,step⟩
  .refine DR (thn (T.done (Ba X scope cl N h3.objs.size { s2 with heap:=h3} (upd H2 s2.heap.objs.size<|.lst []) fp) Z Z Z hc i [] s3 σ3 H3 (λ_ _=>False) J3 (stat fr3) st3 stop) λr s4 hz_=>?_);obtain⟨hr,J4⟩:=hz_;subst hr;obtain⟨mc,hmc,_⟩:=J4.loc;have I5:Inv X jy B H3 s4:=I3.call' (ch:=fp) J4.os J4.jD J4.hok J4.bare λb hb=>⟨(hex b hb).1.2.2.2.1,(hex b hb).1.2.1,(hex b hb).1.2.2.2.2.1,(hex b hb).1.2.2.2.2.2⟩;exact hR _ _ s4 H3 mc hmc (I3.fpOk (ah _) J4.free) I5 qn
  .refine DR (thn (T.item (Ba X scope cl N h3.objs.size { s2 with heap:=h3} (upd H2 s2.heap.objs.size<|.lst []) fp) Z Z Z hc i [] s3 σ3 H3 (λ_ _=>False) J3 (stat fr3) st3 go) λr s4 hz_=>?_);obtain⟨u,hr,h4⟩:=hz_;subst hr;refine DR<|thn h4 λ_ s5 hz_=>?_;obtain⟨x,H5,J5,r5,y5,st5,fr5⟩:=hz_;have J5':=J5.pinned (stat fr5)<|T.obj _ _ st5;refine DR<|thn (hg _ _ _ _ _ _ s5 σ3 H5 x u _ J5' r5<|step x H5 y5) λ_ s6 hz_=>?_;obtain⟨σ6,H6,J6,q6⟩:=hz_;refine DR<|thn (hcn _ _ _ _ _ _ s6 σ6 H6 _ J6 q6) λb sb hz_=>?_;obtain⟨Hb,Jb,qb⟩:=hz_;cases b with
   |false=>
    obtain⟨m',hm',w7⟩:=qb;refine ite_ff ⟨m',hm',i+1,σ6,_,Jb.unpinned,T.keep _ _ _ st5 λb hb o e=>(Jb.pin (b,o)<|aB _<|aB _<|BH hb e).1,λb hb=>?_,w7⟩;obtain⟨o,e,d⟩:=T.obj _ _ st5 b hb;exact(Jb.pin (b,o)<|aB _<|aB _<|BH hb e).2.1
   |true=>
    refine ite_tt ?_;refine DR<|thn (he _ _ _ _ _ _ sb σ6 Hb _ Jb qb) λy s7 hz_=>?_;obtain⟨v7,H7,J7,r7,xs,hx,hz,m',hm',w7⟩:=hz_;refine DR<|thn (Lk _ s7 σ6 H7 (.ref s2.heap.objs.size) [v7] (.ref s2.heap.objs.size) [y] (λv H8=>H8=upd H7 s2.heap.objs.size (.lst<|xs++[v7])) J7 Z (.cons r7 .nil) ⟨_,xs,v7,Z,Z,hx,hz,Z⟩) λ_ s8 hz_=>?_;obtain⟨_,H8,J8,_,e8⟩:=hz_;subst e8;refine⟨m',hm',i+1,σ6,_,J8.unpinned,T.keep _ _ _ st5 λb hb o e=>(J8.pin (b,o)<|aB _<|aB _<|BH hb e).1,λb hb=>?_,w7⟩;obtain⟨o,e,d⟩:=T.obj _ _ st5 b hb;exact(J8.pin (b,o)<|aB _<|aB _<|BH hb e).2.1
 exact codeAny_compStart_list loop<|T.self _ 0 _ _ _ (stn _ _ _ st2 λb o e=>k34 b o<|k23 b o e) loop
theorem QP(I:X.Ok)(ck:IC X.env.scope X.N scope N fr):∃cl,closureFor scope X.env=pure cl/\(∀x c,cl.lookup x=O c->X.env.cells.lookup x=O c)/\(∀x,(x,NameKind.free)∈scope.names->∃c,cl.lookup x=O c):=
 P7 λy hy e=>I.has y.1<|QE<|ck.free y hy e
theorem NB(hc:X.calm=nZ)(hi:PI X tg iter wi)(hg:∀cl C s H ex,PG (Ba X scope cl N C s H ex) tg g)(hcn:∀cl C s H ex,PTs (Ba X scope cl N C s H ex) ifs tc)(he:∀cl C s H ex,PE (Ba X scope cl N C s H ex) elt te)
  (hk:Dm X.env.scope X.N scope N fr=nZ:=by rfl) (hs:∀x,foldedSetIterable iter X.env x=pure x:=by intro _;rfl):PE X (.ListComp elt [⟨tg,iter,ifs,0⟩] scope pos) (II wi g tc te fr):=by
 intro jy s B H Q I h;have ck:=JW hk;obtain⟨cl,e1,c1,c2⟩:=QP I.ok ck;rw[eval_ListComp];refine wpAny_comprehension_free (use:=Y) (Q:=EP X jy B Q) Z hs e1 ck.kind ck.loc<|L5 (R:=λacc C=>compPost (jS X.prog X.w) X.A X.xe Y (EP X jy B Q) acc C) hc I hi hg hcn he ck c1 c2 h λacc C s' H' m hn f I' q=>?_;obtain⟨f0,f1,f2,f3,f4,f5⟩:=f;exact⟨m,hn,λh' hs'=>⟨.ref acc,H',I'.turned (t':=s'.toks) (λb o hb e=>hs'.extBut b o hb e) f0 f1 f3 f4 f5,Z,q⟩⟩
theorem Hr{y:j5}{py spos:Pos}{gy:TG}(hc:X.calm=nZ)(hy:PG X (.Name y py) gy)(hi:PI X tg iter wi)(hg:∀cl C s H ex,PG (Ba X scope cl N C s H ex) tg g)(hcn:∀cl C s H ex,PTs (Ba X scope cl N C s H ex) ifs tc)(he:∀cl C s H ex,PE (Ba X scope cl N C s H ex) elt te)
    (hk:Dm X.env.scope X.N scope N fr=nZ:=by rfl) (hsw:swapsWith (.ListComp elt [⟨tg,iter,ifs,0⟩] scope pos) (O<|.Name y py) spos.line X.env=pure nZ:=by rfl) (hs:∀x,foldedSetIterable iter X.env x=pure x:=by intro _;rfl):
    PS X (.Assign [.Name y py] (.ListComp elt [⟨tg,iter,ifs,0⟩] scope pos) spos) (Ry (II wi g tc te fr) gy):=by
  intro jy s B H D I h;have ck:=JW hk;obtain⟨cl,e1,c1,c2⟩:=QP I.ok ck;rw[exec_Assign_Name_used _ _ _ _ hsw];refine jG<|kU<|jG ?_;show jT _ X.A (do let _ <-comprehension (.ListComp elt [⟨tg,iter,ifs,0⟩] scope pos) scope X.env _ (newList []) oe (eval iter X.env) (O<|assign (.Name y py) X.env)) _ _ s;refine jG (ke (wpAny_comprehension_free (use:=O<|assign (.Name y py) X.env) (Q:=λ_ s'=>SP X jy D .next s') Z hs e1 ck.kind ck.loc
    (L5 (R:=λacc C=>compPost (jS X.prog X.w) X.A X.xe (O<|assign (.Name y py) X.env) (λ_ s'=>SP X jy D .next s') acc C) hc I hi hg hcn he ck c1 c2 h λacc C s' H' m hn f I' q=>?_)) (λ_ s' hq=>jL<|jL hq) λ_ _ e=>e)
  show jT _ X.A (assign (.Name y py) X.env<|.ref acc) _ _ _;obtain⟨oC,es,ep,hoC,hdC,hrC⟩:=id hn;have IP:=I'.pinned (fp:=[C]) (λb hb=>by rw[ae.mp hb];exact f) (λb hb=>by rw[ae.mp hb];exact⟨oC,hoC,λv z=>by rw[hdC]at z;cases z⟩);refine thn (hy _ s' B H' (.ref acc) (.ref acc) _ IP Z q) λ_ s'' ⟨σ6,H6,I6,q6⟩=>?_;have pC:=I6.pin (C,oC)<|aB _<|aB _<|BH (ae.mpr Z) hoC;obtain⟨f0,f1,f2,f3,f4,f5⟩:=f;exact⟨m,⟨oC,es,ep,pC.1,hdC,hrC⟩,λh' hs'=>⟨σ6,H6,I6.unpinned.turned (t':=s''.toks) (λb o hb e=>hs'.extBut b o hb e) pC.2.1 f1 f3 f4 f5,q6⟩⟩
theorem B9(hc:X.calm=nZ)(hi:PI X tg iter wi)(hg:∀cl C s H ex,PG (Ba X scope cl N C s H ex) tg g)(he:∀cl C s H ex,PE (Ba X scope cl N C s H ex) elt te)
  (hk:Dm X.env.scope X.N scope N fr=nZ:=by rfl) (hs:∀x,foldedSetIterable iter X.env x=pure x:=by intro _;rfl):PE X (.ListComp elt [⟨tg,iter,[],0⟩] scope pos) (VN wi g te fr):=
 NB (tc:=Ws) hc hi hg (λ_ _ _ _ _=>Qw) he hk hs
theorem BE{y:j5}{py spos:Pos}{gy:TG}(hc:X.calm=nZ)(hy:PG X (.Name y py) gy)(hi:PI X tg iter wi)(hg:∀cl C s H ex,PG (Ba X scope cl N C s H ex) tg g)(he:∀cl C s H ex,PE (Ba X scope cl N C s H ex) elt te)
  (hk:Dm X.env.scope X.N scope N fr=nZ:=by rfl) (hsw:swapsWith (.ListComp elt [⟨tg,iter,[],0⟩] scope pos) (O<|.Name y py) spos.line X.env=pure nZ:=by rfl) (hs:∀x,foldedSetIterable iter X.env x=pure x:=by intro _;rfl):
  PS X (.Assign [.Name y py] (.ListComp elt [⟨tg,iter,[],0⟩] scope pos) spos) (Ry (VN wi g te fr) gy):=
 Hr (tc:=Ws) hc hy hi hg (λ_ _ _ _ _=>Qw) he hk hsw hs
end
section
variable{X:Cx}
def Wi(_ j:Int):Prop:=0<j/\j.natAbs.log2<9000
theorem B6:OpR X (kW .FloorDiv) (rI Wi λi j=>.int<|i / j):=opI λi j _ _ _ _ _ hc q=>by
 have h1:(0:Int)<j:=hc.1;exact floordiv_int (by lia) (by rw[Int.fdiv_eq_ediv_of_nonneg i<|by lia];exact q)<|.inl<|PyProof.noPylong_of_log2 hc.2
theorem CC:OpR X (kW .Mult) (rI IntMulOk λi j=>.int<|i*j):=opI λ_ _ _ _ _ _ _ hc q=>mul_int q hc
theorem JA{n k:Nat}(hk:0<k)(h:n<2^k):n.log2<k:=by
 rcases Nat.eq_zero_or_pos n with h0|hp
 .rw[h0];simpa using hk
 .exact(Nat.log2_lt<|eQ hp).mpr h
theorem JH{z:Int}{k:Nat}(hk:0<k)(h:z.natAbs<2^k):Builtin.Int.intBits z<=k:=by
 unfold Builtin.Int.intBits;split
 .exact aU _
 .exact JA hk h
theorem NT{a b:Int}(h1:a.natAbs<2^128)(h2:b.natAbs<2^128):IntMulOk a b:=by
 have e1:=JH (by decide) h1;have e2:=JH (by decide) h2;unfold IntMulOk Builtin.Int.intTooBig;intro h;simp only[av,decide_eq_true_eq]at h;have h3:=h.2;have hb:(256:Int)<=(bitsLine:Int):=by decide +kernel
 lia
noncomputable def tyO:Option HO->Option String
 |some (.lst _)=>O "list"
 |some (.frz _ (.lst _))=>O "list"
 |some (.tup _)=>O "tuple"
 |some (.dK _)=>O "dict"
 |some (.dT _)=>O "dict"
 |_=>Y
noncomputable def tyS(H:Hp):V->Option String
 |.non=>O "NoneType"
 |.bl _=>O "bool"
 |.int _=>O "int"
 |.str _=>O "str"
 |.ref a=>tyO<|H a
 |_=>Y
theorem Wp{K:jX}{H:Hp}{x:V}{T:String}(h:tyS H x=O T):Hn K H x (.type T)/\(T="NoneType"\/T="bool"\/T="int"\/T="str"\/T="list"\/T="tuple"\/T="dict"):=by
 cases x with
 |non=>cases h;exact⟨.non,by simp⟩
 |bl=>cases h;exact⟨.bl _,by simp⟩
 |int=>cases h;exact⟨.int _,by simp⟩
 |str=>cases h;exact⟨.str _,by simp⟩
 |ref a=>
  have h:tyO (H a)=O T:=h;cases e:H a with
  |none=>rw[e]at h;cases h
  |some o=>
   rw[e]at h;cases o with
   |lst=>cases h;exact⟨.lst e,by simp⟩
   |tup=>cases h;exact⟨.tup e,by simp⟩
   |dK=>cases h;exact⟨.dK e,by simp⟩
   |dT=>cases h;exact⟨.dT e,by simp⟩
   |frz _ o=>cases o<;>cases h;exact⟨.frz e,by simp⟩
   |_=>cases h
 |_=>cases h
noncomputable def isB(T c:String):Bool:=og (T=c)||(og (T="bool")&&og (c="int"))
theorem WR:isB "tuple" "tuple"=nZ:=by decide
theorem Vm{K:jX}{T c:String}(h:T="NoneType"\/T="bool"\/T="int"\/T="str"\/T="list"\/T="tuple"\/T="dict")(hc:c="int"\/c="bool"\/c="tuple"\/c="list"\/c="str"):
  kQ K (.type T) (.type c)=O (isB T c):=by
 rcases h with rfl|rfl|rfl|rfl|rfl|rfl|rfl<;>rcases hc with rfl|rfl|rfl|rfl|rfl<;>rfl
inductive Wh(xs:LUz)(H:Hp)(Q:VK):Prop
 |mk (x:V) (T c:String) (e:xs=[x,.ty c]) (t:tyS H x=O T) (h:c="int"\/c="bool"\/c="tuple"\/c="list"\/c="str") (q:Q (.bl<|isB T c) H):Wh xs H Q
theorem DO:Cq X (.builtin "isinstance") (λxs H Q=>Wh xs H Q):=by
 intro jy s B H xs us Q I r h;obtain⟨x,T,c,rfl,hT,hc,q⟩:=h;obtain⟨u,w',rfl,rx,ry⟩:=S0 r;cases(show w'=Value.type c from ry);obtain⟨ty,hl⟩:=Wp (K:=X.K) hT;exact Sb I rx ty (Vm hl hc) λtk=>⟨.bl<|isB T c,H,I.tok tk,Z,q⟩
theorem So{bs:List Bool}{its:LWz}(r:Vals (bs.map V.bl) its){i:Nat}{v:jJ}(h:its.toArray[i]?=O v):v=.bool (bs.getD i oe):=by
 have hl:=r.length;have hi:i<its.length:=by
  have:=(bp.mp h).1
  simpa using this
 have hb:bs[i]?=O (bs.getD i oe):=by
  have:i<bs.length:=by rw[aa]at hl;lia
  rw[bj,ai this];rfl
 obtain⟨u,hu,ru⟩:=r.get (i:=i) (x:=.bl<|bs.getD i oe) (by rw[ax,hb];rfl);have h':its[i]?=O v:=by simpa using h
 rw[h']at hu;cases hu;exact ru
theorem RC{α:Type}(bs:List Bool):(List.range bs.length).all (λi=>bs.getD i oe)=bs.all id:=by
 have e:(List.range bs.length).map (λi=>bs.getD i oe)=bs:=by
  apply dA;intro i;rw[ax];by_cases h:i<bs.length
  .rw[da h,ai h,bU,bj,ai h];rfl
  .rw[bD (by simpa using h),bD<|by lia];rfl
 conv=>rhs;rw[<-e]
 rw[fK];rfl
theorem RB{α:Type}(bs:List Bool):(List.range bs.length).any (λi=>bs.getD i oe)=bs.any id:=by
 have e:(List.range bs.length).map (λi=>bs.getD i oe)=bs:=by
  apply dA;intro i;rw[ax];by_cases h:i<bs.length
  .rw[da h,ai h,bU,bj,ai h];rfl
  .rw[bD (by simpa using h),bD<|by lia];rfl
 conv=>rhs;rw[<-e]
 rw[fJ];rfl
theorem Ho{prog:jN}{w:jW}{A:jZ}{bs:List Bool}{its:LWz}(r:Vals (bs.map V.bl) its):TruthOf prog w A (λi v=>its.toArray[i]?=O v) (λi=>bs.getD i oe):=by
 intro i v s Q E hv hq;have e:=So r hv;subst e;exact kg hq
theorem Ka:Cq X (.builtin "all") (λxs H Q=>∃(p:jF)(bs:List Bool),xs=[.ref p]/\SqL X.K H p (bs.map V.bl)/\X.calm=nZ/\Q (.bl<|bs.all id) H):=by
 intro jy s B H xs us Q I r h;obtain⟨p,bs,rfl,hp,hc,q⟩:=h;obtain⟨u,rfl,ru⟩:=D9 r;cases ru;obtain⟨its,rv,pl,hz⟩:=I.list hp;have hl:=rv.length;rw[aa]at hl;refine call_all_walk<|lE pl.isList ?_;have hlt:p<s.heap.objs.size:=by obtain⟨o,ho,_⟩:=pl.isList;exact ay ho
 refine⟨s.heap.objs.size,_,_,_,_,_,_,Z,Walks.list (show X.A.in1.handled=Y from I.ok.hd hc) s.heap.objs.size p (aM hlt) its.toArray,⟨⟨_,aH _ Z,Z,Z⟩,let ⟨o,ho,r⟩:=pl.isList;⟨o,ag _ ho,r⟩⟩,Ho rv,λh' tk k=>?_⟩;refine⟨.bl<|bs.all id,H,I.kept (t':=tk) λb o e=>k b o (λz=>?_)<|ag _ e,?_,q⟩
 .have:b=s.heap.objs.size:=by simpa using z
  exact absurd (this ▸ ay e)<|bM _
 .show Value.bool _=Value.bool _;rw[aj,<-hl,RC (α:=Nat)]
theorem Ut:Cq X (.builtin "any") (λxs H Q=>∃(p:jF)(bs:List Bool),xs=[.ref p]/\SqL X.K H p (bs.map V.bl)/\X.calm=nZ/\Q (.bl<|bs.any id) H):=by
 intro jy s B H xs us Q I r h;obtain⟨p,bs,rfl,hp,hc,q⟩:=h;obtain⟨u,rfl,ru⟩:=D9 r;cases ru;obtain⟨its,rv,pl,hz⟩:=I.list hp;have hl:=rv.length;rw[aa]at hl;refine call_any_walk<|lE pl.isList ?_;have hlt:p<s.heap.objs.size:=by obtain⟨o,ho,_⟩:=pl.isList;exact ay ho
 refine⟨s.heap.objs.size,_,_,_,_,_,_,Z,Walks.list (show X.A.in1.handled=Y from I.ok.hd hc) s.heap.objs.size p (aM hlt) its.toArray,⟨⟨_,aH _ Z,Z,Z⟩,let ⟨o,ho,r⟩:=pl.isList;⟨o,ag _ ho,r⟩⟩,Ho rv,λh' tk k=>?_⟩;refine⟨.bl<|bs.any id,H,I.kept (t':=tk) λb o e=>k b o (λz=>?_)<|ag _ e,?_,q⟩
 .have:b=s.heap.objs.size:=by simpa using z
  exact absurd (this ▸ ay e)<|bM _
 .show Value.bool _=Value.bool _;rw[aj,<-hl,RB (α:=Nat)]
end
structure Ar(P:jN)(w:jW)(K:jX)(mg:MGz)(jD:j6)(k:Nat)(x:j5)(ps:LSz)(sp:Sp):Prop where
 ex:∃(f:jF)(fd:jM),A8 P w K mg jD CX0 k f fd ps sp/\mg x=O (.ref f)/\kP K (.ref f)=nZ/\Binds K fd ps []
section
variable{X:Cx}{k j:Nat}{x:j5}{ps:LSz}{sp:Sp}{p pos:Pos}{e:j9}{es:List j9}{t:TA}
theorem Am(D:Ar X.prog X.w X.K X.mg X.jD k x ps sp)(hr:Room j X.A)(ha:PA X (e::es) t)(hj:k<=j:=by decide)(hg:Gl X x:=by rfl)(hdb:(x==("__debug__":j5))=oe:=by decide)
  (he:jV (e::es) X.env=(oe,eval e X.env)::jV es X.env:=by rfl) (hpl:(kr pos<|jV es X.env).any (·.1)=oe:=by rfl):PE X (.Call (.Name x p) (e::es) [] pos) (PM sp [] E0 t):=by
 obtain⟨f,fd,F,hm,hk,hb⟩:=D.ex;exact Q3 F (hr.mono hj) hg hm hk hb .nil Jk ha hdb he hpl
end
theorem Ay{xs:LUz}(n:Nat)(h:xs.length=n:=by rfl)(h2:n<=1000:=by decide):xs.length<=jU:=by rw[h];exact aK<|An h2
theorem BK{c:Bool}{A nY:Prop}(h:c=nZ)(a:A):if c=nZ then A else nY:=by rw[jP h];exact a
theorem Bi{c:Bool}{A nY:Prop}(h:c=oe)(b:nY):if c=nZ then A else nY:=by rw[jK (by rw[h];exact au)];exact b
theorem Br{c:Bool}{A nY:Prop}(h1:c=nZ->A)(h2:c=oe->nY):if c=nZ then A else nY:=by
 cases c with
 |true=>exact Pt<|h1 Z
 |false=>exact TM<|h2 Z
theorem decI{i j:Int}:og (V.int i=V.int j)=nZ↔i=j:=by
 rw[decide_eq_true_eq];exact⟨λh=>by injection h,λh=>by rw[h]⟩
def SameX(p:jF)(H H':Hp):Prop:=∀b o,b≠p->H b=O o->H' b=O o
theorem SameX.refl{p:jF}{H:Hp}:SameX p H H:=λ_ _ _ h=>h
theorem SameX.trans{p:jF}{H H1 H2:Hp}(a:SameX p H H1)(b:SameX p H1 H2):SameX p H H2:=λc o n h=>b c o n<|a c o n h
theorem SameX.upd{p:jF}{H:Hp}{o:HO}:SameX p H (upd H p o):=λb u n h=>by rw[Af n];exact h
theorem SameX.new{p l:jF}{H:Hp}{o:HO}(h:H l=Y):SameX p H (L2.upd H l o):=λb u _ e=>by rw[Af<|Ad e h];exact e
theorem Same.new{l:jF}{H:Hp}{o:HO}(h:H l=Y):Same H (L2.upd H l o):=λb u e=>by rw[Af<|Ad e h];exact e
theorem SameX.same{p:jF}{H H0 H':Hp}(a:SameX p H H')(s:Same H0 H)(h:H0 p=Y):Same H0 H':=λb o e=>a b o (Ad e h)<|s b o e
theorem Same.x{p:jF}{H H':Hp}(a:Same H H'):SameX p H H':=λb o _ e=>a b o e
def cW(acc:jF)(n:Nat)(Pv:Nat->LUz->St->Hp->Prop)(i m:Nat)(B:St)(H:Hp):Prop:=i<=n/\m=n-i/\∃xs,xs.length=i/\H acc=O (.lst xs)/\Pv i xs B H
def cNx(acc:jF)(n:Nat)(Pv:Nat->LUz->St->Hp->Prop)(i:Nat)(B:St)(v:V)(H:Hp):Prop:=∃xs,H acc=O (.lst xs)/\xs.length<jU/\∃m',m'<n-i/\cW acc n Pv (i+1) m' B (upd H acc<|.lst<|xs++[v])
theorem cNx.mk{acc:jF}{n:Nat}{Pv:Nat->LUz->St->Hp->Prop}{i:Nat}{B:St}{v:V}{H:Hp}{xs:LUz}(hn:n<=jU)(hi:i<n)(hl:xs.length=i)(ha:H acc=O (.lst xs))(hp:Pv (i+1) (xs++[v]) B<|upd H acc<|.lst<|xs++[v]):
  cNx acc n Pv i B v H:=⟨xs,ha,by lia,n-(i+1),by lia,hi,Z,xs++[v],by rw[aq,hl];rfl,Ae,hp⟩
theorem Eo{lo:Int}{n:Nat}{g:TG}{te:TE}{B:St}{H1:Hp}{acc:jF}{Qr:Hp->Prop}(Pv:Nat->LUz->St->Hp->Prop)(h0:Pv 0 [] B<|upd H1 acc<|.lst [])
  (hs:∀i xs B H,i<n->xs.length=i->H acc=O (.lst xs)->Pv i xs B H->g (.int<|lo+i) B H λσ2 H2=>te σ2 H2 λv H3=>cNx acc n Pv i σ2 v H3)
  (hd:∀xs B H,xs.length=n->H acc=O (.lst xs)->Pv n xs B H->Qr H):
  ∃W:Nat->Nat->St->Hp->Prop,(∃m,W 0 m B<|upd H1 acc<|.lst [])/\∀i m σ1 H2,W i m σ1 H2 ->
   ((Itr lo n).stop i H2/\Qr H2)\/((Itr lo n).go i H2/\∀x H3,(Itr lo n).yld i H2 x H3->g x σ1 H3 λσ4 H4=>te σ4 H4 λv H5=>∃xs,H5 acc=O (.lst xs)/\xs.length<jU/\∃m',m'<m/\W (i+1) m' σ4 (upd H5 acc<|.lst<|xs++[v])):=by
 refine⟨cW acc n Pv,⟨n,aU _,Z,[],Z,Ae,h0⟩,?_⟩;rintro i m σ1 H2 ⟨hi,rfl,xs,hl,ha,hp⟩;rcases df i n with h|h
 .refine .inr ⟨h,?_⟩;rintro x H3 ⟨rfl,rfl⟩;exact hs i xs σ1 H3 h hl ha hp
 .have e:i=n:=cw hi h;subst e;exact .inl ⟨ah _,hd xs σ1 H2 hl ha hp⟩
theorem Bb{K:jX}{a:jF}{ys:LUz}{g:TG}{te:TE}{B:St}{H1:Hp}{acc:jF}{Qr:Hp->Prop}(Pv:Nat->LUz->St->Hp->Prop)(h0:Pv 0 [] B<|upd H1 acc<|.lst [])
  (hq:∀i xs B H,i<=ys.length->H acc=O (.lst xs)->Pv i xs B H->SqL K H a ys)
  (hs:∀i x xs B H,ys[i]?=O x->i<ys.length->xs.length=i->H acc=O (.lst xs)->Pv i xs B H->g x B H λσ2 H2=>te σ2 H2 λv H3=>cNx acc ys.length Pv i σ2 v H3)
  (hd:∀xs B H,xs.length=ys.length->H acc=O (.lst xs)->Pv ys.length xs B H->Qr H):
  ∃W:Nat->Nat->St->Hp->Prop,(∃m,W 0 m B<|upd H1 acc<|.lst [])/\∀i m σ1 H2,W i m σ1 H2 ->
   ((Itl K a).stop i H2/\Qr H2)\/((Itl K a).go i H2/\∀x H3,(Itl K a).yld i H2 x H3->g x σ1 H3 λσ4 H4=>te σ4 H4 λv H5=>∃xs,H5 acc=O (.lst xs)/\xs.length<jU/\∃m',m'<m/\W (i+1) m' σ4 (upd H5 acc<|.lst<|xs++[v])):=by
 refine⟨cW acc ys.length Pv,⟨ys.length,aU _,Z,[],Z,Ae,h0⟩,?_⟩;rintro i m σ1 H2 ⟨hi,rfl,xs,hl,ha,hp⟩;have hsq:=hq i xs σ1 H2 hi ha hp;rcases df i ys.length with h|h
 .refine .inr ⟨⟨ys,ys[i],hsq,ai h⟩,?_⟩;rintro x H3 ⟨rfl,hx⟩;exact hs i x xs σ1 H3 (hx ys hsq) h hl ha hp
 .have e:i=ys.length:=cw hi h;subst e;exact .inl ⟨⟨ys,hsq,ah _⟩,hd xs σ1 H2 hl ha hp⟩
theorem Uq{K:jX}{a:jF}{ys:LUz}{g:TG}{te:TE}{B:St}{H1:Hp}{acc:jF}{Qr:Hp->Prop}(Pv:Nat->LUz->St->Hp->Prop)(h0:Pv 0 [] B<|upd H1 acc<|.lst [])
  (hq:∀i xs B H,i<=ys.length->H acc=O (.lst xs)->Pv i xs B H->SqT K H a ys)
  (hs:∀i x xs B H,ys[i]?=O x->i<ys.length->xs.length=i->H acc=O (.lst xs)->Pv i xs B H->g x B H λσ2 H2=>te σ2 H2 λv H3=>cNx acc ys.length Pv i σ2 v H3)
  (hd:∀xs B H,xs.length=ys.length->H acc=O (.lst xs)->Pv ys.length xs B H->Qr H):
  ∃W:Nat->Nat->St->Hp->Prop,(∃m,W 0 m B<|upd H1 acc<|.lst [])/\∀i m σ1 H2,W i m σ1 H2 ->
   ((Itt K a).stop i H2/\Qr H2)\/((Itt K a).go i H2/\∀x H3,(Itt K a).yld i H2 x H3->g x σ1 H3 λσ4 H4=>te σ4 H4 λv H5=>∃xs,H5 acc=O (.lst xs)/\xs.length<jU/\∃m',m'<m/\W (i+1) m' σ4 (upd H5 acc<|.lst<|xs++[v])):=by
 refine⟨cW acc ys.length Pv,⟨ys.length,aU _,Z,[],Z,Ae,h0⟩,?_⟩;rintro i m σ1 H2 ⟨hi,rfl,xs,hl,ha,hp⟩;have hsq:=hq i xs σ1 H2 hi ha hp;rcases df i ys.length with h|h
 .refine .inr ⟨⟨ys,ys[i],hsq,ai h⟩,?_⟩;rintro x H3 ⟨rfl,hx⟩;exact hs i x xs σ1 H3 (hx ys hsq) h hl ha hp
 .have e:i=ys.length:=cw hi h;subst e;exact .inl ⟨⟨ys,hsq,ah _⟩,hd xs σ1 H2 hl ha hp⟩
section
variable{cmp:Nat->Nat->(Bool->jH->Prop)->jH->Prop}{key:Nat->Int}{N:Nat}{s:jH}
noncomputable def KP(key:Nat->Int)(p:Array Nat)(i:Nat):Int:=key<|p.getD i 0
def PermN(N:Nat)(p:Array Nat):Prop:=p.toList.Perm<|List.range N
theorem PermN.size{p:Array Nat}(h:PermN N p):p.size=N:=by
 have:=List.Perm.length_eq h;rw[eK]at this
 simpa using this
theorem PermN.lt{p:Array Nat}(h:PermN N p){i:Nat}(hi:i<N):p.getD i 0<N:=by
 have hs:=h.size;have hi':i<p.size:=by lia
 have e:p.getD i 0=p[i]:=by simp[Array.getD,hi']
 rw[e];have hm:p[i]∈p.toList:=by simp
 exact aO.mp<|(List.Perm.mem_iff h).mp hm
theorem PermN.of{p q:Array Nat}(h:PermN N p)(hq:q.Perm p):PermN N q:=(Array.perm_iff_toList_perm.mp hq).trans h
def Ke(key:Nat->Int)(p:Array Nat)(k:Nat):Prop:=∀i j,i<=j->j<k->KP key p i<=KP key p j
def PF(key:Nat->Int)(p:Array Nat)(k:Nat):Prop:=∀i j,i<=j->j<k->KP key p j<=KP key p i
theorem Fj{p q:Array Nat}{i j:Nat}(h:p[i]?=q[j]?):KP key p i=KP key q j:=by
 unfold KP;rw[de,de,h]
theorem Kh{p:Array Nat}{i j:Nat}(hj:j<=p.size)(k:Nat):KP key (kas_rev p i j) k=if i<=k/\k<j then KP key p (i+j-1-k)else KP key p k:=by
 have e:=getElem?_mirror_all (i:=i) hj k;by_cases h:i<=k/\k<j
 .rw[jP h]at e |-;exact Fj e
 .rw[jK h]at e |-;exact Fj e
theorem LF{p:Array Nat}{src d:Nat}(hs:src<p.size)(hd:d<=src)(k:Nat):
  KP key (bubble p src d) k=if k=src-d then KP key p src else if src-d<k/\k<=src then KP key p (k-1)else KP key p k:=by
 have e:=getElem?_bubble hs d hd k;by_cases h1:k=src-d
 .rw[jP h1]at e |-;exact Fj e
 .rw[jK h1]at e |-;by_cases h2:src-d<k/\k<=src
  .rw[jP h2]at e |-;exact Fj e
  .rw[jK h2]at e |-;exact Fj e
theorem PermN.rev{p:Array Nat}(h:PermN N p)(i j:Nat):PermN N (kas_rev p i j):=h.of<|mirror_perm _ _ _ _
theorem PermN.bub{p:Array Nat}(h:PermN N p)(i j:Nat):PermN N (bubble p i j):=h.of<|bubble_perm _ _ _
theorem UK{p:Array Nat}{n:Nat}(h:Ke key p n)(hn:1<=n)(hc:KP key p (n-1)<=KP key p n):Ke key p (n+1):=λi j hij hj=>by
 by_cases e:j=n
 .subst e;by_cases e2:i=j
  .subst e2;exact aW _
  .exact dJ (h i (j-1) (by lia)<|by lia) hc
 .exact h i j hij (by lia)
theorem Iv{p:Array Nat}{n:Nat}(h:PF key p n)(hn:1<=n)(hc:KP key p n<=KP key p (n-1)):PF key p (n+1):=λi j hij hj=>by
 by_cases e:j=n
 .subst e;by_cases e2:i=j
  .subst e2;exact aW _
  .exact dJ hc (h i (j-1) (by lia)<|by lia)
 .exact h i j hij (by lia)
variable(hcmp:∀i j (C:Bool->jH->Prop),i<N->j<N->C (og<|key i<key j) s->cmp i j C s)
include hcmp
theorem P9{p:Array Nat}(hp:PermN N p){G:Nat->jH->Prop}:∀(f n:Nat),1<=n->n+f<=N->Ke key p n->(∀m,n<=m->m<=n+f->Ke key p m->(m<n+f->KP key p m<KP key p (m-1))->G m s)->(kas_asc p f n).kasWp cmp G s
 |0,n,h1,hn,hs,hG=>hG n (ah _) (by lia) hs (λh=>absurd h<|by lia)
 |f+1,n,h1,hn,hs,hG=>by
  show cmp _ _ _ s;refine hcmp _ _ _ (hp.lt<|by lia) (hp.lt<|by lia) ?_;by_cases h:key (p.getD n 0)<key (p.getD (n-1) 0)
  .rw[jI h];simp only[if_true];exact hG n (ah _) (by lia) hs λ_=>h
  .rw[jR h];simp only[aS,if_false];exact P9 hp f (n+1) (by lia) (by lia) (UK hs h1 (by unfold KP;lia)) λm a b c d=>hG m (by lia) (by lia) c λz=>d (by lia)
theorem Np{p:Array Nat}(hp:PermN N p){n:Nat}(h1:1<=n)(hn:n<=N)(hs:PF key p n){G:Nat×Array Nat->jH->Prop}(hG:∀m q,1<=m->m<=N->PermN N q->Ke key q m->G (m,q) s):(kas_tail3 n N p).kasWp cmp G s:=by
 unfold kas_tail3;rw[KasT.kasWp_bind];have hz:=hp.size;refine P9 hcmp (hp.rev 0 n) (N-n) n h1 (by lia) (λi j hij hj=>?_) λm a b c _=>hG m _ (by lia) (by lia) (hp.rev 0 n) c;rw[Kh (by lia),Kh (by lia),jP (by lia),jP<|by lia];exact hs _ _ (by lia) (by lia)
theorem I9{G:Array Nat×Nat×Nat->jH->Prop}:∀(f:Nat)(p:Array Nat)(n q:Nat),PermN N p->1<=n->n+f<=N->q<n->PF key p n->(∀i,n-1-q<=i->i<n->KP key p i=KP key p (n-1)) ->
  (∀p' m r,PermN N p'->1<=m->m<=N->r<m->PF key p' m->(∀i,m-1-r<=i->i<m->KP key p' i=KP key p' (m-1))->G (p',m,r) s)->(kas_desc f p n q).kasWp cmp G s
 |0,p,n,q,hp,h1,hn,hq,hs,he,hG=>hG p n q hp h1 (by lia) hq hs he
 |f+1,p,n,q,hp,h1,hn,hq,hs,he,hG=>by
  have hz:=hp.size;show cmp _ _ _ s;refine hcmp _ _ _ (hp.lt<|by lia) (hp.lt<|by lia) ?_;by_cases h:key (p.getD n 0)<key (p.getD (n-1) 0)
  .rw[jI h];simp only[if_true];have h':KP key p n<KP key p (n-1):=h;have key1:PF key p (n+1):=Iv hs h1 (by lia);by_cases hq0:q>0
   .rw[jP hq0];have same:∀k,KP key (kas_rev p (n-(q+1)) n) k=KP key p k:=λk=>by
     rw[Kh<|by lia];split
     .rw[he _ (by lia) (by lia),he k (by lia)<|by lia]
     .rfl
    refine I9 f _ (n+1) 0 (hp.rev _ _) (by lia) (by lia) (by lia) (λi j hij hj=>?_) (λi a b=>?_) hG
    .rw[same,same];exact key1 i j hij hj
    .rw[show i=n+1-1 by lia]
   .rw[jK hq0];exact I9 f _ (n+1) 0 hp (by lia) (by lia) (by lia) key1 (λi a b=>by rw[show i=n+1-1 by lia]) hG
  .rw[jR h];simp only[aS,if_false];show cmp _ _ _ s;refine hcmp _ _ _ (hp.lt<|by lia) (hp.lt<|by lia) ?_;by_cases h2:key (p.getD (n-1) 0)<key (p.getD n 0)
   .rw[jI h2];simp only[if_true];exact hG p n q hp h1 (by lia) hq hs he
   .rw[jR h2];simp only[aS,if_false];have e:KP key p n=KP key p (n-1):=by unfold KP;lia
    refine I9 f p (n+1) (q+1) hp (by lia) (by lia) (by lia) (Iv hs h1<|by lia) (λi a b=>?_) hG;by_cases hi:i=n
    .subst hi;rfl
    .rw[he i (by lia) (by lia),<-e];rfl
theorem HG{p:Array Nat}(hp:PermN N p){n:Nat}(hn:n+1<=N)(hs:PF key p<|n+1){G:Nat×Array Nat->jH->Prop}(hG:∀m q,1<=m->m<=N->PermN N q->Ke key q m->G (m,q) s):(kas_descPart n N p).kasWp cmp G s:=by
 unfold kas_descPart;rw[KasT.kasWp_bind];refine I9 hcmp (N-(n+1)) p (n+1) 0 hp (by lia) (by lia) (by lia) hs (λi a b=>by rw[show i=n+1-1 by lia]) λp' m r hp' h1 hm hr hs' he=>?_;dsimp only;have hz:=hp'.size;split
 .have same:∀k,KP key (kas_rev p' (m-(r+1)) m) k=KP key p' k:=λk=>by
   rw[Kh<|by lia];split
   .rw[he _ (by lia) (by lia),he k (by lia)<|by lia]
   .rfl
  exact Np hcmp (hp'.rev _ _) h1 hm (λi j hij hj=>by rw[same,same];exact hs' i j hij hj) hG
 .exact Np hcmp hp' h1 hm hs' hG
theorem Up{p:Array Nat}(hp:PermN N p)(h1:1<=N){G:Nat×Array Nat->jH->Prop}(hG:∀m q,1<=m->m<=N->PermN N q->Ke key q m->G (m,q) s):(kas_count N p).kasWp cmp G s:=by
 unfold kas_count;rw[KasT.kasWp_bind];have hz:=hp.size;refine P9 hcmp hp (N-1) 1 (ah _) (by lia) (λi j hij hj=>by rw[show i=j by lia];exact aW _) λm a b c d=>?_;split
 .exact hG m p a (by lia) hp c
 .rename_i hne;have hm:m<N:=by
   have:m≠N:=λe=>hne (by rw[e];exact beq_self_eq_true _);lia
  have hd:=d (by lia);split
  .show cmp _ _ _ s;refine hcmp _ _ _ (hp.lt<|by lia) (hp.lt<|by lia) ?_;by_cases h:key (p.getD 0 0)<key (p.getD (m-1) 0)
   .rw[jI h];simp only[if_true];exact hG m p a (by lia) hp c
   .rw[jR h];simp only[aS,if_false];have h':KP key p (m-1)<=KP key p 0:=by unfold KP;lia
    have eqs:∀i,i<m->KP key p i=KP key p 0:=λi hi=>Int.le_antisymm (dJ (c i (m-1) (by lia)<|by lia) h') (c 0 i (by lia) hi);have same:∀k,KP key (kas_rev p 0 m) k=KP key p k:=λk=>by
     rw[Kh<|by lia];split
     .rw[eqs _ (by lia),eqs k<|by lia]
     .rfl
    refine HG hcmp (hp.rev 0 m) (by lia) (Iv (λi j hij hj=>?_) a ?_) hG
    .rw[same,same,eqs i (by lia),eqs j<|by lia];exact aW _
    .rw[same,same];lia
  .have em:m=1:=by lia
   subst em;exact HG hcmp hp (by lia) (Iv (λi j hij hj=>by rw[show i=j by lia];exact aW _) (ah _)<|by lia) hG
theorem Jg{p:Array Nat}(hp:PermN N p){k:Nat}(hk:k<N)(hs:Ke key p k){G:Nat->jH->Prop}(hG:∀l,l<=k->(∀i,i<l->KP key p i<=KP key p k)->(∀i,l<=i->i<k->KP key p k<KP key p i)->G l s):
  ∀(f l r:Nat),r-l<=f->l<=r->r<=k->(∀i,i<l->KP key p i<=KP key p k)->(∀i,r<=i->i<k->KP key p k<KP key p i)->(kas_place p k f l r).kasWp cmp G s
 |0,l,r,hf,hlr,hr,ha,hb=>hG l (by lia) ha λi h1 h2=>hb i (by lia) h2
 |f+1,l,r,hf,hlr,hr,ha,hb=>by
  unfold kas_place;split
  .exact hG l (by lia) ha λi h1 h2=>hb i (by lia) h2
  .show cmp _ _ _ s;refine hcmp _ _ _ (hp.lt hk) (hp.lt<|by lia) ?_;by_cases h:key (p.getD k 0)<key (p.getD ((l+r) / 2) 0)
   .rw[jI h];simp only[if_true];refine Jg hp hk hs hG f l ((l+r) / 2) (by lia) (by lia) (by lia) ha λi h1 h2=>?_;exact Int.lt_of_lt_of_le h<|hs _ i h1 h2
   .rw[jR h];simp only[aS,if_false];refine Jg hp hk hs hG f ((l+r) / 2+1) r (by lia) (by lia) hr (λi h1=>?_) hb;have h2:=hs i ((l+r) / 2) (by lia) (by lia);have h3:KP key p ((l+r) / 2)<=KP key p k:=by unfold KP;lia
    lia
theorem Ux{G:Array Nat->jH->Prop}(hG:∀q,PermN N q->Ke key q N->G q s):∀(f:Nat)(p:Array Nat)(k:Nat),PermN N p->k+f=N->Ke key p k->(kas_bin f p k).kasWp cmp G s
 |0,p,k,hp,hk,hs=>hG p hp (by rw[<-hk];exact hs)
 |f+1,p,k,hp,hk,hs=>by
  unfold kas_bin;rw[KasT.kasWp_bind];have hz:=hp.size;refine Jg hcmp hp (by lia) hs (λl hl ha hb=>?_) k 0 k (by lia) (by lia) (ah _) (λi h=>absurd h<|by lia) λi h1 h2=>absurd h1 (by lia);refine Ux hG f _ (k+1) (hp.bub _ _) (by lia) λi j hij hj=>?_;rw[LF (by lia) (by lia),LF (by lia) (by lia),show k-(k-l)=l by lia];by_cases i1:i=l
  .rw[jP i1];by_cases j1:j=l
   .rw[jP j1];exact aW _
   .rw[jK j1,jP<|by lia];exact Int.le_of_lt (hb _ (by lia)<|by lia)
  .rw[jK i1];by_cases i2:l<i/\i<=k
   .rw[jP i2,jK (by lia),jP<|by lia];exact hs _ _ (by lia) (by lia)
   .rw[jK i2];by_cases j1:j=l
    .rw[jP j1];exact ha i (by lia)
    .rw[jK j1];by_cases j2:l<j/\j<=k
     .rw[jP j2];exact hs _ _ (by lia) (by lia)
     .rw[jK j2];exact hs _ _ hij (by lia)
theorem Oc(h1:1<=N){G:Array Nat->jH->Prop}(hG:∀q:Array Nat,PermN N q->(q.toList.map key).Pairwise (·<=·)->G q s):(kas_sort N).kasWp cmp G s:=by
 have p0:PermN N (List.toArray<|List.range N):=by show List.Perm _ _;simp
 have hG':∀q,PermN N q->Ke key q N->G q s:=λq hq hs=>hG q hq (by
  have hz:=hq.size;rw[ce];intro i j hi hj hij;have hi':i<q.size:=by simpa using hi
  have hj':j<q.size:=by simpa using hj
  have:=hs i j (by lia) (by lia);unfold KP at this;rw[show q.getD i 0=q[i] by simp[Array.getD,hi'],show q.getD j 0=q[j] by simp[Array.getD,hj']]at this
  simpa using this)
 unfold kas_sort;rw[KasT.kasWp_bind];refine Up hcmp p0 h1 λm q hm1 hm2 hq hs=>?_;dsimp only;split
 .exact Ux hcmp hG' _ q _ hq (by lia) (by rw[show max m 1=m by lia];exact hs)
 .exact hG' q hq (by rw[show N=m by lia];exact hs)
end
section
variable{prog:jN}{w:jW}{A:jZ}{E:VPz}{s:jH}
noncomputable def BA(h:j6)(a:jF)(vs:LWz):j6:=((h.update a<|Obj.mapSeq λ_=>#[]).push<|j4 "tuple" vs.toArray 0).push<|j4 "list" #[] 0
theorem MD{h:j6}{a b:jF}{vs:LWz}{o:Obj}(hb:b≠a)(e:h.get? b=O o):(BA h a vs).get? b=O o:=by
 unfold BA;exact ag _ (ag _ (by rw[bX _ _ _ _ hb];exact e))
theorem Tb(vs:LWz):(List.range vs.length).map (λi=>vs.getD i Value.none)=vs:=by
 apply dA;intro i;rw[ax];by_cases h:i<vs.length
 .rw[da h,bU,bj,ai h];rfl
 .rw[bD (by simpa using h),bD<|by lia];rfl
theorem Ig{a:jF}{vs:LWz}{n:Nat}{P:PySem.Fin->jH->Prop}{κ:SortKind}{key:Nat->Int}(ho:s.heap.get? a=O (j4 "list" vs.toArray n))(h64:vs.length<64)
  (hK:∀(Q:SortKind->jH->Prop)(E:VPz),2<=vs.length->Q κ { s with heap:=BA s.heap a vs}->jT (jS prog w) A (keyKind' vs.toArray) Q E { s with heap:=BA s.heap a vs})
  (hL:∀i j (C:Bool->jH->Prop),i<vs.length->j<vs.length->C (og<|key i<key j) { s with heap:=BA s.heap a vs} ->
   jT (jS prog w) A (keyLt' κ (vs.getD i Value.none)<|vs.getD j Value.none) C (λ_ _=>False) { s with heap:=BA s.heap a vs})
  (h:∀q:Array Nat,PermN vs.length q->(q.toList.map key).Pairwise (·<=·)->P (.done<|.ret .none) { s with heap:=sortedHeap s.heap a vs<|List.toArray<|q.toList.map λi=>vs.getD i Value.none}):
  jT (jS prog w) A (Builtin.«list.sort» ⟨[.ref a],[]⟩) P E s:=by
 rw[list_sort_plain];have ha:a<s.heap.objs.size:=ay ho;refine jG<|listItems_at ho Z ?_;refine jG (kO ho Z ?_ (by rw[aj,ka];lia)<|aU _);obtain⟨e1,ho1⟩:∃e1,(s.heap.update a<|Obj.mapSeq λ_=>#[]).get? a=O (j4 "list" #[] e1):=⟨_,get?_update_seq ho λ_=>#[]⟩;refine jG<|lF ho1 Z ?_;refine jG (wpAny_newTuple ?_ (by show vs.length<=_;rw[ka];lia));refine jG<|lI ?_<|aU _;refine km ?_;have ho6:(BA s.heap a vs).get? a=O (j4 "list" #[] e1):=by
  unfold BA;rw[cy _ _ _ (by rw[size_push',dD];exact aM<|bO ha),cy _ _ _ (by rw[dD];exact aM ha)];exact ho1
 show jT (jS prog w) A _ P E { s with heap:=BA s.heap a vs};dsimp only;have hsz:vs.toArray.size=vs.length:=by simp
 by_cases h2:vs.toArray.size<2
 .rw[jP h2,jP h2];refine jG<|jL ?_;rw[StateT.run_pure];refine jG<|jL ?_;dsimp only;refine jG<|lF ho6 Z ?_;refine jG (kO ho6 Z ?_ (aU _) (by rw[Array.size_map];show(pairsOf vs).size<=_;rw[pairsOf_size,ka];lia));simp only[bne_self_eq_false,aS,if_false];have hh:=h (List.toArray<|List.range vs.length) (by show List.Perm _ _;simp) (by
   rw[hsz]at h2;rcases(by lia:vs.length=0\/vs.length=1)with e|e<;>rw[e]<;>simp[bA])
  have e3:List.map (λi=>vs.getD i Value.none) (List.range vs.length).toArray.toList=vs:=Tb vs;rw[e3]at hh;have e2:(arrOf<|SortSt.mk' general' (vs.toArray.zip vs.toArray) #[] 7 Y).map (·.2)=vs.toArray:=by
   show(vs.toArray.zip vs.toArray).map (·.2)=vs.toArray;apply Array.ext';simp[List.map_snd_zip]
  refine jL ?_;rw[e2];exact hh
 .rw[jK h2,jK h2];have h2':2<=vs.length:=by lia
  refine jG<|hK _ _ h2' ?_;refine jG (ke (kat_run (ks:=vs) (vs:=vs) (Q:=λst' s'=>s'={s with heap:=BA s.heap a vs}/\∃p:Array Nat,p.size=vs.length/\arrOf st'=p.map (kas_item<|vs.toArray.zip vs.toArray)/\failedOf st'=Y/\PermN vs.length p/\(p.toList.map key).Pairwise (·<=·))
   (G:=λp s'=>s'={s with heap:=BA s.heap a vs}/\PermN vs.length p/\(p.toList.map key).Pairwise (·<=·)) Z h2' h64 (λp st' s' a1 a2 a3 a4=>⟨a4.1,p,a1,a2,a3,a4.2⟩)
   (Oc (λi j C hi hj hC=>hL i j C hi hj hC) (by lia) λq hq hp=>⟨Z,hq,hp⟩)) ?_ λ_ _ e=>e)
  rintro⟨⟨⟩,st'⟩ s' ⟨rfl,p,hp,har,hf,pp,ps⟩;dsimp only;have hout:=kat_snds Z har;have hsz2:(List.toArray<|p.toList.map λi=>vs.getD i Value.none).size=vs.length:=by rw[aj,aa,bB,hp]
  rw[hout];refine jG<|lF ho6 Z ?_;refine jG (kO ho6 Z ?_ (aU _)<|aV (dH hsz2) (by rw[ka];lia));rw[hf];simp only[bne_self_eq_false,aS,if_false];exact jL<|h p pp ps
theorem UN{l:jF}{vs:LWz}{κ:SortKind}{key:Nat->Int}{Q:VPz}(hl:s.heap.IsList l vs.toArray)(h64:vs.length<64)
  (hK:∀(h':j6),(∀b o,s.heap.get? b=O o->h'.get? b=O o)->∀(A:jZ)(Q:SortKind->jH->Prop)(E:VPz),2<=vs.length->Q κ { s with heap:=h'}->jT (jS prog w) A (keyKind' vs.toArray) Q E { s with heap:=h'})
  (hL:∀(h':j6),(∀b o,s.heap.get? b=O o->h'.get? b=O o)->∀(A:jZ) i j (C:Bool->jH->Prop),i<vs.length->j<vs.length->C (og<|key i<key j) { s with heap:=h'} ->
   jT (jS prog w) A (keyLt' κ (vs.getD i Value.none)<|vs.getD j Value.none) C (λ_ _=>False) { s with heap:=h'})
  (h:∀q:Array Nat,PermN vs.length q->(q.toList.map key).Pairwise (·<=·)->Q (.ref<|s.heap.objs.size+1) { s with heap:=sortedAll s.heap vs<|List.toArray<|q.toList.map λi=>vs.getD i Value.none}):
  jT (jS prog w) A (call (.builtin "sorted") [.ref l]) Q E s:=by
 refine Calls.call_function_entry kind_sorted plain_sorted entry_sorted (args_sorted1 _) ?_;unfold Builtin.«sorted»;refine jG (m:=checkCount "sorted" 1 1 _)<|jL ?_;refine jG (collect_list hl ?_ (by rw[ka];lia));refine jG (lI ?_ (by rw[ka];lia));have hsz:((s.heap.push<|j4 "list" #[] 0).update s.heap.objs.size (Obj.mapSeq (·++vs.toArray))).objs.size=s.heap.objs.size+1:=by
  rw[dD,size_push']
 have hoL:(((s.heap.push<|j4 "list" #[] 0).update s.heap.objs.size (Obj.mapSeq (·++vs.toArray))).push<|j4 "list" vs.toArray 0).get? (s.heap.objs.size+1)=O (j4 "list" vs.toArray 0):=by
  rw[<-hsz];exact aH _ Z
 have keep:∀b o,s.heap.get? b=O o->(((s.heap.push<|j4 "list" #[] 0).update s.heap.objs.size (Obj.mapSeq (·++vs.toArray))).push<|j4 "list" vs.toArray 0).get? b=O o:=λb o q=>by
  have hlt:b<s.heap.objs.size:=ay q;rw[cy _ _ _ (by rw[hsz];exact aM<|bO hlt),bX _ _ _ _<|aM hlt,cy _ _ _<|aM hlt];exact q
 show jT _ _ _ _ _ { s with heap:=((s.heap.push<|j4 "list" #[] 0).update s.heap.objs.size (Obj.mapSeq (·++vs.toArray))).push<|j4 "list" vs.toArray 0};rw[hsz];have mid:∀b o,s.heap.get? b=O o->(BA (((s.heap.push<|j4 "list" #[] 0).update s.heap.objs.size (Obj.mapSeq (·++vs.toArray))).push<|j4 "list" vs.toArray 0) (s.heap.objs.size+1) vs).get? b=O o:=λb o q=>
  MD (aM<|bO<|ay q) (keep b o q)
 refine jG (km (kT slot_list_sort ⟨_,hoL,Z⟩ entry_list_sort (Ig (κ:=κ) (key:=key) (s:={s with heap:=((s.heap.push<|j4 "list" #[] 0).update s.heap.objs.size (Obj.mapSeq (·++vs.toArray))).push<|j4 "list" vs.toArray 0}) hoL h64 (λQ E h2 hq=>hK _ mid _ Q E h2 hq) (λi j C hi hj hc=>hL _ mid _ i j C hi hj hc) λq a1 a2=>⟨_,Z,?_⟩)<|args_list_sort _));exact jL ⟨_,Z,h q a1 a2⟩
theorem HE{fin:Bool}{Q:Bool->jH->Prop}(hf:fin=oe):∀{vs ws:LWz}{ns ms:List Int}(i:Nat),IntsAre vs ns->IntsAre ws ms->ns.length=ms.length->Q (HT.lexLt ns ms) s->KatLex prog w A nZ fin Q (vs.zip ws) i s
 |_,_,_,_,i,.nil,.nil,_,hq=>by rw[HT.lexLt_nil_nil]at hq;rw[hf];exact hq
 |_,_,_,_,i,.cons n t hn,.cons m u hm,hl,hq=>by
  rw[List.zip_cons_cons];rw[HT.lexLt_cons]at hq;refine kat_cons<|wpAny_eqBool_int<|kat_go (λe=>kat_yes ?_) λe=>kat_no ?_
  .have e':n=m:=by simpa using e
   rw[jP e']at hq;exact HE hf (i+1) hn hm (by simpa using hl) hq
  .have e':¬n=m:=by simpa using e
   rw[jK e']at hq;by_cases hi:i=0
   .subst hi;exact oneLt_int hq
   .have hb:(nZ&&i==0)=oe:=by simp[hi]
    rw[hb];exact kat_one _ _<|lt_int hq
end
section
variable{X:Cx}
theorem GH:∀{ts:List jF}{its:LWz},Vals (ts.map V.ref) its->its=ts.map Value.ref
 |[],_,.nil=>rfl
 |a::r,_,.cons h t=>by
  cases(show _=Value.ref a from h);rw[aR,GH t]
theorem FK:∀(ts:List jF),Vals (ts.map V.ref) (ts.map Value.ref)
 |[]=>.nil
 |a::r=>.cons Z<|FK r
theorem JD{h:j6}{m:Nat}:∀{ts:List<|jF×List Int},(∀t∈ts,t.2.length=m+1/\∃items,IsTup h t.1 items/\IntsAre items.toList t.2)->∃fs,KatTups h (ts.map λt=>Value.ref t.1) fs/\fs.length=ts.length/\∀v∈fs,∃n tk,v=Value.int n tk
 |[],_=>⟨[],KatTups.nil,Z,λv hv=>nomatch hv⟩
 |t::r,hh=>by
  obtain⟨fs,h1,h2,h3⟩:=JD (ts:=r) λu hu=>hh u<|aF _ hu;obtain⟨hl,items,⟨o,ho,hc,n,hd⟩,hi⟩:=hh t aE;obtain⟨x,tk,z,e⟩:∃(n:Int)(tk:lm)(zs:LWz),items.toList=Value.int n tk::zs:=by
   generalize items.toList=vs at hi;generalize t.2=ns at hi hl;cases hi with
   |nil=>simp at hl
   |cons n tk hz=>exact⟨n,tk,_,Z⟩
  have hf:items[0]?=O (Value.int x tk):=by
   rw[<-dM,e];rfl
  exact⟨_,KatTups.cons ho hc hd hf h1,by simp[h2],λv hv=>by
   rcases aQ.mp hv with rfl|hv
   .exact⟨x,tk,Z⟩
   .exact h3 v hv⟩
theorem Nc:Cq X (.builtin "sorted") (λxs H Q=>∃(p:jF)(ts:List<|jF×List Int)(m:Nat)(key:List Int->Int),xs=[.ref p]/\SqL X.K H p (ts.map λt=>V.ref t.1)/\ts.length<64 /\
  (∀t∈ts,t.2.length=m+1/\H t.1=O (.tup<|t.2.map V.int))/\(∀t∈ts,∀u∈ts,HT.lexLt t.2 u.2=og (key t.2<key u.2)) /\
  ∀l (ts':List<|jF×List Int),H l=Y->ts'.Perm ts->(ts'.map λt=>key t.2).Pairwise (·<=·)->Q (.ref l) (upd H l<|.lst<|ts'.map λt=>V.ref t.1)):=by
 intro jy s B H xs us Q I r h;obtain⟨p,ts,m,key,rfl,hp,h64,ht,hkey,q⟩:=h;obtain⟨u,rfl,ru⟩:=D9 r;cases ru;obtain⟨its,rv,pl,hz⟩:=I.list hp;have hits:its=ts.map λt=>Value.ref t.1:=by
  have:=GH (ts:=ts.map (·.1)) (its:=its) (by rw[aA];exact rv);rw[this,aA];rfl
 have hlen:its.length=ts.length:=by rw[hits,aa]
 have tup:∀t∈ts,t.2.length=m+1/\∃items,IsTup s.heap t.1 items/\IntsAre items.toList t.2:=λt htm=>by
  obtain⟨h1,h2⟩:=ht t htm;obtain⟨_,zs,rz,tz⟩:=(show ObjOk X.prog X.w H s.heap t.1 (.tup<|t.2.map V.int)from I.hok _ _ h2);exact⟨h1,_,tz,by simpa using FQ rz⟩
 have tupK:∀(h':j6),(∀b o,s.heap.get? b=O o->h'.get? b=O o)->∀t∈ts,t.2.length=m+1/\∃items,IsTup h' t.1 items/\IntsAre items.toList t.2:=λh' k t htm=>by
  obtain⟨h1,items,⟨o,e,c⟩,h3⟩:=tup t htm;exact⟨h1,items,⟨o,k _ _ e,c⟩,h3⟩
 refine UN (κ:=tuples' nZ) (key:=λi=>key ((ts.map (·.2)).getD i [])) pl.isList (by lia) (λh' k A' Q' E' h2 hq=>?_) (λh' k A' i j C hi hj hc=>?_) λqq pq sq=>?_
 .obtain⟨fs,f1,f2,f3⟩:=JD<|tupK h' k;rw[hits];refine kat_kind (s:={s with heap:=h'}) (T:=Value.type "int") f1 (by lia) (λv hv=>?_) (by decide) hq;obtain⟨n,tk,rfl⟩:=f3 v hv;exact .now
 .have hi':i<ts.length:=by lia
  have hj':j<ts.length:=by lia
  obtain⟨l1,x1,⟨o1,e1,c1,n1,d1⟩,z1⟩:=tupK h' k _<|cm hi';obtain⟨l2,x2,⟨o2,e2,c2,n2,d2⟩,z2⟩:=tupK h' k _<|cm hj';have g1:its.getD i Value.none=Value.ref ts[i].1:=by rw[hits];simp[dU,hi']
  have g2:its.getD j Value.none=Value.ref ts[j].1:=by rw[hits];simp[dU,hj']
  have k1:(ts.map (·.2)).getD i []=ts[i].2:=by simp[dU,hi']
  have k2:(ts.map (·.2)).getD j []=ts[j].2:=by simp[dU,hj']
  simp only[k1,k2]at hc;rw[<-hkey _ (cm hi') _ (cm hj')]at hc;rw[g1,g2];have s1:=z1.length;have s2:=z2.length;exact kat_lt (s:={s with heap:=h'}) e1 d1 e2 d2 (HE (by rw[jR];simp at s1 s2;lia) 0 z1 z2 (by lia) hc)
 .obtain⟨e,he⟩:=sortedAll_at s.heap its<|List.toArray<|qq.toList.map λi=>its.getD i Value.none;have hn:H (s.heap.objs.size+1)=Y:=I.hok.fresh<|bT _;have pq':qq.toList.Perm (List.range ts.length):=by rw[<-hlen];exact pq
  have pick:ts.Perm (qq.toList.map λi=>ts.getD i (0,[])):=by
   have:=(pq'.map λi=>ts.getD i ((0:jF),([]:List Int))).symm;have e2:(List.range ts.length).map (λi=>ts.getD i ((0:jF),([]:List Int)))=ts:=by
    apply dA;intro i;rw[ax];by_cases h:i<ts.length
    .rw[da h,bU,bj,ai h];rfl
    .rw[bD (by simpa using h),bD<|by lia];rfl
   rw[e2]at this;exact this
  have inR:∀i∈qq.toList,i<ts.length:=λi hi=>aO.mp<|pq'.mem_iff.mp hi;have eV:qq.toList.map (λi=>its.getD i Value.none)=(qq.toList.map λi=>ts.getD i (0,[])).map λt=>Value.ref t.1:=by
   rw[aA];refine bC λi hi=>?_;have:=inR i hi;rw[hits];simp[dU,this]
  refine⟨.ref<|s.heap.objs.size+1,_,I.laid (o:=.lst<|(qq.toList.map λi=>ts.getD i (0,[])).map λt=>V.ref t.1) (t':=s.toks) (λb o z=>sortedAll_old z) (bT _) ⟨?_,_,e,?_,he⟩,Z,q _ _ hn pick.symm ?_⟩
  .rw[aa,aa,bB,pq.size,ka];lia
  .rw[eV];generalize (qq.toList.map λi=>ts.getD i ((0:jF),([]:List Int)))=zs;have:=FK (zs.map (·.1));rw[aA,aA]at this;exact this
  .rw[aA];have e4:qq.toList.map ((λt:jF×List Int=>key t.2)∘λi=>ts.getD i (0,[]))=qq.toList.map λi=>key ((ts.map (·.2)).getD i []):=by
    refine bC λi hi=>?_;have:=inR i hi;simp[dU,this]
   rw[e4];exact sq
end
section
variable{κ:Type}[DecidableEq κ]
noncomputable def Bo(kvs:List<|κ×V)(k:κ):Option V:=(kvs.find? λkv=>og<|kv.1=k).map (·.2)
noncomputable def De(kvs:List<|κ×V)(k:κ)(v:V):List (κ×V):=
 if (kvs.any λkv=>og<|kv.1=k)=nZ then kvs.map (λkv=>if kv.1=k then(kv.1,v)else kv)else kvs++[(k,v)]
theorem By{p:κ×V}{r:List<|κ×V}{k:κ}(e:p.1=k):Bo (p::r) k=O p.2:=by simp[Bo,cf,e]
theorem Bz{p:κ×V}{r:List<|κ×V}{k:κ}(e:¬p.1=k):Bo (p::r) k=Bo r k:=by simp[Bo,cf,e]
theorem FX(k:κ):∀kvs:List<|κ×V,(kvs.any λkv=>og<|kv.1=k)=(Bo kvs k).isSome
 |[]=>rfl
 |p::r=>by
  rw[cP];by_cases e:p.1=k
  .simp only[By e,jI e,Bool.true_or,Option.isSome_some]
  .rw[Bz e,jR e,fA];exact FX k r
theorem No(k j:κ)(y:V):∀kvs:List<|κ×V,Bo (kvs.map λkv=>if kv.1=k then(kv.1,y)else kv) j=(Bo kvs j).map λx=>if j=k then y else x
 |[]=>rfl
 |p::r=>by
  have ih:=No k j y r;rw[aR];by_cases h:p.1=k
  .rw[jP h];by_cases e:p.1=j
   .rw[By (p:=(p.1,y)) e,By e,bU,jP<|e.symm.trans h]
   .rw[Bz (p:=(p.1,y)) e,Bz e,ih]
  .rw[jK h];by_cases e:p.1=j
   .rw[By (p:=p) e,By e,bU,jK λz=>h<|e.trans z]
   .rw[Bz (p:=p) e,Bz e,ih]
theorem KF(k j:κ)(y:V):∀kvs:List<|κ×V,Bo kvs k=Y->Bo (kvs++[(k,y)]) j=if j=k then O y else Bo kvs j
 |[],_=>by
  by_cases e:k=j
  .rw[jP e.symm];exact By (p:=(k,y)) e
  .rw[jK λz=>e z.symm];exact Bz (p:=(k,y)) e
 |p::r,hn=>by
  rw[eX];have hk:¬p.1=k:=λz=>by rw[By z]at hn;cases hn
  rw[Bz hk]at hn;have ih:=KF k j y r hn;by_cases e:p.1=j
  .rw[By e,By e,jK λz=>hk<|e.trans z]
  .rw[Bz e,Bz e,ih]
theorem DA(kvs:List<|κ×V)(k j:κ)(y:V):Bo (De kvs k y) j=if j=k then O y else Bo kvs j:=by
 unfold De;by_cases a:(kvs.any λkv=>og<|kv.1=k)=nZ
 .rw[jP a,No];rw[FX]at a;by_cases e:j=k
  .obtain⟨x,hx⟩:=dv.mp a;rw[jP e,e,hx,bU,jP Z]
  .rw[jK e];cases Bo kvs j with
   |none=>rfl
   |some x=>rw[bU,jK e]
 .rw[jK a];refine KF k j y kvs ?_;rw[FX]at a;cases q:Bo kvs k with
  |none=>rfl
  |some x=>rw[q]at a;exact(a Z).elim
theorem Cn(kvs:List<|κ×V)(k:κ)(v:V):(De kvs k v).length<=kvs.length+1:=by
 unfold De;split
 .rw[aa];lia
 .rw[aq,aL,cY];lia
theorem RelO.isSome_eq{o:Option V}{u:Option jJ}(r:RelO o u):o.isSome=u.isSome:=by
 cases o with
 |none=>cases u with
  |none=>rfl
  |some _=>exact(show False from r).elim
 |some _=>cases u with
  |none=>exact(show False from r).elim
  |some _=>rfl
theorem RelO.getD{o:Option V}{u:Option jJ}{d:V}{d':jJ}(r:RelO o u)(rd:RelV d d'):RelV (o.getD d) (u.getD d'):=by
 cases o with
 |none=>cases u with
  |none=>exact rd
  |some _=>exact(show False from r).elim
 |some _=>cases u with
  |none=>exact(show False from r).elim
  |some _=>exact r
theorem KV.val{kvs:List<|κ×V}{vs:List<|κ×jJ}(r:KV kvs vs)(k:κ):RelO (Bo kvs k) (valueAt vs k):=by
 unfold KV at r
 induction r with
 |nil=>exact True.intro
 |@cons p q ps qs h t ih=>
  obtain⟨h1,h2⟩:=h;by_cases e:p.1=k
  .have e':q.1=k:=h1.symm.trans e;have b:valueAt (q::qs) k=O q.2:=by simp[valueAt,cf,e']
   rw[By e,b];exact h2
  .have e':¬q.1=k:=λz=>e<|h1.trans z;have b:valueAt (q::qs) k=valueAt qs k:=by simp[valueAt,cf,e']
   rw[Bz e,b];exact ih
theorem KV.any{kvs:List<|κ×V}{vs:List<|κ×jJ}(r:KV kvs vs)(k:κ):(kvs.any λkv=>og<|kv.1=k)=vs.any λkv=>og (kv.1=k):=by
 unfold KV at r
 induction r with
 |nil=>rfl
 |cons h t ih=>rw[cP,cP,ih,h.1]
theorem KV.repl{kvs:List<|κ×V}{vs:List<|κ×jJ}(r:KV kvs vs)(k:κ){y:V}{u:jJ}(ry:RelV y u):
  KV (kvs.map λkv=>if kv.1=k then(kv.1,y)else kv) (vs.map λkv=>if kv.1=k then(kv.1,u)else kv):=by
 unfold KV at r |-
 induction r with
 |nil=>exact .nil
 |@cons p q ps qs h t ih=>
  rw[aR,aR];refine .cons ?_ ih;obtain⟨h1,h2⟩:=h;by_cases e:p.1=k
  .rw[jP e,jP<|h1.symm.trans e];exact⟨h1,ry⟩
  .rw[jK e,jK λz=>e<|h1.trans z];exact⟨h1,h2⟩
theorem KV.put{kvs:List<|κ×V}{vs:List<|κ×jJ}(r:KV kvs vs)(k:κ){y:V}{u:jJ}(ry:RelV y u):KV (De kvs k y) (stored vs k u):=by
 unfold De stored;rw[r.any k];by_cases e:(vs.any λkv=>og<|kv.1=k)=nZ
 .rw[jP e,jP e];exact r.repl k ry
 .rw[jK e,jK e];exact Paired.snoc r ⟨Z,ry⟩
theorem KV.length{kvs:List<|κ×V}{vs:List<|κ×jJ}(r:KV kvs vs):kvs.length=vs.length:=Paired.length r
end
theorem JE{P:jN}{w:jW}{k:Key}{u:jJ}(r:RelV (kV k) u):(AN P w).is k u=nZ:=by
 cases k with
 |inl i=>obtain⟨t,e⟩:=(show ∃t,u=Value.int i t from r);subst e;exact NV P w i t
 |inr x=>obtain⟨t,e⟩:=(show ∃t,u=Value.str x t from r);subst e;exact NU P w x t
theorem Lr{P:jN}{w:jW}:∀{ks:List Key}{us:LWz},Vals (ks.map kV) us->ItemsAre (AN P w) ks us
 |[],_,r=>by rw[bN]at r;cases r;exact .nil
 |k::ks,_,r=>by
  rw[aR]at r;cases r with
  |cons h t=>exact .cons (JE h)<|Lr t
abbrev KT(H:Hp):LKz->List (List Key×jF×jJ)->Prop:=Paired λp q=>p.1=q.1/\H q.2.1=O (.tup<|p.1.map kV)/\RelV p.2 q.2.2
theorem KT.val{H:Hp}{kvs:LKz}{xs:List<|List Key×jF×jJ}(r:KT H kvs xs)(k:List Key):RelO (Bo kvs k) ((atKey xs k).map (·.2)):=by
 induction r with
 |nil=>exact True.intro
 |@cons p q ps qs h t ih=>
  obtain⟨h1,_,h2⟩:=h;by_cases e:p.1=k
  .have e':q.1=k:=h1.symm.trans e;have b:atKey (q::qs) k=O q.2:=by simp[atKey,cf,e']
   rw[By e,b];exact h2
  .have e':¬q.1=k:=λz=>e<|h1.trans z;have b:atKey (q::qs) k=atKey qs k:=by simp[atKey,cf,e']
   rw[Bz e,b];exact ih
theorem KT.repl{H:Hp}{kvs:LKz}{xs:List<|List Key×jF×jJ}(r:KT H kvs xs)(k:List Key){y:V}{u:jJ}(ry:RelV y u):
  KT H (kvs.map λkv=>if kv.1=k then(kv.1,y)else kv) (xs.map<|putAt k u):=by
 induction r with
 |nil=>exact .nil
 |@cons p q ps qs h t ih=>
  rw[aR,aR];refine .cons ?_ ih;obtain⟨h1,h2,h3⟩:=h;unfold putAt;by_cases e:p.1=k
  .rw[jP e,jP<|h1.symm.trans e];exact⟨h1,h2,ry⟩
  .rw[jK e,jK λz=>e<|h1.trans z];exact⟨h1,h2,h3⟩
theorem KT.put{H:Hp}{kvs:LKz}{xs:List<|List Key×jF×jJ}(r:KT H kvs xs)(k:List Key){b:jF}{y:V}{u:jJ}(hb:H b=O (.tup<|k.map kV))(ry:RelV y u):
  KT H (De kvs k y) (storedH xs k b u):=by
 have e:(kvs.any λkv=>og<|kv.1=k)=(atKey xs k).isSome:=by
  rw[FX,(r.val k).isSome_eq,d8]
 unfold De storedH;rw[e];by_cases q:(atKey xs k).isSome=nZ
 .rw[jP q,jP q];exact r.repl k ry
 .rw[jK q,jK q];exact Paired.snoc r ⟨Z,hb,ry⟩
theorem KT.keeps{H H':Hp}{kvs:LKz}{xs:List<|List Key×jF×jJ}(r:KT H kvs xs)(ht:∀b ys,H b=O (.tup ys)->H' b=O (.tup ys)):KT H' kvs xs:=
 Paired.mapP r λ_ _ z=>⟨z.1,ht _ _ z.2.1,z.2.2⟩
section
variable{P:jN}{w:jW}{H:Hp}{h:j6}{a:jF}
theorem VT{u:HO}(ok:HOk P w H h)(e:Rd H a u):ObjOk P w H h a u:=e.ok ok
theorem JV{kvs:List<|Key×V}(ok:HOk P w H h)(e:Rd H a<|.dK kvs):kvs.length<=jU/\(a==kt)=oe/\∃vs,KV kvs vs/\h.DictOf (AN P w) a vs:=
 show ObjOk P w H h a (.dK kvs)from VT ok e
theorem Uh{kvs:List<|Key×V}(ok:HOk P w H h)(e:H a=O (.dK kvs)):kvs.length<=jU/\(a==kt)=oe/\∃vs,KV kvs vs/\h.DictOf (AN P w) a vs:=JV ok<|.inl e
theorem GX{ks:List Key}(ok:HOk P w H h)(e:H a=O (.tup<|ks.map kV)):(tupleKind<|AN P w).is h ks a:=by
 obtain⟨_,its,r,o,h1,h2,n,h3⟩:=(show ObjOk P w H h a (.tup<|ks.map kV)from ok a _ e);exact⟨o,its.toArray,n,h1,h2,h3,by simpa using Lr r⟩
theorem JU{kvs:LKz}(ok:HOk P w H h)(e:Rd H a<|.dT kvs):kvs.length<=jU/\(a==kt)=oe /\
  ∃xs,KT H kvs xs/\h.DictOfH (tupleKind<|AN P w) a xs:=by
 obtain⟨z,y,xs,r,o,es,ep,h1,h2,h3,h4,h5⟩:=(show ObjOk P w H h a (.dT kvs)from VT ok e);refine⟨z,y,xs,r,o,es,ep,h1,h2,h3,h4,λx hx=>?_,h5⟩;have all:∀{l:LKz}{m:List<|List Key×jF×jJ},KT H l m->∀x∈m,(tupleKind<|AN P w).is h x.1 x.2.1:=by
  intro l m q
  induction q with
  |nil=>intro x hx;exact nomatch hx
  |@cons p q ps qs hq t ih=>
   intro x hx;rcases aQ.mp hx with e|hx
   .subst e;exact GX ok (by rw[<-hq.1];exact hq.2.1)
   .exact ih x hx
 exact all r x hx
theorem Ys{kvs:LKz}(ok:HOk P w H h)(e:H a=O (.dT kvs)):kvs.length<=jU/\(a==kt)=oe /\
  ∃xs,KT H kvs xs/\h.DictOfH (tupleKind<|AN P w) a xs:=JU ok<|.inl e
end
def DGet(H:Hp)(a:jF)(y:V)(r:Option V):Prop:=
 (∃kvs k,Rd H a (.dK kvs)/\y=kV k/\r=Bo kvs k)\/∃kvs k b,Rd H a (.dT kvs)/\y=.ref b/\H b=O (.tup<|k.map kV)/\r=Bo kvs k
def DPut(H:Hp)(a:jF)(y v:V)(H':Hp):Prop:=
 (∃kvs k,H a=O (.dK kvs)/\y=kV k/\kvs.length<jU/\H'=upd H a (.dK<|De kvs k v)) \/
 ∃kvs k b,H a=O (.dT kvs)/\y=.ref b/\H b=O (.tup<|k.map kV)/\kvs.length<jU/\H'=upd H a (.dT<|De kvs k v)
theorem DGet.k{H:Hp}{a:jF}{kvs:List<|Key×V}{k:Key}(e:H a=O (.dK kvs)):DGet H a (kV k) (Bo kvs k):=.inl ⟨kvs,k,.inl e,Z,Z⟩
theorem DGet.t{H:Hp}{a b:jF}{kvs:LKz}{k:List Key}(e:H a=O (.dT kvs))(eb:H b=O (.tup<|k.map kV)):DGet H a (.ref b) (Bo kvs k):=.inr ⟨kvs,k,b,.inl e,Z,eb,Z⟩
theorem DPut.k{H:Hp}{a:jF}{kvs:List<|Key×V}{k:Key}{v:V}(e:H a=O (.dK kvs))(hl:kvs.length<jU):DPut H a (kV k) v (upd H a<|.dK<|De kvs k v):=.inl ⟨kvs,k,e,Z,hl,Z⟩
theorem DPut.t{H:Hp}{a b:jF}{kvs:LKz}{k:List Key}{v:V}(e:H a=O (.dT kvs))(eb:H b=O (.tup<|k.map kV))(hl:kvs.length<jU):
  DPut H a (.ref b) v (upd H a<|.dT<|De kvs k v):=.inr ⟨kvs,k,b,e,Z,eb,hl,Z⟩
section
variable{X:Cx}{jy:PNz}{B:St}{H:Hp}{s:jH}{a:jF}{y v:V}{u r:jJ}{o:Option V}{A:jZ}{E:VPz}
theorem Inv.big(I:Inv X jy B H s):kt<s.heap.objs.size:=by
 have h:jQ<s.heap.objs.size:=(I.mod.glob.keeps I.bk).lt;exact Nat.lt_trans (by decide) h
theorem Sj{Q:VPz}(hu:A.units+1<kY)(I:Inv X jy B H s)(g:DGet H a y<|O v)(ry:RelV y u)(h:∀w' s',Inv X jy B H s'->RelV v w'->Q w' s'):
  jT (jS X.prog X.w) A (getItem (.ref a) u) Q E s:=by
 rcases g with⟨kvs,k,e,ey,l⟩|⟨kvs,k,b,e,ey,eb,l⟩
 .subst ey;obtain⟨z,hd,vs,rel,dd⟩:=JV I.hok e;obtain⟨w',hw,rw'⟩:=RelO.some_of (v:=v) (o:=valueAt vs k) (by rw[l];exact rel.val k);exact wpAny_getItem_of (JE ry) dd.mapOf hw<|h w' _ (I.tok _) rw'
 .subst ey;cases(show u=Value.ref b from ry);obtain⟨z,hd,xs,rel,dd⟩:=JU I.hok e;obtain⟨w',hw,rw'⟩:=RelO.some_of (v:=v) (o:=(atKey xs k).map (·.2)) (by rw[l];exact rel.val k);obtain⟨p,hp,hp2⟩:=bc.mp hw;refine wpAny_getItem_heap (kM hu) (GX I.hok eb) dd hp ?_;rw[hp2];exact h w' _ (I.tok _) rw'
theorem Zi{Q:VPz}(hu:A.units+1<kY)(I:Inv X jy B H s)(g:DGet H a y o)(ry:RelV y u)(h:∀s',Inv X jy B H s'->Q (.bool o.isSome) s'):
  jT (jS X.prog X.w) A (kh .In u<|.ref a) Q E s:=by
 rcases g with⟨kvs,k,e,ey,l⟩|⟨kvs,k,b,e,ey,eb,l⟩
 .subst ey;obtain⟨z,hd,vs,rel,dd⟩:=JV I.hok e;refine wpAny_in_of (JE ry) hd dd.mapOf ?_;rw[<-(rel.val k).isSome_eq,<-l];exact h _<|I.tok _
 .subst ey;cases(show u=Value.ref b from ry);obtain⟨z,hd,xs,rel,dd⟩:=JU I.hok e;refine wpAny_in_heap (kM hu) (GX I.hok eb) hd dd ?_;have q:=(rel.val k).isSome_eq;rw[d8]at q;rw[<-q,<-l];exact h _<|I.tok _
theorem V4{Q:VPz}(hu:A.units+1<kY)(I:Inv X jy B H s)(g:DGet H a y o)(ry:RelV y u)(h:∀s',Inv X jy B H s'->Q (.bool<|!o.isSome) s'):
  jT (jS X.prog X.w) A (kh .NotIn u<|.ref a) Q E s:=by
 rcases g with⟨kvs,k,e,ey,l⟩|⟨kvs,k,b,e,ey,eb,l⟩
 .subst ey;obtain⟨z,hd,vs,rel,dd⟩:=JV I.hok e;refine wpAny_notIn_of (JE ry) hd dd.mapOf ?_;rw[<-(rel.val k).isSome_eq,<-l];exact h _<|I.tok _
 .subst ey;cases(show u=Value.ref b from ry);obtain⟨z,hd,xs,rel,dd⟩:=JU I.hok e;refine wpAny_notIn_heap (kM hu) (GX I.hok eb) hd dd ?_;have q:=(rel.val k).isSome_eq;rw[d8]at q;rw[<-q,<-l];exact h _<|I.tok _
theorem MV{h':j6}{t':Nat}{ob:HO}(I:Inv X jy B H s)(mu:Mut<|H a)(hs:Heap.SameBut a s.heap h')(he:∃q,h'.get? a=O q)(new:ObjOk X.prog X.w (upd H a ob) h' a ob):
  Inv X jy B (upd H a ob) { s with heap:=h',toks:=t'}:=
 I.write (x:=a) (e:=a) mu (.inl Z) (λb q hb z=>(hs.2 b hb).trans z) he new
theorem Ui{P:jN}{w:jW}{H':Hp}{h':j6}{kvs:List<|Key×V}{vs:List<|Key×jJ}(z:kvs.length<=jU)(hd:(a==kt)=oe)(rel:KV kvs vs)(dd:h'.DictOf (AN P w) a vs):
  ObjOk P w H' h' a (.dK kvs):=⟨z,hd,vs,rel,dd⟩
theorem Si{H':Hp}{Q:Unit->jH->Prop}(hu:A.units+1<kY)(I:Inv X jy B H s)(g:DPut H a y v H')(ry:RelV y u)(rv:RelV v r)(h:∀s',Inv X jy B H' s'->Q () s'):
  jT (jS X.prog X.w) A (setItem (.ref a) u r) Q E s:=by
 rcases g with⟨kvs,k,e,ey,l,eH⟩|⟨kvs,k,b,e,ey,eb,l,eH⟩
 .subst ey eH;obtain⟨z,hd,vs,rel,dd⟩:=Uh I.hok e;have hz:vs.length<=jU:=by rw[<-rel.length];exact z
  have hl:(De kvs k v).length<=jU:=by have:=Cn kvs k v;lia
  refine wpAny_setItem_pairs (hsz:=hz) (JE ry) dd λh' dd' hs=>h _ ?_;have he:∃q,h'.get? a=O q:=let ⟨q,_,_,hq,_⟩:=dd';⟨q,hq⟩;exact MV I (by rw[e];exact True.intro) hs he<|Ui hl hd (rel.put k rv) dd'
 .subst ey eH;cases(show u=Value.ref b from ry);obtain⟨z,hd,xs,rel,dd⟩:=Ys I.hok e;have hz:xs.length<=jU:=by rw[<-Paired.length rel];exact z
  have hl:(De kvs k v).length<=jU:=by have:=Cn kvs k v;lia
  refine wpAny_setItem_heap (hsz:=hz) (kM hu) (GX I.hok eb) dd λh' dd' hs=>h _ ?_;obtain⟨q,es,ep,hq,h2,h3,h4,_,h5⟩:=dd';refine MV I (by rw[e];exact True.intro) hs ⟨q,hq⟩ ⟨hl,hd,_,(rel.put k eb rv).keeps λc ys ec=>?_,q,es,ep,hq,h2,h3,h4,h5⟩;rw[Af<|AQ ec e λz=>nomatch z];exact ec
end
def Y4(i:j9):Prop:=∀ov iv,subscripted i oe ov iv=operate [ov,iv] (getItem ov iv)
theorem UJ{prog:jN}{w:jW}{A:jZ}{E:VPz}{s:jH}{env:lO}{value slice:j9}{pos:Pos}{T id:String}{Q:VPz}
  (hl:typeLookup (.type T) "__getitem__"=pure (O<|.builtin id)) (hs:Y4 slice)
  (h:jT (jS prog w) A (eval value env) (λo s₁=>jT (jS prog w) A (eval slice env) (λi s₂=>s₂.TypeIs o T/\jT (jS prog w) A (getItem o i) Q E s₂) E s₁) E s):
  jT (jS prog w) A (eval (.Subscript value slice pos) env) Q E s:=by
 refine Subscript_<|ke h (λo s₁ h₁=>ke h₁ (λi s₂ h₂=>?_) λ_ _ x=>x) λ_ _ x=>x;obtain⟨hT,h₂⟩:=h₂;unfold subscriptTail;refine jG ?_;rw[getitemInPython_of_ne hT.not_modules];refine jG<|wpAny_specialOf hT hl ?_;have fin:jT (jS prog w) A (subscripted slice oe o i) (λr s₃=>jT (jS prog w) A (letTemporaryGo value o r >>= λ_=>pure r) Q E s₃) E s₂:=by
  rw[hs o i];exact wpAny_operating<|ke h₂ (λr s₃ h₃=>jG<|wpAny_letTemporaryGo<|jL h₃) λ_ _ x=>x
 first
  |exact jL<|jG fin
  |exact jG<|jL<|jG fin
  |exact jG fin
theorem On{X:Cx}{jy:PNz}{B:St}{H:Hp}{s:jH}{a:jF}{y:V}{o:Option V}(I:Inv X jy B H s)(g:DGet H a y o):s.TypeIs (.ref a) "dict":=by
 rcases g with⟨kvs,k,e,_,_⟩|⟨kvs,k,b,e,_,_,_⟩
 .obtain⟨_,_,vs,_,dd⟩:=JV I.hok e;exact dd.typeIs
 .obtain⟨_,_,xs,_,dd⟩:=JU I.hok e;exact dd.typeIs
def X2(td ty:TE):TE:=λB H Q=>td B H λx H1=>ty B H1 λy H2=>∃a v,x=.ref a/\DGet H2 a y (O v)/\Q v H2
def YO(ty td:TE):TE:=λB H Q=>ty B H λy H1=>td B H1 λx H2=>∃a o,x=.ref a/\DGet H2 a y o/\Q (.bl o.isSome) H2
def UH(ty td:TE):TE:=λB H Q=>ty B H λy H1=>td B H1 λx H2=>∃a o,x=.ref a/\DGet H2 a y o/\Q (.bl<|!o.isSome) H2
def X8(td ty tv:TE):TS:=λD B H=>tv B H λv H1=>td B H1 λx H2=>ty B H2 λy H3=>∃a H4,x=.ref a/\DPut H3 a y v H4/\D.nx B H4
section
variable{X:Cx}{o i e value:j9}{pos pos' tpos:Pos}{td ty tv:TE}
theorem Ec(hu:X.A.units+1<kY)(ho:PE X o td)(hi:PE X i ty)(hs:Y4 i:=by exact λ_ _=>rfl):PE X (.Subscript o i pos) (X2 td ty):=by
 intro jy s B H Q I h;refine UJ PySem.F.slot_dict_getitem.lookup hs<|thn (ho jy s B H _ I h) λu s1 hz_=>?_;obtain⟨x,H1,I1,rx,q1⟩:=hz_;refine thn (hi jy s1 B H1 _ I1 q1) λiv s2 hz_=>?_;obtain⟨y,H2,I2,ry,a,v,ex,g,q2⟩:=hz_;subst ex;obtain rfl:u=Value.ref a:=rx;exact⟨On I2 g,Sj hu I2 g ry λw' s3 I3 rw'=>⟨v,H2,I3,rw',q2⟩⟩
theorem W9(hu:X.A.units+1<kY)(hi:PE X i ty)(ho:PE X o td):PC X .In i o (YO ty td):=by
 intro jy s B H Q I h;refine thn (hi jy s B H _ I h) λiv s1 hz_=>?_;obtain⟨y,H1,I1,ry,q1⟩:=hz_;refine thn (ho jy s1 B H1 _ I1 q1) λu s2 hz_=>?_;obtain⟨x,H2,I2,rx,a,ov,ex,g,q2⟩:=hz_;subst ex;obtain rfl:u=Value.ref a:=rx;exact Zi hu I2 g ry λs3 I3=>⟨.bl ov.isSome,H2,I3,Z,q2⟩
theorem RE(hu:X.A.units+1<kY)(hi:PE X i ty)(ho:PE X o td):PC X .NotIn i o (UH ty td):=by
 intro jy s B H Q I h;refine thn (hi jy s B H _ I h) λiv s1 hz_=>?_;obtain⟨y,H1,I1,ry,q1⟩:=hz_;refine thn (ho jy s1 B H1 _ I1 q1) λu s2 hz_=>?_;obtain⟨x,H2,I2,rx,a,ov,ex,g,q2⟩:=hz_;subst ex;obtain rfl:u=Value.ref a:=rx;exact V4 hu I2 g ry λs3 I3=>⟨.bl<|!ov.isSome,H2,I3,Z,q2⟩
theorem Gh(hu:X.A.units+1<kY)(ho:PE X o td)(hi:PE X i ty)(hv:PE X value tv)(hs:swapsWith value (O<|.Subscript o i pos') pos.line X.env=pure oe):
  PS X (.Assign [.Subscript o i pos'] value pos) (X8 td ty tv):=by
 intro jy s B H D I h;refine wpAny_Assign_Subscript (thn (hv jy s B H _ I h) λr s1 hz_=>?_) hs;obtain⟨v,H1,I1,rv,q1⟩:=hz_;refine thn (ho jy s1 B H1 _ I1 q1) λu s2 hz_=>?_;obtain⟨x,H2,I2,rx,q2⟩:=hz_;refine thn (hi jy s2 B H2 _ I2 q2) λiv s3 hz_=>?_;obtain⟨y,H3,I3,ry,a,H4,ex,g,q3⟩:=hz_;subst ex;obtain rfl:u=Value.ref a:=rx;exact Si hu I3 g ry rv λs4 I4=>⟨B,H4,I4,q3⟩
end
theorem Om{P:jN}{w:jW}{H:Hp}(h:j6)(hb:kt<h.objs.size):ObjOk P w H (h.push { cls:=.type "dict",data:=.dict #[]}) h.objs.size (.dK []):=
 ⟨aU _,beq_eq_false_iff_ne.mpr<|Ne.symm<|aM hb,[],.nil,Heap.DictOf.new h⟩
theorem Ug{P:jN}{w:jW}{H:Hp}(h:j6)(hb:kt<h.objs.size):ObjOk P w H (h.push { cls:=.type "dict",data:=.dict #[]}) h.objs.size (.dT []):=
 ⟨aU _,beq_eq_false_iff_ne.mpr<|Ne.symm<|aM hb,[],.nil,_,#[],0,aH _ Z,⟨Z,Z,Z⟩,Z,Z,dh⟩
def Wx:TE:=λ_ H Q=>∀p,H p=Y->Q (.ref p) (upd H p<|.dK [])
def Ww:TE:=λ_ H Q=>∀p,H p=Y->Q (.ref p) (upd H p<|.dT [])
section
variable{X:Cx}{pos:Pos}
theorem Tf:PE X (.Dict [] [] pos) Wx:=λjy s B H Q I h=>
 wpAny_Dict_empty ⟨.ref s.heap.objs.size,_,I.laid (a:=s.heap.objs.size) (o:=.dK []) (t':=s.toks) (λ_ _ q=>ag _ q) (ah _)<|Om s.heap I.big,Z,h _<|I.hok.fresh<|ah _⟩
theorem Jj:PE X (.Dict [] [] pos) Ww:=λjy s B H Q I h=>
 wpAny_Dict_empty ⟨.ref s.heap.objs.size,_,I.laid (a:=s.heap.objs.size) (o:=.dT []) (t':=s.toks) (λ_ _ q=>ag _ q) (ah _)<|Ug s.heap I.big,Z,h _<|I.hok.fresh<|ah _⟩
end
def ON:List (TE×TE)->St->Hp->(List (V×V)->Hp->Prop)->Prop
 |[],_,H,Q=>Q [] H
 | (tk,tv)::r,B,H,Q=>tk B H λx H1=>tv B H1 λy H2=>ON r B H2 λps H3=>Q ((x,y)::ps) H3
abbrev VV:List (V×V)->List (jJ×jJ)->Prop:=Paired λp q=>RelV p.1 q.1/\RelV p.2 q.2
def PPs(X:Cx)(pos:Pos)(keys:List<|Option j9)(values:List j9)(trs:List<|TE×TE):Prop:=
 ∀(jy:PNz)(s:jH)(B:St)(H:Hp)(Q:List (V×V)->Hp->Prop),Inv X jy B H s->ON trs B H Q ->
  jT (jS X.prog X.w) X.A (evalPairs<|pairTrees keys values X.env pos) (λvs s'=>∃ps H',Inv X jy B H' s'/\VV ps vs/\Q ps H') X.xe s
theorem Qx{X:Cx}{pos:Pos}:PPs X pos [] [] []:=λjy s B H Q I h=>pairTrees_nil_walk ⟨[],H,I,.nil,h⟩
theorem N9{X:Cx}{pos:Pos}{k v:j9}{ks:List<|Option j9}{vs:List j9}{tk tv:TE}{trs:List<|TE×TE}(hk:PE X k tk)(hv:PE X v tv)(hr:PPs X pos ks vs trs):
  PPs X pos (O k::ks) (v::vs) ((tk,tv)::trs):=λjy s B H Q I h=>
 pairTrees_cons_walk (thn (hk jy s B H _ I h) λu s1 ⟨x,H1,I1,rx,q1⟩=>thn (hv jy s1 B H1 _ I1 q1) λw2 s2 ⟨y,H2,I2,ry,q2⟩=>
  thn (hr jy s2 B H2 _ I2 q2) λws s3 ⟨ps,H3,I3,rel,q3⟩=>⟨(x,y)::ps,H3,I3,.cons ⟨rx,ry⟩ rel,q3⟩)
noncomputable def FO(kvs more:List<|Key×V):List (Key×V):=more.foldl (λacc kv=>De acc kv.1 kv.2) kvs
theorem KV.merge:∀{more:List<|Key×V}{rs:List<|Key×jJ}{kvs:List<|Key×V}{vs:List<|Key×jJ},KV more rs->KV kvs vs->KV (FO kvs more) (merged vs rs):=by
 intro more rs kvs vs r;unfold KV at r
 induction r generalizing kvs vs with
 |nil=>intro q;exact q
 |@cons p q ps qs h t ih=>
  intro r0;have e:KV (De kvs p.1 p.2) (stored vs q.1 q.2):=by
   have:=r0.put p.1 h.2;rw[<-h.1];exact this
  exact ih e
theorem Fx:∀(more kvs:List<|Key×V),(FO kvs more).length<=kvs.length+more.length
 |[],kvs=>by show kvs.length<=kvs.length+0;lia
 |p::r,kvs=>by
  have h1:=Fx r<|De kvs p.1 p.2;have h2:=Cn kvs p.1 p.2;show(FO (De kvs p.1 p.2) r).length<=_;rw[aL];lia
theorem JY{P:jN}{w:jW}:∀{kvs:List<|Key×V}{ws:List<|jJ×jJ},VV (kvs.map λkv=>(kV kv.1,kv.2)) ws->∃rs,Carries (AN P w) ws rs/\KV kvs rs
 |[],_,r=>by rw[bN]at r;cases r;exact⟨[],True.intro,.nil⟩
 |p::kvs,_,r=>by
  rw[aR]at r;cases r with
  |@cons a b as bs h t=>
   obtain⟨rs,c,q⟩:=JY (P:=P) (w:=w) t;obtain⟨b1,b2⟩:=b;exact⟨(p.1,b2)::rs,⟨JE h.1,Z,c⟩,.cons ⟨Z,h.2⟩ q⟩
def X1(trs:List<|TE×TE):TE:=λB H Q=>∀p,H p=Y->ON trs B (upd H p<|.dK []) λps H2=>H2 p=O (.dK [])/\∃kvs:List<|Key×V,ps=kvs.map (λkv=>(kV kv.1,kv.2))/\kvs.length<=15/\Q (.ref p) (upd H2 p<|.dK<|FO [] kvs)
theorem Q2{X:Cx}{pos:Pos}{keys:List<|Option j9}{values:List j9}{trs:List<|TE×TE}(h:PPs X pos keys values trs)(hall:keys.all (·.isSome)=nZ)(hl:keys.length=values.length)(h0:keys≠[])
  (h15:keys.length<=15):PE X (.Dict keys values pos) (X1 trs):=by
 intro jy s B H Q I q;have hn:=I.hok.fresh<|ah s.heap.objs.size;have I1:=I.laid (a:=s.heap.objs.size) (o:=.dK []) (h':=s.heap.push { cls:=.type "dict",data:=.dict #[]}) (t':=s.toks) (λ_ _ q=>ag _ q) (ah _)<|Om s.heap I.big;refine wpAny_Dict_walk (knd:=AN X.prog X.w) hall hl h0 h15<|thn (h jy _ B _ _ I1<|q _ hn) λws s2 hz_=>?_;obtain⟨ps,H2,I2,rel,e,kvs,ep,lk,q2⟩:=hz_;subst ep;obtain⟨rs,c,rk⟩:=JY (P:=X.prog) (w:=X.w) rel;obtain⟨z,hd,vs0,r0,dd⟩:=Uh I2.hok e;cases r0;refine⟨rs,c,dd,λh' dd' hs=>⟨.ref s.heap.objs.size,_,?_,Z,q2⟩⟩;have hz:(FO [] kvs).length<=jU:=by
  have h1:=Fx kvs [];rw[cY]at h1;rw[ka];lia
 have he:∃q,h'.get? s.heap.objs.size=O q:=let ⟨q,_,_,hq,_⟩:=dd';⟨q,hq⟩;exact MV I2 (by rw[e];exact True.intro) hs he<|Ui hz hd (rk.merge .nil) dd'
structure M2(X:Cx)(o:j9)(m:j5)(apos:Pos)(e f:j9)(cpos:Pos):Prop where
 jD:attributeBase o m X.env (eval o X.env)=eval o X.env
 few:((kr cpos<|jV [e,f] X.env).all (λx=>!x.1)&&(backToKw cpos<|keywordEach [] X.env).all (λx=>x.1.isSome)
 &&og (([e,f]:List j9).length+([]:List Keyword).length+(if ([]:List Keyword).isEmpty then 0 else 1)<30))=nZ
 line:(apos.endLine==cpos.line)=nZ
 trees:kr cpos (jV [e,f] X.env)=[(oe,eval e X.env),(oe,eval f X.env)]
def IsD(H:Hp)(a:jF):Prop:=(∃kvs,Rd H a<|.dK kvs)\/∃kvs,Rd H a<|.dT kvs
theorem TN{X:Cx}{jy:PNz}{B:St}{H:Hp}{s:jH}{a:jF}(I:Inv X jy B H s)(d:IsD H a):
  s.TypeIs (.ref a) "dict"/\(∀b,Value.ref a=.ref b->∃ob,s.heap.get? b=O ob/\ob.dict=Y)/\(a==kt)=oe:=by
 rcases d with⟨kvs,e⟩|⟨kvs,e⟩
 .obtain⟨_,hd,vs,_,dd⟩:=JV I.hok e;refine⟨dd.typeIs,λb q=>?_,hd⟩;cases q;obtain⟨ob,_,_,h1,h2,_⟩:=dd;exact⟨ob,h1,h2.2.1⟩
 .obtain⟨_,hd,xs,_,dd⟩:=JU I.hok e;refine⟨dd.typeIs,λb q=>?_,hd⟩;cases q;obtain⟨ob,_,_,h1,h2,_⟩:=dd;exact⟨ob,h1,h2.2.1⟩
section
variable{X:Cx}{jy:PNz}{B:St}{H:Hp}{s:jH}{a:jF}{y d:V}{u r:jJ}{o:Option V}{A:jZ}{E:VPz}
theorem WY{Q:VPz}(hu:A.units+1<kY)(I:Inv X jy B H s)(g:DGet H a y o)(ry:RelV y u)(rd:RelV d r)(h:∀w' s',Inv X jy B H s'->RelV (o.getD d) w'->Q w' s'):
  jT (jS X.prog X.w) A (call (.builtin "dict.get") [.ref a,u,r]) Q E s:=by
 rcases g with⟨kvs,k,e,ey,l⟩|⟨kvs,k,b,e,ey,eb,l⟩
 .subst ey;obtain⟨z,hd,vs,rel,dd⟩:=JV I.hok e;refine call_meetsIn dE dd.typeIs fq (fk _ _ _) (meets_dict_get_default (AN X.prog X.w) a (JE ry) hd r) ⟨_,dd.mapOf,h _ _ (I.tok _) ?_⟩;rw[l];exact(rel.val k).getD rd
 .subst ey;cases(show u=Value.ref b from ry);obtain⟨z,hd,xs,rel,dd⟩:=JU I.hok e;refine call_meetsIn dE dd.typeIs fq (fk _ _ _) (meetsH_dict_get_default (tupleKind<|AN X.prog X.w) a b hd r) ⟨kM hu,k,xs,GX I.hok eb,dd,h _ _ (I.tok _) ?_⟩;rw[l];exact(rel.val k).getD rd
end
def Wy(td ty tx:TE):TE:=λB H Q=>td B H λx H1=>∃a,x=.ref a/\IsD H1 a/\ty B H1 λy H2=>tx B H2 λz H3=>∃o,DGet H3 a y o/\Q (o.getD z) H3
section
variable{X:Cx}{o e f:j9}{apos cpos:Pos}{td ty tx:TE}
theorem Tg(hu:X.A.units+1<kY)(ho:PE X o td)(he:PE X e ty)(hf:PE X f tx)(m:M2 X o "get" apos e f cpos):PE X (.Call (.Attribute o "get" apos) [e,f] [] cpos) (Wy td ty tx):=by
 intro jy s B H Q I h;refine wpAny_Call_method m.jD m.few m.line ci dE PySem.F.type_dict_get<|thn (ho jy s B H _ I h) λu s1 hz_=>?_;obtain⟨x,H1,I1,rx,a,ex,d,q1⟩:=hz_;subst ex;obtain rfl:u=Value.ref a:=rx;obtain⟨t1,t2,_⟩:=TN I1 d;refine⟨t1,t2,?_⟩;rw[m.trees];refine Calls.callWith_builtin Z (Calls.evalArgs_plain<|Calls.spliced_cons<|thn (he jy s1 B H1 _ I1 q1) λiv s2 ⟨y,H2,I2,ry,q2⟩=>
  Calls.spliced_cons (thn (hf jy s2 B H2 _ I2 q2) λfv s3 ⟨z,H3,I3,rz,ov,g,q3⟩=>Calls.spliced_nil ?_))
 exact WY hu I3 g ry rz λw' s4 I4 rw'=>⟨_,H3,I4,rw',q3⟩
end
noncomputable def Ite(K:jX)(a:jF):It:=
 ⟨λi H=>∃xs x,SqL K H a xs/\xs[i]?=O x,λi H y H'=>∃t x,(∀xs,SqL K H a xs->xs[i]?=O x)/\y=.ref t/\H t=Y/\H'=upd H t (.tup [.int i,x]),λi H=>∃xs,SqL K H a xs/\xs.length<=i⟩
theorem Lz{X:Cx}{jy:PNz}{B:St}{H:Hp}{s:jH}{h':j6}{e it:jF}{t':Nat}{ys:LUz}(I:Inv X jy B H s)(fe:Ik X jy H e)(fi:Ik X jy H it)
  (k:∀b o,b≠e->b≠it->s.heap.get? b=O o->h'.get? b=O o) (he:∃o,h'.get? e=O o) (hi:∃o,h'.get? it=O o)
  (new:ObjOk X.prog X.w (upd H s.heap.objs.size<|.tup ys) h' s.heap.objs.size<|.tup ys):
  Inv X jy B (upd H s.heap.objs.size<|.tup ys) { s with heap:=h',toks:=t'}:=by
 have hn:H s.heap.objs.size=Y:=I.hok.fresh<|ah _;obtain⟨e0,e1,e2,e3,e4,e5⟩:=fe;obtain⟨i0,i1,i2,i3,i4,i5⟩:=fi;have nt:∀b u,H b=O u->b≠e/\b≠it:=λb u q=>⟨λz=>(by rw[z,e0]at q;cases q),λz=>(by rw[z,i0]at q;cases q)⟩;have nc:∀b,b∉[e,it]->b≠e/\b≠it:=λb hb=>⟨λz=>hb (by simp[z]),λz=>hb<|by simp[z]⟩;have ne:∀b u,H b=O u->b≠s.heap.objs.size:=λb u q=>Ad q hn;refine I.step (g':=s.gens) (d':=s.drawn) (ch:=[e,it]) (λb hb=>?_) (λb o _ _ hc q _=>k b o (nc b hc).1 (nc b hc).2 q) (λb o _ _ hc q _=>⟨o.slots,k b o (nc b hc).1 (nc b hc).2 q⟩)
  (λb o _ q n=>by rw[Af<|aM<|ay q];exact n) (λb o hc q=>⟨o,k b o (nc b hc).1 (nc b hc).2 q⟩) (λb xs q=>by rw[Af<|ne b _ q];exact q) (λb o u q=>by rw[Af<|ne b _ q];exact q)
  (λb ps q=>⟨#[],by rw[Af<|ne b _ q,q];simp⟩) (λm hm=>?_) (λb u q=>?_) I.bare
 .rcases aQ.mp hb with rfl|hb
  .exact⟨e3,e1,e4,e5⟩
  .rw[ae.mp hb];exact⟨i3,i1,i4,i5⟩
 .obtain⟨o,es,ep,ho,r⟩:=hm;exact⟨o,es,ep,k _ o (Ne.symm e1) (Ne.symm i1) ho,r⟩
 .by_cases hb:b=s.heap.objs.size
  .subst hb;rw[Ae]at q;cases q;exact new
  .rw[Af hb]at q;refine(I.hok b u q).stay (λc v hc z=>k c v ?_ ?_ z) (λc z=>by rw[Af<|ne c _ z];exact z) λc xs z=>by rw[Af<|ne c _ z];exact z
   .rcases hc with rfl|hc
    .exact(nt c u q).1
    .exact(nt c _ hc).1
   .rcases hc with rfl|hc
    .exact(nt c u q).2
    .exact(nt c _ hc).2
theorem Rw{P:jN}{w:jW}{K:jX}{es:List j9}{k:Nat}{pos:Pos}(a e it:jF)(hei:e≠it):
  PD P w K (.Tuple es k pos) (Ite K a) [e,it] e (λi h=>(∃old,IsEnum h e it i old)/\h.IsListIter it a i) where
 mem:=by simp
 obj:=λi h st b hb=>by
  obtain⟨⟨old,he⟩,⟨o,eo,c,d⟩⟩:=st;rcases aQ.mp hb with rfl|hb
  .exact⟨_,he,λv z=>by
    have z':Data.fields _=Data.cell v:=z;cases z'⟩
  .rw[ae.mp hb];exact⟨o,eo,λv z=>by rw[d]at z;cases z⟩
 keep:=λi h h' st kk=>by
  obtain⟨⟨old,he⟩,st⟩:=st;exact⟨⟨old,kk e (by simp) _ he⟩,st.at λo z=>kk it (by simp) o z⟩
 item:=by
  intro X hP hw hK hc i jy s B H E I hf st hg;subst hP hw hK;obtain⟨⟨old,he⟩,st⟩:=st;obtain⟨xs,x,hq,hx⟩:=hg;obtain⟨its,rv,p,hz⟩:=I.list hq;obtain⟨u,hu,ru⟩:=rv.get hx;have fe:=hf e (by simp);have fi:=hf it (by simp);refine wpAny_pyNext_enum_item he st p.isList (x:=u) (by simpa using hu) hei λh' he' st' ht hz' kk=>?_;refine⟨_,Z,?_⟩;have ltE:e<s.heap.objs.size:=ay he;have hn:H s.heap.objs.size=Y:=I.hok.fresh<|ah _;have I1:Inv X jy B (upd H s.heap.objs.size<|.tup [.int i,x]) { s with heap:=h',toks:=s.toks+1}:=by
   refine Lz I fe fi kk ⟨_,he'⟩ (let ⟨o,eo,_⟩:=st';⟨o,eo⟩) ⟨?_,[.int i s.toks,u],.cons ⟨_,Z⟩<|.cons ru .nil,⟨_,ht,Z,_,Z⟩⟩;show 2<=jU;decide
  refine wpAny_letOwnedTupleGo_enum (s:={s with heap:=h',toks:=s.toks+1}) he' λh2 he2 sb=>?_;have neE:e≠s.heap.objs.size:=aM ltE;have fe2:(upd H s.heap.objs.size<|.tup [.int i,x]) e=Y:=by rw[Af neE];exact fe.1
  have I2:Inv X jy B (upd H s.heap.objs.size<|.tup [.int i,x]) { ({s with heap:=h',toks:=s.toks+1}:jH)with heap:=h2,toks:=s.toks+1}:=
   I1.turned (t':=s.toks+1) (it:=e) (λb o hb z=>(sb.2 b hb).trans z) fe2 fe.2.1 fe.2.2.2.1 fe.2.2.2.2.1 fe.2.2.2.2.2
  obtain⟨oi,hoi,_⟩:=id st;have ltI:it<s.heap.objs.size:=ay hoi;refine⟨.ref s.heap.objs.size,_,I2,Z,⟨_,x,λys hy=>by rw[I.list_inj hy hq];exact hx,Z,hn,Z⟩,⟨⟨u,?_⟩,?_⟩,λb hb=>?_⟩
  .have e1:((i+1:Nat):Int)=(i:Int)+1:=by push_cast;rfl
   rw[e1];exact he2
  .exact st'.at λo z=>(sb.2 it<|Ne.symm hei).trans z
  .rcases aQ.mp hb with rfl|hb
   .exact fe2
   .rw[ae.mp hb,Af<|aM ltI];exact fi.1
 done:=by
  intro X hP hw hK hc i jy s B H E I hf st hg;subst hP hw hK;obtain⟨⟨old,he⟩,st⟩:=st;obtain⟨xs,hq,hx⟩:=hg;obtain⟨its,rv,p,hz⟩:=I.list hq;obtain⟨f0,f1,f2,f3,f4,f5⟩:=hf it (by simp);have hl:=rv.length;exact wpAny_pyNext_enum_end (I.ok.hd hc) he st p.isList (by simp;lia) λh' eb=>⟨Z,I.turned (t':=s.toks) (λb o hb z=>eb b o hb z) f0 f1 f3 f4 f5⟩
 self:=λ_ _ _ _ _ st h=>by
  obtain⟨⟨old,he⟩,_⟩:=st;exact wpAny_pyIter_enum he h
def Yl(K:jX)(ta:TA):TI:=λB H R=>ta B H λvs H1=>∃a,vs=[.ref a]/\(∃xs,SqL K H1 a xs)/\R (Ite K a) H1
section
variable{X:Cx}
theorem Iu{a:j9}{es:List j9}{k:Nat}{tpos:Pos}{ta:TA}{p pos:Pos}(hg:Gl X "enumerate")(hm:X.mg "enumerate"=Y)(ha:PA X [a] ta)(hs:jV [a] X.env=[(oe,eval a X.env)]:=by rfl):
  PI X (.Tuple es k tpos) (.Call (.Name "enumerate" p) [a] [] pos) (Yl X.K ta):=by
 intro jy s B H R I h;refine Call_<|Eh I hg hm boot_enumerate<|PyProof.Rows.callWith_type1 (thn (ha pos jy s B H _ I h) λus s1 hz_=>?_) hs Z;obtain⟨vs,H1,I1,r1,q1⟩:=hz_;obtain⟨b,e,⟨xs,hq⟩,q⟩:=q1;subst e;cases r1 with
 |cons r rr=>
  cases rr;cases r;obtain⟨its,rv,pl,hz⟩:=I1.list hq;refine call_enumerate_list pl.isList λh' he hit hsz hk=>?_;have I2:Inv X jy B H1 { s1 with heap:=h'}:=I1.kept (t':=s1.toks) hk;refine wpAny_pyIter_enum (s:={s1 with heap:=h'}) he ?_;refine⟨s1.heap.objs.size+1,[s1.heap.objs.size+1,s1.heap.objs.size],_,_,H1,Z,I2,Rw b _ _<|Nat.succ_ne_self _,⟨⟨_,he⟩,hit⟩,λc hc=>?_,q⟩;rcases aQ.mp hc with rfl|hc
  .exact I1.fpOk (bT _) (I1.hok.fresh<|bT _)
  .rw[ae.mp hc];exact I1.fpOk (ah _)<|I1.hok.fresh<|ah _
end
theorem Gx{K:jX}{a:jF}{xs:LUz}{g:TG}{tb:TS}{D:E4}{B:St}{H:Hp}(Pv:Nat->St->Hp->Prop)(h0:Pv 0 B H)(hl:∀i B H,i<=xs.length->Pv i B H->SqL K H a xs)
  (hs:∀i x B H t,xs[i]?=O x->Pv i B H->H t=Y->g (.ref t) B (upd H t<|.tup [.int i,x]) λσ2 H2=>tb { D with nx:=Pv<|i+1,ct:=Pv<|i+1,bk:=D.nx} σ2 H2) (hd:∀B H,Pv xs.length B H->D.nx B H):
  ∃W:Nat->Nat->St->Hp->Prop,(∃m,W 0 m B H)/\∀i m B H,W i m B H ->
   ((Ite K a).stop i H/\D.nx B H)\/((Ite K a).go i H/\∃N:St->Hp->Prop,(∀σ' H',N σ' H'->∃m',m'<m/\W (i+1) m' σ' H')/\∀x H',(Ite K a).yld i H x H'->g x B H' λσ2 H2=>tb { D with nx:=N,ct:=N,bk:=D.nx} σ2 H2):=by
 refine⟨λi m B H=>m=xs.length-i/\i<=xs.length/\Pv i B H,⟨xs.length,by simp,aU _,h0⟩,?_⟩;rintro i m B H ⟨rfl,hi,p⟩;have q:=hl i B H hi p;by_cases hlt:i<xs.length
 .refine .inr ⟨⟨xs,xs[i],q,by simp[hlt]⟩,Pv<|i+1,λσ' H' p'=>⟨xs.length-(i+1),by lia,Z,hlt,p'⟩,λx H' y=>?_⟩;obtain⟨t,z,hz,rfl,ht,rfl⟩:=y;exact hs i z B H t (hz xs q) p ht
 .have e:i=xs.length:=by lia
  subst e;exact .inl ⟨⟨xs,q,ah _⟩,hd B H p⟩
open PySem.SeqAt
mutual
inductive D where
 |at (v:V)
 |tup (xs:Ds)
 |lst (xs:Ds)
inductive Ds where
 |nil
 |cons (d:D) (r:Ds)
end
mutual
def DIs(K:jX)(H:Hp):D->V->Prop
 |.at u,v=>v=u/\Dl u=nZ
 |.tup ds,v=>∃a xs,v=.ref a/\SqT K H a xs/\DIss K H ds xs
 |.lst ds,v=>∃a xs,v=.ref a/\SqL K H a xs/\DIss K H ds xs
def DIss(K:jX)(H:Hp):Ds->LUz->Prop
 |.nil,xs=>xs=[]
 |.cons d r,xs=>∃x ys,xs=x::ys/\DIs K H d x/\DIss K H r ys
end
mutual
noncomputable def dep:D->Nat
 |.at _=>0
 |.tup ds=>D7 ds+1
 |.lst ds=>D7 ds+1
noncomputable def D7:Ds->Nat
 |.nil=>0
 |.cons d r=>max (dep d)<|D7 r
end
mutual
noncomputable def deq:D->D->Bool
 |.at u,.at v=>eqV u v
 |.tup xs,.tup ys=>Co xs ys
 |.lst xs,.lst ys=>Co xs ys
 |_,_=>oe
noncomputable def Co:Ds->Ds->Bool
 |.nil,.nil=>nZ
 |.cons d r,.cons e q=>deq d e&&Co r q
 |_,_=>oe
end
noncomputable def Ds.len:Ds->Nat
 |.nil=>0
 |.cons _ r=>r.len+1
noncomputable def Ds.get:Ds->Nat->D
 |.nil,_=>.at .non
 |.cons d _,0=>d
 |.cons _ r,i+1=>r.get i
theorem BX:∀(ds es:Ds),((List.range<|min ds.len es.len).all (λj=>deq (ds.get j)<|es.get j)&&ds.len==es.len)=Co ds es
 |.nil,.nil=>rfl
 |.nil,.cons e q=>by simp[Ds.len,Co]
 |.cons d r,.nil=>by simp[Ds.len,Co]
 |.cons d r,.cons e q=>by
  have ih:=BX r q;rw[show Co (.cons d r) (.cons e q)=(deq d e&&Co r q)from by rw[Co],<-ih];show((List.range<|min (r.len+1)<|q.len+1).all _&&(r.len+1==q.len+1))=_;rw[show min (r.len+1) (q.len+1)=min r.len q.len+1 by lia,List.range_succ_eq_map,dY,fK,Bool.and_assoc];congr 1;rw[show(r.len+1==q.len+1)=(r.len==q.len) by simp];rfl
mutual
theorem Gz:∀{K:jX}{H:Hp}(d:D){v:V},DIs K H d v->deq d d=nZ
 |_,_,.at u,v,h=>by
  obtain⟨_,hf⟩:=(show v=u/\Dl u=nZ by simpa [DIs]using h);rw[deq];cases u<;>simp_all [Dl,eqV]
 |_,_,.tup ds,v,h=>by
  obtain⟨a,xs,_,_,q⟩:=h;rw[deq];exact Hi ds q
 |_,_,.lst ds,v,h=>by
  obtain⟨a,xs,_,_,q⟩:=h;rw[deq];exact Hi ds q
theorem Hi:∀{K:jX}{H:Hp}(ds:Ds){xs:LUz},DIss K H ds xs->Co ds ds=nZ
 |_,_,.nil,_,_=>by rw[Co]
 |_,_,.cons d r,xs,h=>by
  obtain⟨x,ys,_,h1,h2⟩:=h;rw[Co,Gz d h1,Hi r h2];rfl
end
theorem DIss.len{K:jX}{H:Hp}:∀{ds:Ds}{xs:LUz},DIss K H ds xs->ds.len=xs.length
 |.nil,xs,h=>by rw[h];rfl
 |.cons d r,xs,h=>by
  obtain⟨x,ys,rfl,_,h2⟩:=h;show r.len+1=ys.length+1;rw[DIss.len h2]
theorem DIss.get{K:jX}{H:Hp}:∀{ds:Ds}{xs:LUz}{i:Nat}{x:V},DIss K H ds xs->xs[i]?=O x->DIs K H (ds.get i) x
 |.nil,xs,i,x,h,e=>by rw[h]at e;simp at e
 |.cons d r,xs,i,x,h,e=>by
  obtain⟨y,ys,rfl,h1,h2⟩:=h;cases i with
  |zero=>simp at e;subst e;exact h1
  |succ i=>
   show DIs K H (r.get i) x;exact DIss.get h2 (by simpa using e)
theorem IA:∀(ds:Ds)(i:Nat),i<ds.len->dep (ds.get i)<=D7 ds
 |.nil,i,h=>absurd h (by simp[Ds.len])
 |.cons d r,0,_=>by show dep d<=_;rw[D7];lia
 |.cons d r,i+1,h=>by
  have:=IA r i (by simpa [Ds.len]using h);show dep (r.get i)<=_;rw[D7];lia
section
variable{X:Cx}{jy:PNz}{B:St}{H:Hp}{s:jH}
mutual
theorem DIs.inj(I:Inv X jy B H s):∀{d e:D}{v:V},DIs X.K H d v->DIs X.K H e v->d=e
 |.at u,.at w',v,h,h'=>by
  rw[<-h.1,<-h'.1]
 |.at u,.tup ds,v,h,h'=>by
  obtain⟨a,xs,e,_⟩:=h';have:=h.2;rw[<-h.1,e]at this;cases this
 |.at u,.lst ds,v,h,h'=>by
  obtain⟨a,xs,e,_⟩:=h';have:=h.2;rw[<-h.1,e]at this;cases this
 |.tup ds,.at u,v,h',h=>by
  obtain⟨a,xs,e,_⟩:=h';have:=h.2;rw[<-h.1,e]at this;cases this
 |.lst ds,.at u,v,h',h=>by
  obtain⟨a,xs,e,_⟩:=h';have:=h.2;rw[<-h.1,e]at this;cases this
 |.tup ds,.tup es,v,h,h'=>by
  obtain⟨a,xs,rfl,h1,h2⟩:=h;obtain⟨b,ys,e,k1,k2⟩:=h';cases e;have e:=I.tuple_inj h1 k1;subst e;rw[DIss.inj I h2 k2]
 |.lst ds,.lst es,v,h,h'=>by
  obtain⟨a,xs,rfl,h1,h2⟩:=h;obtain⟨b,ys,e,k1,k2⟩:=h';cases e;have e:=I.list_inj h1 k1;subst e;rw[DIss.inj I h2 k2]
 |.tup ds,.lst es,v,h,h'=>by
  obtain⟨a,xs,rfl,h1,h2⟩:=h;obtain⟨b,ys,e,k1,k2⟩:=h';cases e;obtain⟨_,_,t1,_⟩:=I.tuple h1;obtain⟨_,_,t2,_⟩:=I.list k1;exact absurd Z (ne_of_list_tuple t2.isList (show s.heap.IsTuple a _ from t1))
 |.lst ds,.tup es,v,h,h'=>by
  obtain⟨a,xs,rfl,h1,h2⟩:=h;obtain⟨b,ys,e,k1,k2⟩:=h';cases e;obtain⟨_,_,t1,_⟩:=I.tuple k1;obtain⟨_,_,t2,_⟩:=I.list h1;exact absurd Z (ne_of_list_tuple t2.isList (show s.heap.IsTuple a _ from t1))
theorem DIss.inj(I:Inv X jy B H s):∀{ds es:Ds}{xs:LUz},DIss X.K H ds xs->DIss X.K H es xs->ds=es
 |.nil,.nil,xs,h,h'=>rfl
 |.nil,.cons d r,xs,h,h'=>by
  obtain⟨x,ys,e,_⟩:=h';rw[h]at e;cases e
 |.cons d r,.nil,xs,h',h=>by
  obtain⟨x,ys,e,_⟩:=h';rw[h]at e;cases e
 |.cons d r,.cons e q,xs,h,h'=>by
  obtain⟨x,ys,rfl,h1,h2⟩:=h;obtain⟨y,zs,e',k1,k2⟩:=h';cases e';rw[DIs.inj I h1 k1,DIss.inj I h2 k2]
end
theorem JO{A:jZ}{u:V}{x:jJ}{l:jF}{items:Array jJ}(r:RelV u x)(f:Dl u=nZ)(hl:s.heap.IsTuple l items)(hu:A.units<kY):EqAt A s x (.ref l) oe/\EqAt A s (.ref l) x oe:=by
 cases u with
 |non=>cases r;exact⟨.none_tuple hl hu,.tuple_none hl hu⟩
 |bl b=>cases r;exact⟨.bool_tuple b hl hu,.tuple_bool b hl hu⟩
 |int b=>obtain⟨t,rfl⟩:=r;exact⟨.int_tuple b t hl hu,.tuple_int b t hl hu⟩
 |str b=>obtain⟨t,rfl⟩:=r;exact⟨.str_tuple b t hl hu,.tuple_str b t hl hu⟩
 |_=>exact absurd (show oe=nZ from f) au
theorem JP{A:jZ}{u:V}{x:jJ}{l:jF}{items:Array jJ}(r:RelV u x)(f:Dl u=nZ)(hl:s.heap.IsList l items)(hu:A.units<kY):EqAt A s x (.ref l) oe/\EqAt A s (.ref l) x oe:=by
 cases u with
 |non=>cases r;exact⟨.none_list hl hu,.list_none hl hu⟩
 |bl b=>cases r;exact⟨.bool_list b hl hu,.list_bool b hl hu⟩
 |int b=>obtain⟨t,rfl⟩:=r;exact⟨.int_list b t hl hu,.list_int b t hl hu⟩
 |str b=>obtain⟨t,rfl⟩:=r;exact⟨.str_list b t hl hu,.list_str b t hl hu⟩
 |_=>exact absurd (show oe=nZ from f) au
theorem WV(I:Inv X jy B H s):∀(n:Nat)(A:jZ)(d e:D)(x y:V)(u v:jJ),dep d<=n->DIs X.K H d x->DIs X.K H e y->RelV x u->RelV y v->A.units+n<kY->EqAt A s u v (deq d e):=by
 intro n
 induction n with
 |zero=>
  intro A d e x y u v hn hd he rx ry hu;cases d with
  |tup ds=>rw[dep]at hn;lia
  |lst ds=>rw[dep]at hn;lia
  | «at» p=>
   obtain⟨rfl,hf⟩:=hd;cases e with
   | «at» q=>
    obtain⟨rfl,hg⟩:=he;rw[deq];exact P5 rx ry hf hg
   |tup es=>
    obtain⟨b,ys,rfl,h1,_⟩:=he;obtain⟨_,_,t,_⟩:=I.tuple h1;cases ry;rw[deq]
    .exact(JO rx hf (show s.heap.IsTuple b _ from t) hu).1
    all_goals (intros;simp_all)
   |lst es=>
    obtain⟨b,ys,rfl,h1,_⟩:=he;obtain⟨_,_,t,_⟩:=I.list h1;cases ry;rw[deq]
    .exact(JP rx hf t.isList hu).1
    all_goals (intros;simp_all)
 |succ n ih=>
  intro A d e x y u v hn hd he rx ry hu;have hu1:A.in1.units+n<kY:=by show A.units+1+n<kY;lia
  cases d with
  | «at» p=>
   obtain⟨rfl,hf⟩:=hd;cases e with
   | «at» q=>
    obtain⟨rfl,hg⟩:=he;rw[deq];exact P5 rx ry hf hg
   |tup es=>
    obtain⟨b,ys,rfl,h1,_⟩:=he;obtain⟨_,_,t,_⟩:=I.tuple h1;cases ry;rw[deq]
    .exact(JO rx hf (show s.heap.IsTuple b _ from t)<|by lia).1
    all_goals (intros;simp_all)
   |lst es=>
    obtain⟨b,ys,rfl,h1,_⟩:=he;obtain⟨_,_,t,_⟩:=I.list h1;cases ry;rw[deq]
    .exact(JP rx hf t.isList<|by lia).1
    all_goals (intros;simp_all)
  |tup ds=>
   have hd0:=hd;rw[dep]at hn;obtain⟨a,xs,rfl,h1,h2⟩:=hd;obtain⟨i1,r1,t1,_⟩:=I.tuple h1;cases rx;cases e with
   | «at» q=>
    obtain⟨rfl,hg⟩:=he;rw[deq]
    .exact(JO ry hg (show s.heap.IsTuple a _ from t1)<|by lia).2
    all_goals (intros;simp_all)
   |lst es=>
    obtain⟨b,ys,rfl,k1,_⟩:=he;obtain⟨_,_,t2,_⟩:=I.list k1;cases ry;rw[deq]
    .exact EqAt.tuple_list (show s.heap.IsTuple a _ from t1) t2.isList (by lia)
    all_goals (intros;simp_all)
   |tup es=>
    have he0:=he;obtain⟨b,ys,rfl,k1,k2⟩:=he;obtain⟨i2,r2,t2,_⟩:=I.tuple k1;cases ry;by_cases hab:a=b
    .subst hab;rw[DIs.inj I he0 hd0,Gz _ hd0];exact EqAt.same _
    .refine EqAt.of_refs hab ?_;have:=RcAt.tuples (A:=A) (e:=λj=>deq (ds.get j)<|es.get j) (show s.heap.IsTuple a i1.toArray from t1) (show s.heap.IsTuple b i2.toArray from t2) (by lia) λj g1 g2=>?_
     .have l1:=r1.length;have l2:=r2.length;have m1:=h2.len;have m2:=k2.len;rw[aj,aj,<-l1,<-l2,<-m1,<-m2,BX]at this;rw[deq];exact this
     .have l1:=r1.length;have l2:=r2.length;have m1:=h2.len;have g1':j<xs.length:=by simp at g1;lia
      have g2':j<ys.length:=by simp at g2;lia
      obtain⟨u1,e1,q1⟩:=r1.get<|ai g1';obtain⟨u2,e2,q2⟩:=r2.get<|ai g2';have d1:i1.toArray[j]=u1:=by
       have:i1[j]?=O i1.toArray[j]:=by simp
       rw[e1]at this;exact(Option.some.inj this).symm
      have d2:i2.toArray[j]=u2:=by
       have:i2[j]?=O i2.toArray[j]:=by simp
       rw[e2]at this;exact(Option.some.inj this).symm
      rw[d1,d2];exact ih _ _ _ _ _ _ _ (aV (IA ds j<|by lia)<|by lia) (h2.get<|ai g1') (k2.get<|ai g2') q1 q2 hu1
  |lst ds=>
   have hd0:=hd;rw[dep]at hn;obtain⟨a,xs,rfl,h1,h2⟩:=hd;obtain⟨i1,r1,t1,_⟩:=I.list h1;cases rx;cases e with
   | «at» q=>
    obtain⟨rfl,hg⟩:=he;rw[deq]
    .exact(JP ry hg t1.isList<|by lia).2
    all_goals (intros;simp_all)
   |tup es=>
    obtain⟨b,ys,rfl,k1,_⟩:=he;obtain⟨_,_,t2,_⟩:=I.tuple k1;cases ry;rw[deq]
    .exact EqAt.list_tuple t1.isList (show s.heap.IsTuple b _ from t2) (by lia)
    all_goals (intros;simp_all)
   |lst es=>
    have he0:=he;obtain⟨b,ys,rfl,k1,k2⟩:=he;obtain⟨i2,r2,t2,_⟩:=I.list k1;cases ry;by_cases hab:a=b
    .subst hab;rw[DIs.inj I he0 hd0,Gz _ hd0];exact EqAt.same _
    .refine EqAt.of_refs hab ?_;have l1:=r1.length;have l2:=r2.length;have m1:=h2.len;have m2:=k2.len;rw[deq];rw[<-BX];by_cases hz:ds.len=es.len
     .have:=RcAt.lists (A:=A) (e:=λj=>deq (ds.get j)<|es.get j) t1.isList t2.isList (by simp;lia) (by lia) λj g1 g2=>?_
      .rw[aj,<-l1,<-m1]at this;rw[hz,eR,beq_self_eq_true,dZ,<-hz];exact this
      .have g1':j<xs.length:=by simp at g1;lia
       have g2':j<ys.length:=by simp at g2;lia
       obtain⟨u1,e1,q1⟩:=r1.get<|ai g1';obtain⟨u2,e2,q2⟩:=r2.get<|ai g2';have d1:i1.toArray[j]=u1:=by
        have:i1[j]?=O i1.toArray[j]:=by simp
        rw[e1]at this;exact(Option.some.inj this).symm
       have d2:i2.toArray[j]=u2:=by
        have:i2[j]?=O i2.toArray[j]:=by simp
        rw[e2]at this;exact(Option.some.inj this).symm
       rw[d1,d2];exact ih _ _ _ _ _ _ _ (aV (IA ds j<|by lia)<|by lia) (h2.get<|ai g1') (k2.get<|ai g2') q1 q2 hu1
     .have e0:(ds.len==es.len)=oe:=by simpa using hz
      rw[e0,dj];exact RcAt.lists_lengths t1.isList t2.isList (by simp;lia) (by lia)
end
section
variable{X:Cx}
theorem I0{jy:PNz}{B:St}{H:Hp}{s:jH}(I:Inv X jy B H s){A:jZ}{ds es:Ds}{xs ys:LUz}{i1 i2:LWz}(h2:DIss X.K H ds xs)(k2:DIss X.K H es ys)(r1:Vals xs i1)(r2:Vals ys i2)
  (hu:A.units+60<kY) (hd:D7 ds<=50):∀j (g1:j<i1.toArray.size) (g2:j<i2.toArray.size),EqAt A.in1 s i1.toArray[j] i2.toArray[j] (deq (ds.get j)<|es.get j):=λj g1 g2=>by
 have l1:=r1.length;have l2:=r2.length;have m1:=h2.len;have g1':j<xs.length:=by simp at g1;lia
 have g2':j<ys.length:=by simp at g2;lia
 obtain⟨u1,e1,q1⟩:=r1.get<|ai g1';obtain⟨u2,e2,q2⟩:=r2.get<|ai g2';have d1:i1.toArray[j]=u1:=by
  have:i1[j]?=O i1.toArray[j]:=by simp
  rw[e1]at this;exact(Option.some.inj this).symm
 have d2:i2.toArray[j]=u2:=by
  have:i2[j]?=O i2.toArray[j]:=by simp
  rw[e2]at this;exact(Option.some.inj this).symm
 rw[d1,d2];exact WV I 50 _ _ _ _ _ _ _ (aV (IA ds j<|by lia) hd) (h2.get<|ai g1') (k2.get<|ai g2') q1 q2 (by show A.units+1+50<kY;lia)
def W3(K:jX)(neg:Bool):R2:=λx y H Q=>∃d e,DIs K H d x/\DIs K H e y/\(∃a,x=.ref a)/\(∃b,y=.ref b)/\dep d<=50/\Q (.bl<|if neg then !deq d e else deq d e) H
theorem Pj{k:Nat}(hr:Room k X.A):OpR X (kh .Eq) (W3 X.K oe):=by
 intro jy s B H x y v u Q I rx ry h;obtain⟨d,e,hd,he,⟨a,rfl⟩,⟨b,rfl⟩,hn,q⟩:=h;cases rx;cases ry;have hu:=hr.units;cases d with
 | «at» p=>obtain⟨rfl,hf⟩:=hd;cases hf
 |tup ds=>
  rw[dep]at hn;obtain⟨a',xs,e',h1,h2⟩:=hd;cases e';obtain⟨i1,r1,t1,_⟩:=I.tuple h1;cases e with
  | «at» p=>obtain⟨rfl,hf⟩:=he;cases hf
  |tup es=>
   obtain⟨b',ys,e',k1,k2⟩:=he;cases e';obtain⟨i2,r2,t2,_⟩:=I.tuple k1;refine RcAt.tuples (show s.heap.IsTuple a i1.toArray from t1) (show s.heap.IsTuple b i2.toArray from t2) (by lia) (I0 I h2 k2 r1 r2 (by lia)<|by lia) _ _ _ _ ⟨.bl _,H,I,?_,q⟩;show Value.bool _=Value.bool _;rw[aj,aj,<-r1.length,<-r2.length,<-h2.len,<-k2.len,BX];simp only[aS,if_false];rw[deq]
  |lst es=>
   obtain⟨b',ys,e',k1,k2⟩:=he;cases e';obtain⟨i2,r2,t2,_⟩:=I.list k1;refine RcAt.tuple_list (show s.heap.IsTuple a _ from t1) t2.isList (by lia) _ _ _ _ ⟨.bl _,H,I,?_,q⟩;show Value.bool _=Value.bool _;simp only[aS,if_false];rw[deq]<;>(intros;simp_all)
 |lst ds=>
  rw[dep]at hn;obtain⟨a',xs,e',h1,h2⟩:=hd;cases e';obtain⟨i1,r1,t1,_⟩:=I.list h1;cases e with
  | «at» p=>obtain⟨rfl,hf⟩:=he;cases hf
  |tup es=>
   obtain⟨b',ys,e',k1,k2⟩:=he;cases e';obtain⟨i2,r2,t2,_⟩:=I.tuple k1;refine RcAt.list_tuple t1.isList (show s.heap.IsTuple b _ from t2) (by lia) _ _ _ _ ⟨.bl _,H,I,?_,q⟩;show Value.bool _=Value.bool _;simp only[aS,if_false];rw[deq]<;>(intros;simp_all)
  |lst es=>
   obtain⟨b',ys,e',k1,k2⟩:=he;cases e';obtain⟨i2,r2,t2,_⟩:=I.list k1;have l1:=r1.length;have l2:=r2.length;have m1:=h2.len;have m2:=k2.len;by_cases hz:ds.len=es.len
   .refine RcAt.lists t1.isList t2.isList (by simp;lia) (by lia) (I0 I h2 k2 r1 r2 (by lia)<|by lia) _ _ _ _ ⟨.bl _,H,I,?_,q⟩;show Value.bool _=Value.bool _;simp only[aS,if_false];rw[deq,<-BX,aj,<-l1,<-m1,hz,eR,beq_self_eq_true,dZ]
   .refine RcAt.lists_lengths t1.isList t2.isList (by simp;lia) (by lia) _ _ _ _ ⟨.bl _,H,I,?_,q⟩;show Value.bool _=Value.bool _;have e0:(ds.len==es.len)=oe:=by simpa using hz
    simp only[aS,if_false];rw[deq,<-BX,e0,dj]
theorem Ph{k:Nat}(hr:Room k X.A):OpR X (kh .NotEq) (W3 X.K nZ):=by
 intro jy s B H x y v u Q I rx ry h;obtain⟨d,e,hd,he,⟨a,rfl⟩,⟨b,rfl⟩,hn,q⟩:=h;cases rx;cases ry;have hu:=hr.units;cases d with
 | «at» p=>obtain⟨rfl,hf⟩:=hd;cases hf
 |tup ds=>
  rw[dep]at hn;obtain⟨a',xs,e',h1,h2⟩:=hd;cases e';obtain⟨i1,r1,t1,_⟩:=I.tuple h1;cases e with
  | «at» p=>obtain⟨rfl,hf⟩:=he;cases hf
  |tup es=>
   obtain⟨b',ys,e',k1,k2⟩:=he;cases e';obtain⟨i2,r2,t2,_⟩:=I.tuple k1;refine RcNeAt.tuples (show s.heap.IsTuple a i1.toArray from t1) (show s.heap.IsTuple b i2.toArray from t2) (by lia) (I0 I h2 k2 r1 r2 (by lia)<|by lia) _ _ _ _ ⟨.bl _,H,I,?_,q⟩;show Value.bool _=Value.bool _;rw[aj,aj,<-r1.length,<-r2.length,<-h2.len,<-k2.len,BX];simp only[if_true];rw[deq]
  |lst es=>
   obtain⟨b',ys,e',k1,k2⟩:=he;cases e';obtain⟨i2,r2,t2,_⟩:=I.list k1;refine RcNeAt.tuple_list (show s.heap.IsTuple a _ from t1) t2.isList (by lia) _ _ _ _ ⟨.bl _,H,I,?_,q⟩;show Value.bool _=Value.bool _;simp only[if_true];rw[deq]<;>first|rfl|(intros;simp_all)
 |lst ds=>
  rw[dep]at hn;obtain⟨a',xs,e',h1,h2⟩:=hd;cases e';obtain⟨i1,r1,t1,_⟩:=I.list h1;cases e with
  | «at» p=>obtain⟨rfl,hf⟩:=he;cases hf
  |tup es=>
   obtain⟨b',ys,e',k1,k2⟩:=he;cases e';obtain⟨i2,r2,t2,_⟩:=I.tuple k1;refine RcNeAt.list_tuple t1.isList (show s.heap.IsTuple b _ from t2) (by lia) _ _ _ _ ⟨.bl _,H,I,?_,q⟩;show Value.bool _=Value.bool _;simp only[if_true];rw[deq]<;>first|rfl|(intros;simp_all)
  |lst es=>
   obtain⟨b',ys,e',k1,k2⟩:=he;cases e';obtain⟨i2,r2,t2,_⟩:=I.list k1;have l1:=r1.length;have l2:=r2.length;have m1:=h2.len;have m2:=k2.len;by_cases hz:ds.len=es.len
   .refine RcNeAt.lists t1.isList t2.isList (by simp;lia) (by lia) (I0 I h2 k2 r1 r2 (by lia)<|by lia) _ _ _ _ ⟨.bl _,H,I,?_,q⟩;show Value.bool _=Value.bool _;simp only[if_true];rw[deq,<-BX,aj,<-l1,<-m1,hz,eR,beq_self_eq_true,dZ]
   .refine RcNeAt.lists_lengths t1.isList t2.isList (by simp;lia) (by lia) _ _ _ _ ⟨.bl _,H,I,?_,q⟩;show Value.bool _=Value.bool _;have e0:(ds.len==es.len)=oe:=by simpa using hz
    simp only[if_true];rw[deq,<-BX,e0,dj];rfl
end
section
variable{X:Cx}{e st:j9}{te ts:TE}{pos p2:Pos}
def YF(K:jX)(te ts:TE):TE:=λB H Q=>te B H λx H1=>ts B H1 λy H2=>∃a xs,x=.ref a/\y=.int (-1)/\SqL K H2 a xs/\∀p,H2 p=Y->Q (.ref p) (upd H2 p<|.lst xs.reverse)
theorem W6(he:PE X e te)(hs:PE X st ts):PE X (.Subscript e (.Slice Y Y (O st) p2) pos) (YF X.K te ts):=by
 intro jy s B H Q I h;refine Subscript_<|thn (he jy s B H _ I h) λv s1 hz_=>?_;obtain⟨x,H1,I1,r1,q1⟩:=hz_;refine wpAny_Slice ?_;rw[evalPart_none];refine jL ?_;refine jL ?_;rw[evalPart_some];refine thn (hs jy s1 B H1 _ I1 q1) λu s2 hz_=>?_;obtain⟨y,H2,I2,r2,q2⟩:=hz_;obtain⟨a,xs,rfl,rfl,hx,q⟩:=q2;obtain⟨t,rfl⟩:=r2;cases r1;have I4:Inv X jy B H2 { s2 with heap:=s2.heap.push { cls:=.type "slice",data:=.fields #[.none,.none,.int (-1) t]}}:=I2.kept (t':=s2.toks) λb ob q=>ag _ q;obtain⟨its,r,ht,hz⟩:=I4.list hx;have hlen:=r.length;refine tail_any (ops:=[.ref a,.ref s2.heap.objs.size]) (id:="list.__getitem__") ht.isList.typeIs slot_list_getitem.lookup ?_ (by with_unfolding_all rfl);refine wpAny_getItem_list_slice ht.isList (Heap.IsSliceOf.new ..) .none .none (.int (-1) t) (by simp) ?_ (by rw[aj]<;>lia);rw[krv_pick];show EP X jy B Q (.ref _) _;refine⟨.ref _,_,I4.laid (t':=s2.toks) (o:=.lst xs.reverse) (λb ob q=>ag _ q) (ah _) ?_,Z,q _<|I4.hok.fresh<|ah _⟩;exact⟨by rw[List.length_reverse];exact hz,_,0,r.reverse,aH _ Z⟩
end
structure Kg(P:jN)(w:jW)(K:jX)(mg:MGz)(jD:j6)(k:Nat)(x:j5)(C:jF)(ps:LSz)(sp:Sp):Prop where
 ex:∃(f:jF)(fd:jM),Mk K C f/\A8 P w K mg jD CX0 k f fd ps sp/\mg x=O (.ref C)/\Binds K fd ps []
structure Ij(P:jN)(w:jW)(K:jX)(mg:MGz)(jD:j6)(k:Nat)(C:jF)(m:j5)(ps:LSz)(sp:Sp):Prop where
 cl:Cls K C
 ex:∃(f:jF)(fd:jM),VH K C m f/\A8 P w K mg jD CX0 k f fd ps sp/\Binds K fd ps []
section
variable{X:Cx}{k j:Nat}{x m:j5}{C:jF}{ps:LSz}{sp:Sp}{p pos apos:Pos}{e o:j9}{es:List j9}{t:TA}{ta:TE}
theorem ES(D:Kg X.prog X.w X.K X.mg X.jD k x C ps sp)(hr:Room j X.A)(ha:PA X (e::es) t)(hj:k+1<=j:=by decide)(hg:Gl X x:=by rfl)(hdb:(x==("__debug__":j5))=oe:=by decide)
  (he:jV (e::es) X.env=(oe,eval e X.env)::jV es X.env:=by rfl) (hpl:(kr pos<|jV es X.env).any (·.1)=oe:=by rfl):PE X (.Call (.Name x p) (e::es) [] pos) (VL C sp [] E0 t):=by
 obtain⟨f,fd,M,F,hm,hb⟩:=D.ex;exact UZ M F (hr.mono hj) hg hm hb .nil Jk ha hdb he hpl
theorem Q1{pl:Sem Bool}(D:Ij X.prog X.w X.K X.mg X.jD k C m ps sp)(hr:Room j X.A)(he:PE X o ta)(ha:PA X (e::es) t)(hj:k<=j:=by decide)
    (hst:jV (e::es) X.env=(oe,eval e X.env)::jV es X.env:=by rfl) (hpl:(kr pos<|jV es X.env).any (·.1)=oe:=by rfl)
    (ht:eval (.Call (.Attribute o m apos) (e::es) [] pos) X.env=(do
      let ov <-eval o X.env
      standAt apos.atName
      let (f,first) <-holding [ov] (getMethod ov m pl)
      callWith pos f first (kr pos<|jV (e::es) X.env) (backToKw pos<|keywordEach [] X.env)):=by rfl):PE X (.Call (.Attribute o m apos) (e::es) [] pos) (PL C m sp [] E0 ta t):=by
  obtain⟨f,fd,M,F,hb⟩:=D.ex;exact UY he D.cl M F (hr.mono hj) hb .nil Jk ha hst hpl ht
theorem D5{pl:Sem Bool}(D:Ij X.prog X.w X.K X.mg X.jD k C m ps sp)(hr:Room j X.A)(he:PE X o ta)(hj:k<=j:=by decide)
    (ht:eval (.Call (.Attribute o m apos) [] [] pos) X.env=(do
      let ov <-eval o X.env
      standAt apos.atName
      let (f,first) <-holding [ov] (getMethod ov m pl)
      callWith pos f first (kr pos<|jV [] X.env) (backToKw pos<|keywordEach [] X.env)):=by rfl):PE X (.Call (.Attribute o m apos) [] [] pos) (PL C m sp [] E0 ta UG):=by
  obtain⟨f,fd,M,F,hb⟩:=D.ex;exact Te he D.cl M F (hr.mono hj) hb .nil Jk ht
end
section
variable{X:Cx}{K:jX}{pos:Pos}
theorem Dk{es:List j9}{k:Nat}{t:TGs}{n:Nat}(hc:X.calm=nZ)(h:PGs X es t)(hK:X.K=K:=by rfl)
  (hn:(assignEach es X.env).length=n:=by rfl) (hst:(assignEach es X.env).findIdx? (·.1)=Y:=by rfl):PG X (.Tuple es k pos) (Ym K n t):=by
 subst hK;exact BS hc h hn hst
def SV(K:jX):LUz->Hp->VK->Prop:=λxs H Q=>∃p ys,xs=[V.ref p]/\((SqL K H p ys/\∀l,H l=Y->Q (.ref l) (upd H l<|.tup ys))\/(SqT K H p ys/\Q (.ref p) H))
theorem Nb(hK:X.K=K:=by rfl):Cq X (.type "tuple") (SV K):=by subst hK;exact K7
end
end L2
namespace GB
open PySem.W
open PySem L2
structure Rc where
 t:Int
 l:Int
 b:Int
 r:Int
 deriving DecidableEq
noncomputable def Rc.ls(p:Rc):List Int:=[p.t,p.l,p.b,p.r]
def Rc.has(p:Rc)(r c:Int):Prop:=p.t<=r/\r<p.b/\p.l<=c/\c<p.r
def Rc.In(w h:Int)(p:Rc):Prop:=0<=p.t/\p.t<p.b/\p.b<=h/\0<=p.l/\p.l<p.r/\p.r<=w
def Apart(p q:Rc):Prop:=∀r c,p.has r c->q.has r c->False
theorem Apart.symm{p q:Rc}(h:Apart p q):Apart q p:=λr c a b=>h r c b a
structure Tiles(w h:Int)(ps:List Rc):Prop where
 ins:∀p∈ps,p.In w h
 dis:ps.Pairwise Apart
 cov:∀r c,0<=r->r<h->0<=c->c<w->∃p∈ps,p.has r c
theorem PB{ps:List Rc}(h:ps.Pairwise Apart){p q:Rc}{r c:Int}(hp:p∈ps)(hq:q∈ps)(a:p.has r c)(b:q.has r c):p=q:=by
 obtain⟨i,hi,rfl⟩:=c9 hp;obtain⟨j,hj,rfl⟩:=c9 hq;rw[ce]at h;rcases eS i j with e|e|e
 .exact(h i j hi hj e r c a b).elim
 .subst e;rfl
 .exact(h j i hj hi e r c b a).elim
theorem Tiles.perm{w h:Int}{ps qs:List Rc}(T:Tiles w h ps)(e:qs.Perm ps):Tiles w h qs:=
 ⟨λp hp=>T.ins p<|e.mem_iff.mp hp,(e.pairwise_iff λ{a b} x=>Apart.symm x).mpr T.dis,λr c a b x y=>let ⟨p,hp,z⟩:=T.cov r c a b x y;⟨p,e.mem_iff.mpr hp,z⟩⟩
noncomputable def Rc.sw(p:Rc):Rc:=⟨p.l,p.t,p.r,p.b⟩
theorem Rc.sw_has{p:Rc}{r c:Int}:p.sw.has r c↔p.has c r:=by
 show p.l<=r/\r<p.r/\p.t<=c/\c<p.b↔p.t<=c/\c<p.b/\p.l<=r/\r<p.r;lia
theorem Rc.sw_in{p:Rc}{w h:Int}(x:p.In w h):p.sw.In h w:=by
 obtain⟨a,b,c,d,e,f⟩:=x;exact⟨d,e,f,a,b,c⟩
theorem Tiles.sw{w h:Int}{ps:List Rc}(T:Tiles w h ps):Tiles h w (ps.map Rc.sw):=by
 refine⟨λp hp=>?_,?_,λr c a b x y=>?_⟩
 .obtain⟨q,hq,rfl⟩:=ao.mp hp;exact Rc.sw_in<|T.ins q hq
 .rw[eJ];exact T.dis.imp λ{p q} h r c a b=>h c r (Rc.sw_has.mp a)<|Rc.sw_has.mp b
 .obtain⟨p,hp,z⟩:=T.cov c r x y a b;exact⟨p.sw,ao.mpr ⟨p,hp,Z⟩,Rc.sw_has.mpr z⟩
noncomputable def key:List Int->Int
 |[a,b,c,d]=>((a*13+b)*13+c)*13+d
 |_=>0
theorem MH(p:Rc):key p.ls=((p.t*13+p.l)*13+p.b)*13+p.r:=rfl
theorem WM{p q:Rc}{w h w' h':Int}(hp:p.In w h)(hq:q.In w' h')(b1:w<=12)(b2:h<=12)(b3:w'<=12)(b4:h'<=12):HT.lexLt p.ls q.ls=og (key p.ls<key q.ls):=by
 obtain⟨a1,a2,a3,a4,a5,a6⟩:=hp;obtain⟨c1,c2,c3,c4,c5,c6⟩:=hq;rw[MH,MH];show(if p.t=q.t then(if p.l=q.l then(if p.b=q.b then(if p.r=q.r then oe else og<|p.r<q.r)else og<|p.b<q.b)else og<|p.l<q.l)else og<|p.t<q.t)=_
 repeat' split
 all_goals (first|(apply Eq.symm;rw[decide_eq_false_iff_not];lia)|(rw[decide_eq_decide];lia))
theorem Vn{p q:Rc}{w h w' h':Int}(hp:p.In w h)(hq:q.In w' h')(b1:w<=12)(b2:h<=12)(b3:w'<=12)(b4:h'<=12)(e:key p.ls=key q.ls):p=q:=by
 obtain⟨a1,a2,a3,a4,a5,a6⟩:=hp;obtain⟨c1,c2,c3,c4,c5,c6⟩:=hq;rw[MH,MH]at e;obtain⟨pt,pl,pb,pr⟩:=p;obtain⟨qt,ql,qb,qr⟩:=q;simp only at *;have e1:pt=qt:=by lia
 subst e1;have e2:pl=ql:=by lia
 subst e2;have e3:pb=qb:=by lia
 subst e3;have e4:pr=qr:=by lia
 subst e4;rfl
def Srt(ps:List Rc):Prop:=(ps.map λp=>key p.ls).Pairwise (·<=·)
theorem sorted_same{ps qs:List Rc}{w h:Int}(hp:∀p∈ps,p.In w h)(b1:w<=12)(b2:h<=12)(e:ps.Perm qs)(s1:Srt ps)(s2:Srt qs):ps=qs:=by
 have hq:∀p∈qs,p.In w h:=λp x=>hp p<|e.mem_iff.mpr x;have hm:=ksm_same (List.Perm.map (λp:Rc=>key p.ls) e) s1 s2;have len:=e.length_eq;apply List.ext_getElem len;intro i h1 h2;have:=congrArg (λl=>l[i]?) hm;simp only[ax,ai h1,ai h2,bU,Option.some.injEq]at this;exact Vn (hp _<|cm h1) (hq _<|cm h2) b1 b2 b1 b2 this
noncomputable def Eu(p:Rc)(i:Nat)(j:Nat):List (Int×Int):=(List.range j).map λ(k:Nat)=>(p.t+(i:Int),p.l+(k:Int))
noncomputable def HV(p:Rc):Nat->List (Int×Int)
 |0=>[]
 |i+1=>HV p i++Eu p i (p.r-p.l).toNat
noncomputable def sqs(p:Rc):List (Int×Int):=HV p (p.b-p.t).toNat
theorem mem_rowSq{p:Rc}{i j:Nat}{r c:Int}:(r,c)∈Eu p i j↔r=p.t+i/\p.l<=c/\c<p.l+j:=by
 unfold Eu;rw[ao]
 constructor
 .rintro⟨k,hk,e⟩;have:=aO.mp hk;cases e;lia
 .rintro⟨rfl,a,b⟩;exact⟨(c-p.l).toNat,aO.mpr (by lia),by rw[show((c-p.l).toNat:Int)=c-p.l by lia];congr 1;lia⟩
theorem J9{p:Rc}(h:p.l<=p.r){r c:Int}:∀{n:Nat},(r,c)∈HV p n↔p.t<=r/\r<p.t+n/\p.l<=c/\c<p.r
 |0=>by
  simp only[HV,aZ,false_iff];lia
 |n+1=>by
  rw[HV,aw,J9 h,mem_rowSq];lia
theorem Iw{p:Rc}(h:p.l<=p.r)(h2:p.t<=p.b){r c:Int}:(r,c)∈sqs p↔p.has r c:=by
 unfold sqs Rc.has;rw[J9 h];lia
theorem N1(p:Rc)(i j:Nat):(Eu p i j).Nodup:=by
 unfold Eu;rw[fm,eJ];exact(List.nodup_range (n:=j)).imp λ{a b} h e=>h (by
  have:=congrArg Prod.snd e;simp only at this;lia)
theorem IL{p:Rc}(h:p.l<=p.r):∀n,(HV p n).Nodup
 |0=>dh
 |n+1=>by
  rw[HV,List.nodup_append];refine⟨IL h n,N1 p n _,λa ha b hb e=>?_⟩;subst e;obtain⟨r,c⟩:=a;have h1:=(J9 h).mp ha;have h2:=mem_rowSq.mp hb;lia
theorem IM(p:Rc):∀n,(HV p n).length=n*(p.r-p.l).toNat
 |0=>by simp[HV]
 |n+1=>by rw[HV,aq,IM p n,Eu,aa,eK,eO]
theorem OY(p:Rc)(i j:Nat):Eu p i (j+1)=Eu p i j++[(p.t+(i:Int),p.l+(j:Int))]:=by
 unfold Eu;rw[bA,af];rfl
theorem Hy:∀(n:Nat)(xs:List Int),xs.Nodup->(∀x∈xs,0<=x/\x<n)->xs.length<=n
 |0,xs,_,h=>by
  cases xs with
  |nil=>exact ah _
  |cons x r=>have:=h x aE;lia
 |n+1,xs,hn,h=>by
  have h2:(xs.filter λx=>og<|x≠(n:Int)).length<=n:=Hy n _ (hn.filter _) λx hx=>by
   obtain⟨h1,h2⟩:=bg.mp hx;have:=h x h1;have h3:x≠(n:Int):=jY h2;lia
  have h3:xs.length<=(xs.filter λx=>og<|x≠(n:Int)).length+1:=by
   have key:∀(ys:List Int),ys.Nodup->ys.length<=(ys.filter λx=>og<|x≠(n:Int)).length+1:=by
    intro ys
    induction ys with
    |nil=>intro _;simp
    |cons y r ih=>
     intro hy;obtain⟨h4,h5⟩:=cu.mp hy;by_cases e:y=(n:Int)
     .have e2:(r.filter λx=>og<|x≠(n:Int))=r:=by
       rw[cj];intro x hx;exact jI λz=>h4 (by rw[e,<-z];exact hx)
      rw[dC,jK (by simp[e]),e2,aL];exact ah _
     .rw[dC,jP (by simpa using e),aL,aL];have:=ih h5;lia
   exact key xs hn
  lia
end GB
namespace L2
open PySem.W
open PySem PySem.Spec PyProof.Rows
section
variable{prog:jN}{w:jW}{A:jZ}{E:VPz}{h:j6}{g:Array GenState}{d:Drawn}{t:Nat}{os:OsState}
 {nm qn:j5} {C N:jF} {bs bm bmB:LWz} {hdct:Bool} {sn:LSz} {sub:LWz} {ab:Bool} {col:Option Bool} {dd:Option jF} {k0 k1 k2 k3 k5:Option jJ} {nY newId initId:String}
noncomputable def C0(h:j6)(C:jF)(rest:LWz):j6:=(h.push { cls:=.type "tuple",data:=.seq rest.toArray}).push { cls:=.ref C,data:=.fields #[.ref h.objs.size,.none,.none,.none,.bool oe,.none]}
theorem Cl{C:jF}{rest:LWz}{b:jF}{o:Obj}(e:h.get? b=O o):(C0 h C rest).get? b=O o:=ag _<|ag _ e
theorem KZ(C:jF)(rest:LWz):(C0 h C rest).get? (h.objs.size+1)=O { cls:=.ref C,data:=.fields #[.ref h.objs.size,.none,.none,.none,.bool oe,.none]}:=by
 unfold C0;heap_get
theorem IE(F:ExcBaseFacts nY newId initId bmB)(T:OwnTail h bmB bm){mN:MGz}{rest:LWz}{fI:jF}{oI:Obj}{Q:Fin->jH->Prop}
  (hC:h.get? C=O (excClassObj nm qn C N bs bm hdct sn sub ab col dd k0 k1 k2 k3 k5 newId)) (hn:h.Ns N mN) (hi:mN "__init__"=O (.ref fI)) (hfI:h.get? fI=O oI) (hfc:oI.cls=.type "function") (hrest:rest.length<=jU)
  (hq:jT (jS prog w) A (call (.ref fI) (.ref (h.objs.size+1)::rest)) (λr s'=>r=.none/\Q (.done<|.ret<|.ref<|h.objs.size+1) s') E ⟨C0 h C rest,g,d,t,os⟩):
  jT (jS prog w) A (Builtin.«type.__call__» ⟨.ref C::rest,[]⟩) Q E ⟨h,g,d,t,os⟩:=by
 repeat (first|with_reducible refine kC hC ?_|with_reducible refine wpAny_madeBy_exc hC ?_|wp_step)
 refine codeAny_call_builtin_code (Code.quiet_builtin _ F.quiet)<|wpAny_check_new_subT F T hC<|codeAny_exc_new_subT F T hC ?_ hrest;show jT _ _ _ _ _ ⟨C0 h C rest,g,d,t,os⟩;have c1:(C0 h C rest).get? C=_:=Cl hC;have n1:(C0 h C rest).Ns N mN:=let ⟨o,es,ep,e,r⟩:=hn;⟨o,es,ep,Cl e,r⟩;have e1:=KZ (h:=h) C rest;have T1:OwnTail (C0 h C rest) bmB bm:=T.keeps λ_ _ e=>Cl e;have cc:(Value.ref C::bm).contains (.ref C)=nZ:=by simp
 unfold isInstance
 repeat (first|with_reducible refine kC e1 ?_|(with_reducible refine ly c1 ?_;rw[cc])|wp_step)
 show jT _ _ (typeLookup (.ref C) _) _ _ _;refine wpAny_typeLookup_tail c1 n1 T1 F.mroIs F.init.lookup ?_;rw[hi];refine km<|jG ?_;unfold bindSpecial;refine jG<|wpAny_typeOf (T:="function") ⟨_,Cl hfI,hfc⟩ ?_;rw[jP<|by decide];refine jL<|jG<|ke hq (λr s' hr=>?_) λ_ _ x=>x;obtain⟨rfl,hQ⟩:=hr
 wp_walk
 exact hQ
theorem Sn(F:ExcBaseFacts nY newId initId bmB)(T:OwnTail h bmB bm){mN:MGz}{rest:LWz}{fI:jF}{oI:Obj}{Q:VPz}
  (hC:h.get? C=O (excClassObj nm qn C N bs bm hdct sn sub ab col dd k0 k1 k2 k3 k5 newId)) (hn:h.Ns N mN) (hi:mN "__init__"=O (.ref fI)) (hfI:h.get? fI=O oI) (hfc:oI.cls=.type "function") (hrest:rest.length<=jU)
  (hq:jT (jS prog w) (A.under<|.builtin "type.__call__" ⟨.ref C::rest,[]⟩) (call (.ref fI) (.ref (h.objs.size+1)::rest)) (λr s'=>r=.none/\Q (.ref<|h.objs.size+1) s') E ⟨C0 h C rest,g,d,t,os⟩):
  jT (jS prog w) A (call (.ref C) rest) Q E ⟨h,g,d,t,os⟩:=by
 have l1:=tc_lookup;have l2:=tc_bind<|.ref C;have ty:(⟨h,g,d,t,os⟩:jH).TypeIs (.ref C) "type":=⟨_,hC,Z⟩;refine kR<|codeAny_of_tree ?_;show jT _ _ (callAny (.ref C) _) _ _ _
 repeat (any_goals (first|assumption|with_reducible refine kC hC ?_|wp_step))
 exact⟨Z,codeAny_call_builtin_at (Code.quiet_builtin _<|by decide +kernel) entry_typeCall<|wpAny_check_type_call_sub hC<|IE F T hC hn hi hfI hfc hrest hq⟩
end
open PySem.Builtin PySem.Builtin.ObjectAttr
noncomputable def vErr:LWz:=[.type "ValueError",.type "Exception",.type "BaseException",.type "object"]
noncomputable def Hg:LWz->Bool
 |[]=>oe
 |x::r=>(match x with|.ref _=>Hg r|_=>oe)||(x::r==vErr)
theorem Ja(self:jJ):∀{l:LWz},Hg l=nZ->refuseLoop self "__setattr__" l=pure ()
 |[],e=>by cases e
 |x::r,e=>by
  unfold Hg at e;rw[bW]at e;rcases e with e|e
  .cases x<;>first|(rw[refuseLoop_ref];exact Ja self e)|cases e
  .rw[show x::r=vErr from beq_iff_eq.mp e];exact PySem.F.store_ValueError.passes self
theorem MT{T:String}(hT:vErr.contains (.type T)=nZ):∀{l:LWz},Hg l=nZ->l.contains (.type T)=nZ
 |[],e=>by cases e
 |x::r,e=>by
  unfold Hg at e;rw[bW]at e;rcases e with e|e
  .cases x<;>first|(rw[d9,MT hT e,fL])|cases e
  .rw[show x::r=vErr from beq_iff_eq.mp e];exact hT
noncomputable def excIn(K:jX)(C:jF):Bool:=(clsIn K C).any λcd=>Hg cd.mro
section
variable{prog:jN}{w:jW}{A:jZ}{E:VPz}{R:Result->jH->Prop}{s:jH}{K:jX}{x C:jF}{ox:Obj}{od:Option Obj}{name:j5}{tk:lm}{v:jJ}
theorem Q7(X:K.In s.heap)(I:InstAt s.heap x ox C od)(hp:excIn K C=nZ)(ht:kc K (.ref C) name=O Y)
  (h:jT (jS prog w) A.in1 (storeInOwnDict (.ref x) (.ref C) (.str name tk) name v oe)
   (λfin s'=>match fin with|.done f=>R (.ok f) s'|.again c'=>c'.quiet=nZ/\kK (jS prog w) A c' R s') (λe s'=>R (.error e) s') s):
  kK (jS prog w) A (.call (.builtin "object.__setattr__") ⟨[.ref x,.str name tk,v],[]⟩) R s:=by
 have SF:=PySem.F.store_object;obtain⟨cd,hc,ho⟩:=lB hp;have ne:cd.mro.isEmpty=oe:=by cases q:cd.mro with|nil=>rw[q]at ho;cases ho|cons _ _=>rfl
 have tO:Looks (jS prog w) s.heap (isInstance (.ref x)<|.type "object") nZ:=I.type.andThen (looks_mroIn X (by
  unfold mroIn;rw[hc,bR,ne];show O (cd.mro.contains<|.type "object")=O nZ;rw[MT (by decide +kernel) ho]))
 have tM:Looks (jS prog w) s.heap (mroOf<|.ref C) cd.mro:=(looks_clsIn X hc).andThen .now;refine codeAny_call_builtin SF.slot.plain SF.entry<|@check_slot (jS prog w) _ _ s "object.__setattr__" "object" "__setattr__" (.ref x) [.str name tk,v] [] _ SF.kind SF.split tO (SF.args (.ref x) (.str name tk) v) ?_;rw[osa_eq,refuse_eq];refine jG<|jG<|I.type.here<|jG<|tM.here ?_;rw[Ja _ ho];exact jL<|jG<|I.type.here<|jG<|(lM X ht).here<|jG<|jL h
theorem SO{vs:Array jJ}{sl:AOz}{Q:Unit->jH->Prop}(X:K.In s.heap)(hx:s.heap.get? x=O ⟨.ref C,Y,.fields vs,sl⟩)(hs:kc K (.ref C) "__setattr__"=O (O<|.builtin "object.__setattr__"))
  (hp:excIn K C=nZ) (hh:hasDictIn K C=nZ) (ht:kc K (.ref C) name=O Y)
  (h:∀h',h'.get? x=O ⟨.ref C,O s.heap.objs.size,.fields vs,sl⟩->h'.Ns1 s.heap.objs.size (λy=>if y=name then O v else Y)->(∀b o,b≠x->s.heap.get? b=O o->h'.get? b=O o)->Q () { s with heap:=h',toks:=s.toks+2}):
  jT (jS prog w) A (setAttr (.ref x) name v) Q E s:=by
 have I:InstAt s.heap x ⟨.ref C,Y,.fields vs,sl⟩ C Y:=⟨hx,Z,Z,trivial⟩;obtain⟨cd,hc,hd'⟩:=lB hh;have nx:x≠s.heap.objs.size:=aM<|ay hx;refine set_plain X I hs<|Q7 (s:={s with toks:=s.toks+1}) X I hp ht ?_;refine jG<|jL<|jG<|jG<|lC hx<|jG<|Looks.here (s:={s with toks:=s.toks+1}) (looks_clsIn X hc) ?_;rw[hd'];refine jG<|wpAny_alloc<|jG<|wpAny_update (ag _ hx)<|jL ?_;generalize hH:(s.heap.push { cls:=.type "dict",data:=.dict #[]}).update x (λo=>{o with dict:=O s.heap.objs.size})=H1;have hx1:H1.get? x=O ⟨.ref C,O s.heap.objs.size,.fields vs,sl⟩:=by
  rw[<-hH];exact b9 _ (ag _ hx) Z
 have hd1:H1.get? s.heap.objs.size=O { cls:=.type "dict",data:=.dict #[]}:=by
  rw[<-hH,bX _ _ _ _<|Ne.symm nx];exact aH _ Z
 have hk1:∀b o,b≠x->s.heap.get? b=O o->H1.get? b=O o:=λb o hb e=>by
  rw[<-hH,bX _ _ _ _ hb];exact ag _ e
 have hn1:H1.Ns1 s.heap.objs.size (λ_=>Y):=Heap.Ns1.of_empty ⟨_,#[],_,hd1,Z,λe he=>absurd he (by simp),λ_=>rfl⟩;refine jG<|jL<|jG<|wpAny_nsSet1 (s:={s with heap:=H1,toks:=s.toks+1}) hn1 λh' hn2 hs2=>?_;obtain⟨oD,esD,epD,hoD,hdD,hcD⟩:=hn2.count<|Within.cons name v Within.nil;refine jG (lK hoD (by rw[hdD];exact lL<|aV hcD (by rw[aL,cY,ka];lia)) ?_);exact jL<|h _ ((hs2.2 _ nx).trans hx1) hn2 λb o hb e=>(hs2.2 _<|aM<|ay e).trans<|hk1 b o hb e
theorem UQ{vs:Array jJ}{sl:AOz}{dx:jF}{mA:MGz}{ns:LSz}{Q:Unit->jH->Prop}(X:K.In s.heap)(hx:s.heap.get? x=O ⟨.ref C,O dx,.fields vs,sl⟩)(hn:s.heap.Ns1 dx mA)(hne:dx≠x)
  (hs:kc K (.ref C) "__setattr__"=O (O<|.builtin "object.__setattr__")) (hp:excIn K C=nZ) (hh:hasDictIn K C=nZ) (ht:kc K (.ref C) name=O Y) (hw:PySem.Within mA ns) (hsz:ns.length<=jU)
  (h:∀h',h'.get? x=O ⟨.ref C,O dx,.fields vs,sl⟩->h'.Ns1 dx (λy=>if y=name then O v else mA y)->Heap.SameBut dx s.heap h'->Q () { s with heap:=h',toks:=s.toks+2}):
  jT (jS prog w) A (setAttr (.ref x) name v) Q E s:=by
 obtain⟨od,ho⟩:∃o,s.heap.get? dx=O o:=let ⟨o,_,_,e,_⟩:=hn;⟨o,e⟩;have I:InstAt s.heap x ⟨.ref C,O dx,.fields vs,sl⟩ C (O od):=⟨hx,Z,Z,ho⟩;obtain⟨cd,hc,hd'⟩:=lB hh;refine set_plain X I hs<|Q7 (s:={s with toks:=s.toks+1}) X I hp ht ?_;refine jG<|jL<|jG<|jG<|lC hx<|jG<|Looks.here (s:={s with toks:=s.toks+1}) (looks_clsIn X hc) ?_;rw[hd'];refine jL (a:=O dx)<|jG<|jL<|jG<|wpAny_nsSet1 (s:={s with toks:=s.toks+1}) hn λh' hn2 hs2=>?_;obtain⟨oD,esD,epD,hoD,hdD,hcD⟩:=hn2.count<|Within.cons name v hw;refine jG (lK hoD (by rw[hdD];exact lL<|aV hcD (by rw[aL];lia)) ?_);exact jL<|h _ ((hs2.2 _<|Ne.symm hne).trans hx) hn2 hs2
end
section
variable{prog:jN}{w:jW}{A:jZ}{E:VPz}{R:Result->jH->Prop}{s:jH}{K:jX}{x C:jF}{ox:Obj}{od:Option Obj}{name:j5}{tk:lm}{v:jJ}{expr:Bool}
theorem Vu(X:K.In s.heap)(I:InstAt s.heap x ox C od)(hp:L2.excIn K C=nZ)
  (h:jT (jS prog w) A.in1 (Builtin.«object.__getattribute__» ⟨[.ref x,.str name tk],[]⟩)
   (λfin s'=>match fin with|.done f=>R (.ok f) s'|.again c'=>c'.quiet=nZ/\kK (jS prog w) A c' R s') (λe s'=>R (.error e) s') s):
  kK (jS prog w) A (.call (.builtin "BaseException.__getattribute__") ⟨[.ref x,.str name tk],[]⟩) R s:=by
 obtain⟨cd,hc,ho⟩:=lB hp;have ne:cd.mro.isEmpty=oe:=by cases q:cd.mro with|nil=>rw[q]at ho;cases ho|cons _ _=>rfl
 have tB:Looks (jS prog w) s.heap (isInstance (.ref x)<|.type "BaseException") nZ:=I.type.andThen (looks_mroIn X (by
  unfold mroIn;rw[hc,bR,ne];show O (cd.mro.contains<|.type "BaseException")=O nZ;rw[MT (by decide +kernel) ho]))
 exact codeAny_call_builtin eU.ga.plain PySem.F.entry_bexc_ga (@check_slot (jS prog w) _ _ s "BaseException.__getattribute__" "BaseException" "__getattribute__" (.ref x) [.str name tk] [] _ (by decide +kernel) (by decide +kernel) tB (PySem.F.args_bexc_ga (.ref x)<|.str name tk) h)
theorem Wa(X:K.In s.heap)(I:InstAt s.heap x ox C od)(hp:L2.excIn K C=nZ)(hga:kc K (.ref C) "__getattribute__"=O (O<|.builtin "BaseException.__getattribute__"))(hk:kc K (.ref C) "__getattr__"=O Y){fill:Bool}{Q:VPz}
  (h:jT (jS prog w) A.in1 (Builtin.«object.__getattribute__» ⟨[.ref x,.str name tk],[]⟩)
   (λfin s'=>match fin with|.done (.ret v)=>jT (jS prog w) A (handedOut v) Q E s'|_=>False) (λ_ _=>False) s):
  jT (jS prog w) A (getAttrBy (.ref x) (.str name tk) fill expr) Q E s:=by
 have L0:=I.type (M:=jS prog w);have L1:=lM (M:=jS prog w) X hga;have L2:=lM (M:=jS prog w) X hk;unfold getAttrBy;refine km<|jG<|L0.here<|jG<|L1.here ?_;show jT _ _ (getAttrByItsOwn (.ref x) (.str name tk) (.ref C) (.builtin "BaseException.__getattribute__") fill expr) _ _ _;unfold getAttrByItsOwn hookBefore callGetattribute boundAndCalled;refine jG<|L2.here ?_;refine jG<|lq<|km ?_;rw[show(expr&&onTheHeap (Value.builtin "BaseException.__getattribute__"))=oe from by cases expr<;>rfl,jK au];refine jG<|wpAny_of_eq (eU.ga.bind _) ?_;refine kR<|Vu X I hp<|ke h (λfin s' z=>?_) λ_ _ z=>z.elim;rcases fin with(_|_|_|_)|_<;>first|exact z.elim|exact z
theorem Vs{Q:VPz}(X:K.In s.heap)(I:InstAt s.heap x ox C od)(hp:L2.excIn K C=nZ)(hga:kc K (.ref C) "__getattribute__"=O (O<|.builtin "BaseException.__getattribute__"))(hk:kc K (.ref C) "__getattr__"=O Y)
  (hf:findObj K C od name=O (.value v)) (hh:handedIn v=nZ) (h:Q v { s with toks:=s.toks+1}):jT (jS prog w) A (getAttr (.ref x) name expr) Q E s:=by
 unfold getAttr;refine jG<|wpAny_mkText<|Wa (s:={s with toks:=s.toks+1}) X I hp hga hk ?_;have L0:=I.type (M:=jS prog w);have L1:=looks_find (M:=jS prog w) X I hf;refine jG (wpAny_of_eq (show slotArgs "__getattribute__" 1 ⟨[.ref x,.str name s.toks],[]⟩=pure (.ref x,[.str name s.toks])from rfl) ?_);refine jG<|jL<|jG<|Looks.here (s:={s with toks:=s.toks+1}) L0<|jG<|Looks.here (s:={s with toks:=s.toks+1}) L1 ?_;refine jL ?_;show jT _ _ (handedOut v) _ _ _;rw[handedOut_of hh];exact jL h
theorem Sm{Q:Option jJ->jH->Prop}(X:K.In s.heap)(I:InstAt s.heap x ox C od)(hp:L2.excIn K C=nZ)(hga:kc K (.ref C) "__getattribute__"=O (O<|.builtin "BaseException.__getattribute__"))(hk:kc K (.ref C) "__getattr__"=O Y)
  (hf:findObj K C od "__class__"=O (.bind (.builtin "getset_descriptor.__get__")<|.builtin "object.__class__")) (hm:mroIn K C (.type "object")=O nZ) (h:Q (O<|.ref C) { s with toks:=s.toks+1}):jT (jS prog w) A (getAttr? (.ref x) "__class__") Q E s:=by
 unfold getAttr? getAttrBy?;refine jG<|wpAny_mkText<|jG<|lq<|Wa (s:={s with toks:=s.toks+1}) X I hp hga hk ?_;have L0:=I.type (M:=jS prog w);have L1:=looks_find (M:=jS prog w) X I hf;refine jG (wpAny_of_eq (show slotArgs "__getattribute__" 1 ⟨[.ref x,.str "__class__" s.toks],[]⟩=pure (.ref x,[.str "__class__" s.toks])from rfl) ?_);refine jG<|jL<|jG<|Looks.here (s:={s with toks:=s.toks+1}) L0<|jG<|Looks.here (s:={s with toks:=s.toks+1}) L1 ?_;show jT _ _ (holding [.builtin "object.__class__"] (call (.builtin "getset_descriptor.__get__") [.builtin "object.__class__",.ref x,.ref C]) >>= ret) _ _ _;refine jG<|km<|kR<|class_get (s:={s with toks:=s.toks+1}) (ox:=ox) (od:=od) X I hm ?_;exact jL<|handed_on Z<|jL h
end
noncomputable def Il(C x:jF):HO:=.ext λh=>∃vs sl,h.get? x=O ⟨.ref C,Y,.fields vs,sl⟩/\vs[1]?=O Value.none
noncomputable def Er(C dx x:jF):HO:=.ext λh=>∃vs sl,h.get? x=O ⟨.ref C,O dx,.fields vs,sl⟩/\vs[1]?=O Value.none
noncomputable def FW(C:jF)(d:Option jF)(x T:jF):HO:=.ext λh=>∃vs sl,h.get? x=O ⟨.ref C,d,.fields vs,sl⟩/\vs[1]?=O (.ref T)
noncomputable def Cp(dx:jF)(fs:LFz):HO:=.ext λh=>∃mA,h.Ns1 dx mA/\(∀f,RelO (fs.lookup f)<|mA f)/\PySem.Within mA (fs.map (·.1))
section
variable{P:jN}{w:jW}{H:Hp}{h:j6}{x C dx:jF}{fs:LFz}
theorem V3{vs:Array jJ}{sl:AOz}(e:h.get? x=O ⟨.ref C,Y,.fields vs,sl⟩)(f:vs[1]?=O Value.none):ObjOk P w H h x (Il C x):=
 ⟨⟨vs,sl,e,f⟩,⟨_,e⟩,λ_ _ ⟨vs,sl,e,f⟩ k=>⟨vs,sl,k _ e,f⟩⟩
theorem V2{vs:Array jJ}{sl:AOz}(e:h.get? x=O ⟨.ref C,O dx,.fields vs,sl⟩)(f:vs[1]?=O Value.none):ObjOk P w H h x (Er C dx x):=
 ⟨⟨vs,sl,e,f⟩,⟨_,e⟩,λ_ _ ⟨vs,sl,e,f⟩ k=>⟨vs,sl,k _ e,f⟩⟩
theorem V1{d:Option jF}{T:jF}{vs:Array jJ}{sl:AOz}(e:h.get? x=O ⟨.ref C,d,.fields vs,sl⟩)(f:vs[1]?=O (.ref T)):ObjOk P w H h x (FW C d x T):=
 ⟨⟨vs,sl,e,f⟩,⟨_,e⟩,λ_ _ ⟨vs,sl,e,f⟩ k=>⟨vs,sl,k _ e,f⟩⟩
theorem QL{mA:MGz}(n:h.Ns1 dx mA)(r:∀f,RelO (fs.lookup f)<|mA f)(wi:PySem.Within mA (fs.map (·.1))):ObjOk P w H h dx (Cp dx fs):=
 ⟨⟨mA,n,r,wi⟩,let ⟨o,_,_,e,_⟩:=n;⟨o,e⟩,λ_ _ ⟨mA,n,r,wi⟩ k=>⟨mA,n.at k,r,wi⟩⟩
end
structure XCls(K:jX)(C:jF):Prop where
 ga:kc K (.ref C) "__getattribute__"=O (O<|.builtin "BaseException.__getattribute__")
 gh:kc K (.ref C) "__getattr__"=O Y
 hd:hasDictIn K C=nZ
 sa:kc K (.ref C) "__setattr__"=O (O<|.builtin "object.__setattr__")
 ex:L2.excIn K C=nZ
 ca:kc K (.ref C) "__class__"=O (O<|.builtin "object.__class__")
 gn:specialIn K (.builtin "object.__class__") "__get__"=O (O<|.builtin "getset_descriptor.__get__")
 tk:takesIn K (.builtin "object.__class__")=O nZ
 mo:mroIn K C (.type "object")=O nZ
noncomputable def Nk(K:jX)(C:jF):Bool:=(kc K (.ref C) "__getattribute__"==O (O<|.builtin "BaseException.__getattribute__"))&&(kc K (.ref C) "__getattr__"==O Y)&&hasDictIn K C&&(kc K (.ref C) "__setattr__"==O (O<|.builtin "object.__setattr__"))&&L2.excIn K C &&
 (kc K (.ref C) "__class__"==O (O<|.builtin "object.__class__"))&&(specialIn K (.builtin "object.__class__") "__get__"==O (O<|.builtin "getset_descriptor.__get__")) &&
 (takesIn K (.builtin "object.__class__")==O nZ)&&(mroIn K C (.type "object")==O nZ)
theorem XCls.of{K:jX}{C:jF}(h:Nk K C=nZ):XCls K C:=by
 unfold Nk at h;simp only[av,beq_iff_eq]at h;obtain⟨⟨⟨⟨⟨⟨⟨⟨a,a'⟩,b⟩,c⟩,d⟩,e⟩,f⟩,g⟩,i⟩:=h;exact⟨a,a',b,c,d,e,f,g,i⟩
section
variable{X:Cx}{jy:PNz}{B:St}{H:Hp}{s:jH}{a C dx:jF}{fs:LFz}{f:j5}{v:V}{A:jZ}{E:VPz}
theorem JS{φ:j6->Prop}{b c:jF}(h:H b=O (.ext φ)):H b≠O (.own c):=λe=>by rw[h]at e;cases e
theorem OT{y:V}{u:jJ}{Q:Unit->jH->Prop}(I:Inv X jy B H s)(e:H a=O (Il C a))(c:XCls X.K C)(n:NoAttr X.K C f)(ry:RelV y u)
  (h:∀s' d,H d=Y->Inv X jy B (upd (upd H d<|Cp d [(f,y)]) a<|Er C d a) s'->Q () s'):jT (jS X.prog X.w) A (setAttr (.ref a) f u) Q E s:=by
 obtain⟨⟨vs,sl,hx,hv1⟩,_⟩:=(show ObjOk X.prog X.w H s.heap a (Il C a)from I.hok a _ e);refine SO I.kIn hx c.sa c.ex c.hd n λh' h1 h2 k=>?_;have hn:H s.heap.objs.size=Y:=I.hok.fresh<|ah _;have nea:s.heap.objs.size≠a:=Ne.symm<|Ad e hn;refine h _ s.heap.objs.size hn ?_;have e':∀b o,H b=O o->b≠s.heap.objs.size:=λb o q=>Ad q hn;have lt:∀b o,s.heap.get? b=O o->b≠s.heap.objs.size:=λb o q=>aM<|ay q;have na:∀b o,H b=O o->(∀φ,o≠.ext φ)->b≠a:=λb o q z t=>by subst t;rw[e]at q;cases q;exact z _ Z
 refine I.un (h':=h') (t':=s.toks+2) ⟨λb o q m _ _=>k b o (λz=>by rw[z,e]at m;cases m) q,λb o q m _ _=>⟨o.slots,k b o (λz=>by rw[z,e]at m;cases m) q⟩,
  λb o q m _=>by rw[Af (λz=>by rw[z,e]at m;cases m),Af<|lt b o q];exact m,λb o q _=>?_,λb xs q=>by rw[Af (na b _ q λφ z=>by cases z),Af<|e' b _ q];exact q,
  λb o u q=>by rw[Af (na b _ q λφ z=>by cases z),Af<|e' b _ q];exact q,λb ps q=>⟨#[],by rw[Af (na b _ q λφ z=>by cases z),Af<|e' b _ q,q];simp⟩⟩ λb o q=>?_
 .by_cases hb:b=a
  .subst hb;exact⟨_,h1⟩
  .exact⟨o,k b o hb q⟩
 .by_cases hb:b=a
  .subst hb;rw[Ae]at q;cases q;exact V2 h1 hv1
  .rw[Af hb]at q;by_cases hd:b=s.heap.objs.size
   .subst hd;rw[Ae]at q;cases q;refine QL h2 (λg=>?_) λg hg=>?_
    .show RelO (List.lookup g [(f,y)]) (if g=f then O u else Y);by_cases q:g=f
     .have hb:(g==f)=nZ:=beq_iff_eq.mpr q;rw[jP q];simp only[List.lookup,hb];exact ry
     .have hb:(g==f)=oe:=beq_eq_false_iff_ne.mpr q;rw[jK q];simp only[List.lookup,hb];exact True.intro
    .by_cases q:g=f
     .rw[q];simp
     .exact absurd (jK q) hg
   .rw[Af hd]at q;refine(I.hok b o q).stay (λcc w' hc z=>k cc w' ?_ z) (λcc z=>?_) λcc xs z=>?_
    .rcases hc with rfl|hc
     .exact hb
     .exact λt=>JS e<|t ▸ hc
    .rw[Af λt=>JS e<|t ▸ z,Af<|e' cc _ z];exact z
    .rw[Af (na cc _ z λφ t=>by cases t),Af<|e' cc _ z];exact z
theorem R7{y:V}{u:jJ}{Q:Unit->jH->Prop}(I:Inv X jy B H s)(e:H a=O (Er C dx a))(ed:H dx=O (Cp dx fs))(c:XCls X.K C)(n:NoAttr X.K C f)(hl:fs.length<1000)(ry:RelV y u)
  (h:∀s',Inv X jy B (upd H dx<|Cp dx<|Bl f y fs) s'->Q () s'):jT (jS X.prog X.w) A (setAttr (.ref a) f u) Q E s:=by
 obtain⟨⟨vs,sl,hx,_⟩,_⟩:=(show ObjOk X.prog X.w H s.heap a (Er C dx a)from I.hok a _ e);obtain⟨⟨mA,hn,r,wi⟩,_⟩:=(show ObjOk X.prog X.w H s.heap dx (Cp dx fs)from I.hok dx _ ed);have hne:dx≠a:=λz=>by
  subst z;obtain⟨o,es,ep,ho,hd,_⟩:=hn;rw[hx]at ho;cases ho;cases hd
 have hz:(fs.map (·.1)).length<=jU:=by rw[aa,ka];lia
 refine UQ I.kIn hx hn hne c.sa c.ex c.hd n wi hz λh' h1 h2 sb=>h _ ?_;have hd:∃o,h'.get? dx=O o:=let ⟨o,_,_,e',_⟩:=h2;⟨o,e'⟩;refine I.write (x:=dx) (e:=dx) (t':=s.toks+2) (by rw[ed];exact True.intro) (.inl Z) (λb q hb z=>(sb.2 b hb).trans z) hd<|QL h2 (λg=>?_) λg hg=>?_
 .show RelO ((Bl f y fs).lookup g) (if g=f then O u else mA g);rw[AC];by_cases q:g=f
  .rw[jP q,jP q];exact ry
  .rw[jK q,jK q];exact r g
 .by_cases q:g=f
  .rw[q];exact(DK f y fs).1
  .refine(DK f y fs).2 g (wi g λz=>hg ?_);show(if g=f then O u else mA g)=Y;rw[jK q];exact z
def XAt(H:Hp)(C dx a:jF):Prop:=H a=O (Er C dx a)\/∃T,H a=O (FW C (O dx) a T)
theorem XAt.obj(I:Inv X jy B H s)(h:XAt H C dx a):∃vs sl,s.heap.get? a=O ⟨.ref C,O dx,.fields vs,sl⟩:=by
 rcases h with h|⟨T,h⟩
 .obtain⟨⟨vs,sl,hx,_⟩,_⟩:=(show ObjOk X.prog X.w H s.heap a (Er C dx a)from I.hok a _ h);exact⟨vs,sl,hx⟩
 .obtain⟨⟨vs,sl,hx,_⟩,_⟩:=(show ObjOk X.prog X.w H s.heap a (FW C (O dx) a T)from I.hok a _ h);exact⟨vs,sl,hx⟩
theorem Se{b:Bool}{Q:VPz}(I:Inv X jy B H s)(e:XAt H C dx a)(ed:H dx=O (Cp dx fs))(c:XCls X.K C)(n:NoAttr X.K C f)(l:fs.lookup f=O v)
  (h:∀u s',Inv X jy B H s'->RelV v u->Q u s'):jT (jS X.prog X.w) A (getAttr (.ref a) f b) Q E s:=by
 obtain⟨vs,sl,hx⟩:=e.obj I;obtain⟨⟨mA,hn,r,wi⟩,_⟩:=(show ObjOk X.prog X.w H s.heap dx (Cp dx fs)from I.hok dx _ ed);obtain⟨u,hu,ru⟩:=RelO.some_of (v:=v) (o:=mA f) (by rw[<-l];exact r f);obtain⟨od,ho,hl⟩:=Ln hn;have J:InstAt s.heap a ⟨.ref C,O dx,.fields vs,sl⟩ C (O od):=⟨hx,Z,Z,ho⟩;exact Vs I.kIn J c.ex c.ga c.gh (findObj_own c.hd n Z<|by rw[hl,hu]) (Lw ru)<|h u _ (I.tok _) ru
end
set_option tactic.hygienic true in
theorem TL{K:jX}{x D:jF}(c:XCls K D):KitX K (.ref x) (.ref D) (λh=>∃(ox:Obj)(od:Option Obj),InstAt h x ox D od) where
 ty:=λ_ _ _ ⟨_,_,I⟩=>I.type
 it:=λ_ _ X _=>by
  obtain⟨cdD,hcD,_⟩:=lB c.hd;unfold clsIn at hcD;split at hcD
  .rename_i c' d' cd' sl' ho;intro A' Q' E' s' k q;unfold isType loadHead;exact jG<|lC (k _ _<|X _ _ ho)<|jL q
  .cases hcD
 ne:=λh tp dd its n sl X htp=>by
  obtain⟨cdD,hcD,_⟩:=lB c.hd;refine Bool.eq_false_iff.mpr λq=>?_;have e:D=tp:=Value.ref.inj<|beq_iff_eq.mp q;subst e;unfold clsIn at hcD;split at hcD
  .rename_i c' d' cd' sl' ho;have z:=(X _ _ ho).symm.trans htp;cases z
  .cases hcD
 ca:=λ{prog w A E Q s} X ⟨ox,od,I⟩ h=>by
  have hf:findObj K D od "__class__"=O (.bind (.builtin "getset_descriptor.__get__")<|.builtin "object.__class__"):=by
   obtain⟨cd,hc,_⟩:=lB c.hd;unfold findObj;rw[hc,bR,c.ca,bR];simp[c.gn,c.tk]
  exact Sm X I c.ex c.ga c.gh hf c.mo h
def UA(H:Hp)(a C:jF):Prop:=(∃dx fs,XAt H C dx a/\H dx=O (Cp dx fs))\/H a=O (Il C a)\/∃T,H a=O (FW C Y a T)
section
variable{X:Cx}
theorem Pu{jy:PNz}{B:St}{H:Hp}{s:jH}{a C:jF}(I:Inv X jy B H s)(h:UA H a C):∃(ox:Obj)(od:Option Obj),InstAt s.heap a ox C od:=by
 rcases h with⟨dx,fs,h1,h2⟩|h|⟨T,h⟩
 .obtain⟨vs,sl,hx⟩:=h1.obj I;obtain⟨⟨mA,hn,_⟩,_⟩:=(show ObjOk X.prog X.w H s.heap dx (Cp dx fs)from I.hok dx _ h2);obtain⟨o,_,_,ho,_⟩:=hn;exact⟨_,O o,⟨hx,Z,Z,ho⟩⟩
 .obtain⟨⟨vs,sl,hx,_⟩,_⟩:=(show ObjOk X.prog X.w H s.heap a (Il C a)from I.hok a _ h);exact⟨_,Y,⟨hx,Z,Z,trivial⟩⟩
 .obtain⟨⟨vs,sl,hx,_⟩,_⟩:=(show ObjOk X.prog X.w H s.heap a (FW C Y a T)from I.hok a _ h);exact⟨_,Y,⟨hx,Z,Z,trivial⟩⟩
theorem Ep:Cq X (.builtin "isinstance") (λxs H Q=>∃a C c u b,xs=[.ref a,c]/\UA H a C/\XCls X.K C/\RelV c u/\(∀u',RelV c u'->u'=u)/\kQ X.K (.ref C) u=O b/\Q (.bl b) H):=by
 intro jy s B H xs us Q I r h;obtain⟨a,C,c,u,b,rfl,he,hc,ru,uq,hk,q⟩:=h;obtain⟨v1,v2,rfl,r1,r2⟩:=S0 r;cases r1;have:=uq v2 r2;subst this;exact kX (TL hc) I.kIn (Pu I he) hk (λz=>nomatch z) λtk=>⟨.bl b,H,I.tok tk,Z,q⟩
end
def Xr(K:jX)(ta:TE)(f:j5):TE:=λB H Q=>ta B H λx H1=>∃a C dx fs v,x=.ref a/\XAt H1 C dx a/\H1 dx=O (Cp dx fs)/\XCls K C/\NoAttr K C f/\fs.lookup f=O v/\Q v H1
def X6(K:jX)(ta tv:TE)(f:j5):TS:=λD B H=>tv B H λy H1=>ta B H1 λx H2=>∃a C,x=.ref a/\XCls K C/\NoAttr K C f /\
 ((H2 a=O (Il C a)/\∀d,H2 d=Y->D.nx B (upd (upd H2 d<|Cp d [(f,y)]) a<|Er C d a))\/∃dx fs,H2 a=O (Er C dx a)/\H2 dx=O (Cp dx fs)/\fs.length<1000/\D.nx B (upd H2 dx<|Cp dx<|Bl f y fs))
section
variable{X:Cx}{o e value:j9}{f:j5}{pos pos':Pos}{ta tv:TE}
theorem UX(he:PE X e ta)(hb:attributeBase e f X.env (eval e X.env)=eval e X.env):PE X (.Attribute e f pos) (Xr X.K ta f):=by
 intro jy s B H Q I h;refine QT hb<|thn (he jy s B H _ I h) λu s1 hz_=>?_;obtain⟨x,H1,I1,rx,a,C,dx,fs,v,ex,ea,ed,c,n,l,q⟩:=hz_;subst ex;obtain rfl:u=Value.ref a:=rx;exact Se I1 ea ed c n l λu' s2 I2 ru=>⟨v,H1,I2,ru,q⟩
theorem Ir(ha:PE X o ta)(hv:PE X value tv)(hs:swapsWith value (O<|.Attribute o f pos') pos.line X.env=pure oe):PS X (.Assign [.Attribute o f pos'] value pos) (X6 X.K ta tv f):=by
 intro jy s B H D I h;refine lg (thn (hv jy s B H _ I h) λu s1 hz_=>?_) hs;obtain⟨y,H1,I1,ry,q⟩:=hz_;refine thn (ha jy s1 B H1 _ I1 q) λov s2 hz_=>?_;obtain⟨x,H2,I2,rx,a,C,ex,c,n,q2⟩:=hz_;subst ex;obtain rfl:ov=Value.ref a:=rx;rcases q2 with⟨e0,q2⟩|⟨dx,fs,e1,e2,l,q2⟩
 .exact OT I2 e0 c n ry λs3 d hd I3=>⟨B,_,I3,q2 d hd⟩
 .exact R7 I2 e1 e2 c n l ry λs3 I3=>⟨B,_,I3,q2⟩
end
noncomputable def xG0:Data->Option ClassData
 |.cls c=>O c
 |_=>Y
theorem xg0{d:Data}{c:ClassData}(h:xG0 d=O c):d=.cls c:=by cases d<;>cases h;rfl
noncomputable def xG2(l:AOz):Option jJ->List (Option jJ):=λn=>[l.getD 0 Y,l.getD 1 Y,l.getD 2 Y,l.getD 3 Y,n,l.getD 5 Y]
noncomputable def xG1(K:jX)(C:jF):Bool:=match K.lookup C with
 |some o=>(match xG0 o.data with
  |some cd=>o.cls==.type "type"&&o.slots.toList==xG2 o.slots (O<|.builtin "ValueError.__new__")&&cd.mro.head?==O (.ref C)&&!cd.hasDel&&tailIn K vErr cd.mro.tail
  |none=>oe)
 |none=>oe
noncomputable def Hh(K:jX)(C:jF)(fI:jF):Bool:=xG1 K C&&(match K.lookup C with
 |some ⟨_,_,.cls cd,_⟩=>nsOkIn K cd.ns&&kI K cd.ns "__init__"==O (O<|.ref fI)
 |_=>oe)
theorem xGe{K:jX}{C:jF}(q:xG1 K C=nZ):∃nm bs bm ns qn hd sn sub ab col dd k0 k1 k2 k3 k5,K.lookup C=O (excClassObj nm qn C ns bs bm hd sn sub ab col dd k0 k1 k2 k3 k5 "ValueError.__new__")/\tailIn K vErr bm=nZ:=by
 unfold xG1 at q;cases ho:K.lookup C with
 |none=>rw[ho]at q;cases q
 |some o=>
  rw[ho]at q;obtain⟨ty,dd,d,sl⟩:=o;cases hd:xG0 d with
  |none=>dsimp only at q;rw[hd]at q;cases q
  |some cd=>
   dsimp only at q;rw[hd]at q;simp only[av,beq_iff_eq,eN]at q;obtain⟨⟨⟨⟨rfl,hs⟩,hm⟩,hdel⟩,ht⟩:=q;cases xg0 hd;obtain⟨nm,bs,mro,ns,qn,hd,sn,sub,ab,col,del⟩:=cd;cases mro with
   |nil=>cases hm
   |cons v bm=>cases hm;dsimp only at hdel;subst hdel;obtain⟨l⟩:=sl;exact⟨_,_,_,_,_,_,_,_,_,_,_,_,_,_,_,_,congrArg (λz:List (Option jJ)=>O (Obj.mk (.type "type") dd (.cls _) (.mk z))) hs,ht⟩
set_option tactic.hygienic true in
theorem Pn{K:jX}{h:j6}{N:jF}{mg:MGz}{n:j5}{v:jJ}(X:K.In h)(G:h.Ns N mg)(e:kI K N n=O (O v)):mg n=O v:=by
 obtain⟨o,es,ep,ho,hd,_,hf⟩:=G;unfold kI at e;split at e
 .rename_i c d es' n' sl q;have:=X _ _ q;rw[ho]at this;cases this;cases hd;split at e
  .rename_i e' he;cases e;rw[<-hf];unfold nsFind findBy;rw[<-Array.find?_toList,he];rfl
  .split at e<;>cases e
 .cases e
structure XMk(K:jX)(C fI:jF):Prop where
 cl:XCls K C
 ei:Hh K C fI=nZ
 kp:kP K (.ref C)=nZ
 fn:isFn K (.ref fI)=nZ
theorem XMk.call{K:jX}{C fI:jF}(M:XMk K C fI){prog:jN}{w:jW}{A:jZ}{E:VPz}{s:jH}{rest:LWz}{Q:VPz}(X:K.In s.heap)(hrest:rest.length<=jU)
  (hq:jT (jS prog w) (A.under<|.builtin "type.__call__" ⟨.ref C::rest,[]⟩) (call (.ref fI) (.ref (s.heap.objs.size+1)::rest)) (λr s'=>r=.none/\Q (.ref<|s.heap.objs.size+1) s') E { s with heap:=C0 s.heap C rest}):
  jT (jS prog w) A (call (.ref C) rest) Q E s:=by
 obtain⟨hh,g,d,t,os⟩:=s;have q:=M.ei;have fnt:typeIn K (.ref fI)=O (.type "function"):=beq_iff_eq.mp M.fn;have hfI:∃oI:Obj,hh.get? fI=O oI/\oI.cls=.type "function":=by
  cases z:K.lookup fI with
  |none=>simp[typeIn,z]at fnt
  |some o=>exact⟨o,X _ _ z,by simpa [typeIn,z]using fnt⟩
 obtain⟨oI,hoI,hcI⟩:=hfI;unfold Hh at q;rw[av]at q;obtain⟨nm,bs,bm,ns,qn,hd,sn,sub,ab,col,dd,k0,k1,k2,k3,k5,ho,ht⟩:=xGe q.1;have q:=q.2;rw[ho]at q;have q:(nsOkIn K ns&&kI K ns "__init__"==O (O<|.ref fI))=nZ:=q;rw[av,beq_iff_eq]at q;have G:hh.Ns ns (hh.nsMap ns):=.of_isNs<|isNs_of_in X q.1;exact Sn PySem.F.excBase_ValueError (tail_of_in X ht) (X _ _ ho) G (Pn X G q.2) hoI hcI hrest hq
theorem ObjOk.there{P:jN}{w:jW}{H:Hp}{h:j6}{a:jF}{o:HO}(x:ObjOk P w H h a o):∃u,h.get? a=O u:=by
 cases o with
 |lst xs=>obtain⟨_,_,_,_,e⟩:=x;exact⟨_,e⟩
 |tup xs=>obtain⟨_,_,_,p⟩:=x;obtain⟨_,e,_⟩:=p;exact⟨_,e⟩
 |dK kvs=>obtain⟨_,_,_,_,o,_,_,e,_⟩:=x;exact⟨_,e⟩
 |dT kvs=>obtain⟨_,_,_,_,o,_,_,e,_⟩:=x;exact⟨_,e⟩
 |set S n=>obtain⟨o,_,_,_,e,_⟩:=x;exact⟨_,e⟩
 |ins C dx fs=>obtain⟨_,_,_,e,_⟩:=x;exact⟨_,e⟩
 |own y=>obtain⟨_,e⟩:=x;exact⟨_,e⟩
 |xd fs=>obtain⟨_,⟨_,_,_,e,_⟩,_⟩:=x;exact⟨_,e⟩
 |rng lo hi=>obtain⟨_,_,_,e⟩:=x;exact⟨_,e⟩
 |frz ob u=>obtain⟨e,_⟩:=x;exact⟨_,e⟩
 |tbl ps=>exact⟨_,(show h.get? a=O _ from x)⟩
 |met f y=>exact⟨_,(show h.get? a=O _ from x)⟩
 |ext φ=>obtain⟨_,⟨_,e⟩,_⟩:=x;exact⟨_,e⟩
def UM(C:jF)(names:LSz):Sp:=λvs H Q _=>∃x ws,vs=.ref x::ws/\ws.length=names.length/\H x=O (Il C x) /\
 ∀d H',H d=Y->H' x=O (Er C d x)->H' d=O (Cp d<|names.zip ws)->(∀a o,a≠x->H a=O o->H' a=O o)->Q .non H'
structure QY(P:jN)(w:jW)(K:jX)(mg:MGz)(jD:j6)(k:Nat)(x:j5)(C:jF)(ps names:LSz):Prop where
 few:names.length<=1000
 ex:∃(f:jF)(fd:jM),XMk K C f/\A8 P w K mg jD CX0 k f fd ps (UM C names)/\mg x=O (.ref C)/\Binds K fd ps []
section
variable{X:Cx}{CX:CXT}{k j:Nat}{f C:jF}{fd:jM}{ps names:LSz}{sp:Sp}{E:XK}{x m:j5}{p pos apos:Pos}{e o:j9}{es:List j9}{ta:TE}{t:TA}
theorem UR{jy:PNz}{B:St}{H:Hp}{s:jH}{Q:VK}{us:LWz}{vs:LUz}(M:XMk X.K C f)(F:A8 X.prog X.w X.K X.mg X.jD CX k f fd ps sp)(hr:Room (k+1) X.A)(hb:Binds X.K fd ps [])
  (hx:Dc CX X E) (I:Inv X jy B H s) (r:Vals vs us) (hz:vs.length<=1000)
  (h:∀x,H x=Y->sp (.ref x::vs) (upd H x<|Il C x) (λv H2=>v=.non/\Q (.ref x) H2) E):
  jT (jS X.prog X.w) X.A (call (.ref C) us) (EP X jy B Q) X.xe s:=by
 have hq:=h (s.heap.objs.size+1)<|I.hok.fresh<|bT _;have hus:us.length<=jU:=by rw[<-r.length,ka];lia
 have I2:Inv X jy B (upd H (s.heap.objs.size+1)<|Il C<|s.heap.objs.size+1) { s with heap:=C0 s.heap C us}:=
  I.laid (t':=s.toks) (λb u z=>Cl z) (bT _) (V3 (KZ C us) Z)
 have r2:Vals (V.ref (s.heap.objs.size+1)::vs) (Value.ref (s.heap.objs.size+1)::us):=.cons Z r;have hl:(Value.ref (s.heap.objs.size+1)::us++[]).length=ps.length:=by
  have e:=r2.length;rw[F.len _ _ _ _ hq]at e;rw[aJ];exact e.symm
 have hb2:=hb { s with heap:=C0 s.heap C us} (Value.ref (s.heap.objs.size+1)::us) I2.kIn hl;rw[aJ]at hb2;refine M.call I.kIn hus (kR<|kL (F.run _ X.stack _ _ ⟨Value.ref (s.heap.objs.size+1)::us,[]⟩ (Value.ref (s.heap.objs.size+1)::us) _ _ E (hr.make C us [])
  (I2.env0.make C us []) hb2 r2 hq) λr s' hq'=>?_)
 cases r with
 |error e=>exact hx jy B _ _ e s' I2 hq'
 |ok fl=>
  cases fl with
  |ret u=>
   obtain⟨v,H',I3,rv,ev,q3⟩:=I2.after hq';subst ev;exact⟨rv,⟨V.ref<|s.heap.objs.size+1,H',I3,Z,q3⟩⟩
  |next=>exact False.elim hq'
  |brk=>exact False.elim hq'
  |cont=>exact False.elim hq'
end
structure Kf(fr tt:List jF)(e T:jF)(fl cls:jJ)(d:Option jF)(h h':j6):Prop where
 nT:h.get? T=Y
 keep:∀b o,b≠e->b∉fr->b∉tt->h.get? b=O o->h'.get? b=O o
 slot:∀b o,b∈fr->h.get? b=O o->∃sl,h'.get? b=O { o with slots:=sl}
 exc:∃vs sl,h'.get? e=O ⟨cls,d,.fields vs,sl⟩/\vs[1]?=O (.ref T)
 tb:∃o ts,h'.get? T=O o/\o.data=.fields ts/\ts[3]?=O fl
 old:∀t o ts,t∈tt->t≠e->h.get? t=O o->o.data=.fields ts->3<ts.size->∃o' ts',h'.get? t=O o'/\o'.data=.fields ts'/\ts'[3]?=O Value.none
section
variable{M:Model}{A:jZ}{E:VPz}{s:jH}{jD:j6}{env:lO}{jz:List lO}{L e:jF}{cls:jJ}{d:Option jF}{vs:Array jJ}{sl:AOz}{Q:Unit->jH->Prop}
theorem Jz{head:jJ}{hadNext:Bool}(hfr:A.frames=O (env::jz))(hl:s.heap.FunFrames jD (env::jz))(hf:env.frame=O L)(he:s.heap.get? e=O ⟨cls,d,.fields vs,sl⟩)(hsz:1<vs.size)
    (h:∀h' T,Kf (frs (env::jz)) [] e T (kD L) cls d s.heap h'->Q () { s with heap:=h'}):
    jT M A (do
      let a <-frameOf env
      let pl <-entryPlaceOf L hadNext
      let b <-EntryCells.newEntry head a .none (kD L) .none pl
      setField (.ref e) 1 b) Q E s:=by
  have hne:e∉frs (env::jz):=λhm=>by
    obtain⟨_,o,ho,hnf⟩:=hl.mem hm;rw[he]at ho;cases ho;exact hnf vs Z
  refine jG<|wpAny_frameOf_fun hfr hl hf λh₁ hs=>jG<|wpAny_entryPlaceOf λpl hpl=>?_;unfold EntryCells.newEntry newFields;refine jG<|kH ?_<|hpl.sizeOk5 _ _ _ _ _;have e1:h₁.get? e=O ⟨cls,d,.fields vs,sl⟩:=(hs.2.1 e hne).trans he;generalize hob:({cls:=.type "traceback",dict:=Y,data:=.fields ([head,.ref L,.none,kD L,.none]++(if pl.isEmpty then List.replicate 6 Value.none else pl)).toArray}:Obj)=ob;have hfb:ob.isFreed=oe:=by rw[<-hob];rfl
  have e2:=ag (h:=h₁) ob e1;refine kZ e2 Z hsz<|h _ h₁.objs.size ?_;have nTe:h₁.objs.size≠e:=eQ<|ay e1;have kp:∀b o,b≠e->h₁.get? b=O o->((h₁.push ob).update e (Obj.mapFields (·.setIfInBounds 1 (Value.ref h₁.objs.size)))).get? b=O o:=λb o nb hb=>by
    rw[bY _ _<|Ne.symm nb];exact ag _ hb
  refine⟨fT<|dH hs.1.symm,λb o nb nf _ hb=>kp b o nb<|(hs.2.1 b nf).trans hb,λb o bf hb=>?_,⟨vs.setIfInBounds 1<|.ref h₁.objs.size,sl,?_,by simp[hsz]⟩,⟨ob,([head,.ref L,.none,kD L,.none]++(if pl.isEmpty then List.replicate 6 Value.none else pl)).toArray,?_,by rw[<-hob],?_⟩,λ_ _ _ z=>nomatch z⟩
  · obtain⟨sl',z⟩:=hs.2.2 b o hb
    exact⟨sl',kp b _ (λq=>hne<|q ▸ bf) z⟩
  · exact b9 _ e2 Z
  · rw[bY _ _<|Ne.symm nTe];exact aH _ hfb
  · simp
theorem NQ(hfr:A.frames=O (env::jz))(hl:s.heap.FunFrames jD (env::jz))(hf:env.frame=O L)(he:s.heap.get? e=O ⟨cls,d,.fields vs,sl⟩)(h1:vs[1]?=O Value.none)
  (h:∀h' T,Kf (frs (env::jz)) [] e T (kD L) cls d s.heap h'->Q () { s with heap:=h'}):jT M A (noteFrame (.ref e) env) Q E s:=by
 unfold noteFrame;simp only[hf];refine jG<|lx he Z h1 ?_;rw[jK<|by decide];exact Jz hfr hl hf he (bp.mp h1).1 h
theorem RN{T1:jF}{oT:Obj}{ts:Array jJ}(hfr:A.frames=O (env::jz))(hl:s.heap.FunFrames jD (env::jz))(hf:env.frame=O L)(he:s.heap.get? e=O ⟨cls,d,.fields vs,sl⟩)(h1:vs[1]?=O (.ref T1))
  (hT:s.heap.get? T1=O oT) (hd:oT.data=.fields ts) (h3:ts[3]?=O Value.none) (ne:T1≠e)
  (h:∀h' T,Kf (frs (env::jz)) [T1] e T (kD L) cls d s.heap h'->Q () { s with heap:=h'}):jT M A (noteFrame (.ref e) env) Q E s:=by
 unfold noteFrame;simp only[hf];refine jG<|lx he Z h1 ?_;rw[jP (show(Value.ref T1 != Value.none)=nZ from by simp)];refine jG<|lx hT hd h3 ?_;rw[jK (show ¬((Value.none==kD L)=nZ)from by simp[kD])];have hs3:3<ts.size:=(bp.mp h3).1;refine jG<|kZ hT hd hs3 ?_;have oth:∀b,b≠T1->(s.heap.update T1 (Obj.mapFields (·.setIfInBounds 3 Value.none))).get? b=s.heap.get? b:=λb hb=>bY _ _<|Ne.symm hb;have nT1:T1∉frs (env::jz):=λhm=>by
  obtain⟨_,o,ho,hnf⟩:=hl.mem hm;rw[hT]at ho;cases ho;exact hnf ts hd
 have self:(s.heap.update T1 (Obj.mapFields (·.setIfInBounds 3 Value.none))).get? T1=O (Obj.mapFields (·.setIfInBounds 3 Value.none) oT):=b9 _ hT<|Obj.isFreed_of_fields<|Obj.data_mapFields hd _;refine Jz (s:={s with heap:=s.heap.update T1 (Obj.mapFields (·.setIfInBounds 3 Value.none))}) hfr (hl.of_keeps λb o hb hnf=>⟨o,(oth b λq=>?_).trans hb,Z⟩) hf ((oth e<|Ne.symm ne).trans he) (bp.mp h1).1 λh' T n=>h h' T ?_
 .rw[q,hT]at hb;cases hb;exact hnf ts hd
 .have nT':s.heap.get? T=Y:=by
   by_cases q:T=T1
   .have:=n.nT;rw[q]at this;rw[self]at this;cases this
   .rw[<-oth T q];exact n.nT
  refine⟨nT',λb o nb nf nt hb=>n.keep b o nb nf (by simp) ((oth b<|by simpa using nt).trans hb),λb o bf hb=>n.slot b o bf<|(oth b λq=>nT1<|q ▸ bf).trans hb,n.exc,n.tb,λt o us ht hte hb hdo hsz=>?_⟩;obtain rfl:t=T1:=by simpa using ht
  rw[hT]at hb;cases hb;rw[hd]at hdo;cases hdo;exact⟨_,_,n.keep t _ hte nT1 (by simp) self,Obj.data_mapFields hd _,by simp[hs3]⟩
theorem JN{T:jF}{oT:Obj}{ts:Array jJ}(he:s.heap.get? e=O ⟨cls,d,.fields vs,sl⟩)(h1:vs[1]?=O (.ref T))(hT:s.heap.get? T=O oT)(hd:oT.data=.fields ts)(hs3:3<ts.size)
  (h:∀h',(∀b,b≠T->h'.get? b=s.heap.get? b)->(∃o' ts',h'.get? T=O o'/\o'.data=.fields ts'/\ts'[3]?=O Value.none)->Q () { s with heap:=h'}):jT M A (setFlight (.ref e) Y) Q E s:=by
 unfold setFlight;refine jG<|lx he Z h1 ?_;rw[jP (show(Value.ref T != Value.none)=nZ from by simp)];refine kZ hT hd hs3 (h _ (λb hb=>bY _ _<|Ne.symm hb) ⟨_,_,b9 _ hT<|Obj.isFreed_of_fields<|Obj.data_mapFields hd _,Obj.data_mapFields hd _,by simp[hs3]⟩)
end
section
variable{prog:jN}{w:jW}{A:jZ}{E:VPz}{s:jH}{K:jX}{C fI e:jF}{d:Option jF}{env:lO}
theorem Pa{x:Sem jJ}{Q:Flow->jH->Prop}(M:XMk K C fI)(hh:A.handled=Y)
  (h:jT (jS prog w) A x (λv s₁=>∃e d vs sl,v=.ref e/\K.In s₁.heap/\s₁.heap.get? e=O ⟨.ref C,d,.fields vs,sl⟩/\vs[1]?=O Value.none/\E (.ref e) s₁) E s):
  jT (jS prog w) A (raiseStmt env (O x) Y) Q E s:=by
 unfold raiseStmt;refine jG<|ke h (λv s₁ h₁=>?_) λ_ _ x=>x;obtain⟨e,d,vs,sl',rfl,X,he,h1,hE⟩:=h₁;obtain⟨hp,g,dr,tk,os⟩:=s₁;have q:=M.ei;unfold Hh at q;rw[av]at q;obtain⟨nm,bs,bm,ns,qn,hd,sn,sub,ab,col,dd,k0,k1,k2,k3,k5,ho,ht⟩:=xGe q.1;have hC:hp.get? C=O (excClassObj nm qn C ns bs bm hd sn sub ab col dd k0 k1 k2 k3 k5 "ValueError.__new__"):=X _ _ ho;have hcB:(Value.ref C::bm).contains (.type "BaseException")=nZ:=by
  rw[d9,(tail_of_in X ht).hasType (show vErr.contains (.type "BaseException")=nZ by decide +kernel)];exact fL _
 repeat (first|with_reducible refine lx he Z h1 ?_|with_reducible refine kC he ?_|with_reducible refine kC hC ?_|(with_reducible refine ly hC ?_;rw[hcB])|wp_step)
 exact wpAny_raiseNew_none hh hE
end
noncomputable def TbO(T:jF):HO:=.ext λh=>∃o ts,h.get? T=O o/\o.data=.fields ts/\ts[3]?=O Value.none
theorem OM{P:jN}{w:jW}{H:Hp}{h:j6}{T:jF}(t:∃o ts,h.get? T=O o/\o.data=.fields ts/\ts[3]?=O Value.none):ObjOk P w H h T (TbO T):=
 ⟨t,let ⟨o,_,e,_⟩:=t;⟨o,e⟩,λ_ _ ⟨o,ts,e,r⟩ k=>⟨o,ts,k _ e,r⟩⟩
def Rr(H:Hp)(x C:jF)(d:Option jF):Prop:=(d=Y/\H x=O (Il C x))\/∃dx,d=O dx/\H x=O (Er C dx x)
def Fk(H:Hp)(x C:jF)(d:Option jF)(T:jF):Prop:=H x=O (FW C d x T)/\H T=O (TbO T)/\T≠x
noncomputable def thrown(H:Hp)(x C:jF)(d:Option jF)(T:jF):Hp:=upd (upd H T<|TbO T) x<|FW C d x T
theorem DB{H:Hp}{x C T:jF}{d:Option jF}:thrown H x C d T x=O (FW C d x T):=Ae
theorem FZ{H:Hp}{x C T:jF}{d:Option jF}(n:T≠x):thrown H x C d T T=O (TbO T):=by unfold thrown;rw[Af n,Ae]
theorem AU{H:Hp}{x C T b:jF}{d:Option jF}(n:b≠x)(m:b≠T):thrown H x C d T b=H b:=by unfold thrown;rw[Af n,Af m]
section
variable{X:Cx}{jy:PNz}{B:St}{H:Hp}{s:jH}{x C T:jF}{d:Option jF}{h1 h2:j6}{fl:jJ}{tt:List jF}
theorem Ve(I:Inv X jy B H s){φ:j6->Prop}(hx:H x=O (.ext φ))(htt:∀t∈tt,H t=O (TbO t)/\t≠x)(n:Kf (frs X.stack) tt x T fl (.ref C) d s.heap h1)(k2:∀b,b≠T->h2.get? b=h1.get? b)
  (t2:∃o ts,h2.get? T=O o/\o.data=.fields ts/\ts[3]?=O Value.none):H T=Y/\T≠x/\Un (frs X.stack) [] H (thrown H x C d T) s.heap h2/\HOk X.prog X.w (thrown H x C d T) h2:=by
 have hT:H T=Y:=by
  cases q:H T with
  |none=>rfl
  |some u=>
   obtain⟨o,ho⟩:=(I.hok T u q).there;rw[n.nT]at ho;cases ho
 have nTx:T≠x:=λz=>by rw[z,hx]at hT;cases hT
 have tn:∀b o,s.heap.get? b=O o->b≠T:=λb o e z=>by rw[z,n.nT]at e;cases e
 have un:∀b,H b=Y->b≠x:=λb e z=>by rw[z,hx]at e;cases e
 have ut:∀b,H b=Y->b∉tt:=λb e z=>by rw[(htt b z).1]at e;cases e
 have hb:∀b u,H b=O u->b≠T:=λb u e z=>by rw[z,hT]at e;cases e
 have old:∀t∈tt,∃o' ts',h2.get? t=O o'/\o'.data=.fields ts'/\ts'[3]?=O Value.none:=λt ht=>by
  obtain⟨e,ne⟩:=htt t ht;obtain⟨⟨o,ts,e1,e2,e3⟩,_⟩:=(show ObjOk X.prog X.w H s.heap t (TbO t)from I.hok t _ e);obtain⟨o',ts',f1,f2,f3⟩:=n.old t o ts ht ne e1 e2 (bp.mp e3).1;exact⟨o',ts',(k2 t<|hb t _ e).trans f1,f2,f3⟩
 have exc:∃vs sl,h2.get? x=O ⟨.ref C,d,.fields vs,sl⟩/\vs[1]?=O (.ref T):=by
  obtain⟨vs,sl,e1,e2⟩:=n.exc;exact⟨vs,sl,(k2 x<|Ne.symm nTx).trans e1,e2⟩
 have ne_ext:∀b u,H b=O u->(∀ψ,u≠.ext ψ)->b≠x:=λb u e z q=>by rw[q,hx]at e;cases e;exact z _ Z
 refine⟨hT,nTx,⟨λb o q e nf _=>?_,λb o q e bf _=>?_,λb o q e _=>?_,λb o q _=>?_,λb xs e=>?_,λb o u e=>?_,λb ps e=>⟨#[],?_⟩⟩,λb u e=>?_⟩
 .exact(k2 b<|tn b o q).trans (n.keep b o (un b e) nf (ut b e) q)
 .obtain⟨sl,z⟩:=n.slot b o bf q;exact⟨sl,(k2 b<|tn b o q).trans z⟩
 .rw[AU (un b e)<|tn b o q];exact e
 .by_cases z:b=x
  .obtain⟨vs,sl,e1,_⟩:=exc;exact⟨_,z ▸ e1⟩
  .by_cases zf:b∈frs X.stack
   .obtain⟨sl,z⟩:=n.slot b o zf q;exact⟨_,(k2 b<|tn b o q).trans z⟩
   .by_cases zt:b∈tt
    .obtain⟨o',_,e1,_⟩:=old b zt;exact⟨o',e1⟩
    .exact⟨o,(k2 b<|tn b o q).trans<|n.keep b o z zf zt q⟩
 .rw[AU (ne_ext b _ e λψ z=>by cases z)<|hb b _ e];exact e
 .rw[AU (ne_ext b _ e λψ z=>by cases z)<|hb b _ e];exact e
 .rw[AU (ne_ext b _ e λψ z=>by cases z)<|hb b _ e,e];simp
 .by_cases z:b=x
  .subst z;rw[DB]at e;cases e;obtain⟨vs,sl,e1,e2⟩:=exc;exact V1 e1 e2
  .by_cases zT:b=T
   .subst zT;rw[FZ nTx]at e;cases e;exact OM t2
   .rw[AU z zT]at e;by_cases zt:b∈tt
    .rw[(htt b zt).1]at e;cases e;exact OM<|old b zt
    .have own_ne:∀c,H c=O (.own b)->c≠x/\c≠T:=λc hc=>⟨ne_ext c _ hc (λψ z=>by cases z),hb c _ hc⟩;refine(I.hok b u e).stay (λc v hc q=>?_) (λc q=>?_) λc xs q=>?_
     .have hcH:∃y,H c=O y:=by
       rcases hc with rfl|hc
       .exact⟨u,e⟩
       .exact⟨_,hc⟩
      obtain⟨y,hy⟩:=hcH;refine(k2 c<|hb c y hy).trans (n.keep c v ?_ (λzf=>by rw[I.stkFree c zf]at hy;cases hy) (λzt'=>?_) q)
      .rcases hc with rfl|hc
       .exact z
       .exact(own_ne c hc).1
      .rcases hc with rfl|hc
       .exact zt zt'
       .rw[(htt c zt').1]at hc;cases hc
     .rw[AU (own_ne c q).1 (own_ne c q).2];exact q
     .rw[AU (ne_ext c _ q λψ z=>by cases z)<|hb c _ q];exact q
theorem Hw{E:VPz}{Q:Unit->jH->Prop}(I:Inv X jy B H s)(hst:X.stack=X.env::X.jz)(hfr:X.env.frame=O X.env.locals)(hf:Rr H x C d\/∃T,Fk H x C d T)
  (h:∀h' T,H T=Y->T≠x->Inv X jy B (thrown H x C d T) { s with heap:=h'}->Q () { s with heap:=h'}):
  jT (jS X.prog X.w) X.A (noteFrame (.ref x) X.env) (λ_ s₂=>jT (jS X.prog X.w) X.A (setFlight (.ref x) Y) Q E s₂) E s:=by
 have fr:X.A.frames=O (X.env::X.jz):=hst ▸ I.ok.frames;have ff:s.heap.FunFrames X.jD (X.env::X.jz):=hst ▸ I.stack;have rest:∀{φ:j6->Prop}{tt:List jF}(hx:H x=O (.ext φ))(htt:∀t∈tt,H t=O (TbO t)/\t≠x)(h1:j6)(T:jF),Kf (frs (X.env::X.jz)) tt x T (kD X.env.locals) (.ref C) d s.heap h1 ->
   jT (jS X.prog X.w) X.A (setFlight (.ref x) Y) Q E { s with heap:=h1}:=λ{φ tt} hx htt h1 T n=>by
  obtain⟨vs,sl,e1,e2⟩:=n.exc;obtain⟨o,ts,f1,f2,f3⟩:=n.tb;refine JN (s:={s with heap:=h1}) e1 e2 f1 f2 (bp.mp f3).1 λh2 k2 t2=>?_;obtain⟨hT,nT,un,ok⟩:=Ve I hx htt (hst ▸ n) k2 t2;exact h h2 T hT nT (I.call (g':=s.gens) (d':=s.drawn) (t':=s.toks) (ch:=[]) un ok I.bare λb z=>absurd z<|by simp)
 rcases hf with(⟨rfl,hx⟩|⟨dx,rfl,hx⟩)|⟨T,hx,hT,ne⟩
 .obtain⟨⟨vs,sl,e1,e2⟩,_⟩:=(show ObjOk X.prog X.w H s.heap x (Il C x)from I.hok x _ hx);exact NQ fr ff hfr e1 e2 λh1 T n=>rest (tt:=[]) hx (λt z=>absurd z<|by simp) h1 T n
 .obtain⟨⟨vs,sl,e1,e2⟩,_⟩:=(show ObjOk X.prog X.w H s.heap x (Er C dx x)from I.hok x _ hx);exact NQ fr ff hfr e1 e2 λh1 T n=>rest (tt:=[]) hx (λt z=>absurd z<|by simp) h1 T n
 .obtain⟨⟨vs,sl,e1,e2⟩,_⟩:=(show ObjOk X.prog X.w H s.heap x (FW C d x T)from I.hok x _ hx);obtain⟨⟨o,ts,f1,f2,f3⟩,_⟩:=(show ObjOk X.prog X.w H s.heap T (TbO T)from I.hok T _ hT);exact RN fr ff hfr e1 e2 f1 f2 f3 ne λh1 T' n=>rest (tt:=[T]) hx (λt z=>by rw[ae.mp z];exact⟨hT,ne⟩) h1 T' n
theorem RV{E:VPz}{Q:Unit->jH->Prop}(I:Inv X jy B H s)(hst:X.stack=X.env::X.jz)(hfr:X.env.frame=O X.env.locals)(hf:Rr H x C d\/∃T,Fk H x C d T)
  (h:∀h' T,H T=Y->T≠x->Inv X jy B (thrown H x C d T) { s with heap:=h'}->Q () { s with heap:=h'}):jT (jS X.prog X.w) X.A (leaving X.env<|.ref x) Q E s:=by
 unfold leaving;exact jG<|Hw I hst hfr hf h
end
def CX1(P:jN)(w:jW):CXT:=λjz H s E e s'=>∃x T C d H',e=Value.ref x/\s'.os=s.os/\AllBare s'.gens/\Un (frs jz) [] H H' s.heap s'.heap/\HOk P w H' s'.heap/\Fk H' x C d T/\E (.ref x) d H'
def Xi(X:Cx)(E:XK):Prop:=∀(jy:PNz)(B:St)(H:Hp)(s:jH)(x C:jF)(d:Option jF),Inv X jy B H s->(Rr H x C d\/∃T,Fk H x C d T) ->
 (∀T,H T=Y->T≠x->E (.ref x) d (thrown H x C d T))->X.xe (.ref x) s
section
variable{P:jN}{w:jW}{K:jX}{mg:MGz}{jD:j6}{N:LSz}{jC:j5}{scope:kF}{f:jF}{cd:jJ}{A:jZ}{jz:List lO}{s:jH}{H:Hp}{E E₁:XK}
theorem Im:Xi (Bx (CX1 P w) P w K mg jD N jC scope f cd A jz s H E) E:=by
 intro jy B H1 s1 x C d I hf hE;exact RV I Z Z hf λh' T hT nT I'=>⟨x,T,C,d,_,Z,I'.os,I'.bare,I'.jD,I'.hok,⟨DB,FZ nT,nT⟩,hE T hT nT⟩
theorem Pf:PassesOwn (jS (Bx (CX1 P w) P w K mg jD N jC scope f cd A jz s H E).prog (Bx (CX1 P w) P w K mg jD N jC scope f cd A jz s H E).w) (Bx (CX1 P w) P w K mg jD N jC scope f cd A jz s H E).A (Bx (CX1 P w) P w K mg jD N jC scope f cd A jz s H E).env (Bx (CX1 P w) P w K mg jD N jC scope f cd A jz s H E).xe:=PassesOwn.leaving
end
section
variable{X:Cx}{E E₁:XK}
theorem Tk(hX:Xi X E)(h:∀x C d T T2 H',E₁ (.ref x) d H'->Fk H' x C d T->H' T2=Y->T2≠x->E (.ref x) d (thrown H' x C d T2)):Dc (CX1 X.prog X.w) X E₁:=by
 rintro jy B H s e s' I ⟨x,T,C,d,H',rfl,os,bare,un,hok,fl,q⟩;obtain⟨hh,g,dr,t,os'⟩:=s';obtain rfl:os'=s.os:=os;exact hX jy B H' _ x C d (I.call (h':=hh) (g':=g) (d':=dr) (t':=t) (ch:=[]) un hok bare λb z=>absurd z<|by simp) (.inr ⟨T,fl⟩) λT2 h2 n2=>h x C d T T2 H' q fl h2 n2
end
theorem Fun.okx{P:jN}{w:jW}{K:jX}{mg:MGz}{jD:j6}{x jC:j5}{st:j0}{f:jF}{fd:jM}{N ps:LSz}{k:Nat}{sp:Sp}(F:Fun K x jC st f fd)(S:Al N ps<|Ah st)(len:∀vs H Q E,sp vs H Q E->vs.length=ps.length)
  (hbody:∀(cdv:jJ)(A:jZ)(jz:List lO)(s:jH)(H:Hp)(vs:LUz)(Q:VK)(E:XK),Room k (A.deeper<|envOfC jC (Ah st) s.heap.objs.size f cdv)->sp vs H Q E ->
   ∃t,PSs (Bx (CX1 P w) P w K mg jD N jC (Ah st) f cdv A jz s H E) (A9 st) t/\t { nx:=λ_ H'=>Q .non H',rt:=Q} (start N vs) H):A8 P w K mg jD (CX1 P w) (k+1) f fd ps sp:=by
 obtain⟨oc,od,kV,doc,pm,an,cdv,ct,osl,rfl,lk,hcd⟩:=F.ex;exact QK lk hcd S len λA jz s H vs Q E hr hsp=>hbody cdv A jz s H vs Q E hr hsp
structure Fl(P:jN)(w:jW)(K:jX)(mg:MGz)(jD:j6)(k:Nat)(x:j5)(ps:LSz)(sp:Sp):Prop where
 ex:∃(f:jF)(fd:jM),A8 P w K mg jD (CX1 P w) k f fd ps sp/\mg x=O (.ref f)/\kP K (.ref f)=nZ/\Binds K fd ps []
def W0(C:jF)(names:LSz)(E:XK)(t:TA):TS:=λ_ B H=>t B H λvs H1=>vs.length=names.length /\
 ∀y dx T H2,H1 y=Y->Same H1 H2->H2 y=O (Er C dx y)->H2 dx=O (Cp dx<|names.zip vs)->dx≠y->H2 T=Y->T≠y->E (.ref y) (O dx) (thrown H2 y C (O dx) T)
section
variable{X:Cx}{k j:Nat}{x:j5}{C:jF}{ps names:LSz}{sp:Sp}{p pos cpos:Pos}{e:j9}{es:List j9}{t:TA}{E E₁:XK}
theorem Mx(D:Fl X.prog X.w X.K X.mg X.jD k x ps sp)(hr:Room j X.A)(hx:Dc (CX1 X.prog X.w) X E₁)(ha:PA X (e::es) t)(hj:k<=j:=by decide)(hg:Gl X x:=by rfl)(hdb:(x==("__debug__":j5))=oe:=by decide)
  (he:jV (e::es) X.env=(oe,eval e X.env)::jV es X.env:=by rfl) (hpl:(kr pos<|jV es X.env).any (·.1)=oe:=by rfl):PE X (.Call (.Name x p) (e::es) [] pos) (PM sp [] E₁ t):=by
 obtain⟨f,fd,F,hm,hk,hb⟩:=D.ex;exact Q3 F (hr.mono hj) hg hm hk hb .nil hx ha hdb he hpl
theorem N7(hX:Xi X E)(D:QY X.prog X.w X.K X.mg X.jD k x C ps names)(hr:Room j X.A)(ha:PA X (e::es) t)(hc:X.calm=nZ:=by rfl)(hj:k+1<=j:=by decide)(hg:Gl X x:=by rfl)(hdb:(x==("__debug__":j5))=oe:=by decide)
  (he:jV (e::es) X.env=(oe,eval e X.env)::jV es X.env:=by rfl) (hpl:(kr cpos<|jV es X.env).any (·.1)=oe:=by rfl):PS X (.Raise (O<|.Call (.Name x p) (e::es) [] cpos) Y pos) (W0 C names E t):=by
 intro jy s B H Dd I h;obtain⟨f,fd,M,F,hm,hb⟩:=D.ex;have pe:jT (jS X.prog X.w) X.A (eval (.Call (.Name x p) (e::es) [] cpos) X.env) (EP X jy B λv H2=>∃y d,v=V.ref y/\Rr H2 y C d/\∀T,H2 T=Y->T≠y->E (.ref y) d (thrown H2 y C d T)) X.xe s:=by
  refine ki<|Eg I hg hm ?_ hdb;refine lD (h₀:=X.jD) I.ok.mod.kin M.kp (thn (ha cpos jy s B H _ I h) λus s1 ⟨vs,H1,I1,r,hl,q⟩=>⟨I1.kIn,?_⟩) he hpl;refine UR M F (hr.mono hj) hb Jk I1 r (hl ▸ D.few) λy hy=>⟨y,vs,Z,hl,Ae,λd H' hd h1 h2 hs=>⟨Z,y,O d,Z,.inr ⟨d,Z,h1⟩,λT hT nT=>?_⟩⟩;refine q y d T H' hy (λa o ho=>hs a o (Ad ho hy) ?_) h1 h2 (λz=>by rw[z,Ae]at hd;cases hd) hT nT;rw[Af<|Ad ho hy];exact ho
 rw[arm_exec_Raise];simp only[arm_evalOpt_some,show ∀v,evalOpt Y v=Y from λ_=>rfl,Option.map];refine jG<|kU<|Pa M (I.ok.hd hc) ?_;refine jG<|thn pe λv s1 ⟨u,H2,I2,r,y,d,ey,fr,hE⟩=>jG<|kU<|jL ?_;subst ey;obtain rfl:v=Value.ref y:=r;have ob:∃vs sl,s1.heap.get? y=O ⟨.ref C,d,.fields vs,sl⟩/\vs[1]?=O Value.none:=by
  rcases fr with⟨rfl,hx⟩|⟨dx,rfl,hx⟩
  .exact(show ObjOk X.prog X.w H2 s1.heap y (Il C y)from I2.hok y _ hx).1
  .exact(show ObjOk X.prog X.w H2 s1.heap y (Er C dx y)from I2.hok y _ hx).1
 obtain⟨vs,sl,e1,e2⟩:=ob;exact⟨y,d,vs,sl,Z,I2.kIn,e1,e2,hX jy B H2 s1 y C d I2 (.inl fr) hE⟩
end
noncomputable def Em:Nat->j6
 |0=>{}
 |n+1=>(Em n).push { cls:=.type "dict",data:=.dict #[]}
theorem El:∀n,(Em n).objs.size=n
 |0=>rfl
 |n+1=>by rw[Em,b8,El n]
theorem Ue{C C' x T T':jF}{d d':Option jF}(h:FW C d x T=FW C' d' x T'):C=C'/\d=d'/\T=T':=by
 have h:(HO.ext λh=>∃vs sl,h.get? x=O ⟨.ref C,d,.fields vs,sl⟩/\vs[1]?=O (.ref T))=HO.ext λh=>∃vs sl,h.get? x=O ⟨.ref C',d',.fields vs,sl⟩/\vs[1]?=O (.ref T'):=h;injection h with h;have e:=congrFun h<|(Em x).push ⟨.ref C,d,.fields #[.none,.ref T],#[]⟩;have g:((Em x).push ⟨.ref C,d,.fields #[.none,.ref T],#[]⟩).get? x=O ⟨.ref C,d,.fields #[.none,.ref T],#[]⟩:=eM (El x).symm Z;have q:=e.mp ⟨_,_,g,Z⟩;obtain⟨vs,sl,e1,e2⟩:=q;rw[g]at e1;cases e1;cases e2;exact⟨Z,Z,Z⟩
def XR(H:Hp)(x C:jF)(d:Option jF)(fs:LFz):Prop:=(∃dx,d=O dx/\dx≠x/\H dx=O (Cp dx fs))/\∃T,H x=O (FW C d x T)
theorem Wj{H1 H2:Hp}{y C dx T:jF}{fs:LFz}(hy:H1 y=Y)(s:Same H1 H2)(e:H2 y=O (Er C dx y))(ed:H2 dx=O (Cp dx fs))(hT:H2 T=Y)(nd:dx≠y):
  XR (thrown H2 y C (O dx) T) y C (O dx) fs/\Same H1 (thrown H2 y C (O dx) T):=
 ⟨⟨⟨dx,Z,nd,by rw[AU nd<|Ad ed hT];exact ed⟩,T,DB⟩,λa o ho=>by rw[AU (Ad ho hy)<|Ad (s a o ho) hT];exact s a o ho⟩
def Rf(H:Hp)(E:XK)(C:jF)(P:LFz->Hp->Prop):Prop:=∀x d fs H',H x=Y->Same H H'->XR H' x C (O d) fs->P fs H'->E (.ref x) (O d) H'
theorem Rf.raise{H H1 H2:Hp}{E:XK}{C y dx T:jF}{P:LFz->Hp->Prop}{fs:LFz}(r:Rf H E C P)(s1:Same H H1)(hy:H1 y=Y)(s:Same H1 H2)(e:H2 y=O (Er C dx y))(ed:H2 dx=O (Cp dx fs))(nd:dx≠y)
  (hT:H2 T=Y) (p:P fs<|thrown H2 y C (O dx) T):E (.ref y) (O dx) (thrown H2 y C (O dx) T):=by
 obtain⟨a,b⟩:=Wj hy s e ed hT nd;have hy0:H y=Y:=by
  cases q:H y with
  |none=>rfl
  |some o=>rw[s1 y o q]at hy;cases hy
 exact r y dx fs _ hy0 (s1.trans b) a p
section
variable{X:Cx}{jy:PNz}{B:St}{H:Hp}{s:jH}
theorem Iz{M:Model}{A:jZ}{E:VPz}{i:Nat}{n:j5}{pos:Pos}{Q:Unit->jH->Prop}(I:Inv X jy B H s)(hN:X.N.Nodup)(hi:X.N[i]?=O n)(hk:X.env.scope.names.lookup n=O .local)
    (h:∀s',Inv X jy (B.set i Y) H s'->Q () s'):jT M A (do bindName X.env n .none;unbindBehindTheSuite X.env n pos) Q E s:=by
  obtain⟨m,hn,hl⟩:=id I.loc;have hcls:(X.env.scope.kind==.class||(X.env.scope.kind==.module&&X.env.locals != X.env.globals))=oe:=by rw[I.ok.kind];rfl
  have hiσ:i<B.length:=by rw[I.len];exact(aD.mp hi).1
  refine wpAny_nameGoes_keeps hk hn hcls λh' v hn' hs=>h _ ?_;have nl:∀b o,X.s₀.heap.get? b=O o->b≠X.env.locals:=λb o e=>aM<|aP (ay e) I.ok.above;refine⟨I.ok,I.os,I.bare,⟨λb o e z hb hx=>(hs.2 b<|nl b o e).trans<|I.jD.keep b o e z hb hx,λb o e z hb hx=>?_,I.jD.free,λb o e hx=>?_,I.jD.tups,I.jD.frzs,I.jD.tbls⟩,⟨_,hn',λj y v' e1 e2 e3=>?_⟩,λy c e=>?_,I.free,I.freeC,λp hp=>?_,λb ob e=>?_,by simpa using I.len⟩
  · obtain⟨sl,e1⟩:=I.jD.slot b o e z hb hx
    exact⟨sl,(hs.2 b<|nl b o e).trans e1⟩
  · obtain⟨o',e1⟩:=I.jD.there b o e hx
    exact⟨o',(hs.2 b<|nl b o e).trans e1⟩
  · by_cases hj:j=i
    · subst hj
      rw[dF hiσ]at e2;cases e2
    · rw[dP<|Ne.symm hj]at e2
      obtain⟨u',r',q⟩:=hl j y v' e1 e2 e3;refine⟨u',r',?_⟩;rcases q with⟨k,e⟩|⟨k,c,e,z⟩
      · have ny:y≠n:=λe=>hj (J0 hN e1<|e ▸ hi)
        exact .inl ⟨k,by simp[ny,e]⟩
      · exact .inr ⟨k,c,e,z.sameBut hs<|I.cne y c e⟩
  · obtain⟨w',z⟩:=I.cell y c e
    exact⟨w',z.sameBut hs<|I.cne y c e⟩
  · obtain⟨e,z,ne,nf,d⟩:=I.pin p hp
    exact⟨(hs.2 p.1 ne).trans e,z,ne,nf,d⟩
  · refine(I.hok b ob e).stay (λc w' hc q=>(hs.2 c ?_).trans q) (λ_ q=>q) λ_ _ q=>q
    rintro rfl;rcases hc with hc|hc
    · rw[<-hc,I.free]at e;cases e
    · rw[I.free]at hc;cases hc
noncomputable abbrev Cx.suite(X:Cx)(x:jF):Cx:={X with A:=X.A.mark<|O<|.ref x,calm:=oe,xe:=λ_ _=>False}
theorem Inv.suite(I:Inv X jy B H s)(x:jF):Inv (X.suite x) jy B H s:=
 ⟨⟨I.ok.mod,I.ok.kind,I.ok.glob,I.ok.blt,I.ok.above,I.ok.inj,I.ok.has,I.ok.cab,(λz=>nomatch z),I.ok.frames,I.ok.stk,I.ok.exf,I.ok.bs,I.ok.bsz,I.ok.noex,I.ok.exfs,I.ok.funs,I.ok.frf⟩,I.os,I.bare,I.jD,I.loc,I.cell,I.free,I.freeC,I.pin,I.hok,I.len⟩
theorem Inv.unsuite{ok:X.Ok}{x:jF}(I:Inv (X.suite x) jy B H s):Inv X jy B H s:=
 ⟨ok,I.os,I.bare,I.jD,I.loc,I.cell,I.free,I.freeC,I.pin,I.hok,I.len⟩
end
def PX(X:Cx)(e:j9)(t:TE)(E:XK):Prop:=∀(jy:PNz)(s:jH)(B:St)(H:Hp)(Q:VK)(Ex:VPz),Inv X jy B H s->t B H Q ->
 (∀x T C d H' s',Inv X jy B H' s'->Fk H' x C d T->E (.ref x) d H'->Ex (.ref x) s')->jT (jS X.prog X.w) X.A (eval e X.env) (EP X jy B Q) Ex s
section
variable{X:Cx}{k j:Nat}{x:j5}{C:jF}{ps:LSz}{sp:Sp}{p pos:Pos}{e:j9}{es:List j9}{t:TA}{E:XK}
theorem XQ(D:Fl X.prog X.w X.K X.mg X.jD k x ps sp)(hr:Room j X.A)(ha:PA X.nox (e::es) t)(hj:k<=j:=by decide)(hg:Gl X x:=by rfl)(hdb:(x==("__debug__":j5))=oe:=by decide)
  (he:jV (e::es) X.env=(oe,eval e X.env)::jV es X.env:=by rfl) (hpl:(kr pos<|jV es X.env).any (·.1)=oe:=by rfl):PX X (.Call (.Name x p) (e::es) [] pos) (PM sp [] E t) E:=by
 obtain⟨f,fd,F,hm,hk,hb⟩:=D.ex;intro jy s B H Q Ex I h hx;refine ki<|Eg I hg hm ?_ hdb;refine lD (h₀:=X.jD) I.ok.mod.kin hk (ke (ha pos jy s B H _ (I.wish _) h) (λus s1 ⟨vs,H1,I1',r,q⟩=>⟨I1'.unwish.kIn,?_⟩) λ_ _ z=>False.elim z) he hpl;have I1:Inv X jy B H1 s1:=I1'.unwish;have q:sp (vs++[]) H1 Q E:=q;rw[aJ]at q;have hl:us.length=ps.length:=by rw[<-r.length];exact F.len _ _ _ _ q
 have hb2:=hb s1 us I1.kIn (by rw[aJ];exact hl);rw[aJ]at hb2;refine kR<|kL (F.run X.A X.stack s1 H1 ⟨us,[]⟩ us vs Q E (hr.mono hj) I1.env0 hb2 r q) λr s' hq=>?_;cases r with
 |error e=>
  obtain⟨x,T,C,d,H',rfl,os,bare,un,hok,fl,q'⟩:=hq;exact hx x T C d H' s' (I1.call' (ch:=[]) os un hok bare λb z=>absurd z<|by simp) fl q'
 |ok fl=>
  cases fl with
  |ret u=>exact I1.after hq
  |next=>exact False.elim hq
  |brk=>exact False.elim hq
  |cont=>exact False.elim hq
end
theorem RP{M:Model}{A:jZ}{E:VPz}{s:jH}{K:jX}{G C e:jF}{d:Option jF}{dt:Data}{sl':AOz}{Q:Bool->jH->Prop}(X:K.In s.heap)(hG:xG1 K G=nZ)
  (he:s.heap.get? e=O ⟨.ref C,d,dt,sl'⟩) (hs:mroIn K C (.ref G)=O nZ) (h:Q nZ s):jT M A (excMatches (.ref e)<|.ref G) Q E s:=by
 have LS:=looks_mroIn (M:=M) X hs;obtain⟨hp,g,dr,tk,os⟩:=s;obtain⟨nm,bs,bm,ns,qn,hd,sn,sub,ab,col,dd,k0,k1,k2,k3,k5,ho,ht⟩:=xGe hG;have hC:hp.get? G=O (excClassObj nm qn G ns bs bm hd sn sub ab col dd k0 k1 k2 k3 k5 "ValueError.__new__"):=X _ _ ho;have hcB:(Value.ref G::bm).contains (.type "BaseException")=nZ:=by
  rw[d9,(tail_of_in X ht).hasType (show vErr.contains (.type "BaseException")=nZ by decide +kernel)];exact fL _
 have f:=tc_notTuple;unfold excMatches
 repeat (first|with_reducible refine kC he ?_|with_reducible refine kC hC ?_|(with_reducible refine ly hC ?_;rw[hcB])|(with_reducible refine LS.at ?_)|wp_step)
 exact h
noncomputable def VZ(im:Nat)(D:E4):E4:={nx:=λB H=>D.nx (B.set im Y) H,rt:=D.rt,bk:=λB H=>D.bk (B.set im Y) H,ct:=λB H=>D.ct (B.set im Y) H}
section
variable{X:Cx}{elt tg iter:j9}{scope:kF}{pos:Pos}{wi:TI}{g:TG}{te:TE}{N:LSz}{fr:List<|Option Nat}
variable{cnd:j9}{tc:TT}
theorem Qv{X:Cx}(h:PT X cnd tc):PTs X [cnd] tc:=λp s B H Q I q=>wpAny_tests_one<|h p s B H Q I q
theorem Cm(hc:X.calm=nZ)(hi:PI X tg iter wi)(hg:∀cl C s H ex,PG (Ba X scope cl N C s H ex) tg g)(hcn:∀cl C s H ex,PT (Ba X scope cl N C s H ex) cnd tc)(he:∀cl C s H ex,PE (Ba X scope cl N C s H ex) elt te)
  (hk:Dm X.env.scope X.N scope N fr=nZ:=by rfl) (hs:∀x,foldedSetIterable iter X.env x=pure x:=by intro _;rfl):PE X (.ListComp elt [⟨tg,iter,[cnd],0⟩] scope pos) (II wi g tc te fr):=
 NB hc hi hg (λ_ _ _ _ _=>Qv<|hcn _ _ _ _ _) he hk hs
theorem Ht{y:j5}{py spos:Pos}{gy:TG}(hc:X.calm=nZ)(hy:PG X (.Name y py) gy)(hi:PI X tg iter wi)(hg:∀cl C s H ex,PG (Ba X scope cl N C s H ex) tg g)(hcn:∀cl C s H ex,PT (Ba X scope cl N C s H ex) cnd tc)(he:∀cl C s H ex,PE (Ba X scope cl N C s H ex) elt te)
  (hk:Dm X.env.scope X.N scope N fr=nZ:=by rfl) (hsw:swapsWith (.ListComp elt [⟨tg,iter,[cnd],0⟩] scope pos) (O<|.Name y py) spos.line X.env=pure nZ:=by rfl) (hs:∀x,foldedSetIterable iter X.env x=pure x:=by intro _;rfl):
  PS X (.Assign [.Name y py] (.ListComp elt [⟨tg,iter,[cnd],0⟩] scope pos) spos) (Ry (II wi g tc te fr) gy):=
 Hr hc hy hi hg (λ_ _ _ _ _=>Qv<|hcn _ _ _ _ _) he hk hsw hs
end
section
variable{X:Cx}{a b c d:j9}{ta tb tc td:TE}{pos:Pos}
theorem QC{K:jX}(hK:X.K=K:=by rfl):IxR X (XN K):=by subst hK;exact As
theorem JF{K:jX}(hK:X.K=K:=by rfl):IxR X (XO K):=by subst hK;exact Bm
end
def fW(acc:jF)(n:Nat)(Pv:Nat->LUz->St->Hp->Prop)(i m:Nat)(B:St)(H:Hp):Prop:=i<=n/\m=n-i/\∃xs,xs.length<=i/\H acc=O (.lst xs)/\Pv i xs B H
def fNx(acc:jF)(n:Nat)(Pv:Nat->LUz->St->Hp->Prop)(i:Nat)(B:St)(v:V)(H:Hp):Prop:=∃xs,H acc=O (.lst xs)/\xs.length<jU/\∃m',m'<n-i/\fW acc n Pv (i+1) m' B (upd H acc<|.lst<|xs++[v])
def fSk(acc:jF)(n:Nat)(Pv:Nat->LUz->St->Hp->Prop)(i:Nat)(B:St)(H:Hp):Prop:=∃m',m'<n-i/\fW acc n Pv (i+1) m' B H
theorem fNx.mk{acc:jF}{n:Nat}{Pv:Nat->LUz->St->Hp->Prop}{i:Nat}{B:St}{v:V}{H:Hp}{xs:LUz}(hn:n<=jU)(hi:i<n)(hl:xs.length<=i)(ha:H acc=O (.lst xs))(hp:Pv (i+1) (xs++[v]) B<|upd H acc<|.lst<|xs++[v]):
  fNx acc n Pv i B v H:=⟨xs,ha,by lia,n-(i+1),by lia,hi,Z,xs++[v],by rw[aq,aY];lia,Ae,hp⟩
theorem fSk.mk{acc:jF}{n:Nat}{Pv:Nat->LUz->St->Hp->Prop}{i:Nat}{B:St}{H:Hp}{xs:LUz}(hi:i<n)(hl:xs.length<=i)(ha:H acc=O (.lst xs))(hp:Pv (i+1) xs B H):fSk acc n Pv i B H:=⟨n-(i+1),by lia,hi,Z,xs,by lia,ha,hp⟩
theorem Ci{K:jX}{a:jF}{ys:LUz}{g:TG}{tc:TT}{te:TE}{B:St}{H1:Hp}{acc:jF}{Qr:Hp->Prop}(Pv:Nat->LUz->St->Hp->Prop)(h0:Pv 0 [] B<|upd H1 acc<|.lst [])
  (hq:∀i xs B H,i<=ys.length->H acc=O (.lst xs)->Pv i xs B H->SqL K H a ys)
  (hs:∀i x xs B H,ys[i]?=O x->i<ys.length->xs.length<=i->H acc=O (.lst xs)->Pv i xs B H->g x B H λσ2 H2=>tc σ2 H2 λb Hb=>match b with
   |true=>te σ2 Hb λv H3=>fNx acc ys.length Pv i σ2 v H3
   |false=>fSk acc ys.length Pv i σ2 Hb)
  (hd:∀xs B H,xs.length<=ys.length->H acc=O (.lst xs)->Pv ys.length xs B H->Qr H):
  ∃W:Nat->Nat->St->Hp->Prop,(∃m,W 0 m B<|upd H1 acc<|.lst [])/\∀i m σ1 H2,W i m σ1 H2 ->
   ((Itl K a).stop i H2/\Qr H2)\/((Itl K a).go i H2/\∀x H3,(Itl K a).yld i H2 x H3->g x σ1 H3 λσ4 H4=>tc σ4 H4 λb Hb=>match b with
    |true=>te σ4 Hb λv H5=>∃xs,H5 acc=O (.lst xs)/\xs.length<jU/\∃m',m'<m/\W (i+1) m' σ4 (upd H5 acc<|.lst<|xs++[v])
    |false=>∃m',m'<m/\W (i+1) m' σ4 Hb):=by
 refine⟨fW acc ys.length Pv,⟨ys.length,aU _,Z,[],ah _,Ae,h0⟩,?_⟩;rintro i m σ1 H2 ⟨hi,rfl,xs,hl,ha,hp⟩;have hsq:=hq i xs σ1 H2 hi ha hp;rcases df i ys.length with h|h
 .refine .inr ⟨⟨ys,ys[i],hsq,ai h⟩,?_⟩;rintro x H3 ⟨rfl,hx⟩;exact hs i x xs σ1 H3 (hx ys hsq) h hl ha hp
 .have e:i=ys.length:=cw hi h;subst e;exact .inl ⟨⟨ys,hsq,ah _⟩,hd xs σ1 H2 hl ha hp⟩
section
variable{X:Cx}
theorem Q6:Dc (CX1 X.prog X.w) X (λ_ _ _=>False):=by
 rintro jy B H s e s' I ⟨x,T,C,d,H',rfl,os,bare,un,hok,fl,q⟩;exact False.elim q
theorem SN{K:jX}(hK:X.K=K:=by rfl):SlR X (XJ K):=by subst hK;exact Ml
end
theorem Paired.get{α β:Type}{F:α->β->Prop}:∀{l₁:List α}{l₂:List β},Paired F l₁ l₂->∀{i:Nat}{a:α},l₁[i]?=O a->∃b,l₂[i]?=O b/\F a b
 |_,_,.nil,i,a,h=>by simp at h
 |_,_,.cons f t,0,a,h=>by
  simp only[List.getElem?_cons_zero,Option.some.injEq]at h;subst h;exact⟨_,Z,f⟩
 |_,_,.cons f t,i+1,a,h=>by
  simp only[List.getElem?_cons_succ]at h |-;exact Paired.get t h
theorem WQ{P:jN}{w:jW}{k:Key}{u:jJ}(h:(AN P w).is k u=nZ):RelV (kV k) u:=by
 rcases Bh (show JC k u=nZ from h)with⟨i,t,rfl,rfl⟩|⟨x,t,rfl,rfl⟩
 .exact⟨t,Z⟩
 .exact⟨t,Z⟩
noncomputable def Itm(a:jF)(ob:Obj):It:=
 ⟨λi H=>∃kvs p,H a=O (.frz ob<|.dK kvs)/\kvs[i]?=O p,
  λi H y H'=>∃t p,(∀kvs,H a=O (.frz ob<|.dK kvs)->kvs[i]?=O p)/\y=.ref t/\H t=Y/\H'=upd H t (.tup [kV p.1,p.2]),
  λi H=>∃kvs,H a=O (.frz ob<|.dK kvs)/\kvs.length<=i⟩
theorem Ua{P:jN}{w:jW}{H:Hp}{h:j6}{a:jF}{ob:Obj}{kvs:List<|Key×V}{ents:Array lA}{n ep:Nat}(ok:HOk P w H h)(e:H a=O (.frz ob<|.dK kvs))(hd:ob.data=.dict ents ep)(hn:ents.size=n):
  ∃vs,KV kvs vs/\h.DictAt (AN P w) a vs ep/\vs.length=n:=by
 obtain⟨ho,_,_,vs,rel,o,es,ep',h1,h2,h3,h4,h5,h6⟩:=(show ObjOk P w H h a (.frz ob<|.dK kvs)from ok a _ e);rw[ho]at h1;cases h1;rw[hd]at h3;cases h3;refine⟨vs,rel,⟨_,_,ho,h2,hd,h4,h5,h6⟩,?_⟩;rw[<-h5.length,bB];exact hn
theorem OH{P:jN}{w:jW}{K:jX}{es:List j9}{k:Nat}{pos:Pos}(a it:jF){ob:Obj}{ents:Array lA}{n ep:Nat}(hd:ob.data=.dict ents ep)(hn:ents.size=n):
  PD P w K (.Tuple es k pos) (Itm a ob) [it] it (λi h=>∃ok ov,IsItemIter h it a i n ep ok ov) where
 mem:=by simp
 obj:=λi h st b hb=>by
  obtain⟨ok,ov,he⟩:=st;rw[ae.mp hb];exact⟨_,he,λv z=>by
   have z':Data.fields _=Data.cell v:=z;cases z'⟩
 keep:=λi h h' st kk=>by
  obtain⟨ok,ov,he⟩:=st;exact⟨ok,ov,kk it (by simp) _ he⟩
 item:=by
  intro X hP hw hK hc i jy s B H E I hf st hg;subst hP hw hK;obtain⟨ok,ov,he⟩:=st;obtain⟨kvs,p,hq,hx⟩:=hg;obtain⟨vs,rel,hat,hl⟩:=Ua I.hok hq hd hn;obtain⟨⟨k',u⟩,hu,hk',ru⟩:=Paired.get rel hx;have fi:=hf it (by simp);subst hl;refine wpAny_pyNext_items_item he hat hu λkey h' hkey ho hT hsz kk=>?_;refine⟨_,Z,?_⟩;have hfr:H s.heap.objs.size=Y:=I.hok.fresh<|ah _;have ltI:it<s.heap.objs.size:=ay he;have rk:RelV (kV p.1) key:=by
   have e:p.1=k':=hk';rw[e];exact WQ hkey
  have I1:Inv X jy B (upd H s.heap.objs.size<|.tup [kV p.1,p.2]) { s with heap:=h',toks:=s.toks}:=by
   refine Lz I fi fi (λb o nb _ z=>kk b o nb z) ⟨_,ho⟩ ⟨_,ho⟩ ⟨?_,[key,u],.cons rk<|.cons ru .nil,⟨_,hT,Z,_,Z⟩⟩;show 2<=jU;decide
  refine wpAny_letOwnedTupleGo_items (s:={s with heap:=h'}) ho λh2 he2 sb=>?_;have nI:it≠s.heap.objs.size:=aM ltI;have fi2:(upd H s.heap.objs.size<|.tup [kV p.1,p.2]) it=Y:=by rw[Af nI];exact fi.1
  have I2:Inv X jy B (upd H s.heap.objs.size<|.tup [kV p.1,p.2]) { ({s with heap:=h',toks:=s.toks}:jH)with heap:=h2,toks:=s.toks}:=
   I1.turned (t':=s.toks) (it:=it) (λb o hb z=>(sb.2 b hb).trans z) fi2 fi.2.1 fi.2.2.2.1 fi.2.2.2.2.1 fi.2.2.2.2.2
  refine⟨.ref s.heap.objs.size,_,I2,Z,⟨_,p,λys hy=>?_,Z,hfr,Z⟩,⟨_,_,he2⟩,λb hb=>?_⟩
  .rw[hq]at hy;cases hy;exact hx
  .rw[ae.mp hb];exact fi2
 done:=by
  intro X hP hw hK hc i jy s B H E I hf st hg;subst hP hw hK;obtain⟨ok,ov,he⟩:=st;obtain⟨kvs,hq,hx⟩:=hg;obtain⟨vs,rel,hat,hl⟩:=Ua I.hok hq hd hn;obtain⟨f0,f1,f2,f3,f4,f5⟩:=hf it (by simp);have hle:kvs.length=vs.length:=rel.length;subst hl;exact wpAny_pyNext_items_end (I.ok.hd hc) he hat (bD<|by lia) λh' eb=>⟨Z,I.turned (t':=s.toks) (λb o hb z=>eb b o hb z) f0 f1 f3 f4 f5⟩
 self:=λ_ _ _ _ _ st h=>by
  obtain⟨ok,ov,he⟩:=st;exact kcp_self he h
def WT(td:TE):TI:=λB H R=>td B H λx H1=>∃a kvs,x=.ref a/\H1 a=O (.dK kvs)/\∀ob,R (Itm a ob)<|upd H1 a<|.frz ob<|.dK kvs
section
variable{X:Cx}
theorem Jh{o:j9}{es:List j9}{k:Nat}{tpos apos cpos:Pos}{td:TE}(hp:PE X o td)
  (hb:attributeBase o "items" X.env (eval o X.env)=eval o X.env:=by rfl) (hline:(apos.endLine==cpos.line)=nZ:=by rfl):
  PI X (.Tuple es k tpos) (.Call (.Attribute o "items" apos) [] [] cpos) (WT td):=by
 intro jy s B H R I h;refine wpAny_Call_method0_late hb hline<|thn (hp jy s B H _ I h) λv s1 hz_=>?_;obtain⟨x,H1,I1,r1,q1⟩:=hz_;obtain⟨a,kvs,e,ea,q⟩:=q1;subst e;cases r1;obtain⟨hty,hnd,hsys⟩:=TN I1<|.inl ⟨kvs,.inl ea⟩;obtain⟨_,_,vs,rel,dd⟩:=Uh I1.hok ea;refine⟨"dict","dict.items",ci,fj,PySem.F.type_dict_items,hty,hnd,Calls.callWith_builtin Z<|PySem.evalArgs_none ?_⟩;refine call_meetsIn fj dd.typeIs PySem.F.entry_dict_items (PySem.F.args_dict_items_1 _) (meets_dict_items (AN X.prog X.w) a hsys) ⟨⟨vs,dd⟩,?_⟩;obtain⟨ob,ents,ep,g1,g2,g3,g4,g5,g6⟩:=id dd;have hat:s1.heap.DictAt (AN X.prog X.w) a vs ep:=⟨ob,ents,g1,g2,g3,g4,g5,g6⟩;refine wpAny_pyIter_items (knd:=AN X.prog X.w) ⟨_,aH _ Z,Z,Z⟩ (hat.push _) ?_;have I2:Inv X jy B H1 { s1 with heap:=s1.heap.push { cls:=.type "dict_items",data:=.fields #[.ref a]},toks:=s1.toks}:=I1.kept λb u z=>ag _ z;have I3:=I2.kept (h':=(s1.heap.push { cls:=.type "dict_items",data:=.fields #[.ref a]}).push { cls:=.type "dict_itemiterator",data:=.fields #[.none,.bool oe,.ref a,.int 0 0,.int vs.length 0,.int ep 0,.none,.none]}) (t':=s1.toks) λb u z=>ag _ z;have g1':((s1.heap.push { cls:=.type "dict_items",data:=.fields #[.ref a]}).push { cls:=.type "dict_itemiterator",data:=.fields #[.none,.bool oe,.ref a,.int 0 0,.int vs.length 0,.int ep 0,.none,.none]}).get? a=O ob:=ag _<|ag _ g1;have I4:=I3.write (x:=a) (e:=a) (o:=.frz ob<|.dK kvs) (h':=(s1.heap.push { cls:=.type "dict_items",data:=.fields #[.ref a]}).push { cls:=.type "dict_itemiterator",data:=.fields #[.none,.bool oe,.ref a,.int 0 0,.int vs.length 0,.int ep 0,.none,.none]}) (t':=s1.toks)
  (by rw[ea];exact True.intro) (.inl Z) (λb u _ z=>z) ⟨ob,g1'⟩ ⟨g1',I3.hok a _ ea⟩
 have hsz:ents.size=vs.length:=by rw[<-g5.length,bB]
 have na:s1.heap.objs.size+1≠a:=eQ<|bO<|ay g1;refine⟨(s1.heap.push { cls:=.type "dict_items",data:=.fields #[.ref a]}).objs.size,[(s1.heap.push { cls:=.type "dict_items",data:=.fields #[.ref a]}).objs.size],_,_,_,Z,I4,OH a _ g3 hsz,⟨_,_,aH _ Z⟩,λb hb'=>?_,q ob⟩;rw[ae.mp hb'];refine I2.fpOk (ah _) ?_;rw[Af (by rw[b8];exact na)];exact I2.hok.fresh<|ah _
end
theorem Sf{a:jF}{ob:Obj}{kvs:List<|Key×V}{g:TG}{tb:TS}{D:E4}{B:St}{H:Hp}(Pv:Nat->St->Hp->Prop)(h0:Pv 0 B H)(hl:∀i B H,i<=kvs.length->Pv i B H->H a=O (.frz ob<|.dK kvs))
  (hs:∀i p B H t,kvs[i]?=O p->Pv i B H->H t=Y->g (.ref t) B (upd H t<|.tup [kV p.1,p.2]) λσ2 H2=>tb { D with nx:=Pv<|i+1,ct:=Pv<|i+1,bk:=D.nx} σ2 H2) (hd:∀B H,Pv kvs.length B H->D.nx B H):
  ∃W:Nat->Nat->St->Hp->Prop,(∃m,W 0 m B H)/\∀i m B H,W i m B H ->
   ((Itm a ob).stop i H/\D.nx B H)\/((Itm a ob).go i H/\∃N:St->Hp->Prop,(∀σ' H',N σ' H'->∃m',m'<m/\W (i+1) m' σ' H')/\∀x H',(Itm a ob).yld i H x H'->g x B H' λσ2 H2=>tb { D with nx:=N,ct:=N,bk:=D.nx} σ2 H2):=by
 refine⟨λi m B H=>m=kvs.length-i/\i<=kvs.length/\Pv i B H,⟨kvs.length,by simp,aU _,h0⟩,?_⟩;rintro i m B H ⟨rfl,hi,p⟩;have q:=hl i B H hi p;by_cases hlt:i<kvs.length
 .refine .inr ⟨⟨kvs,kvs[i],q,by simp[hlt]⟩,Pv<|i+1,λσ' H' p'=>⟨kvs.length-(i+1),by lia,Z,hlt,p'⟩,λx H' y=>?_⟩;obtain⟨t,z,hz,rfl,ht,rfl⟩:=y;exact hs i z B H t (hz kvs q) p ht
 .have e:i=kvs.length:=by lia
  subst e;exact .inl ⟨⟨kvs,q,ah _⟩,hd B H p⟩
theorem Ff{lo:Int}{n:Nat}{g:TG}{tc:TT}{te:TE}{B:St}{H1:Hp}{acc:jF}{Qr:Hp->Prop}(Pv:Nat->LUz->St->Hp->Prop)(h0:Pv 0 [] B<|upd H1 acc<|.lst [])
  (hs:∀i xs B H,i<n->xs.length<=i->H acc=O (.lst xs)->Pv i xs B H->g (.int<|lo+i) B H λσ2 H2=>tc σ2 H2 λb Hb=>match b with
   |true=>te σ2 Hb λv H3=>fNx acc n Pv i σ2 v H3
   |false=>fSk acc n Pv i σ2 Hb)
  (hd:∀xs B H,xs.length<=n->H acc=O (.lst xs)->Pv n xs B H->Qr H):
  ∃W:Nat->Nat->St->Hp->Prop,(∃m,W 0 m B<|upd H1 acc<|.lst [])/\∀i m σ1 H2,W i m σ1 H2 ->
   ((Itr lo n).stop i H2/\Qr H2)\/((Itr lo n).go i H2/\∀x H3,(Itr lo n).yld i H2 x H3->g x σ1 H3 λσ4 H4=>tc σ4 H4 λb Hb=>match b with
    |true=>te σ4 Hb λv H5=>∃xs,H5 acc=O (.lst xs)/\xs.length<jU/\∃m',m'<m/\W (i+1) m' σ4 (upd H5 acc<|.lst<|xs++[v])
    |false=>∃m',m'<m/\W (i+1) m' σ4 Hb):=by
 refine⟨fW acc n Pv,⟨n,aU _,Z,[],ah _,Ae,h0⟩,?_⟩;rintro i m σ1 H2 ⟨hi,rfl,xs,hl,ha,hp⟩;rcases df i n with h|h
 .refine .inr ⟨h,?_⟩;rintro x H3 ⟨rfl,rfl⟩;exact hs i xs σ1 H3 h hl ha hp
 .have e:i=n:=cw hi h;subst e;exact .inl ⟨ah _,hd xs σ1 H2 hl ha hp⟩
structure Ss(K:jX)(C:jF):Prop where
 cl:Cls K C
 ha:kc K (.ref C) "__class__"=O (O<|.builtin "object.__class__")
 hn:specialIn K (.builtin "object.__class__") "__get__"=O (O<|.builtin "getset_descriptor.__get__")
 htk:takesIn K (.builtin "object.__class__")=O nZ
 hm:mroIn K C (.type "object")=O nZ
noncomputable def Itv(K:jX)(a:jF)(n:Nat):It:=
 ⟨λi H=>∃xs,SqL K H a xs/\xs.length=n/\i<n,λi H x H'=>H'=H/\∀xs,SqL K H a xs->xs[n-1-i]?=O x,λi H=>n<=i⟩
theorem S5{P:jN}{w:jW}{K:jX}{tg:j9}(a it:jF)(n:Nat):PD P w K tg (Itv K a n) [it] it (λi h=>i<=n/\h.IsRevIter it a ((n:Int)-1-i)) where
 mem:=by simp
 obj:=λi h st b hb=>by
  have e:b=it:=by simpa using hb
  subst e;obtain⟨_,o,e,c,d⟩:=st;exact⟨o,e,λv z=>by rw[d]at z;cases z⟩
 keep:=λi h h' st k=>⟨st.1,st.2.at λo e=>k it (by simp) o e⟩
 item:=by
  intro X hP hw hK hc i jy s B H E I hf st hg;subst hP hw hK;obtain⟨xs,hq,hn,hi⟩:=hg;obtain⟨hin,st⟩:=st;obtain⟨its,rv,p,hz⟩:=I.list hq;have hx:xs[n-1-i]?=O (xs[n-1-i]'(by lia)):=ai (by lia);obtain⟨u,hu,ru⟩:=rv.get hx;obtain⟨f0,f1,f2,f3,f4,f5⟩:=hf it (by simp);have st':s.heap.IsRevIter it a (((n-1-i:Nat):Int)):=by
   rw[show(((n-1-i:Nat):Int))=(n:Int)-1-i by lia];exact st
  refine wpAny_pyNext_rev_item st' p.isList (x:=u) (by simpa using hu) λh' st' sb=>?_;have I1:Inv X jy B H { s with heap:=h'}:=I.turned (t':=s.toks) (λb o hb e=>(sb.2 b hb).trans e) f0 f1 f3 f4 f5;obtain⟨o,e,c,d⟩:=id st';refine⟨u,Z,QG (s:={s with heap:=h'}) e c d (by decide) ⟨_,H,I1,ru,⟨Z,λys hy=>by rw[I.list_inj hy hq];exact hx⟩,⟨by lia,?_⟩,λb hb=>(hf b hb).1⟩⟩;rw[show(n:Int)-1-((i+1:Nat):Int)=((n-1-i:Nat):Int)-1 by lia];exact st'
 done:=by
  intro X hP hw hK hc i jy s B H E I hf st hg;subst hP hw hK;obtain⟨hin,st⟩:=st;obtain⟨f0,f1,f2,f3,f4,f5⟩:=hf it (by simp);have e:i=n:=cw hin hg;subst e;rw[show(i:Int)-1-(i:Int)=-1 by lia]at st;exact wpAny_pyNext_rev_end (I.ok.hd hc) st λh' eb=>⟨Z,I.turned (t':=s.toks) (λb o hb e=>eb b o hb e) f0 f1 f3 f4 f5⟩
 self:=λ_ _ _ _ _ st h=>wpAny_pyIter_revIter st.2 h
def Zf(K:jX)(ta:TA):TI:=λB H R=>ta B H λvs H1=>∃a xs,vs=[.ref a]/\SqL K H1 a xs/\R (Itv K a xs.length) H1
theorem K8:bootBuiltins "reversed"=O (.type "reversed"):=rfl
section
variable{X:Cx}{tg:j9}
theorem UW{a:j9}{ta:TA}{p pos:Pos}(hg:Gl X "reversed")(hm:X.mg "reversed"=Y)(ha:PA X [a] ta)(hs:jV [a] X.env=[(oe,eval a X.env)]:=by rfl):
  PI X tg (.Call (.Name "reversed" p) [a] [] pos) (Zf X.K ta):=by
 intro jy s B H R I h;refine Call_<|Eh I hg hm K8<|PyProof.Rows.callWith_type1 (thn (ha pos jy s B H _ I h) λus s1 hz_=>?_) hs Z;obtain⟨vs,H1,I1,r1,q1⟩:=hz_;obtain⟨b,xs,e,hq,q⟩:=q1;subst e;cases r1 with
 |cons r rr=>
  cases rr;cases r;obtain⟨its,rv,pl,hz⟩:=I1.list hq;have hl:=rv.length;refine call_reversed_list pl.isList ?_;have I2:Inv X jy B H1 { s1 with heap:=s1.heap.push<|revObj b<|(its.toArray.size:Int)-1}:=I1.kept (t':=s1.toks) λc o e=>ag _ e;refine wpAny_pyIter_revIter (s:={s1 with heap:=s1.heap.push<|revObj b<|(its.toArray.size:Int)-1}) ⟨_,aH _ Z,Z,Z⟩ ?_;refine⟨s1.heap.objs.size,[s1.heap.objs.size],_,_,H1,Z,I2,S5 b _ xs.length,⟨aU _,⟨_,aH _ Z,Z,?_⟩⟩,λc hc=>?_,q⟩
  .show Data.fields _=Data.fields _;rw[show((its.toArray.size:Int)-1)=(xs.length:Int)-1-((0:Nat):Int) by rw[aj,<-hl];lia]
  .have e:c=s1.heap.objs.size:=by simpa using hc
   subst e;exact I1.fpOk (ah _)<|I1.hok.fresh<|ah _
end
theorem Vy{K:jX}{a:jF}{xs:LUz}{g:TG}{tb:TS}{D:E4}{B:St}{H:Hp}(Pv:Nat->St->Hp->Prop)(h0:Pv 0 B H)(hl:∀i B H,i<=xs.length->Pv i B H->SqL K H a xs)
  (hs:∀i x B H,xs[xs.length-1-i]?=O x->i<xs.length->Pv i B H->g x B H λσ2 H2=>tb { D with nx:=Pv<|i+1,ct:=Pv<|i+1,bk:=D.nx} σ2 H2) (hd:∀B H,Pv xs.length B H->D.nx B H):
  ∃W:Nat->Nat->St->Hp->Prop,(∃m,W 0 m B H)/\∀i m B H,W i m B H ->
   ((Itv K a xs.length).stop i H/\D.nx B H)\/((Itv K a xs.length).go i H/\∃N:St->Hp->Prop,(∀σ' H',N σ' H'->∃m',m'<m/\W (i+1) m' σ' H')/\∀x H',(Itv K a xs.length).yld i H x H'->g x B H' λσ2 H2=>tb { D with nx:=N,ct:=N,bk:=D.nx} σ2 H2):=by
 refine⟨λi m B H=>m=xs.length-i/\i<=xs.length/\Pv i B H,⟨xs.length,by simp,aU _,h0⟩,?_⟩;rintro i m B H ⟨rfl,hi,p⟩;have q:=hl i B H hi p;by_cases hlt:i<xs.length
 .refine .inr ⟨⟨xs,q,Z,hlt⟩,Pv<|i+1,λσ' H' p'=>⟨xs.length-(i+1),by lia,Z,hlt,p'⟩,λx H' y=>?_⟩;obtain⟨e,y⟩:=y;subst e;exact hs i x B _ (y xs q) hlt p
 .have e:i=xs.length:=by lia
  subst e;exact .inl ⟨ah _,hd B H p⟩
structure FunD(K:jX)(x jC:j5)(st:j0)(f:jF)(fd:jM):Prop where
 ex:∃(oc:jJ)(od:Option jF)(T:jF)(kV doc pm:jJ)(an:Option jF)(cdv ct:jJ)(osl:AOz)(o:Obj)(n:Nat),
  fd=fnOf x jC (B3 st) (A9 st) (Ah st) (.ref T) kV doc pm an cdv ct/\K.lookup f=O ⟨oc,od,.func fd,osl⟩/\codeIn K cdv jC=nZ/\K.lookup T=O o/\o.data=.seq #[.none] n
 kp:kP K (.ref f)=nZ
section
variable{P:jN}{w:jW}{K:jX}{mg:MGz}{jD:j6}
theorem FunD.ok{x jC:j5}{st:j0}{f:jF}{fd:jM}{N ps:LSz}{k:Nat}{sp:Sp}(F:FunD K x jC st f fd)(S:Al N ps<|Ah st)(len:∀vs H Q E,sp vs H Q E->vs.length=ps.length)
  (hbody:∀(cdv:jJ)(A:jZ)(jz:List lO)(s:jH)(H:Hp)(vs:LUz)(Q:VK)(E:XK),Room k (A.deeper<|envOfC jC (Ah st) s.heap.objs.size f cdv)->sp vs H Q E ->
   ∃t,PSs (Bx CX0 P w K mg jD N jC (Ah st) f cdv A jz s H E).nox (A9 st) t/\t { nx:=λ_ H'=>Q .non H',rt:=Q} (start N vs) H):A8 P w K mg jD CX0 (k+1) f fd ps sp:=by
 obtain⟨oc,od,T,kV,doc,pm,an,cdv,ct,osl,o,n,rfl,lk,hcd,lT,dT⟩:=F.ex;refine QK lk hcd S len λA jz s H vs Q E hr hsp=>?_;obtain⟨t,h,q⟩:=hbody cdv A jz s H vs Q E hr hsp;exact⟨t,h.nox,q⟩
theorem FunD.binds{x jC:j5}{st:j0}{f:jF}{fd:jM}{ps:LSz}{ds:LWz}(F:FunD K x jC st f fd)
  (h:∀(T:jF)(kV doc pm:jJ)(an:Option jF)(cdv ct:jJ)(us:LWz),(us++ds).length=ps.length->∃k:Option (Array jJ)->Sem (List<|j5×jJ),
   bindArgs (fnOf x jC (B3 st) (A9 st) (Ah st) (.ref T) kV doc pm an cdv ct) ⟨us,[]⟩=seqItems? (.ref T) >>= k/\k (O #[.none])=pure (ps.zip<|us++ds)):Binds K fd ps ds:=by
 obtain⟨oc,od,T,kV,doc,pm,an,cdv,ct,osl,o,n,rfl,lk,hcd,lT,dT⟩:=F.ex;intro s us X hl;obtain⟨k,h1,h2⟩:=h T kV doc pm an cdv ct us hl;exact .of_defaults Z (X _ _ lT) dT h1 h2
end
def PXS(X:Cx)(st:j0)(t:XK->TS):Prop:=∀(E:XK)(jy:PNz)(s:jH)(B:St)(H:Hp)(D:E4)(Ex:VPz),Inv X jy B H s->t E D B H ->
 (∀x T C d H' s',Inv X jy B H' s'->Fk H' x C d T->E (.ref x) d H'->Ex (.ref x) s')->jT (jS X.prog X.w) X.A (exec st X.env) (SP X jy D) Ex s
def YN(te:XK->TE):XK->TS:=λE D B H=>te E B H λ_ H1=>D.nx B H1
def X7(K:jX)(im:Nat)(G:jF)(t:XK->TS)(ts:TS):TS:=λD B H=>∃E₁:XK,t E₁ { nx:=D.nx,rt:=λ_ _=>False} B H /\
 ∀x C d T T2 H',E₁ (.ref x) d H'->Fk H' x C d T->H' T2=Y->T2≠x->mroIn K C (.ref G)=O nZ/\ts (VZ im D) (B.set im<|O<|.ref x) (thrown H' x C d T2)
section
variable{X:Cx}{i im:Nat}{n m g:j5}{G:jF}{value c:j9}{b₀ st su:j0}{suite:List j0}{np apos gp hpos pos:Pos}{te:XK->TE}{ts:TS}{t u:XK->TS}{tc:TT}
theorem SW(he:∀E,PX X value (te E) E)(hsw:swapsWith value Y apos.line X.env=pure oe:=by rfl):PXS X (.Expr value apos) (YN te):=by
 intro E jy s B H D Ex I h hx;exact wpAny_Expr_any (thn (he E jy s B H _ _ I h hx) λv s1 ⟨y,H1,I1,r1,q1⟩=>⟨B,H1,I1,q1⟩) I.quiet hsw
theorem SZ(hN:X.N.Nodup)(him:X.N[im]?=O m)(hm:X.env.scope.names.lookup m=O .local)(he:PXS X st t)(hgl:Gl X g)(hg:X.mg g=O (.ref G))
    (hG:xG1 X.K G=nZ) (hst:X.stack=X.env::X.jz) (hfr:X.env.frame=O X.env.locals) (hs:∀x,PSs (X.suite x) (b₀::suite) ts)
    (hdb:(g==("__debug__":j5))=oe:=by decide):
    PS X (.Try [st] [.ExceptHandler (O<|.Name g gp) (O m) (b₀::suite) hpos] [] [] pos) (X7 X.K im G t ts):=by
  intro jy s B H D I ⟨E₁,h,hh⟩;rw[arm_exec_Try];refine jG<|kU<|wpAny_tryStmt_except ?_;refine lJ<|thn (he E₁ jy s B H _ _ I h λx T C d H' s' I' fl q=>?_) λf s1 q=>?_
  · refine Hw I' hst hfr (.inr ⟨T,fl⟩) λh' T2 hT2 nT2 I2=>?_
    obtain⟨hsub,hts⟩:=hh x C d T T2 H' q fl hT2 nT2;have fl2:Fk (thrown H' x C d T2) x C d T2:=⟨DB,FZ nT2,nT2⟩;obtain⟨⟨vs,sl,e1,e2⟩,_⟩:=(show ObjOk X.prog X.w (thrown H' x C d T2) h' x (FW C d x T2)from I2.hok x _ fl2.1);obtain⟨⟨o,tv,f1,f2,f3⟩,_⟩:=(show ObjOk X.prog X.w (thrown H' x C d T2) h' T2 (TbO T2)from I2.hok T2 _ fl2.2.1);refine wpAny_handleBy_cons (codeAny_handlers_test<|Eg (X:=X.suite x) (I2.suite x) hgl hg (RP I2.kIn hG e1 hsub ?_) hdb) (by intro z;cases z);show kK _ _ _ _ _;refine codeAny_handlers_suite_as<|JN e1 e2 f1 f2 (bp.mp f3).1 λh3 k3 t3=>?_;have same:upd (thrown H' x C d T2) T2 (TbO T2)=thrown H' x C d T2:=funext λb=>by
      by_cases z:b=T2
      · rw[z,Ae,FZ nT2]
      · rw[Af z]
    have I3:Inv X jy B (thrown H' x C d T2) { s' with heap:=h3}:=by
      have:=I2.write (x:=T2) (e:=T2) (h':=h3) (o:=TbO T2) (t':=s'.toks) (by rw[fl2.2.1];exact True.intro) (.inl Z) (λb u nb z=>(k3 b nb).trans z) (let ⟨o,_,e,_⟩:=t3;⟨o,e⟩)<|OM t3;rw[same]at this;exact this
    refine Gb (X:=X.suite x) (I3.suite x) hN him (.inl hm) (v:=.ref x) Z (λs4 I4=>?_)<|.inr hm;refine ke (hs x jy s4 _ _ (VZ im D) I4 hts) (λfl s5 q5=>?_) λ_ _ z=>False.elim z;show jT (jS X.prog X.w) X.A (do bindName X.env m .none;unbindBehindTheSuite X.env m hpos) (λ_ s₃=>SP X jy D fl s₃) X.xe s5;cases fl with
    |next=>obtain⟨σ',H5,I5,q⟩:=q5;exact Iz (I5.unsuite (ok:=I.ok)) hN him hm λs6 I6=>⟨_,H5,I6,q⟩
    |brk=>obtain⟨σ',H5,I5,q⟩:=q5;exact Iz (I5.unsuite (ok:=I.ok)) hN him hm λs6 I6=>⟨_,H5,I6,q⟩
    |cont=>obtain⟨σ',H5,I5,q⟩:=q5;exact Iz (I5.unsuite (ok:=I.ok)) hN him hm λs6 I6=>⟨_,H5,I6,q⟩
    |ret u=>obtain⟨v,σ',H5,I5,r,q⟩:=q5;exact Iz (I5.unsuite (ok:=I.ok)) hN him hm λs6 I6=>⟨v,_,H5,I6,r,q⟩
  · cases f with
    |next=>obtain⟨σ',H',I',q⟩:=q;exact kN<|kN ⟨σ',H',I',q⟩
    |ret v=>obtain⟨_,_,_,_,_,q⟩:=q;exact q.elim
    |brk=>obtain⟨_,_,_,q⟩:=q;exact q.elim
    |cont=>obtain⟨_,_,_,q⟩:=q;exact q.elim
end
theorem Lh{H H':Hp}(s:Same H H'){a:jF}(h:H' a=Y):H a=Y:=by
 cases e:H a with
 |none=>rfl
 |some o=>rw[s _ _ e]at h;cases h
mutual
def DAt(H:Hp):D->V->Prop
 |.at u,v=>v=u/\Dl u=nZ
 |.tup ds,v=>∃a xs,v=.ref a/\H a=O (.tup xs)/\KC H ds xs
 |.lst ds,v=>∃a xs,v=.ref a/\H a=O (.lst xs)/\KC H ds xs
def KC(H:Hp):Ds->LUz->Prop
 |.nil,xs=>xs=[]
 |.cons d r,xs=>∃x ys,xs=x::ys/\DAt H d x/\KC H r ys
end
mutual
theorem Uk{H H':Hp}(s:Same H H'):∀(d:D){v:V},DAt H d v->DAt H' d v
 |.at u,v,h=>by exact h
 |.tup ds,v,h=>by
  obtain⟨a,xs,e,q,r⟩:=h;exact⟨a,xs,e,s _ _ q,Hj s ds r⟩
 |.lst ds,v,h=>by
  obtain⟨a,xs,e,q,r⟩:=h;exact⟨a,xs,e,s _ _ q,Hj s ds r⟩
theorem Hj{H H':Hp}(s:Same H H'):∀(ds:Ds){xs:LUz},KC H ds xs->KC H' ds xs
 |.nil,xs,h=>by exact h
 |.cons d r,xs,h=>by
  obtain⟨x,ys,e,p,q⟩:=h;exact⟨x,ys,e,Uk s d p,Hj s r q⟩
end
mutual
theorem WX{K:jX}{H:Hp}:∀(d:D){v:V},DAt H d v->DIs K H d v
 |.at u,v,h=>by exact h
 |.tup ds,v,h=>by
  obtain⟨a,xs,e,q,r⟩:=h;exact⟨a,xs,e,SqT.of q,MU ds r⟩
 |.lst ds,v,h=>by
  obtain⟨a,xs,e,q,r⟩:=h;exact⟨a,xs,e,SqL.of q,MU ds r⟩
theorem MU{K:jX}{H:Hp}:∀(ds:Ds){xs:LUz},KC H ds xs->DIss K H ds xs
 |.nil,xs,h=>by exact h
 |.cons d r,xs,h=>by
  obtain⟨x,ys,e,p,q⟩:=h;exact⟨x,ys,e,WX d p,MU r q⟩
end
noncomputable def E2(c:jF)(q:j5):HO:=.ext λh=>∃o vs t,h.get? c=O o/\o.data=.fields vs/\vs[1]?=O (.str q t)
noncomputable def BY(f:jF)(o:Obj):HO:=.ext λh=>h.get? f=O o
theorem Sl{P:jN}{w:jW}{H:Hp}{h:j6}{c:jF}{q:j5}(x:ObjOk P w H h c<|E2 c q):h.CodeRec (.ref c) q:=by
 obtain⟨⟨o,vs,t,e,d,v⟩,_⟩:=x;exact⟨c,o,vs,t,Z,e,d,v⟩
theorem Ur{P:jN}{w:jW}{H:Hp}{h:j6}{c:jF}{q:j5}(x:h.CodeRec (.ref c) q):ObjOk P w H h c (E2 c q):=by
 obtain⟨c',o,vs,t,e,g,d,v⟩:=x;cases e;exact⟨⟨o,vs,t,g,d,v⟩,⟨o,g⟩,λh1 h2 ⟨o,vs,t,e,d,v⟩ k=>⟨o,vs,t,k o e,d,v⟩⟩
theorem MB{P:jN}{w:jW}{H:Hp}{h:j6}{f:jF}{o:Obj}(x:h.get? f=O o):ObjOk P w H h f (BY f o):=⟨x,⟨o,x⟩,λh1 h2 e k=>k o e⟩
section
variable{X:Cx}{jy:PNz}{B:St}{H:Hp}{s:jH}{h1:j6}
theorem Inv.grow{T c':jF}{ps more:Array jJ}{o:HO}{t':Nat}(I:Inv X jy B H s)(hT:H T=O (.tbl ps))(k:∀b u,b≠T->s.heap.get? b=O u->h1.get? b=O u)(eT:h1.get? T=O (tabObj<|ps++more))
  (hc:s.heap.objs.size<=c') (new:ObjOk X.prog X.w (upd (upd H T<|.tbl<|ps++more) c' o) h1 c' o):Inv X jy B (upd (upd H T<|.tbl<|ps++more) c' o) { s with heap:=h1,toks:=t'}:=by
 have hn:H c'=Y:=I.hok.fresh hc;have nT:T≠c':=Ad hT hn;have ne:∀{b:jF}{u:HO},H b=O u->(∀ps,u≠.tbl ps)->b≠T:=λ{b u} e nu z=>by rw[z,hT]at e;cases e;exact nu _ Z
 have to:∀{b:jF}{u:HO},H b=O u->(∀ps,u≠.tbl ps)->(upd (upd H T<|.tbl<|ps++more) c' o) b=O u:=λ{b u} e nu=>by rw[Af<|Ad e hn,Af<|ne e nu];exact e
 refine I.un ⟨λb u q n _ _=>k b u (λz=>by rw[z,hT]at n;cases n) q,λb u q n _ _=>⟨u.slots,k b u (λz=>by rw[z,hT]at n;cases n) q⟩,λb u q n _=>?_,λb u q _=>?_,
  λb xs q=>to q (λ_ z=>nomatch z),λb u xs q=>to q (λ_ z=>nomatch z),λb ps' q=>?_⟩ λb u e=>?_
 .rw[Af<|aM<|aP (ay q) hc,Af (λz=>by rw[z,hT]at n;cases n)];exact n
 .by_cases z:b=T
  .exact⟨_,by rw[z];exact eT⟩
  .exact⟨u,k b u z q⟩
 .by_cases z:b=T
  .subst z;rw[hT]at q;cases q;exact⟨more,by rw[Af nT,Ae]⟩
  .exact⟨#[],by rw[Af<|Ad q hn,Af z,q];simp⟩
 .by_cases z:b=c'
  .subst z;rw[Ae]at e;cases e;exact new
  .rw[Af z]at e;by_cases zT:b=T
   .subst zT;rw[Ae]at e;cases e;exact eT
   .rw[Af zT]at e;refine(I.hok b u e).stay (λc v hcb r=>k c v ?_ r) (λc r=>to r λ_ z=>nomatch z) λc xs r=>to r (λ_ z=>nomatch z);rcases hcb with rfl|hcb
    .exact zT
    .exact ne hcb (λ_ z=>nomatch z)
end
structure Xn(K:jX)(mg:MGz):Prop where
 ex:∃bm sl,mg "__builtins__"=O (.ref bm)/\bm≠builtinsNs/\bm≠jQ/\K.lookup bm=O ⟨.type "module",O builtinsNs,.plain,sl⟩
noncomputable abbrev C1(mg:MGz)(jC:j5)(params:Arguments)(body:j9)(scope:kF)(clos:List<|j5×jF)(c':jF)(ctv:jJ):Obj:=kla_obj "<lambda>" jC params body scope clos ((mg "__name__").getD .none) c' ctv
def Xy(mg:MGz)(T:jF)(pos:Pos)(params:Arguments)(body:j9)(scope:kF)(clos:List<|j5×jF)(jC:j5):TE:=λB H Q=>∃ps,H T=O (.tbl ps)/\TriplesOk ps.toList /\
 ((codeAmong pos ps.toList=Y/\∀c' f ctv,H c'=Y->H f=Y->c'≠f->c'≠T->f≠T->Q (.ref f) (upd (upd (upd H T<|.tbl<|ps++#[kD pos.line,kD pos.col,.ref c']) c'<|E2 c' jC) f<|BY f<|C1 mg jC params body scope clos c' ctv)) \/
  ∃c',codeAmong pos ps.toList=O (.ref c')/\H c'=O (E2 c' jC)/\∀f ctv,H f=Y->Q (.ref f) (upd H f<|BY f<|C1 mg jC params body scope clos c' ctv))
section
variable{X:Cx}
theorem W7{params:Arguments}{body:j9}{scope:kF}{pos:Pos}{c T:jF}{clos:List<|j5×jF}{jC:j5}(hcode:X.env.code=.ref c)(hC:∀h,X.K.In h->CodeHd h c T)(hB:Xn X.K X.mg)(hdef:defaultsOf params X.env=([],[]))
  (hcl:closureFor scope X.env=pure clos) (hq:X.env.qual++"<lambda>"=jC):PE X (.Lambda params body scope pos) (Xy X.mg T pos params body scope clos jC):=by
 intro jy s B H Q I h;obtain⟨ps,hT,ht,alt⟩:=h;have hP:s.heap.get? T=O (tabObj ps):=I.hok T _ hT;have hg:s.heap.Ns jQ X.mg:=I.mod.glob.keeps I.bk;obtain⟨bm,sl,b1,b2,b3,b4⟩:=hB.ex;have hbm:X.jD.get? bm=O ⟨.type "module",O builtinsNs,.plain,sl⟩:=I.mod.kin bm _ b4;have hbT:bm≠T:=λz=>by
  have:=(I.bs bm _ hbm).2;rw[z,hT]at this;cases this
 have hgT:jQ≠T:=λz=>by
  obtain⟨o,es,ep,e,_⟩:=I.mod.glob;have:=(I.bs _ _ e).2;rw[z,hT]at this;cases this
 have hb:s.heap.BuiltinsAt X.mg T:=⟨bm,_,b1,b2,b3,hbT,I.bk bm _ hbm,Z,Z,Z⟩;refine kla_eval hdef ?_;rw[hq];rcases alt with⟨hnf,q⟩|⟨c',hf,hc',q⟩
 .refine kla_makeFunction hcl I.ok.glob hg hcode (hC _ I.kIn) hP ht hnf hgT hb λc' ctv h' tk hx hge hlt hrec htb=>?_;have I1:=I.grow (t':=tk) (h1:=h') (c':=c') (o:=E2 c' jC) (more:=#[kD pos.line,kD pos.col,.ref c']) hT (λb u nb e=>hx b u nb e) htb hge<|Ur hrec;have hn:H c'=Y:=I.hok.fresh hge;have hnf':H h'.objs.size=Y:=I.hok.fresh<|aV hge<|aK hlt;have I2:=I1.laid (a:=h'.objs.size) (o:=BY h'.objs.size<|C1 X.mg jC params body scope clos c' ctv) (t':=tk) (h':=h'.push<|C1 X.mg jC params body scope clos c' ctv) (λb u e=>ag _ e) (ah _)<|MB<|aH _ Z;exact⟨.ref h'.objs.size,_,I2,Z,q c' h'.objs.size ctv hn hnf' (aM hlt) (Ne.symm<|Ad hT hn)<|Ne.symm<|Ad hT hnf'⟩
 .refine kla_makeFunctionHit hcl I.ok.glob hg hcode (hC _ I.kIn) hP ht hf hb λctv h' tk hk hsz=>?_;have hnf':H h'.objs.size=Y:=I.hok.fresh hsz;have I1:=I.kept (t':=tk) hk;have I2:=I1.laid (a:=h'.objs.size) (o:=BY h'.objs.size<|C1 X.mg jC params body scope clos c' ctv) (t':=tk) (h':=h'.push<|C1 X.mg jC params body scope clos c' ctv) (λb u e=>ag _ e) (ah _)<|MB<|aH _ Z;exact⟨.ref h'.objs.size,_,I2,Z,q h'.objs.size ctv hnf'⟩
end
section
variable{X:Cx}{jy:PNz}{B:St}{H:Hp}{s:jH}
theorem Inv.track{D:jF}{o:HO}(I:Inv X jy B H s)(hn:H D=Y)(h1:X.s₀.heap.objs.size<=D)(hL:D≠X.env.locals)(h2:∀x c,X.env.cells.lookup x=O c->c≠D)(h3:∀p∈X.pn++jy,p.1≠D)
  (new:ObjOk X.prog X.w (upd H D o) s.heap D o):Inv X jy B (upd H D o) s:=by
 have to:∀{b:jF}{u:HO},H b=O u->(upd H D o) b=O u:=λ{b u} e=>by rw[Af<|Ad e hn];exact e
 have J:=I.step (h':=s.heap) (H':=upd H D o) (g':=s.gens) (d':=s.drawn) (t':=s.toks) (ch:=[D]) (λb hb=>?_) (λb u _ _ _ e _=>e) (λb u _ _ _ e _=>⟨u.slots,e⟩) (λb u hc e n=>?_) (λb u _ e=>⟨u,e⟩)
  (λb xs e=>to e) (λb u xs e=>to e) (λb ps e=>⟨#[],by rw[to e];simp⟩) (λm hm=>hm) (λb u e=>?_) I.bare
 .exact J
 .have e:b=D:=by simpa using hb
  subst e;exact⟨.inr h1,hL,h2,h3⟩
 .rw[Af λz=>hc<|by simp[z]];exact n
 .by_cases hb:b=D
  .subst hb;rw[Ae]at e;cases e;exact new
  .rw[Af hb]at e;exact(I.hok b u e).stay (λc v _ r=>r) (λc r=>to r) λc xs r=>to r
theorem Inv.apart(I:Inv X jy B H s){D:jF}(h:s.heap.objs.size<=D):H D=Y/\X.s₀.heap.objs.size<=D/\D≠X.env.locals/\D∉X.fs/\(∀x c,X.env.cells.lookup x=O c->c≠D)/\∀p∈X.pn++jy,p.1≠D:=by
 have no:¬D<s.heap.objs.size:=Nat.not_lt.mpr h;refine⟨I.hok.fresh h,aV I.sz h,λz=>no (by rw[z];exact I.lt),λhb=>?_,λx c e z=>?_,λp hp z=>?_⟩
 .obtain⟨_,o,ho,_⟩:=I.ok.funs.mem hb;exact no<|aP (ay ho) I.sz
 .obtain⟨v,o,ho,_⟩:=I.cell x c e;exact no (by rw[<-z];exact ay ho)
 .exact no (by rw[<-z];exact ay (I.pin p hp).1)
theorem Inv.unpin{p:jF×Obj}(I:Inv X (p::jy) B H s):Inv X jy B H s:=I.pins_of λq hq=>I.pin q<|aB _<|aF _ hq
end
section
variable{X:Cx}{jy:PNz}{B:St}{H:Hp}{s:jH}{A:jZ}{D kS:jF}{vs ks:LWz}{e e1:Nat}
theorem Gi{p:jF×Obj}(I:Inv X jy B H s)(hp:p∈jy):s.heap.get? p.1=O p.2:=(I.pin p<|aB _ hp).1
theorem Inv.repin{D:jF}{n:Nat}{items:Array jJ}{g:Array jJ->Array jJ}{jy:PNz}(I:Inv X ((D,j4 "list" items n)::jy) B H s)(h1:X.s₀.heap.objs.size<=D)(h2:∀x c,X.env.cells.lookup x=O c->c≠D)(h3:∀p∈X.pn++jy,p.1≠D):
  ∃c,Inv X ((D,j4 "list" (g items) c)::jy) B H { s with heap:=s.heap.update D<|Obj.mapSeq g}:=by
 obtain⟨e,hn,hL,hf,_⟩:=I.pin (D,j4 "list" items n)<|aB _ aE;obtain⟨c,hc⟩:∃c,(s.heap.update D<|Obj.mapSeq g).get? D=O (j4 "list" (g items) c):=⟨_,get?_update_seq e g⟩;have J:Inv X jy B H { s with heap:=s.heap.update D<|Obj.mapSeq g,toks:=s.toks}:=I.unpin.turned (it:=D) (t':=s.toks) (λb o nb q=>by rw[bX _ _ _ _ nb];exact q) hn hL (.inr h1) h2 h3;refine⟨c,J.pins_of λp hp=>?_⟩;rcases aQ.mp hp with rfl|hp
 .exact⟨hc,hn,hL,hf,λv z=>nomatch z⟩
 .exact J.pin p (aB _ hp)
end
section
variable{X:Cx}{jy:PNz}{B:St}{H:Hp}{s:jH}{A:jZ}{D kS f:jF}{vs:LWz}{e1:Nat}{kts:List<|jF×List Int}{m:Nat}{key:List Int->Int}{P:PySem.Fin->jH->Prop}{E:VPz}
theorem RX{e:Nat}{st:SortSt}{ks out:LWz}(I:Inv X ((kS,j4 "list" ks.toArray e)::(D,j4 "list" #[] e1)::jy) B H s)(hk1:X.s₀.heap.objs.size<=kS)(hkc:∀x c,X.env.cells.lookup x=O c->c≠kS)(hkp:∀p∈X.pn++((D,j4 "list" #[] e1)::jy),p.1≠kS)
  (hD1:X.s₀.heap.objs.size<=D) (hDc:∀x c,X.env.cells.lookup x=O c->c≠D) (hDp:∀p∈X.pn++jy,p.1≠D) (hout:(arrOf st).map (·.2)=List.toArray out) (hz:out.length<64) (hkz:ks.length<64) (hf:failedOf st=Y)
  (h:∀(c:Nat)(s':jH),Inv X jy B H s'->s'.heap.get? D=O (j4 "list" (List.toArray out) c)->P (.done<|.ret .none) s'):jT (jS X.prog X.w) A (ksk_tail D oe e1 (.ref kS) st) P E s:=by
 have ek:=Gi I aE;obtain⟨ck,I1⟩:=I.repin (g:=λ_=>(#[]:Array jJ)) hk1 hkc hkp;have eD:=Gi I1<|aF _ aE;obtain⟨cD,I2⟩:=(I1.unpin).repin (g:=λ_=>List.toArray out) hD1 hDc hDp;unfold ksk_tail
 try dsimp only
 rw[hout];refine jG (kO ek Z ?_ (by rw[aj,ka];lia)<|aU _);refine jG<|wpAny_letGo ?_;refine jG<|lF eD Z ?_;refine jG (kO eD Z ?_ (aU _) (by show out.toArray.size<=_;rw[aj,ka];lia));rw[hf];simp only[bne_self_eq_false,aS,if_false];exact jL<|h cD _ I2.unpin<|Gi I2 aE
end
theorem Tc{α β:Type}{f:α->β}{l m:List β}(h:l.Perm m):∀ts:List α,m=ts.map f->∃ts':List α,ts'.Perm ts/\l=ts'.map f:=by
 induction h with
 |nil=>
  intro ts e;rw[List.map_eq_nil_iff.mp e.symm];exact⟨[],.nil,Z⟩
 |cons x p ih=>
  intro ts e;obtain⟨t,r,rfl,e1,e2⟩:=dO.mp e.symm;obtain⟨r',p',e'⟩:=ih r e2.symm;exact⟨t::r',p'.cons t,by rw[e',aR,e1]⟩
 |swap x y l=>
  intro ts e;obtain⟨t,r,rfl,e1,e2⟩:=dO.mp e.symm;obtain⟨u,q,rfl,e3,e4⟩:=dO.mp e2;exact⟨u::t::q,List.Perm.swap _ _ _,by rw[aR,aR,e1,e3,e4]⟩
 |trans p q ih1 ih2=>
  intro ts e;obtain⟨t2,p2,e2⟩:=ih2 ts e;obtain⟨t1,p1,e1⟩:=ih1 t2 e2;exact⟨t1,p1.trans p2,e1⟩
def U3(Ts:List jF)(H:Hp):Prop:=(∀b,H b=Y\/(∃o xs,H b=O (.frz o<|.lst xs))\/(b∈Ts/\H b=O (.tbl #[])))/\∀T∈Ts,H T=O (.tbl #[])
theorem MY{h:j6}{c T:jF}(x:CodeHd h c T):isCodeTable h T:=by
 obtain⟨o,vs,file,tf,flags,tg,inF,text,tt,e1,e2,e3,e4,_⟩:=x;exact⟨c,o,vs,e1,e2,e3,e4⟩
theorem law_callT{P:jN}{w:jW}{K:jX}{mg mb:MGz}{CX:CXT}{k:Nat}{fa a:jF}{fd:jM}{x:j5}{sp:Sp}{s₁:jH}{vs:LWz}{ns:List Int}{Ts:List jF}
  (KX:K.In s₁.heap) (hns:s₁.heap.Ns jQ mg) (hb:s₁.heap.Ns builtinsNs mb) (hbb:∀x:j5,x≠"__name__"->mb x=bootBuiltins x) (hlim:s₁.heap.NoLimit) (hg:s₁.gens=#[])
  (ha:s₁.heap.get? a=O { cls:=.type "list",data:=.seq vs.toArray}) (hi:IntsAre vs ns) (hl:ns.length<=jU) (hr:Room k callerA)
  (hT:∀T∈Ts,s₁.heap.get? T=O (tabObj #[])/\K.lookup T=Y/\∃c,CodeHd s₁.heap c T)
  (F:∀jD:j6,K.In jD->jD.Ns jQ mg->A8 P w K mg jD CX k fa fd [x] sp) (hbind:∀(s:jH)(u:jJ),BindsTo s fd ⟨[u],[]⟩ [(x,u)])
  (hsp:∀H:Hp,U3 Ts H->SqL K H a (ns.map V.int)->sp [.ref a] H (λv _=>v=.bl nZ) λ_ _ _=>False)
  (hCX:∀H e s',CX [] H s₁ (λ_ _ _=>False) e s'->False):
  kK (jS P w) callerA (.call (.ref fa) ⟨[.ref a],[]⟩) (λr s'=>r=.ok (.ret<|.bool nZ)/\OldK s₁.heap s'.heap/\s'.os=s₁.os/\AllBare s'.gens) s₁:=by
 have rv:=KD hi;have lenV:=hi.length;have core:∀H:Hp,U3 Ts H->SqL K H a (ns.map V.int)->HOk P w H s₁.heap->(∀b,H b≠Y->b=a\/b∈Ts)->(H a≠Y->K.lookup a=Y) ->
   kK (jS P w) callerA (.call (.ref fa) ⟨[.ref a],[]⟩) (λr s'=>r=.ok (.ret<|.bool nZ)/\OldK s₁.heap s'.heap/\s'.os=s₁.os/\AllBare s'.gens) s₁:=by
  intro H hO hS hok hA hK;have base_of:∀{b:jF}{o:Obj},s₁.heap.get? b=O o->H b=Y->(MK s₁.heap H).get? b=O o:=λe n=>TW e n;have noA:∀{b:jF}{o:Obj}{es:Array lA}{ep:Nat},s₁.heap.get? b=O o->o.data=.dict es ep->H b=Y:=λ{b o es ep} e d=>by
   cases q:H b with
   |none=>rfl
   |some u=>
    rcases hA b (by rw[q];simp)with e'|e'
    .subst e';rw[ha]at e;cases e;have d':Data.seq vs.toArray _=Data.dict es ep:=d;cases d'
    .rw[(hT b e').1]at e;cases e;cases d
  have nsK:∀{b:jF}{m:MGz},s₁.heap.Ns b m->(MK s₁.heap H).Ns b m:=λ{b m} ⟨o,es,ep,e,d,r⟩=>⟨o,es,ep,base_of e<|noA e d,d,r⟩;have hKb:K.In (MK s₁.heap H):=λb o e=>base_of (KX b o e) (by
   cases q:H b with
   |none=>rfl
   |some u=>
    rcases hA b (by rw[q];simp)with e'|e'
    .subst e';rw[hK (by rw[q];simp)]at e;cases e
    .rw[(hT b e').2.1]at e;cases e)
  have hM:Mod K mg (MK s₁.heap H):=⟨hKb,nsK hns,⟨mb,nsK hb,hbb⟩,let ⟨mc,h1,h2⟩:=hlim;⟨mc,nsK h1,h2⟩⟩;have e0:Env0 P w K mg (MK s₁.heap H) callerA [] s₁ H:=⟨Z,hM,λb o e=>Vd e,dH<|Sd _ _,trivial,λb hb=>absurd (show b∈([]:List jF)from hb) (by simp),hok,.of_eq hg⟩;refine kL ((F _ hKb<|nsK hns).run callerA [] s₁ H ⟨[.ref a],[]⟩ [.ref a] [.ref a] _ _ hr e0 (hbind s₁<|.ref a) (.cons Z .nil)<|hsp H hO hS) λr s' h=>?_;cases r with
  |error e=>exact(hCX H e s' h).elim
  |ok fl=>
   cases fl with
   |next=>exact False.elim h
   |brk=>exact False.elim h
   |cont=>exact False.elim h
   |ret u=>
    obtain⟨v,H',os,bare,un,hok',r',q⟩:=h;have q':v=.bl nZ:=q;subst q';obtain rfl:u=Value.bool nZ:=r';have old:∀b o,s₁.heap.get? b=O o->asItWas s₁.heap s'.heap b o/\∃o',s'.heap.get? b=O o':=λb o e=>by
     cases q:H b with
     |none=>
      have:=un.keep b o e q (by intro z;exact absurd (show b∈([]:List jF)from z)<|by simp) (by simp);exact⟨.inl this,_,this⟩
     |some u=>
      rcases hO.1 b with z|⟨ob,xs,z⟩|⟨hb',z⟩
      .rw[q]at z;cases z
      .have z2:=un.frzs b ob _ z;obtain⟨e1,_⟩:=hok b _ z;obtain⟨e2,_⟩:=hok' b _ z2;rw[e]at e1;cases e1;exact⟨.inl e2,_,e2⟩
      .obtain⟨more,z2⟩:=un.tbls b #[] z;have e2:s'.heap.get? b=O (tabObj<|#[]++more):=hok' b _ z2;obtain⟨e1,_,c,hc⟩:=hT b hb';rw[e]at e1;cases e1;exact⟨.inr<|.inl ⟨MY hc,Z,#[],more,Z,e2⟩,_,e2⟩
    exact⟨Z,⟨λb o e=>(old b o e).1,λb o e=>(old b o e).2⟩,os,bare⟩
 have aT:a∉Ts:=λz=>by
  have e:=(hT a z).1;rw[ha]at e;cases e
 have tblT:∀T∈Ts,∀H:Hp,ObjOk P w H s₁.heap T (.tbl #[]):=λT z H=>(hT T z).1;cases hk:K.lookup a with
 |some o=>
  have e:=KX a o hk;rw[ha]at e;cases e;refine core (λb=>if b∈Ts then O (.tbl #[])else Y) ⟨λb=>?_,λT z=>jP z⟩ (.inr ⟨_,vs.toArray,_,hk,Z,Z,Z,by rw[aj,lenV];exact hl,by simpa using rv⟩) (λb u z=>?_) (λb z=>?_) λz=>absurd (jK aT) z
  .by_cases hb:b∈Ts
   .exact .inr (.inr ⟨hb,jP hb⟩)
   .exact .inl (jK hb)
  .by_cases hb:b∈Ts
   .have z':=(jP hb).symm.trans z;cases z';exact tblT b hb _
   .have z':=(jK hb).symm.trans z;cases z'
  .by_cases hb:b∈Ts
   .exact .inr hb
   .exact absurd (jK hb) z
 |none=>
  refine core (λb=>if b=a then O (.frz { cls:=.type "list",data:=.seq vs.toArray}<|.lst<|ns.map V.int)else if b∈Ts then O (.tbl #[])else Y) ⟨λb=>?_,λT z=>?_⟩ (.inl<|.inr ⟨{cls:=.type "list",data:=.seq vs.toArray},jP Z⟩) (λb u z=>?_) (λb z=>?_) λ_=>hk
  .by_cases hb:b=a
   .exact .inr (.inl ⟨_,_,jP hb⟩)
   .by_cases hb2:b∈Ts
    .exact .inr (.inr ⟨hb2,(jK hb).trans<|jP hb2⟩)
    .exact .inl ((jK hb).trans<|jK hb2)
  .have ne:¬T=a:=λe=>aT (by rw[<-e];exact z);exact(jK ne).trans<|jP z
  .by_cases hb:b=a
   .have z':=(jP hb).symm.trans z;cases z';subst hb;exact⟨ha,by rw[aa];exact hl,vs,_,rv,ha⟩
   .by_cases hb2:b∈Ts
    .have z':=((jK hb).trans<|jP hb2).symm.trans z;cases z';exact tblT b hb2 _
    .have z':=((jK hb).trans<|jK hb2).symm.trans z;cases z'
  .by_cases hb:b=a
   .exact .inl hb
   .by_cases hb2:b∈Ts
    .exact .inr hb2
    .exact absurd ((jK hb).trans<|jK hb2) z
theorem walk_ofT{l:OpenLaw}{n k:Nat}{q:jN}{loose:LSz}{XP:(MGz)->j6->Prop}{YP:jW->j6->Prop}{d:DefRec}{K:lH->jX}{CX:jW->CXT}{sp:jW->Sp}{x:j5}{Ts:List jF}
  (hn:l.most=O n) (hn2:n<=jU) (hdf:d.params.defaults=[]) (hr:Room k callerA)
  (hY:∀(w:jW)(h:j6),YP w h->(K w.params).In h) (hT:∀(w:jW)(h:j6),YP w h->∀T∈Ts,h.get? T=O (tabObj #[])/\(K w.params).lookup T=Y/\∃c,CodeHd h c T)
  (F:∀(w:jW)(mg:MGz)(fa:jF)(h:j6),(K w.params).In h->h.Ns jQ mg->mg d.name=O (.ref fa) ->
   ∃fd:jM,(∀(s:jH)(u:jJ),BindsTo s fd ⟨[u],[]⟩ [(x,u)]) /\
    ∀jD:j6,(K w.params).In jD->jD.Ns jQ mg->A8 l.prog w (K w.params) mg jD (CX w) k fa fd [x] (sp w))
  (hsp:∀(w:jW)(H:Hp)(a:jF)(ns:List Int),ns.length<=n->U3 Ts H->SqL (K w.params) H a (ns.map V.int)->sp w [.ref a] H (λv _=>v=.bl nZ) λ_ _ _=>False)
  (hCX:∀(w:jW)(H:Hp)(s:jH)(e:jJ)(s':jH),CX w [] H s (λ_ _ _=>False) e s'->False):
  WalkO q loose XP YP l.row.toRowW d [] (λf vs=>PySem.call f vs):=by
 refine Att.attach_call hn hdf λw s₀ s₁ mg mb fa o pm cd doc a vs ns G nX ho hd hcd hmg hobj hints hlen hg=>?_;have KX:=hY w _ nX;obtain⟨fd,hb,hF⟩:=F w mg fa _ KX G.T.g hmg;exact law_callT KX G.T.g G.T.b G.T.builtins G.T.nolimit hg hobj hints (aV hlen hn2) hr (hT w _ nX) hF hb (λH hO hS=>hsp w H a ns hlen hO hS) λH e s'=>hCX w H s₁ e s'
structure FunC(K:jX)(x jC:j5)(st:j0)(f:jF)(fd:jM)(c:jF):Prop where
 ex:∃(oc:jJ)(od:Option jF)(kV doc pm:jJ)(an:Option jF)(ct:jJ)(osl:AOz),
  fd=fnOf x jC (B3 st) (A9 st) (Ah st) .none kV doc pm an (.ref c) ct/\K.lookup f=O ⟨oc,od,.func fd,osl⟩/\codeIn K (.ref c) jC=nZ
 kp:kP K (.ref f)=nZ
section
variable{P:jN}{w:jW}{K:jX}{mg:MGz}{jD:j6}{x jC:j5}{st:j0}{f c:jF}{fd:jM}{N ps:LSz}{k:Nat}{sp:Sp}
theorem FunC.fn(F:FunC K x jC st f fd c):Fun K x jC st f fd:=by
 obtain⟨oc,od,kV,doc,pm,an,ct,osl,e,lk,hcd⟩:=F.ex;exact⟨⟨oc,od,kV,doc,pm,an,.ref c,ct,osl,e,lk,hcd⟩,F.kp⟩
theorem Vw{oc:jJ}{od an:Option jF}{osl:AOz}{kV doc pm cdv ct:jJ}(l:K.lookup f=O ⟨oc,od,.func<|fnOf x jC (B3 st) (A9 st) (Ah st) .none kV doc pm an cdv ct,osl⟩)
  (cc:codeIn K cdv jC=nZ) (kp:kP K (.ref f)=nZ) (e:cdv=.ref c):FunC K x jC st f (fnOf x jC (B3 st) (A9 st) (Ah st) .none kV doc pm an cdv ct) c:=by
 subst e;exact⟨⟨oc,od,kV,doc,pm,an,ct,osl,Z,l,cc⟩,kp⟩
end
noncomputable def MZ(K:jX)(c T:jF):Bool:=match K.lookup c with
 |some o=>match o.data with
  |.fields vs=>(o.cls==.type "code")&&(vs[11]?==O (.ref T))&&(match vs.getD 18 .none with|.str _ _=>nZ|_=>oe)&&(match vs.getD 7 .none with|.int _ _=>nZ|_=>oe)&&(match vs.getD 9 .none with|.bool _=>nZ|_=>oe)&&(match vs.getD 10 .none with|.int _ _=>nZ|_=>oe)&&(c != T)
  |_=>oe
 |none=>oe
theorem codeTB_of{K:jX}{c T:jF}(h:MZ K c T=nZ):∀hp:j6,K.In hp->CodeHd hp c T:=λhp KX=>by
 unfold MZ at h;cases e:K.lookup c with
 |none=>rw[e]at h;cases h
 |some o=>
  rw[e]at h;cases d:o.data with
  |fields vs=>
   simp only[d,av]at h;obtain⟨⟨⟨⟨⟨⟨h1,h2⟩,h3⟩,h4⟩,h5⟩,h6⟩,h7⟩:=h;have h2:vs[11]?=O (.ref T):=eq_of_beq h2;have e18:∃a b,vs.getD 18 .none=.str a b:=by
    generalize vs.getD 18 .none=v at h3;cases v with
    |str a b=>exact⟨a,b,Z⟩
    |_=>cases h3
   have e7:∃a b,vs.getD 7 .none=.int a b:=by
    generalize vs.getD 7 .none=v at h4;cases v with
    |int a b=>exact⟨a,b,Z⟩
    |_=>cases h4
   have e9:∃a,vs.getD 9 .none=.bool a:=by
    generalize vs.getD 9 .none=v at h5;cases v with
    |bool a=>exact⟨a,Z⟩
    |_=>cases h5
   have e10:∃a b,vs.getD 10 .none=.int a b:=by
    generalize vs.getD 10 .none=v at h6;cases v with
    |int a b=>exact⟨a,b,Z⟩
    |_=>cases h6
   obtain⟨f1,f2,e18⟩:=e18;obtain⟨g1,g2,e7⟩:=e7;obtain⟨i1,e9⟩:=e9;obtain⟨t1,t2,e10⟩:=e10;refine⟨o,vs,f1,f2,g1,g2,i1,t1,t2,KX c o e,eq_of_beq h1,d,h2,?_,e18,e7,e9,e10,?_⟩
   .rw[de,h2];rfl
   .intro z;rw[z]at h7;simp at h7
  |_=>simp only[d]at h;cases h
def SameN(H H':Hp):Prop:=∀a o,H a=O o->(∀ps,o≠.tbl ps)->H' a=O o
theorem SameN.trans{H H1 H2:Hp}(a:SameN H H1)(b:SameN H1 H2):SameN H H2:=λx o e n=>b x o (a x o e n) n
theorem Same.n{H H':Hp}(s:Same H H'):SameN H H':=λa o e _=>s a o e
theorem SameN.lst{H H':Hp}(s:SameN H H'){a:jF}{xs:LUz}(e:H a=O (.lst xs)):H' a=O (.lst xs):=s a _ e λ_ z=>nomatch z
theorem SameN.rd{H H':Hp}(s:SameN H H'){a:jF}{xs:LUz}(e:Rd H a<|.lst xs):Rd H' a (.lst xs):=e.elim (λe=>.inl<|s.lst e) (λ⟨o,e⟩=>.inr ⟨o,s a _ e λ_ z=>nomatch z⟩)
theorem SameN.seq{K:jX}{H H':Hp}(s:SameN H H'){a:jF}{xs:LUz}(e:SqL K H a xs):SqL K H' a xs:=e.elim (λe=>.inl<|s.rd e) .inr
def TabOk(pos:Pos)(jC:j5)(T:jF)(H:Hp):Prop:=∃ps,H T=O (.tbl ps)/\TriplesOk ps.toList/\(codeAmong pos ps.toList=Y\/∃c',codeAmong pos ps.toList=O (.ref c')/\H c'=O (E2 c' jC))
theorem TabOk.same{pos:Pos}{jC:j5}{T:jF}{H H':Hp}(h:TabOk pos jC T H)(s:Same H H'):TabOk pos jC T H':=by
 obtain⟨ps,e,t,c⟩:=h;refine⟨ps,s _ _ e,t,?_⟩;rcases c with c|⟨c',c1,c2⟩
 .exact .inl c
 .exact .inr ⟨c',c1,s _ _ c2⟩
theorem TabOk.new{pos:Pos}{jC:j5}{T:jF}{H:Hp}(h:H T=O (.tbl #[])):TabOk pos jC T H:=⟨#[],h,trivial,.inl Z⟩
theorem FY{a b c:Int}{t u:lm}{v:jJ}:∀(l:LWz),TriplesOk l->TriplesOk (l++[.int a t,.int b u,v])
 |[],_=>trivial
 |.int _ _::.int _ _::_::rest,h=>FY (c:=c) rest h
section
variable{X:Cx}
theorem JZ:Cq X (.builtin "sum") (λxs H Q=>∃(p:jF)(ns:List Int),xs=[.ref p]/\SqL X.K H p (ns.map V.int)/\X.calm=nZ/\Q (.int ns.sum) H):=by
 intro jy s B H xs us Q I r h;obtain⟨p,ns,rfl,hp,hc,q⟩:=h;obtain⟨u,rfl,ru⟩:=D9 r;cases ru;obtain⟨its,rv,pl,hz⟩:=I.list hp;have hi:=FQ rv;obtain⟨xs,hx⟩:=hi.allInts.items;have hl':s.heap.IsList p (intItems xs):=hx ▸ pl.isList;refine sum_intListG (I.ok.hd hc) hl' λh' tk t' hk=>?_;have e1:ns=xs.toList.map (·.1):=by
  rw[<-nums_intItems,<-hx];exact(show numsOf its.toArray.toList=ns from hi.numsOf).symm
 have e2:preSum (numAt xs) xs.size=ns.sum:=by
  rw[preSum_eq,fG (by simp),e1]
 rw[e2];exact⟨.int ns.sum,H,I.kept (t':=tk) hk,⟨t',Z⟩,q⟩
end
end L2
namespace HT
open PySem.W
open PySem PySem.Spec PyProof.Rows
end HT
namespace L2
open PySem.W
open PySem PySem.Spec PyProof.Rows
section
variable{P:jN}{w:jW}{K:jX}{mg:MGz}{jD:j6}{x jC:j5}{st:j0}{f c:jF}{fd:jM}{N ps:LSz}{k:Nat}{sp:Sp}
theorem FunC.ok(F:FunC K x jC st f fd c)(S:Al N ps<|Ah st)(len:∀vs H Q E,sp vs H Q E->vs.length=ps.length)
  (hbody:∀(A:jZ)(jz:List lO)(s:jH)(H:Hp)(vs:LUz)(Q:VK)(E:XK),Room k (A.deeper<|envOfC jC (Ah st) s.heap.objs.size f<|.ref c)->sp vs H Q E ->
   ∃t,PSs (Bx CX0 P w K mg jD N jC (Ah st) f (.ref c) A jz s H E).nox (A9 st) t/\t { nx:=λ_ H'=>Q .non H',rt:=Q} (start N vs) H):A8 P w K mg jD CX0 (k+1) f fd ps sp:=by
 obtain⟨oc,od,kV,doc,pm,an,ct,osl,rfl,lk,hcd⟩:=F.ex;refine QK lk hcd S len λA jz s H vs Q E hr hsp=>?_;obtain⟨t,h,q⟩:=hbody A jz s H vs Q E hr hsp;exact⟨t,h.nox,q⟩
end
noncomputable def tkd(H:Hp)(L:PNz):Hp:=λa=>match L.lookup a with|some o=>O (BY a o)|none=>H a
noncomputable def utk(H:Hp)(L:PNz):Hp:=λa=>match L.lookup a with|some _=>Y|none=>H a
section
variable{P:jN}{w:jW}{H H':Hp}{h h':j6}{a:jF}{o:Obj}{L:PNz}{fs:List jF}
theorem IG(e:L.lookup a=O o):tkd H L a=O (BY a o):=by unfold tkd;rw[e]
theorem Bc(e:L.lookup a=Y):tkd H L a=H a:=by unfold tkd;rw[e]
theorem G4(e:L.lookup a=O o):utk H L a=Y:=by unfold utk;rw[e]
theorem Bw(e:L.lookup a=Y):utk H L a=H a:=by unfold utk;rw[e]
theorem CH(e:H a=Y):utk H L a=Y:=by
 cases q:L.lookup a with
 |none=>rw[Bw q];exact e
 |some o=>exact G4 q
theorem FL{u:HO}(hL:∀a o,L.lookup a=O o->H a=Y)(e:H a=O u):L.lookup a=Y:=by
 cases q:L.lookup a with
 |none=>rfl
 |some o=>rw[hL a o q]at e;cases e
theorem Fq{u:HO}(hL:∀a o,L.lookup a=O o->H a=O (BY a o))(e:H a=O u)(n:∀o,u≠BY a o):L.lookup a=Y:=by
 cases q:L.lookup a with
 |none=>rfl
 |some o=>rw[hL a o q]at e;cases e;exact absurd Z<|n o
theorem HOk.tkd(hok:HOk P w H h)(hL:∀a o,L.lookup a=O o->H a=Y)(hc:∀a o,L.lookup a=O o->h.get? a=O o):HOk P w (tkd H L) h:=λa u e=>by
 cases q:L.lookup a with
 |some o=>
  rw[IG q]at e;cases e;exact MB<|hc a o q
 |none=>
  rw[Bc q]at e;exact(hok a u e).stay (λ_ _ _ z=>z) (λb z=>by rw[Bc<|FL hL z];exact z) (λb xs z=>by rw[Bc<|FL hL z];exact z)
theorem HOk.utk(hok:HOk P w H h)(hL:∀a o,L.lookup a=O o->H a=O (BY a o)):HOk P w (utk H L) h:=λa u e=>by
 cases q:L.lookup a with
 |some o=>rw[G4 q]at e;cases e
 |none=>
  rw[Bw q]at e;exact(hok a u e).stay (λ_ _ _ z=>z) (λb z=>by rw[Bw<|Fq hL z λ_ z=>nomatch z];exact z) (λb xs z=>by rw[Bw<|Fq hL z λ_ z=>nomatch z];exact z)
theorem Un.utk(u:Un fs [] (L2.tkd H L) H' h h')(hok:HOk P w H' h')(hL:∀a o,L.lookup a=O o->H a=Y)(hc:∀a o,L.lookup a=O o->h.get? a=O o)(hf:∀a o,L.lookup a=O o->a∉fs)(hk:∀a o,L.lookup a=O o->H' a=O (BY a o)):Un fs [] H (L2.utk H' L) h h' where
 keep b o q n nf nx:=by
  cases e:L.lookup b with
  |some o'=>
   rw[hc b o' e]at q;cases q;exact(hok b _<|hk b o e).1
  |none=>exact u.keep b o q (by rw[Bc e];exact n) nf nx
 slot b o q n hb nx:=by
  cases e:L.lookup b with
  |some o'=>exact absurd hb<|hf b o' e
  |none=>exact u.slot b o q (by rw[Bc e];exact n) hb nx
 free b o q n nx:=by
  cases e:L.lookup b with
  |some o'=>exact G4 e
  |none=>rw[Bw e];exact u.free b o q (by rw[Bc e];exact n) nx
 there b o q nx:=u.there b o q nx
 tups b xs e:=by
  have n:=FL hL e;rw[Bw n];exact u.tups b xs (by rw[Bc n];exact e)
 frzs b o v e:=by
  have n:=FL hL e;rw[Bw n];exact u.frzs b o v (by rw[Bc n];exact e)
 tbls b ps e:=by
  have n:=FL hL e;rw[Bw n];exact u.tbls b ps (by rw[Bc n];exact e)
theorem Un.tkd(u:Un fs [] (L2.utk H L) H' h h')(hL:∀a o,L.lookup a=O o->H a=O (BY a o)):Un fs [] H (L2.tkd H' L) h h':=by
 have out:∀{b},H b=Y->L.lookup b=Y:=λ{b} n=>by
  cases e:L.lookup b with
  |none=>rfl
  |some o=>rw[hL b o e]at n;cases n
 exact {
  keep:=λb o q n nf nx=>u.keep b o q (CH n) nf nx
  slot:=λb o q n hb nx=>u.slot b o q (CH n) hb nx
  free:=λb o q n nx=>by rw[Bc<|out n];exact u.free b o q (CH n) nx
  there:=λb o q nx=>u.there b o q nx
  tups:=λb xs e=>by
   have n:=Fq hL e (λ_ z=>nomatch z);rw[Bc n];exact u.tups b xs (by rw[Bw n];exact e)
  frzs:=λb o v e=>by
   have n:=Fq hL e (λ_ z=>nomatch z);rw[Bc n];exact u.frzs b o v (by rw[Bw n];exact e)
  tbls:=λb ps e=>by
   have n:=Fq hL e (λ_ z=>nomatch z);rw[Bc n];exact u.tbls b ps (by rw[Bw n];exact e)}
end
def FvOk(P:jN)(w:jW)(K:jX)(mg:MGz)(jD:j6)(k:Nat)(H:Hp)(f:jF)(sp:Sp):Prop:=
 (∃o fd,H f=O (BY f o)/\o.data=.func fd)/\∀(A:jZ)(jz:List lO)(s:jH)(H':Hp)(us:LWz)(vs:LUz)(Q:VK)(E:XK),Same H H'->Room k A->Env0 P w K mg jD A jz s H'->Vals vs us->sp vs H' Q E ->
  kK (jS P w) A (.call (.ref f) ⟨us,[]⟩) (CR CX0 jz P w H' s Q E) s
theorem FvOk.same{P:jN}{w:jW}{K:jX}{mg:MGz}{jD:j6}{k:Nat}{H H':Hp}{f:jF}{sp:Sp}(h:FvOk P w K mg jD k H f sp)(s:Same H H'):FvOk P w K mg jD k H' f sp:=
 ⟨let ⟨o,fd,e,d⟩:=h.1;⟨o,fd,s _ _ e,d⟩,λA jz sh H2 us vs Q E s2=>h.2 A jz sh H2 us vs Q E<|s.trans s2⟩
def tFv(P:jN)(w:jW)(K:jX)(mg:MGz)(jD:j6)(k:Nat)(tv:TE)(t:TA):TE:=λB H Q=>tv B H λv H1=>∃f sp,v=.ref f/\FvOk P w K mg jD k H1 f sp/\t B H1 λvs H2=>Same H1 H2/\sp vs H2 Q E0
section
variable{X:Cx}{k j:Nat}{y:j5}{p pos:Pos}{e:j9}{es:List j9}{tv:TE}{t:TA}
theorem XU(hr:Room j X.A)(hv:PE X (.Name y p) tv)(ha:PA X (e::es) t)(hj:k<=j:=by decide)
  (he:jV (e::es) X.env=(oe,eval e X.env)::jV es X.env:=by rfl) (hpl:(kr pos<|jV es X.env).any (·.1)=oe:=by rfl):PE X (.Call (.Name y p) (e::es) [] pos) (tFv X.prog X.w X.K X.mg X.jD k tv t):=by
 intro jy s B H Q I h;refine ki<|thn (hv jy s B H _ I h) λu s1 hz_=>?_;obtain⟨v,H1,I1,r1,f,sp,e1,F,q1⟩:=hz_;subst e1;cases r1;have fnat:∀{H2:Hp}{s2:jH},Same H1 H2->Inv X jy B H2 s2->FnAt f s2.heap:=λ{H2 s2} sm I2=>by
  obtain⟨o,fd,e,d⟩:=F.1;have:=(show ObjOk X.prog X.w H2 s2.heap f (BY f o)from I2.hok f _<|sm _ _ e).1;obtain⟨oc,od,dt,sl⟩:=o;cases d;exact⟨_,_,_,_,this⟩
 refine callWith_F (fnat (Same.refl _) I1) (thn (ha pos jy s1 B H1 _ I1 q1) λus s2 ⟨vs,H2,I2,r,sm,q⟩=>⟨fnat sm I2,?_⟩) he hpl;refine kR<|kL (F.2 X.A X.stack s2 H2 us vs Q E0 sm (hr.mono hj) I2.env0 r q) λr s' hq=>?_;cases r with
 |error e=>exact Jk jy B H2 s2 e s' I2 hq
 |ok fl=>
  cases fl with
  |ret u=>exact I2.after hq
  |next=>exact False.elim hq
  |brk=>exact False.elim hq
  |cont=>exact False.elim hq
end
theorem Ll{g:jF->Obj}:∀{l:List jF}{a:jF},(l.map λc=>(c,g c)).lookup a=if a∈l then O (g a)else Y
 |[],a=>by simp
 |c::r,a=>by
  rw[aR,ba];by_cases e:a=c
  .subst e;simp
  .have:(a==c)=oe:=by simpa using e
   rw[this];show List.lookup a (r.map λc=>(c,g c))=_;rw[Ll];simp[e]
structure Rs(N:LSz)(clos:List<|j5×jF)(B:St)(H:Hp)(L:PNz):Prop where
 new:∀a o,L.lookup a=O o->H a=Y
 has:∀p∈clos,∃o v,L.lookup p.2=O o/\o.data=.cell v
 val:∀p∈clos,∀(i:Nat)(v:V),N[i]?=O p.1->B[i]?=O (O v)->∃o u,L.lookup p.2=O o/\o.data=.cell (O u)/\RelV v u
def Wz(N:LSz)(clos:List<|j5×jF)(sp:Sp)(t:TA):TE:=λB H Q=>t B H λvs H1=>∀L,Rs N clos B H1 L->sp vs (tkd H1 L) (λv H2=>(∀a o,L.lookup a=O o->H2 a=O (BY a o))/\Q v (utk H2 L)) E0
section
variable{X:Cx}{k j:Nat}{x:j5}{ps:LSz}{sp:Sp}{p pos:Pos}{e:j9}{es:List j9}{t:TA}{clos:List<|j5×jF}
theorem W8(D:Ar X.prog X.w X.K X.mg X.jD k x ps sp)(hr:Room j X.A)(ha:PA X (e::es) t)(hcl:∀p∈clos,X.env.cells.lookup p.1=O p.2/\X.env.kindOf p.1=O .cell)(hfn:∀y,X.fn y=nZ)(hex:X.ex=[])(hj:k<=j:=by decide)(hg:Gl X x:=by rfl)(hdb:(x==("__debug__":j5))=oe:=by decide)
  (he:jV (e::es) X.env=(oe,eval e X.env)::jV es X.env:=by rfl) (hpl:(kr pos<|jV es X.env).any (·.1)=oe:=by rfl):PE X (.Call (.Name x p) (e::es) [] pos) (Wz X.N clos sp t):=by
 obtain⟨f,fd,F,hm,hk,hb⟩:=D.ex;intro jy s B H Q I h;refine ki<|Eg I hg hm ?_ hdb;refine lD (h₀:=X.jD) I.ok.mod.kin hk (thn (ha pos jy s B H _ I h) λus s1 ⟨vs,H1,I1,r,q⟩=>⟨I1.kIn,?_⟩) he hpl
 let g:jF->Obj:=λc=>(s1.heap.get? c).getD ⟨.none,Y,.plain,#[]⟩
 let L:PNz:=(clos.map (·.2)).map λc=>(c,g c)
 have hLk:∀a,L.lookup a=if a∈clos.map (·.2)then O (g a)else Y:=λa=>Ll;have hcell:∀p∈clos,∃v,s1.heap.IsCell p.2 v:=λp hp=>I1.cell p.1 p.2 (hcl p hp).1;have hin:∀a o,L.lookup a=O o->∃p∈clos,p.2=a/\s1.heap.get? a=O o:=λa o e=>by
  rw[hLk]at e;split at e
  .rename_i hm;obtain⟨p,hp,rfl⟩:=ao.mp hm;refine⟨p,hp,Z,?_⟩;obtain⟨v,o',ho',_⟩:=hcell p hp;cases e;show _=O ((s1.heap.get? p.2).getD _);rw[ho'];rfl
  .cases e
 have hof:∀p∈clos,∀o,s1.heap.get? p.2=O o->L.lookup p.2=O o:=λp hp o e=>by
  rw[hLk,jP<|ao.mpr ⟨p,hp,Z⟩];show O ((s1.heap.get? p.2).getD _)=_;rw[e];rfl
 have hnew:∀a o,L.lookup a=O o->H1 a=Y:=λa o e=>by
  obtain⟨p,hp,rfl,_⟩:=hin a o e;exact I1.freeC p.1 p.2 (hcl p hp).1
 have hget:∀a o,L.lookup a=O o->s1.heap.get? a=O o:=λa o e=>let ⟨_,_,_,z⟩:=hin a o e;z;have habove:∀a o,L.lookup a=O o->X.s₀.heap.objs.size<=a:=λa o e=>by
  obtain⟨p,hp,rfl,_⟩:=hin a o e;exact I1.ok.cab p.1 p.2 (hfn _) (hcl p hp).1
 have hnf:∀a o,L.lookup a=O o->a∉frs X.stack:=λa o e hb=>by
  have ab:=habove a o e;obtain⟨p,hp,rfl,_⟩:=hin a o e;rcases aQ.mp (I1.stkSub _ hb)with z|z
  .exact I1.cne p.1 p.2 (hcl p hp).1 z
  .obtain⟨_,o',ho',_⟩:=I1.ok.funs.mem z;exact absurd (aP (ay ho') ab)<|bM _
 have CA:Rs X.N clos B H1 L:=by
  refine⟨hnew,λp hp=>?_,λp hp i v hi hv=>?_⟩
  .obtain⟨v,o,ho,hd⟩:=hcell p hp;exact⟨o,v,hof p hp o ho,hd⟩
  .obtain⟨m,hns,hloc⟩:=I1.loc;obtain⟨u,ru,hlook⟩:=hloc i p.1 v hi hv<|.inr<|.inl (hcl p hp).2;rcases hlook with⟨k1,_⟩|⟨_,c,hc,o,ho,hd⟩
   .rw[(hcl p hp).2]at k1;cases k1
   .rw[(hcl p hp).1]at hc;cases hc;exact⟨o,u,hof p hp o ho,hd,ru⟩
 have hsp:=q L CA;have e0:Env0 X.prog X.w X.K X.mg X.jD X.A X.stack s1 (tkd H1 L):=by
  have z:=I1.env0;refine⟨z.frames,z.mod,λb o e=>?_,z.bsz,z.funs,λb hb=>?_,z.hok.tkd hnew hget,z.bare⟩
  .refine⟨(z.bs b o e).1,?_⟩;cases q:L.lookup b with
   |none=>rw[Bc q];exact(z.bs b o e).2
   |some o'=>exact absurd (aP (ay e)<|aV I1.ok.bsz<|habove b o' q)<|bM _
  .cases q:L.lookup b with
   |none=>rw[Bc q];exact z.frf b hb
   |some o'=>exact absurd hb<|hnf b o' q
 have hl:us.length=ps.length:=by rw[<-r.length];exact F.len _ _ _ _ hsp
 have hbd:=hb s1 us I1.kIn (by rw[aJ];exact hl);rw[aJ]at hbd;refine kR<|kL (F.run X.A X.stack s1 (tkd H1 L) ⟨us,[]⟩ us vs _ E0 (hr.mono hj) e0 hbd r hsp) λrs s' hq=>?_;cases rs with
 |error e=>exact Jk jy B H1 s1 e s' I1 (by exact hq)
 |ok fl=>
  cases fl with
  |ret u=>
   obtain⟨v,H2,os,bare,un,hok,rv,hkp,q2⟩:=hq;exact I1.after ⟨v,utk H2 L,os,bare,un.utk hok hnew hget hnf hkp,hok.utk hkp,rv,q2⟩
  |next=>exact False.elim hq
  |brk=>exact False.elim hq
  |cont=>exact False.elim hq
end
noncomputable def V5(P:jN)(w:jW)(K:jX)(mg:MGz)(jD:j6)(N:LSz)(jC:j5)(scope:kF)(f:jF)(cd:jJ)(clos:List<|j5×jF)(A:jZ)(jz:List lO)(s:jH)(H Hx:Hp)(E:XK):Cx where
 prog:=P
 w:=w
 K:=K
 mg:=mg
 jD:=jD
 A:=A.deeper<|envX jC scope s.heap.objs.size f cd clos
 N:=N
 s₀:=s
 H₀:=H
 env:=envX jC scope s.heap.objs.size f cd clos
 jz:=jz
 stack:=envX jC scope s.heap.objs.size f cd clos::jz
 ex:=[]
 calm:=nZ
 fn:=λ_=>oe
 pn:=[]
 xe:=λe s'=>jT (jS P w) (A.deeper<|envX jC scope s.heap.objs.size f cd clos) (leaving (envX jC scope s.heap.objs.size f cd clos) e) (λ_ s''=>CX0 jz Hx s E e s'') (λe' s''=>CX0 jz Hx s E e' s'') s'
theorem TabOk.lamC{clos:List<|j5×jF}{mg:MGz}{pos:Pos}{jC:j5}{T:jF}{params:Arguments}{body:j9}{scope:kF}{B:St}{H:Hp}{Q:VK}(h:TabOk pos jC T H)
  (q:∀c' f ctv H',SameX T H H'->TabOk pos jC T H'->H' f=O (BY f<|C1 mg jC params body scope clos c' ctv)->H' c'=O (E2 c' jC)->(∀b,H b=Y->H' b=Y\/b=c'\/b=f)->Q (.ref f) H'):Xy mg T pos params body scope clos jC B H Q:=by
 obtain⟨ps,e,t,c⟩:=h;refine⟨ps,e,t,?_⟩;rcases c with c|⟨c',c1,c2⟩
 .refine .inl ⟨c,λc' f ctv hc hf n1 n2 n3=>?_⟩;have eT:(upd (upd (upd H T<|.tbl<|ps++#[kD pos.line,kD pos.col,.ref c']) c'<|E2 c' jC) f<|BY f<|C1 mg jC params body scope clos c' ctv) T=O (.tbl<|ps++#[kD pos.line,kD pos.col,.ref c']):=by
   rw[Af<|Ne.symm n3,Af<|Ne.symm n2,Ae]
  have eC:(upd (upd (upd H T<|.tbl<|ps++#[kD pos.line,kD pos.col,.ref c']) c'<|E2 c' jC) f<|BY f<|C1 mg jC params body scope clos c' ctv) c'=O (E2 c' jC):=by
   rw[Af n1,Ae]
  refine q c' f ctv _ (λa o ea no=>?_) ⟨_,eT,?_,.inr ⟨c',?_,eC⟩⟩ Ae eC λb hb=>?_
  .rw[Af<|Ad no hf,Af<|Ad no hc,Af ea];exact no
  .rw[fU];exact FY (c:=0) _ t
  .rw[fU];exact codeAmong_snoc _ t c
  .by_cases h1:b=f
   .exact .inr (.inr h1)
   .by_cases h2:b=c'
    .exact .inr (.inl h2)
    .refine .inl ?_;rw[Af h1,Af h2,Af (λz=>by rw[z,e]at hb;cases hb)];exact hb
 .refine .inr ⟨c',c1,c2,λf ctv hf=>?_⟩;have s:Same H (upd H f<|BY f<|C1 mg jC params body scope clos c' ctv):=Same.new hf;refine q c' f ctv _ s.x (TabOk.same ⟨ps,e,t,.inr ⟨c',c1,c2⟩⟩ s) Ae (s _ _ c2) λb hb=>?_;by_cases h1:b=f
  .exact .inr (.inr h1)
  .exact .inl (by rw[Af h1];exact hb)
theorem TabOk.tbl{pos:Pos}{jC:j5}{T:jF}{H:Hp}(h:TabOk pos jC T H):∃ps,H T=O (.tbl ps):=let ⟨ps,e,_⟩:=h;⟨ps,e⟩
theorem SameX.toN{T:jF}{H H':Hp}(s:SameX T H H')(hT:∃ps,H T=O (.tbl ps)):SameN H H':=λa o e n=>s a o (λz=>by obtain⟨ps,e'⟩:=hT;rw[z,e']at e;cases e;exact n _ Z) e
theorem SQ{H H':Hp}{L:PNz}(hL:∀a o,L.lookup a=O o->H a=Y)(s:Same (tkd H L) H'):Same H (utk H' L)/\∀a o,L.lookup a=O o->H' a=O (BY a o):=
 ⟨λa o e=>by
  have n:=FL hL e;rw[Bw n];exact s _ _ (by rw[Bc n];exact e),λa o e=>s _ _<|IG e⟩
theorem Ma{H:Hp}{L:PNz}{a:jF}{u:HO}(hL:∀a o,L.lookup a=O o->H a=O (BY a o))(e:H a=O u)(n:∀o,u≠BY a o):utk H L a=O u:=by rw[Bw<|Fq hL e n];exact e
theorem NS{M:Model}{A:jZ}{E:VPz}{s:jH}{scope:kF}{globals:jF}{clos:List<|j5×jF}{pn:j5}{u:jJ}{jC:j5}{func:Option jF}{code:jJ}{builtins:jF}{Q:lO->jH->Prop}
  (hk:scope.kind=.function) (hp:scope.names.lookup pn=O .cell) (hc:∀n acc,cellsFrom n scope.names acc=(pn,n)::acc) (hpu:∀h,pushCells h scope.names=h.push { cls:=.type "cell",data:=.cell Y})
  (hQ:∀h' tk,h'.Ns s.heap.objs.size (λ_=>Y)->h'.IsCell (s.heap.objs.size+1) (O u)->(∀b o,s.heap.get? b=O o->h'.get? b=O o)->Q (newEnv scope s.heap.objs.size globals ((pn,s.heap.objs.size+1)::clos) jC func code Y builtins) { s with heap:=h',toks:=tk}):
  jT M A (newFunctionEnv scope globals clos [(pn,u)] jC func code Y builtins) Q E s:=by
 simp only[newFunctionEnv,Option.isSome_none,aS,if_false];refine jG<|wpAny_alloc ?_;refine jG (wpAny_layCells _ (λname kind cells=>by cases hkc:kind==NameKind.cell<;>simp[hkc]) _ _ _ _ ?_);rw[hc,hpu,show({s with heap:=s.heap.push { cls:=.type "frame",data:=.dict #[]}}:jH).heap.objs.size=s.heap.objs.size+1 from b8 ..];have hcell:((s.heap.push { cls:=.type "frame",data:=.dict #[]}).push { cls:=.type "cell",data:=.cell Y}).IsCell (s.heap.objs.size+1) Y:=⟨{cls:=.type "cell",data:=.cell Y},eM (b8 ..).symm Z,Z⟩;have hns:=(Heap.Ns.new s.heap<|.type "frame").keeps (h':=(s.heap.push { cls:=.type "frame",data:=.dict #[]}).push { cls:=.type "cell",data:=.cell Y}) λb o e=>ag _ e;refine jG ?_;rw[eY];refine jG (jG<|wpAny_storeName_cell (env:=newEnv scope s.heap.objs.size globals ((pn,s.heap.objs.size+1)::clos) jC func code Y builtins) hk hp (by simp[newEnv]) hcell λh' hc' hs'=>?_);refine jL ?_;show jT M A (forIn ([]:List<|j5×jJ) PUnit.unit _) _ _ _;rw[List.forIn_nil];refine jL<|jL<|hQ h' _ (hns.sameBut hs'<|aM<|bS _) hc' λb o e=>hs'.extBut b o (aM<|bO<|ay e)<|ag _<|ag _ e
structure LC(pn:j5)(fs:LSz)(sc:kF):Prop where
 kind:sc.kind=.function
 co:sc.isCoroutine=oe
 gen:sc.isGenerator=oe
 par:sc.names.lookup pn=O .cell
 cells:∀n acc,cellsFrom n sc.names acc=(pn,n)::acc
 push:∀h,pushCells h sc.names=h.push { cls:=.type "cell",data:=.cell Y}
 own:∀y,sc.names.lookup y=O .cell->y=pn
 free:∀y,sc.names.lookup y=O .free->y∈fs
 isfree:∀y∈fs,sc.names.lookup y=O .free
theorem Vv{P:jN}{w:jW}{K:jX}{mg:MGz}{jD:j6}{k:Nat}{H:Hp}{f c':jF}{params:Arguments}{body:j9}{scope:kF}{jC pn:j5}{ctv:jJ}{fs:LSz}{clos:List<|j5×jF}{cv:LUz}{L:PNz}{sp:Sp}
  (hf:H f=O (BY f<|C1 mg jC params body scope clos c' ctv)) (hc:H c'=O (E2 c' jC)) (S:LC pn fs scope) (hlen:cv.length=fs.length) (hkeys:∀y,(∃c,clos.lookup y=O c)↔y∈fs) (hinj:∀x y c,clos.lookup x=O c->clos.lookup y=O c->x=y)
  (hL:∀a o,L.lookup a=O o->H a=O (BY a o)) (hcell:∀p∈clos,∃o v,L.lookup p.2=O o/\o.data=.cell v) (hval:∀p∈clos,∀(i:Nat)(v:V),fs[i]?=O p.1->cv[i]?=O v->∃o u,L.lookup p.2=O o/\o.data=.cell (O u)/\RelV v u)
  (hb:∀(s:jH)(u:jJ),BindsTo s (kla_fn "<lambda>" jC params body scope clos ((mg "__name__").getD .none) (.ref c') ctv) ⟨[u],[]⟩ [(pn,u)])
  (hone:∀vs H' Q E,sp vs H' Q E->∃v,vs=[v])
  (hbody:∀(A:jZ)(jz:List lO)(s:jH)(H':Hp)(E:XK)(v:V)(Q:VK),Same H H'->Room k (A.deeper<|envX jC scope s.heap.objs.size f (.ref c') ((pn,s.heap.objs.size+1)::clos))->sp [v] H' Q E ->
   ∃te,PE (V5 P w K mg jD (pn::fs) jC scope f (.ref c') ((pn,s.heap.objs.size+1)::clos) A jz s (utk H' L) H' E) body te/\te (O v::cv.map O) (utk H' L) (λv' H2=>(∀a o,L.lookup a=O o->H2 a=Y)->Q v' (tkd H2 L))):
  FvOk P w K mg jD (k+1) H f sp:=by
 refine⟨⟨_,_,hf,Z⟩,λA jz s H' us vs Q E sm hr e0 r h=>?_⟩;obtain⟨v,rfl⟩:=hone _ _ _ _ h;obtain⟨u,rfl,ru⟩:=D9 r;obtain⟨te,hpe,h⟩:=hbody A jz s H' E v Q sm (hr.deeper _) h;have hL':∀a o,L.lookup a=O o->H' a=O (BY a o):=λa o e=>sm _ _<|hL a o e;have hget:∀a o,L.lookup a=O o->s.heap.get? a=O o:=λa o e=>(show ObjOk P w H' s.heap a (BY a o)from e0.hok a _<|hL' a o e).1;have lim:s.heap.NoLimit:=e0.mod.nolimit.keeps λb o e=>(e0.bs b o e).1;have ho:s.heap.get? f=O (C1 mg jC params body scope clos c' ctv):=(show ObjOk P w H' s.heap f (BY f _)from e0.hok f _<|sm _ _ hf).1;refine kla_callFunE hr.depth ho Z S.co S.gen Z (Sl<|e0.hok c' _<|sm _ _ hc)<|hb s u _ _ _ _ ?_;refine NS S.kind S.par S.cells S.push λh1 tk hns hcl hk=>?_;refine⟨lim.keeps hk,?_⟩;show kK _ _ (.expr body<|envX jC scope s.heap.objs.size f (.ref c') ((pn,s.heap.objs.size+1)::clos)) _ _;refine kla_codeExpr ?_;have noA:∀b:jF,b∉(V5 P w K mg jD (pn::fs) jC scope f (.ref c') ((pn,s.heap.objs.size+1)::clos) A jz s (utk H' L) H' E).ex:=λb z=>absurd (show b∈([]:List jF)from z) (by simp);have mem:∀y c,clos.lookup y=O c->(y,c)∈clos:=λy c e=>PySem.mem_of_lookup e;have npf:pn∉fs:=λz=>by have:=S.isfree pn z;rw[S.par]at this;cases this
 have look:∀y c,((pn,s.heap.objs.size+1)::clos).lookup y=O c->(y=pn/\c=s.heap.objs.size+1)\/(y≠pn/\clos.lookup y=O c):=λy c e=>by
  rw[ba]at e;by_cases q:y=pn
  .subst q;rw[beq_self_eq_true]at e;exact .inl ⟨Z,(Option.some.inj e).symm⟩
  .rw[show(y==pn)=oe from beq_false_of_ne q]at e;exact .inr ⟨q,e⟩
 have lookF:∀y c,y≠pn->clos.lookup y=O c->((pn,s.heap.objs.size+1)::clos).lookup y=O c:=λy c n e=>by rw[ba,show(y==pn)=oe from beq_false_of_ne n];exact e
 have lookP:((pn,s.heap.objs.size+1)::clos).lookup pn=O (s.heap.objs.size+1):=by rw[ba,beq_self_eq_true]
 have lt:∀y c,clos.lookup y=O c->c<s.heap.objs.size:=λy c e=>by
  obtain⟨o,vv,ho',_⟩:=hcell (y,c)<|mem y c e;exact ay<|hget _ _ ho'
 have I:Inv (V5 P w K mg jD (pn::fs) jC scope f (.ref c') ((pn,s.heap.objs.size+1)::clos) A jz s (utk H' L) H' E) [] (O v::cv.map O) (utk H' L) { s with heap:=h1,toks:=tk}:=by
  refine⟨⟨e0.mod,S.kind,Z,Z,ah _,λx y c h1' h2'=>?_,λy hy=>?_,λy c z=>absurd z (by simp[V5]),λ_=>hr.hd,Around.frames_deeper e0.frames,.inr ⟨Z,Z⟩,λb z=>absurd z<|noA b,λb o e=>⟨(e0.bs b o e).1,CH (e0.bs b o e).2⟩,e0.bsz,λb _ _=>noA b,λb z=>absurd z<|noA b,e0.funs,λb hb=>CH<|e0.frf b hb⟩,
   rfl,e0.bare,Un.kept hk,⟨_,hns,λi y vv h1' h2 h3=>?_⟩,λy c e=>?_,CH<|e0.hok.fresh<|ah _,λy c e=>?_,λp hp=>absurd (show p∈([]:PNz)from hp) (by simp),(e0.hok.utk hL').kept hk,?_⟩
  .rcases look x c h1' with⟨rfl,rfl⟩|⟨_,q1⟩
   .rcases look y _ h2' with⟨rfl,_⟩|⟨_,q2⟩
    .rfl
    .exact absurd (lt y _ q2) (Nat.not_lt.mpr<|bT _)
   .rcases look y _ h2' with⟨rfl,rfl⟩|⟨_,q2⟩
    .exact absurd (lt x _ q1) (Nat.not_lt.mpr<|bT _)
    .exact hinj x y c q1 q2
  .have hy:scope.names.lookup y=O .cell\/scope.names.lookup y=O .free:=hy;rcases hy with hy|hy
   .rw[S.own y hy];exact⟨_,lookP⟩
   .have m:=S.free y hy;obtain⟨c,e⟩:=(hkeys y).mpr m;exact⟨c,lookF y c (λz=>npf<|z ▸ m) e⟩
  .have h1':(pn::fs)[i]?=O y:=h1';cases i with
   |zero=>
    cases h1';cases h2;exact⟨u,ru,.inr ⟨.inl S.par,_,lookP,hcl⟩⟩
   |succ i=>
    have h1':fs[i]?=O y:=h1';have h2:(cv.map O)[i]?=O (O vv):=h2;rw[ax]at h2;obtain⟨z,hz,e⟩:=bc.mp h2;cases e;have m:=ak h1';obtain⟨c,hc'⟩:=(hkeys y).mpr m;obtain⟨o,u',ho',hd,rv⟩:=hval (y,c) (mem y c hc') i vv h1' hz;exact⟨u',rv,.inr ⟨.inr<|S.isfree y m,c,lookF y c (λz=>npf<|z ▸ m) hc',o,hk _ _<|hget _ _ ho',hd⟩⟩
  .rcases look y c e with⟨rfl,rfl⟩|⟨_,e⟩
   .exact⟨_,hcl⟩
   .obtain⟨o,vv,ho',hd⟩:=hcell (y,c)<|mem y c e;exact⟨vv,o,hk _ _<|hget _ _ ho',hd⟩
  .rcases look y c e with⟨rfl,rfl⟩|⟨_,e⟩
   .exact CH (e0.hok.fresh<|bT _)
   .obtain⟨o,vv,ho',hd⟩:=hcell (y,c)<|mem y c e;exact G4 ho'
  .show(O v::cv.map O).length=(pn::fs).length;rw[aL,aL,aa,hlen]
 refine ke (hpe [] _ _ _ _ I h) (λu2 s' ⟨v2,H2,J,rv,q⟩=>?_) λe s' z=>z;have un:Un (frs jz) [] (utk H' L) H2 s.heap s'.heap:=J.jD;have hnf:∀a o,L.lookup a=O o->a∉frs jz:=λa o e hb=>by
  have:=e0.frf a hb;rw[hL' a o e]at this;cases this
 have hno:∀a o,L.lookup a=O o->H2 a=Y:=λa o e=>un.free a o (hget a o e) (G4 e) (by simp);exact⟨v2,tkd H2 L,J.os,J.bare,un.tkd hL',J.hok.tkd hno (λa o e=>un.keep a o (hget a o e) (G4 e) (hnf a o e)<|by simp),rv,q hno⟩
theorem ints_get{vs:LWz}{ns:List Int}(a:IntsAre vs ns):∀(j:Nat)(h:j<vs.length),∃tk,vs[j]=Value.int (ns.getD j 0) tk:=by
 induction a with
 |nil=>intro j h;simp at h
 |cons n t _ ih=>
  intro j h;cases j with
  |zero=>exact⟨t,Z⟩
  |succ j=>exact ih j (by simpa using h)
section
open PySem.SeqAt
open PySem.AutoSeq1 (wpAny_loadPart')
open PySem.MeetsSeq PySem.MeetsSeq2 PySem.MeetsSeq3
inductive RowsAt(h:j6):LWz->LWz->List Int->List Int->Prop
 |nil:RowsAt h [] [] [] []
 |last {p q:jF} {i1 i2:Array jJ} {ns ms:List Int}:IsTup h p i1->IsTup h q i2->IntsAre i1.toList ns->IntsAre i2.toList ms->RowsAt h [.ref p] [.ref q] ns ms
 |cons {i j:Int} {tk tj:lm} {vs ws:LWz} {ns ms:List Int}:RowsAt h vs ws ns ms->RowsAt h (.int i tk::vs) (.int j tj::ws) (i::ns) (j::ms)
end
theorem HOk.thaw{P:jN}{w:jW}{H:Hp}{h:j6}{a:jF}{ob:Obj}{u:HO}(ok:HOk P w H h)(e:H a=O (.frz ob u)):HOk P w (upd H a u) h:=λb v q=>by
 have ho:∀b y,H b=O (.own y)->(upd H a u) b=O (.own y):=λb y z=>by rw[Af (λc=>by rw[c,e]at z;cases z)];exact z
 have ht:∀b xs,H b=O (.tup xs)->(upd H a u) b=O (.tup xs):=λb xs z=>by rw[Af (λc=>by rw[c,e]at z;cases z)];exact z
 by_cases hb:b=a
 .subst hb;rw[Ae]at q;cases q;exact(show h.get? b=O ob/\ObjOk P w H h b u from ok b _ e).2.stay (λ_ _ _ r=>r) (λc r=>ho c _ r) ht
 .rw[Af hb]at q;exact(ok b v q).stay (λ_ _ _ r=>r) (λc r=>ho c _ r) ht
theorem Inv.thaw{X:Cx}{jy:PNz}{B:St}{H:Hp}{s:jH}{a:jF}{ob:Obj}{u:HO}(I:Inv X jy B H s)(e:H a=O (.frz ob u))(n:∀o v,X.H₀ a≠O (.frz o v)):Inv X jy B (upd H a u) s:=by
 have ne:∀{b:jF},H b=Y->b≠a:=λz c=>by rw[c,e]at z;cases z
 refine⟨I.ok,I.os,I.bare,⟨I.jD.keep,I.jD.slot,λb o q r hx=>?_,I.jD.there,λb xs q=>?_,λb o v q=>?_,λb ps q=>?_⟩,I.loc,I.cell,?_,λx c q=>?_,λp hp=>?_,I.hok.thaw e,I.len⟩
 .have:=I.jD.free b o q r hx;rw[Af<|ne this];exact this
 .have:=I.jD.tups b xs q;rw[Af (λc=>by rw[c,e]at this;cases this)];exact this
 .have:=I.jD.frzs b o v q;rw[Af (λc=>by rw[c]at q;exact n o v q)];exact this
 .obtain⟨more,this⟩:=I.jD.tbls b ps q;exact⟨more,by rw[Af (λc=>by rw[c,e]at this;cases this)];exact this⟩
 .rw[Af<|ne I.free];exact I.free
 .rw[Af<|ne<|I.freeC x c q];exact I.freeC x c q
 .obtain⟨p1,p2,p3⟩:=I.pin p hp;exact⟨p1,by rw[Af<|ne p2];exact p2,p3⟩
def Xu(H₀:Hp)(te:TE):TE:=λB H Q=>te B H λv H'=>∃(a:jF)(ob:Obj)(u:HO),H' a=O (.frz ob u)/\(∀o w,H₀ a≠O (.frz o w))/\Q v (upd H' a u)
theorem Qz{X:Cx}{e:j9}{te:TE}(h:PE X e te):PE X e (Xu X.H₀ te):=by
 intro jy s B H Q I q;refine thn (h jy s B H _ I q) λu s1 ⟨x,H1,I1,rx,a,ob,w,ea,n,q1⟩=>⟨x,_,I1.thaw ea n,rx,q1⟩
@[elab_as_elim] theorem nv {H:Hp} {c:jF} {o:HO} {P:Hp->Prop} (n:H c=Y) (h:∀G,Same H G->G c=O o->P G):P (upd H c o):=h _ (Same.new n) Ae
theorem fsk{N ps:LSz}{sc:kF}(a:sc.kind=.function:=by rfl)(b:sc.isCoroutine=oe:=by rfl)(c:sc.isGenerator=oe:=by rfl)(d:N.Nodup:=by decide +kernel)(e:N.take ps.length=ps:=by rfl)(f:∀x∈ps,sc.names.lookup x=O .local\/sc.names.lookup x=O .cell:=by decide +kernel)(g:∀y∈sc.names,y.2≠.free:=by decide +kernel):Al N ps sc:=⟨a,b,c,d,e,f,g⟩
section
variable{P:jN}{w:jW}{K:jX}{mg:MGz}{jD:j6}{x jC:j5}{st:j0}{f c:jF}{fd:jM}{N ps:LSz}{k:Nat}{sp:Sp}
theorem Fun.g(F:Fun K x jC st f fd)(S:Al N ps<|Ah st)(h:∀vs H Q E,sp vs H Q E->vs.length=ps.length/\∀(cdv:jJ)(A:jZ)(jz:List lO)(s:jH),Room k (A.deeper<|envOfC jC (Ah st) s.heap.objs.size f cdv) ->
  ∃t,PSs (Bx CX0 P w K mg jD N jC (Ah st) f cdv A jz s H E).nox (A9 st) t/\t { nx:=λ_ H'=>Q .non H',rt:=Q} (start N vs) H):A8 P w K mg jD CX0 (k+1) f fd ps sp:=
 F.ok S (λvs H Q E z=>(h vs H Q E z).1) λcdv A jz s H vs Q E hr z=>(h vs H Q E z).2 cdv A jz s hr
theorem Fun.gx(F:Fun K x jC st f fd)(S:Al N ps<|Ah st)(h:∀vs H Q E,sp vs H Q E->vs.length=ps.length/\∀(cdv:jJ)(A:jZ)(jz:List lO)(s:jH),Room k (A.deeper<|envOfC jC (Ah st) s.heap.objs.size f cdv) ->
  ∃t,PSs (Bx (CX1 P w) P w K mg jD N jC (Ah st) f cdv A jz s H E) (A9 st) t/\t { nx:=λ_ H'=>Q .non H',rt:=Q} (start N vs) H):A8 P w K mg jD (CX1 P w) (k+1) f fd ps sp:=
 F.okx S (λvs H Q E z=>(h vs H Q E z).1) λcdv A jz s H vs Q E hr z=>(h vs H Q E z).2 cdv A jz s hr
theorem FunD.g(F:FunD K x jC st f fd)(S:Al N ps<|Ah st)(h:∀vs H Q E,sp vs H Q E->vs.length=ps.length/\∀(cdv:jJ)(A:jZ)(jz:List lO)(s:jH),Room k (A.deeper<|envOfC jC (Ah st) s.heap.objs.size f cdv) ->
  ∃t,PSs (Bx CX0 P w K mg jD N jC (Ah st) f cdv A jz s H E).nox (A9 st) t/\t { nx:=λ_ H'=>Q .non H',rt:=Q} (start N vs) H):A8 P w K mg jD CX0 (k+1) f fd ps sp:=
 F.ok S (λvs H Q E z=>(h vs H Q E z).1) λcdv A jz s H vs Q E hr z=>(h vs H Q E z).2 cdv A jz s hr
theorem FunC.g(F:FunC K x jC st f fd c)(S:Al N ps<|Ah st)(h:∀vs H Q E,sp vs H Q E->vs.length=ps.length/\∀(A:jZ)(jz:List lO)(s:jH),Room k (A.deeper<|envOfC jC (Ah st) s.heap.objs.size f<|.ref c) ->
  ∃t,PSs (Bx CX0 P w K mg jD N jC (Ah st) f (.ref c) A jz s H E).nox (A9 st) t/\t { nx:=λ_ H'=>Q .non H',rt:=Q} (start N vs) H):A8 P w K mg jD CX0 (k+1) f fd ps sp:=
 F.ok S (λvs H Q E z=>(h vs H Q E z).1) λA jz s H vs Q E hr z=>(h vs H Q E z).2 A jz s hr
end
section
variable{X:Cx}
theorem nk(N:LSz)(h:N.Nodup:=by decide +kernel):N.Nodup:=h
theorem pgk{x:j5}{pos:Pos}(hN:X.N.Nodup)(hi:X.N[0]?=O x:=by rfl)(hx:Loc X.env.scope x:=by exact bq Z)(hf:X.fn x=nZ\/X.env.scope.names.lookup x=O .local:=by first|exact .inl Z|exact .inr Z|assumption):PG X (.Name x pos) (Og 0):=AD hN hi hx hf
theorem BU{o e:j9}{es:List j9}{to:TE}{t:TA}{apos cpos:Pos}(ho:PE X o to)(ha:PA X (e::es) t)
  (hbase:attributeBase o "append" X.env (eval o X.env)=eval o X.env:=by rfl)
  (hfew:((kr cpos<|jV (e::es) X.env).all (λx=>!x.1)&&(backToKw cpos<|keywordEach [] X.env).all (λx=>x.1.isSome)
  &&og ((e::es).length+([]:List Keyword).length+(if ([]:List Keyword).isEmpty then 0 else 1)<30))=nZ:=by rfl)
  (hline:(apos.endLine==cpos.line)=nZ:=by rfl) (hs:jV (e::es) X.env=(oe,eval e X.env)::jV es X.env:=by rfl) (hplain:(kr cpos<|jV es X.env).any (·.1)=oe:=by rfl):
  PE X (.Call (.Attribute o "append" apos) (e::es) [] cpos) (tBM X.K "list" Qt to t):=Ti bE PySem.F.slot_list_append PySem.F.type_list_append Lk ho ha hbase hfew hline hs hplain
end
structure O4 where
 a:Option lm
 b:Option lm
 c:Option lm
 d:Option lm
theorem BM{v:Nat}(h1:1<=v)(h4:v<=4):v=1\/v=2\/v=3\/v=4:=by lia
section
variable{X:Cx}
noncomputable def DL:List j9->Option (List Int)
 |[]=>O []
 |.Constant (.int i) _ _::es=>(DL es).map (i::·)
 |_=>Y
end
section
variable{prog:jN}{w:jW}{A:jZ}{E:VPz}{s:jH}{it d v:jF}{i ep:Nat}{od:Obj}{es:Array lA}
theorem Ru{Q:VPz}(hs:(d==kt)=oe)(hT:s.TypeIs (.ref d) "dict")
  (fin:Q (.ref s.heap.objs.size) { s with heap:=s.heap.push { cls:=.type "dict_values",data:=.fields #[.ref d]}}):jT (jS prog w) A (call (.builtin "dict.values") [.ref d]) Q E s:=by
 refine kT cC hT PySem.F.entry_dict_values ?_<|PySem.F.args_dict_values_1 _;refine jG ?_;unfold Builtin.Dict.noArgs;refine jG<|wpAny_notOrdered_dict hT ?_;show jT (jS prog w) _ (pure d) _ _ s;refine jL ?_;show jT (jS prog w) _ (Builtin.Dict.showsAll d >>= _) _ _ s;unfold Builtin.Dict.showsAll;have no:¬(d==kt)=nZ:=by rw[hs];exact au
 rw[jK no];exact jG<|jL<|jG<|kH<|jL ⟨_,Z,fin⟩
theorem OE{Q:VPz}(hv:s.heap.IsValuesView v d)(hd:s.heap.get? d=O od)(dd:od.data=.dict es ep)
  (fin:Q (.ref s.heap.objs.size) { s with heap:=s.heap.push { cls:=.type "dict_valueiterator",data:=.fields #[.ref d,.int 0 0,.int es.size 0,.int ep 0]}}):jT (jS prog w) A (pyIter<|.ref v) Q E s:=by
 obtain⟨ov,g1,g2,g3⟩:=id hv;refine wpAny_pyIter_slot hv.typeIs eF<|kT eF hv.typeIs PySem.F.entry_dict_values_iter ?_<|PySem.F.args_dict_values_iter_1 _;unfold Builtin.«dict_values.__iter__» Builtin.Dict_items.dictOf Builtin.Dict_items.newIterator;refine jG<|jL<|jG<|jG<|lx g1 g3 (x:=.ref d) Z<|jL ?_;refine jG<|jG<|lG hd dd<|jG<|wpAny_dictEpoch hd dd ?_;have own:Builtin.Dict_items.ownsTuple "dict_valueiterator"=oe:=by decide
 simp only[own,aS,if_false];refine kH<|jL ⟨_,Z,"dict_valueiterator",_,⟨_,aH _ Z,Z⟩,bH.lookup,?_⟩
 simpa [kD]using fin
theorem Tz{e:lA}{Q:Option jJ->jH->Prop}(hit:s.heap.IsValIter it d i es.size ep)(hod:s.heap.get? d=O od)(hdd:od.data=.dict es ep)(he:es[i]?=O e)
  (fin:∀h',h'.IsValIter it d (i+1) es.size ep->Heap.SameBut it s.heap h'->Q (O e.val) { s with heap:=h'}):jT (jS prog w) A (pyNext<|.ref it) Q E s:=by
 obtain⟨o,ho,hc,hd⟩:=id hit;obtain⟨lt,rfl⟩:=bp.mp he;unfold pyNext;refine jG (lq<|wpAny_callSpecial?_slot (name:=Str.ofString "__next__") hit.typeIs bH
  (kT bH hit.typeIs dN ?_<|dG _))
 refine jG<|jL<|jG<|jG ?_
 first|refine jG (ku hit.typeIs<|jL ?_)|refine jG<|kJ hit.typeIs<|jL ?_
 refine jG<|wpAny_fieldsOf ho hd ?_;have own:Builtin.Dict_items.ownsTuple "dict_valueiterator"=oe:=by decide
 simp -iota only[own,aS,if_false];show jT _ _ (if (Value.ref d==Value.none)=nZ then _ else _) _ _ s;rw[jK (show ¬((Value.ref d==Value.none)=nZ)from au)];refine jG<|jL<|jG<|lG hod hdd ?_;rw[jK<|by simp];refine jG<|jL<|jG<|wpAny_dictEpoch hod hdd ?_;rw[jK<|by simp];refine jL ?_;simp only[show ¬((i:Int)<0)from by lia,if_false,bV,cb lt];refine jG ?_
 first|refine jG (ku hit.typeIs<|jL ?_)|refine jG<|kJ hit.typeIs<|jL ?_
 refine jG<|lj hit.typeIs ?_;show jT _ _ (setField (.ref it) 1 (kD<|(i:Int)+1) >>= _) _ _ s;refine jG (kZ ho hd (by simp) ?_);have hit':(s.heap.update it (Obj.mapFields (·.setIfInBounds 1 (kD<|(i:Int)+1)))).IsValIter it d (i+1) es.size ep:=
  ⟨_,b9 _ ho<|Obj.isFreed_of_fields<|Obj.data_mapFields hd _,(Obj.cls_mapFields ..).trans hc,by rw[Obj.data_mapFields hd];simp[kD]⟩
 refine jG<|km ?_;refine jG (lj (s:={s with heap:=s.heap.update it (Obj.mapFields (·.setIfInBounds 1 (kD<|(i:Int)+1)))}) hit'.typeIs ?_);refine jG (lj (s:={s with heap:=s.heap.update it (Obj.mapFields (·.setIfInBounds 1 (kD<|(i:Int)+1)))}) hit'.typeIs ?_);show jT _ _ (pure es[i].val) _ _ _;exact jL<|jL ⟨_,Z,jL<|fin _ hit'<|Heap.SameBut.update ..⟩
theorem K3{Q:Option jJ->jH->Prop}(hh:A.handled=Y)(hit:s.heap.IsValIter it d i es.size ep)(hod:s.heap.get? d=O od)(hdd:od.data=.dict es ep)(he:es.size<=i)
  (fin:∀h',Heap.ExtBut it s.heap h'->Q Y { s with heap:=h'}):jT (jS prog w) A (pyNext<|.ref it) Q E s:=by
 obtain⟨o,ho,hc,hd⟩:=id hit;unfold pyNext;refine jG (lq<|wpAny_callSpecial?_slot (name:=Str.ofString "__next__") hit.typeIs bH
  (kT bH hit.typeIs dN ?_<|dG _))
 refine jG<|jL<|jG<|jG ?_
 first|refine jG (ku hit.typeIs<|jL ?_)|refine jG<|kJ hit.typeIs<|jL ?_
 refine jG<|wpAny_fieldsOf ho hd ?_;have own:Builtin.Dict_items.ownsTuple "dict_valueiterator"=oe:=by decide
 simp -iota only[own,aS,if_false];show jT _ _ (if (Value.ref d==Value.none)=nZ then _ else _) _ _ s;rw[jK (show ¬((Value.ref d==Value.none)=nZ)from au)];refine jG<|jL<|jG<|lG hod hdd ?_;rw[jK<|by simp];refine jG<|jL<|jG<|wpAny_dictEpoch hod hdd ?_;rw[jK<|by simp];refine jL ?_;simp only[show ¬((i:Int)<0)from by lia,if_false,bV,fF he];refine jG ?_
 first|refine jG (ku hit.typeIs<|jL ?_)|refine jG<|kJ hit.typeIs<|jL ?_
 show jT _ _ (setField (.ref it) 0 .none >>= _) _ _ s;refine jG (kZ ho hd (by simp) ?_);show jT _ _ (newExc (.type "StopIteration") [] >>= _) _ _ _;refine jG ?_;simp only[newExc,newTuple];refine jG (kH ?_<|by size_fits);refine jG (m:=firstArgMember _ _) (wpAny_of_eq (a:=Value.none) (by first|rfl|(simp only[firstArgMember];rfl)) ?_);refine kH ?_ (by size_fits);simp only[raiseNew];refine jG<|wpAny_handled ?_;rw[show A.in1.handled=Y from hh];refine jG<|jL<|wpAny_throw ?_;refine jG<|wpAny_isInstance (T:="StopIteration") (b:=nZ) ⟨_,aH _ Z,Z⟩ isSubtype_stop ?_;exact jL<|fin _<|((Heap.SameBut.update ..).extBut.push _).push _
theorem OD(hh:A.handled=Y)(I:jF)(hne:d≠I):Walks prog w A I [I,d] [I] es.size (λi v=>∃e,es[i]?=O e/\v=e.val) (λi h=>h.IsValIter I d i es.size ep/\∃od,h.get? d=O od/\od.data=.dict es ep) where
 sub:=λb hb=>by simp at hb;simp[hb]
 frame:=λ_ _ _ st hk=>⟨st.1.at λo e=>hk I (by simp) o e,let ⟨od,e,dd⟩:=st.2;⟨od,hk d (by simp) _ e,dd⟩⟩
 item:=λi s Q E hi st hQ=>by
  obtain⟨od,e,dd⟩:=st.2;refine Tz st.1 e dd (cb hi) λh' st' sb=>?_;exact hQ _ h' s.toks ⟨_,cb hi,Z⟩ ⟨st',od,sb.extBut d _ hne e,dd⟩ λb o hb q=>sb.extBut b o (λz=>hb<|by simp[z]) q
 done:=λs Q E st hQ=>by
  obtain⟨od,e,dd⟩:=st.2;exact K3 hh st.1 e dd (ah _) λh' eb=>hQ h' s.toks λb o hb q=>eb b o (λz=>hb<|by simp[z]) q
 self:=λ_ _ _ _ st hQ=>wpAny_pyIter_valiter st.1 hQ
end
noncomputable def QZ(v d:jF):HO:=.ext λh=>h.IsValuesView v d
def Wu(H₀:Hp)(te:TE):TE:=λB H Q=>te B H λv H'=>∃(a:jF)(u:HO),(H' a=O u\/∃ob:Obj,H' a=O (.frz ob u)/\∀o w,H₀ a≠O (.frz o w))/\Q v (upd H' a u)
theorem Wm{H:Hp}{a:jF}{u:HO}(h:H a=O u):upd H a u=H:=by
 funext b
 unfold upd;split
 .rename_i e;rw[e,h]
 .rfl
theorem NA{X:Cx}{e:j9}{te:TE}(h:PE X e te):PE X e (Wu X.H₀ te):=by
 intro jy s B H Q I q;refine thn (h jy s B H _ I q) λu s1 ⟨x,H1,I1,rx,a,w,z,q1⟩=>?_;rcases z with ea|⟨ob,ea,n⟩
 .rw[Wm ea]at q1;exact⟨x,_,I1,rx,q1⟩
 .exact⟨x,_,I1.thaw ea n,rx,q1⟩
theorem Oq{a:jF}{ob:Obj}{kvs:List<|Key×V}{g:TG}{tc:TT}{te:TE}{B:St}{H1:Hp}{acc:jF}{Qr:Hp->Prop}(Pv:Nat->LUz->St->Hp->Prop)(h0:Pv 0 [] B<|upd H1 acc<|.lst [])
  (hq:∀i xs B H,i<=kvs.length->H acc=O (.lst xs)->Pv i xs B H->H a=O (.frz ob<|.dK kvs))
  (hs:∀i p t xs B H,kvs[i]?=O p->i<kvs.length->xs.length<=i->H acc=O (.lst xs)->Pv i xs B H->H t=Y->g (.ref t) B (upd H t<|.tup [kV p.1,p.2]) λσ2 H2=>tc σ2 H2 λb Hb=>match b with
   |true=>te σ2 Hb λv H3=>fNx acc kvs.length Pv i σ2 v H3
   |false=>fSk acc kvs.length Pv i σ2 Hb)
  (hd:∀xs B H,xs.length<=kvs.length->H acc=O (.lst xs)->Pv kvs.length xs B H->Qr H):
  ∃W:Nat->Nat->St->Hp->Prop,(∃m,W 0 m B<|upd H1 acc<|.lst [])/\∀i m σ1 H2,W i m σ1 H2 ->
   ((Itm a ob).stop i H2/\Qr H2)\/((Itm a ob).go i H2/\∀x H3,(Itm a ob).yld i H2 x H3->g x σ1 H3 λσ4 H4=>tc σ4 H4 λb Hb=>match b with
    |true=>te σ4 Hb λv H5=>∃xs,H5 acc=O (.lst xs)/\xs.length<jU/\∃m',m'<m/\W (i+1) m' σ4 (upd H5 acc<|.lst<|xs++[v])
    |false=>∃m',m'<m/\W (i+1) m' σ4 Hb):=by
 refine⟨fW acc kvs.length Pv,⟨kvs.length,aU _,Z,[],ah _,Ae,h0⟩,?_⟩;rintro i m σ1 H2 ⟨hi,rfl,xs,hl,ha,hp⟩;have hsq:=hq i xs σ1 H2 hi ha hp;rcases df i kvs.length with h|h
 .refine .inr ⟨⟨kvs,kvs[i],hsq,ai h⟩,?_⟩;rintro x H3 ⟨t,z,hz,rfl,ht,rfl⟩;exact hs i z t xs σ1 _ (hz kvs hsq) h hl ha hp ht
 .have e:i=kvs.length:=cw hi h;subst e;exact .inl ⟨⟨kvs,hsq,ah _⟩,hd xs σ1 H2 hl ha hp⟩
theorem Le{P:jN}{w:jW}:∀{es:List lA}{vs:List<|Key×jJ},Pairs (AN P w) es vs->∀{kvs:List<|Key×V}{ns:List Int},KV kvs vs->kvs.map (·.2)=ns.map V.int->∀i e,es[i]?=O e->∃t,e.val=Value.int (ns.getD i 0) t
 |_,_,.nil,_,_,_,_,i,e,h=>by cases h
 |_,_,.cons (e:=e0) (kv:=kv) h1 h2 t,kvs,ns,hk,hn,i,e,h=>by
  cases hk with
  |cons hr hk=>
   cases ns with
   |nil=>cases hn
   |cons z ns=>
    have hn1:=List.cons.inj hn;cases i with
    |zero=>
     cases h;obtain⟨_,r⟩:=hr;dsimp only at hn1;rw[hn1.1]at r;obtain⟨t,r⟩:=r;exact⟨t,by rw[h2,r];rfl⟩
    |succ i=>exact Le t hk hn1.2 i e h
section
variable{X:Cx}
theorem TZ:Y3 X (λo i H Q=>∃p xs v,o=.ref p/\i=.int (-1)/\SqL X.K H p xs/\xs.getLast?=O v/\Q v H):=by
 intro jy s B H o i ov iv Q I ro ri h;obtain⟨p,xs,z,rfl,rfl,hq,he,q⟩:=h;cases ro;obtain⟨t,rfl⟩:=ri;obtain⟨its,r,pl,hz⟩:=I.list hq;have hl:=r.length;have hn:=GW;have pos:0<xs.length:=by
  cases xs with
  |nil=>cases he
  |cons x xs=>exact Nat.succ_pos _
 rw[List.getLast?_eq_getElem?]at he;obtain⟨w,ew,rw'⟩:=r.get he;refine wpAny_getItem_list_neg pl.isList (by decide) (by rw[aj];lia) (by decide) ?_ ⟨z,H,I,rw',q⟩;have hj:((-1:Int)+(its.toArray.size:Int)).toNat=xs.length-1:=by rw[aj];lia
 rw[hj]
 simpa using ew
theorem FN:MtM X "dict.values" (λx vs H Q=>∃d kvs,x=.ref d/\vs=[]/\H d=O (.dK kvs)/\∀v,H v=Y->Q (.ref v) (upd H v<|QZ v d)):=by
 intro jy s B H x xs v us Q I rx rv h;obtain⟨d,kvs,rfl,rfl,ed,q⟩:=h;cases rx;cases rv;obtain⟨z,hsys,ys,rel,o,es,ep,h1,h2,h3,h4,h5,h6⟩:=(show ObjOk X.prog X.w H s.heap d (.dK kvs)from I.hok d _ ed);refine Ru hsys ⟨o,h1,h2.1⟩ ?_;have hn:H s.heap.objs.size=Y:=I.hok.fresh<|ah _;have I2:=I.laid (a:=s.heap.objs.size) (o:=QZ s.heap.objs.size d) (t':=s.toks) (h':=s.heap.push { cls:=.type "dict_values",data:=.fields #[.ref d]}) (λb u e=>ag _ e) (ah _)
  ⟨⟨_,aH _ Z,Z,Z⟩,⟨_,aH _ Z⟩,λh1 h2 ⟨o,e,c⟩ k=>⟨o,k o e,c⟩⟩
 exact⟨.ref s.heap.objs.size,_,I2,Z,q _ hn⟩
theorem Hm:Cq X (.builtin "sum") (λxs H Q=>∃(v d:jF)(kvs:List<|Key×V)(ns:List Int),xs=[.ref v]/\H v=O (QZ v d)/\H d=O (.dK kvs)/\kvs.map (·.2)=ns.map V.int/\X.calm=nZ/\Q (.int ns.sum) H):=by
 intro jy s B H xs us Q I r h;obtain⟨v,d,kvs,ns,rfl,ev,ed,en,hc,q⟩:=h;obtain⟨u,rfl,ru⟩:=D9 r;cases ru;obtain⟨hv,_,_⟩:=(show ObjOk X.prog X.w H s.heap v (QZ v d)from I.hok v _ ev);obtain⟨z,hsys,ys,rel,o,es,ep,h1,h2,h3,h4,h5,h6⟩:=(show ObjOk X.prog X.w H s.heap d (.dK kvs)from I.hok d _ ed);have hl:es.size=kvs.length:=by rw[<-bB,h5.length];exact(Paired.length rel).symm
 have hns:ns.length=kvs.length:=by
  have:=congrArg List.length en
  simpa using this.symm
 have lt:d<s.heap.objs.size:=ay h1;refine call_sum_walkG<|OE hv h1 h3 ?_;refine⟨_,[s.heap.objs.size,d],[s.heap.objs.size],es.size,_,_,λi=>ns.getD i 0,Z,OD (A:=X.A.in1) (es:=es) (ep:=ep) (d:=d) (I.ok.hd hc) s.heap.objs.size<|aM lt,⟨⟨_,aH _ Z,Z,Z⟩,o,ag _ h1,h3⟩,λb hb=>?_,λi u ⟨e,he,hu⟩=>?_,λh' tk t' hk=>?_⟩
 .show b<(s.heap.push _).objs.size;rw[b8];simp only[aQ,aZ,or_false]at hb;rcases hb with rfl|rfl
  .exact bS _
  .exact bO lt
 .rw[hu];exact Le h5 rel en i e (by rw[dM];exact he)
 .have es':preSum (λi=>ns.getD i 0) es.size=ns.sum:=by
   have:∀n,n<=ns.length->preSum (λi=>ns.getD i 0) n=(ns.take n).sum:=λn=>by
    induction n with
    |zero=>intro _;rfl
    |succ n ih=>
     intro hn;have hg:ns[n]?=O (ns.getD n 0):=by rw[ai (by lia),bj,ai<|by lia];rfl
     rw[aN,hg,bQ];show preSum (λi=>ns.getD i 0) n+ns.getD n 0=_;rw[ih<|by lia];simp
   rw[hl,<-hns,this _ (ah _),aI]
  rw[es'];refine⟨.int _,H,I.kept (t':=tk) λb o' e=>?_,⟨t',Z⟩,q⟩;exact hk b o' (λhm=>by rw[ae.mp hm]at e;exact absurd (ay e)<|bM _)<|ag _ e
end
theorem Hu{ns:List Int}:∀n,n<=ns.length->preSum (λi=>ns.getD i 0) n=(ns.take n).sum
 |0,_=>rfl
 |n+1,hn=>by
  have hg:ns[n]?=O (ns.getD n 0):=by rw[ai (by lia),bj,ai<|by lia];rfl
  rw[aN,hg,bQ];show preSum (λi=>ns.getD i 0) n+ns.getD n 0=_;rw[Hu n<|by lia];simp
theorem Rt{prog:jN}{w:jW}{A:jZ}(hh:A.handled=Y)(I t:jF)(hne:t≠I)(items:Array jJ):Walks prog w A I [I,t] [I] items.size (λi v=>items[i]?=O v) (λi h=>IsTupIter h I t i/\IsTup h t items) where
 sub:=λb hb=>by simp at hb;simp[hb]
 frame:=λ_ _ _ st hk=>by
  obtain⟨⟨o,e,r⟩,⟨o2,e2,r2⟩⟩:=st;exact⟨⟨o,hk I (by simp) o e,r⟩,⟨o2,hk t (by simp) o2 e2,r2⟩⟩
 item:=λi s Q E hi st hQ=>by
  refine next_tuple_item st.1 st.2 (cb hi) λh' st' sb=>?_;refine hQ _ h' s.toks (cb hi) ⟨st',?_⟩ λb o hb q=>sb.extBut b o (λz=>hb<|by simp[z]) q;obtain⟨o2,e2,r2⟩:=st.2;exact⟨o2,sb.extBut t o2 hne e2,r2⟩
 done:=λs Q E st hQ=>by
  exact next_tuple_end hh st.1 st.2 (fF<|ah _) λh' eb=>hQ h' s.toks λb o hb q=>eb b o (λz=>hb<|by simp[z]) q
 self:=λ_ _ _ _ st hQ=>by
  obtain⟨⟨o,e,r⟩,_⟩:=st;exact wpAny_pyIter_tupleiter (t:=t) ⟨o,e,r⟩ hQ
section
variable{X:Cx}
theorem UI{jy:PNz}{B:St}{H:Hp}{s:jH}{A:jZ}{a:jF}{ns:List Int}(I:Inv X jy B H s)(hh:A.in1.handled=Y)(ha:H a=O (.tup<|ns.map V.int)):
  jT (jS X.prog X.w) A (call (.builtin "sum") [.ref a]) (λu s''=>(∃t,u=.int ns.sum t)/\Inv X jy B H s'') (λ_ _=>False) s:=by
 obtain⟨_,its,rv,tp⟩:=(show ObjOk X.prog X.w H s.heap a (.tup<|ns.map V.int)from I.hok _ _ ha);have hi:=FQ rv;have lt:a<s.heap.objs.size:=by obtain⟨o,e,_⟩:=id tp;exact ay e
 refine call_sum_walkG<|iter_tuple tp ?_;refine⟨_,_,_,_,_,_,λi=>ns.getD i 0,Z,Rt (A:=A.in1) hh s.heap.objs.size a (aM lt) its.toArray,⟨⟨_,aH _ Z,Z,Z⟩,?_⟩,λb hb=>?_,λi v hv=>?_,λh' tk t' hk=>?_⟩
 .obtain⟨o,e,r⟩:=tp;exact⟨o,ag _ e,r⟩
 .show b<(s.heap.push _).objs.size;rw[b8];simp only[aQ,aZ,or_false]at hb;rcases hb with rfl|rfl
  .exact bS _
  .exact bO lt
 .have hv:its[i]?=O v:=by rw[List.getElem?_toArray]at hv;exact hv
  obtain⟨lt',e⟩:=aD.mp hv;obtain⟨tk,h⟩:=L2.ints_get hi i lt';exact⟨tk,e.symm.trans h⟩
 .have hl:its.length=ns.length:=hi.length;have es':preSum (λi=>ns.getD i 0) its.toArray.size=ns.sum:=by
   rw[aj,hl,Hu _<|ah _,aI]
  refine⟨⟨t',by rw[es']⟩,I.kept (t':=tk) λb o' e=>?_⟩;exact hk b o' (λhm=>by rw[ae.mp hm]at e;exact absurd (ay e)<|bM _)<|ag _ e
variable{jy:PNz}{B:St}{H:Hp}{s:jH}{A:jZ}{D kS:jF}{vs:LWz}{e1:Nat}{kz:List Int}{f:jJ}{P:PySem.Fin->jH->Prop}{E:VPz}
theorem TK{e:Nat}{keys:Array jJ}(I:Inv X ((kS,j4 "list" keys e)::(D,j4 "list" #[] e1)::jy) B H s)(hk1:X.s₀.heap.objs.size<=kS)(hkc:∀x c,X.env.cells.lookup x=O c->c≠kS)(hkp:∀p∈X.pn++((D,j4 "list" #[] e1)::jy),p.1≠kS)
  (hD1:X.s₀.heap.objs.size<=D) (hDc:∀x c,X.env.cells.lookup x=O c->c≠D) (hDp:∀p∈X.pn++jy,p.1≠D) (hk:IntsAre keys.toList kz) (hlen:kz.length=vs.length) (h64:vs.length<64)
  (h:∀(out:LWz)(c:Nat)(s':jH),KskOut oe kz vs out->Inv X jy B H s'->s'.heap.get? D=O (j4 "list" (List.toArray out) c)->P (.done<|.ret .none) s'):
  jT (jS X.prog X.w) A (ksk_end D oe vs.toArray e1 (.ref kS) keys) P E s:=by
 have hsz:keys.size=vs.length:=by
  have h1:=hk.length;rw[bB]at h1;lia
 have hzs:(keys.zip vs.toArray).size=vs.length:=by rw[Array.size_zip,hsz,aj,eR]
 have fin:∀(st:SortSt),(arrOf st).Perm (keys.zip vs.toArray)->SortedTo (arrOf st) (arrOf st).size->failedOf st=Y->jT (jS X.prog X.w) A (ksk_tail D oe e1 (.ref kS) st) P E s:=λst hp hs hf=>by
  have out:=ksk_out (b:=oe) hk hp hs;simp only[aS,if_false]at out;have I':Inv X ((kS,j4 "list" keys.toList.toArray e)::(D,j4 "list" #[] e1)::jy) B H s:=by rw[fP];exact I
  refine RX (out:=((arrOf st).map (·.2)).toList) I' hk1 hkc hkp hD1 hDc hDp (by rw[fP]) ?_ (by rw[bB];lia) hf λc s' J e'=>h _ c s' out J e';rw[bB,Array.size_map,hp.size_eq,hzs];exact h64
 unfold ksk_end
 try dsimp only
 simp only[aS,if_false];by_cases h2:vs.toArray.size<2
 .rw[jP h2,jP h2];refine jG<|jL ?_;rw[StateT.run_pure];refine jG (jL ?_)
  try dsimp only
  refine fin _ (Array.Perm.refl _) ?_ Z;intro i j hij hj;have hj2:j<(keys.zip vs.toArray).size:=hj;rw[hzs]at hj2;rw[aj]at h2;have:i=j:=by lia
  subst this;exact aW _
 .rw[jK h2,jK h2];rw[aj]at h2;rw[ksk_kind hk (by rw[hsz];lia)];refine jG<|jL ?_;refine jG (ke (wpS_sortRuns (a₀:=keys.zip vs.toArray) (st:=SortSt.mk' oneType' (keys.zip vs.toArray) #[] 7 Y)
   (Q:=λ_ st'=>(arrOf st').Perm (keys.zip vs.toArray)/\failedOf st'=Y/\SortedTo (arrOf st') (keys.zip vs.toArray).size)
   (ksk_intKeys hk) ⟨Array.Perm.refl _,Z,Z,Z⟩ (by rw[hzs];lia) (by rw[hzs];exact h64) λst' a1 a2 a3=>⟨a1,a2,a3⟩) ?_ λ_ _ e=>e)
  rintro⟨⟨⟩,st'⟩ s' ⟨rfl,hp,hf,hs⟩
  try dsimp only
  exact fin st' hp (by rw[hp.size_eq];exact hs) hf
theorem RY(I:Inv X ((kS,j4 "list" #[] 0)::(D,j4 "list" #[] e1)::jy) B H s)(hk1:X.s₀.heap.objs.size<=kS)(hkc:∀x c,X.env.cells.lookup x=O c->c≠kS)(hkp:∀p∈X.pn++((D,j4 "list" #[] e1)::jy),p.1≠kS)
  (hD1:X.s₀.heap.objs.size<=D) (hDc:∀x c,X.env.cells.lookup x=O c->c≠D) (hDp:∀p∈X.pn++jy,p.1≠D) (hl:kz.length=vs.length) (h64:vs.length<64)
  (hcall:∀(i:Nat)(v:jJ)(jy':PNz)(s':jH),vs[i]?=O v->Inv X jy' B H s'->jT (jS X.prog X.w) A (call f [v]) (λu s''=>(∃t,u=.int (kz.getD i 0) t)/\Inv X jy' B H s'') (λ_ _=>False) s')
  (h:∀(out:LWz)(c:Nat)(s':jH),KskOut oe kz vs out->Inv X jy B H s'->s'.heap.get? D=O (j4 "list" (List.toArray out) c)->P (.done<|.ret .none) s'):
  jT (jS X.prog X.w) A (ksk_rest D f oe vs.toArray e1<|.ref kS) P E s:=by
 unfold ksk_rest;refine jG<|wpAny_rule ?_
 first
  |rw[List.forIn_toArray]
  | (rw[<-Array.forIn_toList];simp only[List.toList_toArray])
  |rw[<-Array.forIn_toList]
 refine jG<|ksk_fold (λi s'=>∃e ks,IntsAre ks (kz.take i)/\Inv X ((kS,j4 "list" ks.toArray e)::(D,j4 "list" #[] e1)::jy) B H s') vs 0 s ⟨0,[],.nil,I⟩ (λj x s' hx hJ=>?_) λs' hJ=>?_
 .obtain⟨e,ks,hk,J⟩:=hJ;rw[Nat.zero_add]at hk |-;have hj:j<kz.length:=by rw[hl];exact(aD.mp hx).1
  have hz:kz[j]?=O (kz.getD j 0):=by rw[bj,ai hj];rfl
  refine jG<|lq<|ke (hcall j x _ s' hx J) (λu s'' hu=>?_) λ_ _ hF=>hF.elim;obtain⟨⟨t,rfl⟩,J'⟩:=hu;have ek:=Gi J' aE;obtain⟨c,J2⟩:=J'.repin (g:=(·.push (Value.int (kz.getD j 0) t))) hk1 hkc hkp;have kl:=hk.length;rw[bZ]at kl
  try dsimp only
  refine jG (kO ek Z ?_ (by rw[aj,ka];lia)<|aV (dH<|Array.size_push ..) (by rw[aj,ka];lia));refine jL ⟨Z,c,ks++[Value.int (kz.getD j 0) t],?_,?_⟩
  .rw[aN,hz];exact ksk_snoc hk
  .have ea:ks.toArray.push (Value.int (kz.getD j 0) t)=(ks++[Value.int (kz.getD j 0) t]).toArray:=by simp
   rw[<-ea];exact J2
 .obtain⟨e,ks,hk,J⟩:=hJ;rw[Nat.zero_add,<-hl,aI]at hk
  try dsimp only
  refine jG<|listItems_at (Gi J aE) Z ?_;exact TK J hk1 hkc hkp hD1 hDc hDp (by simpa using hk) hl h64 h
theorem Ps{n:Nat}{b:String}(I:Inv X jy B H s)(ho:s.heap.get? D=O (j4 "list" vs.toArray n))(hD:H D=Y)(hD1:X.s₀.heap.objs.size<=D)(hDL:D≠X.env.locals)(hDf:D∉X.fs)(hDc:∀x c,X.env.cells.lookup x=O c->c≠D)(hDp:∀p∈X.pn++jy,p.1≠D)
  (hl:kz.length=vs.length) (h64:vs.length<64)
  (hcall:∀(i:Nat)(v:jJ)(jy':PNz)(s':jH),vs[i]?=O v->Inv X jy' B H s'->jT (jS X.prog X.w) A (call (.builtin b) [v]) (λu s''=>(∃t,u=.int (kz.getD i 0) t)/\Inv X jy' B H s'') (λ_ _=>False) s')
  (h:∀(out:LWz)(c:Nat)(s':jH),KskOut oe kz vs out->Inv X jy B H s'->s'.heap.get? D=O (j4 "list" (List.toArray out) c)->P (.done<|.ret .none) s'):
  jT (jS X.prog X.w) A (Builtin.«list.sort» ⟨[.ref D],[(Str.ofString "key",.builtin b)]⟩) P E s:=by
 rw[ksk_t4];unfold ksk_tree;refine jG<|listItems_at ho Z ?_;refine jG (kO ho Z ?_ (by rw[aj,ka];lia)<|aU _);obtain⟨e1,ho1⟩:∃e1,(s.heap.update D<|Obj.mapSeq λ_=>(#[]:Array jJ)).get? D=O (j4 "list" #[] e1):=⟨_,get?_update_seq ho λ_=>#[]⟩;have I1:Inv X jy B H { s with heap:=s.heap.update D<|Obj.mapSeq λ_=>(#[]:Array jJ),toks:=s.toks}:=I.turned (it:=D) (λb o nb q=>by rw[bX _ _ _ _ nb];exact q) hD hDL (.inr hD1) hDc hDp;have I1:Inv X ((D,j4 "list" #[] e1)::jy) B H { s with heap:=s.heap.update D<|Obj.mapSeq λ_=>(#[]:Array jJ)}:=I1.pins_of λp hp=>by
  rcases aQ.mp hp with rfl|hp
  .exact⟨ho1,hD,hDL,hDf,λv z=>nomatch z⟩
  .exact I1.pin p (aB _ hp)
 refine jG<|lF ho1 Z ?_;refine jG (wpAny_newTuple ?_ (by show vs.length<=_;rw[ka];lia));refine jG<|lI ?_<|aU _;refine km ?_;have I2:=(I1.kept (t':=s.toks) (h':=(s.heap.update D<|Obj.mapSeq λ_=>(#[]:Array jJ)).push<|j4 "tuple" vs.toArray 0) λb u q=>ag _ q);have ap:=I2.apart (D:=((s.heap.update D<|Obj.mapSeq λ_=>(#[]:Array jJ)).push<|j4 "tuple" vs.toArray 0).objs.size)<|ah _;have I3:=I2.kept (t':=s.toks) (h':=((s.heap.update D<|Obj.mapSeq λ_=>(#[]:Array jJ)).push<|j4 "tuple" vs.toArray 0).push<|j4 "list" #[] 0) λb u q=>ag _ q;have hk0:(((s.heap.update D<|Obj.mapSeq λ_=>(#[]:Array jJ)).push<|j4 "tuple" vs.toArray 0).push<|j4 "list" #[] 0).get? ((s.heap.update D<|Obj.mapSeq λ_=>(#[]:Array jJ)).push<|j4 "tuple" vs.toArray 0).objs.size=O (j4 "list" #[] 0):=aH _ Z;show jT (jS X.prog X.w) A (ksk_rest D (.builtin b) oe vs.toArray e1<|.ref ((s.heap.update D<|Obj.mapSeq λ_=>(#[]:Array jJ)).push<|j4 "tuple" vs.toArray 0).objs.size) P E { s with heap:=((s.heap.update D<|Obj.mapSeq λ_=>(#[]:Array jJ)).push<|j4 "tuple" vs.toArray 0).push<|j4 "list" #[] 0};obtain⟨a1,a2,a3,a4,a5,a6⟩:=ap;refine RY (I3.pins_of λp hp=>?_) a2 a5 a6 hD1 hDc hDp hl h64 hcall h;rcases aQ.mp hp with rfl|hp
 .exact⟨hk0,a1,a3,a4,λv z=>nomatch z⟩
 .exact I3.pin p (aB _ hp)
def S8(K:jX)(calm:Bool)(ta:TA):TE:=λB H Q=>ta B H λxs H1=>∃(p:jF)(ts:List<|jF×List Int),xs=[.ref p]/\SqL K H1 p (ts.map λt=>V.ref t.1)/\ts.length<64/\calm=nZ/\(∀t∈ts,H1 t.1=O (.tup<|t.2.map V.int)) /\
 ∀l (ts':List<|jF×List Int),H1 l=Y->ts'.Perm ts->(ts'.map λt=>t.2.sum).Pairwise (·<=·)->Q (.ref l) (upd H1 l<|.lst<|ts'.map λt=>V.ref t.1)
theorem Sw{ts:List<|jF×List Int}{ps:List<|Int×jJ}(h:ps.Perm<|(ts.map λt=>t.2.sum).zip<|ts.map λt=>Value.ref t.1):∃ts':List<|jF×List Int,ts'.Perm ts/\ps=ts'.map λt=>(t.2.sum,Value.ref t.1):=by
 have e:(ts.map λt=>t.2.sum).zip (ts.map λt=>Value.ref t.1)=ts.map λt=>(t.2.sum,Value.ref t.1):=by
  clear h
  induction ts with
  |nil=>rfl
  |cons t r ih=>rw[aR,aR,List.zip_cons_cons,ih];rfl
 exact Tc h ts e
theorem Pc{e:j9}{p kp q pos:Pos}{ta:TA}(hg:Gl X "sorted")(hm:X.mg "sorted"=Y)(hg2:Gl X "sum")(hm2:X.mg "sum"=Y)(ha:PA X [e] ta)
  (he:kr pos (jV [e] X.env)=(oe,eval e X.env)::kr pos (jV [] X.env):=by rfl) (hn:(kr pos<|jV [e] X.env).any (·.1)=oe:=by rfl):
  PE X (.Call (.Name "sorted" p) [e] [⟨O "key",.Name "sum" q,kp⟩] pos) (S8 X.K X.calm ta):=by
 intro jy s B H Q I h;refine ki (Eh I hg hm (by rfl) ?_);refine PyProof.Rows.callWith_kw (thn (ha pos jy s B H _ I h) λus s2 ⟨vs,H2,I2,r1,q2⟩=>?_) he hn;refine PyProof.Rows.kws_cons (Eh (u:=.builtin "sum") I2 hg2 hm2 (by rfl)<|PyProof.Rows.kws_nil ?_);obtain⟨l,ts,rfl,hp,h64,hc,ht,q⟩:=q2;obtain⟨u,rfl,ru⟩:=D9 r1;cases ru;obtain⟨its,rv,pl,hz⟩:=I2.list hp;have hits:its=ts.map λt=>Value.ref t.1:=by
  have:=GH (ts:=ts.map (·.1)) (its:=its) (by rw[aA];exact rv);rw[this,aA];rfl
 have hlen:its.length=ts.length:=by rw[hits,aa]
 show jT (jS X.prog X.w) X.A (call (.builtin "sorted") [.ref l] [(Str.ofString "key",.builtin "sum")]) _ _ s2;refine call_function_entry_kw kind_sorted plain_sorted entry_sorted (ksk_s1 _ _) ?_;unfold Builtin.«sorted»;refine jG (m:=checkCount "sorted" 1 1 _)<|jL ?_;refine jG (collect_list pl.isList ?_ (by rw[ka];lia));refine jG (lI ?_ (by rw[ka];lia));have hsz:((s2.heap.push<|j4 "list" #[] 0).update s2.heap.objs.size (Obj.mapSeq (·++its.toArray))).objs.size=s2.heap.objs.size+1:=by
  rw[dD,size_push']
 have hoL:(((s2.heap.push<|j4 "list" #[] 0).update s2.heap.objs.size (Obj.mapSeq (·++its.toArray))).push<|j4 "list" its.toArray 0).get? (s2.heap.objs.size+1)=O (j4 "list" its.toArray 0):=by
  rw[<-hsz];exact aH _ Z
 have keep:∀b o,s2.heap.get? b=O o->(((s2.heap.push<|j4 "list" #[] 0).update s2.heap.objs.size (Obj.mapSeq (·++its.toArray))).push<|j4 "list" its.toArray 0).get? b=O o:=λb o q=>by
  have hlt:b<s2.heap.objs.size:=ay q;rw[cy _ _ _ (by rw[hsz];exact aM<|bO hlt),bX _ _ _ _<|aM hlt,cy _ _ _<|aM hlt];exact q
 obtain⟨a1,a2,a3,a4,a5,a6⟩:=I2.apart (D:=s2.heap.objs.size+1)<|bT _;have I3:Inv X jy B H2 { s2 with heap:=((s2.heap.push<|j4 "list" #[] 0).update s2.heap.objs.size (Obj.mapSeq (·++its.toArray))).push<|j4 "list" its.toArray 0}:=I2.kept (t':=s2.toks) keep;show jT _ _ _ _ _ { s2 with heap:=((s2.heap.push<|j4 "list" #[] 0).update s2.heap.objs.size (Obj.mapSeq (·++its.toArray))).push<|j4 "list" its.toArray 0};rw[hsz];refine jG<|km<|wpAny_call_entry_kw slot_list_sort ⟨_,hoL,Z⟩ entry_list_sort ?body<|ksk_l1 _ _
 case body=>
  refine Ps (kz:=ts.map λt=>t.2.sum) I3 hoL a1 a2 a3 a4 a5 a6 (by rw[aa,hlen]) (by lia) (λi v jy' s' hv J=>?_) λout c s' ko J eD=>?_
  .rw[hits,ax]at hv;obtain⟨t0,ht0,rfl⟩:=bc.mp hv;have e0:(ts.map λt=>t.2.sum).getD i 0=t0.2.sum:=by rw[bj,ax,ht0];rfl
   rw[e0];exact UI J (I.ok.hd hc)<|ht t0<|ak ht0
  .refine⟨_,Z,jL ⟨_,Z,?_⟩⟩;obtain⟨ps,p1,rfl,p3⟩:=ko;rw[hits]at p1;obtain⟨ts',pt,rfl⟩:=Sw p1;have eo:(ts'.map λt=>(t.2.sum,Value.ref t.1)).map Prod.snd=ts'.map λt=>Value.ref t.1:=by rw[aA];rfl
   rw[eo]at eD;refine⟨.ref<|s2.heap.objs.size+1,_,J.track (o:=.lst<|ts'.map λt=>V.ref t.1) a1 a2 a3 a5 a6 ⟨?_,_,c,?_,eD⟩,Z,q _ ts' a1 pt ?_⟩
   .rw[aa,pt.length_eq,ka];lia
   .have:=FK (ts'.map (·.1));rw[aA,aA]at this;exact this
   .rw[eJ]at p3 |-;exact p3.imp λ{a b} h=>by simpa using h
end
noncomputable def VP(pl:Array Nat)(j:Nat):SetTable.Slot:=if pl[SetTable.below pl j]?==O j then .live (SetTable.below pl j)else .empty
theorem Yr:∀a j:Fin 8,VP #[a.val] j.val=if j=a then .live 0 else .empty:=by decide +kernel
theorem V0:∀a b j:Fin 8,a<b->VP #[a.val,b.val] j.val=if j=a then .live 0 else if j=b then .live 1 else .empty:=by decide +kernel
end L2
abbrev TKz:=lm×lm×lm×lm×lm×lm×lm×lm×lm×lm×lm
namespace K43
open PySem.W
open PySem L2 GB
noncomputable abbrev lX:List Str:=["panel","block"]
noncomputable abbrev lY:List Str:=["thing"]
noncomputable abbrev lZ:List Str:=["self"]
noncomputable abbrev l9:List Str:=["width","height"]
noncomputable abbrev ma:List Str:=["line","panes","side"]
noncomputable abbrev me:List Str:=["some"]
noncomputable abbrev mf:List Str:=["length"]
noncomputable abbrev mh:List Str:=["top","left","bottom","right","begin"]
noncomputable abbrev mi:List Str:=["_law_number_here"]
noncomputable abbrev mj:List Str:=["one","other"]
noncomputable abbrev mm:List Str:=["sheet","some"]
noncomputable abbrev mn:List Str:=["self","at","first","other"]
noncomputable abbrev mq:List Str:=["piece","word","at"]
noncomputable abbrev mt:List Str:=["panel","block","line"]
noncomputable abbrev mv:List Str:=["self","width","height","panes"]
noncomputable abbrev mw:List Str:=["panel"]
noncomputable abbrev my:List Str:=["lines","length"]
noncomputable abbrev mz:List Str:=["by_lines","lines"]
noncomputable abbrev mB:List Str:=["strips","parts","thick"]
noncomputable abbrev mC:List Str:=["strips","size","lines","number"]
noncomputable abbrev mD:List Str:=["strips","panes","size","lines"]
noncomputable abbrev mE:List Str:=["self","mark"]
noncomputable abbrev mF:List Str:=["strips","parts","thick","common","number"]
noncomputable abbrev mG:List Str:=["strips","panes","parts","thick","common"]
noncomputable abbrev mH:List Str:=["_law_panel"]
noncomputable abbrev mI:List Str:=["self","row","column"]
noncomputable abbrev mJ:List Str:=["top","left","bottom","right"]
noncomputable abbrev mK:List Str:=["line","pane","side"]
noncomputable abbrev mL:List Str:=["block","panes","side"]
noncomputable abbrev mM:List Str:=["word","row","left","right","line"]
noncomputable abbrev mO:List Str:=["lead","other"]
noncomputable abbrev mP:List Str:=["panes","length","thick"]
noncomputable abbrev mQ:List Str:=["_law_cells","_law_width","_law_height"]
noncomputable abbrev mR:List Str:=["_law_told","_law_top","_law_left","_law_bottom","_law_right"]
noncomputable abbrev mS:List Str:=["_law_top","_law_left","_law_bottom","_law_right","_law_down","_law_more_here"]
noncomputable abbrev mT:List Str:=["_law_top","_law_left","_law_bottom","_law_right"]
noncomputable abbrev mU:List Str:=["rectangle"]
noncomputable abbrev mV:List Str:=["word","at","first","other"]
noncomputable abbrev mW:List Str:=["pane","line","side"]
noncomputable abbrev mY:List Str:=["pane","block"]
noncomputable abbrev mZ:List Str:=["places","stops"]
noncomputable abbrev m6:List Str:=["panel","block","levels"]
noncomputable abbrev m7:List Str:=["self","room","breaks","leads"]
noncomputable abbrev m8:List Str:=["self","side"]
noncomputable abbrev m9:List Str:=["_law_script","_law_k"]
noncomputable abbrev nh:List Str:=["_law_number_here","_law_by"]
noncomputable abbrev ni:List Str:=["firsts","later","common","lines"]
noncomputable abbrev nj:List Str:=["longest"]
noncomputable abbrev nA:List Str:=["_law_script","_law_at_here","_law_many"]
noncomputable abbrev nB:List Str:=["_law_script"]
noncomputable abbrev nC:List Str:=["panes","sheet"]
noncomputable abbrev nD:List Str:=["by_square","sheet"]
noncomputable abbrev nE:List Str:=["block","some"]
noncomputable abbrev nG:List Str:=["pane","mark"]
noncomputable abbrev nH:List Str:=["sheet","entry_at"]
noncomputable abbrev nJ:List Str:=["rows","some"]
noncomputable abbrev nK:List Str:=["panel","room"]
noncomputable abbrev nL:List Str:=["counts","columns","rows"]
noncomputable abbrev nM:List Str:=["counts","width","height"]
noncomputable abbrev nO:List Str:=["by_lines","strips_by_lines"]
noncomputable abbrev nP:List Str:=["others","many","lines"]
noncomputable abbrev nQ:List Str:=["strips","length","thick"]
noncomputable abbrev nR:List Str:=["strips","width","height","number"]
noncomputable abbrev nU:List Str:=["panes","begin","part"]
noncomputable abbrev nV:List Str:=["width","height","number"]
noncomputable def top(i:Nat):j0:=lW.main.body.getD i<|.Pass ⟨0,0,0,0⟩
noncomputable abbrev D3:j0:=Bj (top 3) 0
noncomputable abbrev DY:j0:=Bj (top 9) 0
noncomputable abbrev FE:j0:=top 14
noncomputable abbrev GD:j0:=top 15
noncomputable abbrev CN:j0:=top 16
noncomputable abbrev IW:j0:=top 17
noncomputable abbrev DT:j0:=top 18
noncomputable abbrev Dw:j0:=top 19
noncomputable abbrev Dx:j0:=top 20
noncomputable abbrev BP:j0:=top 21
noncomputable abbrev Cw:j0:=top 22
noncomputable abbrev DZ:j0:=Bj (top 23) 0
noncomputable abbrev D0:j0:=Bj (top 23) 1
noncomputable abbrev Cz:j0:=Bj (top 23) 2
noncomputable abbrev CS:j0:=Bj (top 23) 3
noncomputable abbrev Mo:j0:=top 27
noncomputable abbrev FF:j0:=top 28
noncomputable abbrev Dy:j0:=top 29
noncomputable abbrev F9:j0:=top 30
noncomputable abbrev Dt:j0:=top 31
noncomputable abbrev CO:j0:=top 32
noncomputable abbrev Cu:j0:=top 33
noncomputable abbrev Cy:j0:=top 36
noncomputable abbrev CK:j0:=top 37
noncomputable abbrev Cv:j0:=top 38
noncomputable abbrev BC:j0:=top 39
noncomputable abbrev Mn:j0:=top 40
noncomputable abbrev B2:j0:=Bj (top 46) 0
noncomputable abbrev CQ:j0:=Bj (top 47) 0
noncomputable abbrev Ea:j0:=Bj (top 48) 0
noncomputable abbrev FG:j0:=top 52
noncomputable abbrev EG:j0:=top 53
noncomputable abbrev DV:j0:=top 54
noncomputable abbrev Dv:j0:=top 56
noncomputable abbrev Dr:j0:=top 57
noncomputable abbrev OW:j0:=top 61
noncomputable abbrev Ce:j0:=top 62
noncomputable abbrev Do:j0:=top 63
noncomputable abbrev Du:j0:=top 64
noncomputable abbrev Cr:j0:=top 65
noncomputable abbrev Mm:j0:=top 66
noncomputable abbrev GC:j0:=top 67
noncomputable abbrev OV:j0:=top 68
noncomputable abbrev EJ:j0:=top 71
noncomputable abbrev Bt:j0:=top 72
noncomputable abbrev Dq:j0:=top 73
noncomputable abbrev EK:j0:=top 74
noncomputable abbrev DU:j0:=top 75
noncomputable abbrev Cd:j0:=top 76
noncomputable abbrev GA:j0:=top 77
noncomputable abbrev EL:j0:=top 79
noncomputable abbrev Ct:j0:=top 80
noncomputable abbrev EI:j0:=top 81
noncomputable abbrev Cs:j0:=top 82
noncomputable abbrev CL:j0:=top 83
noncomputable abbrev Cc:j0:=top 84
noncomputable abbrev DW:j0:=top 85
noncomputable abbrev Dp:j0:=top 86
noncomputable abbrev CM:j0:=top 87
noncomputable abbrev F7:j0:=top 88
noncomputable abbrev FA:j0:=top 89
noncomputable abbrev FC:j0:=top 90
noncomputable abbrev FD:j0:=top 91
noncomputable abbrev F8:j0:=top 92
noncomputable abbrev Bp:j0:=top 93
noncomputable abbrev BB:j0:=top 94
noncomputable abbrev EH:j0:=top 95
noncomputable abbrev GF:j0:=top 97
noncomputable abbrev EM:j0:=top 98
noncomputable abbrev BR:j0:=top 99
noncomputable abbrev EN:j0:=top 100
noncomputable abbrev Be:j0:=top 101
noncomputable abbrev BQ:j0:=top 102
noncomputable abbrev Dz:j0:=top 103
noncomputable abbrev AR:j0:=top 104
noncomputable abbrev DX:j0:=top 105
noncomputable abbrev CP:j0:=top 106
noncomputable abbrev Et:j0:=top 107
theorem nw{H:Hp}{c:jF}(o:HO)(n:H c=Y):∃G,upd H c o=G/\Same H G/\G c=O o:=⟨_,Z,Same.new n,Ae⟩
noncomputable def DS:V->Bool
 |.int _=>nZ
 |_=>oe
noncomputable def Ny:V->Bool
 |.int i=>og (1<=i)&&og (i<=12)
 |_=>oe
noncomputable def Hq:LUz->Bool
 |[.int a,.int b,.int c,.int d]=>og (0<=a)&&og (a<c)&&(og (0<=b)&&og (b<d))
 |_=>oe
def Ty(H:Hp)(v:V):Prop:=∃T,tyS H v=O T
theorem S4{H H':Hp}(s:Same H H'){v:V}{T:String}(h:tyS H v=O T):tyS H' v=O T:=by
 cases v with
 |ref a=>
  have h:tyO (H a)=O T:=h;show tyO (H' a)=O T;cases e:H a with
  |none=>rw[e]at h;cases h
  |some o=>rw[e]at h;rw[s a o e];exact h
 |_=>exact h
theorem Ty.same{H H':Hp}(s:Same H H'){v:V}(h:Ty H v):Ty H' v:=let ⟨T,e⟩:=h;⟨T,S4 s e⟩
theorem Nm{H:Hp}{v:V}{T:String}(h:tyS H v=O T):(isB T "int"=nZ->(!isB T "bool")=DS v)/\(isB T "int"=oe->oe=DS v):=by
 cases v with
 |non=>cases h;exact⟨λz=>absurd z (by decide),λ_=>rfl⟩
 |bl b=>cases h;exact⟨λ_=>by show(!isB "bool" "bool")=oe;decide,λz=>absurd z<|by decide⟩
 |int i=>cases h;exact⟨λ_=>by show(!isB "int" "bool")=nZ;decide,λz=>absurd z<|by decide⟩
 |str x=>cases h;exact⟨λz=>absurd z (by decide),λ_=>rfl⟩
 |byt b=>cases h
 |flt b=>cases h
 |ty n=>cases h
 |ref a=>
  have key:T="list"\/T="tuple"\/T="dict":=by
   have h:tyO (H a)=O T:=h;cases e:H a with
   |none=>rw[e]at h;cases h
   |some o=>
    rw[e]at h;cases o with
    |frz _ o=>cases o<;>cases h;simp
    |_=>cases h<;>simp
  rcases key with rfl|rfl|rfl<;>exact⟨λz=>absurd z (by decide),λ_=>rfl⟩
theorem Wo{H:Hp}{a:jF}{xs:LUz}(h:H a=O (.tup xs)):tyS H (.ref a)=O "tuple":=by
 show tyO (H a)=O "tuple";rw[h];rfl
noncomputable abbrev BM(a b c d:Int):LUz:=[.int a,.int b,.int c,.int d]
noncomputable def MJ(a0 a1 a2 a3 o0 o1 o2 o3:Int):Bool:=og (o0<=a0)&&og (o1<=a1)&&(og (a2<=o2)&&og (a3<=o3))
def At(H:Hp)(ts:List<|jF×Rc):Prop:=∀t∈ts,H t.1=O (.tup<|BM t.2.t t.2.l t.2.b t.2.r)
theorem At.same{H H':Hp}{ts:List<|jF×Rc}(a:At H ts)(s:Same H H'):At H' ts:=λt h=>s _ _<|a t h
noncomputable abbrev A1{α:Type}(ts:List<|jF×α):LUz:=ts.map λt=>V.ref t.1
noncomputable abbrev rcs(ts:List<|jF×Rc):List Rc:=ts.map (·.2)
theorem DG(us:List<|jF×Rc)(x:jF×Rc):A1 (us++[x])=A1 us++[V.ref x.1]:=by simp
theorem EQ(us:List<|jF×Rc)(x:jF×Rc):rcs (us++[x])=rcs us++[x.2]:=by simp
theorem AZ{α:Type}{ts:List<|jF×α}{i:Nat}{x:V}(h:(A1 ts)[i]?=O x):∃t,ts[i]?=O t/\x=.ref t.1:=by
 rw[ax]at h;cases e:ts[i]? with
 |none=>rw[e]at h;cases h
 |some t=>rw[e]at h;exact⟨t,Z,(Option.some.inj h).symm⟩
noncomputable def FR(w h:Int)(ls ld:jF):LFz:=Bl "by_square" (.ref ld)<|Bl "sorted_panes" (.ref ls)<|Bl "height" (.int h)<|Bl "width" (.int w) []
theorem BI(w h:Int)(ls ld:jF):(FR w h ls ld).lookup ("width":j5)=O (.int w):=by
 unfold FR;rw[AC,jK (by decide +kernel),AC,jK (by decide +kernel),AC,jK (by decide +kernel),AC,jP Z]
theorem C6(w h:Int)(ls ld:jF):(FR w h ls ld).lookup ("height":j5)=O (.int h):=by
 unfold FR;rw[AC,jK (by decide +kernel),AC,jK (by decide +kernel),AC,jP Z]
theorem Ub(w h:Int)(ls ld:jF):(FR w h ls ld).lookup ("sorted_panes":j5)=O (.ref ls):=by
 unfold FR;rw[AC,jK (by decide +kernel),AC,jP Z]
theorem WU(w h:Int)(ls ld:jF):(FR w h ls ld).lookup ("by_square":j5)=O (.ref ld):=by
 unfold FR;rw[AC,jP Z]
theorem MP(w h:Int)(ls ld:jF){m:j5}(h1:¬m="by_square")(h2:¬m="sorted_panes")(h3:¬m="height")(h4:¬m="width"):(FR w h ls ld).lookup m=Y:=by
 unfold FR;rw[AC,jK h1,AC,jK h2,AC,jK h3,AC,jK h4];rfl
noncomputable abbrev sqK(r c:Int):List Key:=[Sum.inl r,Sum.inl c]
theorem PR{r c r' c':Int}(h:sqK r c=sqK r' c'):r=r'/\c=c':=by
 injection h with h1 h2;injection h2 with h2 _;exact⟨Sum.inl.inj h1,Sum.inl.inj h2⟩
structure PanelAt(C:jF)(H:Hp)(a:jF)(w h:Int)(ts:List<|jF×Rc)(dx ls ld:jF)(kvs:LKz):Prop where
 ob:H a=O (.ins C dx<|FR w h ls ld)
 lst:H ls=O (.lst<|A1 ts)
 dic:H ld=O (.dT kvs)
 ats:At H ts
 til:Tiles w h<|rcs ts
 few:ts.length<=52
 srt:Srt<|rcs ts
 look:∀r c,0<=r->r<h->0<=c->c<w->∃t∈ts,Bo kvs (sqK r c)=O (.ref t.1)/\t.2.has r c
 sw:1<=w/\w<=12
 sh:1<=h/\h<=12
theorem PanelAt.same{C:jF}{H H':Hp}{a:jF}{w h:Int}{ts:List<|jF×Rc}{dx ls ld:jF}{kvs:LKz}(p:PanelAt C H a w h ts dx ls ld kvs)(s:Same H H'):PanelAt C H' a w h ts dx ls ld kvs:=
 ⟨s _ _ p.ob,s _ _ p.lst,s _ _ p.dic,p.ats.same s,p.til,p.few,p.srt,p.look,p.sw,p.sh⟩
def E7:Sp:=λvs H Q _=>∃v,vs=[v]/\Ty H v/\Q (.bl<|DS v) H
def PY:Sp:=λvs H Q _=>∃v,vs=[v]/\Ty H v/\Q (.bl<|Ny v) H
def Mh:Sp:=λvs H Q _=>∃v,vs=[v]/\((∃a xs,v=.ref a/\H a=O (.tup xs)/\xs.length<=100/\(∀x∈xs,Ty H x)/\∀H',Same H H'->Q (.bl<|Hq xs) H')\/∃T,tyS H v=O T/\T≠"tuple"/\Q (.bl oe) H)
def DD:Sp:=λvs H Q _=>∃a b a0 a1 a2 a3 o0 o1 o2 o3,vs=[.ref a,.ref b]/\H a=O (.tup<|BM a0 a1 a2 a3)/\H b=O (.tup<|BM o0 o1 o2 o3)/\Q (.bl<|MJ a0 a1 a2 a3 o0 o1 o2 o3) H
inductive HL(vs:LUz)(H:Hp)(Q:VK)(E:XK):Prop
 |mk (a:jF) (p:Rc) (h0:vs=[.ref a]) (h1:H a=O (.tup<|BM p.t p.l p.b p.r)) (h2:0<=p.t) (h3:p.t<=p.b) (h4:p.b<=12) (h5:0<=p.l) (h6:p.l<=p.r) (h7:p.r<=12) (h8:∀(l:jF)(sq:List<|jF×(Int×Int))(H':Hp),Same H H'->H l=Y->H' l=O (.lst<|sq.map λs=>V.ref s.1)->(∀s∈sq,H' s.1=O (.tup [.int s.2.1,.int s.2.2]))->sq.map (·.2)=sqs p->Q (.ref l) H'):HL vs H Q E
def F2:Sp:=λvs H Q E=>HL vs H Q E
inductive Ey(vs:LUz)(H:Hp)(Q:VK)(E:XK):Prop
 |mk (w h:Int) (h0:vs=[.int w,.int h]) (h1:(1<=w/\w<=12)) (h2:(1<=h/\h<=12)) (h3:∀H',Same H H'->Q .non H'):Ey vs H Q E
def ED:Sp:=λvs H Q E=>Ey vs H Q E
inductive Ez(K:jX)(vs:LUz)(H:Hp)(Q:VK)(E:XK):Prop
 |mk (l sh:jF) (w h:Int) (ts:List<|jF×Rc) (h0:vs=[.ref l,.ref sh]) (h1:SqL K H l<|A1 ts) (h2:At H ts) (h3:H sh=O (.tup<|BM 0 0 h w)) (h4:(∀p∈rcs ts,p.In w h)) (h5:ts.length<=52) (h6:∀H',Same H H'->Q .non H'):Ez K vs H Q E
def EE(K:jX):Sp:=λvs H Q E=>Ez K vs H Q E
inductive F0(K:jX)(vs:LUz)(H:Hp)(Q:VK)(E:XK):Prop
 |mk (l:jF) (w h:Int) (ts:List<|jF×Rc) (h0:vs=[.ref l]) (h1:SqL K H l<|A1 ts) (h2:At H ts) (h3:(∀p∈rcs ts,p.In w h)) (h4:(rcs ts).Pairwise Apart) (h5:ts.length<=52) (h6:w<=12) (h7:h<=12) (h8:∀(d:jF)(kvs:LKz)(H':Hp),Same H H'->H d=Y->H' d=O (.dT kvs)->(∀t∈ts,∀r c,t.2.has r c->Bo kvs (sqK r c)=O (.ref t.1))->Q (.ref d) H'):F0 K vs H Q E
def Gc(K:jX):Sp:=λvs H Q E=>F0 K vs H Q E
inductive Dn(vs:LUz)(H:Hp)(Q:VK)(E:XK):Prop
 |mk (d sh:jF) (w h:Int) (kvs:LKz) (h0:vs=[.ref d,.ref sh]) (h1:H d=O (.dT kvs)) (h2:H sh=O (.tup<|BM 0 0 h w)) (h3:(1<=w/\w<=12)) (h4:(1<=h/\h<=12)) (h5:(∀r c,0<=r->r<h->0<=c->c<w->Bo kvs (sqK r c)≠Y)) (h6:∀H',Same H H'->Q .non H'):Dn vs H Q E
def DE:Sp:=λvs H Q E=>Dn vs H Q E
inductive LX(K:jX)(C:jF)(vs:LUz)(H:Hp)(Q:VK)(E:XK):Prop
 |mk (a dx l:jF) (w h:Int) (ts:List<|jF×Rc) (h0:vs=[.ref a,.int w,.int h,.ref l]) (h1:H a=O (.ins C dx [])) (h2:SqL K H l<|A1 ts) (h3:At H ts) (h4:Tiles w h<|rcs ts) (h5:ts.length<=52) (h6:(1<=w/\w<=12)) (h7:(1<=h/\h<=12)) (h8:∀(ts':List<|jF×Rc)(ls ld:jF)(kvs:LKz)(H':Hp),SameX a H H'->ts'.Perm ts->PanelAt C H' a w h ts' dx ls ld kvs->Q .non H'):LX K C vs H Q E
def DF(K:jX)(C:jF):Sp:=λvs H Q E=>LX K C vs H Q E
inductive LM(C:jF)(vs:LUz)(H:Hp)(Q:VK)(E:XK):Prop
 |mk (a dx ls ld:jF) (w h:Int) (ts:List<|jF×Rc) (kvs:LKz) (h0:vs=[.ref a]) (h1:PanelAt C H a w h ts dx ls ld kvs) (h2:∀l,H l=Y->Q (.ref l) (upd H l<|.lst<|A1 ts)):LM C vs H Q E
def CJ(C:jF):Sp:=λvs H Q E=>LM C vs H Q E
inductive HP(C:jF)(vs:LUz)(H:Hp)(Q:VK)(E:XK):Prop
 |mk (a dx ls ld:jF) (w h r c:Int) (ts:List<|jF×Rc) (kvs:LKz) (h0:vs=[.ref a,.int r,.int c]) (h1:PanelAt C H a w h ts dx ls ld kvs) (h2:0<=r) (h3:r<h) (h4:0<=c) (h5:c<w) (h6:∀t H',t∈ts->t.2.has r c->Same H H'->Q (.ref t.1) H'):HP C vs H Q E
def F3(C:jF):Sp:=λvs H Q E=>HP C vs H Q E
inductive Ki(C:jF)(vs:LUz)(H:Hp)(Q:VK)(E:XK):Prop
 |mk (a dx ls ld:jF) (w h:Int) (ts:List<|jF×Rc) (kvs:LKz) (h0:vs=[.ref a]) (h1:PanelAt C H a w h ts dx ls ld kvs) (h2:∀(b dy ls' ld':jF)(ts':List<|jF×Rc)(kvs':LKz)(H':Hp),Same H H'->PanelAt C H' b h w ts' dy ls' ld' kvs'->(rcs ts').Perm ((rcs ts).map Rc.sw)->Q (.ref b) H'):Ki C vs H Q E
def KI(C:jF):Sp:=λvs H Q E=>Ki C vs H Q E
structure Txt(mg:MGz)(tk:TKz):Prop where
 z_isinstance:mg "isinstance"=Y
 z_int:mg "int"=Y
 z_bool:mg "bool"=Y
 z_tuple:mg "tuple"=Y
 z_list:mg "list"=Y
 z_len:mg "len"=Y
 z_range:mg "range"=Y
 z_all:mg "all"=Y
 z_any:mg "any"=Y
 z_sorted:mg "sorted"=Y
 z_reversed:mg "reversed"=Y
 z_max:mg "max"=Y
 z_enumerate:mg "enumerate"=Y
 z_sum:mg "sum"=Y
 z_set:mg "set"=Y
 z_abs:mg "abs"=Y
 z_min:mg "min"=Y
 jg:mg "LONGEST_SIDE"=O (.int 12 tk.1)
 jh:mg "MOST_PANES"=O (.int 52 tk.2.1)
 ja:mg "WHOLE"=O (.str "whole" tk.2.2.1)
 gz:mg "UPRIGHT_cuts"=O (.str "upright" tk.2.2.2.1)
 gX:mg "LEVEL_cuts"=O (.str "level" tk.2.2.2.2.1)
 gY:mg "TOP"=O (.int 0 tk.2.2.2.2.2.1)
 gN:mg "LEFT"=O (.int 1 tk.2.2.2.2.2.2.1)
 jb:mg "ROOM"=O (.str "room" tk.2.2.2.2.2.2.2.1)
 jj:mg "LONGEST_COUNTED"=O (.int 4 tk.2.2.2.2.2.2.2.2.1)
 jk:mg "LEVEL_leads"=O (.str "level" tk.2.2.2.2.2.2.2.2.2.1)
 jm:mg "UPRIGHT_leads"=O (.str "upright" tk.2.2.2.2.2.2.2.2.2.2)
structure KB(K:jX)(C:jF):Prop where
 cl:Cls K C
 n_width:NoAttr K C "width"
 n_height:NoAttr K C "height"
 n_sorted_panes:NoAttr K C "sorted_panes"
 n_by_square:NoAttr K C "by_square"
section
variable{P:jN}{w:jW}{K:jX}{mg:MGz}{jD:j6}{tk:TKz}{cT cW cU cL C:jF}
variable{cG cS cX:jF}
noncomputable def nth(b:List j0)(i:Nat):j0:=b.getD i<|.Pass ⟨0,0,0,0⟩
noncomputable def MO:j0->List j0
 |.For _ _ b _ _=>b
 |_=>[]
theorem NL{f:jF}{fd:jM}(F:Fun K "is_whole" "is_whole" FE f fd)(T:Txt mg tk):A8 P w K mg jD CX0 1 f fd lY E7:=by
 have S:Al lY lY (Ah FE):=fsk;refine F.g S ?_;rintro vs H Q E ⟨v,rfl,⟨T',hT⟩,q⟩;refine⟨Z,λcdv A jz s hr=>?_⟩;refine⟨_,(Ag<|Aq<|EV (Bg DO T.z_isinstance<|Aa Ai<|Aj<|Gj (v:=.ty "int") Z T.z_int Z Z)<|D4<|Td<|Bg DO T.z_isinstance<|Aa Ai<|Aj<|Gj (v:=.ty "bool") Z T.z_bool Z Z),?_⟩;refine⟨v,Z,v,T',"int",Z,hT,.inl Z,_,Z,Br (λh=>?_) λh=>?_⟩
 .refine⟨v,Z,v,T',"bool",Z,hT,.inr<|.inl Z,_,Z,?_⟩;rw[(Nm hT).1 h];exact q
 .show Q (.bl oe) H;rw[(Nm hT).2 h];exact q
theorem Pm{f:jF}{fd:jM}(F:Fun K "is_side" "is_side" GD f fd)(T:Txt mg tk)(gi:Ar P w K mg jD 1 "is_whole" lY E7):A8 P w K mg jD CX0 2 f fd lY PY:=by
 have S:Al lY lY (Ah GD):=fsk;refine F.g S ?_;rintro vs H Q E ⟨v,rfl,hv,q⟩;refine⟨Z,λcdv A jz s hr=>?_⟩;refine⟨_,(Ag<|Aq<|EV (Am gi hr<|Aj Ai)<|D4<|ET BZ BZ Ab Ai<|AH (v:=.int 12) Z T.jg ⟨_,Z⟩),?_⟩;refine⟨v,Z,v,Z,hv,_,Z,Br (λh=>?_) λh=>?_⟩
 .obtain⟨i,rfl⟩:∃i,v=.int i:=by cases v<;>first|exact⟨_,Z⟩|cases h
  refine⟨_,Z,_,_,Z,Z,_,Z,Br (λh1=>?_) λh1=>?_⟩
  .refine⟨_,_,Z,Z,?_⟩;have e:Ny (.int i)=og (i<=12):=by
    show(og (1<=i)&&og (i<=12))=_;rw[h1];rfl
   show Q (.bl<|og<|i<=12) H;rw[<-e];exact q
  .have e:Ny (.int i)=oe:=by
    show(og (1<=i)&&og (i<=12))=_;rw[h1];rfl
   show Q (.bl oe) H;rw[<-e];exact q
 .have e:Ny v=oe:=by cases v<;>first|rfl|cases h
  show Q (.bl oe) H;rw[<-e];exact q
theorem at0{x0 x1 x2 x3:V}:atI [x0,x1,x2,x3] 0=O x0:=rfl
theorem at1{x0 x1 x2 x3:V}:atI [x0,x1,x2,x3] 1=O x1:=rfl
theorem at2{x0 x1 x2 x3:V}:atI [x0,x1,x2,x3] 2=O x2:=rfl
theorem at3{x0 x1 x2 x3:V}:atI [x0,x1,x2,x3] 3=O x3:=rfl
theorem Vl{α:Type}{us:List α}(h:us.length=1):∃a,us=[a]:=fH.mp h
theorem Vk{α:Type}{us:List α}(h:us.length=2):∃a b,us=[a,b]:=by
 cases us with
 |nil=>cases h
 |cons a r=>obtain⟨b,rfl⟩:=Vl<|Nat.succ.inj h;exact⟨a,b,Z⟩
theorem Yg{α:Type}{us:List α}(h:us.length=3):∃a b c,us=[a,b,c]:=by
 cases us with
 |nil=>cases h
 |cons a r=>obtain⟨b,c,rfl⟩:=Vk<|Nat.succ.inj h;exact⟨a,b,c,Z⟩
theorem Zc{α:Type}{us:List α}(h:us.length=4):∃a b c d,us=[a,b,c,d]:=by
 cases us with
 |nil=>cases h
 |cons a r=>obtain⟨b,c,d,rfl⟩:=Yg<|Nat.succ.inj h;exact⟨a,b,c,d,Z⟩
theorem Vx{xs:LUz}(l:xs.length=4)(h:(xs.map DS).all id=nZ):∃a b c d,xs=BM a b c d:=by
 obtain⟨x0,x1,x2,x3,rfl⟩:=Zc l
 simp only[aR,bN,dY,List.all_nil,id,dZ,av]at h;obtain⟨h0,h1,h2,h3⟩:=h;have g:∀{x:V},DS x=nZ->∃i,x=.int i:=λ{x} h=>by cases x<;>first|exact⟨_,Z⟩|cases h
 obtain⟨a,rfl⟩:=g h0;obtain⟨b,rfl⟩:=g h1;obtain⟨c,rfl⟩:=g h2;obtain⟨d,rfl⟩:=g h3;exact⟨a,b,c,d,Z⟩
theorem Qo{xs:LUz}(h:∀a b c d,xs≠BM a b c d):Hq xs=oe:=by
 rcases xs with _|⟨a,xs⟩;.rfl
 cases a<;>try rfl
 rcases xs with _|⟨b,xs⟩;.rfl
 cases b<;>try rfl
 rcases xs with _|⟨c,xs⟩;.rfl
 cases c<;>try rfl
 rcases xs with _|⟨d,xs⟩;.rfl
 cases d<;>try rfl
 cases xs with
 |nil=>exact absurd Z (h _ _ _ _)
 |cons=>rfl
theorem Yt{n:Nat}:(!decide (V.int (n:Int)=V.int 4))=nZ->n≠4:=λh e=>by
 subst e;have:og (V.int ((4:Nat):Int)=V.int 4)=nZ:=decI.mpr Z;rw[this]at h;cases h
theorem Wb{n:Nat}:(!decide (V.int (n:Int)=V.int 4))=oe->n=4:=λh=>by
 have e:og (V.int (n:Int)=V.int 4)=nZ:=by
  cases z:og (V.int (n:Int)=V.int 4)with
  |true=>rfl
  |false=>rw[z]at h;cases h
 have:=decI.mp e;lia
theorem Rx{xs:LUz}{i:Nat}{x:V}(h:xs[i]?=O x){f:V->V}:(xs.take i).map f++[f x]=(xs.take<|i+1).map f:=by
 rw[aN,h,af];rfl
theorem HZ{f:jF}{fd:jM}(F:Fun K "is_rectangle" "is_rectangle" CN f fd)(T:Txt mg tk)(gi:Ar P w K mg jD 1 "is_whole" lY E7):A8 P w K mg jD CX0 2 f fd lY Mh:=by
 have S:Al lY lY (Ah CN):=fsk;refine F.g S ?_;rintro vs H Q E ⟨v,rfl,h⟩;refine⟨Z,λcdv A jz s hr=>?_⟩;refine⟨_,(Ac (AG (PW.pt<|Ev (BD<|Bk<|Bg DO T.z_isinstance<|Aa Ai<|Aj<|Gj (v:=.ty "tuple") Z T.z_tuple Z Z)<|CT<|A5 Jl (Bg Bf T.z_len<|Aj Ai) Ab) (Ag<|Aq Gk) A6)
  (Ac (AG (BD<|Bk<|Bg Ka T.z_all<|Aj<|B9 Z (Mw Ai) (λ_ _ _ _ _=>pgk<|nk ["part"]) (λ_ _ _ _ _=>(Am gi hr<|Aj Ai)) (N:=["part"]) (fr:=[Y])) (Ag<|Aq Gk) A6)
  (Ag<|Aq<|EV (ET BZ DJ Ab (Av As Ai Ab)<|Av As Ai Ab)<|D4<|ET BZ DJ Ab (Av As Ai Ab)<|Av As Ai Ab))),?_⟩
 rcases h with⟨a,xs,rfl,ha,hlen,hx,q⟩|⟨T',hT,hne,q⟩
 .refine⟨_,Z,_,"tuple","tuple",Z,Wo ha,.inr<|.inr<|.inl Z,_,Z,Bi (by rw[WR];rfl) ?_⟩;refine⟨_,Z,a,xs,Z,.inr<|SqT.of ha,Z,_,Z,Br (λh=>?_) λh=>?_⟩
  .have e:Hq xs=oe:=Qo λa b c d z=>Yt h (by rw[z];rfl);show Q (.bl oe) H;rw[<-e];exact q H<|Same.refl H
  .have h4:=Wb h;refine⟨_,Z,a,Z,⟨xs,SqT.of ha⟩,λacc jE=>Uq (K:=K) (a:=a) (ys:=xs) (λi zs B H'=>(∃y,B=[y])/\Same H H'/\zs=(xs.take i).map λx=>V.bl<|DS x) ⟨⟨Y,Z⟩,Same.new jE,Z⟩
    (λi zs B H' _ _ hp=>SqT.of<|hp.2.1 _ _ ha) ?_ ?_⟩
   .rintro i x zs B H' hxi hi hl jE' ⟨⟨y,rfl⟩,hs,hzs⟩;refine⟨x,Z,x,Z,(hx x<|ak hxi).same hs,cNx.mk (aK<|An<|by lia) hi hl jE' ⟨⟨_,Z⟩,λb o e=>?_,?_⟩⟩
    .rw[Af<|Ad e jE];exact hs b o e
    .rw[hzs];exact Rx (f:=λx=>V.bl<|DS x) hxi
   .rintro zs B H' hl jE' ⟨_,hs,hzs⟩;refine⟨acc,xs.map DS,Z,SqL.of (by rw[jE',hzs,aI,aA];rfl),Z,_,Z,Br (λh=>?_) λh=>?_⟩
    .have e:Hq xs=oe:=Qo λa b c d z=>by subst z;cases h
     show Q (.bl oe) H';rw[<-e];exact q H' hs
    .obtain⟨a0,a1,a2,a3,rfl⟩:=Vx h4 (by simpa using h);have ha':=hs _ _ ha;have key:Q (.bl<|og (0<=a0)&&og (a0<a2)&&(og (0<=a1)&&og (a1<a3))) H':=q H' hs;refine⟨_,Z,a,_,_,_,Z,Z,SqT.of ha',at0,_,_,Z,Z,_,Z,Br (λh1=>?_) λh1=>?_⟩
     .refine⟨_,Z,a,_,_,_,Z,Z,SqT.of ha',at2,_,_,Z,Z,_,Z,Br (λh2=>?_) λh2=>?_⟩
      .refine⟨_,Z,a,_,_,_,Z,Z,SqT.of ha',at1,_,_,Z,Z,_,Z,Br (λh3=>?_) λh3=>?_⟩
       .refine⟨_,Z,a,_,_,_,Z,Z,SqT.of ha',at3,_,_,Z,Z,?_⟩;rw[h1,h2,h3]at key;exact key
       .show Q (.bl oe) H';rw[h1,h2,h3]at key;exact key
      .show Q (.bl oe) H';rw[h1,h2]at key;exact key
     .refine⟨_,Z,TM ?_⟩;show Q (.bl oe) H';rw[h1]at key;exact key
 .refine⟨_,Z,_,T',"tuple",Z,hT,.inr<|.inr<|.inl Z,_,Z,BK ?_<|Pt q⟩;have e:isB T' "tuple"=oe:=by
   unfold isB;rw[jR hne];simp
  rw[e];rfl
theorem RK{f:jF}{fd:jM}(F:Fun K "inside" "inside" IW f fd):A8 P w K mg jD CX0 1 f fd mj DD:=by
 have S:Al ["one","other","starts_within"] mj (Ah IW):=fsk;refine F.g S ?_;rintro vs H Q E ⟨a,b,a0,a1,a2,a3,o0,o1,o2,o3,rfl,ha,hb,q⟩;refine⟨Z,λcdv A jz s hr=>?_⟩;refine⟨_,(Ac (Az 2 S.nd<|EV (Bs BZ (Av As Ak Ab)<|Av As Ai Ab)<|D4<|Bs BZ (Av As Ak Ab)<|Av As Ai Ab)
  (Ag<|Aq<|EV Ap<|EV (Bs BZ (Av As Ai Ab)<|Av As Ak Ab)<|D4<|Bs BZ (Av As Ai Ab)<|Av As Ak Ab)),?_⟩
 have key:Q (.bl<|og (o0<=a0)&&og (o1<=a1)&&(og (a2<=o2)&&og (a3<=o3))) H:=q;refine⟨_,Z,b,_,_,_,Z,Z,SqT.of hb,at0,_,Z,a,_,_,_,Z,Z,SqT.of ha,at0,_,_,Z,Z,_,Z,Br (λh1=>?_) λh1=>?_⟩
 .refine⟨_,Z,b,_,_,_,Z,Z,SqT.of hb,at1,_,Z,a,_,_,_,Z,Z,SqT.of ha,at1,_,_,Z,Z,?_⟩;refine⟨_,Z,_,Z,Br (λh2=>?_) λh2=>?_⟩
  .refine⟨_,Z,a,_,_,_,Z,Z,SqT.of ha,at2,_,Z,b,_,_,_,Z,Z,SqT.of hb,at2,_,_,Z,Z,_,Z,Br (λh3=>?_) λh3=>?_⟩
   .refine⟨_,Z,a,_,_,_,Z,Z,SqT.of ha,at3,_,Z,b,_,_,_,Z,Z,SqT.of hb,at3,_,_,Z,Z,?_⟩;rw[h1,h2,h3]at key;exact key
   .show Q (.bl oe) H;rw[h1,h2,h3]at key;exact key
  .show Q (.bl oe) H;rw[h1,h2]at key;exact key
 .refine⟨_,Z,_,Z,TM ?_⟩;show Q (.bl oe) H;rw[h1]at key;exact key
theorem Xh{L:LUz}{i:Int}(h0:0<=i)(h1:i<L.length):∃v,atI L i=O v/\v∈L:=by
 have h:i.toNat<L.length:=by lia
 have e:=Ng<|ai h;rw[bn h0]at e;exact⟨_,e,cm h⟩
theorem T7{i m:Nat}(h1:i<=12)(h2:m<=12):i*m<=144:=dm h1 h2
theorem Kt{f:jF}{fd:jM}(F:Fun K "squares_of" "squares_of" DT f fd)(T:Txt mg tk):A8 P w K mg jD CX0 1 f fd mU F2:=by
 have S:Al ["rectangle","squares","row","column"] mU (Ah DT):=fsk;refine F.g S ?_;rintro vs H Q E ⟨a,p,rfl,ha,g1,g2,g3,g4,g5,g6,q⟩;refine⟨Z,λcdv A jz s hr=>?_⟩;refine⟨_,(Ac (Az 1 S.nd<|AJ BF)
  (Ac (AF PassesOwn.never Z (AV Z T.z_range<|Aa (Av As Ai Ab)<|Aj<|Av As Ai Ab) (AS 2 S.nd)<|Ag<|AF PassesOwn.never Z (AV Z T.z_range<|Aa (Av As Ai Ab)<|Aj<|Av As Ai Ab) (AS 3 S.nd)<|Ag<|AM<|BU Ak<|Aj<|A4<|Aa Ap<|Aj A2)
  (Ag<|Aq Ak))),?_⟩
 refine⟨Ay 0,λl hl=>?_⟩;have ha0:(upd H l<|.lst []) a=O (.tup<|BM p.t p.l p.b p.r):=Same.new hl _ _ ha;refine⟨_,Z,a,_,_,_,Z,Z,SqT.of ha0,at0,_,Z,a,_,_,_,Z,Z,SqT.of ha0,at2,p.t,p.b,Z,⟨by lia,by lia,by lia,by lia⟩,
  AT (lo:=p.t) (n:=(p.b-p.t).toNat) (λi B H'=>∃x y,∃sq:List<|jF×(Int×Int),B=[O<|.ref a,O<|.ref l,x,y]/\Same H H'/\H' l=O (.lst<|sq.map λs=>V.ref s.1)/\(∀s∈sq,H' s.1=O (.tup [.int s.2.1,.int s.2.2]))/\sq.map (·.2)=HV p i)
   ⟨Y,Y,[],Z,Same.new hl,Ae,λs hs=>(nomatch hs),Z⟩ ?_ ?_⟩
 .rintro i B H' hi ⟨x,y,sq,rfl,hs,hlst,hsq,hmap⟩;have ha':=hs _ _ ha;refine⟨_,Z,a,_,_,_,Z,Z,SqT.of ha',at1,_,Z,a,_,_,_,Z,Z,SqT.of ha',at3,p.l,p.r,Z,⟨by lia,by lia,by lia,by lia⟩,
   AT (lo:=p.l) (n:=(p.r-p.l).toNat) (λj B H2=>∃y,∃sq:List<|jF×(Int×Int),B=[O<|.ref a,O<|.ref l,O<|.int<|p.t+i,y]/\Same H H2/\H2 l=O (.lst<|sq.map λs=>V.ref s.1)/\(∀s∈sq,H2 s.1=O (.tup [.int s.2.1,.int s.2.2]))/\sq.map (·.2)=HV p i++Eu p i j)
    ⟨y,sq,Z,hs,hlst,hsq,by rw[hmap];simp[Eu]⟩ ?_ ?_⟩
  .rintro j B H2 hj ⟨y,sq,rfl,hs2,hl2,hq2,hm2⟩;refine⟨_,Z,.inl ⟨Z,_,SqL.of hl2⟩,_,Z,_,Z,Ay 2,λt ht=>?_⟩;have nlt:l≠t:=Ad hl2 ht;have hlen:sq.length<=288:=by
    have e:=congrArg List.length hm2;rw[aa,aq,IM,Eu,aa,eK]at e;have:=T7 (i:=i) (m:=(p.r-p.l).toNat) (by lia) (by lia);lia
   refine⟨l,_,_,Z,Z,by rw[Af nlt];exact hl2,An (by rw[aa];lia),?_⟩;refine⟨_,sq++[(t,(p.t+(i:Int),p.l+(j:Int)))],Z,λb o e=>?_,?_,λz hz=>?_,?_⟩
   .rw[Af<|Ad e hl,Af<|Ad (hs2 _ _ e) ht];exact hs2 b o e
   .rw[Ae,af];rfl
   .rcases aw.mp hz with hz|hz
    .have e:=hq2 z hz;have n1:z.1≠l:=AQ e hl2 (by intro q;cases q);rw[Af n1,Af<|Ad e ht];exact e
    .rw[ae.mp hz,Af<|Ne.symm nlt];exact Ae
   .rw[af,hm2,aX,OY];rfl
  .rintro B H2 ⟨y,sq,rfl,hs2,hl2,hq2,hm2⟩;exact⟨_,_,sq,Z,hs2,hl2,hq2,hm2⟩
 .rintro B H2 ⟨x,y,sq,rfl,hs2,hl2,hq2,hm2⟩;exact⟨_,Z,q l sq H2 hs2 hl hl2 hq2 hm2⟩
theorem UO{x:Int}(h:1<=x/\x<=12):Ny (.int x)=nZ:=by
 show(og (1<=x)&&og (x<=12))=nZ;rw[jI h.1,jI h.2];rfl
theorem Ju{f:jF}{fd:jM}(F:Fun K "check_sides" "check_sides" Dw f fd)(gZ:Ar P w K mg jD 2 "is_side" lY PY):A8 P w K mg jD CX0 3 f fd l9 ED:=by
 have S:Al ["width","height","side"] l9 (Ah Dw):=fsk;refine F.g S ?_;rintro vs H Q E ⟨w,h,rfl,gw,gh,q⟩;refine⟨Z,λcdv A jz s hr=>?_⟩;refine⟨_,(Ag<|AF PassesOwn.never Z (Mw<|A4<|Aa Ai<|Aj Ak) (AS 2 S.nd)<|Ag<|AG (BD<|Bk<|Am gZ hr<|Aj Ap) (Ag CU) A6),?_⟩;refine⟨_,Z,_,Z,Ay 2,λt ht=>⟨t,Z,⟨_,SqT.of Ae⟩,MN (K:=K) (a:=t) (xs:=[.int w,.int h]) (λi B H'=>(∃y,B=[O<|.int w,O<|.int h,y])/\H'=upd H t (.tup [.int w,.int h])) ⟨⟨Y,Z⟩,Z⟩ (λi B H' _ hp=>by rw[hp.2];exact SqT.of Ae) ?_ ?_⟩⟩
 .rintro i x B H' hx ⟨⟨y,rfl⟩,rfl⟩;obtain⟨z,rfl,hz⟩:∃z,x=.int z/\(1<=z/\z<=12):=by
   have:=ak hx;simp only[aQ,aZ,or_false]at this;rcases this with rfl|rfl
   .exact⟨_,Z,gw⟩
   .exact⟨_,Z,gh⟩
  refine⟨_,Z,.int z,Z,⟨"int",Z⟩,_,Z,Bi (by rw[UO hz];rfl) ?_⟩;exact⟨⟨_,Z⟩,Z⟩
 .rintro B H' ⟨⟨y,rfl⟩,rfl⟩;exact q _<|Same.new ht
theorem Vo{p:Rc}{w h:Int}(i:p.In w h):Hq (BM p.t p.l p.b p.r)=nZ:=by
 obtain⟨a1,a2,a3,a4,a5,a6⟩:=i;show(og (0<=p.t)&&og (p.t<p.b)&&(og (0<=p.l)&&og (p.l<p.r)))=nZ;rw[jI a1,jI a2,jI a4,jI a5];rfl
theorem WS{p:Rc}{w h:Int}(i:p.In w h):MJ p.t p.l p.b p.r 0 0 h w=nZ:=by
 obtain⟨a1,a2,a3,a4,a5,a6⟩:=i;show(og (0<=p.t)&&og (0<=p.l)&&(og (p.b<=h)&&og (p.r<=w)))=nZ;rw[jI a1,jI a4,jI a3,jI a6];rfl
theorem QI{H:Hp}{a b c d:Int}:∀x∈BM a b c d,Ty H x:=λx hx=>by
 simp only[aQ,aZ,or_false]at hx;rcases hx with rfl|rfl|rfl|rfl<;>exact⟨"int",Z⟩
theorem Jv{f:jF}{fd:jM}(F:Fun K "check_panes" "check_panes" Dx f fd)(T:Txt mg tk)(gA:Ar P w K mg jD 2 "is_rectangle" lY Mh)(gb:Ar P w K mg jD 1 "inside" mj DD):
  A8 P w K mg jD CX0 3 f fd nC (EE K):=by
 have S:Al ["panes","sheet","place","pane"] nC (Ah Dx):=fsk;refine F.g S ?_;rintro vs H Q E ⟨l,sh,w,h,ts,rfl,hl,hat,hsh,hin,hlen,q⟩;refine⟨Z,λcdv A jz s hr=>?_⟩;refine⟨_,(Ac (AG (A5 NC (Bg Bf T.z_len<|Aj Ai)<|AH (v:=.int 52) Z T.jh ⟨_,Z⟩) (Ag CU) A6)
  (Ag<|AF PassesOwn.never Z (Iu Z T.z_enumerate<|Aj Ai) (BS Z<|Au (AS 2 S.nd)<|Au (AS 3 S.nd) AY)<|Ag<|AG (PW.pt<|Ev (BD<|Bk<|Am gA hr<|Aj A2)<|CT<|BD<|Bk<|Am gb hr<|Aa A2<|Aj Ak) (Ag CU) A6)),?_⟩
 refine⟨_,Z,l,_,Z,.inl hl,_,_,Z,Z,_,Z,Bi (jR (by rw[aa];lia)) ?_⟩;refine⟨_,Z,l,Z,⟨_,hl⟩,Gx (K:=K) (a:=l) (xs:=A1 ts) (λi B H'=>(∃x y,B=[O<|.ref l,O<|.ref sh,x,y])/\Same H H') ⟨⟨Y,Y,Z⟩,Same.refl H⟩ (λi B H' _ hp=>hp.2.seq hl) ?_ ?_⟩
 .rintro i x B H' t hx ⟨⟨x0,y0,rfl⟩,hs⟩ ht;obtain⟨u,hu,rfl⟩:=AZ hx;have hum:=ak hu;have hsT:=Same.new (o:=.tup [.int i,.ref u.1]) ht;have s1:=hs.trans hsT;have hui:=hin u.2<|ao.mpr ⟨u,hum,Z⟩;have hua:=s1 _ _<|hat u hum;refine⟨t,_,Z,SqT.of Ae,Z,_,_,Z,_,_,Z,Z,?_⟩;refine⟨_,Z,_,Z,.inl ⟨u.1,_,Z,hua,(by show(4:Nat)<=100;decide),QI,λH2 s2=>⟨_,Z,Bi (by rw[Vo hui];rfl) ?_⟩⟩⟩;refine⟨_,Z,_,Z,u.1,sh,_,_,_,_,_,_,_,_,Z,s2 _ _ hua,s2 _ _<|s1 _ _ hsh,_,Z,Bi (by rw[WS hui];rfl) ?_⟩;exact⟨⟨_,_,Z⟩,s1.trans s2⟩
 .rintro B H' ⟨⟨x0,y0,rfl⟩,hs⟩;exact q H' hs
theorem Bv{α:Type}{xs:List α}{i:Nat}{u x:α}(h:xs[i]?=O u):x∈xs.take (i+1)↔x∈xs.take i\/x=u:=by
 rw[aN,h,aw];simp
theorem Kd{ts:List<|jF×Rc}(hd:(rcs ts).Pairwise Apart){i:Nat}{u t:jF×Rc}(h:ts[i]?=O u)(ht:t∈ts.take i):Apart t.2 u.2:=by
 obtain⟨j,hj,rfl⟩:=c9 ht;obtain⟨hi,rfl⟩:=aD.mp h;rw[ce]at hd;have hj':j<i:=by rw[bZ]at hj;lia
 have:=hd j i (by rw[aa];lia) (by rw[aa];exact hi) hj'
 simpa using this
theorem Po{α β:Type}{xs:List α}{f:α->β}(hn:(xs.map f).Nodup){j:Nat}{s:α}(h:xs[j]?=O s):f s∉(xs.take j).map f:=λhm=>by
 obtain⟨hj,rfl⟩:=aD.mp h;obtain⟨y,hy,e⟩:=ao.mp hm;obtain⟨k,hk,rfl⟩:=c9 hy;have hk':k<j:=by rw[bZ]at hk;lia
 rw[fm,ce]at hn;exact hn k j (by rw[aa];lia) (by rw[aa];exact hj) hk' (by simpa using e)
theorem SB{sq:List<|jF×(Int×Int)}{i:Nat}{x:V}(h:(sq.map λs=>V.ref s.1)[i]?=O x):∃t,sq[i]?=O t/\x=.ref t.1:=by
 rw[ax]at h;cases e:sq[i]? with
 |none=>rw[e]at h;cases h
 |some t=>rw[e]at h;exact⟨t,Z,(Option.some.inj h).symm⟩
theorem UL{p:Rc}{w h:Int}(i:p.In w h)(b1:w<=12)(b2:h<=12):(sqs p).length<=144:=by
 obtain⟨a1,a2,a3,a4,a5,a6⟩:=i;unfold sqs;rw[IM];exact T7 (by lia) (by lia)
theorem FM{f:jF}{fd:jM}(F:Fun K "panes_by_square" "panes_by_square" BP f fd)(T:Txt mg tk)(gB:Ar P w K mg jD 1 "squares_of" mU F2):A8 P w K mg jD CX0 2 f fd ["panes"] (Gc K):=by
 have S:Al ["panes","by_square","place","pane","square"] ["panes"] (Ah BP):=fsk;refine F.g S ?_;rintro vs H Q E ⟨l,w,h,ts,rfl,hl,hat,hin,hap,hlen,bw,bh,q⟩;refine⟨Z,λcdv A jz s hr=>?_⟩;have hu:=Ew hr;refine⟨_,(Ac (Az 1 S.nd Jj)
  (Ac (AF PassesOwn.never Z (Iu Z T.z_enumerate<|Aj Ai) (BS Z<|Au (AS 2 S.nd)<|Au (AS 3 S.nd) AY)<|Ag<|AF PassesOwn.never Z (AA<|Am gB hr<|Aj A2) (AS 4 S.nd)<|Ac (AG (SY<|W9 hu AE Ak) (Ag CU) A6)
  (Ag<|Gh hu Ak AE A2 Z))
  (Ag<|Aq Ak))),?_⟩
 intro d hd;refine⟨_,Z,l,Z,⟨_,(Same.new hd).seq hl⟩,Gx (K:=K) (a:=l) (xs:=A1 ts) (λi B H'=>(∃x y z,B=[O<|.ref l,O<|.ref d,x,y,z])/\Same H H'/\∃kvs,H' d=O (.dT kvs)/\kvs.length<=144*i /\
   (∀t∈ts.take i,∀r c,t.2.has r c->Bo kvs (sqK r c)=O (.ref t.1))/\∀r c v,Bo kvs (sqK r c)=O v->∃t∈ts.take i,t.2.has r c)
  ⟨⟨Y,Y,Y,Z⟩,Same.new hd,[],Ae,aU _,λt ht=>(nomatch ht),λr c v e=>by cases e⟩ (λi B H' _ hp=>hp.2.1.seq hl) ?_ ?_⟩
 .rintro i x B H' tt hx ⟨⟨x0,y0,z0,rfl⟩,hs,kvs,hk,hkl,ha1,ha2⟩ htt;obtain⟨u,hu',rfl⟩:=AZ hx;have hum:=ak hu';have hi:i<ts.length:=(aD.mp hu').1;have s1:=hs.trans<|Same.new (o:=.tup [.int i,.ref u.1]) htt;have hui:=hin u.2<|ao.mpr ⟨u,hum,Z⟩;obtain⟨c1,c2,c3,c4,c5,c6⟩:=id hui;have hua:=s1 _ _<|hat u hum;have hk1:(upd H' tt<|.tup [.int i,.ref u.1]) d=O (.dT kvs):=Same.new htt _ _ hk;refine⟨tt,_,Z,SqT.of Ae,Z,_,_,Z,_,_,Z,Z,?_⟩;refine⟨_,Z,u.1,u.2,Z,hua,c1,by lia,by lia,c4,by lia,by lia,λl2 sq H2 s2 n2 hl2 hsq hmap=>⟨l2,Z,⟨_,SqL.of hl2⟩,?_⟩⟩;have hk2:=s2 _ _ hk1;have nl2:l2≠d:=AQ hl2 hk2 (by intro z;cases z);have sql:sq.length<=144:=by
   have:=UL hui bw bh;rw[<-hmap,aa]at this;exact this
  have nd:=IL (p:=u.2) (by lia) (u.2.b-u.2.t).toNat;have nd':(sq.map (·.2)).Nodup:=by rw[hmap];exact nd
  refine Bn (K:=K) (a:=l2) (xs:=sq.map λs=>V.ref s.1) (λj B H3=>(∃z,B=[O<|.ref l,O<|.ref d,O<|.int i,O<|.ref u.1,z])/\SameX d H2 H3/\∃kvs,H3 d=O (.dT kvs)/\kvs.length<=144*i+j /\
    (∀t∈ts.take i,∀r c,t.2.has r c->Bo kvs (sqK r c)=O (.ref t.1))/\(∀z∈sq.take j,Bo kvs (sqK z.2.1 z.2.2)=O (.ref u.1)) /\
    ∀r c v,Bo kvs (sqK r c)=O v->(∃t∈ts.take i,t.2.has r c)\/(r,c)∈(sq.take j).map (λy:jF×(Int×Int)=>y.2))
   ⟨⟨_,Z⟩,SameX.refl,kvs,hk2,by lia,ha1,λz hz=>(nomatch hz),λr c v e=>.inl<|ha2 r c v e⟩ (λj B H3 _ hp=>SqL.of<|hp.2.1 _ _ nl2 hl2) ?_ ?_
  .rintro j y B H3 hy ⟨⟨z0,rfl⟩,s3,kv,hk3,hkl3,b1,b2,b3⟩;obtain⟨z,hz,rfl⟩:=SB hy;have hzm:=ak hz;have hj:j<sq.length:=(aD.mp hz).1;have hz2:=hsq z hzm;have nz:z.1≠d:=AQ hz2 hk2 (by intro q;cases q);have hz3:=s3 _ _ nz hz2;have hin2:u.2.has z.2.1 z.2.2:=(Iw (by lia)<|by lia).mp (by rw[<-hmap];exact ao.mpr ⟨z,hzm,Z⟩);have hno:Bo kv (sqK z.2.1 z.2.2)=Y:=by
    cases e:Bo kv (sqK z.2.1 z.2.2)with
    |none=>rfl
    |some v=>
     rcases b3 _ _ v e with⟨t,ht,hh⟩|hm
     .exact(Kd hap hu' ht _ _ hh hin2).elim
     .exact absurd hm (Po nd' hz)
   have dg:=DGet.t (k:=sqK z.2.1 z.2.2) hk3 hz3;rw[hno]at dg;refine⟨_,Z,_,Z,d,_,Z,dg,_,Z,TM ?_⟩;refine⟨_,Z,_,Z,_,Z,d,_,Z,DPut.t (k:=sqK z.2.1 z.2.2) hk3 hz3 (du (m:=20000) (by lia) (by rw[ka];decide)),?_⟩;refine⟨⟨_,Z⟩,s3.trans SameX.upd,_,Ae,?_,λt ht r c hh=>?_,λy hy=>?_,λr c v e=>?_⟩
   .have:=Cn kv (sqK z.2.1 z.2.2)<|V.ref u.1;lia
   .rw[DA,jK,b1 t ht r c hh];intro e;obtain⟨e1,e2⟩:=PR e;exact Kd hap hu' ht _ _ (by rw[<-e1,<-e2];exact hh) hin2
   .rw[DA];rcases(Bv hz).mp hy with hy|rfl
    .split
     .rfl
     .exact b2 y hy
    .rw[jP Z]
   .rw[DA]at e;split at e
    .rename_i e2;obtain⟨e3,e4⟩:=PR e2;exact .inr (ao.mpr ⟨z,(Bv hz).mpr<|.inr Z,by rw[e3,e4]⟩)
    .rcases b3 r c v e with h1|h1
     .exact .inl h1
     .obtain⟨y,hy,e2⟩:=ao.mp h1;exact .inr<|ao.mpr ⟨y,(Bv hz).mpr<|.inl hy,e2⟩
  .rintro B H3 ⟨⟨z0,rfl⟩,s3,kv,hk3,hkl3,b1,b2,b3⟩;rw[aa]at hkl3 b2 b3;rw[aI]at b2 b3;refine⟨⟨_,_,_,Z⟩,λb o e=>?_,kv,hk3,by lia,λt ht r c hh=>?_,λr c v e=>?_⟩
   .exact s3 b o (Ad e hd) (s2 b o<|s1 b o e)
   .rcases(Bv hu').mp ht with ht|rfl
    .exact b1 t ht r c hh
    .have hm:(r,c)∈sq.map (·.2):=by rw[hmap];exact(Iw (by lia)<|by lia).mpr hh
     obtain⟨z,hz,e⟩:=ao.mp hm;have:=b2 z hz;rw[e]at this;exact this
   .rcases b3 r c v e with⟨t,ht,hh⟩|hm
    .exact⟨t,(Bv hu').mpr<|.inl ht,hh⟩
    .exact⟨u,(Bv hu').mpr<|.inr Z,(Iw (by lia)<|by lia).mp (by rw[<-hmap];exact hm)⟩
 .rintro B H' ⟨⟨x0,y0,z0,rfl⟩,hs,kvs,hk,hkl,ha1,ha2⟩;rw[aa,aI]at ha1;exact⟨_,Z,q d kvs H' hs hd hk ha1⟩
theorem GP{f:jF}{fd:jM}(F:Fun K "check_covered" "check_covered" Cw f fd)(gB:Ar P w K mg jD 1 "squares_of" mU F2):A8 P w K mg jD CX0 2 f fd nD DE:=by
 have S:Al ["by_square","sheet","square"] nD (Ah Cw):=fsk;refine F.g S ?_;rintro vs H Q E ⟨d,sh,w,h,kvs,rfl,hd,hsh,gw,gh,hcov,q⟩;refine⟨Z,λcdv A jz s hr=>?_⟩;have hu:=Ew hr;refine⟨_,(Ag<|AF PassesOwn.never Z (AA<|Am gB hr<|Aj Ak) (AS 2 S.nd)<|Ag<|AG (SY<|RE hu Ap Ai) (Ag CU) A6),?_⟩;refine⟨_,Z,sh,⟨0,0,h,w⟩,Z,hsh,aW _,by show(0:Int)<=h;lia,by show h<=12;lia,aW _,by show(0:Int)<=w;lia,by show w<=12;lia,λl2 sq H2 s2 n2 hl2 hsq hmap=>⟨l2,Z,⟨_,SqL.of hl2⟩,?_⟩⟩;refine Bn (K:=K) (a:=l2) (xs:=sq.map λs=>V.ref s.1) (λj B H3=>(∃z,B=[O<|.ref d,O<|.ref sh,z])/\H3=H2) ⟨⟨Y,Z⟩,Z⟩ (λj B H3 _ hp=>by rw[hp.2];exact SqL.of hl2) ?_ ?_
 .rintro j y B H3 hy ⟨⟨z0,rfl⟩,rfl⟩;obtain⟨z,hz,rfl⟩:=SB hy;have hzm:=ak hz;have hz2:=hsq z hzm;have hin2:(⟨0,0,h,w⟩:Rc).has z.2.1 z.2.2:=(Iw (p:=⟨0,0,h,w⟩) (by show(0:Int)<=w;lia) (by show(0:Int)<=h;lia)).mp (by rw[<-hmap];exact ao.mpr ⟨z,hzm,Z⟩);obtain⟨i1,i2,i3,i4⟩:=hin2;have hk2:=s2 _ _ hd;have dg:=DGet.t (k:=sqK z.2.1 z.2.2) hk2 hz2;cases e:Bo kvs (sqK z.2.1 z.2.2)with
  |none=>exact absurd e<|hcov _ _ i1 i2 i3 i4
  |some v=>
   rw[e]at dg;exact⟨_,Z,_,Z,d,_,Z,dg,_,Z,TM ⟨⟨_,Z⟩,Z⟩⟩
 .rintro B H3 ⟨⟨z0,rfl⟩,rfl⟩;exact q _ s2
theorem Pb{α β:Type}{f:α->β}:∀{l' m:List β},l'.Perm m->∀{l:List α},m=l.map f->∃us:List α,us.Perm l/\l'=us.map f:=by
 intro l' m h
 induction h with
 |nil=>intro l e;exact⟨l,.refl _,e⟩
 |cons x hp ih=>
  intro l e;cases l with
  |nil=>cases e
  |cons y r=>
   rw[aR]at e;injection e with e1 e2;obtain⟨us,h1,h2⟩:=ih e2;exact⟨y::us,h1.cons y,by rw[aR,<-h2,e1]⟩
 |swap x y r=>
  intro l e
  match l,e with
  |a::b::r',e=>
   rw[aR,aR]at e;injection e with e1 e2;injection e2 with e2 e3;exact⟨b::a::r',.swap a b r',by rw[aR,aR,e1,e2,e3]⟩
 |trans h1 h2 ih1 ih2=>
  intro l e;obtain⟨us,a1,a2⟩:=ih2 e;obtain⟨vs,b1,b2⟩:=ih1 a2;exact⟨vs,b1.trans a1,b2⟩
theorem K0{f:jF}{fd:jM}(F:Fun K "__init__" "Panel.__init__" DZ f fd)(T:Txt mg tk)(PC:KB K C)(hU:Ar P w K mg jD 3 "check_sides" l9 ED)(hV:Ar P w K mg jD 3 "check_panes" nC<|EE K)
  (hZ:Ar P w K mg jD 2 "panes_by_square" ["panes"]<|Gc K) (ib:Ar P w K mg jD 2 "check_covered" nD DE):A8 P w K mg jD CX0 4 f fd mv (DF K C):=by
 have S:Al ["self","width","height","panes","sheet","own_panes","by_square"] mv (Ah DZ):=fsk;refine F.g S ?_;rintro vs H Q E ⟨a,dx,l,w,h,ts,rfl,hob,hl,hat,til,hlen,gw,gh,q⟩;refine⟨Z,λcdv A jz s hr=>?_⟩;refine⟨_,(Ac (AM<|Am hU hr<|Aa Ak<|Aj Ap)
  (Ac (Az 4 S.nd<|A4<|Aa Ab<|Aa Ab<|Aa Ap<|Aj Ak)
  (Ac (AM<|Am hV hr<|Aa A2<|Aj AE)
  (Ac (BE Z (AS 5 S.nd) (AA A2) (λ_ _ _ _ _=>pgk<|nk ["pane"]) (λ_ _ _ _ _=>(Fp (Nb (K:=K)) Z T.z_tuple Z<|Aj Ai)) (N:=["pane"]) (fr:=[Y]))
  (Ac (Az 6 S.nd<|Am hZ hr<|Aj AX)
  (Ac (AM<|Am ib hr<|Aa DI<|Aj AE)
  (Ac (CV Ai Ak Z)
  (Ac (CV Ai Ap Z)
  (Ac (CV Ai (Bg Nc T.z_sorted<|Aj AX) Z)
  (Ag<|CV Ai DI Z)))))))))),?_⟩
 refine⟨_,Z,_,Z,w,h,Z,gw,gh,λH1 s1=>?_⟩;refine⟨_,Z,_,Z,Ay 4,λt ht=>?_⟩;refine nv ht λH2 sz hsh=>?_;have s2:=s1.trans sz;refine⟨_,Z,_,Z,l,t,w,h,ts,Z,s2.seq hl,hat.same s2,hsh,til.ins,hlen,λH3 s3=>?_⟩;have s13:=s2.trans s3;refine⟨_,Z,l,Z,⟨_,s13.seq hl⟩,λacc jE=>Bb (K:=K) (a:=l) (ys:=A1 ts) (λi xs B H'=>(∃y,B=[y])/\Same H3 H'/\xs=(A1 ts).take i) ⟨⟨Y,Z⟩,Same.new jE,Z⟩
  (λi xs B H' _ _ hp=>(s13.trans hp.2.1).seq hl) ?_ ?_⟩
 .rintro i x xs B H' hx hi hl' jE' ⟨⟨y,rfl⟩,hs,rfl⟩;obtain⟨u,hu',rfl⟩:=AZ hx;have hua:=(s13.trans hs) _ _<|hat u<|ak hu';refine⟨_,Z,u.1,_,Z,.inr ⟨SqT.of hua,cNx.mk (aK<|An (by rw[aa];lia)) hi hl' jE' ⟨⟨_,Z⟩,λb o e=>?_,?_⟩⟩⟩
  .rw[Af<|Ad e jE];exact hs b o e
  .rw[aN,hx];rfl
 .rintro xs B H4 hl4 hacc4 ⟨_,s4,rfl⟩;rw[aI]at hacc4;have s14:=s13.trans s4;refine⟨_,Z,acc,w,h,ts,Z,SqL.of hacc4,hat.same s14,til.ins,til.dis,hlen,gw.2,gh.2,λd kvs H5 s5 n5 hd5 hk5=>?_⟩;have s15:=s14.trans s5;have look:∀r c,0<=r->r<h->0<=c->c<w->∃t∈ts,Bo kvs (sqK r c)=O (.ref t.1)/\t.2.has r c:=λr c a1 a2 a3 a4=>by
   obtain⟨p,hp,hh⟩:=til.cov r c a1 a2 a3 a4;obtain⟨u,hu',rfl⟩:=ao.mp hp;exact⟨u,hu',hk5 u hu' r c hh,hh⟩
  refine⟨_,Z,_,Z,d,t,w,h,kvs,Z,hd5,(s3.trans<|s4.trans s5) _ _ hsh,gw,gh,λr c a1 a2 a3 a4 e=>?_,λH6 s6=>?_⟩
  .obtain⟨u,_,hv,_⟩:=look r c a1 a2 a3 a4;rw[hv]at e;cases e
  have s16:=s15.trans s6;have ob6:=s16 _ _ hob;have hacc6:=(s5.trans s6) _ _ hacc4;have hd6:=s6 _ _ hd5;have na:acc≠a:=AQ hacc6 ob6 (by intro z;cases z);have nd:d≠a:=AQ hd6 ob6 (by intro z;cases z);refine⟨_,Z,_,Z,a,C,dx,_,Z,ob6,PC.cl,PC.n_width,(by show 0<1000;decide),?_⟩;refine⟨_,Z,_,Z,a,C,dx,_,Z,Ae,PC.cl,PC.n_height,(by show 1<1000;decide),?_⟩;have hacc7:(upd (upd H6 a<|.ins C dx<|Bl "width" (.int w) []) a<|.ins C dx<|Bl "height" (.int h)<|Bl "width" (.int w) []) acc=O (.lst<|A1 ts):=by rw[Af na,Af na];exact hacc6
  have tup:∀t∈ts,(upd (upd H6 a<|.ins C dx<|Bl "width" (.int w) []) a<|.ins C dx<|Bl "height" (.int h)<|Bl "width" (.int w) []) t.1=O (.tup<|BM t.2.t t.2.l t.2.b t.2.r):=λt ht=>by
   have e:=s16 _ _<|hat t ht;have nt:t.1≠a:=AQ e ob6 (by intro z;cases z);rw[Af nt,Af nt];exact e
  refine⟨_,Z,acc,ts.map λt=>(t.1,t.2.ls),3,key,Z,?_,by rw[aa];lia,?_,?_,λls us hls hp hsr=>?_⟩
  .rw[aA];exact SqL.of hacc7
  .intro z hz;obtain⟨t,ht,rfl⟩:=ao.mp hz;exact⟨Z,tup t ht⟩
  .intro z hz y hy;obtain⟨t,ht,rfl⟩:=ao.mp hz;obtain⟨u,hu',rfl⟩:=ao.mp hy;exact WM (til.ins _<|ao.mpr ⟨t,ht,Z⟩) (til.ins _<|ao.mpr ⟨u,hu',Z⟩) gw.2 gh.2 gw.2 gh.2
  obtain⟨ts',hp',rfl⟩:=Pb hp Z;have nls:ls≠a:=Ne.symm<|Ad Ae hls;refine⟨_,Z,a,C,dx,_,Z,by rw[Af<|Ne.symm nls];exact Ae,PC.cl,PC.n_sorted_panes,(by show 2<1000;decide),?_⟩;refine⟨_,Z,_,Z,a,C,dx,_,Z,Ae,PC.cl,PC.n_by_square,(by show 3<1000;decide),?_⟩;have sx:SameX a H6 (upd (upd (upd (upd (upd H6 a<|.ins C dx<|Bl "width" (.int w) []) a<|.ins C dx<|Bl "height" (.int h)<|Bl "width" (.int w) []) ls<|.lst<|List.map (λt=>V.ref t.1)<|List.map (λt:jF×Rc=>(t.1,t.2.ls)) ts') a<|.ins C dx<|Bl "sorted_panes" (.ref ls)<|Bl "height" (.int h)<|Bl "width" (.int w) []) a<|.ins C dx<|FR w h ls d):=by
   refine SameX.trans (SameX.trans (SameX.trans (SameX.trans SameX.upd SameX.upd)<|SameX.new hls) SameX.upd) SameX.upd
  refine q ts' ls d kvs _ (λb o nb e=>sx b o nb<|s16 b o e) hp' ⟨Ae,?_,sx _ _ nd hd6,λt ht=>?_,til.perm<|hp'.map _,by rw[hp'.length_eq];exact hlen,?_,λr c a1 a2 a3 a4=>?_,gw,gh⟩
  .rw[Af nls,Af nls,Ae,aA];rfl
  .have ht':=hp'.mem_iff.mp ht;have e:=s16 _ _<|hat t ht';have nt:t.1≠a:=AQ e ob6 (by intro z;cases z);exact sx _ _ nt e
  .unfold Srt;rw[aA]at hsr |-;exact hsr
  .obtain⟨u,hu',hv,hh⟩:=look r c a1 a2 a3 a4;exact⟨u,hp'.mem_iff.mpr hu',hv,hh⟩
theorem Jx{f:jF}{fd:jM}(F:Fun K "panes" "Panel.panes" D0 f fd)(T:Txt mg tk)(PC:KB K C):A8 P w K mg jD CX0 1 f fd lZ (CJ C):=by
 have S:Al lZ lZ (Ah D0):=fsk;refine F.g S ?_;rintro vs H Q E ⟨a,dx,ls,ld,w,h,ts,kvs,rfl,pn,q⟩;refine⟨Z,λcdv A jz s hr=>?_⟩;refine⟨_,(Ag<|Aq<|Fp Nd Z T.z_list Z<|Aj<|AO Ai Z),?_⟩;exact⟨_,Z,a,C,dx,_,_,Z,pn.ob,PC.cl,PC.n_sorted_panes,Ub _ _ _ _,ls,_,Z,.inl<|SqL.of pn.lst,λl hl=>q l hl⟩
theorem GS{f:jF}{fd:jM}(F:Fun K "pane_at" "Panel.pane_at" Cz f fd)(PC:KB K C):A8 P w K mg jD CX0 1 f fd mI (F3 C):=by
 have S:Al mI mI (Ah Cz):=fsk;refine F.g S ?_;rintro vs H Q E ⟨a,dx,ls,ld,w,h,r,c,ts,kvs,rfl,pn,a1,a2,a3,a4,q⟩;refine⟨Z,λcdv A jz s hr=>?_⟩;have hu:=Ew hr;refine⟨_,(Ag<|Aq<|Ec hu (AO Ai Z)<|A4<|Aa Ak<|Aj Ap),?_⟩;obtain⟨u,hu',hv,hh⟩:=pn.look r c a1 a2 a3 a4;refine⟨_,Z,a,C,dx,_,_,Z,pn.ob,PC.cl,PC.n_by_square,WU _ _ _ _,_,Z,_,Z,Ay 2,λt ht=>?_⟩;have dg:=DGet.t (H:=upd H t<|.tup [.int r,.int c]) (b:=t) (k:=sqK r c) (Same.new ht _ _ pn.dic) Ae;rw[hv]at dg;exact⟨ld,_,Z,dg,q u _ hu' hh<|Same.new ht⟩
theorem Ic{f:jF}{fd:jM}(F:Fun K "turned" "Panel.turned" CS f fd)(PC:KB K C)(fX:Kg P w K mg jD 4 "Panel" C mv<|DF K C):A8 P w K mg jD CX0 6 f fd lZ (KI C):=by
 have S:Al ["self","panes"] lZ (Ah CS):=fsk;refine F.g S ?_;rintro vs H Q E ⟨a,dx,ls,ld,w,h,ts,kvs,rfl,pn,q⟩;refine⟨Z,λcdv A jz s hr=>?_⟩;refine⟨_,(Ac (BE Z (AS 1 S.nd) (AA<|AO Ai Z) (λ_ _ _ _ _=>(Dk (K:=K) (n:=4) Z<|Au (AD (i:=0) (nk mJ) Z<|bq Z)<|Au (AD (i:=1) (nk mJ) Z<|bq Z)<|Au (AD (i:=2) (nk mJ) Z<|bq Z)<|Au (AD (i:=3) (nk mJ) Z<|bq Z) AY)) (λ_ _ _ _ _=>(A4<|Aa Ak<|Aa Ai<|Aa A2<|Aj Ap)) (N:=mJ) (fr:=[Y,Y,Y,Y]))
  (Ag<|Aq<|ES fX hr<|Aa (AO Ai Z)<|Aa (AO Ai Z)<|Aj Ak)),?_⟩
 refine⟨_,Z,a,C,dx,_,_,Z,pn.ob,PC.cl,PC.n_sorted_panes,Ub _ _ _ _,ls,Z,⟨_,SqL.of pn.lst⟩,λacc jE=>Bb (K:=K) (a:=ls) (ys:=A1 ts)
  (λi xs B H'=>(∃y0 y1 y2 y3,B=[y0,y1,y2,y3])/\Same H H'/\∃us,xs=A1 us/\At H' us/\rcs us=((rcs ts).take i).map Rc.sw) ⟨⟨Y,Y,Y,Y,Z⟩,Same.new jE,[],Z,λt ht=>(nomatch ht),Z⟩
  (λi xs B H' _ _ hp=>SqL.of<|hp.2.1 _ _ pn.lst) ?_ ?_⟩
 .rintro i x xs B H' hx hi hl' jE' ⟨⟨y0,y1,y2,y3,rfl⟩,hs,us,rfl,hus,hrc⟩;obtain⟨u,hu',rfl⟩:=AZ hx;have hua:=hs _ _<|pn.ats u<|ak hu';refine⟨u.1,_,Z,SqT.of hua,Z,_,_,Z,_,_,Z,_,_,Z,_,_,Z,Z,?_⟩;refine⟨_,Z,_,Z,_,Z,_,Z,Ay 4,λt ht=>?_⟩;have nat:acc≠t:=Ad jE' ht;refine cNx.mk (aK<|An (by rw[aa];have:=pn.few;lia)) hi hl' (by rw[Af nat];exact jE') ⟨⟨_,_,_,_,Z⟩,λb o e=>?_,us++[(t,u.2.sw)],(DG us (t,u.2.sw)).symm,λz hz=>?_,?_⟩
  .rw[Af<|Ad e jE,Af<|Ad (hs _ _ e) ht];exact hs b o e
  .rcases aw.mp hz with hz|hz
   .have e:=hus z hz;have n1:z.1≠acc:=AQ e jE' (by intro q;cases q);rw[Af n1,Af<|Ad e ht];exact e
   .rw[ae.mp hz,Af<|Ne.symm nat];exact Ae
  .have e:(rcs ts)[i]?=O u.2:=by rw[ax,hu'];rfl
   rw[EQ,hrc,aN,e,af];rfl
 .rintro xs B H' hl' jE' ⟨_,hs,us,rfl,hus,hrc⟩;rw[aa]at hl';have hrc':rcs us=(rcs ts).map Rc.sw:=by rw[hrc,aa,<-aa (f:=(·.2)) (as:=ts),aI]
  have pn':=pn.same hs;refine⟨_,Z,a,C,dx,_,_,Z,pn'.ob,PC.cl,PC.n_height,C6 _ _ _ _,_,Z,a,C,dx,_,_,Z,pn'.ob,PC.cl,PC.n_width,BI _ _ _ _,_,Z,?_⟩;intro x dy nx ndy ne;have sn:Same H' (upd (upd H' dy<|.own x) x<|.ins C dy []):=λb o e=>by rw[Af<|Ad e nx,Af<|Ad e ndy];exact e
  refine⟨x,dy,acc,h,w,us,Z,Ae,SqL.of<|sn _ _ jE',hus.same sn,by rw[hrc'];exact pn.til.sw,by have:=pn.few;rw[aa]at hl';lia,pn.sh,pn.sw,λts' ls' ld' kvs' H2 sx hp pn2=>⟨Z,?_⟩⟩;refine q x dy ls' ld' ts' kvs' H2 (λb o e=>sx b o (Ad (hs _ _ e) nx)<|sn _ _<|hs _ _ e) pn2 ?_;rw[<-hrc'];exact hp.map _
theorem AK{α:Type}(ts:List<|jF×α):(A1 ts).length=ts.length:=aa ..
theorem Io{H H':Hp}(s:Same H H'){a:jF}(h:H' a=Y):H a=Y:=by
 cases q:H a with
 |none=>rfl
 |some o=>rw[s a o q]at h;cases h
noncomputable def wd(u:Bool):j5:=if u=nZ then "upright" else "level"
theorem E5(u v:Bool):og (V.str (wd u)=V.str (wd v))=(u==v):=by cases u<;>cases v<;>decide +kernel
theorem Nn(u:Bool):og (V.str (wd u)=V.str "whole")=oe:=by cases u<;>decide +kernel
inductive Tr where
 |whole (m:Option Int)
 |cut (u:Bool) (k:Int) (x y:Tr)
noncomputable def Tr.dp:Tr->Nat
 |.whole _=>0
 |.cut _ _ x y=>max x.dp y.dp+1
noncomputable def Tr.sz:Tr->Nat
 |.whole _=>1
 |.cut _ _ x y=>x.sz+y.sz
noncomputable def EY:Option Int->V
 |none=>.non
 |some i=>.int i
def Fit:Tr->Int->Int->Prop
 |.whole _,_,_=>True
 |.cut u k x y,w,h=>if u=nZ then(1<=k/\k<w/\Fit x k h/\Fit y (w-k) h)else(1<=k/\k<h/\Fit x w k/\Fit y w (h-k))
theorem GZ:∀{t:Tr}{w h:Int},1<=w->1<=h->Fit t w h->(t.dp:Int)+2<=w+h
 |.whole _,w,h,hw,hh,_=>by show((0:Nat):Int)+2<=_;lia
 |.cut u k x y,w,h,hw,hh,f=>by
  show((max x.dp y.dp+1:Nat):Int)+2<=_;cases u with
  |true=>
   obtain⟨a,b,c,d⟩:=f;have:=GZ a hh c;have:=GZ (by lia) hh d;lia
  |false=>
   obtain⟨a,b,c,d⟩:=f;have:=GZ hw a c;have:=GZ hw (by lia) d;lia
theorem Fd:∀{t:Tr}{w h:Int},1<=w->1<=h->Fit t w h->(t.sz:Int)<=w*h
 |.whole _,w,h,hw,hh,_=>by
  show((1:Nat):Int)<=_;have:=dW hw hh (by lia) (by lia);lia
 |.cut u k x y,w,h,hw,hh,f=>by
  show((x.sz+y.sz:Nat):Int)<=_;cases u with
  |true=>
   obtain⟨a,b,c,d⟩:=f;have h1:=Fd a hh c;have h2:=Fd (by lia) hh d;rw[Int.sub_mul]at h2;lia
  |false=>
   obtain⟨a,b,c,d⟩:=f;have h1:=Fd hw a c;have h2:=Fd hw (by lia) d;rw[Int.mul_sub]at h2;lia
noncomputable def DL:List Int->Ds
 |[]=>.nil
 |i::r=>.cons (.at<|.int i)<|DL r
theorem Od{K:jX}{H:Hp}:∀(ns:List Int),DIss K H (DL ns) (ns.map V.int)
 |[]=>by
  show DIss K H .nil [];rw[DIss]
 |i::r=>by
  show DIss K H (.cons (.at<|.int i)<|DL r) (.int i::r.map V.int);exact⟨_,_,Z,by exact⟨Z,Z⟩,Od r⟩
theorem Lv:∀(ns:List Int),D7 (DL ns)=0
 |[]=>by rw[DL,D7]
 |i::r=>by rw[DL,D7,dep,Lv r];rfl
theorem Lu:∀(ns:List Int),Co (DL ns) .nil=og (ns=[])
 |[]=>by rw[DL,Co];rfl
 |i::r=>by rw[DL,Co]<;>simp
theorem VY{K:jX}{H:Hp}{a:jF}{ns:List Int}(h:SqL K H a<|ns.map V.int):DIs K H (.lst<|DL ns) (.ref a):=by
 exact⟨a,_,Z,h,Od _⟩
theorem WF{K:jX}{H:Hp}{a:jF}(h:H a=O (.lst [])):DIs K H (.lst .nil) (.ref a):=by
 exact⟨a,[],Z,SqL.of h,by rw[DIss]⟩
theorem Ls(ns:List Int):dep (.lst<|DL ns)<=50:=by rw[dep,Lv];lia
theorem We{x0 x1 x2 x3:V}:atI [x0,x1,x2,x3] 0=O x0:=rfl
theorem Yx{x0 x1 x2 x3:V}:atI [x0,x1,x2,x3] 1=O x1:=rfl
theorem Wd{x0 x1 x2 x3:V}:atI [x0,x1,x2,x3] 2=O x2:=rfl
theorem Wc{x0 x1 x2 x3:V}:atI [x0,x1,x2,x3] 3=O x3:=rfl
theorem Fi{x0 x1:V}:atI [x0,x1] 0=O x0:=rfl
theorem Fz{x0 x1:V}:atI [x0,x1] 1=O x1:=rfl
theorem Ii{j:Int}(z:Int)(h:0<j)(h2:j<18446744073709551616):Wi z j:=⟨h,Nat.lt_trans (JA (k:=64) (by decide)<|by lia)<|by decide⟩
theorem Li{a b:Int}(h1:-18446744073709551616<a)(h2:a<18446744073709551616)(h3:-18446744073709551616<b)(h4:b<18446744073709551616):IntMulOk a b:=by
 have c:(2:Nat)^128=340282366920938463463374607431768211456:=by decide +kernel
 refine NT ?_ ?_<;>rw[c]<;>lia
theorem QU{ns:List Int}{k:Int}(h0:0<=k)(h1:k<(ns.length:Int)):∃z,atI (ns.map V.int) k=O (.int z):=by
 have hk:k.toNat<ns.length:=by lia
 have hz:(ns.map V.int)[k.toNat]?=O (.int ns[k.toNat]):=by rw[ax,ai hk];rfl
 have e:=Ng hz;rw[bn h0]at e;exact⟨_,e⟩
theorem Fs{f:jF}{fd:jM}{x jC:j5}{st:j0}{N ps:LSz}{k:Nat}{sp:Sp}(F:Fun K x jC st f fd)(S:Al N ps<|Ah st)(h:∀vs H Q E,¬sp vs H Q E):A8 P w K mg jD CX0 (k+1) f fd ps sp:=
 F.ok S (λvs H Q E z=>absurd z<|h vs H Q E) (λcdv A jz s H vs Q E hr z=>absurd z<|h vs H Q E)
theorem BK{c:Bool}{A nY:Prop}(h:c=nZ)(a:A):if c=nZ then A else nY:=by rw[jP h];exact a
noncomputable def K6(cU cL:jF)(u:Bool):jF:=if u then cU else cL
noncomputable abbrev wF(m:V):LFz:=Bl "mark" m []
noncomputable abbrev cF(k:Int)(vx vy:V):LFz:=Bl "other" vy<|Bl "first" vx<|Bl "at" (.int k) []
def Obj(cW cU cL:jF)(H:Hp):Tr->V->Prop
 |.whole m,v=>∃a dx,v=.ref a/\H a=O (.ins cW dx<|wF<|EY m)
 |.cut u k x y,v=>∃a dx vx vy,v=.ref a/\H a=O (.ins (K6 cU cL u) dx<|cF k vx vy)/\Obj cW cU cL H x vx/\Obj cW cU cL H y vy
theorem Obj.same{H H':Hp}(s:Same H H'):∀{t:Tr}{v:V},Obj cW cU cL H t v->Obj cW cU cL H' t v
 |.whole m,v,h=>by
  obtain⟨a,dx,e,h⟩:=h;exact⟨a,dx,e,s _ _ h⟩
 |.cut u k x y,v,h=>by
  obtain⟨a,dx,vx,vy,e,h,h1,h2⟩:=h;exact⟨a,dx,vx,vy,e,s _ _ h,Obj.same s h1,Obj.same s h2⟩
structure RT(mg:MGz)(K:jX)(cT cW cU cL:jF):Prop where
 ju:mg "Tree"=O (.ref cT)
 jv:mg "Whole"=O (.ref cW)
 jw:mg "Upright"=O (.ref cU)
 jx:mg "Level"=O (.ref cL)
 iW:Ss K cW
 iC:∀u,Ss K<|K6 cU cL u
 n_mark:NoAttr K cW "mark"
 n_at:∀u,NoAttr K (K6 cU cL u) "at"
 n_first:∀u,NoAttr K (K6 cU cL u) "first"
 n_other:∀u,NoAttr K (K6 cU cL u) "other"
 kWW:kQ K (.ref cW) (.ref cW)=O nZ
 kWC:∀u,kQ K (.ref cW) (.ref<|K6 cU cL u)=O oe
 kCW:∀u,kQ K (.ref<|K6 cU cL u) (.ref cW)=O oe
 kCC:∀u v,kQ K (.ref<|K6 cU cL u) (.ref<|K6 cU cL v)=O (u==v)
 kWT:kQ K (.ref cW) (.ref cT)=O nZ
 kCT:∀u,kQ K (.ref<|K6 cU cL u) (.ref cT)=O nZ
inductive U6(C:jF)(vs:LUz)(H:Hp)(Q:VK)(E:XK):Prop
 |mk (a dx:jF) (m:V) (h0:vs=[.ref a,m]) (h1:H a=O (.ins C dx [])) (h2:Q .non<|upd H a<|.ins C dx<|wF m):U6 C vs H Q E
def SJ(C:jF):Sp:=λvs H Q E=>U6 C vs H Q E
inductive U7(C:jF)(vs:LUz)(H:Hp)(Q:VK)(E:XK):Prop
 |mk (a dx:jF) (k:Int) (vx vy:V) (h0:vs=[.ref a,.int k,vx,vy]) (h1:H a=O (.ins C dx [])) (h2:∀H',SameX a H H'->H' a=O (.ins C dx<|cF k vx vy)->Q .non H'):U7 C vs H Q E
def Qe(C:jF):Sp:=λvs H Q E=>U7 C vs H Q E
theorem Ky{f:jF}{fd:jM}(F:FunD K "__init__" "Whole.__init__" B2 f fd)(R:RT mg K cT cW cU cL):A8 P w K mg jD CX0 1 f fd mE (SJ cW):=by
 have S:Al mE mE (Ah B2):=fsk;refine F.g S ?_;rintro vs H Q E ⟨a,dx,m,rfl,ha,q⟩;refine⟨Z,λcdv A jz s hr=>?_⟩;refine⟨_,(Ag<|CV Ai Ak Z),?_⟩;exact⟨_,Z,_,Z,a,cW,dx,_,Z,ha,R.iW.cl,R.n_mark,(by show 0<1000;decide),q⟩
theorem Ib{f:jF}{fd:jM}(F:Fun K "__init__" "Upright.__init__" CQ f fd)(R:RT mg K cT cW cU cL):A8 P w K mg jD CX0 1 f fd mn (Qe cU):=by
 have S:Al mn mn (Ah CQ):=fsk;refine F.g S ?_;rintro vs H Q E ⟨a,dx,k,vx,vy,rfl,ha,q⟩;refine⟨Z,λcdv A jz s hr=>?_⟩;refine⟨_,(Ac (CV Ai Ak Z)
  (Ac (CV Ai Ap Z)
  (Ag<|CV Ai A2 Z))),?_⟩
 refine⟨_,Z,_,Z,a,cU,dx,_,Z,ha,(R.iC nZ).cl,R.n_at nZ,(by show 0<1000;decide),?_⟩;refine⟨_,Z,_,Z,a,cU,dx,_,Z,Ae,(R.iC nZ).cl,R.n_first nZ,(by show 1<1000;decide),?_⟩;refine⟨_,Z,_,Z,a,cU,dx,_,Z,Ae,(R.iC nZ).cl,R.n_other nZ,(by show 2<1000;decide),?_⟩;exact q _ ((SameX.upd.trans SameX.upd).trans SameX.upd) Ae
theorem K1{f:jF}{fd:jM}(F:Fun K "__init__" "Level.__init__" Ea f fd)(R:RT mg K cT cW cU cL):A8 P w K mg jD CX0 1 f fd mn (Qe cL):=by
 have S:Al mn mn (Ah Ea):=fsk;refine F.g S ?_;rintro vs H Q E ⟨a,dx,k,vx,vy,rfl,ha,q⟩;refine⟨Z,λcdv A jz s hr=>?_⟩;refine⟨_,(Ac (CV Ai Ak Z)
  (Ac (CV Ai Ap Z)
  (Ag<|CV Ai A2 Z))),?_⟩
 refine⟨_,Z,_,Z,a,cL,dx,_,Z,ha,(R.iC oe).cl,R.n_at oe,(by show 0<1000;decide),?_⟩;refine⟨_,Z,_,Z,a,cL,dx,_,Z,Ae,(R.iC oe).cl,R.n_first oe,(by show 1<1000;decide),?_⟩;refine⟨_,Z,_,Z,a,cL,dx,_,Z,Ae,(R.iC oe).cl,R.n_other oe,(by show 2<1000;decide),?_⟩;exact q _ ((SameX.upd.trans SameX.upd).trans SameX.upd) Ae
theorem GU{H:Hp}{x dx:jF}{o1 o2:HO}(hx:H x=Y)(hd:H dx=Y):Same H (upd (upd H dx o1) x o2):=λb o e=>by
 rw[Af<|Ad e hx,Af<|Ad e hd];exact e
theorem fW(m:V):(wF m).lookup ("mark":j5)=O m:=by rw[AC,jP Z]
inductive En where
 |w (m:Option Int)
 |c (u:Bool) (k:Int)
noncomputable def ents:Tr->List En
 |.whole m=>[.w m]
 |.cut u k x y=>.c u k::(ents x++ents y)
noncomputable def Tr.nd:Tr->Nat
 |.whole _=>1
 |.cut _ _ x y=>x.nd+y.nd+1
theorem Fe:∀t:Tr,(ents t).length=t.nd
 |.whole _=>rfl
 |.cut _ _ x y=>by rw[ents,aL,aq,Fe x,Fe y];rfl
theorem T6:∀t:Tr,0<t.nd
 |.whole _=>Nat.one_pos
 |.cut _ _ x y=>Nat.succ_pos _
noncomputable def enV:En->LUz
 |.w m=>[.str "whole",EY m]
 |.c u k=>[.str<|wd u,.int k]
def Kp(H H':Hp):Prop:=∀b o,H b=O o->(∀xs,o≠.lst xs)->H' b=O o
theorem HD{H H':Hp}(s:Same H H'):Kp H H':=λb o e _=>s b o e
theorem Kp.trans{H H1 H2:Hp}(a:Kp H H1)(b:Kp H1 H2):Kp H H2:=λc o e n=>b c o (a c o e n) n
theorem Kp.put{H:Hp}{l:jF}{xs ys:LUz}(h:H l=O (.lst xs)):Kp H (upd H l<|.lst ys):=λb o e n=>by
 rw[Af<|AQ e h<|n xs];exact e
theorem Obj.kp{H H':Hp}(s:Kp H H'):∀{t:Tr}{v:V},Obj cW cU cL H t v->Obj cW cU cL H' t v
 |.whole m,v,h=>by
  obtain⟨a,dx,e,h⟩:=h;exact⟨a,dx,e,s _ _ h (by intro xs z;cases z)⟩
 |.cut u k x y,v,h=>by
  obtain⟨a,dx,vx,vy,e,h,h1,h2⟩:=h;exact⟨a,dx,vx,vy,e,s _ _ h (by intro xs z;cases z),Obj.kp s h1,Obj.kp s h2⟩
def EnsAt(H:Hp):LUz->List En->Prop
 |[],[]=>True
 |v::r,e::q=>(∃a,v=.ref a/\H a=O (.tup<|enV e))/\EnsAt H r q
 |_,_=>False
theorem EnsAt.len{H:Hp}:∀{vs:LUz}{es:List En},EnsAt H vs es->vs.length=es.length
 |[],[],_=>rfl
 |v::r,e'::q,h=>by rw[aL,aL,EnsAt.len h.2]
 |[],_::_,h=>h.elim
 |_::_,[],h=>h.elim
theorem EnsAt.get{H:Hp}:∀{vs:LUz}{es:List En}{i:Nat}{v:V},EnsAt H vs es->vs[i]?=O v->∃e a,es[i]?=O e/\v=.ref a/\H a=O (.tup<|enV e)
 |v::r,e::q,0,_,h,hv=>by
  cases hv;obtain⟨a,b,c⟩:=h.1;exact⟨e,a,Z,b,c⟩
 |v::r,e::q,i+1,_,h,hv=>EnsAt.get (i:=i) h.2 hv
 |[],[],_,_,_,hv=>by cases hv
 |[],_::_,_,_,h,_=>h.elim
 |_::_,[],_,_,h,_=>h.elim
noncomputable def FS(ws:List<|V×Tr):List En:=ws.reverse.flatMap λp=>ents p.2
theorem Ch(ws:List<|V×Tr)(p:V×Tr):FS (ws++[p])=ents p.2++FS ws:=by
 unfold FS;rw[List.reverse_append,List.reverse_singleton,List.singleton_append,eL]
noncomputable def cnt(ws:List<|V×Tr):Nat:=(ws.map λp=>p.2.nd).sum
theorem Fg(ws:List<|V×Tr)(p:V×Tr):cnt (ws++[p])=cnt ws+p.2.nd:=by
 unfold cnt;rw[af,bQ,di,List.sum_singleton]
theorem Na:∀ws:List<|V×Tr,ws.length<=cnt ws
 |[]=>ah 0
 |p::r=>by
  have:=Na r;have:=T6 p.2;show r.length+1<=p.2.nd+cnt r;lia
theorem GY(p:V×Tr)(r:List<|V×Tr):FS (p::r)=FS r++ents p.2:=by
 unfold FS;rw[eI,db,eL,List.flatMap_nil,aJ]
theorem JQ:∀ws:List<|V×Tr,(FS ws).length=cnt ws
 |[]=>rfl
 |p::r=>by
  rw[GY,aq,Fe,JQ r];show _=p.2.nd+cnt r;lia
theorem F6{α:Type}(ws:List α):ws=[]\/∃ws0 p,ws=ws0++[p]:=by
 by_cases h:ws=[]
 .exact .inl h
 .exact .inr ⟨ws.dropLast,ws.getLast h,(cZ h).symm⟩
theorem Ob{ws0:List<|V×Tr}{p:V×Tr}:((ws0++[p]).map (·.1))[((ws0++[p]).map (·.1)).length-1]?=O p.1:=by
 rw[aa,aq,aY,eA,ax,cA<|ah _,eP];rfl
theorem Ol{ws0:List<|V×Tr}{p:V×Tr}:((ws0++[p]).map (·.1)).dropLast=ws0.map (·.1):=by rw[af,di,cB]
noncomputable def wt:En->Int
 |.w _=>1
 |.c _ _=>-1
noncomputable def wts(es:List En):Int:=(es.map wt).sum
theorem LZ(a b:List En):wts (a++b)=wts a+wts b:=by
 unfold wts;rw[af,bQ]
theorem Nl(e:En)(b:List En):wts (e::b)=wt e+wts b:=by
 unfold wts;rw[aR,cI]
theorem D8:∀t:Tr,wts (ents t)=1
 |.whole _=>rfl
 |.cut u k x y=>by
  rw[ents,Nl,LZ,D8 x,D8 y];rfl
theorem ID:∀ws:List<|V×Tr,wts (FS ws)=ws.length
 |[]=>rfl
 |p::r=>by rw[GY,LZ,D8,ID r,aL];lia
theorem LY:∀(t:Tr)(a b:List En),ents t=a++b->b≠[]->1<=wts b
 |.whole m,a,b,h,hb=>by
  have h:[En.w m]=a++b:=h;cases a with
  |nil=>rw[cV]at h;rw[<-h];exact aW 1
  |cons e r=>
   have:=congrArg List.length h;simp only[aq,aL,cY]at this;exact absurd (fC.mp<|by lia) hb
 |.cut u k x y,a,b,h,hb=>by
  cases a with
  |nil=>
   rw[cV]at h;rw[<-h,D8];decide
  |cons e r=>
   rw[ents,eX]at h;have h2:=List.cons.inj h |>.2;rcases List.append_eq_append_iff.mp h2 with⟨c,hc,hd⟩|⟨c,hc,hd⟩
   .exact LY y c b hd hb
   .rw[hd,LZ,D8];by_cases e:c=[]
    .rw[e];decide
    .have:=LY x r c hc e;lia
theorem JT:∀(t t':Tr)(r r':List En),ents t++r=ents t'++r'->t=t'/\r=r'
 |.whole m,.whole m',r,r',h=>by
  have h:En.w m::r=En.w m'::r':=h;injection h with h1 h2;injection h1 with h1;exact⟨by rw[h1],h2⟩
 |.whole m,.cut u k x y,r,r',h=>by
  have h:En.w m::r=En.c u k::(ents x++ents y++r'):=h;injection h with h1 _;cases h1
 |.cut u k x y,.whole m,r,r',h=>by
  have h:En.c u k::(ents x++ents y++r)=En.w m::r':=h;injection h with h1 _;cases h1
 |.cut u k x y,.cut u' k' x' y',r,r',h=>by
  have h:En.c u k::(ents x++ents y++r)=En.c u' k'::(ents x'++ents y'++r'):=h;injection h with h1 h2;injection h1 with h3 h4;rw[aX,aX]at h2;obtain⟨e1,h5⟩:=JT x x' _ _ h2;obtain⟨e2,h6⟩:=JT y y' _ _ h5;exact⟨by rw[h3,h4,e1,e2],h6⟩
inductive HU(cW cU cL:jF)(vs:LUz)(H:Hp)(Q:VK)(E:XK):Prop
 |mk (u:Bool) (k:Int) (v1 v2:V) (y1 y2:Tr) (h0:vs=[.str<|wd u,.int k,v1,v2]) (h1:Obj cW cU cL H y1 v1) (h2:Obj cW cU cL H y2 v2) (h3:∀v' H',Same H H'->Obj cW cU cL H' (.cut u k y1 y2) v'->Q v' H'):HU cW cU cL vs H Q E
def F5(cW cU cL:jF):Sp:=λvs H Q E=>HU cW cU cL vs H Q E
theorem NN{f:jF}{fd:jM}(F:Fun K "cut_from" "cut_from" FG f fd)(T:Txt mg tk)(ic:Kg P w K mg jD 1 "Upright" cU mn<|Qe cU)(ie:Kg P w K mg jD 1 "Level" cL mn<|Qe cL):
  A8 P w K mg jD CX0 3 f fd mV (F5 cW cU cL):=by
 have S:Al mV mV (Ah FG):=fsk;refine F.g S ?_;rintro vs H Q E ⟨u,k,v1,v2,y1,y2,rfl,o1,o2,q⟩;refine⟨Z,λcdv A jz s hr=>?_⟩;refine⟨_,(Ac (AG (A5 Bu Ai<|AH (v:=.str "upright") Z T.gz ⟨_,Z⟩) (Ag<|Aq<|ES ic hr<|Aa Ak<|Aa Ap<|Aj A2) A6)
  (Ag<|Aq<|ES ie hr<|Aa Ak<|Aa Ap<|Aj A2)),?_⟩
 cases u with
 |true=>
  refine⟨_,Z,Z,_,Z,BK (E5 nZ nZ) ⟨_,Z,_,Z,_,Z,λx dx nx ndx nex=>⟨x,dx,k,v1,v2,Z,Ae,λH3 s3 e3=>⟨Z,?_⟩⟩⟩⟩;have s4:Same H H3:=λb o e=>s3 b o (Ad e nx)<|GU nx ndx b o e;exact q _ _ s4 (by exact⟨x,dx,v1,v2,Z,e3,o1.same s4,o2.same s4⟩)
 |false=>
  refine⟨_,Z,Z,_,Z,Bi (E5 oe nZ) ⟨_,Z,_,Z,_,Z,λx dx nx ndx nex=>⟨x,dx,k,v1,v2,Z,Ae,λH3 s3 e3=>⟨Z,?_⟩⟩⟩⟩;have s4:Same H H3:=λb o e=>s3 b o (Ad e nx)<|GU nx ndx b o e;exact q _ _ s4 (by exact⟨x,dx,v1,v2,Z,e3,o1.same s4,o2.same s4⟩)
inductive O8(K:jX)(cW cU cL:jF)(vs:LUz)(H:Hp)(Q:VK)(E:XK):Prop
 |mk (l:jF) (xs:LUz) (t:Tr) (h0:vs=[.ref l]) (h1:SqL K H l xs) (h2:EnsAt H xs<|ents t) (h3:t.nd<=400) (h4:∀v' H',Same H H'->Obj cW cU cL H' t v'->Q v' H'):O8 K cW cU cL vs H Q E
def Mi(K:jX)(cW cU cL:jF):Sp:=λvs H Q E=>O8 K cW cU cL vs H Q E
theorem Sh{es:List En}{i:Nat}{e:En}(hi:i<es.length)(h:es[es.length-1-i]?=O e):es.drop (es.length-(i+1))=e::es.drop (es.length-i):=by
 have hk:es.length-1-i<es.length:=by lia
 rw[show es.length-(i+1)=es.length-1-i by lia,cE hk];rw[ai hk]at h;rw[Option.some.inj h,show es.length-1-i+1=es.length-i by lia]
theorem M0{f:jF}{fd:jM}(F:Fun K "tree_from" "tree_from" EG f fd)(T:Txt mg tk)(R:RT mg K cT cW cU cL)(ig:Kg P w K mg jD 1 "Whole" cW mE<|SJ cW)(ii:Ar P w K mg jD 3 "cut_from" mV<|F5 cW cU cL):
  A8 P w K mg jD CX0 4 f fd ["entries"] (Mi K cW cU cL):=by
 have S:Al ["entries","done","word","number","first","other"] ["entries"] (Ah EG):=fsk;refine F.g S ?_;rintro vs H Q E ⟨l,xs,t,rfl,hl,hen,hn,q⟩;refine⟨Z,λcdv A jz s hr=>?_⟩;refine⟨_,(Ac (Az 1 S.nd<|AJ BF)
  (Ac (AF PassesOwn.never Z (UW Z T.z_reversed<|Aj Ai) (BS Z<|Au (AS 2 S.nd)<|Au (AS 3 S.nd) AY)<|Ag<|AG (A5 Bu Ap<|AH (v:=.str "whole") Z T.ja ⟨_,Z⟩) (Ag<|AM<|BU Ak<|Aj<|ES ig hr<|Aj A2)<|Ac (Az 4 S.nd<|EU bE cr cq J1 Ak)
  (Ac (Az 5 S.nd<|EU bE cr cq J1 Ak)
  (Ag<|AM<|BU Ak<|Aj<|Am ii hr<|Aa Ap<|Aa A2<|Aa AE<|Aj AX)))
  (Ag<|Aq<|EU bE cr cq J1 Ak))),?_⟩
 refine⟨Ay 0,λld hld=>⟨_,Z,l,xs,Z,(Same.new hld).seq hl,?_⟩⟩;have hxl:=hen.len;have hel:=Fe t;refine Vy (K:=K) (a:=l) (xs:=xs) (λi B H'=>∃(ws:List<|V×Tr)(x2 x3 x4 x5:Option V),B=[O<|.ref l,O<|.ref ld,x2,x3,x4,x5]/\Same H H'/\H' ld=O (.lst (ws.map (·.1)))/\(∀p∈ws,Obj cW cU cL H' p.2 p.1)/\(ents t).drop ((ents t).length-i)=FS ws)
  ⟨[],_,_,_,_,Z,Same.new hld,Ae,(λp hp=>(nomatch hp)),by rw[Nat.sub_zero,b5];rfl⟩ (λi B H' _ hp=>let ⟨_,_,_,_,_,_,s,_⟩:=hp;s.seq hl) ?_ ?_
 .rintro i v B H' hv hi ⟨ws,x2,x3,x4,x5,rfl,s1,hd,hob,heq⟩;obtain⟨e,a,he,rfl,ha⟩:=hen.get hv;have ha':=s1 _ _ ha;rw[hxl]at he hi;have hdr:=Sh hi he;have wl:ws.length<=400:=by
   have h1:=Na ws;have h2:=JQ ws;rw[<-heq,eW]at h2;lia
  cases e with
  |w m=>
   refine⟨a,_,Z,SqT.of ha',Z,_,_,Z,_,_,Z,Z,?_⟩;refine⟨_,Z,Z,_,Z,BK (jI Z) ?_⟩;refine⟨_,Z,.inl ⟨Z,_,SqL.of hd⟩,_,Z,λx dx nx ndx nex=>⟨x,dx,_,Z,Ae,Z,?_⟩⟩;have s2:Same H' (upd (upd (upd H' dx<|.own x) x<|.ins cW dx []) x<|.ins cW dx<|wF<|EY m):=λb o e=>by
    rw[Af<|Ad e nx];exact GU nx ndx b o e
   have e2:(upd (upd (upd H' dx<|.own x) x<|.ins cW dx []) x<|.ins cW dx<|wF<|EY m) x=O (.ins cW dx<|wF<|EY m):=Ae;generalize upd (upd (upd H' dx<|.own x) x<|.ins cW dx []) x (.ins cW dx<|wF<|EY m)=H2 at s2 e2 |-;have d2:=s2 _ _ hd;refine⟨ld,_,.ref x,Z,Z,d2,An (by rw[aa];lia),?_⟩;have k3:Kp H2 (upd H2 ld (.lst (ws.map (·.1)++[.ref x]))):=Kp.put d2;refine⟨ws++[(.ref x,.whole m)],_,_,_,_,Z,λb o e=>?_,?_,λp hp=>?_,?_⟩
   .rw[Af<|Ad e hld];exact s2 b o<|s1 b o e
   .rw[Ae,af];rfl
   .rcases aw.mp hp with hp|hp
    .exact((hob p hp).same s2).kp k3
    .rw[ae.mp hp,Obj];exact⟨x,dx,Z,k3 _ _ e2 (by intro xs z;cases z)⟩
   .rw[hdr,heq,Ch];rfl
  |c u k=>
   have big:2<=ws.length:=by
    have h1:=LY t ((ents t).take<|(ents t).length-(i+1)) ((ents t).drop<|(ents t).length-(i+1)) (List.take_append_drop _ _).symm (by rw[hdr];intro z;cases z);rw[hdr,heq,Nl,ID]at h1;have:wt (.c u k)=-1:=rfl;lia
   obtain rfl|⟨ws1,p1,rfl⟩:=F6 ws
   .exact absurd big (by decide)
   obtain rfl|⟨ws2,p2,rfl⟩:=F6 ws1
   .exact absurd big (by simp)
   refine⟨a,_,Z,SqT.of ha',Z,_,_,Z,_,_,Z,Z,?_⟩;refine⟨_,Z,Z,_,Z,Bi (Nn u) ?_⟩;refine⟨_,Z,.inl ⟨Z,_,SqL.of hd⟩,ld,_,p1.1,Z,Z,hd,Ob,?_⟩;rw[Ol];have k2:Kp H' (upd H' ld (.lst ((ws2++[p2]).map (·.1)))):=Kp.put hd;have s2:Same H (upd H' ld (.lst ((ws2++[p2]).map (·.1)))):=λb o e=>by rw[Af<|Ad e hld];exact s1 b o e
   have d2:(upd H' ld (.lst ((ws2++[p2]).map (·.1)))) ld=O (.lst ((ws2++[p2]).map (·.1))):=Ae;generalize upd H' ld (.lst ((ws2++[p2]).map (·.1)))=H2 at k2 s2 d2 |-;refine⟨_,Z,.inl ⟨Z,_,SqL.of d2⟩,ld,_,p2.1,Z,Z,d2,Ob,?_⟩;rw[Ol];have k3:Kp H2 (upd H2 ld (.lst (ws2.map (·.1)))):=Kp.put d2;have s3:Same H (upd H2 ld (.lst (ws2.map (·.1)))):=λb o e=>by rw[Af<|Ad e hld];exact s2 b o e
   have d3:(upd H2 ld (.lst (ws2.map (·.1)))) ld=O (.lst (ws2.map (·.1))):=Ae;generalize upd H2 ld (.lst (ws2.map (·.1)))=H3 at k3 s3 d3 |-;have kk:=k2.trans k3;refine⟨_,Z,.inl ⟨Z,_,SqL.of d3⟩,_,Z,_,Z,_,Z,_,Z,u,k,p1.1,p2.1,p1.2,p2.2,Z,(hob p1<|by simp).kp kk,(hob p2<|by simp).kp kk,λv' H4 s4 o4=>?_⟩;have d4:=s4 _ _ d3;rw[aq,aq]at wl;refine⟨ld,_,v',Z,Z,d4,An (by rw[aa];lia),?_⟩;have k5:Kp H4 (upd H4 ld (.lst (ws2.map (·.1)++[v']))):=Kp.put d4;refine⟨ws2++[(v',.cut u k p1.2 p2.2)],_,_,_,_,Z,λb o e=>?_,?_,λp hp=>?_,?_⟩
   .rw[Af<|Ad e hld];exact s4 b o<|s3 b o e
   .rw[Ae,af];rfl
   .rcases aw.mp hp with hp|hp
    .exact((((hob p<|by simp[hp]).kp kk).same s4)).kp k5
    .rw[ae.mp hp];exact o4.kp k5
   .rw[hdr,heq,Ch,Ch,Ch];show .c u k::(ents p1.2++(ents p2.2++FS ws2))=.c u k::(ents p1.2++ents p2.2)++FS ws2;rw[eX,aX]
 .rintro B H' ⟨ws,x2,x3,x4,x5,rfl,s1,hd,hob,heq⟩;rw[hxl,eP,dQ]at heq;have one:ws.length=1:=by
   have h1:=D8 t;rw[heq,ID]at h1;lia
  obtain⟨p,rfl⟩:=Vl one
  have hp:=hob p (by simp);have et:p.2=t:=by
   have h1:ents t++[]=ents p.2++[]:=by
    rw[aJ,heq];rfl
   exact(JT _ _ _ _ h1).1.symm
  refine⟨_,Z,.inl ⟨Z,_,SqL.of hd⟩,ld,_,p.1,Z,Z,hd,Z,?_⟩;rw[et]at hp;exact q _ _ (λb o e=>by rw[Af<|Ad e hld];exact s1 b o e)<|hp.kp<|Kp.put hd
abbrev Rk:=GB.Rc
abbrev LI:=List<|Int×Int
noncomputable abbrev Rk.vs(p:Rk):LUz:=[.int p.t,.int p.l,.int p.b,.int p.r]
noncomputable def Rk.len(p:Rk)(u:Bool):Int:=if u then p.r-p.l else p.b-p.t
noncomputable def Rk.fst(p:Rk)(u:Bool)(k:Int):Rk:=if u then⟨p.t,p.l,p.b,p.l+k⟩else⟨p.t,p.l,p.t+k,p.r⟩
noncomputable def Rk.oth(p:Rk)(u:Bool)(k:Int):Rk:=if u then⟨p.t,p.l+k,p.b,p.r⟩else⟨p.t+k,p.l,p.b,p.r⟩
def Dg(p:Rk)(t:Tr):Prop:=Fit t (p.r-p.l)<|p.b-p.t
theorem fitR_cut{p:Rk}{u:Bool}{k:Int}{x y:Tr}:Dg p (.cut u k x y)↔(1<=k/\k<p.len u)/\Dg (p.fst u k) x/\Dg (p.oth u k) y:=by
 unfold Dg Rk.len Rk.fst Rk.oth;cases u with
 |true=>
  show(1<=k/\k<p.r-p.l/\Fit x k (p.b-p.t)/\Fit y (p.r-p.l-k) (p.b-p.t))↔((1<=k/\k<p.r-p.l)/\Fit x (p.l+k-p.l) (p.b-p.t)/\Fit y (p.r-(p.l+k)) (p.b-p.t));rw[show p.l+k-p.l=k by lia,show p.r-(p.l+k)=p.r-p.l-k by lia];exact⟨λ⟨a,b,c,d⟩=>⟨⟨a,b⟩,c,d⟩,λ⟨⟨a,b⟩,c,d⟩=>⟨a,b,c,d⟩⟩
 |false=>
  show(1<=k/\k<p.b-p.t/\Fit x (p.r-p.l) k/\Fit y (p.r-p.l) (p.b-p.t-k))↔((1<=k/\k<p.b-p.t)/\Fit x (p.r-p.l) (p.t+k-p.t)/\Fit y (p.r-p.l) (p.b-(p.t+k)));rw[show p.t+k-p.t=k by lia,show p.b-(p.t+k)=p.b-p.t-k by lia];exact⟨λ⟨a,b,c,d⟩=>⟨⟨a,b⟩,c,d⟩,λ⟨⟨a,b⟩,c,d⟩=>⟨a,b,c,d⟩⟩
noncomputable def AI:Tr->Rk->List (Rk×Option Int)
 |.whole m,p=>[(p,m)]
 |.cut u k x y,p=>AI x (p.fst u k)++AI y (p.oth u k)
theorem DM:∀(t:Tr)(p:Rk),(AI t p).length=t.sz
 |.whole _,_=>rfl
 |.cut u k x y,p=>by rw[AI,aq,DM x,DM y];rfl
theorem CF:∀{t:Tr}{p:Rk},p.t<p.b->p.l<p.r->Dg p t->∀g∈AI t p,p.t<=g.1.t/\g.1.t<g.1.b/\g.1.b<=p.b/\p.l<=g.1.l/\g.1.l<g.1.r/\g.1.r<=p.r
 |.whole m,p,h1,h2,_,g,hg=>by
  rw[AI]at hg;rw[ae.mp hg];exact⟨aW _,h1,aW _,aW _,h2,aW _⟩
 |.cut u k x y,p,h1,h2,f,g,hg=>by
  rw[fitR_cut]at f;obtain⟨⟨a,b⟩,fx,fy⟩:=f;rw[AI,aw]at hg;cases u with
  |true=>
   have b:k<p.r-p.l:=b;rcases hg with hg|hg
   .have:=CF (p:=p.fst nZ k) h1 (show p.l<p.l+k by lia) fx g hg;have:p.t<=g.1.t/\g.1.t<g.1.b/\g.1.b<=p.b/\p.l<=g.1.l/\g.1.l<g.1.r/\g.1.r<=p.l+k:=this;lia
   .have:=CF (p:=p.oth nZ k) h1 (show p.l+k<p.r by lia) fy g hg;have:p.t<=g.1.t/\g.1.t<g.1.b/\g.1.b<=p.b/\p.l+k<=g.1.l/\g.1.l<g.1.r/\g.1.r<=p.r:=this;lia
  |false=>
   have b:k<p.b-p.t:=b;rcases hg with hg|hg
   .have:=CF (p:=p.fst oe k) (show p.t<p.t+k by lia) h2 fx g hg;have:p.t<=g.1.t/\g.1.t<g.1.b/\g.1.b<=p.t+k/\p.l<=g.1.l/\g.1.l<g.1.r/\g.1.r<=p.r:=this;lia
   .have:=CF (p:=p.oth oe k) (show p.t+k<p.b by lia) h2 fy g hg;have:p.t+k<=g.1.t/\g.1.t<g.1.b/\g.1.b<=p.b/\p.l<=g.1.l/\g.1.l<g.1.r/\g.1.r<=p.r:=this;lia
theorem Vz{t:Tr}{ww hh:Int}(f:Fit t ww hh):Dg ⟨0,0,hh,ww⟩ t:=by
 show Fit t (ww-0) (hh-0);rw[bP,bP];exact f
theorem Vt{t:Tr}{ww hh:Int}(w1:1<=ww)(h1:1<=hh)(f:Fit t ww hh):∀g∈AI t ⟨0,0,hh,ww⟩,GB.Rc.In ww hh g.1:=λg hg=>by
 have:0<=g.1.t/\g.1.t<g.1.b/\g.1.b<=hh/\0<=g.1.l/\g.1.l<g.1.r/\g.1.r<=ww:=CF (p:=⟨0,0,hh,ww⟩) (show(0:Int)<hh by lia) (show(0:Int)<ww by lia) (Vz f) g hg;exact⟨this.1,this.2.1,this.2.2.1,this.2.2.2.1,this.2.2.2.2.1,this.2.2.2.2.2⟩
abbrev PT:=jF×jF×Rk×Option Int
noncomputable abbrev pcs(ts:List PT):LUz:=ts.map λt=>V.ref t.1
noncomputable abbrev cons(ts:List PT):List (Rk×Option Int):=ts.map λt=>t.2.2
def PcO(H:Hp)(ts:List PT):Prop:=∀t∈ts,H t.1=O (.tup [.ref t.2.1,EY t.2.2.2])/\H t.2.1=O (.tup t.2.2.1.vs)
theorem PcO.same{H H':Hp}{ts:List PT}(s:Same H H')(h:PcO H ts):PcO H' ts:=λt ht=>⟨s _ _ (h t ht).1,s _ _ (h t ht).2⟩
inductive Ro(vs:LUz)(H:Hp)(Q:VK)(E:XK):Prop
 |mk (a:jF) (p:Rk) (u:Bool) (k:Int) (h0:vs=[.ref a,.str<|wd u,.int k]) (h1:H a=O (.tup p.vs)) (h2:∀x,H x=Y->Q (.ref x) (upd H x<|.tup (p.fst u k).vs)):Ro vs H Q E
def SK:Sp:=λvs H Q E=>Ro vs H Q E
inductive Rj(vs:LUz)(H:Hp)(Q:VK)(E:XK):Prop
 |mk (a:jF) (p:Rk) (u:Bool) (k:Int) (h0:vs=[.ref a,.str<|wd u,.int k]) (h1:H a=O (.tup p.vs)) (h2:∀x,H x=Y->Q (.ref x) (upd H x<|.tup (p.oth u k).vs)):Rj vs H Q E
def SG:Sp:=λvs H Q E=>Rj vs H Q E
theorem Jt{f:jF}{fd:jM}(F:Fun K "first_piece" "first_piece" Dv f fd)(T:Txt mg tk):A8 P w K mg jD CX0 1 f fd mq SK:=by
 have S:Al mq mq (Ah Dv):=fsk;refine F.g S ?_;rintro vs H Q E ⟨a,p,u,k,rfl,ha,q⟩;refine⟨Z,λcdv A jz s hr=>?_⟩;refine⟨_,(Ac (AG (A5 Bu Ak<|AH (v:=.str "upright") Z T.gz ⟨_,Z⟩) (Ag<|Aq<|A4<|Aa (Av As Ai Ab)<|Aa (Av As Ai Ab)<|Aa (Av As Ai Ab)<|Aj<|Ao A7 (Av As Ai Ab) Ap) A6)
  (Ag<|Aq<|A4<|Aa (Av As Ai Ab)<|Aa (Av As Ai Ab)<|Aa (Ao A7 (Av As Ai Ab) Ap)<|Aj<|Av As Ai Ab)),?_⟩
 cases u with
 |true=>exact⟨_,Z,Z,_,Z,BK (E5 nZ nZ) ⟨_,Z,a,_,_,_,Z,Z,SqT.of ha,at0,_,Z,a,_,_,_,Z,Z,SqT.of ha,at1,_,Z,a,_,_,_,Z,Z,SqT.of ha,at2,_,Z,a,_,_,_,Z,Z,SqT.of ha,at1,_,Z,_,_,Z,Z,Ay 4,q⟩⟩
 |false=>exact⟨_,Z,Z,_,Z,Bi (E5 oe nZ) ⟨_,Z,a,_,_,_,Z,Z,SqT.of ha,at0,_,Z,a,_,_,_,Z,Z,SqT.of ha,at1,_,Z,a,_,_,_,Z,Z,SqT.of ha,at0,_,Z,_,_,Z,Z,_,Z,a,_,_,_,Z,Z,SqT.of ha,at3,Ay 4,q⟩⟩
theorem Jp{f:jF}{fd:jM}(F:Fun K "other_piece" "other_piece" Dr f fd)(T:Txt mg tk):A8 P w K mg jD CX0 1 f fd mq SG:=by
 have S:Al mq mq (Ah Dr):=fsk;refine F.g S ?_;rintro vs H Q E ⟨a,p,u,k,rfl,ha,q⟩;refine⟨Z,λcdv A jz s hr=>?_⟩;refine⟨_,(Ac (AG (A5 Bu Ak<|AH (v:=.str "upright") Z T.gz ⟨_,Z⟩) (Ag<|Aq<|A4<|Aa (Av As Ai Ab)<|Aa (Ao A7 (Av As Ai Ab) Ap)<|Aa (Av As Ai Ab)<|Aj<|Av As Ai Ab) A6)
  (Ag<|Aq<|A4<|Aa (Ao A7 (Av As Ai Ab) Ap)<|Aa (Av As Ai Ab)<|Aa (Av As Ai Ab)<|Aj<|Av As Ai Ab)),?_⟩
 cases u with
 |true=>exact⟨_,Z,Z,_,Z,BK (E5 nZ nZ) ⟨_,Z,a,_,_,_,Z,Z,SqT.of ha,at0,_,Z,a,_,_,_,Z,Z,SqT.of ha,at1,_,Z,_,_,Z,Z,_,Z,a,_,_,_,Z,Z,SqT.of ha,at2,_,Z,a,_,_,_,Z,Z,SqT.of ha,at3,Ay 4,q⟩⟩
 |false=>exact⟨_,Z,Z,_,Z,Bi (E5 oe nZ) ⟨_,Z,a,_,_,_,Z,Z,SqT.of ha,at0,_,Z,_,_,Z,Z,_,Z,a,_,_,_,Z,Z,SqT.of ha,at1,_,Z,a,_,_,_,Z,Z,SqT.of ha,at2,_,Z,a,_,_,_,Z,Z,SqT.of ha,at3,Ay 4,q⟩⟩
def PsAt(H:Hp)(ws:List<|jF×Rk×Tr):Prop:=∀p∈ws,H p.1=O (.tup p.2.1.vs)
noncomputable abbrev trs(ws:List<|jF×Rk×Tr):List (V×Tr):=ws.map λp=>(V.ref p.1,p.2.2)
noncomputable abbrev B5(ws:List<|jF×Rk×Tr):LUz:=ws.map λp=>V.ref p.1
theorem PsAt.kp{H H':Hp}{ws:List<|jF×Rk×Tr}(h:PsAt H ws)(k:Kp H H'):PsAt H' ws:=λp hp=>k _ _ (h p hp) (by intro xs z;cases z)
theorem RW{ws0:List<|jF×Rk×Tr}{p:jF×Rk×Tr}:(B5<|ws0++[p])[(B5<|ws0++[p]).length-1]?=O (.ref p.1):=by
 rw[aa,aq,aY,eA,ax,cA<|ah _,eP];rfl
theorem Sg{ws0:List<|jF×Rk×Tr}{p:jF×Rk×Tr}:(B5<|ws0++[p]).dropLast=B5 ws0:=by
 show(List.map (λp=>V.ref p.1)<|ws0++[p]).dropLast=_;rw[af,di,cB]
theorem Ck(ws:List<|jF×Rk×Tr)(p:jF×Rk×Tr):trs (ws++[p])=trs ws++[(V.ref p.1,p.2.2)]:=by
 show List.map (λp=>(V.ref p.1,p.2.2)) (ws++[p])=_;rw[af];rfl
theorem La(ws:List<|jF×Rk×Tr)(p:jF×Rk×Tr):B5 (ws++[p])=B5 ws++[V.ref p.1]:=by
 show List.map (λp=>V.ref p.1) (ws++[p])=_;rw[af];rfl
theorem Tj(ts:List PT)(t:PT):pcs (ts++[t])=pcs ts++[V.ref t.1]:=by
 show List.map (λp=>V.ref p.1) (ts++[t])=_;rw[af];rfl
theorem Sk(ts:List PT)(t:PT):cons (ts++[t])=cons ts++[t.2.2]:=by
 show List.map (λp=>p.2.2) (ts++[t])=_;rw[af];rfl
noncomputable def Rk.lo(p:Rk)(u:Bool):Int:=if u then p.l else p.t
noncomputable def Rk.hi(p:Rk)(u:Bool):Int:=if u then p.r else p.b
theorem EO{p:Rk}{u:Bool}:p.len u=p.hi u-p.lo u:=by cases u<;>rfl
theorem Qn{p:Rk}{u:Bool}{k a:Int}:(p.fst u k).fst u a=p.fst u a:=by cases u<;>rfl
theorem Qm{p:Rk}{u:Bool}{k a:Int}:(p.fst u k).oth u a=(p.oth u a).fst u (k-a):=by
 cases u
 .show(⟨p.t+a,p.l,p.t+k,p.r⟩:Rk)=⟨p.t+a,p.l,p.t+a+(k-a),p.r⟩;rw[show p.t+a+(k-a)=p.t+k by lia]
 .show(⟨p.t,p.l+a,p.b,p.l+k⟩:Rk)=⟨p.t,p.l+a,p.b,p.l+a+(k-a)⟩;rw[show p.l+a+(k-a)=p.l+k by lia]
theorem Ql{p:Rk}{u:Bool}{k a:Int}:(p.oth u a).oth u (k-a)=p.oth u k:=by
 cases u
 .show(⟨p.t+a+(k-a),p.l,p.b,p.r⟩:Rk)=⟨p.t+k,p.l,p.b,p.r⟩;rw[show p.t+a+(k-a)=p.t+k by lia]
 .show(⟨p.t,p.l+a+(k-a),p.b,p.r⟩:Rk)=⟨p.t,p.l+k,p.b,p.r⟩;rw[show p.l+a+(k-a)=p.l+k by lia]
theorem W1{p:Rk}{u v:Bool}{k a:Int}(h:¬v=u):(p.fst v k).fst u a=(p.fst u a).fst v k/\(p.fst v k).oth u a=(p.oth u a).fst v k/\(p.oth v k).fst u a=(p.fst u a).oth v k/\(p.oth v k).oth u a=(p.oth u a).oth v k/\(p.fst v k).len u=p.len u/\(p.oth v k).len u=p.len u/\(p.fst v k).lo u=p.lo u/\(p.oth v k).lo u=p.lo u/\(p.fst u a).len v=p.len v/\(p.oth u a).len v=p.len v:=by
 cases u<;>cases v<;>first|exact absurd Z h|exact⟨Z,Z,Z,Z,Z,Z,Z,Z,Z,Z⟩
theorem RA{p:Rk}{u:Bool}{k:Int}:(p.fst u k).len u=k/\(p.oth u k).len u=p.len u-k/\(p.fst u k).lo u=p.lo u/\(p.oth u k).lo u=p.lo u+k/\(p.fst u k).hi u=p.lo u+k:=by
 cases u
 .exact⟨show p.t+k-p.t=k by lia,show p.b-(p.t+k)=p.b-p.t-k by lia,Z,Z,Z⟩
 .exact⟨show p.l+k-p.l=k by lia,show p.r-(p.l+k)=p.r-p.l-k by lia,Z,Z,Z⟩
abbrev Rk.ok(p:Rk):Prop:=p.t<p.b/\p.l<p.r
theorem N2{p:Rk}{u:Bool}{k:Int}(h:p.ok)(a:1<=k)(b:k<p.len u):(p.fst u k).ok/\(p.oth u k).ok:=by
 cases u with
 |true=>
  have b:k<p.r-p.l:=b;exact⟨⟨h.1,show p.l<p.l+k by lia⟩,h.1,show p.l+k<p.r by lia⟩
 |false=>
  have b:k<p.b-p.t:=b;exact⟨⟨show p.t<p.t+k by lia,h.2⟩,show p.t+k<p.b by lia,h.2⟩
def Thr:Tr->Bool->Int->Prop
 |.whole _,_,_=>False
 |.cut v k x y,u,a=>if v=u then(if a<k then Thr x u a else if k<a then Thr y u (a-k)else True)else Thr x u a/\Thr y u a
noncomputable def ahd:Tr->Bool->Int->Tr
 |.whole m,_,_=>.whole m
 |.cut v k x y,u,a=>if v=u then(if a<k then ahd x u a else if k<a then .cut v k x (ahd y u<|a-k)else x)else .cut v k (ahd x u a)<|ahd y u a
noncomputable def bhd:Tr->Bool->Int->Tr
 |.whole m,_,_=>.whole m
 |.cut v k x y,u,a=>if v=u then(if a<k then .cut v (k-a) (bhd x u a) y else if k<a then bhd y u (a-k)else y)else .cut v k (bhd x u a)<|bhd y u a
theorem SA:∀t:Tr,1<=t.sz
 |.whole _=>ah _
 |.cut _ _ x y=>by
  have:=SA x;rw[Tr.sz];lia
theorem DN:∀{t:Tr}{p:Rk}{u:Bool}{a:Int},Dg p t->Thr t u a->(1<=a/\a<p.len u)->Dg (p.fst u a) (ahd t u a)/\Dg (p.oth u a) (bhd t u a)
 |.whole _,p,u,a,_,h,_=>h.elim
 |.cut v k x y,p,u,a,f,h,⟨a1,a2⟩=>by
  rw[fitR_cut]at f;obtain⟨⟨k1,k2⟩,fx,fy⟩:=f;rw[Thr]at h;rw[ahd,bhd];by_cases e:v=u
  .subst e;rw[jP Z]at h;rw[jP Z,jP Z];obtain⟨s1,s2,_,_,_⟩:=RA (p:=p) (u:=v) (k:=k);by_cases c:a<k
   .rw[jP c]at h;rw[jP c,jP c,fitR_cut];obtain⟨i1,i2⟩:=DN fx h ⟨a1,by rw[s1];exact c⟩;rw[Qn]at i1;rw[Qm]at i2;refine⟨i1,⟨by lia,?_⟩,i2,by rw[Ql];exact fy⟩;have:=(RA (p:=p) (u:=v) (k:=a)).2.1;lia
   .rw[jK c]at h;rw[jK c,jK c];by_cases c2:k<a
    .rw[jP c2]at h;rw[jP c2,jP c2,fitR_cut];obtain⟨i1,i2⟩:=DN fy h ⟨by lia,by rw[s2];lia⟩;rw[<-Qm]at i1;rw[Ql]at i2;refine⟨⟨⟨k1,?_⟩,by rw[Qn];exact fx,i1⟩,i2⟩;have:=(RA (p:=p) (u:=v) (k:=a)).1;lia
    .rw[jK c2,jK c2];have:a=k:=by lia
     rw[this];exact⟨fx,fy⟩
  .rw[jK e]at h;rw[jK e,jK e,fitR_cut,fitR_cut];obtain⟨e1,e2,e3,e4,e5,e6,_,_,e9,e10⟩:=W1 (p:=p) (u:=u) (v:=v) (k:=k) (a:=a) e;obtain⟨i1,i2⟩:=DN fx h.1 ⟨a1,by rw[e5];exact a2⟩;obtain⟨j1,j2⟩:=DN fy h.2 ⟨a1,by rw[e6];exact a2⟩;rw[e1]at i1;rw[e2]at i2;rw[e3]at j1;rw[e4]at j2;exact⟨⟨⟨k1,by rw[e9];exact k2⟩,i1,j1⟩,⟨k1,by rw[e10];exact k2⟩,i2,j2⟩
theorem XT{α:Type}{A nY C D:List α}:((A++nY)++(C++D)).Perm ((A++C)++(nY++D)):=by
 rw[aX,aX];refine List.Perm.append_left A ?_;rw[<-aX,<-aX];exact List.Perm.append_right D List.perm_append_comm
theorem Fb:∀{t:Tr}{p:Rk}{u:Bool}{a:Int},Thr t u a->(AI t p).Perm (AI (ahd t u a) (p.fst u a)++AI (bhd t u a) (p.oth u a))
 |.whole _,p,u,a,h=>h.elim
 |.cut v k x y,p,u,a,h=>by
  rw[Thr]at h;rw[ahd,bhd];by_cases e:v=u
  .subst e;rw[jP Z]at h;rw[jP Z,jP Z];by_cases c:a<k
   .rw[jP c]at h;rw[jP c,jP c,AI,AI,Ql,<-Qm,<-aX];have:=Fb (p:=p.fst v k) h;rw[Qn]at this;exact this.append_right _
   .rw[jK c]at h;rw[jK c,jK c];by_cases c2:k<a
    .rw[jP c2]at h;rw[jP c2,jP c2,AI,AI,Qn,Qm,aX];have:=Fb (p:=p.oth v k) h;rw[Ql]at this;exact this.append_left _
    .rw[jK c2,jK c2];have:a=k:=by lia
     rw[this,AI]
  .rw[jK e]at h;rw[jK e,jK e,AI,AI,AI];obtain⟨e1,e2,e3,e4,_⟩:=W1 (p:=p) (u:=u) (v:=v) (k:=k) (a:=a) e;have i:=Fb (p:=p.fst v k) h.1;have j:=Fb (p:=p.oth v k) h.2;rw[e1,e2]at i;rw[e3,e4]at j;exact(i.append j).trans XT
def brk(u:Bool)(line:Int)(g:Rk×Option Int):Prop:=g.1.lo u<line/\line<g.1.hi u
theorem IH:∀{t:Tr}{p:Rk}{u:Bool}{a:Int},Dg p t->1<=a->a<p.len u->(∀g∈AI t p,¬brk u (p.lo u+a) g)->Thr t u a
 |.whole m,p,u,a,_,h1,h2,h=>by
  rw[AI]at h;rw[EO]at h2;exact absurd (show p.lo u<p.lo u+a/\p.lo u+a<p.hi u by lia)<|h (p,m)<|ae.mpr Z
 |.cut v k x y,p,u,a,f,h1,h2,h=>by
  rw[fitR_cut]at f;obtain⟨⟨k1,k2⟩,fx,fy⟩:=f;rw[AI]at h;rw[Thr];by_cases e:v=u
  .subst e;rw[jP Z];obtain⟨s1,s2,s3,s4,_⟩:=RA (p:=p) (u:=v) (k:=k);by_cases c:a<k
   .rw[jP c];exact IH fx h1 (by rw[s1];exact c) λg hg=>by rw[s3];exact h g<|aw.mpr<|.inl hg
   .rw[jK c];by_cases c2:k<a
    .rw[jP c2];exact IH fy (by lia) (by rw[s2];lia) λg hg=>by rw[s4,show p.lo v+k+(a-k)=p.lo v+a by lia];exact h g<|aw.mpr<|.inr hg
    .rw[jK c2];trivial
  .rw[jK e];obtain⟨_,_,_,_,e5,e6,e7,e8,_⟩:=W1 (p:=p) (u:=u) (v:=v) (k:=k) (a:=a) e;exact⟨IH fx h1 (by rw[e5];exact h2) λg hg=>by rw[e7];exact h g<|aw.mpr<|.inl hg,IH fy h1 (by rw[e6];exact h2) λg hg=>by rw[e8];exact h g<|aw.mpr<|.inr hg⟩
theorem Lx{t:Tr}{p:Rk}(h:p.ok)(f:Dg p t){g:Rk×Option Int}(hg:g∈AI t p)(u:Bool):p.lo u<=g.1.lo u/\g.1.lo u<g.1.hi u/\g.1.hi u<=p.hi u:=by
 have:=CF h.1 h.2 f g hg;cases u
 .exact⟨this.1,this.2.1,this.2.2.1⟩
 .exact⟨this.2.2.2.1,this.2.2.2.2.1,this.2.2.2.2.2⟩
theorem FT{x y:Tr}{p:Rk}{u:Bool}{k:Int}(h:p.ok)(k1:1<=k)(k2:k<p.len u)(fx:Dg (p.fst u k) x)(fy:Dg (p.oth u k) y):
  ((AI x (p.fst u k)++AI y (p.oth u k)).filter λg=>og<|g.1.lo u<p.lo u+k)=AI x (p.fst u k)/\((AI x (p.fst u k)++AI y (p.oth u k)).filter λg=>og<|p.lo u+k<=g.1.lo u)=AI y (p.oth u k)/\∀g∈AI x (p.fst u k)++AI y (p.oth u k),¬brk u (p.lo u+k) g:=by
 obtain⟨o1,o2⟩:=N2 h k1 k2;obtain⟨_,_,s3,s4,s5⟩:=RA (p:=p) (u:=u) (k:=k);have i1:∀g∈AI x (p.fst u k),g.1.lo u<p.lo u+k/\g.1.hi u<=p.lo u+k:=λg hg=>by
  have:=Lx o1 fx hg u;rw[s5]at this;lia
 have i2:∀g∈AI y (p.oth u k),p.lo u+k<=g.1.lo u:=λg hg=>by
  have:=Lx o2 fy hg u;rw[s4]at this;lia
 refine⟨?_,?_,λg hg z=>?_⟩
 .rw[bt,cj.mpr λg hg=>jI (i1 g hg).1,cM.mpr (λg hg z=>by have:=jY z;have:=i2 g hg;lia),aJ]
 .rw[bt,cj.mpr λg hg=>jI<|i2 g hg,cM.mpr (λg hg z=>by have:=jY z;have:=i1 g hg;lia),cV]
 .obtain⟨z1,z2⟩:=z;rcases aw.mp hg with hg|hg
  .have:=i1 g hg;lia
  .have:=i2 g hg;lia
theorem Ld{t:Tr}{p:Rk}{u:Bool}{a:Int}{L:List<|Rk×Option Int}(h:p.ok)(f:Dg p t)(e:L.Perm<|AI t p)(a1:1<=a)(a2:a<p.len u)(hb:∀g∈L,¬brk u (p.lo u+a) g):
  Thr t u a/\Dg (p.fst u a) (ahd t u a)/\Dg (p.oth u a) (bhd t u a)/\(L.filter λg=>og<|g.1.lo u<p.lo u+a).Perm (AI (ahd t u a)<|p.fst u a)/\(L.filter λg=>og<|p.lo u+a<=g.1.lo u).Perm (AI (bhd t u a)<|p.oth u a):=by
 have th:=IH f a1 a2 λg hg=>hb g<|e.mem_iff.mpr hg;obtain⟨f1,f2⟩:=DN f th ⟨a1,a2⟩;obtain⟨q1,q2,_⟩:=FT h a1 a2 f1 f2;have:=e.trans<|Fb (p:=p) th;refine⟨th,f1,f2,?_,?_⟩
 .have:=this.filter λg=>og<|g.1.lo u<p.lo u+a;rw[q1]at this;exact this
 .have:=this.filter λg=>og<|p.lo u+a<=g.1.lo u;rw[q2]at this;exact this
theorem JL:∀{t:Tr}{p:Rk},p.t<p.b->p.l<p.r->Dg p t->((AI t p).map (·.1)).Pairwise GB.Apart
 |.whole m,p,_,_,_=>by rw[AI];exact fB _ _
 |.cut u k x y,p,h1,h2,f=>by
  rw[fitR_cut]at f;obtain⟨⟨a,b⟩,fx,fy⟩:=f;obtain⟨⟨a1,a2⟩,b1,b2⟩:((p.fst u k).t<(p.fst u k).b/\(p.fst u k).l<(p.fst u k).r)/\(p.oth u k).t<(p.oth u k).b/\(p.oth u k).l<(p.oth u k).r:=by
   cases u with
   |true=>
    have b:k<p.r-p.l:=b;exact⟨⟨h1,show p.l<p.l+k by lia⟩,h1,show p.l+k<p.r by lia⟩
   |false=>
    have b:k<p.b-p.t:=b;exact⟨⟨show p.t<p.t+k by lia,h2⟩,show p.t+k<p.b by lia,h2⟩
  rw[AI,af,List.pairwise_append];refine⟨JL a1 a2 fx,JL b1 b2 fy,λq hq q' hq' r c z z'=>?_⟩;obtain⟨g,hg,rfl⟩:=ao.mp hq;obtain⟨g',hg',rfl⟩:=ao.mp hq';have i1:=CF a1 a2 fx g hg;have i2:=CF b1 b2 fy g' hg';obtain⟨z1,z2,z3,z4⟩:=z;obtain⟨z5,z6,z7,z8⟩:=z';cases u with
  |true=>
   have i1:p.t<=g.1.t/\g.1.t<g.1.b/\g.1.b<=p.b/\p.l<=g.1.l/\g.1.l<g.1.r/\g.1.r<=p.l+k:=i1;have i2:p.t<=g'.1.t/\g'.1.t<g'.1.b/\g'.1.b<=p.b/\p.l+k<=g'.1.l/\g'.1.l<g'.1.r/\g'.1.r<=p.r:=i2;lia
  |false=>
   have i1:p.t<=g.1.t/\g.1.t<g.1.b/\g.1.b<=p.t+k/\p.l<=g.1.l/\g.1.l<g.1.r/\g.1.r<=p.r:=i1;have i2:p.t+k<=g'.1.t/\g'.1.t<g'.1.b/\g'.1.b<=p.b/\p.l<=g'.1.l/\g'.1.l<g'.1.r/\g'.1.r<=p.r:=i2;lia
theorem T5:∀t:Tr,t.nd+1=2*t.sz
 |.whole _=>by rw[Tr.nd,Tr.sz]
 |.cut _ _ x y=>by have:=T5 x;have:=T5 y;rw[Tr.nd,Tr.sz];lia
theorem none_of{H H':Hp}{l:jF}(s:Same H H')(h:H' l=Y):H l=Y:=by
 cases e:H l with
 |none=>rfl
 |some o=>rw[s _ _ e]at h;cases h
noncomputable def sd(u:Bool):Int:=if u then 1 else 0
theorem Ov{p:Rk}{u:Bool}:atI p.vs (sd u)=O (.int<|p.lo u):=by cases u<;>rfl
theorem U0{p:Rk}{u:Bool}:atI p.vs (sd u+2)=O (.int<|p.hi u):=by cases u<;>rfl
theorem Mr{p:Rk}(h:p.ok)(u:Bool):p.lo u<p.hi u:=by
 cases u
 .exact h.1
 .exact h.2
theorem Q4{ts:List PT}{i:Nat}{x:V}(h:(pcs ts)[i]?=O x):∃u,ts[i]?=O u/\x=.ref u.1:=by
 rw[ax]at h;cases e:ts[i]? with
 |none=>rw[e]at h;cases h
 |some u=>rw[e]at h;exact⟨u,Z,(Option.some.inj h).symm⟩
theorem XA{p:Rk}{u:Bool}{a:Int}(h:∀v,0<=p.lo v/\p.hi v<=12)(a1:1<=a)(a2:a<p.len u):(∀v,0<=(p.fst u a).lo v/\(p.fst u a).hi v<=12)/\(∀v,0<=(p.oth u a).lo v/\(p.oth u a).hi v<=12)/\(p.fst u a).len nZ+(p.fst u a).len oe<p.len nZ+p.len oe/\(p.oth u a).len nZ+(p.oth u a).len oe<p.len nZ+p.len oe:=by
 obtain⟨x1,x2⟩:=h nZ;obtain⟨y1,y2⟩:=h oe;have x1:0<=p.l:=x1;have x2:p.r<=12:=x2;have y1:0<=p.t:=y1;have y2:p.b<=12:=y2;cases u with
 |true=>
  have a2:a<p.r-p.l:=a2;refine⟨λv=>?_,λv=>?_,?_,?_⟩
  .cases v
   .exact⟨y1,y2⟩
   .exact⟨x1,show p.l+a<=12 by lia⟩
  .cases v
   .exact⟨y1,y2⟩
   .exact⟨show 0<=p.l+a by lia,x2⟩
  .show p.l+a-p.l+(p.b-p.t)<p.r-p.l+(p.b-p.t);lia
  .show p.r-(p.l+a)+(p.b-p.t)<p.r-p.l+(p.b-p.t);lia
 |false=>
  have a2:a<p.b-p.t:=a2;refine⟨λv=>?_,λv=>?_,?_,?_⟩
  .cases v
   .exact⟨y1,show p.t+a<=12 by lia⟩
   .exact⟨x1,x2⟩
  .cases v
   .exact⟨show 0<=p.t+a by lia,y2⟩
   .exact⟨x1,x2⟩
  .show p.r-p.l+(p.t+a-p.t)<p.r-p.l+(p.b-p.t);lia
  .show p.r-p.l+(p.b-(p.t+a))<p.r-p.l+(p.b-p.t);lia
def Su(en:Rk->En)(D:Rk->Prop):Tr->Rk->Prop
 |.whole m,p=>D p/\en p=.w m
 |.cut u k x y,p=>D p/\en p=.c u k/\Su en D x (p.fst u k)/\Su en D y (p.oth u k)
noncomputable def Df(u:Bool)(a:Int)(r:Rk):Bool:=og (r.lo u<a)&&og (a<r.hi u)
theorem brkR_iff{u:Bool}{a:Int}{r:Rk}:Df u a r=nZ↔r.lo u<a/\a<r.hi u:=by
 unfold Df;rw[av,jO,jO]
noncomputable def GV(rs:List Rk)(u:Bool)(lo:Int):Nat->List Int
 |0=>[]
 |n+1=>GV rs u lo n++if rs.any (Df u<|lo+1+n)=nZ then []else [lo+1+n]
noncomputable def lns(rs:List Rk)(p:Rk)(u:Bool):List Int:=GV rs u (p.lo u) (p.hi u-(p.lo u+1)).toNat
theorem NY{rs:List Rk}{u:Bool}{lo:Int}:∀{n:Nat}{a:Int},a∈GV rs u lo n↔lo<a/\a<lo+1+n/\∀r∈rs,¬(r.lo u<a/\a<r.hi u)
 |0,a=>by
  rw[GV];exact⟨λh=>absurd h aZ,λh=>by lia⟩
 |n+1,a=>by
  rw[GV,aw,NY]
  constructor
  .rintro(⟨h1,h2,h3⟩|h)
   .exact⟨h1,by lia,h3⟩
   .split at h
    .cases h
    .rename_i hn;cases ae.mp h;refine⟨by lia,by lia,λr hr z=>hn ?_⟩;exact bL.mpr ⟨r,hr,brkR_iff.mpr z⟩
  .rintro⟨h1,h2,h3⟩;by_cases e:a=lo+1+n
   .right
    subst e;rw[jK (λz=>by obtain⟨r,hr,hz⟩:=bL.mp z;exact h3 r hr<|brkR_iff.mp hz)];exact ae.mpr Z
   .exact .inl ⟨h1,by lia,h3⟩
theorem NZ{rs:List Rk}{u:Bool}{lo:Int}:∀n:Nat,(GV rs u lo n).length<=n
 |0=>ah _
 |n+1=>by
  have:=NZ (rs:=rs) (u:=u) (lo:=lo) n;rw[GV,aq];split<;>simp<;>lia
theorem Ix{rs:List Rk}{p:Rk}{u:Bool}{a:Int}(h:p.ok):a∈lns rs p u↔p.lo u<a/\a<p.hi u/\∀r∈rs,¬(r.lo u<a/\a<r.hi u):=by
 have:p.lo u<p.hi u:=Mr h u;unfold lns;rw[NY]
 constructor
 .rintro⟨a1,a2,a3⟩;exact⟨a1,by lia,a3⟩
 .rintro⟨a1,a2,a3⟩;exact⟨a1,by lia,a3⟩
noncomputable def G5(rs:List Rk)(p:Rk):List (Bool×Int):=(lns rs p nZ).map (λa=>(nZ,a))++(lns rs p oe).map (λa=>(oe,a))
theorem NW{rs:List Rk}{p:Rk}{c:Bool×Int}(h:p.ok):c∈G5 rs p↔p.lo c.1<c.2/\c.2<p.hi c.1/\∀r∈rs,¬(r.lo c.1<c.2/\c.2<r.hi c.1):=by
 obtain⟨u,a⟩:=c;unfold G5;rw[aw,ao,ao]
 constructor
 .rintro(⟨b,hb,e⟩|⟨b,hb,e⟩)<;>cases e<;>exact(Ix h).mp hb
 .intro z;cases u
  .exact .inr ⟨a,(Ix h).mpr z,Z⟩
  .exact .inl ⟨a,(Ix h).mpr z,Z⟩
def Ins(r p:Rk):Prop:=p.t<=r.t/\p.l<=r.l/\r.b<=p.b/\r.r<=p.r
instance (r p:Rk):Decidable (Ins r p):=inferInstanceAs<|Decidable<|_/\_/\_/\_
noncomputable def inP(L:List<|Rk×Option Int)(p:Rk):List (Rk×Option Int):=L.filter λg=>og<|Ins g.1 p
theorem ins_iff{r p:Rk}:Ins r p↔∀u,p.lo u<=r.lo u/\r.hi u<=p.hi u:=by
 constructor
 .rintro⟨a,b,c,d⟩ u;cases u
  .exact⟨a,c⟩
  .exact⟨b,d⟩
 .intro h;exact⟨(h oe).1,(h nZ).1,(h oe).2,(h nZ).2⟩
theorem KU{p:Rk}{u v:Bool}{k:Int}(k1:1<=k)(k2:k<p.len u):(p.fst u k).lo v=p.lo v/\(p.fst u k).hi v=(if u=v then p.lo u+k else p.hi v)/\(p.oth u k).lo v=(if u=v then p.lo u+k else p.lo v)/\(p.oth u k).hi v=p.hi v:=by
 cases u<;>cases v<;>exact⟨Z,Z,Z,Z⟩
theorem TV{L:List<|Rk×Option Int}{p:Rk}{u:Bool}{k:Int}(hL:∀g∈L,∀v,g.1.lo v<g.1.hi v)(k1:1<=k)(k2:k<p.len u)(nb:∀g∈inP L p,¬brk u (p.lo u+k) g):
  inP L (p.fst u k)=(inP L p).filter (λg=>og<|g.1.lo u<p.lo u+k)/\inP L (p.oth u k)=(inP L p).filter (λg=>og<|p.lo u+k<=g.1.lo u):=by
 rw[EO]at k2;have k2':k<p.len u:=by rw[EO];exact k2
 unfold inP;rw[List.filter_filter,List.filter_filter]
 constructor
 .refine cN λg hg=>?_;rw[bJ,av,jO,jO,jO];have lt:=hL g hg u
  constructor
  .intro z;have zz:=ins_iff.mp z;have zu:=zz u;obtain⟨_,r2,_,_⟩:=KU (p:=p) (u:=u) (v:=u) k1 k2';rw[r2,jP Z]at zu;refine⟨by lia,ins_iff.mpr λv=>?_⟩;have zv:=zz v;obtain⟨q1,q2,_,_⟩:=KU (p:=p) (u:=u) (v:=v) k1 k2';rw[q1,q2]at zv;by_cases e:u=v
   .subst e;rw[jP Z]at zv;lia
   .rw[jK e]at zv;exact zv
  .rintro⟨a,b⟩;have nbg:=nb g<|bg.mpr ⟨hg,jI b⟩;have bb:=ins_iff.mp b;refine ins_iff.mpr λv=>?_;have bv:=bb v;obtain⟨q1,q2,_,_⟩:=KU (p:=p) (u:=u) (v:=v) k1 k2';rw[q1,q2];by_cases e:u=v
   .subst e;rw[jP Z];exact⟨bv.1,cz λz=>nbg ⟨a,by lia⟩⟩
   .rw[jK e];exact bv
 .refine cN λg hg=>?_;rw[bJ,av,jO,jO,jO];have lt:=hL g hg u
  constructor
  .intro z;have zz:=ins_iff.mp z;have zu:=zz u;obtain⟨_,_,r3,_⟩:=KU (p:=p) (u:=u) (v:=u) k1 k2';rw[r3,jP Z]at zu;refine⟨zu.1,ins_iff.mpr λv=>?_⟩;have zv:=zz v;obtain⟨_,_,q3,q4⟩:=KU (p:=p) (u:=u) (v:=v) k1 k2';rw[q3,q4]at zv;by_cases e:u=v
   .subst e;rw[jP Z]at zv;lia
   .rw[jK e]at zv;exact zv
  .rintro⟨a,b⟩;have bb:=ins_iff.mp b;refine ins_iff.mpr λv=>?_;have bv:=bb v;obtain⟨_,_,q3,q4⟩:=KU (p:=p) (u:=u) (v:=v) k1 k2';rw[q3,q4];by_cases e:u=v
   .subst e;rw[jP Z];exact⟨a,bv.2⟩
   .rw[jK e];exact bv
def PnO(H:Hp)(ts:List<|jF×Rk):Prop:=∀t∈ts,H t.1=O (.tup t.2.vs)
theorem PnO.same{H H':Hp}{ts:List<|jF×Rk}(h:PnO H ts)(s:Same H H'):PnO H' ts:=λt ht=>s _ _<|h t ht
inductive Rq(vs:LUz)(H:Hp)(Q:VK)(E:XK):Prop
 |mk (a:Int) (b:jF) (r:Rk) (u:Bool) (h0:vs=[.int a,.ref b,.int<|sd u]) (h1:H b=O (.tup r.vs)) (h2:Q (.bl<|Df u a r) H):Rq vs H Q E
def OS:Sp:=λvs H Q E=>Rq vs H Q E
theorem Jq{f:jF}{fd:jM}(F:Fun K "line_breaks" "line_breaks" Dt f fd):A8 P w K mg jD CX0 1 f fd mK OS:=by
 have S:Al mK mK (Ah Dt):=fsk;refine F.g S ?_;rintro vs H Q E ⟨a,b,r,u,rfl,hb,q⟩;refine⟨Z,λcdv A jz s hr=>?_⟩;refine⟨_,(Ag<|Aq<|ET DJ DJ (Av As Ak Ap) Ai<|Av As Ak<|Ao A7 Ap Ab),?_⟩;unfold Df at q;refine⟨_,Z,_,Z,b,_,_,_,Z,Z,SqT.of hb,Ov,_,Z,_,_,Z,Z,_,Z,Br (λh1=>?_) λh1=>?_⟩
 .rw[h1,Bool.true_and]at q;exact⟨_,Z,_,Z,_,_,Z,Z,b,_,_,_,Z,Z,SqT.of hb,U0,_,_,Z,Z,q⟩
 .rw[h1]at q;exact q
inductive O7(vs:LUz)(H:Hp)(Q:VK)(E:XK):Prop
 |mk (a:Int) (l:jF) (ts:List<|jF×Rk) (u:Bool) (h0:vs=[.int a,.ref l,.int<|sd u]) (h1:H l=O (.lst<|A1 ts)) (h2:PnO H ts) (h3:ts.length<=150) (h4:∀H',Same H H'->Q (.bl<|!(rcs ts).any (Df u a)) H'):O7 vs H Q E
def Qg:Sp:=λvs H Q E=>O7 vs H Q E
theorem Ia{f:jF}{fd:jM}(F:Fun K "goes_through" "goes_through" CO f fd)(T:Txt mg tk)(gC:Ar P w K mg jD 1 "line_breaks" mK OS):A8 P w K mg jD CX0 2 f fd ma Qg:=by
 have S:Al ma ma (Ah CO):=fsk;refine F.g S ?_;rintro vs H Q E ⟨a,l,ts,u,rfl,hl,hat,few,q⟩;refine⟨Z,λcdv A jz s hr=>?_⟩;refine⟨_,(Ag<|Aq<|Td<|Bg Ut T.z_any<|Aj<|B9 Z (AA Ak) (λ_ _ _ _ _=>pgk<|nk mW) (λ_ _ _ _ _=>(Am gC hr<|Aa Ak<|Aa Ai<|Aj Ap)) (N:=mW) (fr:=[Y,O 0,O 2])),?_⟩;refine⟨_,Z,l,Z,⟨_,SqL.of hl⟩,λacc jE=>Bb (K:=K) (a:=l) (ys:=A1 ts) (λi xs B H'=>(∃y,B=[y,O<|.int a,O<|.int<|sd u])/\Same H H'/\xs=((rcs ts).take i).map λp=>V.bl<|Df u a p) ⟨⟨Y,Z⟩,Same.new jE,Z⟩ (λi xs B H' _ _ hp=>SqL.of<|hp.2.1 _ _ hl) ?_ ?_⟩
 .rintro i x xs B H' hx hi hl' jE' ⟨⟨y,rfl⟩,s4,rfl⟩;obtain⟨t,ht,rfl⟩:=AZ hx;have hta:=s4 _ _<|hat t<|ak ht;have er:(rcs ts)[i]?=O t.2:=by rw[ax,ht];rfl
  refine⟨_,Z,_,Z,_,Z,a,t.1,t.2,u,Z,hta,?_⟩;refine cNx.mk (aK<|An (by rw[AK];lia)) hi hl' jE' ⟨⟨_,Z⟩,λc o e=>?_,?_⟩
  .rw[Af<|Ad e jE];exact s4 c o e
  .rw[aN,er,af];rfl
 .rintro xs B H' hl' jE' ⟨_,s4,rfl⟩;have e:(A1 ts).length=(rcs ts).length:=by rw[AK,aa]
  rw[e,aI]at jE';have e2:List.map V.bl ((rcs ts).map<|Df u a)=(rcs ts).map λp=>V.bl (Df u a p):=by rw[aA (l:=rcs ts)];rfl
  refine⟨acc,(rcs ts).map<|Df u a,Z,SqL.of (by rw[jE',e2]),Z,?_⟩;have:=q H' s4;have e3:((rcs ts).map<|Df u a).any id=(rcs ts).any (Df u a):=by rw[fJ];rfl
  rw[<-e3]at this;exact⟨_,Z,this⟩
inductive Rm(vs:LUz)(H:Hp)(Q:VK)(E:XK):Prop
 |mk (b l:jF) (p:Rk) (ts:List<|jF×Rk) (u:Bool) (h0:vs=[.ref b,.ref l,.int<|sd u]) (h1:H b=O (.tup p.vs)) (h2:H l=O (.lst<|A1 ts)) (h3:PnO H ts) (h4:ts.length<=150) (h5:p.ok) (h6:(∀u,0<=p.lo u/\p.hi u<=12)) (h7:∀c H',Same H H'->H' c=O (.lst<|(lns (rcs ts) p u).map V.int)->Q (.ref c) H'):Rm vs H Q E
def OQ:Sp:=λvs H Q E=>Rm vs H Q E
theorem GN{f:jF}{fd:jM}(F:Fun K "lines_through" "lines_through" Cu f fd)(T:Txt mg tk)(ik:Ar P w K mg jD 2 "goes_through" ma Qg):A8 P w K mg jD CX0 3 f fd mL OQ:=by
 have S:Al mL mL (Ah Cu):=fsk;refine F.g S ?_;rintro vs H Q E ⟨b,l,p,ts,u,rfl,hb,hl,hat,few,pk,pb,q⟩;refine⟨Z,λcdv A jz s hr=>?_⟩;refine⟨_,(Ag<|Aq<|Cm Z (AV Z T.z_range<|Aa (Ao A7 (Av As Ai Ap) Ab)<|Aj<|Av As Ai<|Ao A7 Ap Ab) (λ_ _ _ _ _=>pgk<|nk ma) (λ_ _ _ _ _=>(Bk<|Am ik hr<|Aa Ai<|Aa Ak<|Aj Ap)) (λ_ _ _ _ _=>Ai) (N:=ma) (fr:=[Y,O 1,O 2])),?_⟩;obtain⟨b0,b1⟩:=pb u;have hlt:=Mr pk u;refine⟨_,Z,_,Z,b,_,_,_,Z,Z,SqT.of hb,Ov,_,_,Z,Z,_,Z,_,Z,_,_,Z,Z,b,_,_,_,Z,Z,SqT.of hb,U0,p.lo u+1,p.hi u,Z,⟨by lia,by lia,by lia,by lia⟩,λacc jE=>Ff (lo:=p.lo u+1) (n:=(p.hi u-(p.lo u+1)).toNat) (λi xs B H'=>(∃y,B=[y,O<|.ref l,O<|.int<|sd u])/\Same H H'/\xs=(GV (rcs ts) u (p.lo u) i).map V.int) ⟨⟨Y,Z⟩,Same.new jE,Z⟩ ?_ ?_⟩
 .rintro i xs B H' hi' hxl jE' ⟨⟨y,rfl⟩,s1,rfl⟩;refine⟨_,Z,_,Z,_,Z,p.lo u+1+i,l,ts,u,Z,s1 _ _ hl,hat.same s1,few,λH2 s2=>⟨_,Z,?_⟩⟩;cases hb':(rcs ts).any (Df u<|p.lo u+1+i)with
  |true=>
   refine fSk.mk hi' hxl (s2 _ _ jE') ⟨⟨_,Z⟩,s1.trans s2,?_⟩;rw[GV,hb',jP Z,aJ]
  |false=>
   refine⟨_,Z,fNx.mk (aK<|An<|by lia) hi' hxl (s2 _ _ jE') ⟨⟨_,Z⟩,λc o e=>?_,?_⟩⟩
   .rw[Af<|Ad e jE];exact(s1.trans s2) c o e
   .rw[GV,hb',jK au,af];rfl
 .rintro xs B H' hxl jE' ⟨_,s1,rfl⟩;exact q acc H' s1 jE'
noncomputable abbrev pns(ts:List PT):List (jF×Rk):=ts.map λt=>(t.2.1,t.2.2.1)
theorem Qy(ts:List PT):rcs (pns ts)=(cons ts).map (·.1):=by
 show List.map _ (List.map _ ts)=List.map _ (List.map _ ts);rw[aA,aA];rfl
theorem TR{r p:Rk}:MJ r.t r.l r.b r.r p.t p.l p.b p.r=og (Ins r p):=by
 rw[bJ,jO];unfold MJ Ins;simp only[av,decide_eq_true_eq];lia
def Sq(H:Hp)(l:jF):Prop:=∀o,H l=O o->∃ps,o=.tbl ps
theorem XY{H H':Hp}{l:jF}(s:SameN H H')(h:H' l=Y):Sq H l:=λo e=>cz λz=>by
 have:=s l o e λps e'=>z ⟨ps,e'⟩;rw[h]at this;cases this
noncomputable abbrev mks(ps:List Rc):List (Rk×Option Int):=ps.map λr=>(r,Y)
def Gv:Tr->Prop
 |.whole m=>m=Y
 |.cut _ _ x y=>Gv x/\Gv y
noncomputable def thG(p:Rk):List (Bool×Int)->En
 |c::_=>.c c.1<|c.2-p.lo c.1
 |[]=>.w<|O 0
noncomputable def enG(L:List<|Rk×Option Int)(p:Rk):En:=if L.length=1 then .w Y else thG p (G5 (L.map (·.1)) p)
def DQ(L:List<|Rk×Option Int)(R:Rk->Prop)(q:Rk):Prop:=q.ok/\(∀u,0<=q.lo u/\q.hi u<=12)/\∀n,enG (inP L q) q=.w (O n)->R q
abbrev GQ(L:List<|Rk×Option Int)(R:Rk->Prop):Tr->Rk->Prop:=Su (λq=>enG (inP L q) q)<|DQ L R
theorem Pz{L:List<|Rk×Option Int}(hL:∀g∈L,∀v,g.1.lo v<g.1.hi v)(hm:∀g∈L,g.2=Y){R:Rk->Prop}:∀(n:Nat)(p:Rk),(p.len nZ+p.len oe).toNat=n->p.ok->(∀u,0<=p.lo u/\p.hi u<=12)->(∃t,Dg p t/\(inP L p).Perm (AI t p))->∃F,GQ L R F p/\Dg p F/\Gv F:=by
 intro n
 induction n using Nat.strongRecOn with
 |ind n ih=>
  intro p hn ok bd ⟨t,fit,pm⟩;have len:=pm.length_eq;rw[DM]at len;by_cases h1:(inP L p).length=1
  .have en:enG (inP L p) p=.w Y:=by unfold enG;rw[jP h1]
   exact⟨.whole Y,⟨⟨ok,bd,λn e=>by rw[en]at e;cases e⟩,en⟩,trivial,Z⟩
  .obtain⟨c,rest,hc⟩:∃c rest,G5 ((inP L p).map (·.1)) p=c::rest:=by
    cases t with
    |whole m=>exact absurd len h1
    |cut u0 k0 x0 y0=>
     obtain⟨⟨k1,k2⟩,fx,fy⟩:=fitR_cut.mp fit;obtain⟨_,_,nb⟩:=FT ok k1 k2 fx fy;rw[EO]at k2;have m:=(NW (rs:=(inP L p).map (·.1)) (c:=(u0,p.lo u0+k0)) ok).mpr ⟨by show p.lo u0<p.lo u0+k0;lia,by show p.lo u0+k0<p.hi u0;lia,λr hr z=>by
      obtain⟨g,hg,rfl⟩:=ao.mp hr;exact nb g (by have:=pm.mem_iff.mp hg;rw[AI]at this;exact this) z⟩
     cases q:G5 ((inP L p).map (·.1)) p with
     |nil=>rw[q]at m;cases m
     |cons c r=>exact⟨c,r,Z⟩
   obtain⟨u,a⟩:=c;obtain⟨a1,a2,nb⟩:=(NW ok).mp (hc ▸ aE:(u,a)∈G5 ((inP L p).map (·.1)) p);have a1:p.lo u<a:=a1;have a2:a<p.hi u:=a2;obtain⟨k,rfl⟩:∃k,a=p.lo u+k:=⟨a-p.lo u,by lia⟩;have k1:1<=k:=by lia
   have k2:k<p.len u:=by rw[EO];lia
   have nb':∀g∈inP L p,¬brk u (p.lo u+k) g:=λg hg z=>nb g.1 (ao.mpr ⟨g,hg,Z⟩) z;obtain⟨th,fa,fb,q1,q2⟩:=Ld ok fit pm k1 k2 nb';obtain⟨o1,o2⟩:=N2 (u:=u) ok k1 k2;obtain⟨l1,l2,lt1,lt2⟩:=XA (u:=u) (a:=k) bd k1 k2;obtain⟨i1,i2⟩:=TV hL k1 k2 nb';have pos:∀{q:Rk},q.ok->0<=q.len nZ+q.len oe:=λ{q} o=>by
    have:=Mr o nZ;have:=Mr o oe;rw[EO,EO];lia
   have pos1:=pos o1;have pos2:=pos o2;obtain⟨X,gx,fx,sx⟩:=ih _ (by lia) (p.fst u k) Z o1 l1 ⟨_,fa,by rw[i1];exact q1⟩;obtain⟨nX,gy,fy,sy⟩:=ih _ (by lia) (p.oth u k) Z o2 l2 ⟨_,fb,by rw[i2];exact q2⟩;have en:enG (inP L p) p=.c u k:=by
    unfold enG;rw[jK h1,hc];show En.c u (p.lo u+k-p.lo u)=_;rw[show p.lo u+k-p.lo u=k by lia]
   exact⟨.cut u k X nX,⟨⟨ok,bd,λn e=>by rw[en]at e;cases e⟩,en,gx,gy⟩,fitR_cut.mpr ⟨⟨k1,k2⟩,fx,fy⟩,sx,sy⟩
def EnR(R:Rk->Prop)(H:Hp)(a:jF):En->Prop
 |.w (O _)=>∃b p,H a=O (.tup [.str "room",.ref b])/\H b=O (.tup p.vs)/\R p
 |.w Y=>H a=O (.tup [.str "whole",.non])
 |.c u k=>H a=O (.tup [.str<|wd u,.int k])
theorem EnR.tups{R:Rk->Prop}{H H':Hp}{a:jF}(s:∀a xs,H a=O (.tup xs)->H' a=O (.tup xs)):∀{e:En},EnR R H a e->EnR R H' a e
 |.w (O _),⟨b,p,x,y,z⟩=>⟨b,p,s _ _ x,s _ _ y,z⟩
 |.w Y,h=>s _ _ h
 |.c _ _,h=>s _ _ h
theorem EnR.kp{R:Rk->Prop}{H H':Hp}{a:jF}{e:En}(h:EnR R H a e)(s:Kp H H'):EnR R H' a e:=h.tups λ_ _ x=>s _ _ x (by intro xs z;cases z)
theorem EnR.imp{R R':Rk->Prop}{H:Hp}{a:jF}:∀{e:En},(∀n p,e=.w (O n)->R p->R' p)->EnR R H a e->EnR R' H a e
 |.w (O n),i,⟨b,p,x,y,z⟩=>⟨b,p,x,y,i n p Z z⟩
 |.w Y,_,h=>h
 |.c _ _,_,h=>h
theorem EnR.wd{R:Rk->Prop}{H:Hp}{a:jF}:∀{m:Option Int},EnR R H a (.w m)->∃(wo:j5)(wx:V),H a=O (.tup [.str wo,wx])/\inV (.str wo) [V.str "upright",V.str "level"]=oe
 |some _,⟨b,p,x,_,_⟩=>⟨_,_,x,by decide +kernel⟩
 |none,h=>⟨_,_,h,by decide +kernel⟩
def EnsR(R:Rk->Prop)(H:Hp):LUz->List En->Prop
 |[],[]=>True
 |v::r,e::q=>(∃a,v=.ref a/\EnR R H a e)/\EnsR R H r q
 |_,_=>False
theorem EnsR.tups{R:Rk->Prop}{H H':Hp}(s:∀a xs,H a=O (.tup xs)->H' a=O (.tup xs)):∀{vs:LUz}{es:List En},EnsR R H vs es->EnsR R H' vs es
 |[],[],_=>trivial
 |v::r,e::q,h=>⟨let ⟨a,b,c⟩:=h.1;⟨a,b,c.tups s⟩,EnsR.tups s h.2⟩
 |[],_::_,h=>h
 |_::_,[],h=>h
theorem EnsR.kp{R:Rk->Prop}{H H':Hp}(s:Kp H H'){vs:LUz}{es:List En}(h:EnsR R H vs es):EnsR R H' vs es:=h.tups λ_ _ x=>s _ _ x (by intro xs z;cases z)
theorem EnsR.snoc{R:Rk->Prop}{H:Hp}{a:jF}{e:En}(ha:EnR R H a e):∀{vs:LUz}{es:List En},EnsR R H vs es->EnsR R H (vs++[.ref a]) (es++[e])
 |[],[],_=>⟨⟨a,Z,ha⟩,trivial⟩
 |v::r,e'::q,h=>⟨h.1,EnsR.snoc ha h.2⟩
 |[],_::_,h=>h.elim
 |_::_,[],h=>h.elim
theorem EnsR.len{R:Rk->Prop}{H:Hp}:∀{vs:LUz}{es:List En},EnsR R H vs es->vs.length=es.length
 |[],[],_=>rfl
 |v::r,e'::q,h=>by rw[aL,aL,EnsR.len h.2]
 |[],_::_,h=>h.elim
 |_::_,[],h=>h.elim
theorem EnsR.get{R:Rk->Prop}{H:Hp}:∀{vs:LUz}{es:List En}{i:Nat}{v:V},EnsR R H vs es->vs[i]?=O v->∃e a,es[i]?=O e/\v=.ref a/\EnR R H a e
 |v::r,e::q,0,_,h,hv=>by
  cases hv;obtain⟨a,b,c⟩:=h.1;exact⟨e,a,Z,b,c⟩
 |v::r,e::q,i+1,_,h,hv=>EnsR.get (i:=i) h.2 hv
 |[],[],_,_,_,hv=>by cases hv
 |[],_::_,_,_,h,_=>h.elim
 |_::_,[],_,_,h,_=>h.elim
noncomputable def rmE:En->Bool
 |.w (O _)=>nZ
 |_=>oe
theorem EnsR.ens{R:Rk->Prop}{H:Hp}:∀{vs:LUz}{es:List En},EnsR R H vs es->(∀e∈es,rmE e=oe)->EnsAt H vs es
 |[],[],_,_=>trivial
 |v::r,e::q,h,n=>by
  refine⟨?_,EnsR.ens h.2 λx hx=>n x<|aF _ hx⟩;obtain⟨a,b,c⟩:=h.1;have ne:=n e aE;refine⟨a,b,?_⟩
  match e,ne,c with
  |.w Y,_,c=>exact c
  |.c _ _,_,c=>exact c
 |[],_::_,h,_=>h.elim
 |_::_,[],h,_=>h.elim
theorem noRm_iff:∀{t:Tr},Gv t↔∀e∈ents t,rmE e=oe
 |.whole Y=>⟨λ_ e he=>by rw[ae.mp he];rfl,λ_=>rfl⟩
 |.whole (O n)=>⟨λh=>(nomatch h),λh=>nomatch h _ (ae.mpr Z)⟩
 |.cut u k x y=>by
  rw[Gv,ents,noRm_iff (t:=x),noRm_iff (t:=y)]
  constructor
  .rintro⟨a,b⟩ e he;rcases aQ.mp he with rfl|he
   .rfl
   .rcases aw.mp he with he|he
    .exact a e he
    .exact b e he
  .intro h;exact⟨λe he=>h e<|aF _<|be _ he,λe he=>h e<|aF _<|aB _ he⟩
inductive Kn(vs:LUz)(H:Hp)(Q:VK)(E:XK):Prop
 |mk (b l:jF) (p:Rk) (ts:List PT) (h0:vs=[.ref b,.ref l]) (h1:H b=O (.tup p.vs)) (h2:H l=O (.lst<|pcs ts)) (h3:PcO H ts) (h4:ts.length<=150) (h5:p.ok) (h6:(∀u,0<=p.lo u/\p.hi u<=12)) (h7:(∀u∈ts,u.2.2.2=Y)) (h8:∀e H',Same H H'->EnR (λq=>q=p) H' e (enG (cons ts) p)->Q (.ref e) H'):Kn vs H Q E
def KN:Sp:=λvs H Q E=>Kn vs H Q E
theorem Nf{x:V}{r:LUz}:atI (x::r) 0=O x:=Ng (xs:=x::r) (j:=0) (v:=x) Z
theorem M8{f:jF}{fd:jM}(F:Fun K "entry_for" "entry_for" EJ f fd)(T:Txt mg tk)(gu:Ar P w K mg jD 3 "lines_through" mL OQ):A8 P w K mg jD CX0 4 f fd nE KN:=by
 have S:Al ["block","some","panes","uprights","levels"] nE (Ah EJ):=fsk;refine F.g S ?_;rintro vs H Q E ⟨b,l,p,ts,rfl,hb,hl,pc,few,pk,pb,nn,q⟩;refine⟨Z,λcdv A jz s hr=>?_⟩;refine⟨_,(Ac (AG (A5 Bu (Bg Bf T.z_len<|Aj Ak) Ab) (Ag<|Aq<|A4<|Aa (AH (v:=.str "whole") Z T.ja ⟨_,Z⟩)<|Aj<|Av As (Av Bm Ak Ab) Ab) A6)
  (Ac (BE Z (AS 2 S.nd) (AA Ak) (λ_ _ _ _ _=>(Dk (K:=K) (n:=2) Z<|Au (AD (i:=0) (nk nG) Z<|bq Z)<|Au (AD (i:=1) (nk nG) Z<|bq Z) AY)) (λ_ _ _ _ _=>Ai) (N:=nG) (fr:=[Y,Y]))
  (Ac (Az 3 S.nd<|Am gu hr<|Aa Ai<|Aa Ap<|Aj<|AH (v:=.int 1) Z T.gN ⟨_,Z⟩)
  (Ac (AG (ER A2 λ_=>rfl) (Ag<|Aq<|A4<|Aa (AH (v:=.str "upright") Z T.gz ⟨_,Z⟩)<|Aj<|Ao BG (Av Bm A2 Ab)<|Av As Ai<|AH (v:=.int 1) Z T.gN ⟨_,Z⟩) A6)
  (Ac (Az 4 S.nd<|Am gu hr<|Aa Ai<|Aa Ap<|Aj<|AH (v:=.int 0) Z T.gY ⟨_,Z⟩)
  (Ac (AG (ER AE λ_=>rfl) (Ag<|Aq<|A4<|Aa (AH (v:=.str "level") Z T.gX ⟨_,Z⟩)<|Aj<|Ao BG (Av Bm AE Ab)<|Av As Ai<|AH (v:=.int 0) Z T.gY ⟨_,Z⟩) A6)
  (Ag<|Aq<|A4<|Aa (AH (v:=.str "room") Z T.jb ⟨_,Z⟩)<|Aj Ai))))))),?_⟩
 refine⟨_,Z,l,_,Z,.inl<|SqL.of hl,Z,_,Z,Br (λc=>?_) λc=>?_⟩
 .have c:=V.int.inj<|jY c;have c:ts.length=1:=by rw[aa]at c;lia
  obtain⟨x,rfl⟩:=fH.mp c;have hx:=pc x<|ae.mpr Z;have hx1:=hx.1;rw[nn x<|ae.mpr Z]at hx1;exact⟨_,Z,l,_,_,_,Z,Z,SqL.of hl,Z,x.1,_,_,_,Z,Z,SqT.of hx1,Fz,Ay 2,λe he=>q e _ (Same.new he) (by show EnR _ _ e (if _ then _ else _);rw[jP (show(cons [x]).length=1 from rfl)];exact Ae)⟩
 .have c1:(cons ts).length≠1:=λz=>of_decide_eq_false c (by rw[aa]at z |-;rw[z];rfl);have eG:enG (cons ts) p=thG p (G5 ((cons ts).map (·.1)) p):=jK c1;rw[eG]at q;refine⟨_,Z,l,Z,⟨_,SqL.of hl⟩,λacc jE=>Bb (K:=K) (a:=l) (ys:=pcs ts) (λi zs B H'=>(∃y z,B=[y,z])/\Same H H'/\zs=A1 ((pns ts).take i)) ⟨⟨Y,Y,Z⟩,Same.new jE,Z⟩ (λi zs B H' _ _ hp=>SqL.of<|hp.2.1 _ _ hl) ?_ ?_⟩
  .rintro i x zs B H' hx hi hl' jE' ⟨⟨y,z,rfl⟩,hs,rfl⟩;obtain⟨u,hu,rfl⟩:=Q4 hx;obtain⟨g1,g2⟩:=(pc.same hs) u<|ak hu;refine⟨u.1,_,Z,SqT.of g1,Z,_,_,Z,_,_,Z,Z,_,Z,?_⟩;refine cNx.mk (aK<|An (by rw[aa];lia)) hi hl' jE' ⟨⟨_,_,Z⟩,λc o e=>?_,?_⟩
   .rw[Af<|Ad e jE];exact hs c o e
   .unfold A1;rw[aN,ax,hu,af];rfl
  rintro zs B H1 hzl ac1 ⟨_,s1,rfl⟩;have e1:(pcs ts).length=(pns ts).length:=by rw[aa,aa]
  rw[e1,aI]at ac1;have pn1:PnO H1 (pns ts):=λz hz=>by
   obtain⟨u,hu,rfl⟩:=ao.mp hz;exact s1 _ _ (pc u hu).2
  have few':(pns ts).length<=150:=by rw[aa];exact few
  refine⟨_,Z,_,Z,b,acc,p,pns ts,nZ,Z,s1 _ _ hb,ac1,pn1,few',pk,pb,λc2 H2 s2 hc2=>?_⟩;rw[Qy]at hc2;have s12:=s1.trans s2;cases q1:lns ((cons ts).map (·.1)) p nZ with
  |cons x r=>
   rw[q1]at hc2;have eT:G5 ((cons ts).map (·.1)) p=(nZ,x)::(r.map (λa=>(nZ,a))++(lns ((cons ts).map (·.1)) p oe).map (λa=>(oe,a))):=by unfold G5;rw[q1];rfl
   rw[eT]at q;refine⟨_,Z,_,.inl ⟨_,SqL.of hc2,Z⟩,BK Z ?_⟩;exact⟨_,Z,c2,_,_,_,Z,Z,SqL.of hc2,Nf,_,Z,b,_,_,_,Z,Z,SqT.of<|s12 _ _ hb,Ov (u:=nZ),_,_,Z,Z,Ay 2,λe he=>q e _ (s12.trans<|Same.new he) Ae⟩
  |nil=>
   rw[q1]at hc2;refine⟨_,Z,_,.inl ⟨_,SqL.of hc2,Z⟩,Bi Z ?_⟩;refine⟨_,Z,_,Z,b,acc,p,pns ts,oe,Z,s12 _ _ hb,s2 _ _ ac1,pn1.same s2,few',pk,pb,λc3 H3 s3 hc3=>?_⟩;rw[Qy]at hc3;have s13:=s12.trans s3;cases q2:lns ((cons ts).map (·.1)) p oe with
   |cons x r=>
    rw[q2]at hc3;have eT:G5 ((cons ts).map (·.1)) p=(oe,x)::r.map (λa=>(oe,a)):=by unfold G5;rw[q1,q2];rfl
    rw[eT]at q;refine⟨_,Z,_,.inl ⟨_,SqL.of hc3,Z⟩,BK Z ?_⟩;exact⟨_,Z,c3,_,_,_,Z,Z,SqL.of hc3,Nf,_,Z,b,_,_,_,Z,Z,SqT.of<|s13 _ _ hb,Ov (u:=oe),_,_,Z,Z,Ay 2,λe he=>q e _ (s13.trans<|Same.new he) Ae⟩
   |nil=>
    rw[q2]at hc3;have eT:G5 ((cons ts).map (·.1)) p=[]:=by unfold G5;rw[q1,q2];rfl
    rw[eT]at q;refine⟨_,Z,_,.inl ⟨_,SqL.of hc3,Z⟩,Bi Z ?_⟩;exact⟨_,Z,Ay 2,λe he=>q e _ (s13.trans<|Same.new he) ⟨b,p,Ae,(s13.trans<|Same.new he) _ _ hb,Z⟩⟩
def spE(R:Rk->Prop)(en:Rk->En)(D:Rk->Prop):Sp:=λvs H Q _=>∃(a:jF)(p:Rk),vs=[.ref a]/\H a=O (.tup p.vs)/\D p/\∀e H',Same H H'->EnR R H' e (en p)->Q (.ref e) H'
inductive U8(P:jN)(w:jW)(K:jX)(mg:MGz)(jD:j6)(vs:LUz)(H:Hp)(Q:VK)(E:XK):Prop
 |mk (a f:jF) (p:Rk) (t:Tr) (en:Rk->En) (D R:Rk->Prop) (h0:vs=[.ref a,.ref f]) (h1:H a=O (.tup p.vs)) (h2:FvOk P w K mg jD 6 H f<|spE R en D) (h3:Su en D t p) (h4:t.nd<=400) (h5:∀l xs H',Same H H'->H l=Y->H' l=O (.lst xs)->EnsR R H' xs (ents t)->Q (.ref l) H'):U8 P w K mg jD vs H Q E
def VO(P:jN)(w:jW)(K:jX)(mg:MGz)(jD:j6):Sp:=λvs H Q E=>U8 P w K mg jD vs H Q E
abbrev YC(R:Rk->Prop)(en:Rk->En)(D:Rk->Prop)(H:Hp)(a f:jF)(t:Tr)(le lw:jF)(m:Nat)(B:St)(H':Hp):Prop:=∃(xs:LUz)(es:List En)(ws:List<|jF×Rk×Tr)(x4 x5:Option V),B=[O<|.ref a,O<|.ref f,O<|.ref le,O<|.ref lw,x4,x5]/\Same H H'/\H' le=O (.lst xs)/\EnsR R H' xs es/\H' lw=O (.lst<|B5 ws)/\PsAt H' ws/\(∀p∈ws,Su en D p.2.2 p.2.1)/\es++FS (trs ws)=ents t/\m=cnt (trs ws)
theorem TU(e:En):inV ((enV e).headD .non) [V.str "upright",V.str "level"]=match e with
  |.w _=>oe
  |.c _ _=>nZ:=by
 cases e with
 |w m=>
  show(eqV (V.str "upright") (V.str "whole")||(eqV (V.str "level") (V.str "whole")||false))=oe;decide +kernel
 |c u k=>
  cases u
  .show(eqV (V.str "upright") (V.str "level")||(eqV (V.str "level") (V.str "level")||false))=nZ;decide +kernel
  .show(eqV (V.str "upright") (V.str "upright")||(eqV (V.str "level") (V.str "upright")||false))=nZ;decide +kernel
theorem Kw{f:jF}{fd:jM}(F:Fun K "entries_by" "entries_by" DV f fd)(T:Txt mg tk)(io:Ar P w K mg jD 1 "first_piece" mq SK)(iq:Ar P w K mg jD 1 "other_piece" mq SG):A8 P w K mg jD CX0 7 f fd nH (VO P w K mg jD):=by
 have S:Al ["sheet","entry_at","entries","waiting","piece","entry"] nH (Ah DV):=fsk;refine F.g S ?_;rintro vs H Q E ⟨a,fv,p,t,en,D,R,rfl,ha,hfv,gr,hn,q⟩;refine⟨Z,λcdv A jz s hr=>?_⟩;refine⟨_,(Ac (Az 2 S.nd<|AJ BF)
  (Ac (Az 3 S.nd<|AJ<|Aj Ai)
  (Ac (Jf PassesOwn.never (ER A2 λ_=>rfl)<|Ac (Az 4 S.nd<|EU bE cr cq J1 A2)
  (Ac (Az 5 S.nd<|XU (k:=6) hr Ak<|Aj AE)
  (Ac (AM<|BU Ap<|Aj AX)
  (Ag<|AG (A5 Lg (Av As AX Ab) (A4<|Aa (AH (v:=.str "upright") Z T.gz ⟨_,Z⟩)<|Aj<|AH (v:=.str "level") Z T.gX ⟨_,Z⟩) Z) (Ac (AM<|BU A2<|Aj<|Am iq hr<|Aa AE<|Aa (Av As AX Ab)<|Aj<|Av As AX Ab)
  (Ag<|AM<|BU A2<|Aj<|Am io hr<|Aa AE<|Aa (Av As AX Ab)<|Aj<|Av As AX Ab)) A6))))
  (Ag<|Aq Ap)))),?_⟩
 refine⟨Ay 0,λle hle=>⟨_,Z,Ay 1,λlw hlw=>?_⟩⟩;have nel:le≠lw:=Ad Ae hlw;have s0:Same H (upd (upd H le<|.lst []) lw<|.lst [.ref a]):=(Same.new hle).trans<|Same.new hlw;have hlw0:H lw=Y:=none_of (Same.new hle) hlw;refine⟨YC R en D H a fv t le lw,
  ⟨_,[],[],[(a,p,t)],Y,Y,Z,s0,by rw[Af nel];exact Ae,trivial,Ae,λr hr=>?_,λr hr=>?_,?_,Z⟩,?_⟩
 .rw[ae.mp hr];exact s0 _ _ ha
 .rw[ae.mp hr];exact gr
 .show[]++FS [(V.ref a,t)]=ents t;rw[GY];rfl
 rintro m B H' ⟨xs,es,ws,x4,x5,rfl,s1,hl,hen,hw,hps,hgr,heq,rfl⟩;have tot:es.length+cnt (trs ws)=t.nd:=by rw[<-Fe,<-heq,aq,JQ]
 rcases F6 ws with rfl|⟨ws0,r,rfl⟩
 .refine⟨_,Z,_,.inl ⟨_,SqL.of hw,Z⟩,Bi Z ⟨_,Z,q le xs H' s1 hle hl ?_⟩⟩;rw[<-heq];show EnsR R H' xs (es++[]);rw[aJ];exact hen
 .refine⟨_,Z,_,.inl ⟨_,SqL.of hw,Z⟩,BK (by simp) ⟨λσ' H''=>∃m',m'<cnt (trs<|ws0++[r])/\YC R en D H a fv t le lw m' σ' H'',λσ' H'' z=>z,?_⟩⟩;obtain⟨pa,pk,pt⟩:=r;have hp0:=hps (pa,pk,pt) (by simp);have hg0:=hgr (pa,pk,pt) (by simp);refine⟨_,Z,.inl ⟨Z,_,SqL.of hw⟩,lw,_,_,Z,Z,hw,RW,?_⟩;rw[Sg];have k2:Kp H' (upd H' lw<|.lst<|B5 ws0):=Kp.put hw;have s2:Same H (upd H' lw<|.lst<|B5 ws0):=λb o e=>by rw[Af<|Ad e hlw0];exact s1 b o e
  have l2:(upd H' lw<|.lst<|B5 ws0) le=O (.lst xs):=by rw[Af nel];exact hl
  have w2:(upd H' lw<|.lst<|B5 ws0) lw=O (.lst<|B5 ws0):=Ae;generalize upd H' lw (.lst<|B5 ws0)=H2 at k2 s2 l2 w2 |-;have hp2:=k2 _ _ hp0 (by intro xs z;cases z);have ps2:PsAt H2 ws0:=λr hr=>k2 _ _ (hps r<|be _ hr) (by intro xs z;cases z);have gr2:∀r∈ws0,Su en D r.2.2 r.2.1:=λr hr=>hgr r<|be _ hr;have hen2:=hen.kp k2;rw[Ck,Ch]at heq;rw[Ck,Fg]at tot;have hxl:=hen.len;have np:=T6 pt;have hDp:D pk:=by cases pt<;>exact hg0.1
  refine⟨_,Z,fv,spE R en D,Z,hfv.same s2,_,Z,Same.refl H2,pa,pk,Z,hp2,hDp,λea H3 s3 e3=>?_⟩;have l3:=s3 _ _ l2;refine⟨_,Z,.inl ⟨Z,_,SqL.of l3⟩,_,Z,le,xs,.ref ea,Z,Z,l3,An (by lia),?_⟩;have k4:Kp H3 (upd H3 le<|.lst<|xs++[.ref ea]):=Kp.put l3;have s4:Same H (upd H3 le<|.lst<|xs++[.ref ea]):=λb o e=>by rw[Af<|Ad e hle];exact s3 b o<|s2 b o e
  have l4:(upd H3 le<|.lst<|xs++[.ref ea]) le=O (.lst<|xs++[.ref ea]):=Ae;have w4:(upd H3 le<|.lst<|xs++[.ref ea]) lw=O (.lst<|B5 ws0):=by rw[Af<|Ne.symm nel];exact s3 _ _ w2
  have en4:EnsR R (upd H3 le<|.lst<|xs++[.ref ea]) (xs++[.ref ea]) (es++[en pk]):=((hen2.kp<|HD s3).kp k4).snoc<|e3.kp k4;have kk:=(HD s3).trans k4;have e4:=e3.kp k4;generalize upd H3 le (.lst<|xs++[.ref ea])=H4 at k4 s4 l4 w4 en4 kk e4 |-;have hp4:=kk _ _ hp2 (by intro xs z;cases z);have ps4:PsAt H4 ws0:=ps2.kp kk;cases pt with
  |whole m=>
   have een:en pk=.w m:=hg0.2;rw[een]at e4 en4;obtain⟨wv,wx,e4,nq⟩:=e4.wd;refine⟨_,Z,ea,_,_,_,Z,Z,SqT.of e4,Fi,Ay 2,λtt ntt=>?_⟩;obtain⟨H5,g,s5,e5⟩:=nw (.tup [.str "upright",.str "level"]) ntt;rw[g];refine⟨tt,_,Z,.inr<|SqT.of e5,Z,Z,_,Z,Bi (by rw[jK au];exact nq) ?_⟩;refine⟨cnt<|trs ws0,by rw[Ck,Fg];exact bS _,_,_,ws0,_,_,Z,s4.trans s5,s5 _ _ l4,en4.kp<|HD s5,s5 _ _ w4,ps4.kp<|HD s5,gr2,?_,Z⟩;rw[<-heq,aX];rfl
  |cut u k y1 y2=>
   obtain⟨_,een,g1,g2⟩:=hg0;have een:en pk=.c u k:=een;rw[een]at e4 en4;have e4:H4 ea=O (.tup<|enV<|.c u k):=e4;refine⟨_,Z,ea,_,_,_,Z,Z,SqT.of e4,Fi,Ay 2,λtt ntt=>?_⟩;obtain⟨H5,g,s5,e5⟩:=nw (.tup [.str "upright",.str "level"]) ntt;rw[g];refine⟨tt,_,Z,.inr<|SqT.of e5,Z,Z,_,Z,BK (by rw[jK au];exact TU<|.c u k) ?_⟩;have e55:=s5 _ _ e4;have w5:=s5 _ _ w4;have hp5:=s5 _ _ hp4;refine⟨_,Z,.inl ⟨Z,_,SqL.of w5⟩,_,Z,_,Z,ea,_,_,_,Z,Z,SqT.of e55,Fi,_,Z,ea,_,_,_,Z,Z,SqT.of e55,Fz,pa,pk,u,k,Z,hp5,λt6 n6=>?_⟩;obtain⟨H6,g,s6,e6⟩:=nw (.tup (pk.oth u k).vs) n6;rw[g];have w6:=s6 _ _ w5;have cl:=Na<|trs ws0;rw[aa]at cl;have ndp:(Tr.cut u k y1 y2).nd=y1.nd+y2.nd+1:=rfl;refine⟨lw,_,_,Z,Z,w6,An (by rw[aa];lia),?_⟩;have k7:Kp H6 (upd H6 lw<|.lst<|B5 ws0++[.ref t6]):=Kp.put w6;have s7:Same H (upd H6 lw<|.lst<|B5 ws0++[.ref t6]):=λb o e=>by rw[Af<|Ad e hlw0];exact s6 _ _<|s5 _ _<|s4 b o e
   have l7:(upd H6 lw<|.lst<|B5 ws0++[.ref t6]) le=O (.lst<|xs++[.ref ea]):=by rw[Af nel];exact s6 _ _<|s5 _ _ l4
   have w7:(upd H6 lw<|.lst<|B5 ws0++[.ref t6]) lw=O (.lst<|B5 ws0++[.ref t6]):=Ae;have kk7:=((HD s5).trans<|HD s6).trans k7;have e7:=k7 _ _ e6 (by intro xs z;cases z);generalize upd H6 lw (.lst<|B5 ws0++[.ref t6])=H7 at k7 s7 l7 w7 kk7 e7 |-;have ea7:=kk7 _ _ e4 (by intro xs z;cases z);have hp7:=kk7 _ _ hp4 (by intro xs z;cases z);refine⟨_,Z,.inl ⟨Z,_,SqL.of w7⟩,_,Z,_,Z,ea,_,_,_,Z,Z,SqT.of ea7,Fi,_,Z,ea,_,_,_,Z,Z,SqT.of ea7,Fz,pa,pk,u,k,Z,hp7,λt8 n8=>?_⟩;obtain⟨H8,g,s8,e8⟩:=nw (.tup (pk.fst u k).vs) n8;rw[g];have w8:=s8 _ _ w7;refine⟨lw,_,_,Z,Z,w8,An (by rw[aq,aa,aY];lia),?_⟩;have k9:Kp H8 (upd H8 lw<|.lst<|B5 ws0++[.ref t6]++[.ref t8]):=Kp.put w8;have kk9:=(HD s8).trans k9;have kall:=kk7.trans kk9;refine⟨cnt<|trs<|ws0++[(t6,pk.oth u k,y2)]++[(t8,pk.fst u k,y1)],?_,xs++[.ref ea],es++[.c u k],ws0++[(t6,pk.oth u k,y2)]++[(t8,pk.fst u k,y1)],_,_,Z,λb o e=>?_,?_,en4.kp kall,?_,λr hr=>?_,λr hr=>?_,?_,Z⟩
   .rw[Ck,Ck,Fg,Fg,Ck,Fg];show cnt (trs ws0)+y2.nd+y1.nd<cnt (trs ws0)+(y1.nd+y2.nd+1);lia
   .rw[Af<|Ad e hlw0];exact s8 b o<|s7 b o e
   .rw[Af nel];exact s8 _ _ l7
   .rw[Ae,La,La]
   .rcases aw.mp hr with hr|hr
    .rcases aw.mp hr with hr|hr
     .exact kall _ _ (ps4 r hr) (by intro xs z;cases z)
     .rw[ae.mp hr];exact kk9 _ _ e7 (by intro xs z;cases z)
    .rw[ae.mp hr];exact k9 _ _ e8 (by intro xs z;cases z)
   .rcases aw.mp hr with hr|hr
    .rcases aw.mp hr with hr|hr
     .exact gr2 r hr
     .rw[ae.mp hr];exact g2
    .rw[ae.mp hr];exact g1
   .rw[Ck,Ck,Ch,Ch,<-heq];show es++[.c u k]++(ents y1++(ents y2++FS (trs ws0)))=es++(.c u k::(ents y1++ents y2)++FS (trs ws0));simp[aX]
noncomputable def QA:j9:=match (A9 Bt).getD 0 (.Pass ⟨0,0,0,0⟩)with
 |.Return (O (.Call _ [_,k] _ _)) _=>k
 |_=>.Constant .none 0 ⟨0,0,0,0⟩
noncomputable def VW:Arguments:=match QA with|.Lambda p _ _ _=>p|_=>B3 Bt
noncomputable def VX:j9:=match QA with|.Lambda _ b _ _=>b|e=>e
noncomputable def lamS3:kF:=match QA with|.Lambda _ _ s _=>s|_=>Ah Bt
noncomputable def Da:Pos:=match QA with|.Lambda _ _ _ q=>q|_=>⟨0,0,0,0⟩
noncomputable def C8:j5:="cut_up.<locals>.<lambda>"
theorem Xj:LC "block" me lamS3:=⟨Z,Z,Z,Z,λ_ _=>rfl,λ_=>rfl,λy hy=>(by decide +kernel:∀p∈lamS3.names,p.2=.cell->p.1=("block":j5)) _ (PySem.mem_of_lookup hy) Z,λy hy=>(by decide +kernel:∀p∈lamS3.names,p.2=.free->p.1∈(me:LSz)) _ (PySem.mem_of_lookup hy) Z,by decide +kernel⟩
noncomputable abbrev QR(L:Nat):List (j5×jF):=[("some",L+1)]
theorem Vp{L:List<|Rk×Option Int}{p:Rk}(h:∀g∈L,Ins g.1 p):inP L p=L:=cj.mpr λg hg=>jI<|h g hg
theorem Oh{α:Type}(p:α->Bool){L:List α}{i:Nat}{x:α}(h:L[i]?=O x):(L.take<|i+1).filter p=(L.take i).filter p++if p x=nZ then [x]else []:=by
 rw[aN,h,bt];show _=_;cases hx:p x with
 |true=>simp[hx]
 |false=>simp[hx]
theorem HW{ts:List PT}{i:Nat}{t:PT}(q:PT->Bool)(h:ts[i]?=O t):pcs ((ts.take<|i+1).filter q)=pcs ((ts.take i).filter q)++if q t=nZ then [.ref t.1]else []:=by
 rw[Oh q h];show List.map _ _=_;rw[af];split<;>rfl
inductive Ko(tb3:jF)(vs:LUz)(H:Hp)(Q:VK)(E:XK):Prop
 |mk (a l:jF) (p:Rk) (ts:List PT) (G:Tr) (R:Rk->Prop) (h0:vs=[.ref a,.ref l]) (h1:H a=O (.tup p.vs)) (h2:H l=O (.lst<|pcs ts)) (h3:PcO H ts) (h4:ts.length<=150) (h5:(∀x∈ts,x.2.2.2=Y)) (h6:GQ (cons ts) R G p) (h7:G.nd<=400) (h8:TabOk Da C8 tb3 H) (h9:∀le xs H',SameX tb3 H H'->TabOk Da C8 tb3 H'->H' le=O (.lst xs)->EnsR R H' xs (ents G)->Q (.ref le) H'):Ko tb3 vs H Q E
def G8(tb3:jF):Sp:=λvs H Q E=>Ko tb3 vs H Q E
theorem RL{f:jF}{fd:jM}{c tb3:jF}(F:FunC K "cut_up" "cut_up" Bt f fd c)(hC:MZ K c tb3=nZ)(hB:Xn K mg)(gb:Ar P w K mg jD 1 "inside" mj DD)(iu:Ar P w K mg jD 4 "entry_for" nE KN)(iw:Ar P w K mg jD 7 "entries_by" nH<|VO P w K mg jD):
  A8 P w K mg jD CX0 8 f fd mm (G8 tb3):=by
 have S:Al mm mm (Ah Bt):=fsk;refine F.g S ?_;rintro vs H Q E ⟨a,l,p,ts,G,R,rfl,ha,hl,pc,few,nm,gr,Gnd,tb,q⟩;refine⟨Z,λA jz s hr=>?_⟩;have hlam:=W7 (X:=(Bx CX0 P w K mg jD mm "cut_up" (Ah Bt) f (.ref c) A jz s H E).nox) (params:=VW) (body:=VX) (scope:=lamS3) (pos:=Da) (jC:=C8) (clos:=QR s.heap.objs.size) Z (codeTB_of hC) hB Z Z Z;have hcl:∀p∈QR s.heap.objs.size,(Bx CX0 P w K mg jD mm "cut_up" (Ah Bt) f (.ref c) A jz s H E).nox.env.cells.lookup p.1=O p.2/\(Bx CX0 P w K mg jD mm "cut_up" (Ah Bt) f (.ref c) A jz s H E).nox.env.kindOf p.1=O .cell:=λp hp=>by
  rw[ae.mp hp];exact⟨Z,Z⟩
 refine⟨_,(Ag<|Aq<|W8 (clos:=QR s.heap.objs.size) iw hr (Aa Ai<|Aj hlam) hcl (λ_=>rfl) Z),?_⟩;have tbl:=tb.tbl;refine⟨_,Z,TabOk.lamC tb λc' fl ctv H1 s1 tab1 hf hc hnew=>?_⟩;have ne1:∀{x:jF}{u:HO},H x=O u->(∀ps,u≠.tbl ps)->x≠tb3:=λ{x u} e n z=>by obtain⟨ps,e'⟩:=tbl;rw[z,e']at e;cases e;exact n _ Z
 intro Lc CA;have tup1:∀{x:jF}{xs:LUz},H x=O (.tup xs)->H1 x=O (.tup xs):=λe=>s1 _ _ (ne1 e (by intro ps z;cases z)) e;have hl1:H1 l=O (.lst<|pcs ts):=s1 _ _ (ne1 hl (by intro ps z;cases z)) hl;have up:∀{x:jF}{u:HO},H1 x=O u->(tkd H1 Lc) x=O u:=λe=>by rw[Bc<|FL CA.new e];exact e
 have fv:=Vv (P:=P) (w:=w) (K:=K) (mg:=mg) (jD:=jD) (k:=5) (H:=tkd H1 Lc) (f:=fl) (c':=c') (params:=VW) (body:=VX) (scope:=lamS3) (jC:=C8) (pn:="block") (ctv:=ctv) (fs:=me) (clos:=QR s.heap.objs.size) (cv:=[.ref l]) (L:=Lc)
  (sp:=spE R (λp=>enG (inP (cons ts) p) p)<|DQ (cons ts) R)
  (up hf) (up hc) Xj Z (λy=>?_) (λx y cc h1 h2=>?_) (λa o e=>IG e) CA.has (λp hp i v hi hv=>?_) (λ_ _=>.of_eq Z) (λvs H' Q' E' hsp=>by obtain⟨a',p',rfl,_⟩:=hsp;exact⟨_,Z⟩)
  (λA' jz' s' H' E' v Q' sm' hr' hsp=>?_)
 .refine⟨a,fl,p,G,_,_,_,Z,up<|tup1 ha,fv,gr,Gnd,λle xs H2 s2 nl hle hens=>?_⟩;obtain⟨sU,hk⟩:=SQ CA.new s2;exact⟨hk,q le xs _ (s1.trans sU.x) (tab1.same sU) (Ma hk hle (by intro o z;cases z))<|hens.tups λa xs e=>Ma hk e (by intro o z;cases z)⟩
 .constructor
  .rintro⟨cc,h⟩;have:=PySem.mem_of_lookup h;cases ae.mp this;simp
  .intro hy;rw[ae.mp hy];exact⟨_,Z⟩
 .have m1:=ae.mp<|PySem.mem_of_lookup h1;have m2:=ae.mp<|PySem.mem_of_lookup h2;exact(congrArg Prod.fst m1).trans (congrArg Prod.fst m2).symm
 .have hp':=ae.mp hp;subst hp'
  match i,hi with
  |0,_=>
   cases hv;exact CA.val _ hp 1 _ Z Z
 .obtain⟨a',p',ev,ha',db',q'⟩:=hsp;cases ev;refine⟨_,(Am iu hr'<|Aa Ai<|Aj<|Cm Z (AA Ak) (λ_ _ _ _ _=>pgk<|nk ["piece","block"]) (λ_ _ _ _ _=>(Bk<|Am gb hr'<|Aa (Av (QC (K:=K)) Ai Ab)<|Aj Ak)) (λ_ _ _ _ _=>Ai) (N:=["piece","block"]) (fr:=[Y,O 0])),?_⟩;have hL':∀a o,Lc.lookup a=O o->H' a=O (BY a o):=λa o e=>sm' _ _<|IG e;have kp:∀{x:jF}{u:HO},H1 x=O u->(∀o,u≠BY x o)->(utk H' Lc) x=O u:=λe n=>Ma hL' (sm' _ _<|up e) n;have hau:=Ma hL' ha' (by intro o z;cases z);have hlu:=kp hl1 (by intro o z;cases z);have pcu:PcO (utk H' Lc) ts:=λx hx=>⟨kp (tup1 (pc x hx).1) (by intro o z;cases z),kp (tup1 (pc x hx).2) (by intro o z;cases z)⟩;have sm2:∀{H2:Hp},Same (utk H' Lc) H2->Same H' (tkd H2 Lc):=λ{H2} s3 x o e=>by
   cases q:Lc.lookup x with
   |some o'=>rw[hL' x o' q]at e;cases e;exact IG q
   |none=>rw[Bc q];exact s3 _ _ (by rw[Bw q];exact e)
  refine⟨_,Z,_,Z,l,Z,⟨_,SqL.of hlu⟩,λacc jE=>Ci (K:=K) (a:=l) (ys:=pcs ts) (λi zs B H2=>(∃y,B=[y,O<|.ref a'])/\Same (utk H' Lc) H2/\zs=pcs ((ts.take i).filter λt=>og<|Ins t.2.2.1 p')) ⟨⟨Y,Z⟩,Same.new jE,Z⟩ (λi zs B H2 _ _ hp=>SqL.of<|hp.2.1 _ _ hlu) ?_ ?_⟩
  .rintro i x zs B H2 hx hi hl' jE' ⟨⟨y,rfl⟩,hs,rfl⟩;obtain⟨z,hz,rfl⟩:=Q4 hx;obtain⟨g1,g2⟩:=(pcu.same hs) z<|ak hz;have ft:=HW (λt:PT=>og<|Ins t.2.2.1 p') hz;refine⟨_,Z,z.1,_,_,_,Z,Z,SqT.of g1,Fi,_,Z,z.2.1,a',_,_,_,_,_,_,_,_,Z,g2,hs _ _ hau,_,Z,?_⟩;rw[TR];cases h3:og (Ins z.2.2.1 p')with
   |true=>
    refine⟨_,Z,fNx.mk (aK<|An (by rw[aa];lia)) hi hl' jE' ⟨⟨_,Z⟩,λc o e=>by rw[Af<|Ad e jE];exact hs c o e,?_⟩⟩;rw[ft,h3,jP Z]
   |false=>exact fSk.mk hi hl' jE' ⟨⟨_,Z⟩,hs,by rw[ft,h3,jK au,aJ]⟩
  rintro zs B H2 hzl ac2 ⟨_,s2,rfl⟩;rw[aa,aI]at ac2;have ec:cons (ts.filter λt=>og<|Ins t.2.2.1 p')=inP (cons ts) p':=by
   unfold inP;show List.map _ _=List.filter _ (List.map _ ts);rw[fc];rfl
  have fl:(ts.filter λt=>og<|Ins t.2.2.1 p').length<=ts.length:=cO _ _;refine⟨a',acc,p',ts.filter λt=>og<|Ins t.2.2.1 p',Z,s2 _ _ hau,ac2,λx hx=>(pcu.same s2) x (bg.mp hx).1,by lia,db'.1,db'.2.1,λx hx=>nm x (bg.mp hx).1,λe H3 s3 e3 hno=>?_⟩;rw[ec]at e3;refine q' e _ (sm2<|s2.trans s3) (EnR.imp (R:=λz=>z=p') (λn p2 en e2=>by rw[e2];exact db'.2.2 n en)<|e3.tups λx xs ex=>?_);cases qo:Lc.lookup x with
  |some o=>rw[hno x o qo]at ex;cases ex
  |none=>rw[Bc qo];exact ex
theorem BV{w h:Int}{ls ld:jF}:(FR w h ls ld).lookup ("panes":j5)=Y:=MP _ _ _ _ (by decide +kernel) (by decide +kernel) (by decide +kernel) (by decide +kernel)
noncomputable def CD(p q:Rc):Bool:=MJ p.t p.l p.b p.r q.t q.l q.b q.r
noncomputable def apR(p q:Rc):Bool:=og (p.r<=q.l)||og (q.r<=p.l)||(og (p.b<=q.t)||og (q.b<=p.t))
noncomputable def okA(ps:List Rc)(q:Rc):Bool:=ps.all λp=>CD p q||apR p q
noncomputable def VS(q:Rc):Bool:=Hq<|BM q.t q.l q.b q.r
noncomputable def blk(w h:Int)(ps:List Rc)(q:Rc):Bool:=VS q&&CD q ⟨0,0,h,w⟩&&okA ps q
def Nw:Sp:=λvs H Q _=>∃a b p q,vs=[.ref a,.ref b]/\H a=O (.tup<|BM p.t p.l p.b p.r)/\H b=O (.tup<|BM q.t q.l q.b q.r)/\Q (.bl<|apR p q) H
inductive LV(C:jF)(v:V)(vs:LUz)(H:Hp)(Q:VK)(E:XK):Prop
 |mk (a dx ls ld b:jF) (w h:Int) (ts:List<|jF×Rc) (kvs:LKz) (q:Rc) (h0:vs=[.ref a,.ref b]) (h1:PanelAt C H a w h ts dx ls ld kvs) (h2:H b=O (.tup<|BM q.t q.l q.b q.r)) (h3:blk w h (rcs ts) q=nZ) (h4:∀H',Same H H'->Q v H'):LV C v vs H Q E
def EF(C:jF)(v:V):Sp:=λvs H Q E=>LV C v vs H Q E
theorem Tt{f:jF}{fd:jM}(F:Fun K "apart" "apart" Mo f fd):A8 P w K mg jD CX0 1 f fd mj Nw:=by
 have S:Al ["one","other","beside"] mj (Ah Mo):=fsk;refine F.g S ?_;rintro vs H Q E ⟨a,b,p,q,rfl,ha,hb,k⟩;refine⟨Z,λcdv A jz s hr=>?_⟩;refine⟨_,(Ac (Az 2 S.nd<|Q0 (Bs BZ (Av As Ai Ab)<|Av As Ak Ab)<|D4<|Bs BZ (Av As Ak Ab)<|Av As Ai Ab)
  (Ag<|Aq<|Q0 Ap<|Q0 (Bs BZ (Av As Ai Ab)<|Av As Ak Ab)<|D4<|Bs BZ (Av As Ak Ab)<|Av As Ai Ab)),?_⟩
 have key:Q (.bl<|og (p.r<=q.l)||og (q.r<=p.l)||(og (p.b<=q.t)||og (q.b<=p.t))) H:=k;refine⟨_,Z,a,_,_,_,Z,Z,SqT.of ha,at3,_,Z,b,_,_,_,Z,Z,SqT.of hb,at1,_,_,Z,Z,_,Z,Br (λh1=>?_) λh1=>?_⟩
 .refine⟨_,Z,_,Z,Pt ?_⟩;show Q (.bl nZ) H;rw[h1]at key;exact key
 .refine⟨_,Z,b,_,_,_,Z,Z,SqT.of hb,at3,_,Z,a,_,_,_,Z,Z,SqT.of ha,at1,_,_,Z,Z,?_⟩;refine⟨_,Z,_,Z,Br (λh2=>?_) λh2=>?_⟩
  .show Q (.bl nZ) H;rw[h1,h2]at key;exact key
  .refine⟨_,Z,a,_,_,_,Z,Z,SqT.of ha,at2,_,Z,b,_,_,_,Z,Z,SqT.of hb,at0,_,_,Z,Z,_,Z,Br (λh3=>?_) λh3=>?_⟩
   .show Q (.bl nZ) H;rw[h1,h2,h3]at key;exact key
   .refine⟨_,Z,b,_,_,_,Z,Z,SqT.of hb,at2,_,Z,a,_,_,_,Z,Z,SqT.of ha,at0,_,_,Z,Z,?_⟩;rw[h1,h2,h3]at key;exact key
theorem NM{f:jF}{fd:jM}(F:Fun K "is_block" "is_block" FF f fd)(T:Txt mg tk)(PC:KB K C)(gA:Ar P w K mg jD 2 "is_rectangle" lY Mh)(gb:Ar P w K mg jD 1 "inside" mj DD)(ix:Ar P w K mg jD 1 "apart" mj Nw)
  (fV:Ij P w K mg jD 1 C "panes" lZ<|CJ C):A8 P w K mg jD CX0 3 f fd lX (EF C<|.bl nZ):=by
 have S:Al lX lX (Ah FF):=fsk;refine F.g S ?_;rintro vs H Q E ⟨a,dx,ls,ld,b,ww,hh,ts,kvs,q,rfl,pn,hb,hk,k⟩;refine⟨Z,λcdv A jz s hr=>?_⟩;refine⟨_,(Ac (AG (PW.pt<|Ev (BD<|Bk<|Am gA hr<|Aj Ak)<|CT<|BD<|Bk<|Am gb hr<|Aa Ak<|Aj<|A4<|Aa Ab<|Aa Ab<|Aa (AO Ai Z)<|Aj<|AO Ai Z) (Ag<|Aq Gk) A6)
  (Ag<|Aq<|Bg Ka T.z_all<|Aj<|B9 Z (AA<|D5 fV hr Ai) (λ_ _ _ _ _=>pgk<|nk mY) (λ_ _ _ _ _=>(Q0 (Am gb hr<|Aa Ai<|Aj Ak)<|D4<|Am ix hr<|Aa Ai<|Aj Ak)) (N:=mY) (fr:=[Y,O 1]))),?_⟩
 unfold blk at hk;rw[av,av]at hk;obtain⟨⟨h1,h2⟩,h3⟩:=hk;have h1:Hq (BM q.t q.l q.b q.r)=nZ:=h1;have h2:MJ q.t q.l q.b q.r 0 0 hh ww=nZ:=h2;refine⟨_,Z,_,Z,.inl ⟨b,_,Z,hb,(by show(4:Nat)<=100;decide),QI,λH1 s1=>⟨_,Z,Bi (by rw[h1];rfl) ?_⟩⟩⟩;have pn1:=pn.same s1;refine⟨_,Z,_,Z,a,C,dx,_,_,Z,pn1.ob,PC.cl,PC.n_height,C6 _ _ _ _,_,Z,a,C,dx,_,_,Z,pn1.ob,PC.cl,PC.n_width,BI _ _ _ _,Ay 4,λt ht=>?_⟩;refine nv ht λH2 sz et=>?_;have s2:=s1.trans sz;have hb2:=s2 _ _ hb;have pn2:=pn.same s2;refine⟨b,t,_,_,_,_,_,_,_,_,Z,hb2,et,_,Z,?_⟩;refine Bi (by rw[h2];rfl) ?_;refine⟨_,Z,a,dx,_,Z,pn2.ob,BV,a,dx,ls,ld,ww,hh,ts,kvs,Z,pn2,λl hl=>?_⟩;refine nv hl λH3 sz el=>?_;have s3:=s2.trans sz;have hb3:=s3 _ _ hb;refine⟨l,Z,⟨_,SqL.of el⟩,λacc jE=>Bb (K:=K) (a:=l) (ys:=A1 ts) (λi xs B H'=>(∃y,B=[y,O<|.ref b])/\Same H3 H'/\xs=((rcs ts).take i).map λp=>V.bl<|CD p q||apR p q) ⟨⟨Y,Z⟩,Same.new jE,Z⟩ (λi xs B H' _ _ hp=>SqL.of<|hp.2.1 _ _ el) ?_ ?_⟩
 .rintro i x xs B H' hx hi hl' jE' ⟨⟨y,rfl⟩,s4,rfl⟩;obtain⟨u,hu',rfl⟩:=AZ hx;have hua:=(s3.trans s4) _ _<|pn.ats u<|ak hu';have hb4:=s4 _ _ hb3;have er:(rcs ts)[i]?=O u.2:=by rw[ax,hu'];rfl
  have nx:cNx acc (A1 ts).length (λi xs B H'=>(∃y,B=[y,O<|.ref b])/\Same H3 H'/\xs=((rcs ts).take i).map λp=>V.bl<|CD p q||apR p q) i [O<|.ref u.1,O<|.ref b] (V.bl<|CD u.2 q||apR u.2 q) H':=by
   refine cNx.mk (aK<|An (by rw[aa];have:=pn.few;lia)) hi hl' jE' ⟨⟨_,Z⟩,λc o e=>?_,?_⟩
   .rw[Af<|Ad e jE];exact s4 c o e
   .rw[aN,er,af];rfl
  refine⟨_,Z,_,Z,u.1,b,_,_,_,_,_,_,_,_,Z,hua,hb4,_,Z,Br (λh3=>?_) λh3=>?_⟩
  .have h3':CD u.2 q=nZ:=h3;rw[h3']at nx;exact nx
  .have h3':CD u.2 q=oe:=h3;rw[h3']at nx;exact⟨_,Z,_,Z,u.1,b,u.2,q,Z,hua,hb4,nx⟩
 .rintro xs B H' hl' jE' ⟨_,s4,rfl⟩;have e:(A1 ts).length=(rcs ts).length:=by rw[aa,aa]
  rw[e,aI]at jE';have e2:List.map V.bl ((rcs ts).map λp=>CD p q||apR p q)=(rcs ts).map λp=>V.bl (CD p q||apR p q):=by rw[aA (l:=rcs ts)];rfl
  refine⟨acc,(rcs ts).map λp=>CD p q||apR p q,Z,SqL.of (by rw[jE',e2]),Z,?_⟩;show Q (.bl<|((rcs ts).map λp=>CD p q||apR p q).all id) H';rw[fK];have h3:(rcs ts).all (id∘λp=>CD p q||apR p q)=nZ:=h3;rw[h3];exact k H'<|s3.trans s4
theorem Jw{f:jF}{fd:jM}(F:Fun K "check_block" "check_block" Dy f fd)(iy:Ar P w K mg jD 3 "is_block" lX<|EF C<|.bl nZ):A8 P w K mg jD CX0 4 f fd lX (EF C .non):=by
 have S:Al lX lX (Ah Dy):=fsk;refine F.g S ?_;rintro vs H Q E ⟨a,dx,ls,ld,b,ww,hh,ts,kvs,q,rfl,pn,hb,hk,k⟩;refine⟨Z,λcdv A jz s hr=>?_⟩;refine⟨_,(Ag<|AG (BD<|Bk<|Am iy hr<|Aa Ai<|Aj Ak) (Ag CU) A6),?_⟩;exact⟨_,Z,_,Z,a,dx,ls,ld,b,ww,hh,ts,kvs,q,Z,pn,hb,hk,λH1 s1=>⟨_,Z,Bi Z<|k H1 s1⟩⟩
noncomputable def Cj(g:Int->Bool)(acc:LI)(p:Int):LI:=
 match acc.getLast? with
 |some u=>if u.2=p/\g p=oe then acc.dropLast++[(u.1,p+1)]else acc++[(p,p+1)]
 |none=>acc++[(p,p+1)]
noncomputable def Ge(g:Int->Bool)(ps:List Int):LI:=ps.foldl (Cj g) []
noncomputable def B8(f:Int->Bool)(lo:Int):Nat->List Int
 |0=>[]
 |n+1=>B8 f lo n++(if f (lo+n)then [lo+n]else [])
noncomputable def KR(f g:Int->Bool)(lo:Int)(n:Nat):LI:=Ge g<|B8 f lo n
noncomputable def Of(p:Rc)(r c:Int):Bool:=og (p.t<=r)&&og (r<p.b)&&(og (p.l<=c)&&og (c<p.r))
theorem hasB_iff{p:Rc}{r c:Int}:Of p r c=nZ↔p.has r c:=by
 unfold Of Rc.has;simp only[av,decide_eq_true_eq]
 constructor
 .rintro⟨⟨a,b⟩,c,d⟩;exact⟨a,b,c,d⟩
 .rintro⟨a,b,c,d⟩;exact⟨⟨a,b⟩,c,d⟩
noncomputable def own(ps:List Rc)(r c:Int):Rc:=(ps.find? λp=>Of p r c).getD ⟨0,0,0,0⟩
theorem WB{ps:List Rc}(h:ps.Pairwise Apart){p:Rc}{r c:Int}(hp:p∈ps)(a:p.has r c):own ps r c=p:=by
 unfold own;cases e:ps.find? λp=>Of p r c with
 |none=>exact absurd (hasB_iff.mpr a)<|List.find?_eq_none.mp e p hp
 |some q=>exact PB h (fu e) hp (hasB_iff.mp<|List.find?_some (p:=λp=>Of p r c) e) a
noncomputable def lvB(ps:List Rc)(q:Rc)(r c:Int):Bool:=og (q.t<r)&&og (r<q.b)&&(og (q.l<=c)&&og (c<q.r))&&!decide (own ps (r-1) c=own ps r c)
noncomputable def upB(ps:List Rc)(q:Rc)(r c:Int):Bool:=og (q.t<=r)&&og (r<q.b)&&(og (q.l<c)&&og (c<q.r))&&!decide (own ps r (c-1)=own ps r c)
theorem WH{ps:List Rc}{q:Rc}{r c:Int}(h1:q.t<r)(h2:r<q.b)(h3:q.l<=c)(h4:c<q.r):lvB ps q r c=!decide (own ps (r-1) c=own ps r c):=by
 unfold lvB;simp[h1,h2,h3,h4]
theorem Wn{ps:List Rc}{q:Rc}{r c:Int}(h1:q.t<=r)(h2:r<q.b)(h3:q.l<c)(h4:c<q.r):upB ps q r c=!decide (own ps r (c-1)=own ps r c):=by
 unfold upB;simp[h1,h2,h3,h4]
abbrev LD:Type:=Bool×Int×Int×Int
noncomputable def lvN(ps:List Rc)(q:Rc):Nat->List LD
 |0=>[]
 |n+1=>lvN ps q n++(KR (λc=>lvB ps q (q.t+1+n) c) (λ_=>oe) q.l (q.r-q.l).toNat).map λu=>(oe,q.t+1+n,u.1,u.2)
noncomputable def EZ(ps:List Rc)(q:Rc):List LD:=lvN ps q (q.b-(q.t+1)).toNat
noncomputable def psB(ps:List Rc)(q:Rc)(r c:Int):Bool:=(EZ ps q).any λd=>og (d.2.1=r)&&(og (d.2.2.1<c)&&og (c<d.2.2.2))
theorem R6{ps:List Rc}{q:Rc}{r c:Int}:(∃d∈EZ ps q,d.2.1=r/\d.2.2.1<c/\c<d.2.2.2)↔psB ps q r c=nZ:=by
 unfold psB;simp only[bL,av,decide_eq_true_eq]
noncomputable def upN(ps:List Rc)(q:Rc):Nat->List LD
 |0=>[]
 |n+1=>upN ps q n++(KR (λr=>upB ps q r<|q.l+1+n) (λr=>psB ps q r<|q.l+1+n) q.t (q.b-q.t).toNat).map λu=>(nZ,q.l+1+n,u.1,u.2)
noncomputable def KG(ps:List Rc)(q:Rc):List LD:=upN ps q (q.r-(q.l+1)).toNat
def At2(H:Hp)(us:List<|jF×(Int×Int)):Prop:=∀u∈us,H u.1=O (.tup [.int u.2.1,.int u.2.2])
theorem At2.same{H H':Hp}{us:List<|jF×(Int×Int)}(a:At2 H us)(s:Same H H'):At2 H' us:=λt h=>s _ _<|a t h
noncomputable abbrev B4(us:List<|jF×(Int×Int)):LUz:=us.map λu=>V.ref u.1
noncomputable def WP(d:LD):List Key:=[Sum.inr<|cond d.1 "upright" "level",Sum.inl d.2.1,Sum.inl d.2.2.1,Sum.inl d.2.2.2]
def AtL(H:Hp)(us:List<|jF×LD):Prop:=∀u∈us,H u.1=O (.tup<|(WP u.2).map kV)
theorem AtL.same{H H':Hp}{us:List<|jF×LD}(a:AtL H us)(s:Same H H'):AtL H' us:=λt h=>s _ _<|a t h
noncomputable abbrev B0(us:List<|jF×LD):LUz:=us.map λu=>V.ref u.1
inductive Oz(K:jX)(vs:LUz)(H:Hp)(Q:VK)(E:XK):Prop
 |mk (l m:jF) (ps ss:List Int) (h0:vs=[.ref l,.ref m]) (h1:SqL K H l<|ps.map V.int) (h2:SqL K H m<|ss.map V.int) (h3:ps.length<=100) (h4:∀(lf:jF)(us:List<|jF×(Int×Int))(H':Hp),Same H H'->H lf=Y->H' lf=O (.lst<|B4 us)->At2 H' us->us.map (·.2)=Ge (λx=>og<|x∈ss) ps->Q (.ref lf) H'):Oz K vs H Q E
def Mg(K:jX):Sp:=λvs H Q E=>Oz K vs H Q E
inductive OA(C:jF)(vs:LUz)(H:Hp)(Q:VK)(E:XK):Prop
 |mk (a dx ls ld b:jF) (w h n:Int) (ts:List<|jF×Rc) (kvs:LKz) (q:Rc) (h0:vs=[.ref a,.ref b,.int n]) (h1:PanelAt C H a w h ts dx ls ld kvs) (h2:H b=O (.tup<|BM q.t q.l q.b q.r)) (h3:q.In w h) (h4:q.t<n) (h5:n<q.b) (h6:∀l H',Same H H'->H l=Y->H' l=O (.lst<|(B8 (λc=>lvB (rcs ts) q n c) q.l (q.r-q.l).toNat).map V.int)->Q (.ref l) H'):OA C vs H Q E
def Qi(C:jF):Sp:=λvs H Q E=>OA C vs H Q E
inductive O0(C:jF)(vs:LUz)(H:Hp)(Q:VK)(E:XK):Prop
 |mk (a dx ls ld b:jF) (w h n:Int) (ts:List<|jF×Rc) (kvs:LKz) (q:Rc) (h0:vs=[.ref a,.ref b,.int n]) (h1:PanelAt C H a w h ts dx ls ld kvs) (h2:H b=O (.tup<|BM q.t q.l q.b q.r)) (h3:q.In w h) (h4:q.l<n) (h5:n<q.r) (h6:∀l H',Same H H'->H l=Y->H' l=O (.lst<|(B8 (λr=>upB (rcs ts) q r n) q.t (q.b-q.t).toNat).map V.int)->Q (.ref l) H'):O0 C vs H Q E
def PZ(C:jF):Sp:=λvs H Q E=>O0 C vs H Q E
inductive Rl(C:jF)(vs:LUz)(H:Hp)(Q:VK)(E:XK):Prop
 |mk (a dx ls ld b:jF) (w h:Int) (ts:List<|jF×Rc) (kvs:LKz) (q:Rc) (h0:vs=[.ref a,.ref b]) (h1:PanelAt C H a w h ts dx ls ld kvs) (h2:H b=O (.tup<|BM q.t q.l q.b q.r)) (h3:q.In w h) (h4:∀l us H',Same H H'->H l=Y->H' l=O (.lst<|B0 us)->AtL H' us->us.map (·.2)=EZ (rcs ts) q->Q (.ref l) H'):Rl C vs H Q E
def SI(C:jF):Sp:=λvs H Q E=>Rl C vs H Q E
inductive Rg(C:jF)(vs:LUz)(H:Hp)(Q:VK)(E:XK):Prop
 |mk (a dx ls ld b m:jF) (w h:Int) (ts:List<|jF×Rc) (kvs:LKz) (q:Rc) (us:List<|jF×LD) (h0:vs=[.ref a,.ref b,.ref m]) (h1:PanelAt C H a w h ts dx ls ld kvs) (h2:H b=O (.tup<|BM q.t q.l q.b q.r)) (h3:q.In w h) (h4:H m=O (.lst<|B0 us)) (h5:AtL H us) (h6:us.map (·.2)=EZ (rcs ts) q) (h7:∀l us' H',Same H H'->H l=Y->H' l=O (.lst<|B0 us')->AtL H' us'->us'.map (·.2)=KG (rcs ts) q->Q (.ref l) H'):Rg C vs H Q E
def SC(C:jF):Sp:=λvs H Q E=>Rg C vs H Q E
inductive LO(C:jF)(vs:LUz)(H:Hp)(Q:VK)(E:XK):Prop
 |mk (a dx ls ld b:jF) (w h:Int) (ts:List<|jF×Rc) (kvs:LKz) (q:Rc) (h0:vs=[.ref a,.ref b]) (h1:PanelAt C H a w h ts dx ls ld kvs) (h2:H b=O (.tup<|BM q.t q.l q.b q.r)) (h3:q.In w h) (h4:blk w h (rcs ts) q=nZ) (h5:∀l us H',Same H H'->H l=Y->H' l=O (.lst<|B0 us)->AtL H' us->us.map (·.2)=EZ (rcs ts) q++KG (rcs ts) q->Q (.ref l) H'):LO C vs H Q E
def Nu(C:jF):Sp:=λvs H Q E=>LO C vs H Q E
theorem Oe{x:Int}:∀{ks:List Int},inV (.int x) (ks.map V.int)=og (x∈ks)
 |[]=>rfl
 |k::ks=>by
  have ih:=Oe (x:=x) (ks:=ks);unfold inV at ih |-;rw[aR,cP,ih];show(k==x||og (x∈ks))=_;rw[bJ,bW,beq_iff_eq,decide_eq_true_eq,decide_eq_true_eq,aQ]
  constructor
  .rintro(h|h)
   .exact .inl h.symm
   .exact .inr h
  .rintro(h|h)
   .exact .inl h.symm
   .exact .inr h
theorem FH(g:Int->Bool)(ps:List Int)(p:Int):Ge g (ps++[p])=Cj g (Ge g ps) p:=by
 unfold Ge;rw[cx];rfl
theorem Mq(g:Int->Bool)(acc:LI)(u:Int×Int)(p:Int)(h1:u.2=p)(h2:g p=oe):Cj g (acc++[u]) p=acc++[(u.1,p+1)]:=by
 unfold Cj;rw[show(acc++[u]).getLast?=O u by simp];show(if _ then _ else _)=_;rw[jP ⟨h1,h2⟩,cB]
theorem Mp(g:Int->Bool)(acc:LI)(u:Int×Int)(p:Int)(h:¬(u.2=p/\g p=oe)):Cj g (acc++[u]) p=acc++[u]++[(p,p+1)]:=by
 unfold Cj;rw[show(acc++[u]).getLast?=O u by simp];show(if _ then _ else _)=_;rw[jK h]
theorem Vc{f:jF}{fd:jM}(F:Fun K "runs" "runs" OW f fd):A8 P w K mg jD CX0 1 f fd mZ (Mg K):=by
 have S:Al ["places","stops","found","place"] mZ (Ah OW):=fsk;refine F.g S ?_;rintro vs H Q E ⟨l,m,ps,ss,rfl,hl,hm,few,k⟩;refine⟨Z,λcdv A jz s hr=>?_⟩;refine⟨_,(Ac (Az 2 S.nd<|AJ BF)
  (Ac (AF PassesOwn.never Z (AA Ai) (AS 3 S.nd)<|Ag<|AG (PW.pt<|Jd (ER Ap λ_=>rfl)<|Jd (A5 Bu (Av As (Av Bm Ap<|Hv E6 Ab) Ab) A2)<|Iq<|A5 Mz A2 Ak Z) (Ag<|Ta (A4<|Aa (Av As (Av Bm Ap<|Hv E6 Ab) Ab)<|Aj<|Ao A7 A2 Ab)<|W4 Ap (Hv E6 Ab) Nz)<|Ag<|AM<|BU Ap<|Aj<|A4<|Aa A2<|Aj<|Ao A7 A2 Ab)
  (Ag<|Aq Ap))),?_⟩
 refine⟨Ay 0,λlf hlf=>?_⟩;have s1:=Same.new (o:=.lst []) hlf;have e1:(upd H lf<|.lst []) lf=O (.lst []):=Ae;generalize upd H lf (.lst [])=H1 at s1 e1 |-;refine⟨_,Z,l,Z,⟨_,s1.seq hl⟩,Bn (K:=K) (a:=l) (xs:=ps.map V.int) (λi B H'=>∃(us:List<|jF×(Int×Int))(x3:Option V),B=[O<|.ref l,O<|.ref m,O<|.ref lf,x3]/\Same H H'/\H' lf=O (.lst<|B4 us)/\At2 H' us/\us.map (·.2)=Ge (λx=>og<|x∈ss) (ps.take i)/\us.length<=i)
  ⟨[],_,Z,s1,e1,λu hu=>absurd hu aZ,Z,ah _⟩ (λi B H' _ hp=>by obtain⟨_,_,_,h,_⟩:=hp;exact h.seq hl) ?_ ?_⟩
 .rintro i x B H' hx ⟨us,x3,rfl,s2,e2,a2,r2,n2⟩;obtain⟨p,hp,rfl⟩:∃p,ps[i]?=O p/\x=.int p:=by
   rw[ax]at hx;cases h:ps[i]? with
   |none=>rw[h]at hx;cases hx
   |some p=>rw[h]at hx;exact⟨p,Z,(Option.some.inj hx).symm⟩
  have et:ps.take (i+1)=ps.take i++[p]:=by rw[aN,hp];rfl
  have hi:i<ps.length:=(aD.mp hp).1;rcases fN us with rfl|⟨vs,u,eu⟩
  .refine⟨_,Z,_,.inl ⟨_,SqL.of e2,Z⟩,Bi Z ?_⟩;refine⟨_,Z,.inl ⟨Z,_,SqL.of e2⟩,_,Z,_,Z,_,_,Z,Z,Ay 2,λt ht=>?_⟩;have s3:=Same.new (o:=.tup [.int p,.int<|p+1]) ht;have e3:(upd H' t<|.tup [.int p,.int<|p+1]) t=O (.tup [.int p,.int<|p+1]):=Ae;have e4:=s3 _ _ e2;generalize upd H' t (.tup [.int p,.int<|p+1])=H2 at s3 e3 e4 |-;refine⟨lf,_,_,Z,Z,e4,An (by show 0<=1000;lia),[(t,(p,p+1))],_,Z,λc o e=>?_,Ae,λu hu=>?_,?_,by simp⟩
   .rw[Af<|Ad e hlf];exact(s2.trans s3) c o e
   .rw[ae.mp hu,Af<|AQ e3 e4 (by intro z;cases z)];exact e3
   .rw[et,FH,<-r2];rfl
  .rw[fO]at eu;subst eu;have n2':vs.length+1<=i:=by rw[aq]at n2;simpa using n2
   have hu2:=a2 u (by simp);have er:B4 (vs++[u])=B4 vs++[.ref u.1]:=by simp
   have rm:(vs++[u]).map (·.2)=vs.map (·.2)++[u.2]:=by simp
   rw[er]at e2;have tru:(!(B4 vs++[V.ref u.1]).isEmpty)=nZ:=by cases vs<;>rfl
   have lst:atI (B4 vs++[V.ref u.1]) (-1)=O (V.ref u.1):=Kc _ _;have lng:(B4 vs++[V.ref u.1]).length=vs.length+1:=by simp
   have fin:¬(u.2.2=p/\og (p∈ss)=oe)->∀t:jF,H' t=Y->∃(us':List<|jF×(Int×Int))(x3':Option V),[O<|V.ref l,O<|V.ref m,O<|V.ref lf,O<|V.int p]=[O<|V.ref l,O<|V.ref m,O<|V.ref lf,x3']/\Same H (upd (upd H' t<|.tup [.int p,.int<|p+1]) lf<|.lst<|B4 vs++[V.ref u.1]++[V.ref t])/\(upd (upd H' t<|.tup [.int p,.int<|p+1]) lf<|.lst<|B4 vs++[V.ref u.1]++[V.ref t]) lf=O (.lst<|B4 us')/\At2 (upd (upd H' t<|.tup [.int p,.int<|p+1]) lf<|.lst<|B4 vs++[V.ref u.1]++[V.ref t]) us'/\us'.map (·.2)=Ge (λx=>og<|x∈ss) (ps.take<|i+1)/\us'.length<=i+1:=λng t ht=>by
    have s3:=Same.new (o:=.tup [.int p,.int<|p+1]) ht;have e3:(upd H' t<|.tup [.int p,.int<|p+1]) t=O (.tup [.int p,.int<|p+1]):=Ae;have e4:=s3 _ _ e2;have a4:=a2.same s3;generalize upd H' t (.tup [.int p,.int<|p+1])=H2 at s3 e3 e4 a4 |-;refine⟨vs++[u]++[(t,(p,p+1))],_,Z,λc o e=>?_,by rw[Ae];simp,λv hv=>?_,?_,by simp;lia⟩
    .rw[Af<|Ad e hlf];exact(s2.trans s3) c o e
    .rcases aw.mp hv with hv|hv
     .rw[Af<|AQ (a4 v hv) e4 (by intro z;cases z)];exact a4 v hv
     .rw[ae.mp hv,Af<|AQ e3 e4 (by intro z;cases z)];exact e3
    .rw[af,rm,et,FH,<-r2,rm,Mp _ _ _ _ ng];rfl
   refine⟨_,Z,_,.inl ⟨_,SqL.of e2,Z⟩,BK tru ?_⟩;refine⟨_,Z,_,Z,lf,_,_,_,Z,Z,SqL.of e2,lst,u.1,_,_,_,Z,Z,SqT.of hu2,Z,_,Z,Z,_,Z,Br (λc1=>?_) λc1=>?_⟩
   .have c1:u.2.2=p:=by have:=jY c1;injection this
    refine⟨_,Z,_,Z,m,_,Z,.inl<|s2.seq hm,Z,by rw[az];intro x hx;obtain⟨z,_,rfl⟩:=ao.mp hx;rfl,_,Z,?_⟩;rw[jP Z,Oe];cases c2:og (p∈ss)with
    |false=>
     refine BK Z ⟨_,Z,_,Z,lf,_,_,_,Z,Z,SqL.of e2,lst,u.1,_,_,_,Z,Z,SqT.of hu2,Z,_,Z,_,_,Z,Z,Ay 2,λt ht=>?_⟩;have s3:=Same.new (o:=.tup [.int u.2.1,.int<|p+1]) ht;have e3:(upd H' t<|.tup [.int u.2.1,.int<|p+1]) t=O (.tup [.int u.2.1,.int<|p+1]):=Ae;have e4:=s3 _ _ e2;have a4:=a2.same s3;generalize upd H' t (.tup [.int u.2.1,.int<|p+1])=H2 at s3 e3 e4 a4 |-;have ij:ixN (B4 vs++[V.ref u.1]).length (-1)=O vs.length:=by
      rw[lng];unfold ixN;rw[jK (by lia),jP<|by lia];congr 1;lia
     have st:(B4 vs++[V.ref u.1]).set vs.length (V.ref t)=B4 (vs++[(t,(u.2.1,p+1))]):=by
      rw[List.set_append_right _ _<|by simp];simp
     refine⟨_,Z,_,Z,lf,_,_,_,Z,Z,e4,ij,vs++[(t,(u.2.1,p+1))],_,Z,λc o e=>?_,by rw[Ae,st],λv hv=>?_,?_,by simp;lia⟩
     .rw[Af<|Ad e hlf];exact(s2.trans s3) c o e
     .rcases aw.mp hv with hv|hv
      .have hv':=a4 v<|be _ hv;rw[Af<|AQ hv' e4 (by intro z;cases z)];exact hv'
      .rw[ae.mp hv,Af<|AQ e3 e4 (by intro z;cases z)];exact e3
     .rw[et,FH,<-r2,rm,Mq _ _ _ _ c1 c2,af];rfl
    |true=>
     refine Bi Z ⟨_,Z,.inl ⟨Z,_,SqL.of e2⟩,_,Z,_,Z,_,_,Z,Z,Ay 2,λt ht=>?_⟩;exact⟨lf,_,_,Z,Z,Same.new ht _ _ e2,An (by rw[lng];lia),fin (λz=>by rw[c2]at z;cases z.2) t ht⟩
   .have c1:u.2.2≠p:=λz=>of_decide_eq_false c1 (by rw[z]);refine⟨_,Z,.inl ⟨Z,_,SqL.of e2⟩,_,Z,_,Z,_,_,Z,Z,Ay 2,λt ht=>?_⟩;exact⟨lf,_,_,Z,Z,Same.new ht _ _ e2,An (by rw[lng];lia),fin (λz=>c1 z.1) t ht⟩
 .rintro B H' ⟨us,x3,rfl,s2,e2,a2,r2,n2⟩;rw[aa,aI]at r2;exact⟨_,Z,k lf us H' s2 hlf e2 a2 r2⟩
theorem Ee{w h:Int}{ls ld:jF}:(FR w h ls ld).lookup ("pane_at":j5)=Y:=MP _ _ _ _ (by decide +kernel) (by decide +kernel) (by decide +kernel) (by decide +kernel)
theorem Q8{X:Cx}{K:jX}{k:Nat}(hr:Room k X.A)(hK:X.K=K:=by rfl):OpR X (kh .NotEq) (W3 K nZ):=by subst hK;exact Ph hr
noncomputable def rcD(p:Rc):D:=.tup<|.cons (.at<|.int p.t)<|.cons (.at<|.int p.l)<|.cons (.at<|.int p.b)<|.cons (.at<|.int p.r) .nil
noncomputable def CB:List Rc->Ds
 |[]=>.nil
 |p::r=>.cons (rcD p)<|CB r
theorem Jc{K:jX}{H:Hp}{a:jF}{p:Rc}(h:H a=O (.tup<|BM p.t p.l p.b p.r)):DIs K H (rcD p) (.ref a):=by
 unfold rcD;refine⟨a,_,Z,SqT.of h,?_⟩;refine⟨_,_,Z,by exact⟨Z,Z⟩,?_⟩;refine⟨_,_,Z,by exact⟨Z,Z⟩,?_⟩;refine⟨_,_,Z,by exact⟨Z,Z⟩,?_⟩;refine⟨_,_,Z,by exact⟨Z,Z⟩,?_⟩;rw[DIss]
theorem Qp{K:jX}{H:Hp}:∀{ts:List<|jF×Rc},At H ts->DIss K H (CB<|rcs ts) (A1 ts)
 |[],_=>by rw[show CB (rcs [])=.nil from rfl,DIss];rfl
 |t::r,h=>by
  show DIss K H (.cons (rcD t.2)<|CB<|rcs r) (V.ref t.1::A1 r);exact⟨_,_,Z,Jc<|h t aE,Qp λu hu=>h u<|aF _ hu⟩
theorem Qs(p:Rc):dep (rcD p)=1:=by
 unfold rcD;simp[dep,D7]
theorem N4:∀ps:List Rc,D7 (CB ps)<=1
 |[]=>by rw[show CB []=.nil from rfl,D7];lia
 |p::r=>by
  have:=N4 r;show D7 (.cons (rcD p)<|CB r)<=1;rw[D7,Qs];lia
theorem Gw{K:jX}{H:Hp}{l:jF}{ts:List<|jF×Rc}(h:SqL K H l<|A1 ts)(a:At H ts):DIs K H (.lst<|CB<|rcs ts) (.ref l):=by
 exact⟨l,_,Z,h,Qp a⟩
theorem Lo(ps:List Rc):dep (.lst<|CB ps)<=50:=by
 have:=N4 ps;rw[dep];lia
theorem N5(p:Rc):dep (rcD p)<=50:=by rw[Qs];decide
theorem Ip(p q:Rc):deq (rcD p) (rcD q)=og (p=q):=by
 rcases p with⟨a,b,c,d⟩;rcases q with⟨a',b',c',d'⟩;unfold rcD;simp only[deq,Co,eqV];rw[bJ];simp
theorem Gm{C:jF}{H:Hp}{a:jF}{w h:Int}{ts:List<|jF×Rc}{dx ls ld:jF}{kvs:LKz}(p:PanelAt C H a w h ts dx ls ld kvs){t:jF×Rc}{r c:Int}(ht:t∈ts)(hh:t.2.has r c):own (rcs ts) r c=t.2:=
 WB p.til.dis (ao.mpr ⟨t,ht,Z⟩) hh
theorem Dj(f:Int->Bool)(lo:Int):∀n,(B8 f lo n).length<=n
 |0=>ah _
 |n+1=>by
  have:=Dj f lo n;unfold B8;rw[aq];split<;>simp<;>lia
theorem Gu{f:jF}{fd:jM}(F:Fun K "columns_parted" "columns_parted" Ce f fd)(T:Txt mg tk)(gm:Ij P w K mg jD 1 C "pane_at" mI<|F3 C):A8 P w K mg jD CX0 2 f fd mt (Qi C):=by
 have S:Al mt mt (Ah Ce):=fsk;refine F.g S ?_;rintro vs H Q E ⟨a,dx,ls,ld,b,ww,hh,n,ts,kvs,q,rfl,pn,hb,⟨q1,q2,q3,q4,q5,q6⟩,n1,n2,k⟩;refine⟨Z,λcdv A jz s hr=>?_⟩;have gw:=pn.sw;have gh:=pn.sh;refine⟨_,(Ag<|Aq<|Cm Z (AV Z T.z_range<|Aa (Av As Ak Ab)<|Aj<|Av As Ak Ab) (λ_ _ _ _ _=>pgk<|nk ["column","line","panel"]) (λ_ _ _ _ _=>(A5 (Q8 (K:=K) hr) (Q1 gm hr Ap<|Aa (Ao BG Ak Ab)<|Aj Ai)<|Q1 gm hr Ap<|Aa Ak<|Aj Ai)) (λ_ _ _ _ _=>Ai) (N:=["column","line","panel"]) (fr:=[Y,O 2,O 0])),?_⟩;refine⟨_,Z,b,_,_,_,Z,Z,SqT.of hb,at1,_,Z,b,_,_,_,Z,Z,SqT.of hb,at3,q.l,q.r,Z,⟨by lia,by lia,by lia,by lia⟩,λacc jE=>Ff (lo:=q.l) (n:=(q.r-q.l).toNat) (λi xs B H'=>(∃y,B=[y,O<|.int n,O<|.ref a])/\Same H H'/\xs=(B8 (λc=>lvB (rcs ts) q n c) q.l i).map V.int) ⟨⟨Y,Z⟩,Same.new jE,Z⟩ ?_ ?_⟩
 .rintro i xs B H' hi' hxl jE' ⟨⟨y,rfl⟩,s1,rfl⟩;have pn1:=pn.same s1;refine⟨_,Z,a,dx,_,Z,pn1.ob,Ee,_,Z,_,_,Z,Z,_,Z,a,dx,ls,ld,ww,hh,n-1,q.l+i,ts,kvs,Z,pn1,by lia,by lia,by lia,by lia,λu1 H2 hu1 hh1 s2=>?_⟩;have pn2:=pn1.same s2;refine⟨_,Z,a,dx,_,Z,pn2.ob,Ee,_,Z,_,Z,a,dx,ls,ld,ww,hh,n,q.l+i,ts,kvs,Z,pn2,by lia,by lia,by lia,by lia,λu2 H3 hu2 hh2 s3=>?_⟩;have pn3:=pn2.same s3;have o1:=Gm pn hu1 hh1;have o2:=Gm pn hu2 hh2;have lv:lvB (rcs ts) q n (q.l+i)=!decide (u1.2=u2.2):=by rw[WH n1 n2 (by lia) (by lia),o1,o2]
  refine⟨rcD u1.2,rcD u2.2,Jc<|pn3.ats u1 hu1,Jc<|pn3.ats u2 hu2,⟨_,Z⟩,⟨_,Z⟩,N5 _,?_⟩;rw[jP Z,Ip,<-lv];refine⟨_,Z,?_⟩;have hacc3:=s3 _ _<|s2 _ _ jE';have nacc:∀b o,H b=O o->b≠acc:=λb o e=>Ad e jE;have s13:=s1.trans<|s2.trans s3;cases hb':lvB (rcs ts) q n (q.l+i)with
  |false=>
   refine fSk.mk hi' hxl hacc3 ⟨⟨_,Z⟩,s13,?_⟩;rw[B8,hb',jK au,aJ]
  |true=>
   refine⟨_,Z,fNx.mk (aK<|An<|by lia) hi' hxl hacc3 ⟨⟨_,Z⟩,λc o e=>?_,?_⟩⟩
   .rw[Af<|nacc c o e];exact s13 c o e
   .rw[B8,hb',jP Z,af];rfl
 .rintro xs B H' hxl jE' ⟨_,s1,rfl⟩;exact k acc H' s1 jE jE'
theorem Jm{f:jF}{fd:jM}(F:Fun K "rows_parted" "rows_parted" Do f fd)(T:Txt mg tk)(gm:Ij P w K mg jD 1 C "pane_at" mI<|F3 C):A8 P w K mg jD CX0 2 f fd mt (PZ C):=by
 have S:Al mt mt (Ah Do):=fsk;refine F.g S ?_;rintro vs H Q E ⟨a,dx,ls,ld,b,ww,hh,n,ts,kvs,q,rfl,pn,hb,⟨q1,q2,q3,q4,q5,q6⟩,n1,n2,k⟩;refine⟨Z,λcdv A jz s hr=>?_⟩;have gw:=pn.sw;have gh:=pn.sh;refine⟨_,(Ag<|Aq<|Cm Z (AV Z T.z_range<|Aa (Av As Ak Ab)<|Aj<|Av As Ak Ab) (λ_ _ _ _ _=>pgk<|nk ["row","line","panel"]) (λ_ _ _ _ _=>(A5 (Q8 (K:=K) hr) (Q1 gm hr Ap<|Aa Ai<|Aj<|Ao BG Ak Ab)<|Q1 gm hr Ap<|Aa Ai<|Aj Ak)) (λ_ _ _ _ _=>Ai) (N:=["row","line","panel"]) (fr:=[Y,O 2,O 0])),?_⟩;refine⟨_,Z,b,_,_,_,Z,Z,SqT.of hb,at0,_,Z,b,_,_,_,Z,Z,SqT.of hb,at2,q.t,q.b,Z,⟨by lia,by lia,by lia,by lia⟩,λacc jE=>Ff (lo:=q.t) (n:=(q.b-q.t).toNat) (λi xs B H'=>(∃y,B=[y,O<|.int n,O<|.ref a])/\Same H H'/\xs=(B8 (λr=>upB (rcs ts) q r n) q.t i).map V.int) ⟨⟨Y,Z⟩,Same.new jE,Z⟩ ?_ ?_⟩
 .rintro i xs B H' hi' hxl jE' ⟨⟨y,rfl⟩,s1,rfl⟩;have pn1:=pn.same s1;refine⟨_,Z,a,dx,_,Z,pn1.ob,Ee,_,Z,_,Z,_,_,Z,Z,a,dx,ls,ld,ww,hh,q.t+i,n-1,ts,kvs,Z,pn1,by lia,by lia,by lia,by lia,λu1 H2 hu1 hh1 s2=>?_⟩;have pn2:=pn1.same s2;refine⟨_,Z,a,dx,_,Z,pn2.ob,Ee,_,Z,_,Z,a,dx,ls,ld,ww,hh,q.t+i,n,ts,kvs,Z,pn2,by lia,by lia,by lia,by lia,λu2 H3 hu2 hh2 s3=>?_⟩;have pn3:=pn2.same s3;have o1:=Gm pn hu1 hh1;have o2:=Gm pn hu2 hh2;have lv:upB (rcs ts) q (q.t+i) n=!decide (u1.2=u2.2):=by rw[Wn (by lia) (by lia) n1 n2,o1,o2]
  refine⟨rcD u1.2,rcD u2.2,Jc<|pn3.ats u1 hu1,Jc<|pn3.ats u2 hu2,⟨_,Z⟩,⟨_,Z⟩,N5 _,?_⟩;rw[jP Z,Ip,<-lv];refine⟨_,Z,?_⟩;have hacc3:=s3 _ _<|s2 _ _ jE';have nacc:∀b o,H b=O o->b≠acc:=λb o e=>Ad e jE;have s13:=s1.trans<|s2.trans s3;cases hb':upB (rcs ts) q (q.t+i) n with
  |false=>
   refine fSk.mk hi' hxl hacc3 ⟨⟨_,Z⟩,s13,?_⟩;rw[B8,hb',jK au,aJ]
  |true=>
   refine⟨_,Z,fNx.mk (aK<|An<|by lia) hi' hxl hacc3 ⟨⟨_,Z⟩,λc o e=>?_,?_⟩⟩
   .rw[Af<|nacc c o e];exact s13 c o e
   .rw[B8,hb',jP Z,af];rfl
 .rintro xs B H' hxl jE' ⟨_,s1,rfl⟩;exact k acc H' s1 jE jE'
theorem N0(g:Int->Bool)(acc:LI)(p:Int):(Cj g acc p).length<=acc.length+1:=by
 unfold Cj;split
 .split
  .rw[aq,fR];simp
  .simp
 .simp
theorem R9(g:Int->Bool)(ps:List Int):(Ge g ps).length<=ps.length:=by
 have key:∀(ps:List Int)(acc:LI),(ps.foldl (Cj g) acc).length<=acc.length+ps.length:=by
  intro ps
  induction ps with
  |nil=>intro acc;simp
  |cons p ps ih=>intro acc;have:=ih<|Cj g acc p;have:=N0 g acc p;simp only[dI,aL];lia
 have:=key ps [];unfold Ge
 simpa using this
theorem Fm(f g:Int->Bool)(lo:Int)(n:Nat):(KR f g lo n).length<=n:=aV (R9 _ _)<|Dj _ _ _
theorem KW{ts:List<|jF×(Int×Int)}{i:Nat}{x:V}(h:(B4 ts)[i]?=O x):∃t,ts[i]?=O t/\x=.ref t.1:=by
 rw[ax]at h;cases e:ts[i]? with
 |none=>rw[e]at h;cases h
 |some t=>rw[e]at h;exact⟨t,Z,(Option.some.inj h).symm⟩
theorem ME(ps:List Rc)(q:Rc)(hq:q.r-q.l<=12):∀n,(lvN ps q n).length<=12*n
 |0=>ah _
 |n+1=>by
  have h1:=ME ps q hq n;have h2:=Fm (λc=>lvB ps q (q.t+1+n) c) (λ_=>oe) q.l (q.r-q.l).toNat;show(lvN ps q n++_).length<=_;rw[aq,aa];lia
theorem Jr{f:jF}{fd:jM}(F:Fun K "level_leads" "level_leads" Du f fd)(T:Txt mg tk)(gD:Ar P w K mg jD 1 "runs" mZ<|Mg K)(iz:Ar P w K mg jD 2 "columns_parted" mt<|Qi C):A8 P w K mg jD CX0 3 f fd lX (SI C):=by
 have S:Al ["panel","block","found","line","begin","end"] lX (Ah Du):=fsk;refine F.g S ?_;rintro vs H Q E ⟨a,dx,ls,ld,b,ww,hh,ts,kvs,q,rfl,pn,hb,qi,k⟩;refine⟨Z,λcdv A jz s hr=>?_⟩;have qi':=qi;obtain⟨q1,q2,q3,q4,q5,q6⟩:=qi;have gw:=pn.sw;have gh:=pn.sh;refine⟨_,(Ac (Az 2 S.nd<|AJ BF)
  (Ac (AF PassesOwn.never Z (AV Z T.z_range<|Aa (Ao A7 (Av As Ak Ab) Ab)<|Aj<|Av As Ak Ab) (AS 3 S.nd)<|Ag<|AF PassesOwn.never Z (AA<|Am gD hr<|Aa (Am iz hr<|Aa Ai<|Aa Ak<|Aj A2)<|Aj<|AJ BF) (BS Z<|Au (AS 4 S.nd)<|Au (AS 5 S.nd) AY)<|Ag<|AM<|BU Ap<|Aj<|A4<|Aa (AH (v:=.str "level") Z T.jk ⟨_,Z⟩)<|Aa A2<|Aa AE<|Aj AX)
  (Ag<|Aq Ap))),?_⟩
 refine⟨Ay 0,λlf hlf=>?_⟩;refine nv hlf λH1 s1 e1=>?_;refine⟨_,Z,b,_,_,_,Z,Z,SqT.of<|s1 _ _ hb,at0,_,_,Z,Z,_,Z,b,_,_,_,Z,Z,SqT.of<|s1 _ _ hb,at2,q.t+1,q.b,Z,⟨by lia,by lia,by lia,by lia⟩,AT (lo:=q.t+1) (n:=(q.b-(q.t+1)).toNat) (λi B H'=>∃(us:List<|jF×LD)(x3 x4 x5:Option V),B=[O<|.ref a,O<|.ref b,O<|.ref lf,x3,x4,x5]/\Same H H'/\H' lf=O (.lst<|B0 us)/\AtL H' us/\us.map (·.2)=lvN (rcs ts) q i/\us.length<=12*i)
  ⟨[],_,_,_,Z,s1,e1,λu hu=>absurd hu aZ,Z,ah _⟩ ?_ ?_⟩
 .rintro i B H' hi ⟨us,x3,x4,x5,rfl,s2,e2,a2,r2,n2⟩;have hil:i<11:=by lia
  refine⟨_,Z,_,Z,_,Z,a,dx,ls,ld,b,ww,hh,q.t+1+i,ts,kvs,q,Z,pn.same s2,s2 _ _ hb,qi',by lia,by lia,λlc H3 s3 hlc ec=>?_⟩;refine⟨Ay 0,λl0 hl0=>?_⟩;refine nv hl0 λH4 s4 e4=>?_;have ec4:=s4 _ _ ec;refine⟨lc,l0,_,[],Z,SqL.of ec4,SqL.of e4,by have:=Dj (λc=>lvB (rcs ts) q (q.t+1+i) c) q.l (q.r-q.l).toNat;lia,λlr rs H5 s5 hlr er ar rr=>?_⟩;have nl:lf≠lr:=Ad (s4 _ _<|s3 _ _ e2) hlr;have s25:=s3.trans<|s4.trans s5;have rr':rs.map (·.2)=KR (λc=>lvB (rcs ts) q (q.t+1+i) c) (λ_=>oe) q.l (q.r-q.l).toNat:=by
   rw[rr];unfold KR;congr 1
  have nr:rs.length<=12:=by
   have:=Fm (λc=>lvB (rcs ts) q (q.t+1+i) c) (λ_=>oe) q.l (q.r-q.l).toNat;rw[<-rr',aa]at this;lia
  refine⟨lr,Z,⟨_,SqL.of er⟩,Bn (K:=K) (a:=lr) (xs:=B4 rs) (λj B H'=>∃(vs:List<|jF×LD)(x4 x5:Option V),B=[O<|.ref a,O<|.ref b,O<|.ref lf,O<|.int<|q.t+1+i,x4,x5]/\Same H H'/\H' lr=O (.lst<|B4 rs)/\At2 H' rs/\H' lf=O (.lst<|B0<|us++vs)/\AtL H' (us++vs)/\vs.map (·.2)=((rs.map (·.2)).take j).map (λu=>(oe,q.t+1+(i:Int),u.1,u.2))/\vs.length<=j)
   ⟨[],_,_,Z,s2.trans s25,er,ar,by rw[aJ];exact s25 _ _ e2,by rw[aJ];exact a2.same s25,Z,ah _⟩ (λj B H' _ hp=>by obtain⟨_,_,_,_,_,h,_⟩:=hp;exact SqL.of h) ?_ ?_⟩
  .rintro j x B H6 hx ⟨vs,y4,y5,rfl,s6,f6,g6,e6,a6,r6,n6⟩;obtain⟨u,hu,rfl⟩:=KW hx;have hua:=g6 u<|ak hu;have hj:j<rs.length:=(aD.mp hu).1;refine⟨u.1,_,Z,SqT.of hua,Z,_,_,Z,_,_,Z,Z,?_⟩;refine⟨_,Z,.inl ⟨Z,_,SqL.of e6⟩,_,Z,_,Z,_,Z,Ay 4,λt ht=>?_⟩;refine nv ht λH7 s7 e7=>?_;have f7:=s7 _ _ e6;have l7:=s7 _ _ f6;have a7:=a6.same s7;have g7:=g6.same s7;refine⟨lf,_,_,Z,Z,f7,An (by rw[aa,aq];lia),vs++[(t,(oe,q.t+1+i,u.2.1,u.2.2))],_,_,Z,λc o e=>?_,by rw[Af<|Ne.symm nl];exact l7,λv hv=>by rw[Af<|AQ (g7 v hv) f7 (by intro z;cases z)];exact g7 v hv,by rw[Ae];simp,λv hv=>?_,?_,by simp;lia⟩
   .rw[Af<|Ad e hlf];exact(s6.trans s7) c o e
   .rw[<-aX]at hv;rcases aw.mp hv with hv|hv
    .rw[Af<|AQ (a7 v hv) f7 (by intro z;cases z)];exact a7 v hv
    .rw[ae.mp hv,Af<|AQ e7 f7 (by intro z;cases z)];exact e7
   .have:(rs.map (·.2))[j]?=O u.2:=by rw[ax,hu];rfl
    rw[af,r6,aN,this,af];rfl
  .rintro B H6 ⟨vs,y4,y5,rfl,s6,f6,g6,e6,a6,r6,n6⟩;have ll:(B4 rs).length=(rs.map (·.2)).length:=by rw[aa,aa]
   rw[ll,aI,rr']at r6;refine⟨us++vs,_,_,_,Z,s6,e6,a6,by rw[af,r2,r6];rfl,?_⟩;rw[aa]at n6;rw[aq];lia
 .rintro B H' ⟨us,x3,x4,x5,rfl,s2,e2,a2,r2,n2⟩;exact⟨_,Z,k lf us H' s2 hlf e2 a2 r2⟩
theorem GI{ts:List<|jF×LD}{i:Nat}{x:V}(h:(B0 ts)[i]?=O x):∃t,ts[i]?=O t/\x=.ref t.1:=by
 rw[ax]at h;cases e:ts[i]? with
 |none=>rw[e]at h;cases h
 |some t=>rw[e]at h;exact⟨t,Z,(Option.some.inj h).symm⟩
theorem GK{f:jF}{fd:jM}(F:Fun K "upright_leads" "upright_leads" Cr f fd)(T:Txt mg tk)(gD:Ar P w K mg jD 1 "runs" mZ<|Mg K)(iA:Ar P w K mg jD 2 "rows_parted" mt<|PZ C):A8 P w K mg jD CX0 3 f fd m6 (SC C):=by
 have S:Al ["panel","block","levels","found","line","stops","begin","end"] m6 (Ah Cr):=fsk;refine F.g S ?_;rintro vs H Q E ⟨a,dx,ls,ld,b,m,ww,hh,ts,kvs,q,ws,rfl,pn,hb,qi,hm,am,rm,k⟩;refine⟨Z,λcdv A jz s hr=>?_⟩;have qi':=qi;obtain⟨q1,q2,q3,q4,q5,q6⟩:=qi;have gw:=pn.sw;have gh:=pn.sh;have lws:ws.length<=144:=by
  have h1:=ME (rcs ts) q (by lia) (q.b-(q.t+1)).toNat;have h2:(ws.map (·.2)).length=(EZ (rcs ts) q).length:=by rw[rm]
  rw[aa]at h2;unfold EZ at h2;lia
 refine⟨_,(Ac (Az 3 S.nd<|AJ BF)
  (Ac (AF PassesOwn.never Z (AV Z T.z_range<|Aa (Ao A7 (Av As Ak Ab) Ab)<|Aj<|Av As Ak Ab) (AD (i:=4) S.nd Z<|dB Z)<|Ac (Ht Z (AS 5 S.nd) (AA Ap) (λ_ _ _ _ _=>(Dk (K:=K) (n:=4) Z<|Au (AD (i:=0) (nk mM) Z<|bq Z)<|Au (AD (i:=1) (nk mM) Z<|bq Z)<|Au (AD (i:=2) (nk mM) Z<|bq Z)<|Au (AD (i:=3) (nk mM) Z<|bq Z) AY)) (λ_ _ _ _ _=>(Gg DJ DJ Ap AE A2)) (λ_ _ _ _ _=>Ak) (N:=mM) (fr:=[Y,Y,Y,Y,O 4]))
  (Ag<|AF PassesOwn.never Z (AA<|Am gD hr<|Aa (Am iA hr<|Aa Ai<|Aa Ak<|Aj AE)<|Aj AX) (BS Z<|Au (AS 6 S.nd)<|Au (AS 7 S.nd) AY)<|Ag<|AM<|BU A2<|Aj<|A4<|Aa (AH (v:=.str "upright") Z T.jm ⟨_,Z⟩)<|Aa AE<|Aa DI<|Aj DH))
  (Ag<|Aq A2))),?_⟩
 refine⟨Ay 0,λlf hlf=>?_⟩;refine nv hlf λH1 s1 e1=>?_;refine⟨_,Z,b,_,_,_,Z,Z,SqT.of<|s1 _ _ hb,at1,_,_,Z,Z,_,Z,b,_,_,_,Z,Z,SqT.of<|s1 _ _ hb,at3,q.l+1,q.r,Z,⟨by lia,by lia,by lia,by lia⟩,AT (lo:=q.l+1) (n:=(q.r-(q.l+1)).toNat) (λi B H'=>∃(us:List<|jF×LD)(x3 x4 x5 x6:Option V),B=[O<|.ref a,O<|.ref b,O<|.ref m,O<|.ref lf,x3,x4,x5,x6]/\Same H H'/\H' lf=O (.lst<|B0 us)/\AtL H' us/\us.map (·.2)=upN (rcs ts) q i/\us.length<=12*i)
  ⟨[],_,_,_,_,Z,s1,e1,λu hu=>absurd hu aZ,Z,ah _⟩ ?_ ?_⟩
 .rintro i B H' hi ⟨us,x3,x4,x5,x6,rfl,s2,e2,a2,r2,n2⟩;have hil:i<11:=by lia
  refine⟨_,Z,m,Z,⟨_,SqL.of<|s2 _ _ hm⟩,λacc jE=>Ci (K:=K) (a:=m) (ys:=B0 ws) (λj xs B H2=>(∃y0 y1 y2 y3,B=[y0,y1,y2,y3,O<|.int<|q.l+1+i])/\Same H' H2/\∃ss:List Int,xs=ss.map V.int/\∀x,x∈ss↔∃d∈(ws.map (·.2)).take j,d.2.1=x/\d.2.2.1<q.l+1+i/\q.l+1+i<d.2.2.2) ⟨⟨Y,Y,Y,Y,Z⟩,Same.new jE,[],Z,λx=>⟨λh=>absurd h aZ,λ⟨d,h,_⟩=>absurd h aZ⟩⟩ (λj xs B H2 _ _ hp=>SqL.of<|(s2.trans hp.2.1) _ _ hm) ?_ ?_⟩
  .rintro j x xs B H2 hx hj hxl jE' ⟨⟨y0,y1,y2,y3,rfl⟩,s3,ss,rfl,hss⟩;obtain⟨u,hu,rfl⟩:=GI hx;have hua:=(am.same<|s2.trans s3) u<|ak hu;have hj':(ws.map (·.2))[j]?=O u.2:=by rw[ax,hu];rfl
   have skip:¬(u.2.2.2.1<q.l+1+i/\q.l+1+i<u.2.2.2.2)->∀x,x∈ss↔∃d∈(ws.map (·.2)).take (j+1),d.2.1=x/\d.2.2.1<q.l+1+i/\q.l+1+i<d.2.2.2:=λhn x=>by
    rw[hss,aN,hj']
    constructor
    .rintro⟨d,h1,h2⟩;exact⟨d,be _ h1,h2⟩
    .rintro⟨d,h1,h2,h3⟩;rcases aw.mp h1 with h1|h1
     .exact⟨d,h1,h2,h3⟩
     .have:d=u.2:=by simpa using h1
      subst this;exact absurd h3 hn
   have add:(u.2.2.2.1<q.l+1+i/\q.l+1+i<u.2.2.2.2)->∀x,x∈ss++[u.2.2.1]↔∃d∈(ws.map (·.2)).take (j+1),d.2.1=x/\d.2.2.1<q.l+1+i/\q.l+1+i<d.2.2.2:=λhy x=>by
    rw[aw,hss,aN,hj']
    constructor
    .rintro(⟨d,h1,h2⟩|h)
     .exact⟨d,be _ h1,h2⟩
     .exact⟨u.2,aB _ (by simp),(ae.mp h).symm,hy⟩
    .rintro⟨d,h1,h2,h3⟩;rcases aw.mp h1 with h1|h1
     .exact .inl ⟨d,h1,h2,h3⟩
     .have:d=u.2:=by simpa using h1
      subst this;exact .inr<|ae.mpr h2.symm
   have nacc:∀b o,H' b=O o->b≠acc:=λb o e=>Ad e jE;refine⟨u.1,_,Z,SqT.of hua,Z,_,_,Z,_,_,Z,_,_,Z,_,_,Z,Z,?_⟩;refine⟨_,Z,_,Z,_,_,Z,Z,_,Z,Br (λc1=>?_) λc1=>?_⟩
   .refine⟨_,Z,_,_,Z,Z,_,Z,?_⟩;cases c2:og (q.l+1+(i:Int)<u.2.2.2.2)with
    |true=>
     refine⟨_,Z,fNx.mk (aK<|An (by rw[aa];lia)) hj hxl jE' ⟨⟨_,_,_,_,Z⟩,λc o e=>?_,ss++[u.2.2.1],by rw[af];rfl,add ⟨jY c1,jY c2⟩⟩⟩;rw[Af<|nacc c o e];exact s3 c o e
    |false=>exact fSk.mk hj hxl jE' ⟨⟨_,_,_,_,Z⟩,s3,ss,Z,skip λz=>of_decide_eq_false c2 z.2⟩
   .exact⟨_,Z,fSk.mk hj hxl jE' ⟨⟨_,_,_,_,Z⟩,s3,ss,Z,skip λz=>of_decide_eq_false c1 z.1⟩⟩
  rintro xs B H2 hl' jE' ⟨_,s3,ss,rfl,hss⟩;have ll:(B0 ws).length=(ws.map (·.2)).length:=by rw[aa,aa]
  rw[ll,aI,rm]at hss;have hg:(λx=>og<|x∈ss)=λr=>psB (rcs ts) q r (q.l+1+i):=funext λx=>by
   rw[bJ,decide_eq_true_eq,hss,R6]
  refine⟨_,Z,_,Z,_,Z,a,dx,ls,ld,b,ww,hh,q.l+1+i,ts,kvs,q,Z,pn.same<|s2.trans s3,(s2.trans s3) _ _ hb,qi',by lia,by lia,λlc H3 s4 hlc ec=>?_⟩;refine⟨_,Z,lc,acc,_,ss,Z,SqL.of ec,SqL.of<|s4 _ _ jE',by have:=Dj (λr=>upB (rcs ts) q r<|q.l+1+i) q.t (q.b-q.t).toNat;lia,λlr rs H5 s5 hlr er ar rr=>?_⟩;have nl:lf≠lr:=Ad (s4 _ _<|s3 _ _ e2) hlr;have s25:=s3.trans<|s4.trans s5;have rr':rs.map (·.2)=KR (λr=>upB (rcs ts) q r<|q.l+1+i) (λr=>psB (rcs ts) q r<|q.l+1+i) q.t (q.b-q.t).toNat:=by
   rw[rr,hg];rfl
  have nr:rs.length<=12:=by
   have:=Fm (λr=>upB (rcs ts) q r<|q.l+1+i) (λr=>psB (rcs ts) q r<|q.l+1+i) q.t (q.b-q.t).toNat;rw[<-rr',aa]at this;lia
  refine⟨lr,Z,⟨_,SqL.of er⟩,Bn (K:=K) (a:=lr) (xs:=B4 rs) (λj B H'=>∃(vs:List<|jF×LD)(x4 x5:Option V),B=[O<|.ref a,O<|.ref b,O<|.ref m,O<|.ref lf,O<|.int<|q.l+1+i,O<|.ref acc,x4,x5]/\Same H H'/\H' lr=O (.lst<|B4 rs)/\At2 H' rs/\H' lf=O (.lst<|B0<|us++vs)/\AtL H' (us++vs)/\vs.map (·.2)=((rs.map (·.2)).take j).map (λu=>(nZ,q.l+1+(i:Int),u.1,u.2))/\vs.length<=j)
   ⟨[],_,_,Z,s2.trans s25,er,ar,by rw[aJ];exact s25 _ _ e2,by rw[aJ];exact a2.same s25,Z,ah _⟩ (λj B H' _ hp=>by obtain⟨_,_,_,_,_,h,_⟩:=hp;exact SqL.of h) ?_ ?_⟩
  .rintro j x B H6 hx ⟨vs,y4,y5,rfl,s6,f6,g6,e6,a6,r6,n6⟩;obtain⟨u,hu,rfl⟩:=KW hx;have hua:=g6 u<|ak hu;have hj:j<rs.length:=(aD.mp hu).1;refine⟨u.1,_,Z,SqT.of hua,Z,_,_,Z,_,_,Z,Z,?_⟩;refine⟨_,Z,.inl ⟨Z,_,SqL.of e6⟩,_,Z,_,Z,_,Z,Ay 4,λt ht=>?_⟩;refine nv ht λH7 s7 e7=>?_;have f7:=s7 _ _ e6;have l7:=s7 _ _ f6;have a7:=a6.same s7;have g7:=g6.same s7;refine⟨lf,_,_,Z,Z,f7,An (by rw[aa,aq];lia),vs++[(t,(nZ,q.l+1+i,u.2.1,u.2.2))],_,_,Z,λc o e=>?_,by rw[Af<|Ne.symm nl];exact l7,λv hv=>by rw[Af<|AQ (g7 v hv) f7 (by intro z;cases z)];exact g7 v hv,by rw[Ae];simp,λv hv=>?_,?_,by simp;lia⟩
   .rw[Af<|Ad e hlf];exact(s6.trans s7) c o e
   .rw[<-aX]at hv;rcases aw.mp hv with hv|hv
    .rw[Af<|AQ (a7 v hv) f7 (by intro z;cases z)];exact a7 v hv
    .rw[ae.mp hv,Af<|AQ e7 f7 (by intro z;cases z)];exact e7
   .have:(rs.map (·.2))[j]?=O u.2:=by rw[ax,hu];rfl
    rw[af,r6,aN,this,af];rfl
  .rintro B H6 ⟨vs,y4,y5,rfl,s6,f6,g6,e6,a6,r6,n6⟩;have ll:(B4 rs).length=(rs.map (·.2)).length:=by rw[aa,aa]
   rw[ll,aI,rr']at r6;refine⟨us++vs,_,_,_,_,Z,s6,e6,a6,by rw[af,r2,r6];rfl,?_⟩;rw[aa]at n6;rw[aq];lia
 .rintro B H' ⟨us,x3,x4,x5,x6,rfl,s2,e2,a2,r2,n2⟩;exact⟨_,Z,k lf us H' s2 hlf e2 a2 r2⟩
theorem PH(ps:List Rc)(q:Rc)(hq:q.b-q.t<=12):∀n,(upN ps q n).length<=12*n
 |0=>ah _
 |n+1=>by
  have h1:=PH ps q hq n;have h2:=Fm (λr=>upB ps q r<|q.l+1+n) (λr=>psB ps q r<|q.l+1+n) q.t (q.b-q.t).toNat;show(upN ps q n++_).length<=_;rw[aq,aa];lia
theorem Lq{w h:Int}{ps:List Rc}{q:Rc}(qi:q.In w h)(hw:w<=12)(hh:h<=12):(EZ ps q).length<=144/\(KG ps q).length<=144:=by
 obtain⟨q1,q2,q3,q4,q5,q6⟩:=qi;have h1:=ME ps q (by lia) (q.b-(q.t+1)).toNat;have h2:=PH ps q (by lia) (q.r-(q.l+1)).toNat;unfold EZ KG;lia
theorem Tp{f:jF}{fd:jM}(F:Fun K "leads" "leads" Mm f fd)(gE:Ar P w K mg jD 4 "check_block" lX<|EF C .non)(iB:Ar P w K mg jD 3 "level_leads" lX<|SI C)(iD:Ar P w K mg jD 3 "upright_leads" m6<|SC C):A8 P w K mg jD CX0 5 f fd lX (Nu C):=by
 have S:Al m6 lX (Ah Mm):=fsk;refine F.g S ?_;rintro vs H Q E ⟨a,dx,ls,ld,b,ww,hh,ts,kvs,q,rfl,pn,hb,qi,hk,k⟩;refine⟨Z,λcdv A jz s hr=>?_⟩;have gw:=pn.sw;have gh:=pn.sh;obtain⟨n1,n2⟩:=Lq (ps:=rcs ts) qi gw.2 gh.2;refine⟨_,(Ac (AM<|Am gE hr<|Aa Ai<|Aj Ak)
  (Ac (Az 2 S.nd<|Am iB hr<|Aa Ai<|Aj Ak)
  (Ag<|Aq<|Ao Ed Ap<|Am iD hr<|Aa Ai<|Aa Ak<|Aj Ap))),?_⟩
 refine⟨_,Z,_,Z,a,dx,ls,ld,b,ww,hh,ts,kvs,q,Z,pn,hb,hk,λH1 s1=>?_⟩;refine⟨_,Z,_,Z,a,dx,ls,ld,b,ww,hh,ts,kvs,q,Z,pn.same s1,s1 _ _ hb,qi,λl us H2 s2 hl el al rl=>?_⟩;have s12:=s1.trans s2;refine⟨_,Z,_,Z,_,Z,_,Z,a,dx,ls,ld,b,l,ww,hh,ts,kvs,q,us,Z,pn.same s12,s12 _ _ hb,qi,el,al,rl,λl' us' H3 s3 hl' el' al' rl'=>?_⟩;have m1:us.length<=144:=by rw[<-rl,aa]at n1;exact n1
 have m2:us'.length<=144:=by rw[<-rl',aa]at n2;exact n2
 refine⟨l,l',_,_,Z,Z,s3 _ _ el,el',aK (An (by rw[aa,aa];lia)),λp hp=>?_⟩;have s4:=Same.new (o:=.lst<|B0 us++B0 us') hp;have s14:=s12.trans<|s3.trans s4;have hp0:H p=Y:=by
  cases e:H p with
  |none=>rfl
  |some o=>rw[(s12.trans s3) _ _ e]at hp;cases hp
 refine k p (us++us') _ s14 hp0 (by rw[Ae];simp) (λu hu=>?_) (by rw[af,rl,rl']);rcases aw.mp hu with hu|hu
 .exact(al.same<|s3.trans s4) u hu
 .exact(al'.same s4) u hu
noncomputable def onB(x y:LD):Bool:=(x.1 != y.1)&&((og (y.2.1=x.2.2.1)||og (y.2.1=x.2.2.2))&&(og (y.2.2.1<x.2.1)&&og (x.2.1<y.2.2.2)))
noncomputable def Es:List LD->Bool
 |[x0,x1,x2,x3]=>onB x3 x0&&(onB x0 x1&&(onB x1 x2&&(onB x2 x3&&nZ)))
 |_=>oe
theorem UE:∀{xs:List LD},xs.length≠4->Es xs=oe
 |[],_=>rfl
 |[_],_=>rfl
 |[_,_],_=>rfl
 |[_,_,_],_=>rfl
 |[_,_,_,_],h=>absurd Z h
 |_::_::_::_::_::_,_=>rfl
theorem Us(u v:Bool):og (V.str (cond u "upright" "level")=V.str (cond v "upright" "level"))=(u==v):=by cases u<;>cases v<;>decide +kernel
theorem in2(k b e:Int):inV (.int k) [.int b,.int e]=(og (k=b)||og (k=e)):=by
 show((b==k)||((e==k)||false))=_;have f:∀i j:Int,(i==j)=og (j=i):=λi j=>by rw[bJ];simp only[beq_iff_eq,decide_eq_true_eq];exact⟨Eq.symm,Eq.symm⟩
 rw[f,f,fz]
theorem atM{x0 x1 x2 x3:V}:atI [x0,x1,x2,x3] (-1)=O x3:=rfl
inductive U5(vs:LUz)(H:Hp)(Q:VK)(E:XK):Prop
 |mk (a b:jF) (x y:LD) (h0:vs=[.ref a,.ref b]) (h1:H a=O (.tup<|(WP x).map kV)) (h2:H b=O (.tup<|(WP y).map kV)) (h3:∀H',Same H H'->Q (.bl<|onB x y) H'):U5 vs H Q E
def SH:Sp:=λvs H Q E=>U5 vs H Q E
inductive Oy(vs:LUz)(H:Hp)(Q:VK)(E:XK):Prop
 |mk (l:jF) (us:List<|jF×LD) (h0:vs=[.ref l]) (h1:H l=O (.lst<|B0 us)) (h2:AtL H us) (h3:∀H',Same H H'->Q (.bl (Es (us.map (·.2)))) H'):Oy vs H Q E
def PV:Sp:=λvs H Q E=>Oy vs H Q E
theorem Pl{f:jF}{fd:jM}(F:Fun K "lies_on" "lies_on" GC f fd):A8 P w K mg jD CX0 1 f fd mO SH:=by
 have S:Al mO mO (Ah GC):=fsk;refine F.g S ?_;rintro vs H Q E ⟨a,b,x,y,rfl,ha,hb,q⟩;refine⟨Z,λcdv A jz s hr=>?_⟩;have ha:H a=O (.tup [.str<|cond x.1 "upright" "level",.int x.2.1,.int x.2.2.1,.int x.2.2.2]):=ha;have hb:H b=O (.tup [.str<|cond y.1 "upright" "level",.int y.2.1,.int y.2.2.1,.int y.2.2.2]):=hb;refine⟨_,(Ac (AG (A5 Bu (Av As Ai Ab)<|Av As Ak Ab) (Ag<|Aq Gk) A6)
  (Ag<|Aq<|EV (Bs Lg (Av As Ak Ab) (A4<|Aa (Av As Ai Ab)<|Aj<|Av As Ai Ab) Z)<|D4<|ET DJ DJ (Av As Ak Ab) (Av As Ai Ab)<|Av As Ak Ab)),?_⟩
 refine⟨_,Z,a,_,_,_,Z,Z,SqT.of ha,at0,_,Z,b,_,_,_,Z,Z,SqT.of hb,at0,Z,_,Z,Br (λh=>?_) λh=>?_⟩
 .rw[Us]at h;have e:onB x y=oe:=by unfold onB;rw[show(x.1 != y.1)=oe by rw[bne,h];rfl];rfl
  show Q (.bl oe) H;rw[<-e];exact q H<|Same.refl H
 .rw[Us]at h;have h0:(x.1 != y.1)=nZ:=by rw[bne,h];rfl
  refine⟨_,Z,b,_,_,_,Z,Z,SqT.of hb,at1,_,Z,a,_,_,_,Z,Z,SqT.of ha,at2,_,Z,a,_,_,_,Z,Z,SqT.of ha,at3,Ay 2,λt ht=>?_⟩;have s1:Same H (upd H t<|.tup [.int x.2.2.1,.int x.2.2.2]):=Same.new ht;have key:=q _ s1;unfold onB at key;refine⟨t,_,Z,.inr<|SqT.of Ae,Z,Z,_,Z,Br (λh1=>?_) λh1=>?_⟩
  .rw[jK au,in2]at h1;refine⟨_,Z,b,_,_,_,Z,Z,SqT.of<|s1 _ _ hb,at2,_,Z,a,_,_,_,Z,Z,SqT.of<|s1 _ _ ha,at1,_,_,Z,Z,_,Z,Br (λh2=>?_) λh2=>?_⟩
   .refine⟨_,Z,b,_,_,_,Z,Z,SqT.of<|s1 _ _ hb,at3,_,_,Z,Z,?_⟩;rw[h0,h1,h2]at key;exact key
   .show Q (.bl oe) _;rw[h0,h1,h2]at key;exact key
  .rw[jK au,in2]at h1;show Q (.bl oe) _;rw[h0,h1]at key;exact key
theorem Vb{f:jF}{fd:jM}(F:Fun K "turn" "turn" OV f fd)(T:Txt mg tk)(gF:Ar P w K mg jD 1 "lies_on" mO SH):A8 P w K mg jD CX0 2 f fd me PV:=by
 have S:Al me me (Ah OV):=fsk;refine F.g S ?_;rintro vs H Q E ⟨l,us,rfl,hl,ha,q⟩;refine⟨Z,λcdv A jz s hr=>?_⟩;refine⟨_,(Ac (AG (A5 Jl (Bg Bf T.z_len<|Aj Ai) Ab) (Ag<|Aq Gk) A6)
  (Ag<|Aq<|Bg Ka T.z_all<|Aj<|B9 Z (Cg Z T.z_range<|Aj Ab) (λ_ _ _ _ _=>pgk<|nk ["place","some"]) (λ_ _ _ _ _=>(Am gF hr<|Aa (Av (JF (K:=K)) Ak<|Ao BG Ai Ab)<|Aj<|Av (JF (K:=K)) Ak Ai)) (N:=["place","some"]) (fr:=[Y,O 0]))),?_⟩
 refine⟨_,Z,l,_,Z,.inl<|SqL.of hl,Z,_,Z,Br (λh=>?_) λh=>?_⟩
 .have e:Es (us.map (·.2))=oe:=UE λz=>Yt h (by rw[aa];rw[aa]at z;exact z);show Q (.bl oe) H;rw[<-e];exact q H<|Same.refl H
 .have h4:=Wb h;rw[aa]at h4;obtain⟨u0,u1,u2,u3,rfl⟩:=Zc h4;have a0:=ha u0 (by simp);have a1:=ha u1 (by simp);have a2:=ha u2 (by simp);have a3:=ha u3 (by simp);refine⟨4,Z,by decide,by decide,λacc jE=>Eo (lo:=0) (n:=(4:Int).toNat)
   (λi zs B H'=>(∃y,B=[y,O<|.ref l])/\Same H H'/\zs=([onB u3.2 u0.2,onB u0.2 u1.2,onB u1.2 u2.2,onB u2.2 u3.2].take i).map V.bl) ⟨⟨Y,Z⟩,Same.new jE,Z⟩ ?_ ?_⟩
  .rintro i zs B H' hi hl' jE' ⟨⟨y,rfl⟩,hs,rfl⟩;have hi4:i<4:=hi;have key:∀{H2:Hp},Same H' H2->Same H (upd H2 acc<|.lst<|([onB u3.2 u0.2,onB u0.2 u1.2,onB u1.2 u2.2,onB u2.2 u3.2].take<|i+1).map V.bl):=λs2 b o e=>by
    rw[Af<|Ad e jE];exact s2 b o<|hs b o e
   obtain rfl|rfl|rfl|rfl:i=0\/i=1\/i=2\/i=3:=by lia
   .exact⟨_,Z,_,Z,_,_,Z,Z,l,_,_,_,Z,Z,SqL.of<|hs _ _ hl,atM,_,Z,_,Z,l,_,_,_,Z,Z,SqL.of<|hs _ _ hl,at0,u3.1,u0.1,u3.2,u0.2,Z,hs _ _ a3,hs _ _ a0,λH2 s2=>cNx.mk (by decide) hi hl' (s2 _ _ jE') ⟨⟨_,Z⟩,key s2,Z⟩⟩
   .exact⟨_,Z,_,Z,_,_,Z,Z,l,_,_,_,Z,Z,SqL.of<|hs _ _ hl,at0,_,Z,_,Z,l,_,_,_,Z,Z,SqL.of<|hs _ _ hl,at1,u0.1,u1.1,u0.2,u1.2,Z,hs _ _ a0,hs _ _ a1,λH2 s2=>cNx.mk (by decide) hi hl' (s2 _ _ jE') ⟨⟨_,Z⟩,key s2,Z⟩⟩
   .exact⟨_,Z,_,Z,_,_,Z,Z,l,_,_,_,Z,Z,SqL.of<|hs _ _ hl,at1,_,Z,_,Z,l,_,_,_,Z,Z,SqL.of<|hs _ _ hl,at2,u1.1,u2.1,u1.2,u2.2,Z,hs _ _ a1,hs _ _ a2,λH2 s2=>cNx.mk (by decide) hi hl' (s2 _ _ jE') ⟨⟨_,Z⟩,key s2,Z⟩⟩
   .exact⟨_,Z,_,Z,_,_,Z,Z,l,_,_,_,Z,Z,SqL.of<|hs _ _ hl,at2,_,Z,_,Z,l,_,_,_,Z,Z,SqL.of<|hs _ _ hl,at3,u2.1,u3.1,u2.2,u3.2,Z,hs _ _ a2,hs _ _ a3,λH2 s2=>cNx.mk (by decide) hi hl' (s2 _ _ jE') ⟨⟨_,Z⟩,key s2,Z⟩⟩
  .rintro zs B H' hl' jE' ⟨_,hs,rfl⟩;exact⟨acc,[onB u3.2 u0.2,onB u0.2 u1.2,onB u1.2 u2.2,onB u2.2 u3.2],Z,SqL.of jE',Z,q H' hs⟩
inductive Rh(C:jF)(vs:LUz)(H:Hp)(Q:VK)(E:XK):Prop
 |mk (a dx ls ld b:jF) (w h:Int) (ts:List<|jF×Rc) (kvs:LKz) (q:Rc) (h0:vs=[.ref a,.ref b]) (h1:PanelAt C H a w h ts dx ls ld kvs) (h2:H b=O (.tup<|BM q.t q.l q.b q.r)) (h3:blk w h (rcs ts) q=nZ) (h4:∀l H',Same H H'->H' l=O (.lst<|A1<|ts.filter λt=>CD t.2 q)->Q (.ref l) H'):Rh C vs H Q E
def SD(C:jF):Sp:=λvs H Q E=>Rh C vs H Q E
theorem P2{α:Type}(f:α->Bool){xs:List α}{i:Nat}{x:α}(h:xs[i]?=O x):(xs.take<|i+1).filter f=(xs.take i).filter f++(if f x then [x]else []):=by
 rw[aN,h,bt];cases e:f x with
 |true=>simp[e]
 |false=>simp[e]
theorem NF{f:jF}{fd:jM}(F:Fun K "panes_in" "panes_in" F9 f fd)(gE:Ar P w K mg jD 4 "check_block" lX<|EF C .non)(gb:Ar P w K mg jD 1 "inside" mj DD)(fV:Ij P w K mg jD 1 C "panes" lZ<|CJ C):A8 P w K mg jD CX0 5 f fd lX (SD C):=by
 have S:Al lX lX (Ah F9):=fsk;refine F.g S ?_;rintro vs H Q E ⟨a,dx,ls,ld,b,ww,hh,ts,kvs,q,rfl,pn,hb,hk,k⟩;refine⟨Z,λcdv A jz s hr=>?_⟩;refine⟨_,(Ac (AM<|Am gE hr<|Aa Ai<|Aj Ak)
  (Ag<|Aq<|Cm Z (AA<|D5 fV hr Ai) (λ_ _ _ _ _=>pgk<|nk mY) (λ_ _ _ _ _=>(Bk<|Am gb hr<|Aa Ai<|Aj Ak)) (λ_ _ _ _ _=>Ai) (N:=mY) (fr:=[Y,O 1]))),?_⟩
 refine⟨_,Z,_,Z,a,dx,ls,ld,b,ww,hh,ts,kvs,q,Z,pn,hb,hk,λH1 s1=>?_⟩;have pn1:=pn.same s1;refine⟨_,Z,a,dx,_,Z,pn1.ob,BV,a,dx,ls,ld,ww,hh,ts,kvs,Z,pn1,λl hl=>?_⟩;refine nv hl λH3 sz el=>?_;have s3:=s1.trans sz;have hb3:=s3 _ _ hb;refine⟨l,Z,⟨_,SqL.of el⟩,λacc jE=>Ci (K:=K) (a:=l) (ys:=A1 ts) (λi xs B H'=>(∃y,B=[y,O<|.ref b])/\Same H3 H'/\xs=A1 ((ts.take i).filter λt=>CD t.2 q)) ⟨⟨Y,Z⟩,Same.new jE,Z⟩ (λi xs B H' _ _ hp=>SqL.of<|hp.2.1 _ _ el) ?_ ?_⟩
 .rintro i x xs B H' hx hi hl' jE' ⟨⟨y,rfl⟩,s4,rfl⟩;obtain⟨u,hu',rfl⟩:=AZ hx;have hua:=(s3.trans s4) _ _<|pn.ats u<|ak hu';have hb4:=s4 _ _ hb3;have ef:=P2 (λt:jF×Rc=>CD t.2 q) hu';refine⟨_,Z,_,Z,u.1,b,_,_,_,_,_,_,_,_,Z,hua,hb4,_,Z,?_⟩;cases h3:CD u.2 q with
  |true=>
   have h3':MJ u.2.t u.2.l u.2.b u.2.r q.t q.l q.b q.r=nZ:=h3;rw[h3'];refine⟨_,Z,fNx.mk (aK<|An (by rw[aa];have:=pn.few;lia)) hi hl' jE' ⟨⟨_,Z⟩,λc o e=>?_,?_⟩⟩
   .rw[Af<|Ad e jE];exact s4 c o e
   .rw[ef,h3,jP Z,DG]
  |false=>
   have h3':MJ u.2.t u.2.l u.2.b u.2.r q.t q.l q.b q.r=oe:=h3;rw[h3'];exact fSk.mk hi hl' jE' ⟨⟨_,Z⟩,s4,by rw[ef,h3,jK au,aJ]⟩
 .rintro xs B H' hl' jE' ⟨_,s4,rfl⟩;have e:(A1 ts).length=ts.length:=aa _;rw[e,aI]at jE';exact k acc H' (s3.trans s4) jE'
inductive Ri(vs:LUz)(H:Hp)(Q:VK)(E:XK):Prop
 |mk (a:Int) (l:jF) (ts:List<|jF×Rk) (u:Bool) (h0:vs=[.int a,.ref l,.int<|sd u]) (h1:H l=O (.lst<|A1 ts)) (h2:PnO H ts) (h3:ts.length<=150) (h4:(∃t∈ts,Df u a t.2=nZ)) (h5:∀t H',Same H H'->Q (.ref t) H'):Ri vs H Q E
def SE:Sp:=λvs H Q E=>Ri vs H Q E
theorem N3{α:Type}{ts:List<|jF×α}{i:Nat}{t:jF×α}(q:jF×α->Bool)(h:ts[i]?=O t):A1 ((ts.take<|i+1).filter q)=A1 ((ts.take i).filter q)++if q t=nZ then [V.ref t.1]else []:=by
 rw[aN,h,bt];show List.map _ (_++List.filter q [t])=_;rw[dC,eZ];cases q t<;>simp
theorem Jo{f:jF}{fd:jM}(F:Fun K "pane_broken" "pane_broken" Dq f fd)(gC:Ar P w K mg jD 1 "line_breaks" mK OS):A8 P w K mg jD CX0 2 f fd ma SE:=by
 have S:Al ma ma (Ah Dq):=fsk;refine F.g S ?_;rintro vs H Q E ⟨a,l,ts,u,rfl,hl,hat,few,⟨t0,ht0,hb0⟩,q⟩;refine⟨Z,λcdv A jz s hr=>?_⟩;refine⟨_,(Ag<|Aq<|Av Bm (Cm Z (AA Ak) (λ_ _ _ _ _=>pgk<|nk mW) (λ_ _ _ _ _=>(Bk<|Am gC hr<|Aa Ak<|Aa Ai<|Aj Ap)) (λ_ _ _ _ _=>Ai) (N:=mW) (fr:=[Y,O 0,O 2])) Ab),?_⟩;refine⟨_,Z,l,Z,⟨_,SqL.of hl⟩,λacc jE=>Ci (K:=K) (a:=l) (ys:=A1 ts) (λi xs B H'=>(∃y,B=[y,O<|.int a,O<|.int<|sd u])/\Same H H'/\xs=A1 ((ts.take i).filter λt=>Df u a t.2)) ⟨⟨Y,Z⟩,Same.new jE,Z⟩ (λi xs B H' _ _ hp=>SqL.of<|hp.2.1 _ _ hl) ?_ ?_⟩
 .rintro i x xs B H' hx hi hl' jE' ⟨⟨y,rfl⟩,s4,rfl⟩;obtain⟨t,ht,rfl⟩:=AZ hx;have hta:=s4 _ _<|hat t<|ak ht;have ef:=N3 (λt:jF×Rk=>Df u a t.2) ht;refine⟨_,Z,_,Z,_,Z,a,t.1,t.2,u,Z,hta,_,Z,?_⟩;cases h3:Df u a t.2 with
  |true=>
   refine⟨_,Z,fNx.mk (aK<|An (by rw[aa];lia)) hi hl' jE' ⟨⟨_,Z⟩,λc o e=>?_,?_⟩⟩
   .rw[Af<|Ad e jE];exact s4 c o e
   .rw[ef,h3,jP Z]
  |false=>exact fSk.mk hi hl' jE' ⟨⟨_,Z⟩,s4,by rw[ef,h3,jK au,aJ]⟩
 .rintro xs B H' hl' jE' ⟨_,s4,rfl⟩;have e:(A1 ts).length=ts.length:=aa _;rw[e,aI]at jE';have mem:t0∈ts.filter λt=>Df u a t.2:=bg.mpr ⟨ht0,hb0⟩;cases hf:ts.filter λt=>Df u a t.2 with
  |nil=>rw[hf]at mem;cases mem
  |cons x r=>
   rw[hf]at jE';exact⟨acc,_,_,_,Z,Z,SqL.of jE',Nf,q x.1 H' s4⟩
noncomputable def CZ(r:List LD)(d:LD):Bool:=match r.getLast? with
 |some z=>onB z d
 |none=>oe
noncomputable def Db(S:List LD)(r:List LD):List (List LD):=(S.filter<|CZ r).map λd=>r++[d]
noncomputable def ext(S:List LD)(rs:List<|List LD):List (List LD):=rs.flatMap<|Db S
noncomputable def MS(S:List LD):Nat->List (List LD)
 |0=>S.map λd=>[d]
 |n+1=>ext S<|MS S n
theorem JB{r:List LD}{z d:LD}:CZ (r++[z]) d=onB z d:=by
 unfold CZ;rw[List.getLast?_append];rfl
theorem mem_ext{S:List LD}{rs:List<|List LD}{x:List LD}:x∈ext S rs↔∃r∈rs,∃d∈S,CZ r d=nZ/\r++[d]=x:=by
 unfold ext Db;rw[List.mem_flatMap]
 constructor
 .rintro⟨r,hr,h⟩;obtain⟨d,hd,e⟩:=ao.mp h;obtain⟨d1,d2⟩:=bg.mp hd;exact⟨r,hr,d,d1,d2,e⟩
 .rintro⟨r,hr,d,d1,d2,e⟩;exact⟨r,hr,ao.mpr ⟨d,bg.mpr ⟨d1,d2⟩,e⟩⟩
theorem MR{S:List LD}:∀{rs:List<|List LD},(∀r∈rs,(S.filter<|CZ r).length<=2)->(ext S rs).length<=2*rs.length
 |[],_=>ah _
 |r::q,h=>by
  have ih:=MR (rs:=q) λx hx=>h x<|aF _ hx;have h0:=h r aE;show(Db S r++ext S q).length<=_;rw[aq,aL];have:(Db S r).length=(S.filter<|CZ r).length:=aa _;lia
theorem Oj{S:List LD}(h:∀d∈S,(S.filter<|onB d).length<=2):∀(n:Nat),(∀r∈MS S n,r.length=n+1/\(S.filter<|CZ r).length<=2)/\(MS S n).length<=2^n*S.length
 |0=>by
  refine⟨λr hr=>?_,by rw[MS,aa];lia⟩;obtain⟨d,hd,rfl⟩:=ao.mp hr;exact⟨Z,h d hd⟩
 |n+1=>by
  obtain⟨a,b⟩:=Oj h n;refine⟨λr hr=>?_,?_⟩
  .obtain⟨r0,hr0,d,hd,_,rfl⟩:=mem_ext.mp hr;refine⟨by rw[aq,(a r0 hr0).1];rfl,?_⟩;have:CZ (r0++[d])=onB d:=funext λx=>JB;rw[this];exact h d hd
  .have:=MR (S:=S) (rs:=MS S n) λr hr=>(a r hr).2;rw[MS,Nat.pow_succ];have e:2^n*2*S.length=2*(2^n*S.length):=by rw[Nat.mul_comm (2^n) 2,Nat.mul_assoc]
   lia
abbrev RT2:=jF×List (jF×LD)
noncomputable abbrev ldr(r:RT2):List LD:=r.2.map (·.2)
def RowsAt(H:Hp)(rs:List RT2):Prop:=∀r∈rs,H r.1=O (.lst<|B0 r.2)/\AtL H r.2
theorem RowsAt.same{H H':Hp}{rs:List RT2}(h:RowsAt H rs)(s:Same H H'):RowsAt H' rs:=λr hr=>⟨s _ _ (h r hr).1,(h r hr).2.same s⟩
theorem KQ{n:Nat}(h:n<=3000):n<jU:=du h (by decide)
inductive Km(vs:LUz)(H:Hp)(Q:VK)(E:XK):Prop
 |mk (l m:jF) (rs:List RT2) (us:List<|jF×LD) (h0:vs=[.ref l,.ref m]) (h1:H l=O (.lst<|A1 rs)) (h2:RowsAt H rs) (h3:(∀r∈rs,r.2≠[]/\r.2.length<=10)) (h4:rs.length<=1200) (h5:H m=O (.lst<|B0 us)) (h6:AtL H us) (h7:(∀r∈rs,((us.map (·.2)).filter<|CZ<|ldr r).length<=2)) (h8:∀l' nrs H',Same H H'->H' l'=O (.lst<|A1 nrs)->RowsAt H' nrs->nrs.map ldr=ext (us.map (·.2)) (rs.map ldr)->Q (.ref l') H'):Km vs H Q E
def KM:Sp:=λvs H Q E=>Km vs H Q E
theorem Ud{S:List LD}{rs:List<|List LD}{r:List LD}:ext S (rs++[r])=ext S rs++Db S r:=by
 unfold ext;rw[db,eL,List.flatMap_nil,aJ]
theorem HF{S:List LD}{r:List LD}{d:LD}:Db (S++[d]) r=Db S r++if CZ r d=nZ then [r++[d]]else []:=by
 unfold Db;rw[bt,af,dC,eZ];cases CZ r d<;>rfl
theorem Oi{S:List LD}{r:List LD}{j:Nat}(h:(S.filter<|CZ r).length<=2):(Db (S.take j) r).length<=2:=by
 unfold Db;rw[aa];exact aV ((List.take_sublist j S).filter _).length_le h
theorem Ku{f:jF}{fd:jM}(F:Fun K "one_longer" "one_longer" DU f fd)(gF:Ar P w K mg jD 1 "lies_on" mO SH):A8 P w K mg jD CX0 2 f fd nJ KM:=by
 have S:Al ["rows","some","found","row","lead"] nJ (Ah DU):=fsk;refine F.g S ?_;rintro vs H Q E ⟨l,m,rs,us,rfl,hl,hrs,ne,few,hm,ha,two,k⟩;refine⟨Z,λcdv A jz s hr=>?_⟩;have two':∀i,(ext (us.map (·.2))<|(rs.map ldr).take i).length<=2*i:=λi=>by
  have:=MR (S:=us.map (·.2)) (rs:=(rs.map ldr).take i) λr hr=>by
   obtain⟨x,hx,rfl⟩:=ao.mp<|List.mem_of_mem_take hr;exact two x hx
  rw[bZ]at this;lia
 refine⟨_,(Ac (Az 2 S.nd<|AJ BF)
  (Ac (AF PassesOwn.never Z (AA Ai) (AS 3 S.nd)<|Ag<|AF PassesOwn.never Z (AA Ak) (AS 4 S.nd)<|Ag<|AG (Bk<|Am gF hr<|Aa (Av Bm A2<|Hv E6 Ab)<|Aj AE) (Ag<|AM<|BU Ap<|Aj<|Ao Ed A2<|AJ<|Aj AE) A6)
  (Ag<|Aq Ap))),?_⟩
 refine⟨Ay 0,λlf hlf=>?_⟩;refine nv hlf λH1 s1 e1=>?_;refine⟨_,Z,l,Z,⟨_,SqL.of<|s1 _ _ hl⟩,Bn (K:=K) (a:=l) (xs:=A1 rs) (λi B H'=>∃(ns:List RT2)(x3 x4:Option V),B=[O<|.ref l,O<|.ref m,O<|.ref lf,x3,x4]/\Same H H'/\H' lf=O (.lst<|A1 ns)/\RowsAt H' ns/\(∀r∈ns,r.1≠lf)/\ns.map ldr=ext (us.map (·.2)) ((rs.map ldr).take i))
  ⟨[],_,_,Z,s1,e1,λr hr=>(nomatch hr),λr hr=>(nomatch hr),Z⟩ (λi B H' _ hp=>by obtain⟨_,_,_,_,h,_⟩:=hp;exact SqL.of<|h _ _ hl) ?_ ?_⟩
 .rintro i x B H' hx ⟨ns,x3,x4,rfl,s2,f2,r2,g2,m2⟩;obtain⟨r,hr',rfl⟩:=AZ hx;have hrm:=ak hr';have hi:i<rs.length:=(aD.mp hr').1;have nl:ns.length<=2*i:=by have:=two' i;rw[<-m2,aa]at this;exact this
  obtain⟨nr,lr⟩:=ne r hrm;obtain⟨r0,z,er⟩:∃r0 z,r.2=r0++[z]:=by
   rcases fN r.2 with e|⟨r0,z,e⟩
   .exact absurd e nr
   .exact⟨r0,z,by rw[e,fO]⟩
  have tk:(rs.map ldr).take (i+1)=(rs.map ldr).take i++[ldr r]:=by rw[aN,ax,hr'];rfl
  refine⟨_,Z,m,Z,⟨_,SqL.of<|s2 _ _ hm⟩,Bn (K:=K) (a:=m) (xs:=B0 us) (λj B H'=>∃(ns:List RT2)(x4:Option V),B=[O<|.ref l,O<|.ref m,O<|.ref lf,O<|.ref r.1,x4]/\Same H H'/\H' lf=O (.lst<|A1 ns)/\RowsAt H' ns/\(∀r∈ns,r.1≠lf)/\ns.map ldr=ext (us.map (·.2)) ((rs.map ldr).take i)++Db ((us.map (·.2)).take j) (ldr r))
   ⟨ns,_,Z,s2,f2,r2,g2,by rw[m2];exact(aJ _).symm⟩ (λi B H' _ hp=>by obtain⟨_,_,_,h,_⟩:=hp;exact SqL.of<|h _ _ hm) ?_ ?_⟩
  .rintro j x B H3 hx ⟨ns3,y4,rfl,s3,f3,r3,g3,m3⟩;obtain⟨u,hu',rfl⟩:=GI hx;have hum:=ak hu';have tku:(us.map (·.2)).take (j+1)=(us.map (·.2)).take j++[u.2]:=by rw[aN,ax,hu'];rfl
   have n3:ns3.length<=2*i+2:=by
    have:=congrArg List.length m3;have e:=Oi (j:=j)<|two r hrm;have e2:=two' i;rw[aa,aq]at this;lia
   have hr3:=s3 _ _ (hrs r hrm).1;have hz3:=s3 _ _ ((hrs r hrm).2 z (by rw[er];simp));have hu3:=s3 _ _<|ha u hum;have lz:atI (B0 r.2) (-1)=O (.ref z.1):=by rw[er];show atI (List.map _ _) _=_;rw[af];exact Kc _ _
   have lb:CZ (ldr r) u.2=onB z.2 u.2:=by show CZ (List.map _ r.2) _=_;rw[er,af];exact JB
   refine⟨_,Z,_,Z,r.1,_,_,_,Z,Z,SqL.of hr3,lz,_,Z,z.1,u.1,z.2,u.2,Z,hz3,hu3,λH4 s4=>⟨_,Z,?_⟩⟩;have s34:=s3.trans s4;have f4:=s4 _ _ f3;cases hb:onB z.2 u.2 with
   |false=>
    refine Bi Z ⟨ns3,_,Z,s34,f4,r3.same s4,g3,?_⟩;rw[tku,HF,lb,hb,jK au,aJ];exact m3
   |true=>
    refine BK Z ?_;refine⟨_,Z,.inl ⟨Z,_,SqL.of f4⟩,_,Z,_,Z,Ay 1,λl5 h5=>?_⟩;refine nv h5 λH5 s5 e5=>?_;refine⟨r.1,l5,_,_,Z,Z,s5 _ _<|s4 _ _ hr3,e5,aK (An (by rw[aa];show _+1<=_;lia)),λl6 h6=>?_⟩;refine nv h6 λH6 s6 e6=>?_;have f6:=s6 _ _<|s5 _ _ f4;have n6:l6≠lf:=Ne.symm<|Ad (s5 _ _ f4) h6;have s36:=s4.trans<|s5.trans s6;refine⟨lf,_,_,Z,Z,f6,KQ (by rw[aa];lia),ns3++[(l6,r.2++[u])],_,Z,λc o e=>?_,by rw[Ae];simp,λx hx=>?_,λx hx=>?_,?_⟩
    .rw[Af<|Ad e hlf];exact(s3.trans s36) c o e
    .have up:∀{vs:List<|jF×LD},AtL H6 vs->AtL (upd H6 lf<|.lst<|A1 ns3++[.ref l6]) vs:=λa v hv=>by rw[Af<|AQ (a v hv) f6 (by intro z;cases z)];exact a v hv
     rcases aw.mp hx with hx|hx
     .obtain⟨x1,x2⟩:=(r3.same s36) x hx;exact⟨by rw[Af<|g3 x hx];exact x1,up x2⟩
     .rw[ae.mp hx];refine⟨by rw[Af n6,e6];simp,up λv hv=>?_⟩;rcases aw.mp hv with hv|hv
      .exact(s3.trans s36) _ _ ((hrs r hrm).2 v hv)
      .rw[ae.mp hv];exact s36 _ _ hu3
    .rcases aw.mp hx with hx|hx
     .exact g3 x hx
     .rw[ae.mp hx];exact n6
    .rw[af,m3,tku,HF,lb,hb,jP Z,aX];simp[ldr]
  .rintro B H3 ⟨ns3,y4,rfl,s3,f3,r3,g3,m3⟩;refine⟨ns3,_,_,Z,s3,f3,r3,g3,?_⟩;have e:(B0 us).length=(us.map (·.2)).length:=by rw[aa,aa]
   rw[e,aI]at m3;rw[tk,Ud];exact m3
 .rintro B H' ⟨ns,x3,x4,rfl,s2,f2,r2,g2,m2⟩;refine⟨_,Z,k lf ns H' s2 f2 r2 ?_⟩;have e:(A1 rs).length=(rs.map ldr).length:=by rw[aa,aa]
  rw[e,aI]at m2;exact m2
noncomputable def QJ(S:List LD):Bool:=(S.all λd=>og<|(S.filter<|onB d).length<=2)&&(MS S 3).any Es
inductive O9(vs:LUz)(H:Hp)(Q:VK)(E:XK):Prop
 |mk (m:jF) (us:List<|jF×LD) (h0:vs=[.ref m]) (h1:H m=O (.lst<|B0 us)) (h2:AtL H us) (h3:us.length<=288) (h4:QJ (us.map (·.2))=nZ) (h5:∀l H',Same H H'->Q (.ref l) H'):O9 vs H Q E
def Qh:Sp:=λvs H Q E=>O9 vs H Q E
theorem Gq{f:jF}{fd:jM}(F:Fun K "four_that_turn" "four_that_turn" Cd f fd)(T:Txt mg tk)(iE:Ar P w K mg jD 2 "one_longer" nJ KM)(iF:Ar P w K mg jD 2 "turn" me PV):A8 P w K mg jD CX0 3 f fd me Qh:=by
 have S:Al ["some","rows","more"] me (Ah Cd):=fsk;refine F.g S ?_;rintro vs H Q E ⟨m,us,rfl,hm,ha,few,fb,k⟩;refine⟨Z,λcdv A jz s hr=>?_⟩;unfold QJ at fb;rw[av]at fb;have row:=Oj (S:=us.map (·.2)) λd hd=>jY<|az.mp fb.1 d hd;obtain⟨r9,hr9,ht9⟩:=bL.mp fb.2;refine⟨_,(Ac (BE Z (AS 1 S.nd) (AA Ai) (λ_ _ _ _ _=>pgk<|nk ["lead"]) (λ_ _ _ _ _=>(AJ<|Aj Ai)) (N:=["lead"]) (fr:=[Y]))
  (Ac (AF PassesOwn.never Z (Cg Z T.z_range<|Aj Ab) (AS 2 S.nd)<|Ag<|Az 1 S.nd<|Am iE hr<|Aa Ak<|Aj Ai)
  (Ag<|Aq<|Av Bm (Cm Z (AA Ak) (λ_ _ _ _ _=>pgk<|nk ["row"]) (λ_ _ _ _ _=>(Bk<|Am iF hr<|Aj Ai)) (λ_ _ _ _ _=>Ai) (N:=["row"]) (fr:=[Y])) Ab))),?_⟩
 refine⟨_,Z,m,Z,⟨_,SqL.of hm⟩,λacc jE=>Bb (K:=K) (a:=m) (ys:=B0 us) (λi zs B H'=>(∃y,B=[y])/\Same H H'/\H' acc=O (.lst zs)/\∃rs:List RT2,zs=A1 rs/\RowsAt H' rs/\(∀r∈rs,r.1≠acc)/\rs.map ldr=((us.map (·.2)).take i).map λd=>[d]) ⟨⟨Y,Z⟩,Same.new jE,Ae,[],Z,λr hr=>(nomatch hr),λr hr=>(nomatch hr),Z⟩ (λi zs B H' _ _ hp=>SqL.of<|hp.2.1 _ _ hm) ?_ ?_⟩
 .rintro i x zs B H' hx hi hl' jE' ⟨⟨y,rfl⟩,hs,_,rs,rfl,hrs,na,em⟩;obtain⟨u,hu',rfl⟩:=GI hx;refine⟨_,Z,Ay 1,λt ht=>?_⟩;have nat:acc≠t:=Ad jE' ht;refine nv ht λH1 s1 e1=>?_;have ac1:=s1 _ _ jE';have ul:us.length=(B0 us).length:=(aa _).symm;refine cNx.mk (aK<|An<|by lia) hi hl' ac1 ⟨⟨_,Z⟩,λc o e=>?_,Ae,rs++[(t,[u])],by simp,λx hx=>?_,λx hx=>?_,?_⟩
  .rw[Af<|Ad e jE];exact(hs.trans s1) c o e
  .have up:∀{vs:List<|jF×LD}{o:LUz},AtL H1 vs->AtL (upd H1 acc<|.lst o) vs:=λa v hv=>by rw[Af<|AQ (a v hv) ac1 (by intro z;cases z)];exact a v hv
   rcases aw.mp hx with hx|hx
   .obtain⟨x1,x2⟩:=(hrs.same s1) x hx;exact⟨by rw[Af<|na x hx];exact x1,up x2⟩
   .rw[ae.mp hx];refine⟨by rw[Af<|Ne.symm nat];exact e1,up λv hv=>?_⟩;rw[ae.mp hv];exact(hs.trans s1) _ _<|ha u<|ak hu'
  .rcases aw.mp hx with hx|hx
   .exact na x hx
   .rw[ae.mp hx];exact Ne.symm nat
  .have:(us.map (·.2))[i]?=O u.2:=by rw[ax,hu'];rfl
   rw[af,em,aN,this,af];rfl
 .rintro zs B H' hl' jE' ⟨_,s1,_,rs,rfl,hrs,na,em⟩;have e:(B0 us).length=(us.map (·.2)).length:=by rw[aa,aa]
  rw[e,aI]at em;refine⟨3,Z,by decide,by decide,AT (lo:=0) (n:=(3:Int).toNat) (λi B H'=>∃(l:jF)(rs:List RT2)(x2:Option V),B=[O<|.ref m,O<|.ref l,x2]/\Same H H'/\H' l=O (.lst<|A1 rs)/\RowsAt H' rs/\rs.map ldr=MS (us.map (·.2)) i)
   ⟨acc,rs,_,Z,s1,jE',hrs,em⟩ ?_ ?_⟩
  .rintro i B H2 hi ⟨l,rs2,x2,rfl,s2,e2,r2,m2⟩;have hi3:i<3:=hi;have rl:∀r∈rs2,r.2.length=i+1/\((us.map (·.2)).filter<|CZ<|ldr r).length<=2:=λr hr=>by
    obtain⟨a,b⟩:=(row i).1 (ldr r) (by rw[<-m2];exact ao.mpr ⟨r,hr,Z⟩);exact⟨by rw[aa]at a;exact a,b⟩
   have n2:rs2.length<=2^i*us.length:=by
    have:=(row i).2;rw[<-m2,aa,aa]at this;exact this
   have p2:2^i<=4:=by
    obtain rfl|rfl|rfl:i=0\/i=1\/i=2:=by lia
    all_goals decide
   have p3:2^i*us.length<=4*288:=dm p2 few;refine⟨_,Z,_,Z,l,m,rs2,us,Z,e2,r2,λr hr=>⟨λz=>?_,by have:=(rl r hr).1;lia⟩,by lia,s2 _ _ hm,ha.same s2,λr hr=>(rl r hr).2,λl' nrs H3 s3 e3 r3 m3=>⟨l',nrs,_,Z,s2.trans s3,e3,r3,by rw[m3,m2];rfl⟩⟩;have:=(rl r hr).1;rw[z]at this;cases this
  .rintro B H2 ⟨l,rs2,x2,rfl,s2,e2,r2,m2⟩;have m2:rs2.map ldr=MS (us.map (·.2)) 3:=m2;have n2:rs2.length<=2^3*us.length:=by
    have:=(row 3).2;rw[<-m2,aa,aa]at this;exact this
   obtain⟨r0,hr0,er0⟩:=ao.mp (m2 ▸ hr9:r9∈rs2.map ldr);refine⟨_,Z,l,Z,⟨_,SqL.of e2⟩,λacc3 hacc3=>Ci (K:=K) (a:=l) (ys:=A1 rs2) (λi xs B H'=>(∃y,B=[y])/\Same H2 H'/\xs=A1 ((rs2.take i).filter λr=>Es<|ldr r)) ⟨⟨Y,Z⟩,Same.new hacc3,Z⟩ (λi xs B H' _ _ hp=>SqL.of<|hp.2.1 _ _ e2) ?_ ?_⟩
   .rintro i x xs B H3 hx hi hl3 jE' ⟨⟨y,rfl⟩,s3,rfl⟩;obtain⟨t,ht,rfl⟩:=AZ hx;obtain⟨g1,g2⟩:=(r2.same s3) t<|ak ht;have ef:=N3 (λr:RT2=>Es<|ldr r) ht;refine⟨_,Z,t.1,t.2,Z,g1,g2,λH4 s4=>⟨_,Z,?_⟩⟩;have ac4:=s4 _ _ jE';have rl:(A1 rs2).length=rs2.length:=aa _;cases h3:Es (t.2.map (·.2))with
    |true=>
     refine⟨_,Z,fNx.mk (aK<|KQ<|by lia) hi hl3 ac4 ⟨⟨_,Z⟩,λc o e=>?_,?_⟩⟩
     .rw[Af<|Ad e hacc3];exact(s3.trans s4) c o e
     .rw[ef];show _=_++(if Es (t.2.map (·.2))=nZ then _ else _);rw[h3,jP Z]
    |false=>exact fSk.mk hi hl3 ac4 ⟨⟨_,Z⟩,s3.trans s4,by rw[ef];show _=_++(if Es (t.2.map (·.2))=nZ then _ else _);rw[h3,jK au,aJ]⟩
   .rintro xs B H3 hl3 jE' ⟨_,s3,rfl⟩;have e:(A1 rs2).length=rs2.length:=aa _;rw[e,aI]at jE';have mem:r0∈rs2.filter λr=>Es (ldr r):=bg.mpr ⟨hr0,by show Es (ldr r0)=nZ;rw[er0];exact ht9⟩;cases hf:rs2.filter λr=>Es (ldr r)with
    |nil=>rw[hf]at mem;cases mem
    |cons x r=>
     rw[hf]at jE';exact⟨acc3,_,_,_,Z,Z,SqL.of jE',Nf,k x.1 H3<|s2.trans s3⟩
noncomputable def P8(ps:List Rc)(q:Rc)(u:Bool):Bool:=(List.range (Rk.hi q u-Rk.lo q u).toNat).all λi=>og (i=0)||ps.any λr=>CD r q&&Df u (Rk.lo q u+i) r
noncomputable def rmB(w h:Int)(ps:List Rc)(q:Rc):Bool:=blk w h ps q&&(P8 ps q nZ&&P8 ps q oe&&QJ (EZ ps q++KG ps q))
theorem Xd{w h:Int}{ps:List Rc}{q:Rc}(m:blk w h ps q=nZ):q.In w h:=by
 unfold blk VS CD MJ at m;have m:((og (0<=q.t)&&og (q.t<q.b)&&(og (0<=q.l)&&og (q.l<q.r)))&&(og (0<=q.t)&&og (0<=q.l)&&(og (q.b<=h)&&og (q.r<=w)))&&okA ps q)=nZ:=m;simp only[av,decide_eq_true_eq]at m;obtain⟨⟨⟨⟨a,b⟩,c,d⟩,_,e,f⟩,_⟩:=m;exact⟨a,b,e,c,d,f⟩
theorem VQ{w h:Int}{ps:List Rc}{q:Rc}(w2:w<=12)(h2:h<=12)(m:rmB w h ps q=nZ):blk w h ps q=nZ/\q.In w h/\(∀u,0<=Rk.lo q u/\Rk.lo q u<Rk.hi q u/\Rk.hi q u<=12)/\(∀u a,Rk.lo q u<a->a<Rk.hi q u->∃r∈ps,CD r q=nZ/\Df u a r=nZ)/\QJ (EZ ps q++KG ps q)=nZ:=by
 unfold rmB at m;rw[av,av,av]at m;obtain⟨m1,⟨m2,m3⟩,m4⟩:=m;have i:=Xd m1;obtain⟨a,b,c,d,e,f⟩:=i;refine⟨m1,⟨a,b,c,d,e,f⟩,λu=>?_,λu x x1 x2=>?_,m4⟩
 .cases u
  .exact⟨a,b,by show q.b<=12;lia⟩
  .exact⟨d,e,by show q.r<=12;lia⟩
 .have m:P8 ps q u=nZ:=by
   cases u
   .exact m3
   .exact m2
  obtain⟨n,rfl⟩:∃n:Nat,x=Rk.lo q u+n:=⟨(x-Rk.lo q u).toNat,by lia⟩;have:=az.mp m n (aO.mpr<|by lia);rw[bW,decide_eq_true_eq,bL]at this;rcases this with rfl|⟨r,hr,z⟩
  .lia
  .exact⟨r,hr,dR.mp z⟩
inductive OB(C:jF)(vs:LUz)(H:Hp)(Q:VK)(E:XK):Prop
 |mk (a dx ls ld b:jF) (w h:Int) (ts:List<|jF×Rc) (kvs:LKz) (q:Rc) (h0:vs=[.ref a,.ref b]) (h1:PanelAt C H a w h ts dx ls ld kvs) (h2:H b=O (.tup<|BM q.t q.l q.b q.r)) (h3:rmB w h (rcs ts) q=nZ) (h4:∀l H',Same H H'->Q (.ref l) H'):OB C vs H Q E
def Qj(C:jF):Sp:=λvs H Q E=>OB C vs H Q E
theorem M9{f:jF}{fd:jM}(F:Fun K "breaks_of" "breaks_of" EK f fd)(T:Txt mg tk)(iG:Ar P w K mg jD 5 "panes_in" lX<|SD C)(iH:Ar P w K mg jD 2 "pane_broken" ma SE):A8 P w K mg jD CX0 6 f fd nK (Qj C):=by
 have S:Al ["panel","room","panes","found","word","side","line"] nK (Ah EK):=fsk;refine F.g S ?_;rintro vs H Q E ⟨a,dx,ls,ld,b,ww,hh,ts,kvs,q,rfl,pn,hb,rm,k⟩;refine⟨Z,λcdv A jz s hr=>?_⟩;have gw:=pn.sw;have gh:=pn.sh;obtain⟨bk,_,bd,br,_⟩:=VQ gw.2 gh.2 rm;have few:=pn.few;refine⟨_,(Ac (Az 2 S.nd<|Am iG hr<|Aa Ai<|Aj Ak)
  (Ac (Az 3 S.nd<|AJ BF)
  (Ac (AF PassesOwn.never Z (Mw<|A4<|Aa (A4<|Aa (AH (v:=.str "upright") Z T.gz ⟨_,Z⟩)<|Aj<|AH (v:=.int 1) Z T.gN ⟨_,Z⟩)<|Aj<|A4<|Aa (AH (v:=.str "level") Z T.gX ⟨_,Z⟩)<|Aj<|AH (v:=.int 0) Z T.gY ⟨_,Z⟩) (BS Z<|Au (AS 4 S.nd)<|Au (AS 5 S.nd) AY)<|Ag<|AF PassesOwn.never Z (AV Z T.z_range<|Aa (Ao A7 (Av As Ak AX) Ab)<|Aj<|Av As Ak<|Ao A7 AX Ab) (AS 6 S.nd)<|Ag<|AM<|BU A2<|Aj<|A4<|Aa AE<|Aa DI<|Aj<|Am iH hr<|Aa DI<|Aa Ap<|Aj AX)
  (Ag<|Aq A2)))),?_⟩
 refine⟨_,Z,_,Z,a,dx,ls,ld,b,ww,hh,ts,kvs,q,Z,pn,hb,bk,λlp H1 s1 e1=>?_⟩;refine⟨Ay 0,λlf hlf=>?_⟩;have hlf0:H lf=Y:=none_of s1 hlf;have s2:=s1.trans<|Same.new (o:=.lst []) hlf;have e2:(upd H1 lf<|.lst []) lf=O (.lst []):=Ae;have n2:lp≠lf:=Ad e1 hlf;have p2:(upd H1 lf<|.lst []) lp=O (.lst<|A1<|ts.filter λt=>CD t.2 q):=by rw[Af n2];exact e1
 generalize upd H1 lf (.lst [])=H2 at s2 e2 p2 |-;refine⟨Ay 2,λt1 h1=>?_⟩;refine nv h1 λH3 s3 e3=>?_;refine⟨Ay 2,λt2 h2=>?_⟩;refine nv h2 λH4 s4 e4=>?_;refine⟨Ay 2,λt3 h3=>?_⟩;refine nv h3 λH5 s5 e5=>?_;have s35:=s4.trans s5;have s25:=s3.trans s35;have kp:Kp H1 H1:=HD<|Same.refl H1;have e3':=s35 _ _ e3;have e4':=s5 _ _ e4;have p5:=s25 _ _ p2;have f5:=s25 _ _ e2;have sB:=s2.trans s25;have pnO:∀{Hk:Hp},Same H Hk->PnO Hk (ts.filter λt=>CD t.2 q):=λsx t ht=>sx _ _<|pn.ats t (bg.mp ht).1;refine⟨t3,Z,⟨_,SqT.of e5⟩,MN (K:=K) (a:=t3) (xs:=[.ref t1,.ref t2]) (λi B H'=>∃(xs:LUz)(x4 x5 x6:Option V),B=[O<|.ref a,O<|.ref b,O<|.ref lp,O<|.ref lf,x4,x5,x6]/\Same H H'/\H' lf=O (.lst xs)/\H' lp=O (.lst<|A1<|ts.filter λt=>CD t.2 q)/\H' t1=O (.tup [.str "upright",.int 1])/\H' t2=O (.tup [.str "level",.int 0])/\H' t3=O (.tup [.ref t1,.ref t2])/\xs.length<=20*i)
  ⟨[],_,_,_,Z,sB,f5,p5,e3',e4',e5,ah _⟩ (λi B H' _ hp=>by obtain⟨_,_,_,_,_,_,_,_,_,_,h,_⟩:=hp;exact SqT.of h) ?_ ?_⟩
 .rintro i x B H' hx ⟨xs,x4,x5,x6,rfl,s6,f6,p6,a6,b6,c6,n6⟩;have hi2:i<2:=(aD.mp hx).1;obtain⟨u,t,rfl,ht⟩:∃(u:Bool)(t:jF),x=.ref t/\H' t=O (.tup [.str<|wd u,.int<|sd u]):=by
   have:=ak hx;simp only[aQ,aZ,or_false]at this;rcases this with rfl|rfl
   .exact⟨nZ,_,Z,a6⟩
   .exact⟨oe,_,Z,b6⟩
  refine⟨t,_,Z,SqT.of ht,Z,_,_,Z,_,_,Z,Z,?_⟩;have bu:=bd u;have lh:=bu.2.1;have hb6:=s6 _ _ hb;refine⟨_,Z,_,Z,b,_,_,_,Z,Z,SqT.of hb6,Ov,_,_,Z,Z,_,Z,_,Z,_,_,Z,Z,b,_,_,_,Z,Z,SqT.of hb6,U0,Rk.lo q u+1,Rk.hi q u,Z,⟨by lia,by lia,by lia,by lia⟩,AT (lo:=Rk.lo q u+1) (n:=(Rk.hi q u-(Rk.lo q u+1)).toNat) (λj B H'=>∃(xs:LUz)(x6:Option V),B=[O<|.ref a,O<|.ref b,O<|.ref lp,O<|.ref lf,O<|.str<|wd u,O<|.int<|sd u,x6]/\Same H H'/\H' lf=O (.lst xs)/\H' lp=O (.lst<|A1<|ts.filter λt=>CD t.2 q)/\H' t1=O (.tup [.str "upright",.int 1])/\H' t2=O (.tup [.str "level",.int 0])/\H' t3=O (.tup [.ref t1,.ref t2])/\xs.length<=20*i+j)
   ⟨xs,_,Z,s6,f6,p6,a6,b6,c6,by lia⟩ ?_ ?_⟩
  .rintro j B H7 hj ⟨ys,y6,rfl,s7,f7,p7,a7,b7,c7,n7⟩;obtain⟨r,hr,ir,b1⟩:=br u (Rk.lo q u+1+j) (by lia) (by lia);obtain⟨t0,ht0,rfl⟩:=ao.mp hr;refine⟨_,Z,.inl ⟨Z,_,SqL.of f7⟩,_,Z,_,Z,_,Z,_,Z,_,Z,Rk.lo q u+1+j,lp,ts.filter λt=>CD t.2 q,u,Z,p7,pnO s7,aV (cO _ _) (by lia),⟨t0,bg.mpr ⟨ht0,ir⟩,b1⟩,λtv H8 s8=>?_⟩;refine⟨Ay 3,λt9 h9=>?_⟩;refine nv h9 λH9 sz _=>?_;have s9:=s8.trans sz;have f9:=s9 _ _ f7;refine⟨lf,_,_,Z,Z,f9,An (by lia),ys++[.ref t9],_,Z,λc o e=>?_,Ae,?_,?_,?_,?_,by rw[aq,aY];lia⟩
   .rw[Af<|Ad e hlf0];exact(s7.trans s9) c o e
   .rw[Af n2];exact s9 _ _ p7
   .rw[Af<|AQ (s9 _ _ a7) f9 (by intro z;cases z)];exact s9 _ _ a7
   .rw[Af<|AQ (s9 _ _ b7) f9 (by intro z;cases z)];exact s9 _ _ b7
   .rw[Af<|AQ (s9 _ _ c7) f9 (by intro z;cases z)];exact s9 _ _ c7
  .rintro B H7 ⟨ys,y6,rfl,s7,f7,p7,a7,b7,c7,n7⟩;exact⟨ys,_,_,_,Z,s7,f7,p7,a7,b7,c7,by lia⟩
 .rintro B H' ⟨xs,x4,x5,x6,rfl,s6,f6,p6,a6,b6,c6,n6⟩;exact⟨_,Z,k lf H' s6⟩
def XG(H:Hp)(x C:jF)(d:Option jF)(fs:LFz):Prop:=((d=Y/\fs=[])\/∃dx,d=O dx/\dx≠x/\H dx=O (Cp dx fs))/\∃T,H x=O (FW C d x T)
def RfN(H:Hp)(E:XK)(C:jF)(P:LFz->Hp->Prop):Prop:=∀x d fs H',Sq H x->SameN H H'->XG H' x C d fs->P fs H'->E (.ref x) d H'
def XEN(H:Hp)(R:jF->LFz->Hp->Prop):XK:=λv d H'=>∃x C fs,v=.ref x/\Sq H x/\SameN H H'/\XG H' x C d fs/\R C fs H'
theorem XEN.rf{H:Hp}{R:jF->LFz->Hp->Prop}{C:jF}{P:LFz->Hp->Prop}(h:∀fs H',P fs H'->R C fs H'):RfN H (XEN H R) C P:=λx _ fs H' hx s r p=>⟨x,C,fs,Z,hx,s,r,h fs H' p⟩
def VC(P:LFz->Hp->Prop):Prop:=∀fs H' x C d T2,P fs H'->XG H' x C d fs->H' T2=Y->P fs (thrown H' x C d T2)
def RUN(H:Hp)(E:XK):jF->LFz->Hp->Prop:=λC fs H'=>∃P,RfN H E C P/\P fs H'/\VC P
theorem Sx{H H1:Hp}{x C C':jF}{d:Option jF}{T T2:jF}{fs:LFz}(hx:Sq H1 x)(s:SameN H1 H)(r:XG H x C d fs)(fl:Fk H x C' d T)(hT:H T2=Y):
  C=C'/\XG (thrown H x C' d T2) x C d fs/\SameN H1 (thrown H x C' d T2):=by
 obtain⟨alt,T',e⟩:=r;have q:C=C':=by
  have:=fl.1;rw[e]at this;exact(Ue<|Option.some.inj this).1
 subst q;refine⟨Z,⟨alt.imp id λ⟨dx,ed,nd,hd⟩=>⟨dx,ed,nd,by rw[AU nd<|Ad hd hT];exact hd⟩,T2,DB⟩,λa o ho no=>?_⟩;rw[AU (λz=>by subst z;obtain⟨ps,rfl⟩:=hx o ho;exact no ps Z)<|Ad (s a o ho no) hT];exact s a o ho no
theorem Q5{H:Hp}{E:XK}:∀x C d T T2 H',XEN H (RUN H E) (.ref x) d H'->Fk H' x C d T->H' T2=Y->T2≠x->E (.ref x) d (thrown H' x C d T2):=by
 rintro x C d T T2 H' ⟨x',C',fs,ev,hx,s,r,P,rf,p,st⟩ fl hT2 nT2;obtain rfl:x=x':=Value.ref.inj ev;obtain⟨rfl,r2,s2⟩:=Sx hx s r fl hT2;exact rf x d fs _ hx s2 r2<|st fs H' x C' d T2 p r hT2
theorem VR{H H2:Hp}{E:XK}{C:jF}{P P':LFz->Hp->Prop}(s:SameN H H2)(r:RfN H E C P)(st:VC P)(hp:∀fs H',Same H2 H'->P' fs H'->P fs H'):Rf H2 (XEN H<|RUN H E) C P':=λx d fs H' hx s2 xr p=>
 ⟨x,C,fs,Z,XY s hx,s.trans s2.n,⟨.inr xr.1,xr.2⟩,P,r,hp fs H' s2 p,st⟩
theorem V7{C x T:jF}{d:Option jF}{q:j5}:FW C d x T≠E2 x q:=λh=>by
 have h:(HO.ext λh=>∃vs sl,h.get? x=O ⟨.ref C,d,.fields vs,sl⟩/\vs[1]?=O (.ref T))=HO.ext λh=>∃o vs t,h.get? x=O o/\o.data=.fields vs/\vs[1]?=O (.str q t):=h;injection h with h;have e:=congrFun h<|(Em x).push ⟨.ref C,d,.fields #[.none,.ref T],#[]⟩;have g:((Em x).push ⟨.ref C,d,.fields #[.none,.ref T],#[]⟩).get? x=O ⟨.ref C,d,.fields #[.none,.ref T],#[]⟩:=eM (El x).symm Z;obtain⟨o,vs,t,e1,e2,e3⟩:=e.mp ⟨_,_,g,Z⟩;rw[g]at e1;cases e1;cases e2;cases e3
theorem TabOk.thrown{pos:Pos}{jC:j5}{T x C T2:jF}{d:Option jF}{H:Hp}{fs:LFz}(h:TabOk pos jC T H)(r:XG H x C d fs)(hT:H T2=Y):TabOk pos jC T (L2.thrown H x C d T2):=by
 obtain⟨ps,e,t,c⟩:=h;obtain⟨_,T',ex⟩:=r;refine⟨ps,by rw[AU (λz=>by rw[z,ex]at e;cases e)<|Ad e hT];exact e,t,?_⟩;rcases c with c|⟨c',c1,c2⟩
 .exact .inl c
 .exact .inr ⟨c',c1,by rw[AU (λz=>by rw[z,ex]at c2;exact V7<|Option.some.inj c2)<|Ad c2 hT];exact c2⟩
theorem Xo{H:Hp}{x d:jF}{o1 o2:HO}{E1:HO}(hx:H x=O E1)(hd:H d=Y):(upd (upd H d o1) x o2) x=O o2/\(upd (upd H d o1) x o2) d=O o1/\∀a o,a≠x->H a=O o->(upd (upd H d o1) x o2) a=O o:=
 ⟨Ae,by rw[Af<|Ne.symm<|Ad hx hd,Ae],λa o ne e=>by rw[Af ne,Af<|Ad e hd];exact e⟩
theorem VI{H H1:Hp}{x d:jF}{o1 o2:HO}(hd:H d=Y)(ne:d≠x)(h1:H1 x=O o1)(hs:∀a o,a≠x->H a=O o->H1 a=O o):(upd H1 d o2) x=O o1/\(upd H1 d o2) d=O o2/\∀a o,a≠x->H a=O o->(upd H1 d o2) a=O o:=
 ⟨by rw[Af<|Ne.symm ne];exact h1,Ae,λa o na e=>by rw[Af<|Ad e hd];exact hs a o na e⟩
theorem RfN.raise{H H1 H2:Hp}{E:XK}{C y dx T:jF}{P:LFz->Hp->Prop}{fs:LFz}(r:RfN H E C P)(sN:SameN H H1)(hy:H1 y=Y)(s:Same H1 H2)(e:H2 y=O (Er C dx y))(ed:H2 dx=O (Cp dx fs))(nd:dx≠y)(hT:H2 T=Y)(p:∀H',Same H1 H'->P fs H'):E (.ref y) (O dx) (thrown H2 y C (O dx) T):=by
 have s3:Same H1 (thrown H2 y C (O dx) T):=λa o ho=>by rw[AU (Ad ho hy)<|Ad (s a o ho) hT];exact s a o ho
 exact r y (O dx) fs _ (XY sN hy) (sN.trans s3.n) ⟨.inr ⟨dx,Z,nd,by rw[AU nd<|Ad ed hT];exact ed⟩,T,DB⟩<|p _ s3
theorem Kz{f C:jF}{fd:jM}(F:Fun K "__init__" "Stuck.__init__" DY f fd)(R:XCls K C)(n1:NoAttr K C "room")(n2:NoAttr K C "breaks")(n3:NoAttr K C "leads"):A8 P w K mg jD CX0 1 f fd m7 (UM C ["room","breaks","leads"]):=by
 have S:Al m7 m7 (Ah DY):=fsk;refine F.ok S (λvs H Q E h=>?_) λcdv A jz s H vs Q E hr h=>?_
 .obtain⟨x,ws,rfl,hl,_⟩:=h;rw[aL,hl];rfl
 .obtain⟨x,ws,rfl,hl,hx,q⟩:=h;obtain⟨v0,v1,v2,rfl⟩:=Yg hl;refine⟨_,(Ac (Ir Ai Ak Z)
   (Ac (Ir Ai Ap Z)
   (Ag<|Ir Ai A2 Z))),?_⟩
  refine⟨_,Z,_,Z,x,C,Z,R,n1,.inl ⟨hx,λd hd=>?_⟩⟩;obtain⟨e1,e2,e3⟩:=Xo (o1:=Cp d [("room",v0)]) (o2:=Er C d x) hx hd;generalize upd (upd H d<|Cp d [("room",v0)]) x (Er C d x)=H1 at e1 e2 e3 |-;have nd:d≠x:=Ne.symm<|Ad hx hd;have p1:Bl "breaks" v1 [(("room":j5),v0)]=[(("room":j5),v0),(("breaks":j5),v1)]:=by
   rw[Bl,jK<|by decide +kernel];rfl
  have p2:Bl "leads" v2 [(("room":j5),v0),(("breaks":j5),v1)]=[(("room":j5),v0),(("breaks":j5),v1),(("leads":j5),v2)]:=by
   rw[Bl,jK (by decide +kernel),Bl,jK<|by decide +kernel];rfl
  refine⟨_,Z,_,Z,x,C,Z,R,n2,.inr ⟨d,_,e1,e2,by show 1<1000;decide,?_⟩⟩;rw[p1];obtain⟨f1,f2,f3⟩:=VI (o2:=Cp d [(("room":j5),v0),(("breaks":j5),v1)]) hd nd e1 e3;generalize upd H1 d (Cp d [(("room":j5),v0),(("breaks":j5),v1)])=H2 at f1 f2 f3 |-;refine⟨_,Z,_,Z,x,C,Z,R,n3,.inr ⟨d,_,f1,f2,by show 2<1000;decide,?_⟩⟩;rw[p2];obtain⟨g1,g2,g3⟩:=VI (o2:=Cp d [(("room":j5),v0),(("breaks":j5),v1),(("leads":j5),v2)]) hd nd f1 f3;exact q d _ hd g1 g2 g3
theorem XX{H H':Hp}{l:jF}(s:SameN H H')(h:Sq H' l):Sq H l:=λo e=>cz λz=>z<|h o<|s l o e λps e'=>z ⟨ps,e'⟩
theorem XB{H H2:Hp}{E:XK}{C:jF}{P:LFz->Hp->Prop}(s:SameN H H2)(r:RfN H E C P)(st:VC P):RfN H2 (XEN H<|RUN H E) C P:=λx _ fs H' hx s2 xr p=>
 ⟨x,C,fs,Z,XX s hx,s.trans s2,xr,P,r,p,st⟩
def PTb(tb3:jF)(l:LFz->Prop):LFz->Hp->Prop:=λfs H'=>TabOk Da C8 tb3 H'/\l fs
theorem Mf{tb3:jF}{l:LFz->Prop}:VC (PTb tb3 l):=λ_ _ _ _ _ _ p r hT=>⟨TabOk.thrown p.1 r hT,p.2⟩
theorem PanelAt.n{C:jF}{H H':Hp}{a:jF}{w h:Int}{ts:List<|jF×Rc}{dx ls ld:jF}{kvs:LKz}(pn:PanelAt C H a w h ts dx ls ld kvs)(s:SameN H H'):PanelAt C H' a w h ts dx ls ld kvs:=
 ⟨s _ _ pn.ob (by intro ps z;cases z),s _ _ pn.lst (by intro ps z;cases z),s _ _ pn.dic (by intro ps z;cases z),λt ht=>s _ _ (pn.ats t ht) (by intro ps z;cases z),pn.til,pn.few,pn.srt,pn.look,pn.sw,pn.sh⟩
abbrev RQ(w h:Int)(ps:List Rc):Rk->Prop:=λq=>rmB w h ps q=nZ
inductive Kj(tb3 C cX:jF)(vs:LUz)(H:Hp)(Q:VK)(E:XK):Prop
 |mk (a dx ls ld:jF) (w h:Int) (ts:List<|jF×Rc) (kvs:LKz) (G:Tr) (h0:vs=[.ref a]) (h1:PanelAt C H a w h ts dx ls ld kvs) (h2:TabOk Da C8 tb3 H) (h3:GQ (mks<|rcs ts) (RQ w h<|rcs ts) G ⟨0,0,h,w⟩) (h4:G.nd<=400) (h5:(Gv G->∀v H',SameX tb3 H H'->TabOk Da C8 tb3 H'->Q v H')) (h6:(¬Gv G->RfN H E cX (PTb tb3 λfs=>fs≠[]))):Kj tb3 C cX vs H Q E
def KJ(tb3 C cX:jF):Sp:=λvs H Q E=>Kj tb3 C cX vs H Q E
theorem Yc{ps:List Rc}{ts:List PT}(e:cons ts=mks ps){x:PT}(hx:x∈ts):x.2.2.2=Y:=by
 have:x.2.2∈cons ts:=ao.mpr ⟨x,hx,Z⟩;rw[e]at this;obtain⟨r,_,z⟩:=ao.mp this;rw[<-z]
theorem Pk{f cX tb3:jF}{fd:jM}(F:Fun K "tree_of" "tree_of" GA f fd)(T:Txt mg tk)(PC:KB K C)(iI:QY P w K mg jD 1 "Stuck" cX m7 ["room","breaks","leads"])
  (fV:Ij P w K mg jD 1 C "panes" lZ<|CJ C) (iJ:Ar P w K mg jD 8 "cut_up" mm<|G8 tb3) (iK:Ar P w K mg jD 6 "breaks_of" nK<|Qj C) (iN:Ar P w K mg jD 5 "leads" lX<|Nu C) (iO:Ar P w K mg jD 3 "four_that_turn" me Qh) (iP:Ar P w K mg jD 4 "tree_from" ["entries"]<|Mi K cW cU cL):
  A8 P w K mg jD (CX1 P w) 9 f fd mw (KJ tb3 C cX):=by
 have S:Al ["panel","entries","word","number"] mw (Ah GA):=fsk;refine F.gx S ?_;rintro vs H Q E ⟨a,dx,ls,ld,ww,hh,ts,kvs,G,rfl,pn,tab,gq,nd,q,hR⟩;refine⟨Z,λcdv A jz s hr=>?_⟩;have gw:=pn.sw;have gh:=pn.sh;have few:=pn.few;refine⟨_,(Ac (Az 1 S.nd<|Am iJ hr<|Aa (A4<|Aa Ab<|Aa Ab<|Aa (AO Ai Z)<|Aj<|AO Ai Z)<|Aj<|B9 Z (AA<|D5 fV hr Ai) (λ_ _ _ _ _=>pgk<|nk ["pane"]) (λ_ _ _ _ _=>(A4<|Aa Ai<|Aj CY)) (N:=["pane"]) (fr:=[Y]))
  (Ac (AF Pf Z (AA Ak) (BS Z<|Au (AS 2 S.nd)<|Au (AS 3 S.nd) AY)<|Ag<|AG (A5 Bu Ap<|AH (v:=.str "room") Z T.jb ⟨_,Z⟩) (Ag<|N7 Im iI hr<|Aa A2<|Aa (Am iK hr<|Aa Ai<|Aj A2)<|Aj<|Am iO hr<|Aj<|Am iN hr<|Aa Ai<|Aj A2) A6)
  (Ag<|Aq<|Am iP hr<|Aj Ak))),?_⟩
 refine⟨_,Z,a,C,dx,_,_,Z,pn.ob,PC.cl,PC.n_height,C6 _ _ _ _,_,Z,a,C,dx,_,_,Z,pn.ob,PC.cl,PC.n_width,BI _ _ _ _,Ay 4,λta hta=>?_⟩;refine nv hta λH0 s0 e0=>?_;have pn0:=pn.same s0;refine⟨_,Z,a,dx,_,Z,pn0.ob,BV,a,dx,ls,ld,ww,hh,ts,kvs,Z,pn0,λl hl=>?_⟩;refine nv hl λH1 s1 e1=>?_;have at1':=(pn0.same s1).ats;refine⟨l,Z,⟨_,SqL.of e1⟩,λacc jE=>Bb (K:=K) (a:=l) (ys:=A1 ts) (λi zs B H'=>(∃y,B=[y])/\Same H1 H'/\∃us:List PT,zs=pcs us/\PcO H' us/\cons us=(mks<|rcs ts).take i) ⟨⟨Y,Z⟩,Same.new jE,[],Z,λx hx=>(nomatch hx),Z⟩ (λi zs B H' _ _ hp=>SqL.of<|hp.2.1 _ _ e1) ?_ ?_⟩
 .rintro i x zs B H' hx hi hl' jE' ⟨⟨y,rfl⟩,hs,us,rfl,hus,em⟩;obtain⟨u,hu',rfl⟩:=AZ hx;refine⟨_,Z,Ay 2,λt ht=>?_⟩;have nat:acc≠t:=Ad jE' ht;refine nv ht λH2 s2 e2=>?_;have ac2:=s2 _ _ jE';have rl:(A1 ts).length=ts.length:=aa _;have up:∀{b:jF}{vs:LUz}{o:LUz},H2 b=O (.tup vs)->(upd H2 acc<|.lst o) b=O (.tup vs):=λh=>by rw[Af<|AQ h ac2 (by intro z;cases z)];exact h
  refine cNx.mk (aK<|An<|by lia) hi hl' ac2 ⟨⟨_,Z⟩,λc o e=>?_,us++[(t,u.1,u.2,Y)],by rw[Tj],λx hx=>?_,?_⟩
  .rw[Af<|Ad e jE];exact(hs.trans s2) c o e
  .rcases aw.mp hx with hx|hx
   .exact⟨up ((hus.same s2) x hx).1,up ((hus.same s2) x hx).2⟩
   .rw[ae.mp hx];exact⟨up e2,up<|(hs.trans s2) _ _<|at1' u<|ak hu'⟩
  .have:(mks<|rcs ts)[i]?=O (u.2,Y):=by rw[ax,ax,hu'];rfl
   rw[Sk,em,aN,this];rfl
 rintro zs B H2 hzl ac2 ⟨_,s2,us,rfl,hus,em⟩;have rl:(A1 ts).length=(mks<|rcs ts).length:=by rw[aa,aa,aa]
 rw[rl,aI]at em;have ul:us.length=ts.length:=by
  have:=congrArg List.length em;rw[aa,aa,aa]at this;exact this
 have s02:=s0.trans<|s1.trans s2;refine⟨ta,acc,⟨0,0,hh,ww⟩,us,G,_,Z,(s1.trans s2) _ _ e0,ac2,hus,by lia,λx hx=>Yc em hx,by rw[em];exact gq,nd,tab.same s02,λle xs H3 sx tab3 hle hens=>?_⟩;have sN:SameX tb3 H H3:=s02.x.trans sx;have sM:SameN H H3:=s02.n.trans<|sx.toN (tab.same s02).tbl;have pn3:=pn.n sM;refine⟨_,Z,le,Z,⟨_,SqL.of hle⟩,Bn (K:=K) (a:=le) (xs:=xs) (λi B H'=>(∃x2 x3,B=[O<|.ref a,O<|.ref le,x2,x3])/\H'=H3/\∀e∈(ents G).take i,rmE e=oe) ⟨⟨_,_,Z⟩,Z,λe he=>(nomatch he)⟩ (λi B H' _ hp=>by rw[hp.2.1];exact SqL.of hle) ?_ ?_⟩
 .rintro i x B H' hx ⟨⟨x2,x3,rfl⟩,rfl,nr⟩;obtain⟨e,ea,he,rfl,hen⟩:=hens.get hx;have tk:(ents G).take (i+1)=(ents G).take i++[e]:=by rw[aN,he];rfl
  have more:rmE e=oe->∀e'∈(ents G).take (i+1),rmE e'=oe:=λh e' he'=>by
   rw[tk]at he';rcases aw.mp he' with he'|he'
   .exact nr e' he'
   .rw[ae.mp he'];exact h
  match e,hen,he,more with
  |.w Y,hen,_,more=>exact⟨ea,_,Z,SqT.of hen,Z,_,_,Z,_,_,Z,Z,_,Z,Z,_,Z,Bi (by decide +kernel) ⟨⟨_,_,Z⟩,Z,more Z⟩⟩
  |.c nZ k,hen,_,more=>exact⟨ea,_,Z,SqT.of hen,Z,_,_,Z,_,_,Z,Z,_,Z,Z,_,Z,Bi (by decide +kernel) ⟨⟨_,_,Z⟩,Z,more Z⟩⟩
  |.c oe k,hen,_,more=>exact⟨ea,_,Z,SqT.of hen,Z,_,_,Z,_,_,Z,Z,_,Z,Z,_,Z,Bi (by decide +kernel) ⟨⟨_,_,Z⟩,Z,more Z⟩⟩
  |.w (O n),⟨b,p,h1,hb,rm⟩,he,_=>
   refine⟨ea,_,Z,SqT.of h1,Z,_,_,Z,_,_,Z,Z,_,Z,Z,_,Z,BK (by decide +kernel) ?_⟩;have nc:¬Gv G:=λc=>nomatch noRm_iff.mp c _ (ak he);obtain⟨bk,bi,_,_,fb⟩:=VQ gw.2 gh.2 rm;obtain⟨n1,n2⟩:=Lq (ps:=rcs ts) bi gw.2 gh.2;refine⟨_,Z,_,Z,_,Z,a,dx,ls,ld,b,ww,hh,ts,kvs,p,Z,pn3,hb,rm,λl4 H4 s4=>?_⟩;refine⟨_,Z,_,Z,a,dx,ls,ld,b,ww,hh,ts,kvs,p,Z,pn3.same s4,s4 _ _ hb,bi,bk,λl5 us5 H5 s5 _ e5 a5 m5=>?_⟩;refine⟨l5,us5,Z,e5,a5,by have:=congrArg List.length m5;rw[aa,aq]at this;lia,by rw[m5];exact fb,λl6 H6 s6=>⟨Z,λy dx' T' H7 hy s7 ey ed nd' hT nT=>?_⟩⟩;have s36:=s4.trans<|s5.trans s6;exact(hR nc).raise (sM.trans s36.n) hy s7 ey ed nd' hT λH8 s8=>⟨tab3.same<|s36.trans s8,λz=>(nomatch z)⟩
 .rintro B H' ⟨⟨x2,x3,rfl⟩,rfl,nr⟩;rw[hens.len,aI]at nr;exact⟨_,Z,le,xs,G,Z,SqL.of hle,hens.ens nr,nd,λv H4 s4 ob=>q (noRm_iff.mpr nr) v H4 (sN.trans s4.x)<|tab3.same s4⟩
noncomputable def tab(w h:Int):Int:=(([[1,2,4,8],[2,8,34,148],[4,34,320,3118],[8,148,3118,68480]]:List<|List Int).getD (w-1).toNat []).getD (h-1).toNat 0
noncomputable def up(w:List Int):List Int:=w.dropLast++[w.getLastD 0+1]
noncomputable def on(w:List Int):List Int:=w++[1]
noncomputable def F1:Nat->List (List Int)
 |0=>[[1]]
 |n+1=>(F1 n).map up++(F1 n).map on
noncomputable def bef(w h x y:Int):Bool:=og (1<=x)&&og (x<=w)&&(og (1<=y)&&og (y<=h))&&(og (x<w)||og (y<h))
noncomputable def gin(w h x:Int):List Int->Int->Option Int
 |[],p=>O p
 |y::r,p=>if bef w h x y=nZ/\p.natAbs<1000000000/\(tab x y).natAbs<1000000000 then gin w h x r (p*tab x y)else Y
noncomputable def K4(w h:Int)(ys:List Int):List Int->Int->Option Int
 |[],p=>O p
 |x::r,p=>(gin w h x ys p).bind λq=>K4 w h ys r q
noncomputable def tin(w h:Int)(c:List Int):List (List Int)->Int->Option Int
 |[],t=>O t
 |r::rs,t=>if ((c.length:Int)+(r.length:Int)-2) % 2=1 then(K4 w h r c 1).bind λg=>tin w h c rs (t+g)else
  if (c.length:Int)+(r.length:Int)-2>0 then(K4 w h r c 1).bind λg=>tin w h c rs (t-g)else tin w h c rs t
noncomputable def OJ(w h:Int)(rs:List<|List Int):List (List Int)->Int->Option Int
 |[],t=>O t
 |c::cs,t=>(tin w h c rs t).bind λu=>OJ w h rs cs u
theorem Yo{w:Int}(h1:1<=w)(h2:w<=4):w=1\/w=2\/w=3\/w=4:=by lia
theorem Yz{p:Int->Int->Bool}(h:([1,2,3,4]:List Int).all (λw=>([1,2,3,4]:List Int).all λh=>p w h)=nZ){w h':Int}(w1:1<=w)(w2:w<=4)(h1:1<=h')(h2:h'<=4):p w h'=nZ:=by
 have m:∀{z:Int},1<=z->z<=4->z∈([1,2,3,4]:List Int):=λ{z} a b=>by
  rcases Yo a b with rfl|rfl|rfl|rfl<;>decide
 exact az.mp (az.mp h w<|m w1 w2) h'<|m h1 h2
theorem Wr{w h:Int}(w1:1<=w)(w2:w<=4)(h1:1<=h)(h2:h<=4):OJ w h (F1 (h-1).toNat) (F1 (w-1).toNat) 1=O (tab w h):=
 jY (Yz (p:=λw h=>og<|OJ w h (F1 (h-1).toNat) (F1 (w-1).toNat) 1=O (tab w h)) (by decide +kernel) w1 w2 h1 h2)
theorem UC{n:Nat}(h:n<4):∀w∈F1 n,w≠[]/\w.length<=4:=by
 have:∀n,n<4->∀w∈F1 n,w≠[]/\w.length<=4:=by decide +kernel
 exact this n h
theorem Sz{n:Nat}(h:n<4):(F1 n).length<=8:=by
 have:∀n,n<4->(F1 n).length<=8:=by decide +kernel
 exact this n h
theorem I8{α:Type}{xs:List α}{i:Nat}{x:α}(h:xs[i]?=O x):xs.drop i=x::xs.drop (i+1):=by
 obtain⟨hi,e⟩:=aD.mp h;rw[cE hi,e]
theorem ints_get{xs:List Int}{i:Nat}{x:V}(h:(xs.map V.int)[i]?=O x):∃z,xs[i]?=O z/\x=.int z:=by
 rw[ax]at h;cases e:xs[i]? with
 |none=>rw[e]at h;cases h
 |some z=>rw[e]at h;exact⟨z,Z,(Option.some.inj h).symm⟩
noncomputable def Bq(ts:List<|jF×List Int):LUz:=ts.map λt=>V.ref t.1
def AtW(H:Hp)(ts:List<|jF×List Int):Prop:=∀t∈ts,H t.1=O (.lst<|t.2.map V.int)
theorem Fo{ts:List<|jF×List Int}{i:Nat}{x:V}(h:(Bq ts)[i]?=O x):∃u,ts[i]?=O u/\x=.ref u.1:=by
 rw[Bq,ax]at h;cases e:ts[i]? with
 |none=>rw[e]at h;cases h
 |some u=>rw[e]at h;exact⟨u,Z,(Option.some.inj h).symm⟩
theorem Uo(ys:LUz)(v:V):MW (ys++[v]) Y (O<|-1)=ys:=by
 unfold MW;have e1:HT.sIx (ys++[v]).length 0 Y=0:=rfl;have e2:HT.sIx (ys++[v]).length (ys++[v]).length (O<|-1)=ys.length:=by
  show(if (-1:Int)<0 then((-1:Int)+((ys++[v]).length:Int)).toNat else min (-1:Int).toNat (ys++[v]).length)=_;rw[jP (by decide),aq,aY];lia
 rw[e1,e2,Nat.sub_zero,dQ,List.take_left'];rfl
theorem UD(ys:List Int)(z:Int):up (ys++[z])=ys++[z+1]:=by
 unfold up;rw[cB];simp
def cInv(H1:Hp)(acc:jF)(f:List Int->List Int)(ts:List<|jF×List Int)(k:Nat)(zs:LUz)(B:St)(H':Hp):Prop:=
 (∃y,B=[y])/\Same H1 H'/\∃us,zs=Bq us/\(∀u∈us,H' u.1=O (.lst<|u.2.map V.int)/\u.1≠acc)/\us.map (·.2)=(ts.take k).map λt=>f t.2
theorem cInv.start{H1:Hp}{acc:jF}{f:List Int->List Int}{ts:List<|jF×List Int}(h:H1 acc=Y):cInv H1 acc f ts 0 [] [Y] (upd H1 acc<|.lst []):=
 ⟨⟨Y,Z⟩,Same.new h,[],Z,λu hu=>(nomatch hu),Z⟩
theorem cInv.next{H1 H' H'':Hp}{acc r:jF}{f:List Int->List Int}{ts:List<|jF×List Int}{k:Nat}{zs:LUz}{B σ':St}{u:jF×List Int}(c:cInv H1 acc f ts k zs B H')(h1:H1 acc=Y)(ha:H' acc=O (.lst zs))(hu:ts[k]?=O u)(few:ts.length<=8)(hz:zs.length=k)
  (s:Same H' H'') (n:H' r=Y) (e:H'' r=O (.lst<|(f u.2).map V.int)) (hs:∃y,σ'=[y]):cNx acc (Bq ts).length (cInv H1 acc f ts) k σ' (.ref r) H'':=by
 obtain⟨_,s1,us,rfl,h2,h3⟩:=c;have hk:=(aD.mp hu).1;have nr:r≠acc:=λz=>by rw[z,ha]at n;cases n
 refine cNx.mk (aK<|An (by rw[Bq,aa];lia)) (by rw[Bq,aa];exact hk) hz (s _ _ ha) ⟨hs,λb o eb=>?_,us++[(r,f u.2)],?_,λv hv=>?_,?_⟩
 .rw[Af<|Ad eb h1];exact s b o<|s1 b o eb
 .rw[Bq,Bq,af];rfl
 .rcases aw.mp hv with hv|hv
  .obtain⟨a,b⟩:=h2 v hv;exact⟨by rw[Af b];exact s _ _ a,b⟩
  .rw[ae.mp hv];exact⟨by rw[Af nr];exact e,nr⟩
 .rw[af,h3,aN,hu,af];rfl
noncomputable def E3:V->Bool
 |.int i=>og (1<=i)&&og (i<=4)
 |_=>oe
noncomputable def ky(x y:Int):List Key:=[Sum.inl x,Sum.inl y]
theorem TD{x y x' y':Int}(h:ky x y=ky x' y'):x=x'/\y=y':=by
 unfold ky at h;simp only[List.cons.injEq,Sum.inl.injEq,and_true]at h;exact h
def Has(kvs:LKz)(w h:Int):Prop:=∀x y,bef w h x y=nZ->Bo kvs (ky x y)=O (.int<|tab x y)
inductive Rp(cS:jF)(vs:LUz)(H:Hp)(Q:VK)(E:XK):Prop
 |mk (a b:V) (h0:vs=[a,b]) (h1:Ty H a) (h2:Ty H b) (h3:(E3 a=nZ->E3 b=nZ->∀H',Same H H'->Q .non H')) (h4:(E3 a=oe->Rf H E cS λfs _=>fs=[(("side":j5),a)])) (h5:(E3 a=nZ->E3 b=oe->Rf H E cS λfs _=>fs=[(("side":j5),b)])):Rp cS vs H Q E
def OR(cS:jF):Sp:=λvs H Q E=>Rp cS vs H Q E
inductive Ox(vs:LUz)(H:Hp)(Q:VK)(E:XK):Prop
 |mk (n:Int) (h0:vs=[.int n]) (h1:1<=n) (h2:n<=4) (h3:∀l ts H',Same H H'->H l=Y->H' l=O (.lst<|Bq ts)->AtW H' ts->ts.map (λt:jF×List Int=>t.2)=F1 (n-1).toNat->Q (.ref l) H'):Ox vs H Q E
def PU:Sp:=λvs H Q E=>Ox vs H Q E
inductive O6(vs:LUz)(H:Hp)(Q:VK)(E:XK):Prop
 |mk (d c r:jF) (kvs:LKz) (w h:Int) (xs ys:List Int) (R:Int) (h0:vs=[.ref d,.ref c,.ref r]) (h1:H d=O (.dT kvs)) (h2:H c=O (.lst<|xs.map V.int)) (h3:H r=O (.lst<|ys.map V.int)) (h4:Has kvs w h) (h5:K4 w h ys xs 1=O R) (h6:∀H',Same H H'->Q (.int R) H'):O6 vs H Q E
def Qf:Sp:=λvs H Q E=>O6 vs H Q E
inductive LH(vs:LUz)(H:Hp)(Q:VK)(E:XK):Prop
 |mk (d:jF) (kvs:LKz) (w h:Int) (h0:vs=[.ref d,.int w,.int h]) (h1:H d=O (.dT kvs)) (h2:1<=w) (h3:w<=4) (h4:1<=h) (h5:h<=4) (h6:Has kvs w h) (h7:∀H',Same H H'->Q (.int<|tab w h) H'):LH vs H Q E
def Nt:Sp:=λvs H Q E=>LH vs H Q E
inductive LU(vs:LUz)(H:Hp)(Q:VK)(E:XK):Prop
 |mk (w h:Int) (h0:vs=[.int w,.int h]) (h1:1<=w) (h2:w<=4) (h3:1<=h) (h4:h<=4) (h5:∀H',Same H H'->Q (.int<|tab w h) H'):LU vs H Q E
def IT:Sp:=λvs H Q E=>LU vs H Q E
inductive U9(K:jX)(vs:LUz)(H:Hp)(Q:VK)(E:XK):Prop
 |mk (a:jF) (ns:List Int) (k:Int) (h0:vs=[.ref a,.int k]) (h1:SqL K H a<|ns.map V.int) (h2:0<=k) (h3:k<1000) (h4:∀z H',Same H H'->Q (.int z) H'):U9 K vs H Q E
def SM(K:jX):Sp:=λvs H Q E=>U9 K vs H Q E
inductive LP(vs:LUz)(H:Hp)(Q:VK)(E:XK):Prop
 |mk (n b:Int) (h0:vs=[.int n,.int b]) (h1:0<=b) (h2:b<=100) (h3:∀r,0<=r->Q (.int r) H):LP vs H Q E
def IS:Sp:=λvs H Q E=>LP vs H Q E
theorem XS:Xm 10 18:=⟨by decide,by decide,by decide⟩
theorem Xa{v:V}(h:(!DS v)=nZ):E3 v=oe:=by cases v<;>first|rfl|cases h
theorem Xb{i:Int}(h:og ((1:Int)<=i)=oe):E3 (.int i)=oe:=by show(og (1<=i)&&_)=oe;rw[h];rfl
theorem Ot{i:Int}(h:og ((1:Int)<=i)=nZ):E3 (.int i)=og (i<=4):=by show(og (1<=i)&&_)=_;rw[h];rfl
theorem GR{f:jF}{fd:jM}(F:Fun K "check_counted" "check_counted" Cy f fd)(T:Txt mg tk)(iQ:QY P w K mg jD 1 "NoSide" cS m8 ["side"])(gi:Ar P w K mg jD 1 "is_whole" lY E7):
  A8 P w K mg jD (CX1 P w) 3 f fd l9 (OR cS):=by
 have S:Al ["width","height","side"] l9 (Ah Cy):=fsk;refine F.gx S ?_;rintro vs H Q E ⟨a,b,rfl,ta,tb,q,r1,r2⟩;refine⟨Z,λcdv A jz s hr=>?_⟩;refine⟨_,(Ag<|AF Pf Z (Mw<|A4<|Aa Ai<|Aj Ak) (AS 2 S.nd)<|Ag<|AG (PW.pt<|Ev (BD<|Bk<|Am gi hr<|Aj Ap)<|CT<|BD<|Gg BZ BZ Ab Ap<|AH (v:=.int 4) Z T.jj ⟨_,Z⟩) (Ag<|N7 Im iQ hr<|Aj Ap) A6),?_⟩;refine⟨_,Z,_,Z,Ay 2,λt ht=>⟨t,Z,⟨_,SqT.of Ae⟩,MN (K:=K) (a:=t) (xs:=[a,b]) (λi B H'=>(∃y,B=[O a,O b,y])/\H'=upd H t (.tup [a,b])/\(0<i->E3 a=nZ)/\(1<i->E3 b=nZ)) ⟨⟨Y,Z⟩,Z,(λz=>absurd z<|by decide),λz=>absurd z<|by decide⟩ (λi B H' _ hp=>by rw[hp.2.1];exact SqT.of Ae) ?_ ?_⟩⟩
 .rintro i x B H' hx ⟨⟨y,rfl⟩,rfl,h0,h1⟩;have s1:Same H (upd H t<|.tup [a,b]):=Same.new ht;obtain⟨tx,hI⟩:Ty H x/\(E3 x=oe->Rf H E cS λfs _=>fs=[(("side":j5),x)]):=by
   match i,hx with
   |0,hx=>cases hx;exact⟨ta,r1⟩
   |1,hx=>cases hx;exact⟨tb,r2<|h0<|by lia⟩
   |i+2,hx=>cases hx
  have good:E3 x=nZ->(0<i+1->E3 a=nZ)/\(1<i+1->E3 b=nZ):=λhc=>by
   match i,hx with
   |0,hx=>cases hx;exact⟨λ_=>hc,λz=>absurd z<|by decide⟩
   |1,hx=>cases hx;exact⟨λ_=>h0 (by lia),λ_=>hc⟩
   |i+2,hx=>cases hx
  refine⟨_,Z,x,Z,tx.same s1,_,Z,Br (λhb=>?_) λhb=>?_⟩
  .exact Pt ⟨_,Z,Z,λy dx T H2 hy s2 e ed nd hT nT=>(hI<|Xa hb).raise s1 hy s2 e ed nd hT Z⟩
  .obtain⟨i,rfl⟩:∃i,x=.int i:=by cases x<;>first|exact⟨_,Z⟩|cases hb
   refine⟨_,Z,_,_,Z,Z,_,Z,Br (λh1=>?_) λh1=>?_⟩
   .refine⟨_,_,Z,Z,_,Z,Br (λh2=>?_) λh2=>?_⟩
    .have h2:og (i<=(4:Int))=oe:=by simpa using h2
     exact⟨_,Z,Z,λy dx T H2 hy s2 e ed nd hT nT=>(hI<|(Ot h1).trans h2).raise s1 hy s2 e ed nd hT Z⟩
    .have h2:og (i<=(4:Int))=nZ:=by simpa using h2
     obtain⟨g1,g2⟩:=good<|(Ot h1).trans h2;exact⟨⟨_,Z⟩,Z,g1,g2⟩
   .exact⟨_,Z,Pt ⟨_,Z,Z,λy dx T H2 hy s2 e ed nd hT nT=>(hI<|Xb h1).raise s1 hy s2 e ed nd hT Z⟩⟩
 .rintro B H' ⟨⟨y,rfl⟩,rfl,h0,h1⟩;exact q (h0 (by show 0<2;decide)) (h1 (by show 1<2;decide)) _<|Same.new ht
theorem V8{z:Int}(a:1<=z)(b:z<=4):E3 (.int z)=nZ:=by show(og (1<=z)&&og (z<=4))=nZ;rw[jI a,jI b];rfl
theorem Tx{z:Int}(a:1<=z)(b:z<=4)(h:E3 (.int z)=oe):False:=au<|h.symm.trans<|V8 a b
theorem HX{f:jF}{fd:jM}(F:Fun K "ways_to_part" "ways_to_part" CK f fd)(T:Txt mg tk):A8 P w K mg jD CX0 1 f fd mf PU:=by
 have S:Al ["length","ways","step","longer"] mf (Ah CK):=fsk;refine F.g S ?_;rintro vs H Q E ⟨n,rfl,n1,n2,q⟩;refine⟨Z,λcdv A jz s hr=>?_⟩;refine⟨_,(Ac (Az 1 S.nd<|AJ<|Aj<|AJ<|Aj Ab)
  (Ac (AF PassesOwn.never Z (AV Z T.z_range<|Aa Ab<|Aj Ai) (AS 2 S.nd)<|Ac (BE Z (AS 3 S.nd) (AA Ak) (λ_ _ _ _ _=>pgk<|nk ["way"]) (λ_ _ _ _ _=>(Ao Ed (Ji (SN (K:=K)) Ai Mu<|Mt<|Hv E6 Ab)<|AJ<|Aj<|Ao A7 (Av (JF (K:=K)) Ai<|Hv E6 Ab) Ab)) (N:=["way"]) (fr:=[Y]))
  (Ag<|Az 1 S.nd<|Ao Ed A2<|B9 Z (AA Ak) (λ_ _ _ _ _=>pgk<|nk ["way"]) (λ_ _ _ _ _=>(Ao Ed Ai<|AJ<|Aj Ab)) (N:=["way"]) (fr:=[Y])))
  (Ag<|Aq Ak))),?_⟩
 refine⟨Ay 1,λa ha=>⟨Ay 1,λl hl=>?_⟩⟩;have sa:Same H (upd H a<|.lst [.int 1]):=Same.new ha;have sl:Same (upd H a<|.lst [.int 1]) (upd (upd H a<|.lst [.int 1]) l<|.lst [.ref a]):=Same.new hl;refine⟨_,Z,1,n,Z,⟨by lia,by lia,by lia,by lia⟩,AT (lo:=1) (n:=(n-1).toNat) (λi B H'=>∃l ts,(∃y z,B=[O<|.int n,O<|.ref l,y,z])/\Same H H'/\H l=Y/\H' l=O (.lst<|Bq ts)/\AtW H' ts/\ts.map (λt:jF×List Int=>t.2)=F1 i)
  ⟨l,[(a,[1])],⟨Y,Y,Z⟩,sa.trans sl,Io sa hl,Ae,λt ht=>?_,Z⟩ ?_ ?_⟩
 .rw[ae.mp ht];exact sl _ _ Ae
 .rintro i B H1 hi ⟨l,ts,⟨y,z,rfl⟩,s1,nl,hl,ht,hw⟩;have i3:i<4:=by lia
  have few:ts.length<=8:=by
   have:=Sz i3;rw[<-hw,aa]at this;exact this
  have good:∀u∈ts,u.2≠[]/\u.2.length<=4:=λu hu=>UC i3 u.2 (by rw[<-hw];exact ao.mpr ⟨u,hu,Z⟩);refine⟨_,Z,l,Z,⟨_,SqL.of hl⟩,λacc jE=>Bb (K:=K) (a:=l) (ys:=Bq ts) (cInv H1 acc up ts) (cInv.start jE) (λk zs B H' _ _ hp=>SqL.of<|hp.2.1 _ _ hl) ?_ ?_⟩
  .rintro k x zs B H' hx hk hl' jE' hp;obtain⟨⟨y,rfl⟩,hs,_⟩:=id hp;obtain⟨u,hu,rfl⟩:=Fo hx;have hum:=ak hu;have hua:=hs _ _<|ht u hum;obtain⟨w0,e0,he⟩:∃w0 e0,u.2=w0++[e0]:=⟨u.2.dropLast,u.2.getLast (good u hum).1,(cZ _).symm⟩;have hl4:=(good u hum).2;rw[he,aq,aY]at hl4;have em:u.2.map V.int=w0.map V.int++[.int e0]:=by rw[he,af];rfl
   have ea:atI (u.2.map V.int) (-1)=O (.int e0):=by rw[em];exact Kc _ _
   have ec:MW (u.2.map V.int) Y (O<|-1)=w0.map V.int:=by rw[em];exact Uo _ _
   refine⟨_,Z,_,Z,_,Z,u.1,_,Z,SqL.of hua,λc hc=>?_⟩;rw[show(-(1:Int))=-1 from rfl,ec];have sc:Same H' (upd H' c<|.lst<|w0.map V.int):=Same.new hc;refine⟨_,Z,_,Z,u.1,_,_,_,Z,Z,SqL.of<|sc _ _ hua,ea,_,_,Z,Z,Ay 1,λm hm=>?_⟩;have sm:Same (upd H' c<|.lst<|w0.map V.int) (upd (upd H' c<|.lst<|w0.map V.int) m<|.lst [.int<|e0+1]):=Same.new hm;refine⟨c,m,w0.map V.int,[.int<|e0+1],Z,Z,sm _ _ Ae,Ae,aK (An (by rw[aa,aY];lia)),λr hr=>?_⟩;refine hp.next jE jE' hu few hl' ((sc.trans sm).trans<|Same.new hr) (Io (sc.trans sm) hr) ?_ ⟨_,Z⟩;rw[Ae,he,UD,af];rfl
  .rintro zs B H2 hlen hacc2 ⟨⟨y0,rfl⟩,s2,us,rfl,hu2,hm2⟩;rw[Bq,aa,aI]at hm2;refine⟨_,Z,_,Z,l,Z,⟨_,SqL.of<|s2 _ _ hl⟩,λacc' jE'=>Bb (K:=K) (a:=l) (ys:=Bq ts) (cInv H2 acc' on ts) (cInv.start jE') (λk zs B H' _ _ hp=>SqL.of<|hp.2.1 _ _<|s2 _ _ hl) ?_ ?_⟩
   .rintro k x zs B H' hx hk hl' ha' hp;obtain⟨⟨y,rfl⟩,hs,_⟩:=id hp;obtain⟨u,hu,rfl⟩:=Fo hx;have hum:=ak hu;have hua:=(s2.trans hs) _ _<|ht u hum;have hl4:=(good u hum).2;refine⟨_,Z,Ay 1,λm hm=>?_⟩;have sm:Same H' (upd H' m<|.lst [.int 1]):=Same.new hm;refine⟨u.1,m,u.2.map V.int,[.int 1],Z,Z,sm _ _ hua,Ae,aK (An (by rw[aa,aY];lia)),λr hr=>?_⟩;refine hp.next jE' ha' hu few hl' (sm.trans<|Same.new hr) (Io sm hr) ?_ ⟨_,Z⟩;rw[Ae,on,af];rfl
   .rintro zs B H3 hlen3 hacc3 ⟨⟨y1,rfl⟩,s3,vs,rfl,hu3,hm3⟩;rw[Bq,aa,aI]at hm3;have lu:us.length=ts.length:=by rw[<-aa (f:=λt:jF×List Int=>t.2),hm2,aa]
    have lv:vs.length=ts.length:=by rw[<-aa (f:=λt:jF×List Int=>t.2),hm3,aa]
    refine⟨acc,acc',Bq us,Bq vs,Z,Z,s3 _ _ hacc2,hacc3,aK (An (by rw[Bq,Bq,aa,aa];lia)),λr hr=>?_⟩;have sr:Same H3 (upd H3 r<|.lst<|Bq us++Bq vs):=Same.new hr;refine⟨r,us++vs,⟨_,_,Z⟩,((s1.trans s2).trans s3).trans sr,Io ((s1.trans s2).trans s3) hr,?_,λt hm=>?_,?_⟩
    .rw[Ae,Bq,Bq,Bq,af]
    .rcases aw.mp hm with hm|hm
     .exact sr _ _ (s3 _ _ (hu2 t hm).1)
     .exact sr _ _ (hu3 t hm).1
    .rw[af,hm2,hm3,F1,<-hw,aA,aA];rfl
 .rintro B H1 ⟨l,ts,⟨y,z,rfl⟩,s1,nl,hl,ht,hw⟩;exact⟨_,Z,q l ts H1 s1 nl hl ht hw⟩
theorem Zb{a b:Int}(h1:a.natAbs<1000000000)(h2:b.natAbs<1000000000):IntMulOk a b:=by
 have c:(2:Nat)^128=340282366920938463463374607431768211456:=by decide +kernel
 refine NT ?_ ?_<;>rw[c]<;>lia
theorem GO{f:jF}{fd:jM}(F:Fun K "count_of_grid" "count_of_grid" Cv f fd):A8 P w K mg jD CX0 1 f fd nL Qf:=by
 have S:Al ["counts","columns","rows","product","width","height"] nL (Ah Cv):=fsk;refine F.g S ?_;rintro vs H Q E ⟨d,c,r,kvs,w,h,xs,ys,R,rfl,hd,hc,hrr,has,hg,q⟩;refine⟨Z,λcdv A jz s hr=>?_⟩;have hu:=Ew hr;refine⟨_,(Ac (Az 3 S.nd Ab)
  (Ac (AF PassesOwn.never Z (AA Ak) (AS 4 S.nd)<|Ag<|AF PassesOwn.never Z (AA Ap) (AS 5 S.nd)<|Ag<|Az 3 S.nd<|Ao CC A2<|Ec hu Ai<|A4<|Aa AE<|Aj AX)
  (Ag<|Aq A2))),?_⟩
 refine⟨_,Z,c,Z,⟨_,SqL.of hc⟩,Bn (K:=K) (a:=c) (xs:=xs.map V.int) (λi B H'=>Same H H'/\∃p x5 x6,B=[O<|.ref d,O<|.ref c,O<|.ref r,O<|.int p,x5,x6]/\K4 w h ys (xs.drop i) p=O R)
  ⟨Same.refl H,1,Y,Y,Z,hg⟩ (λi B H' _ hp=>SqL.of<|hp.1 _ _ hc) ?_ ?_⟩
 .rintro i x B H1 hx ⟨s1,p,x5,x6,rfl,hg1⟩;obtain⟨z,hz,rfl⟩:=ints_get hx;rw[I8 hz,K4]at hg1;refine⟨_,Z,r,Z,⟨_,SqL.of<|s1 _ _ hrr⟩,Bn (K:=K) (a:=r) (xs:=ys.map V.int) (λj B H'=>Same H H'/\∃p x6,B=[O<|.ref d,O<|.ref c,O<|.ref r,O<|.int p,O<|.int z,x6]/\((gin w h z (ys.drop j) p).bind λq=>K4 w h ys (xs.drop<|i+1) q)=O R)
   ⟨s1,p,x6,Z,hg1⟩ (λi B H' _ hp=>SqL.of<|hp.1 _ _ hrr) ?_ ?_⟩
  .rintro j y B H2 hy ⟨s2,p,x6,rfl,hg2⟩;obtain⟨y,hy',rfl⟩:=ints_get hy;rw[I8 hy',gin]at hg2;split at hg2
   .rename_i hb;obtain⟨hb,p1,t1⟩:=hb;refine⟨_,Z,_,Z,_,Z,_,Z,Ay 2,λt ht=>?_⟩;have st:Same H2 (upd H2 t<|.tup [.int z,.int y]):=Same.new ht;have dg:=DGet.t (k:=ky z y) ((s2.trans st) _ _ hd) (show(upd H2 t<|.tup [.int z,.int y]) t=O (.tup<|(ky z y).map kV)from Ae);rw[has z y hb]at dg;exact⟨d,_,Z,dg,_,_,Z,Z,Zb p1 t1,s2.trans st,_,_,Z,hg2⟩
   .cases hg2
  .rintro B H2 ⟨s2,p,x6,rfl,hg2⟩;rw[aa,b5,gin]at hg2;exact⟨s2,p,_,_,Z,hg2⟩
 .rintro B H1 ⟨s1,p,x5,x6,rfl,hg1⟩;rw[aa,b5,K4]at hg1;cases hg1;exact⟨_,Z,q _ s1⟩
theorem Fw{f:jF}{fd:jM}(F:Fun K "count_by_smaller" "count_by_smaller" BC f fd)(T:Txt mg tk)(gQ:Ar P w K mg jD 1 "ways_to_part" mf PU)(gR:Ar P w K mg jD 1 "count_of_grid" nL Qf):A8 P w K mg jD CX0 2 f fd nM Nt:=by
 have S:Al ["counts","width","height","total","columns","rows","lines"] nM (Ah BC):=fsk;refine F.g S ?_;rintro vs H Q E ⟨d,kvs,w,h,rfl,hd,w1,w2,h1,h2,has,q⟩;refine⟨Z,λcdv A jz s hr=>?_⟩;refine⟨_,(Ac (Az 3 S.nd Ab)
  (Ac (AF PassesOwn.never Z (AA<|Am gQ hr<|Aj Ak) (AS 4 S.nd)<|Ag<|AF PassesOwn.never Z (AA<|Am gQ hr<|Aj Ap) (AS 5 S.nd)<|Ac (Az 6 S.nd<|Ao BG (Ao A7 (Bg Bf T.z_len<|Aj AE)<|Bg Bf T.z_len<|Aj AX) Ab)
  (Ag<|AG (A5 Bu (Ao AW DI Ab) Ab) (Ag<|CW (i:=3) S.nd Z (bq Z) (Am gR hr<|Aa Ai<|Aa AE<|Aj AX) Ej)<|Ag<|AG (A5 NC DI Ab) (Ag<|CW (i:=3) S.nd Z (bq Z) (Am gR hr<|Aa Ai<|Aa AE<|Aj AX) Px) A6))
  (Ag<|Aq A2))),?_⟩
 refine⟨_,Z,w,Z,w1,w2,λl ts H1 s1 _ hl ht hw=>⟨l,Z,⟨_,SqL.of hl⟩,Bn (K:=K) (a:=l) (xs:=Bq ts) (λi B H'=>Same H1 H'/\∃t x4 x5 x6,B=[O<|.ref d,O<|.int w,O<|.int h,O<|.int t,x4,x5,x6]/\OJ w h (F1 (h-1).toNat) ((ts.drop i).map λt:jF×List Int=>t.2) t=O (tab w h)) ⟨Same.refl H1,1,Y,Y,Y,Z,?_⟩ (λi B H' _ hp=>SqL.of<|hp.1 _ _ hl) ?_ ?_⟩⟩
 .rw[dQ,hw];exact Wr w1 w2 h1 h2
 .rintro i x B H2 hx ⟨s2,t,x4,x5,x6,rfl,hg⟩;obtain⟨u,hu,rfl⟩:=Fo hx;rw[I8 hu,aR,OJ]at hg;have hua:=s2 _ _<|ht u<|ak hu;refine⟨_,Z,h,Z,h1,h2,λl' ts' H3 s3 _ hl' ht' hw'=>⟨l',Z,⟨_,SqL.of hl'⟩,Bn (K:=K) (a:=l') (xs:=Bq ts') (λj B H'=>Same H3 H'/\∃t x5 x6,B=[O<|.ref d,O<|.int w,O<|.int h,O<|.int t,O<|.ref u.1,x5,x6]/\((tin w h u.2 ((ts'.drop j).map λt:jF×List Int=>t.2) t).bind λq=>OJ w h (F1 (h-1).toNat) ((ts.drop<|i+1).map λt:jF×List Int=>t.2) q)=O (tab w h)) ⟨Same.refl H3,t,x5,x6,Z,?_⟩ (λj B H' _ hp=>SqL.of<|hp.1 _ _ hl') ?_ ?_⟩⟩
  .rw[dQ,hw'];exact hg
  .rintro j y B H4 hy ⟨s4,t,x5,x6,rfl,hg2⟩;obtain⟨v,hv,rfl⟩:=Fo hy;rw[I8 hv,aR,tin]at hg2;have hva:=s4 _ _<|ht' v<|ak hv;have hua4:=(s3.trans s4) _ _ hua;have hd4:H4 d=O (.dT kvs):=(s1.trans<|s2.trans<|s3.trans s4) _ _ hd;rw[<-aa (f:=V.int) (as:=u.2),<-aa (f:=V.int) (as:=v.2)]at hg2;refine⟨_,Z,u.1,_,Z,.inl<|SqL.of hua4,_,Z,v.1,_,Z,.inl<|SqL.of hva,_,_,Z,Z,_,_,Z,Z,?_⟩;refine⟨_,Z,_,_,Z,Z,(show(0:Int)<2 from by decide),Z,_,Z,Br (λhb=>?_) λhb=>?_⟩
   .rw[jP<|V.int.inj<|jY hb]at hg2;cases eg:K4 w h v.2 u.2 1 with
    |none=>rw[eg]at hg2;cases hg2
    |some g=>
     rw[eg]at hg2;exact⟨_,Z,_,Z,_,Z,_,Z,d,u.1,v.1,kvs,w,h,u.2,v.2,g,Z,hd4,hua4,hva,has,eg,λH5 s5=>⟨_,_,Z,Z,s4.trans s5,_,_,_,Z,hg2⟩⟩
   .rw[jK λz=>of_decide_eq_false hb<|congrArg V.int z]at hg2;refine⟨_,Z,_,_,Z,Z,_,Z,Br (λhc=>?_) λhc=>?_⟩
    .rw[jP<|jY hc]at hg2;cases eg:K4 w h v.2 u.2 1 with
     |none=>rw[eg]at hg2;cases hg2
     |some g=>
      rw[eg]at hg2;exact⟨_,Z,_,Z,_,Z,_,Z,d,u.1,v.1,kvs,w,h,u.2,v.2,g,Z,hd4,hua4,hva,has,eg,λH5 s5=>⟨_,_,Z,Z,s4.trans s5,_,_,_,Z,hg2⟩⟩
    .rw[jK<|of_decide_eq_false hc]at hg2;exact⟨s4,_,_,_,Z,hg2⟩
  .rintro B H4 ⟨s4,t,x5,x6,rfl,hg2⟩;rw[Bq,aa,b5,bN,tin]at hg2;exact⟨s2.trans<|s3.trans s4,t,_,_,_,Z,hg2⟩
 .rintro B H2 ⟨s2,t,x4,x5,x6,rfl,hg⟩;rw[Bq,aa,b5,bN,OJ]at hg;cases hg;exact⟨_,Z,q _<|s1.trans s2⟩
theorem Tq{f:jF}{fd:jM}(F:Fun K "count" "count" Mn f fd)(T:Txt mg tk)(gG:Fl P w K mg jD 3 "check_counted" l9<|OR cS)(iR:Ar P w K mg jD 2 "count_by_smaller" nM Nt):A8 P w K mg jD CX0 4 f fd l9 IT:=by
 have S:Al ["width","height","counts","wide","high"] l9 (Ah Mn):=fsk;refine F.g S ?_;rintro vs H Q E ⟨w,h,rfl,w1,w2,h1,h2,q⟩;refine⟨Z,λcdv A jz s hr=>?_⟩;have hu:=Ew hr;refine⟨_,(Ac (AM<|Mx gG hr Q6<|Aa Ai<|Aj Ak)
  (Ac (Az 2 S.nd Jj)
  (Ac (AF PassesOwn.never Z (AV Z T.z_range<|Aa Ab<|Aj<|Ao A7 Ai Ab) (AS 3 S.nd)<|Ag<|AF PassesOwn.never Z (AV Z T.z_range<|Aa Ab<|Aj<|Ao A7 Ak Ab) (AS 4 S.nd)<|Ag<|Gh hu Ap (A4<|Aa A2<|Aj AE) (Am iR hr<|Aa Ap<|Aa A2<|Aj AE) Z)
  (Ag<|Aq<|Ec hu Ap<|A4<|Aa Ai<|Aj Ak)))),?_⟩
 refine⟨_,Z,_,Z,.int w,.int h,Z,⟨_,Z⟩,⟨_,Z⟩,λ_ _ H1 s1=>?_,λc=>(Tx w1 w2 c).elim,λ_ c=>(Tx h1 h2 c).elim⟩;intro d hd;refine⟨_,Z,_,_,Z,Z,1,w+1,Z,⟨by lia,by lia,by lia,by lia⟩,AT (lo:=1) (n:=(w+1-1).toNat) (λi B H'=>(∃y z,B=[O<|.int w,O<|.int h,O<|.ref d,y,z])/\Same H1 H'/\∃kvs,H' d=O (.dT kvs)/\kvs.length<=4*i/\∀x y,1<=x->x<=(i:Int)->1<=y->y<=h->Bo kvs (ky x y)=O (.int<|tab x y))
  ⟨⟨Y,Y,Z⟩,Same.new hd,[],Ae,ah _,λx y a b=>by lia⟩ ?_ ?_⟩
 .rintro i B H2 hi ⟨⟨y,z,rfl⟩,s2,kvs,hk,hkl,ha⟩;refine⟨_,Z,_,_,Z,Z,1,h+1,Z,⟨by lia,by lia,by lia,by lia⟩,AT (lo:=1) (n:=(h+1-1).toNat) (λj B H'=>(∃z,B=[O<|.int w,O<|.int h,O<|.ref d,O<|.int<|1+(i:Int),z])/\Same H1 H'/\∃kvs,H' d=O (.dT kvs)/\kvs.length<=4*i+j/\(∀x y,1<=x->x<=(i:Int)->1<=y->y<=h->Bo kvs (ky x y)=O (.int<|tab x y))/\∀y,1<=y->y<=(j:Int)->Bo kvs (ky (1+(i:Int)) y)=O (.int<|tab (1+(i:Int)) y))
   ⟨⟨z,Z⟩,s2,kvs,hk,by lia,ha,λy a b=>by lia⟩ ?_ ?_⟩
  .rintro j B H3 hj ⟨⟨z,rfl⟩,s3,kv,hk3,hl3,b1,b2⟩;have has:Has kv (1+(i:Int)) (1+(j:Int)):=λx y hb=>by
    unfold bef at hb;simp only[av,bW,decide_eq_true_eq]at hb;obtain⟨⟨⟨x1,x2⟩,y1,y2⟩,lt⟩:=hb;by_cases e:x=1+(i:Int)
    .subst e;exact b2 y y1 (by lia)
    .exact b1 x y x1 (by lia) y1 (by lia)
   refine⟨_,Z,_,Z,_,Z,d,kv,1+(i:Int),1+(j:Int),Z,hk3,by lia,by lia,by lia,by lia,has,λH4 s4=>⟨_,Z,_,Z,_,Z,Ay 2,λt ht=>?_⟩⟩;have hk4:(upd H4 t<|.tup [.int<|1+(i:Int),.int<|1+(j:Int)]) d=O (.dT kv):=Same.new ht _ _<|s4 _ _ hk3;refine⟨d,_,Z,DPut.t (k:=ky (1+(i:Int))<|1+(j:Int)) hk4 Ae (An<|by lia),⟨_,Z⟩,λb o e=>?_,_,Ae,?_,λx y x1 x2 y1 y2=>?_,λy y1 y2=>?_⟩
   .rw[Af<|Ad e hd];exact Same.new ht _ _<|s4 _ _<|s3 b o e
   .have:=Cn kv (ky (1+(i:Int))<|1+(j:Int))<|V.int<|tab (1+(i:Int))<|1+(j:Int);lia
   .rw[DA,jK (λe=>by have:=(TD e).1;lia)];exact b1 x y x1 x2 y1 y2
   .rw[DA];by_cases e:y=1+(j:Int)
    .rw[jP (by rw[e]),e]
    .rw[jK λz=>e (TD z).2];exact b2 y y1 (by lia)
  .rintro B H3 ⟨⟨z,rfl⟩,s3,kv,hk3,hl3,b1,b2⟩;refine⟨⟨_,_,Z⟩,s3,kv,hk3,by lia,λx y x1 x2 y1 y2=>?_⟩;by_cases e:x=1+(i:Int)
   .rw[e];exact b2 y y1 (by lia)
   .exact b1 x y x1 (by lia) y1 y2
 .rintro B H2 ⟨⟨y,z,rfl⟩,s2,kvs,hk,hkl,ha⟩;refine⟨_,Z,_,Z,_,Z,Ay 2,λt ht=>?_⟩;have st:Same H2 (upd H2 t<|.tup [.int w,.int h]):=Same.new ht;have dg:=DGet.t (k:=ky w h) (st _ _ hk) (show(upd H2 t<|.tup [.int w,.int h]) t=O (.tup<|(ky w h).map kV)from Ae);rw[ha w h w1 (by lia) h1<|aW _]at dg;exact⟨d,_,Z,dg,q _<|(s1.trans s2).trans st⟩
theorem RJ{f:jF}{fd:jM}(F:Fun K "_law_at" "_law_at" GF f fd)(T:Txt mg tk):A8 P w K mg jD CX0 1 f fd m9 (SM K):=by
 have S:Al ["_law_script","_law_k","_law_cell"] m9 (Ah GF):=fsk;refine F.g S ?_;rintro vs H Q E ⟨a,ns,k,rfl,hS,hk0,hk1,q⟩;refine⟨Z,λcdv A jz s hr=>?_⟩;refine⟨_,(Ac (AG (A5 DJ Ak<|Bg Bf T.z_len<|Aj Ai) (Ag<|Aq<|Av Bm Ai Ak) A6)
  (Ac (Az 2 S.nd Ab)
  (Ac (AG (A5 (Ph hr) Ai<|AJ BF) (Ag<|Az 2 S.nd<|Av Bm Ai<|Ao AW Ak<|Bg Bf T.z_len<|Aj Ai) A6)
  (Ag<|Aq<|Ao AW (Ao CC (Ao A7 (Ao A7 (Ao AW Ap Ab)<|Ao CC Ab Ak) Ab) Ab) Ab)))),?_⟩
 have fin:∀z:Int,IntMulOk (z % 1000003+104729*k+13) 48271:=λz=>by
  have a:=bG z (b:=1000003) (by decide);have b:=bx z (b:=1000003) (by decide);exact Li (by lia) (by lia) (by decide) (by decide)
 refine⟨_,Z,_,Z,a,_,Z,.inl hS,_,_,Z,Z,_,Z,Br (λh=>?_) λh=>?_⟩
 .have h':=jY h;rw[aa]at h';obtain⟨z,hz⟩:=QU hk0 h';exact⟨_,Z,_,Z,a,_,_,_,Z,Z,hS,hz,q _ H<|Same.refl H⟩
 .refine⟨_,Z,Ay 0,λe he=>?_⟩;obtain⟨H1,g,s1,e1⟩:=nw (.lst []) he;rw[g];refine⟨_,_,VY<|s1.seq hS,WF e1,⟨_,Z⟩,⟨_,Z⟩,Ls _,_,Z,Br (λh1=>?_) λh1=>?_⟩
  .rw[jP Z,deq,Lu]at h1;have hne:ns≠[]:=λz=>by rw[jI z]at h1;cases h1
   have hpos:0<ns.length:=List.length_pos_iff.mpr hne;obtain⟨z,hz⟩:=QU (ns:=ns) (k:=k % (((ns.map V.int).length:Nat):Int)) (bG _ (by rw[aa];lia)) (by rw[aa];exact bx _<|by lia);refine⟨_,Z,_,Z,_,Z,a,_,Z,.inl<|s1.seq hS,_,_,Z,Z,(by rw[aa];lia),a,_,_,_,Z,Z,s1.seq hS,hz,?_⟩;exact⟨_,Z,_,_,Z,Z,(show(0:Int)<1000003 from by decide),_,Z,_,_,Z,Z,Li (by decide) (by decide) (by lia) (by lia),_,_,Z,Z,_,_,Z,Z,_,_,Z,Z,fin _,_,_,Z,Z,(show(0:Int)<2147483647 from by decide),q _ H1 s1⟩
  .exact⟨_,Z,_,_,Z,Z,(show(0:Int)<1000003 from by decide),_,Z,_,_,Z,Z,Li (by decide) (by decide) (by lia) (by lia),_,_,Z,Z,_,_,Z,Z,_,_,Z,Z,fin _,_,_,Z,Z,(show(0:Int)<2147483647 from by decide),q _ H1 s1⟩
theorem M4{f:jF}{fd:jM}(F:Fun K "_law_knead" "_law_knead" BR f fd)(T:Txt mg tk):A8 P w K mg jD CX0 1 f fd nh IS:=by
 have S:Al ["_law_number_here","_law_by","_law_digits","_law_k","_law_found"] nh (Ah BR):=fsk;refine F.g S ?_;rintro vs H Q E ⟨n,b,rfl,b0,b1,q⟩;refine⟨Z,λcdv A jz s hr=>?_⟩;obtain⟨tt,htt,fin⟩:∃rd,PSs (Bx CX0 P w K mg jD ["_law_number_here","_law_by","_law_digits","_law_k","_law_found"] "_law_knead" (Ah BR) f cdv A jz s H E).nox ((A9 BR).drop 2) rd /\
   ∀(d:Int)(x3:Option V),0<=d->rd { nx:=λ_ H'=>Q .non H',rt:=Q} [O<|.int n,O<|.int b,O<|.int d,x3,Y] H:=by
  refine⟨_,(Ac (AG (A5 NC Ap Ab) (Ag<|Aq<|Ao AW Ap Ab) A6)
  (Ac (Az 0 S.nd<|Ao A7 (Ao AW Ai Ab)<|Ao CC Ab Ak)
  (Ac (Az 4 S.nd<|Ao A7 Ab Ak)
  (Ac (AF PassesOwn.never Z (Cg Z T.z_range<|Aj Ab) (AS 3 S.nd)<|Ac (Az 4 S.nd<|Ao AW (Ao CC (Ao A7 (Ao CC AE Ab) Ai)<|Ao A7 (Ao AW Ai Ab) Ab) Ab)
  (Ag<|Az 0 S.nd<|Ao A7 (Ao A7 (Ao B6 Ai Ab)<|Ao AW AE Ab) A2))
  (Ag<|Aq AE))))),?_⟩
  intro d x3 d0;refine⟨_,Z,_,_,Z,Z,_,Z,Br (λh=>?_) λh=>?_⟩
  .exact⟨_,Z,_,_,Z,Z,(show(0:Int)<1000000000 from by decide),q _<|bG _<|by decide⟩
  .have a:=bG n (b:=900001) (by decide);have c:=bx n (b:=900001) (by decide);refine⟨_,Z,_,_,Z,Z,(show(0:Int)<900001 from by decide),_,Z,_,_,Z,Z,Li (by decide) (by decide) (by lia) (by lia),_,_,Z,Z,_,Z,_,_,Z,Z,3,Z,by decide,by decide,?_⟩;refine AT (lo:=0) (n:=(3:Int).toNat) (λi B H'=>H'=H/\∃N F x2 x3,B=[O<|.int N,O<|.int b,x2,x3,O<|.int F]/\0<=N/\N<=1000000/\0<=F/\F<=715827883) ⟨Z,_,_,_,_,Z,by lia,by lia,by lia,by lia⟩ ?_ ?_
   .rintro i B H' hi ⟨rfl,N,F,x2,x3,rfl,n0,n1,f0,f1⟩;have hi3:i<3:=hi;have m0:=bG N (b:=8887) (by decide);have m1:=bx N (b:=8887) (by decide);refine⟨_,Z,_,_,Z,Z,Li (by lia) (by lia) (by decide) (by decide),_,Z,_,_,Z,Z,_,Z,_,_,Z,Z,(show(0:Int)<8887 from by decide),_,_,Z,Z,_,_,Z,Z,Li (by lia) (by lia) (by lia) (by lia),_,_,Z,Z,(show(0:Int)<715827883 from by decide),?_⟩;have g0:=bG ((F*8191+N)*(N % 8887+5501)) (b:=715827883) (by decide);have g1:=bx ((F*8191+N)*(N % 8887+5501)) (b:=715827883) (by decide);generalize (F*8191+N)*(N % 8887+5501) % 715827883=F' at g0 g1 |-;refine⟨_,Z,_,_,Z,Z,Ii _ (by decide) (by decide),_,Z,_,_,Z,Z,(show(0:Int)<1013 from by decide),_,_,Z,Z,_,Z,_,_,Z,Z,Z,_,_,_,_,Z,?_,?_,by lia,by lia⟩
    .lia
    .lia
   .rintro B H' ⟨rfl,N,F,x2,x3,rfl,n0,n1,f0,f1⟩;exact⟨_,Z,q _ f0⟩
 refine⟨_,(Ac (Az 2 S.nd Ab)
  (Ac (AG (PW.pt<|Ev (A5 DJ Ai Ab)<|CT<|A5 VU Ai<|Ao WC Ab Ab) (Ac (Az 2 S.nd<|Bg Uu T.z_abs<|Aj Ai)
  (Ag<|AF PassesOwn.never Z (Cg Z T.z_range<|Aj Ak) (AS 3 S.nd)<|Ag<|Az 2 S.nd<|Ao B6 Ap Ab)) A6)
  htt)),?_⟩
 have loop:∀(d:Int),0<=d->(if d<0 then -d else d)=d:=λd h=>by rw[jK<|by lia]
 refine⟨_,Z,_,_,Z,Z,_,Z,Br (λh=>?_) λh=>?_⟩
 .refine Pt ⟨_,Z,_,Z,_,Z,b,Z,by lia,by lia,AT (lo:=0) (n:=b.toNat) (λi B H'=>H'=H/\∃d x3,B=[O<|.int n,O<|.int b,O<|.int d,x3,Y]/\0<=d) ⟨Z,_,_,Z,by split<;>lia⟩ ?_ ?_⟩
  .rintro i B H' hi ⟨rfl,d,x3,rfl,d0⟩;exact⟨_,Z,_,_,Z,Z,Ii _ (by decide) (by decide),Z,_,_,Z,by lia⟩
  .rintro B H' ⟨rfl,d,x3,rfl,d0⟩;exact fin d x3 d0
 .refine⟨_,Z,_,_,Z,Z,XS,_,_,Z,Z,_,Z,Br (λh1=>?_) λh1=>fin 0 Y<|by lia⟩;refine⟨_,Z,_,Z,_,Z,b,Z,by lia,by lia,AT (lo:=0) (n:=b.toNat) (λi B H'=>H'=H/\∃d x3,B=[O<|.int n,O<|.int b,O<|.int d,x3,Y]/\0<=d) ⟨Z,_,_,Z,by split<;>lia⟩ ?_ ?_⟩
  .rintro i B H' hi ⟨rfl,d,x3,rfl,d0⟩;exact⟨_,Z,_,_,Z,Z,Ii _ (by decide) (by decide),Z,_,_,Z,by lia⟩
  .rintro B H' ⟨rfl,d,x3,rfl,d0⟩;exact fin d x3 d0
abbrev P4:=Int×Int×Int×Int
noncomputable def OI(p:P4):LUz:=[.int p.1,.int p.2.1,.int p.2.2.1,.int p.2.2.2]
abbrev BL:=LI
noncomputable def kvB(d:BL):List (Key×V):=d.map λp=>(Sum.inl p.1,V.int p.2)
noncomputable def Je(d:BL)(k v:Int):BL:=if d.any (λp=>og<|p.1=k)then d.map (λp=>if p.1=k then(p.1,v)else p)else d++[(k,v)]
noncomputable def C5(d:BL)(k:Int):Option Int:=(d.find? λp=>og<|p.1=k).map (·.2)
noncomputable def B7(n:Int):Int:=1*2^(n-1).toNat-1
noncomputable def Ax(lines:Int):Nat->List Int
 |0=>[1]
 |k+1=>if Builtin.bitAnd lines (1*2^k)=0 then(Ax lines k).set ((Ax lines k).length-1) (((Ax lines k).getLast?).getD 0+1)else Ax lines k++[1]
noncomputable def Ek(a:Int×Int)(f:BL)(b:Int×Int):BL:=Je f (Builtin.bitAnd a.1 b.1)<|(C5 f<|Builtin.bitAnd a.1 b.1).getD 0+a.2*b.2
noncomputable def BW(bs:BL)(f:BL)(a:Int×Int):BL:=bs.foldl (Ek a) f
noncomputable def QF(as bs:BL):BL:=as.foldl (BW bs) []
noncomputable def A3(d:BL)(lines:Int):Int:=((d.filter λp=>og<|Builtin.bitAnd p.1 lines=0).map (·.2)).sum
theorem WI(d:BL)(k:Int):((kvB d).any λkv=>og<|kv.1=(Sum.inl k:Key))=d.any (λp=>og<|p.1=k):=by
 unfold kvB;rw[fJ];refine congrArg (λg=>d.any g) (funext λp=>?_);show og ((Sum.inl p.1:Key)=Sum.inl k)=_;exact decide_eq_decide.mpr ⟨λh=>Sum.inl.inj h,λh=>by rw[h]⟩
theorem TJ(d:BL)(k v:Int):De (kvB d) (Sum.inl k) (.int v)=kvB (Je d k v):=by
 unfold De Je;rw[WI];split
 .unfold kvB;rw[aA,aA];refine bC λp _=>?_;show(if (Sum.inl p.1:Key)=Sum.inl k then _ else _)=_;by_cases h:p.1=k
  .rw[jP<|by rw[h]];show _=((Sum.inl (if p.1=k then(p.1,v)else p).1:Key),V.int (if p.1=k then(p.1,v)else p).2);rw[jP h]
  .rw[jK λz=>h<|Sum.inl.inj z];show _=((Sum.inl (if p.1=k then(p.1,v)else p).1:Key),V.int (if p.1=k then(p.1,v)else p).2);rw[jK h]
 .unfold kvB;rw[af];rfl
theorem TF(d:BL)(k:Int):Bo (kvB d) (Sum.inl k)=(C5 d k).map V.int:=by
 unfold Bo C5 kvB
 induction d with
 |nil=>rfl
 |cons p r ih=>
  rw[aR,cf,cf];by_cases h:p.1=k
  .rw[jI (show(Sum.inl p.1:Key)=Sum.inl k by rw[h]),jI h];rfl
  .rw[jR (show ¬(Sum.inl p.1:Key)=Sum.inl k from λz=>h<|Sum.inl.inj z),jR h];exact ih
theorem Qu(d:BL)(k v:Int):(Je d k v).length<=d.length+1:=by
 unfold Je;split
 .rw[aa];exact bT _
 .rw[aq];exact ah _
theorem Qk(bs f:BL)(a:Int×Int):(BW bs f a).length<=f.length+bs.length:=by
 unfold BW
 induction bs generalizing f with
 |nil=>exact ah _
 |cons b r ih=>
  have h1:=ih<|Ek a f b;have h2:(Ek a f b).length<=f.length+1:=Qu _ _ _;rw[dI,aL];lia
theorem QB{d:BL}{i:Nat}{p:Key×V}(h:(kvB d)[i]?=O p):∃q,d[i]?=O q/\p=(Sum.inl q.1,V.int q.2):=by
 unfold kvB at h;rw[ax]at h;obtain⟨q,hq,e⟩:=bc.mp h;exact⟨q,hq,e.symm⟩
theorem Ei(d:BL):(kvB d).length=d.length:=aa _
inductive OC(vs:LUz)(H:Hp)(Q:VK)(E:XK):Prop
 |mk (n:Int) (h0:vs=[.int n]) (h1:1<=n) (h2:n<=4) (h3:Q (.int<|B7 n) H):OC vs H Q E
def Gd:Sp:=λvs H Q E=>OC vs H Q E
inductive LL(vs:LUz)(H:Hp)(Q:VK)(E:XK):Prop
 |mk (lines len:Int) (h0:vs=[.int lines,.int len]) (h1:1<=len) (h2:len<=4) (h3:∀l H',Same H H'->H l=Y->H' l=O (.lst<|(Ax lines (len-1).toNat).map V.int)->Q (.ref l) H'):LL vs H Q E
def DC:Sp:=λvs H Q E=>LL vs H Q E
inductive Kq(vs:LUz)(H:Hp)(Q:VK)(E:XK):Prop
 |mk (a b:jF) (as bs:BL) (h0:vs=[.ref a,.ref b]) (h1:H a=O (.dK<|kvB as)) (h2:H b=O (.dK<|kvB bs)) (h3:a≠b) (h4:as.length<=8) (h5:bs.length<=8) (h6:(∀p∈bs,0<=p.2/\p.2<=1000000000)) (h7:∀l H',Same H H'->H l=Y->H' l=O (.dK<|kvB<|QF as bs)->Q (.ref l) H'):Kq vs H Q E
def KO:Sp:=λvs H Q E=>Kq vs H Q E
inductive HI(vs:LUz)(H:Hp)(Q:VK)(E:XK):Prop
 |mk (a:jF) (as:BL) (lines:Int) (h0:vs=[.ref a,.int lines]) (h1:H a=O (.dK<|kvB as)) (h2:as.length<=100) (h3:∀H',Same H H'->Q (.int<|A3 as lines) H'):HI vs H Q E
def CI:Sp:=λvs H Q E=>HI vs H Q E
theorem MA{f:jF}{fd:jM}(F:Fun K "all_lines" "all_lines" EL f fd):A8 P w K mg jD CX0 1 f fd mf Gd:=by
 have S:Al mf mf (Ah EL):=fsk;refine F.g S ?_;rintro vs H Q E ⟨n,rfl,n1,n4,q⟩;refine⟨Z,λcdv A jz s hr=>?_⟩;refine⟨_,(Ag<|Aq<|Ao BG (Ao Pg Ab<|Ao BG Ai Ab) Ab),?_⟩;exact⟨_,Z,_,_,Z,Z,_,_,Z,Z,⟨by lia,by lia,by decide⟩,_,_,Z,Z,q⟩
theorem Lb(lines:Int):∀k,1<=(Ax lines k).length/\(Ax lines k).length<=k+1
 |0=>⟨ah 1,ah 1⟩
 |k+1=>by
  have h:=Lb lines k;rw[Ax];split
  .rw[List.length_set];lia
  .rw[aq];show 1<=(Ax lines k).length+1/\(Ax lines k).length+1<=_;lia
noncomputable abbrev VF:LSz:=["lines","length","parts","line"]
theorem GM{f:jF}{fd:jM}(F:Fun K "parts_between" "parts_between" Ct f fd)(T:Txt mg tk):A8 P w K mg jD CX0 1 f fd my DC:=by
 have S:Al VF my (Ah Ct):=fsk;refine F.g S ?_;rintro vs H Q E ⟨lines,len,rfl,l1,l4,q⟩;refine⟨Z,λcdv A jz s hr=>?_⟩;refine⟨_,(Ac (Az 2 S.nd<|AJ<|Aj Ab)
  (Ac (AF PassesOwn.never Z (AV Z T.z_range<|Aa Ab<|Aj Ak) (AS 3 S.nd)<|Ag<|AG (ER (Ao GJ Ai<|Ao Pg Ab<|Ao BG A2 Ab) λ_=>rfl) (Ag<|AM<|BU Ap<|Aj Ab)<|Ag<|UV Ap (Hv E6 Ab) TZ Ab Ej Nz)
  (Ag<|Aq Ap))),?_⟩
 refine⟨Ay 1,λl nl=>?_⟩;refine nv nl λH0 s0 e0=>?_;refine⟨_,Z,1,len,Z,⟨by lia,by lia,by lia,by lia⟩,AT (lo:=1) (n:=(len-1).toNat) (λi B H'=>(∃y,B=[O<|.int lines,O<|.int len,O<|.ref l,y])/\Same H H'/\H' l=O (.lst<|(Ax lines i).map V.int)) ⟨⟨_,Z⟩,s0,e0⟩ ?_ ?_⟩
 .rintro i B H1 hi ⟨⟨y,rfl⟩,s1,h1⟩;obtain⟨pl,pu⟩:=Lb lines i;refine⟨_,Z,_,Z,_,_,Z,Z,_,_,Z,Z,⟨by lia,by lia,by decide⟩,_,_,Z,Z,_,Z,?_⟩;have ei:(1+(i:Int)-1).toNat=i:=by lia
  refine Br (λc=>?_) λc=>?_
  .have c:¬Builtin.bitAnd lines (1*2^i)=0:=λz=>by rw[ei,z]at c;cases c
   refine⟨_,Z,.inl ⟨Z,_,SqL.of h1⟩,l,_,_,Z,Z,h1,An (by rw[aa];lia),⟨_,Z⟩,λy o e=>by rw[Af<|Ad e nl];exact s1 _ _ e,?_⟩;rw[Ax,jK c,af,Ae];rfl
  .have c:Builtin.bitAnd lines (1*2^i)=0:=by
    rw[ei]at c;exact(bne_eq_false_iff_eq).mp c
   obtain⟨z,hz⟩:∃z,(Ax lines i).getLast?=O z:=⟨_,List.getLast?_eq_some_getLast (λz=>by rw[z]at pl;cases pl)⟩;refine⟨_,Z,_,Z,l,_,_,Z,Z,SqL.of h1,by rw[List.getLast?_map,hz];rfl,_,_,Z,Z,l,_,-1,(Ax lines i).length-1,Z,Z,h1,?_,⟨_,Z⟩,λy o e=>by rw[Af<|Ad e nl];exact s1 _ _ e,?_⟩
   .rw[aa];unfold ixN;rw[jK (by decide),jP<|by lia];exact congrArg O (by lia)
   .rw[Ax,jP c,hz,Ae,List.map_set];rfl
 .rintro B H1 ⟨⟨y,rfl⟩,s1,h1⟩;exact⟨_,Z,q l H1 s1 nl h1⟩
noncomputable abbrev Y6:LSz:=["by_lines","strips_by_lines","found","lines","many","more","times","both"]
theorem Za{a b:Int}(h0:0<=b)(h1:b<=1000000000):IntMulOk a b:=IntMulOk.of_right (by
 unfold Builtin.Int.intBits;split
 .exact aU _
 .have:b.natAbs.log2<30:=(Nat.log2_lt (by intro z;simp_all)).mpr (by lia);lia)
theorem JM{a:jF}{ob:PySem.Obj}{d:BL}{g:TG}{tb:TS}{D:E4}{B:St}{H:Hp}(Pv:Nat->St->Hp->Prop)(h0:Pv 0 B H)(hl:∀i B H,i<=d.length->Pv i B H->H a=O (.frz ob<|.dK<|kvB d))
  (hs:∀i (p:Int×Int) B H t,d[i]?=O p->Pv i B H->H t=Y->g (.ref t) B (upd H t<|.tup [.int p.1,.int p.2]) λσ2 H2=>tb { D with nx:=Pv<|i+1,ct:=Pv<|i+1,bk:=D.nx} σ2 H2) (hd:∀B H,Pv d.length B H->D.nx B H):
  ∃W:Nat->Nat->St->Hp->Prop,(∃m,W 0 m B H)/\∀i m B H,W i m B H ->
   ((Itm a ob).stop i H/\D.nx B H)\/((Itm a ob).go i H/\∃N:St->Hp->Prop,(∀σ' H',N σ' H'->∃m',m'<m/\W (i+1) m' σ' H')/\∀x H',(Itm a ob).yld i H x H'->g x B H' λσ2 H2=>tb { D with nx:=N,ct:=N,bk:=D.nx} σ2 H2):=by
 refine Sf (kvs:=kvB d) Pv h0 (λi B H h=>hl i B H (by rw[Ei]at h;exact h)) (λi p B H t hp pv nt=>?_) (λB H pv=>hd B H (by rw[Ei]at pv;exact pv));obtain⟨q,hq,rfl⟩:=QB hp;exact hs i q B H t hq pv nt
theorem QQ(bs:BL):∀(as:BL)(f:BL),(as.foldl (BW bs) f).length<=f.length+as.length*bs.length
 |[],f=>by simp
 |a::r,f=>by
  have h1:=QQ bs r<|BW bs f a;have h2:=Qk bs f a;rw[dI,aL,eO];lia
theorem M7{f:jF}{fd:jM}(F:Fun K "in_common" "in_common" EI f fd):A8 P w K mg jD CX0 1 f fd nO KO:=by
 have S:Al Y6 nO (Ah EI):=fsk;refine F.g S ?_;rintro vs H Q E ⟨a,b,as,bs,rfl,ha,hb,nab,la,lb,sm,q⟩;refine⟨Z,λcdv A jz s hr=>?_⟩;have hu:=Ew hr;refine⟨_,(Ac (Az 2 S.nd Tf)
  (Ac (AF PassesOwn.never Z (Jh Ai) (BS Z<|Au (AS 3 S.nd)<|Au (AS 4 S.nd) AY)<|Ag<|AF PassesOwn.never Z (Jh<|NA Ak) (BS Z<|Au (AS 5 S.nd)<|Au (AS 6 S.nd) AY)<|Ac (Az 7 S.nd<|Ao GJ A2 AX)
  (Ag<|Gh hu Ap DH (Ao A7 (Tg hu Ap DH Ab ⟨Z,Z,Z,Z⟩)<|Ao CC AE DI) Z))
  (Ag<|Aq<|NA<|Qz Ap))),?_⟩
 refine λl nl=>?_;refine nv nl λH0 s0 e0=>?_;have al:a≠l:=Ad ha nl;have bl:b≠l:=Ad hb nl;refine⟨_,Z,a,_,Z,s0 _ _ ha,λoa=>?_⟩;have keep:∀{G:Hp},(∀x o,x≠a->x≠b->H x=O o->G x=O o)->True:=λ_=>trivial;have nfz:∀o w,H b≠O (.frz o w):=λo w z=>by rw[hb]at z;cases z
 refine JM (a:=a) (ob:=oa) (d:=as) (λi B H'=>(∃y3 y4 y5 y6 y7,B=[O<|.ref a,O<|.ref b,O<|.ref l,y3,y4,y5,y6,y7])/\(∀x o,x≠a->x≠b->H x=O o->H' x=O o)/\H' a=O (.frz oa<|.dK<|kvB as)/\(H' b=O (.dK<|kvB bs)\/∃ob,H' b=O (.frz ob<|.dK<|kvB bs)/\∀o w,H b≠O (.frz o w))/\H' l=O (.dK<|kvB<|(as.take i).foldl (BW bs) [])) ⟨⟨_,_,_,_,_,Z⟩,λx o na nb e=>by rw[Af na];exact s0 _ _ e,Ae,.inl (by rw[Af<|Ne.symm nab];exact s0 _ _ hb),by rw[Af<|Ne.symm al];exact e0⟩ (λi B H' _ hp=>hp.2.2.1) ?_ ?_
 .rintro i pa B H1 t hpa ⟨⟨y3,y4,y5,y6,y7,rfl⟩,k1,fa,fb,fl⟩ nt;refine nv nt λH2 s2 e2=>?_;refine⟨t,_,Z,SqT.of e2,Z,_,_,Z,_,_,Z,Z,_,Z,b,.dK<|kvB bs,fb.imp (λh=>s2 _ _ h) λ⟨ob,h,n⟩=>⟨ob,s2 _ _ h,n⟩,b,_,Z,Ae,λob=>?_⟩;rw[Mb];have ia:i<as.length:=(aD.mp hpa).1;have tk:(as.take<|i+1).foldl (BW bs) []=BW bs ((as.take i).foldl (BW bs) []) pa:=by rw[aN,hpa,cx];rfl
  have fl2:((as.take i).foldl (BW bs) []).length<=64:=by
   have:=QQ bs (as.take i) [];rw[bZ]at this;have:min i as.length*bs.length<=8*8:=dm (by lia) lb;simp only[cY]at *;lia
  refine JM (a:=b) (ob:=ob) (d:=bs) (λj B H'=>(∃y5 y6 y7,B=[O<|.ref a,O<|.ref b,O<|.ref l,O<|.int pa.1,O<|.int pa.2,y5,y6,y7])/\(∀x o,x≠a->x≠b->H x=O o->H' x=O o)/\H' a=O (.frz oa<|.dK<|kvB as)/\H' b=O (.frz ob<|.dK<|kvB bs)/\H' l=O (.dK<|kvB<|(bs.take j).foldl (Ek pa)<|(as.take i).foldl (BW bs) [])) ⟨⟨_,_,_,Z⟩,λx o na nb e=>by rw[Af nb];exact s2 _ _<|k1 x o na nb e,by rw[Af nab];exact s2 _ _ fa,Ae,by rw[Af<|Ne.symm bl];exact s2 _ _ fl⟩ (λi B H' _ hp=>hp.2.2.2.1) ?_ ?_
  .rintro j pb B H3 t3 hpb ⟨⟨y5,y6,y7,rfl⟩,k3,fa3,fb3,fl3⟩ nt3;refine nv nt3 λH4 s4 e4=>?_;have fl4:=s4 _ _ fl3;have pm:=sm pb<|ak hpb;have tkb:(bs.take<|j+1).foldl (Ek pa) ((as.take i).foldl (BW bs) [])=Ek pa ((bs.take j).foldl (Ek pa)<|(as.take i).foldl (BW bs) []) pb:=by rw[aN,hpb,cx];rfl
   have lb4:((bs.take j).foldl (Ek pa)<|(as.take i).foldl (BW bs) []).length<=100:=aV (Qk (bs.take j) ((as.take i).foldl (BW bs) []) pa) (by rw[bZ];lia);generalize (bs.take j).foldl (Ek pa) ((as.take i).foldl (BW bs) [])=fd at fl4 tkb lb4;refine⟨t3,_,Z,SqT.of e4,Z,_,_,Z,_,_,Z,Z,_,Z,_,Z,_,_,Z,Z,?_⟩;refine⟨_,Z,l,Z,.inl ⟨_,.inl fl4⟩,_,Z,_,DGet.k (k:=Sum.inl<|Builtin.bitAnd pa.1 pb.1) fl4,?_⟩;rw[TF,show((C5 fd<|Builtin.bitAnd pa.1 pb.1).map V.int).getD (.int 0)=V.int ((C5 fd<|Builtin.bitAnd pa.1 pb.1).getD 0) by cases C5 fd (Builtin.bitAnd pa.1 pb.1)<;>rfl];refine⟨_,Z,_,Z,_,_,Z,Z,Za pm.1 pm.2,_,_,Z,Z,_,Z,_,Z,l,_,Z,DPut.k (k:=Sum.inl<|Builtin.bitAnd pa.1 pb.1) fl4 (An (by rw[Ei];lia)),⟨_,_,_,Z⟩,λx o na nb e=>?_,?_,?_,?_⟩
   .rw[Af<|Ad e nl];exact s4 _ _<|k3 x o na nb e
   .rw[Af al];exact s4 _ _ fa3
   .rw[Af bl];exact s4 _ _ fb3
   .rw[Ae,TJ,tkb];rfl
  .rintro B H3 ⟨⟨y5,y6,y7,rfl⟩,k3,fa3,fb3,fl3⟩;rw[aI]at fl3;exact⟨⟨_,_,_,_,_,Z⟩,k3,fa3,.inr ⟨ob,fb3,nfz⟩,by rw[tk];exact fl3⟩
 .rintro B H1 ⟨⟨y3,y4,y5,y6,y7,rfl⟩,k1,fa,fb,fl⟩;rw[aI]at fl;refine⟨_,Z,a,oa,_,fa,(λo w z=>by have z:H a=O (.frz o w):=z;rw[ha]at z;cases z),b,.dK<|kvB bs,fb.imp (λh=>by rw[Af<|Ne.symm nab];exact h) (λ⟨ob,h,n⟩=>⟨ob,by rw[Af<|Ne.symm nab];exact h,n⟩),q l _ (λx o e=>?_) nl ?_⟩
  .by_cases xb:x=b
   .rw[xb,Ae,<-hb,<-xb,e]
   .rw[Af xb];by_cases xa:x=a
    .rw[xa,Ae,<-ha,<-xa,e]
    .rw[Af xa];exact k1 x o xa xb e
  .rw[Af<|Ne.symm bl,Af<|Ne.symm al];exact fl
noncomputable def Fa(d:BL)(lines:Int):List Int:=(d.filter λp=>og<|Builtin.bitAnd p.1 lines=0).map (·.2)
theorem Os{a:jF}{ob:PySem.Obj}{d:BL}{g:TG}{tc:TT}{te:TE}{B:St}{H1:Hp}{acc:jF}{Qr:Hp->Prop}(Pv:Nat->LUz->St->Hp->Prop)(h0:Pv 0 [] B<|upd H1 acc<|.lst [])
  (hq:∀i xs B H,i<=d.length->H acc=O (.lst xs)->Pv i xs B H->H a=O (.frz ob<|.dK<|kvB d))
  (hs:∀i (p:Int×Int) t xs B H,d[i]?=O p->i<d.length->xs.length<=i->H acc=O (.lst xs)->Pv i xs B H->H t=Y->g (.ref t) B (upd H t<|.tup [.int p.1,.int p.2]) λσ2 H2=>tc σ2 H2 λb Hb=>match b with
   |true=>te σ2 Hb λv H3=>fNx acc (kvB d).length Pv i σ2 v H3
   |false=>fSk acc (kvB d).length Pv i σ2 Hb)
  (hd:∀xs B H,xs.length<=d.length->H acc=O (.lst xs)->Pv d.length xs B H->Qr H):
  ∃W:Nat->Nat->St->Hp->Prop,(∃m,W 0 m B<|upd H1 acc<|.lst [])/\∀i m σ1 H2,W i m σ1 H2 ->
   ((Itm a ob).stop i H2/\Qr H2)\/((Itm a ob).go i H2/\∀x H3,(Itm a ob).yld i H2 x H3->g x σ1 H3 λσ4 H4=>tc σ4 H4 λb Hb=>match b with
    |true=>te σ4 Hb λv H5=>∃xs,H5 acc=O (.lst xs)/\xs.length<jU/\∃m',m'<m/\W (i+1) m' σ4 (upd H5 acc<|.lst<|xs++[v])
    |false=>∃m',m'<m/\W (i+1) m' σ4 Hb):=by
 have kl:=Ei d;refine Oq (kvs:=kvB d) Pv h0 (λi xs B H h=>hq i xs B H (by rw[<-kl];exact h)) (λi p t xs B H hp hi hx ha pv nt=>?_) (λxs B H hx ha pv=>hd xs B H (by rw[<-kl];exact hx) ha (by rw[<-kl];exact pv));obtain⟨q,hq',rfl⟩:=QB hp;exact hs i q t xs B H hq' (by rw[<-kl];exact hi) hx ha pv nt
theorem HY{f:jF}{fd:jM}(F:Fun K "rows_without" "rows_without" CL f fd)(T:Txt mg tk):A8 P w K mg jD CX0 1 f fd mz CI:=by
 have S:Al mz mz (Ah CL):=fsk;refine F.g S ?_;rintro vs H Q E ⟨a,as,lines,rfl,ha,la,q⟩;refine⟨Z,λcdv A jz s hr=>?_⟩;refine⟨_,(Ag<|Aq<|Bg JZ T.z_sum<|Aj<|Qz<|Cm Z (Jh Ai) (λ_ _ _ _ _=>(Dk (K:=K) (n:=2) Z<|Au (AD (i:=0) (nk nP) Z<|bq Z)<|Au (AD (i:=1) (nk nP) Z<|bq Z) AY)) (λ_ _ _ _ _=>(A5 Bu (Ao GJ Ai Ap) Ab)) (λ_ _ _ _ _=>Ak) (N:=nP) (fr:=[Y,Y,O 1])),?_⟩;refine⟨_,Z,a,_,Z,ha,λoa acc jE=>?_⟩;have na:a≠acc:=λz=>by rw[<-z,Ae]at jE;cases jE
 refine Os (a:=a) (ob:=oa) (d:=as) (λi zs B H'=>(∃x y,B=[x,y,O<|.int lines])/\(∀x o,x≠a->H x=O o->H' x=O o)/\H' a=O (.frz oa<|.dK<|kvB as)/\zs=(Fa (as.take i) lines).map V.int) ⟨⟨_,_,Z⟩,λx o xa e=>?_,by rw[Af na,Ae],Z⟩ (λi xs B H' _ _ hp=>hp.2.2.1) ?_ ?_
 .rw[Af (λz=>by rw[<-z,Af xa,e]at jE;cases jE),Af xa];exact e
 .rintro i p t zs B H1 hp hi hz ha1 ⟨⟨x,y,rfl⟩,k1,fa,rfl⟩ nt;refine nv nt λH2 s2 e2=>?_;have tk:(as.take<|i+1)=as.take i++[p]:=by rw[aN,hp];rfl
  have a2:=s2 _ _ ha1;have hi':i<(kvB as).length:=by rw[Ei];exact hi
  have kw:Fa (as.take<|i+1) lines=Fa (as.take i) lines++Fa [p] lines:=by
   rw[tk];unfold Fa;rw[bt,af]
  refine⟨t,_,Z,SqT.of e2,Z,_,_,Z,_,_,Z,Z,_,Z,_,Z,_,_,Z,Z,Z,_,Z,?_⟩;by_cases c:Builtin.bitAnd p.1 lines=0
  .rw[jI (show V.int (Builtin.bitAnd p.1 lines)=V.int 0 by rw[c])];refine⟨_,Z,fNx.mk (aK<|An (by rw[Ei];lia)) hi' hz a2 ⟨⟨_,_,Z⟩,λx o xa e=>?_,?_,?_⟩⟩
   .rw[Af (λz=>by rw[z]at e;rw[Af<|Ne.symm na,e]at jE;cases jE)];exact s2 _ _<|k1 x o xa e
   .rw[Af na];exact s2 _ _ fa
   .rw[kw,af];unfold Fa;rw[fD<|by exact jI c];rfl
  .rw[jR (show ¬V.int (Builtin.bitAnd p.1 lines)=V.int 0 from λz=>c<|V.int.inj z)];refine fSk.mk hi' hz a2 ⟨⟨_,_,Z⟩,λx o xa e=>s2 _ _<|k1 x o xa e,s2 _ _ fa,?_⟩;have:Fa [p] lines=[]:=by unfold Fa;rw[fE (by rw[jO];exact c)];rfl
   rw[kw,this,aJ]
 .rintro zs B H1 hz ha1 ⟨⟨x,y,rfl⟩,k1,fa,rfl⟩;rw[aI]at ha1;refine⟨a,oa,_,fa,(λo w z=>by have z:H a=O (.frz o w):=z;rw[ha]at z;cases z),acc,_,Z,SqL.of (by rw[Af<|Ne.symm na];exact ha1),Z,q _ λx o e=>?_⟩;by_cases xa:x=a
  .rw[xa,Ae,<-ha,<-xa,e]
  .rw[Af xa];exact k1 x o xa e
noncomputable def stripT:List ((Int×Int)×BL):=[((1,1),[(0,1)]),((1,2),[(0,1)]),((2,1),[(0,1),(1,1)]),((1,3),[(0,1)]),((2,2),[(0,1),(1,3)]),((3,1),[(0,1),(1,1),(2,1),(3,1)]),((1,4),[(0,1)]),((2,3),[(0,1),(1,9)]),((3,2),[(0,1),(1,5),(2,5),(3,7)]),((4,1),[(0,1),(1,1),(2,1),(3,1),(4,1),(5,1),(6,1),(7,1)]),((2,4),[(0,1),(1,27)]),((3,3),[(0,1),(1,31),(2,31),(3,49)]),((4,2),[(0,1),(1,11),(2,7),(3,13),(4,11),(5,13),(6,13),(7,15)]),((3,4),[(0,1),(1,217),(2,217),(3,343)]),((4,3),[(0,1),(1,177),(2,85),(3,199),(4,177),(5,199),(6,199),(7,225)]),((4,4),[(0,1),(1,3183),(2,1471),(3,3265),(4,3183),(5,3265),(6,3265),(7,3375)])]
noncomputable def A0(l t:Int):BL:=(stripT.lookup (l,t)).getD []
noncomputable def Aw(parts:List Int)(jA:Int):BL:=parts.foldl (λf p=>QF f<|A0 jA p) [(B7 jA,1)]
def StAt(H:Hp)(st:jF)(ok:Int->Int->Prop):Prop:=∃kvs:LKz,H st=O (.dT kvs)/\∀l t,ok l t->∃d,Bo kvs [Sum.inl l,Sum.inl t]=O (.ref d)/\H d=O (.dK<|kvB<|A0 l t)
theorem StAt.same{H H':Hp}{st:jF}{ok:Int->Int->Prop}(h:StAt H st ok)(s:Same H H'):StAt H' st ok:=by
 obtain⟨kvs,e,h⟩:=h;exact⟨kvs,s _ _ e,λl t o=>let ⟨d,e1,e2⟩:=h l t o;⟨d,e1,s _ _ e2⟩⟩
inductive Kl(vs:LUz)(H:Hp)(Q:VK)(E:XK):Prop
 |mk (st l:jF) (ps:List Int) (jA:Int) (h0:vs=[.ref st,.ref l,.int jA]) (h1:1<=jA) (h2:jA<=4) (h3:H l=O (.lst<|ps.map V.int)) (h4:(∀p∈ps,1<=p/\p<=4)) (h5:StAt H st λa b=>a=jA/\b∈ps) (h6:∀d H',Same H H'->H d=Y->H' d=O (.dK<|kvB<|Aw ps jA)->Q (.ref d) H'):Kl vs H Q E
def CG:Sp:=λvs H Q E=>Kl vs H Q E
def KOk(d:BL):Prop:=(d.map (·.1)).Nodup/\∀p∈d,0<=p.1/\p.1<8
theorem KOk.len{d:BL}(h:KOk d):d.length<=8:=by
 have:=Hy 8 (d.map (·.1)) h.1 λx hx=>by
  obtain⟨p,hp,rfl⟩:=ao.mp hx;exact h.2 p hp
 rw[aa]at this;exact this
theorem Zj:∀a b:Fin 8,0<=Builtin.bitAnd (a.val:Int) (b.val:Int)/\Builtin.bitAnd (a.val:Int) (b.val:Int)<8:=by decide +kernel
theorem Ni{a b:Int}(a0:0<=a)(a1:a<8)(b0:0<=b)(b1:b<8):0<=Builtin.bitAnd a b/\Builtin.bitAnd a b<8:=by
 have:=Zj ⟨a.toNat,by lia⟩ ⟨b.toNat,by lia⟩;rw[show((a.toNat:Nat):Int)=a by lia,show((b.toNat:Nat):Int)=b by lia]at this;exact this
theorem KOk.put{d:BL}(h:KOk d){k v:Int}(k0:0<=k)(k1:k<8):KOk (Je d k v):=by
 unfold Je;split
 .refine⟨?_,λp hp=>?_⟩
  .rw[aA,show((λp:Int×Int=>p.1)∘λp:Int×Int=>if p.1=k then(p.1,v)else p)=λp=>p.1 from funext λp=>by show(if p.1=k then(p.1,v)else p).1=p.1;split<;>rfl];exact h.1
  .obtain⟨q,hq,rfl⟩:=ao.mp hp;have:=h.2 q hq;split<;>exact this
 .rename_i c;refine⟨?_,λp hp=>?_⟩
  .rw[af];refine List.nodup_append.mpr ⟨h.1,cu.mpr ⟨(λz=>nomatch z),dh⟩,λx hx y hy e=>c ?_⟩;obtain⟨q,hq,rfl⟩:=ao.mp hx;rw[ae.mp hy]at e;exact bL.mpr ⟨q,hq,jI e⟩
  .rcases aw.mp hp with hp|hp
   .exact h.2 p hp
   .rw[ae.mp hp];exact⟨k0,k1⟩
theorem KOk.row{bs:BL}(hb:∀p∈bs,0<=p.1/\p.1<8){a:Int×Int}(a0:0<=a.1)(a1:a.1<8){f:BL}(h:KOk f):KOk (BW bs f a):=by
 unfold BW
 induction bs generalizing f with
 |nil=>exact h
 |cons b r ih=>
  have hb0:=hb b aE;have:=Ni a0 a1 hb0.1 hb0.2;exact ih (λp hp=>hb p<|aF _ hp)<|h.put this.1 this.2
theorem KOk.com{bs:BL}(hb:∀p∈bs,0<=p.1/\p.1<8):∀{as f:BL},(∀p∈as,0<=p.1/\p.1<8)->KOk f->KOk (as.foldl (BW bs) f)
 |[],f,_,h=>h
 |a::r,f,ha,h=>KOk.com hb (as:=r) (λp hp=>ha p<|aF _ hp)<|h.row hb (ha a aE).1 (ha a aE).2
theorem FP{α:Type}{k:Int×Int}{v:α}:∀{l:List<|(Int×Int)×α},l.lookup k=O v->(k,v)∈l
 |[],h=>by cases h
 | (k',v')::r,h=>by
  rw[ba]at h;by_cases e:k=k'
  .rw[show(k==k')=nZ by rw[e];exact beq_self_eq_true _]at h;cases h;rw[e];exact aE
  .rw[show(k==k')=oe from beq_eq_false_iff_ne.mpr e]at h;exact aF _<|FP h
theorem R4:stripT.all (λe=>e.2.all (λp=>og (0<=p.1)&&og (p.1<8)&&(og (0<=p.2)&&og (p.2<=1000000000)))&&og (e.2.length<=8))=nZ:=by decide +kernel
theorem BO(l t:Int):(∀p∈A0 l t,(0<=p.1/\p.1<8)/\0<=p.2/\p.2<=1000000000)/\(A0 l t).length<=8:=by
 unfold A0;cases e:stripT.lookup (l,t)with
 |none=>exact⟨λp hp=>(nomatch hp),aU _⟩
 |some d=>
  have hm:((l,t),d)∈stripT:=FP e;have:=az.mp R4 _ hm;rw[av]at this;refine⟨λp hp=>?_,jY this.2⟩;have:=az.mp this.1 p hp;rw[av,av,av,jO,jO,jO,jO]at this;exact this
theorem G1{n:Int}(n1:1<=n)(n4:n<=4):0<=B7 n/\B7 n<8:=by
 obtain⟨k,hk,rfl⟩:∃k:Nat,k<5/\n=k:=⟨n.toNat,by lia,by lia⟩
 match k,hk,n1 with
 |1,_,_=>decide
 |2,_,_=>decide
 |3,_,_=>decide
 |4,_,_=>decide
 |0,_,h=>lia
theorem Dh{jA:Int}(n1:1<=jA)(n4:jA<=4)(ps:List Int):KOk (Aw ps jA):=by
 unfold Aw;have h0:KOk [(B7 jA,1)]:=⟨cu.mpr ⟨(λz=>nomatch z),dh⟩,λp hp=>by rw[ae.mp hp];exact G1 n1 n4⟩;have:∀(ps:List Int)(f:BL),KOk f->KOk (ps.foldl (λf p=>QF f<|A0 jA p) f):=λps=>by
  induction ps with
  |nil=>exact λf h=>h
  |cons p r ih=>exact λf h=>ih _ (KOk.com (λq hq=>((BO jA p).1 q hq).1) h.2 ⟨dh,λq hq=>(nomatch hq)⟩)
 exact this ps _ h0
noncomputable abbrev U4:LSz:=["strips","parts","thick","found","part"]
theorem GL{f:jF}{fd:jM}(F:Fun K "rows_by_lines" "rows_by_lines" Cs f fd)(gc:Ar P w K mg jD 1 "all_lines" mf Gd)(iS:Ar P w K mg jD 1 "in_common" nO KO):A8 P w K mg jD CX0 2 f fd mB CG:=by
 have S:Al U4 mB (Ah Cs):=fsk;refine F.g S ?_;rintro vs H Q E ⟨st,l,ps,jA,rfl,t1,t4,hl,p4,sa,q⟩;refine⟨Z,λcdv A jz s hr=>?_⟩;have hu:=Ew hr;refine⟨_,(Ac (Az 3 S.nd<|Q2 (N9 (Am gc hr<|Aj Ap) Ab Qx) Z Z (by decide)<|by decide)
  (Ac (AF PassesOwn.never Z (AA Ak) (AS 4 S.nd)<|Ag<|Az 3 S.nd<|Am iS hr<|Aa A2<|Aj<|Ec hu Ai<|A4<|Aa Ap<|Aj AE)
  (Ag<|Aq A2))),?_⟩
 refine λd nd=>⟨_,Z,jA,Z,t1,t4,Ae,[(Sum.inl<|B7 jA,.int 1)],Z,(show 1<=15 by decide),?_⟩;rw[Mb,show FO [] [((Sum.inl (B7 jA):Key),V.int 1)]=kvB [(B7 jA,1)]from rfl];refine nv nd λH0 s0 e0=>?_;refine⟨_,Z,l,Z,⟨_,SqL.of<|s0 _ _ hl⟩,Bn (K:=K) (a:=l) (xs:=ps.map V.int) (λi B H'=>∃(y4:Option V)(dd:jF),B=[O<|.ref st,O<|.ref l,O<|.int jA,O<|.ref dd,y4]/\Same H H'/\H dd=Y/\H' dd=O (.dK<|kvB<|Aw (ps.take i) jA)) ⟨_,d,Z,s0,nd,e0⟩ (λi B H' _ hp=>by obtain⟨_,_,_,s',_⟩:=hp;exact SqL.of<|s' _ _ hl) ?_ ?_⟩
 .rintro i v B H1 hv ⟨y4,dd,rfl,s1,ndd,hdd⟩;obtain⟨p,hp,rfl⟩:=ints_get hv;have pm:=ak hp;obtain⟨kvs,hst,hs⟩:=sa;obtain⟨sd,v1,v2⟩:=hs jA p ⟨Z,pm⟩;have tk:Aw (ps.take<|i+1) jA=QF (Aw (ps.take i) jA) (A0 jA p):=by
   unfold Aw;rw[aN,hp,cx];rfl
  refine⟨_,Z,_,Z,_,Z,_,Z,Ay 2,λt nt=>?_⟩;refine nv nt λH2 s2 e2=>?_;have s02:=s1.trans s2;have dg:DGet H2 st (.ref t) (O<|.ref sd):=by
   have:=DGet.t (H:=H2) (a:=st) (b:=t) (k:=[Sum.inl jA,Sum.inl p]) (s02 _ _ hst) e2;rw[v1]at this;exact this
  refine⟨st,_,Z,dg,dd,sd,Aw (ps.take i) jA,A0 jA p,Z,s2 _ _ hdd,s02 _ _ v2,(λz=>by rw[z,v2]at ndd;cases ndd),(Dh t1 t4 _).len,(BO jA p).2,λq hq=>((BO jA p).1 q hq).2,λd3 H3 s3 n3 h3=>⟨_,d3,Z,s02.trans s3,Lh s02 n3,by rw[tk];exact h3⟩⟩
 .rintro B H1 ⟨y4,dd,rfl,s1,ndd,hdd⟩;rw[aa,aI]at hdd;exact⟨_,Z,q dd H1 s1 ndd hdd⟩
noncomputable def PQ(l t:Int):BL:=(List.range (B7 l).toNat).foldl (λf (i:Nat)=>Je f ((i:Int)+1)<|A3 (Aw (Ax ((i:Int)+1) (l-1).toNat) t)<|B7 t) [(0,1)]
inductive Kk(vs:LUz)(H:Hp)(Q:VK)(E:XK):Prop
 |mk (st:jF) (l t:Int) (h0:vs=[.ref st,.int l,.int t]) (h1:1<=l) (h2:l<=4) (h3:1<=t) (h4:t<=4) (h5:StAt H st λa b=>a=t/\1<=b/\b<l) (h6:∀d H',Same H H'->H d=Y->H' d=O (.dK<|kvB<|A0 l t)->Q (.ref d) H'):Kk vs H Q E
def KL:Sp:=λvs H Q E=>Kk vs H Q E
theorem R1:∀l t:Fin 5,0<l.val->0<t.val->PQ (l.val:Int) (t.val:Int)=A0 l.val t.val:=by decide +kernel
theorem Rz{l t:Int}(l1:1<=l)(l4:l<=4)(t1:1<=t)(t4:t<=4):PQ l t=A0 l t:=by
 have:=R1 ⟨l.toNat,by lia⟩ ⟨t.toNat,by lia⟩ (by show 0<l.toNat;lia) (by show 0<t.toNat;lia);rw[show((l.toNat:Nat):Int)=l by lia,show((t.toNat:Nat):Int)=t by lia]at this;exact this
theorem RH:∀(l:Fin 5)(i:Fin 8),0<l.val->(i.val:Int)<B7 l.val->∀p∈Ax ((i.val:Int)+1) ((l.val:Int)-1).toNat,1<=p/\p<l.val:=by decide +kernel
theorem Tl{l:Int}{i:Nat}(l1:1<=l)(l4:l<=4)(hi:(i:Int)<B7 l):∀p∈Ax ((i:Int)+1) (l-1).toNat,1<=p/\p<l:=by
 have a8:=G1 l1 l4;have:=RH ⟨l.toNat,by lia⟩ ⟨i,by lia⟩ (by show 0<l.toNat;lia) (by show(i:Int)<B7 (l.toNat:Int);rw[show((l.toNat:Nat):Int)=l by lia];exact hi);rw[show((l.toNat:Nat):Int)=l by lia]at this;exact this
noncomputable abbrev VE:LSz:=["strips","length","thick","found","lines","by_lines"]
theorem Fy{g:Nat->Int}{k:Nat->Int}:∀(n:Nat)(f:BL),((List.range n).foldl (λf i=>Je f (k i)<|g i) f).length<=f.length+n
 |0,f=>ah _
 |n+1,f=>by
  rw[bA,cx];have h1:=Fy (g:=g) (k:=k) n f;have h2:=Qu ((List.range n).foldl (λf i=>Je f (k i)<|g i) f) (k n)<|g n;exact aV h2 (by lia)
theorem Gn{f:jF}{fd:jM}(F:Fun K "strips_of_size" "strips_of_size" Cc f fd)(T:Txt mg tk)(gc:Ar P w K mg jD 1 "all_lines" mf Gd)(fY:Ar P w K mg jD 1 "parts_between" my DC)(fZ:Ar P w K mg jD 2 "rows_by_lines" mB CG)(gj:Ar P w K mg jD 1 "rows_without" mz CI):A8 P w K mg jD CX0 3 f fd nQ KL:=by
 have S:Al VE nQ (Ah Cc):=fsk;refine F.g S ?_;rintro vs H Q E ⟨st,l,t,rfl,l1,l4,t1,t4,sa,q⟩;refine⟨Z,λcdv A jz s hr=>?_⟩;have hu:=Ew hr;have a8:=G1 l1 l4;refine⟨_,(Ac (Az 3 S.nd<|Q2 (N9 Ab Ab Qx) Z Z (by decide)<|by decide)
  (Ac (AF PassesOwn.never Z (AV Z T.z_range<|Aa Ab<|Aj<|Ao A7 (Am gc hr<|Aj Ak) Ab) (AS 4 S.nd)<|Ac (Az 5 S.nd<|Am fZ hr<|Aa Ai<|Aa (Am fY hr<|Aa AE<|Aj Ak)<|Aj Ap)
  (Ag<|Gh hu A2 AE (Am gj hr<|Aa AX<|Aj<|Am gc hr<|Aj Ap) Z))
  (Ag<|Aq A2))),?_⟩
 refine λd nd=>⟨Ae,[(Sum.inl 0,.int 1)],Z,(show 1<=15 by decide),?_⟩;rw[Mb,show FO [] [((Sum.inl 0:Key),V.int 1)]=kvB [(0,1)]from rfl];refine nv nd λH0 s0 e0=>?_;refine⟨_,Z,l,Z,l1,l4,_,_,Z,Z,1,B7 l+1,Z,⟨by lia,by lia,by lia,by lia⟩,?_⟩;refine AT (lo:=1) (n:=(B7 l+1-1).toNat) (λi B H'=>∃(y4 y5:Option V),B=[O<|.ref st,O<|.int l,O<|.int t,O<|.ref d,y4,y5]/\Same H H'/\H' d=O (.dK<|kvB<|(List.range i).foldl (λf (i:Nat)=>Je f ((i:Int)+1)<|A3 (Aw (Ax ((i:Int)+1) (l-1).toNat) t)<|B7 t) [(0,1)])) ⟨_,_,Z,s0,e0⟩ ?_ ?_
 .rintro i B H1 hi ⟨y4,y5,rfl,s1,h1⟩;have hia:(i:Int)<B7 l:=by lia
  have pin:=Tl (i:=i) l1 l4 hia;rw[show(1:Int)+(i:Int)=(i:Int)+1 by lia];refine⟨_,Z,_,Z,_,Z,(i:Int)+1,l,Z,l1,l4,λlp H2 s2 n2 h2=>⟨_,Z,st,lp,_,t,Z,t1,t4,h2,λp hp=>⟨(pin p hp).1,by have:=(pin p hp).2;lia⟩,?_,λdr H3 s3 n3 h3=>?_⟩⟩
  .obtain⟨kvs,hst,hs⟩:=sa;exact⟨kvs,(s1.trans s2) _ _ hst,λa b ⟨ea,hb⟩=>let ⟨sd,v1,v2⟩:=hs a b ⟨ea,pin b hb⟩;⟨sd,v1,(s1.trans s2) _ _ v2⟩⟩
  .have s13:=s1.trans<|s2.trans s3;refine⟨_,Z,_,Z,t,Z,t1,t4,dr,_,B7 t,Z,h3,aV (Dh t1 t4 _).len (by decide),λH4 s4=>?_⟩;have h4:=(s2.trans<|s3.trans s4) _ _ h1;refine⟨_,Z,_,Z,d,_,Z,DPut.k (k:=Sum.inl<|(i:Int)+1) h4 (An (by rw[Ei];exact aV (Fy i [(0,1)]) (by show 1+i<=1000;lia))),_,_,Z,λx o e=>?_,?_⟩
   .rw[Af<|Ad e nd];exact(s13.trans s4) _ _ e
   .rw[Ae,TJ,bA,cx];rfl
 .rintro B H1 ⟨y4,y5,rfl,s1,h1⟩;rw[show(B7 l+1-1).toNat=(B7 l).toNat by lia]at h1;exact⟨_,Z,q d H1 s1 nd (by rw[<-Rz l1 l4 t1 t4];exact h1)⟩
theorem Yb{a b:Int}(h0:0<=a)(h1:a<=1000000000):IntMulOk a b:=IntMulOk.of_left (by
 unfold Builtin.Int.intBits;split
 .exact aU _
 .have:a.natAbs.log2<30:=(Nat.log2_lt (by intro z;simp_all)).mpr (by lia);lia)
noncomputable def Xf(fs lt:BL)(jB:Int)(i:Nat):Int:=(C5 fs (i:Int)).getD 0*A3 lt (Builtin.bitAnd jB (i:Int))
noncomputable def AB(fs lt:BL)(jB:Int)(n:Nat):Int:=((List.range n).map<|Xf fs lt jB).sum
inductive Kr(vs:LUz)(H:Hp)(Q:VK)(E:XK):Prop
 |mk (a b:jF) (fs lt:BL) (jB:Int) (n:Nat) (h0:vs=[.ref a,.ref b,.int jB,.int n]) (h1:H a=O (.dK<|kvB fs)) (h2:H b=O (.dK<|kvB lt)) (h3:lt.length<=8) (h4:n<=8) (h5:(∀i:Nat,i<n->∃v,C5 fs (i:Int)=O v/\0<=v/\v<=1000000000)) (h6:∀H',Same H H'->Q (.int<|AB fs lt jB n) H'):Kr vs H Q E
def G9:Sp:=λvs H Q E=>Kr vs H Q E
noncomputable abbrev Ow:LSz:=ni
theorem Jn{f:jF}{fd:jM}(F:Fun K "rows_before" "rows_before" Dp f fd)(T:Txt mg tk)(gj:Ar P w K mg jD 1 "rows_without" mz CI):A8 P w K mg jD CX0 2 f fd ni G9:=by
 have S:Al Ow Ow (Ah Dp):=fsk;refine F.g S ?_;rintro vs H Q E ⟨a,b,fs,lt,jB,n,rfl,ha,hb,lb,n8,al,q⟩;refine⟨Z,λcdv A jz s hr=>?_⟩;have hu:=Ew hr;refine⟨_,(Ag<|Aq<|Bg JZ T.z_sum<|Aj<|B9 Z (Cg Z T.z_range<|Aj A2) (λ_ _ _ _ _=>pgk<|nk ["less","firsts","later","common"]) (λ_ _ _ _ _=>(Ao CC (Ec hu Ak Ai)<|Am gj hr<|Aa Ap<|Aj<|Ao GJ A2 Ai)) (N:=["less","firsts","later","common"]) (fr:=[Y,O 0,O 1,O 2])),?_⟩;refine⟨_,Z,n,Z,by lia,by lia,λacc jE=>Eo (lo:=0) (n:=(n:Int).toNat) (λi zs B H'=>(∃x,B=[x,O<|.ref a,O<|.ref b,O<|.int jB])/\Same H H'/\zs=((List.range i).map<|Xf fs lt jB).map V.int) ⟨⟨_,Z⟩,Same.new jE,Z⟩ ?_ ?_⟩
 .rintro i zs B H1 hi hl ha1 ⟨⟨x,rfl⟩,s1,rfl⟩;rw[bF];obtain⟨v,hv,v0,v1⟩:=al i (by lia);have dg:DGet H1 a (.int (i:Int)) (O<|.int v):=by
   have:=DGet.k (H:=H1) (k:=Sum.inl (i:Int))<|s1 _ _ ha;rw[TF,hv]at this;exact this
  refine⟨_,Z,_,Z,a,_,Z,dg,_,Z,_,Z,_,Z,_,_,Z,Z,b,lt,Builtin.bitAnd jB (i:Int),Z,s1 _ _ hb,by lia,λH2 s2=>⟨_,_,Z,Z,Yb v0 v1,?_⟩⟩;refine cNx.mk (aK<|An<|by lia) hi hl (s2 _ _ ha1) ⟨⟨_,Z⟩,λx o e=>?_,?_⟩
  .rw[Af<|Ad e jE];exact s2 _ _<|s1 _ _ e
  .rw[bA,af,af];show _=_++[V.int<|(C5 fs (i:Int)).getD 0*A3 lt (Builtin.bitAnd jB (i:Int))];rw[hv];rfl
 .rintro zs B H1 hl ha1 ⟨_,s1,rfl⟩;rw[bV]at ha1;exact⟨acc,_,Z,SqL.of ha1,Z,q H1 s1⟩
noncomputable def JR(fs lt:BL)(jB number:Int):Nat->Nat->Option Nat
 |0,_=>Y
 |k+1,n=>if n<fs.length then(if AB fs lt jB (n+1)<=number then JR fs lt jB number k (n+1)else O n)else Y
noncomputable def Ef(b:Int)(q:P4):P4:=(q.2.1,b+q.1,q.2.2.2,b+q.2.2.1)
noncomputable def GG(sb:Int->Int->Nat->Int->Option (List P4))(jA:Int):List Int->Int->Int->Int->Option (List P4)
 |[],_,_,_=>O []
 |p::rest,jB,number,b=>(JR (A0 jA p) (Aw rest jA) jB number 9 0).bind λn=>
  if 0<A3 (Aw rest jA) (Builtin.bitAnd jB n)/\A3 (Aw rest jA) (Builtin.bitAnd jB n)<=1000000000 then
   (sb jA p n<|(number-AB (A0 jA p) (Aw rest jA) jB n) / A3 (Aw rest jA) (Builtin.bitAnd jB n)).bind λps=>
    (GG sb jA rest (Builtin.bitAnd jB n) ((number-AB (A0 jA p) (Aw rest jA) jB n) % A3 (Aw rest jA) (Builtin.bitAnd jB n))<|b+p).map λr=>ps.map (Ef b)++r
  else Y
noncomputable def Bd:Nat->Int->Int->Nat->Int->Option (List P4)
 |0,_,_,_,_=>Y
 |k+1,a,b,n,number=>if n=0 then O [(0,0,b,a)]else GG (Bd k) b (Ax n (a-1).toNat) (B7 b) number 0
def PnL(H:Hp)(l:jF)(out:List P4):Prop:=∃ts:List<|jF×P4,H l=O (.lst<|A1 ts)/\(∀t∈ts,H t.1=O (.tup<|OI t.2))/\ts.map (·.2)=out
theorem PnL.same{H H':Hp}{l:jF}{out:List P4}(h:PnL H l out)(s:Same H H'):PnL H' l out:=by
 obtain⟨ts,a,b,c⟩:=h;exact⟨ts,s _ _ a,λt ht=>s _ _<|b t ht,c⟩
def InM(m:Int)(a b:Int):Prop:=1<=a/\a<=m/\1<=b/\b<=m
inductive HJ(k:Nat)(vs:LUz)(H:Hp)(Q:VK)(E:XK):Prop
 |mk (st sz:jF) (a b m:Int) (n:Nat) (number:Int) (out:List P4) (h0:vs=[.ref st,.ref sz,.int n,.int number]) (h1:H sz=O (.tup [.int a,.int b])) (h2:m<=4) (h3:InM m a b) (h4:StAt H st<|InM m) (h5:n<=7) (h6:Bd k a b n number=O out) (h7:out.length<=100) (h8:∀l H',Same H H'->H l=Y->PnL H' l out->Q (.ref l) H'):HJ k vs H Q E
def Ca(k:Nat):Sp:=λvs H Q E=>HJ k vs H Q E
inductive LJ(k:Nat)(vs:LUz)(H:Hp)(Q:VK)(E:XK):Prop
 |mk (st l:jF) (ps:List Int) (jA m jB number:Int) (out:List P4) (h0:vs=[.ref st,.ref l,.int jA,.int jB,.int number]) (h1:H l=O (.lst<|ps.map V.int)) (h2:m<=4) (h3:(∀p∈ps,InM m jA p)) (h4:StAt H st<|InM m) (h5:ps.length<=4) (h6:GG (Bd k) jA ps jB number 0=O out) (h7:out.length<=100) (h8:∀l' H',Same H H'->H l'=Y->PnL H' l' out->Q (.ref l') H'):LJ k vs H Q E
def E8(k:Nat):Sp:=λvs H Q E=>LJ k vs H Q E
theorem OP:stripT.all (λe=>(List.range e.2.length).all λi=>(C5 e.2 (i:Int)).isSome)=nZ:=by decide +kernel
theorem JJ{d:BL}{k v:Int}(h:C5 d k=O v):(k,v)∈d:=by
 unfold C5 at h;obtain⟨p,hp,rfl⟩:=bc.mp h;have:=List.find?_some hp;have e:p.1=k:=jY this;rw[<-e];exact fu hp
theorem G6{l t:Int}{i:Nat}(h:i<(A0 l t).length):∃v,C5 (A0 l t) (i:Int)=O v/\0<=v/\v<=1000000000:=by
 have so:=(BO l t).1;unfold A0 at h so |-;cases e:stripT.lookup (l,t)with
 |none=>rw[e]at h;cases h
 |some d=>
  rw[e]at h so;have:=az.mp (az.mp OP _<|FP e) i<|aO.mpr h;obtain⟨v,hv⟩:=dv.mp this;exact⟨v,hv,(so _<|JJ hv).2⟩
theorem Oo{ps:List Int}{i:Nat}:MW (ps.map V.int) (O<|(i:Int)+1) Y=(ps.drop<|i+1).map V.int:=by
 unfold MW;rw[<-List.map_drop,<-List.map_take,aa];unfold HT.sIx;simp only[];rw[jK<|by lia];have e:min ((i:Int)+1).toNat ps.length=min (i+1) ps.length:=by rw[show((i:Int)+1).toNat=i+1 by lia]
 rw[e];congr 1;by_cases h:i+1<=ps.length
 .rw[Nat.min_eq_left h,fG (by rw[eW];lia)]
 .rw[Nat.min_eq_right (by lia),b5,List.drop_eq_nil_of_le (by lia),List.take_nil]
noncomputable abbrev Nj:LSz:=["strips","parts","thick","common","number","panes","begin","place","part","firsts","later","lines","rest","strip"]
theorem RI{f:jF}{fd:jM}{k:Nat}(F:Fun K "row_by" "row_by" CM f fd)(T:Txt mg tk)(fZ:Ar P w K mg jD 2 "rows_by_lines" mB CG)(gv:Ar P w K mg jD 2 "rows_before" ni G9)(gj:Ar P w K mg jD 1 "rows_without" mz CI)(jn:Ar P w K mg jD (2*k+3) "strip_by" mC<|Ca k):A8 P w K mg jD CX0 (2*k+4) f fd mF (E8 k):=by
 have S:Al Nj mF (Ah CM):=fsk;refine F.g S ?_;rintro vs H Q E ⟨st,l,ps,jA,m,jB,number,out,rfl,hl,m4,pm,sa,p4,hrow,few,q⟩;refine⟨Z,λcdv A jz s hr=>?_⟩;have hu:=Ew hr;obtain⟨tA,hA,kA⟩:∃rd,PSs (Bx CX0 P w K mg jD Nj "row_by" (Ah CM) f cdv A jz s H E).nox ((MO<|nth (A9 CM) 2).drop 4) rd/\∀(jB number b p:Int)(n:Nat)(rest:List Int)(fa la pl:jF)(acc ps':List P4)(w1 w7 w12 w13:Option V)(D:E4)(H1:Hp),Same H H1->H pl=Y->InM m jA p->H1 fa=O (.dK<|kvB<|A0 jA p)->H1 la=O (.dK<|kvB<|Aw rest jA)->PnL H1 pl acc->n<(A0 jA p).length->0<A3 (Aw rest jA) (Builtin.bitAnd jB n)->A3 (Aw rest jA) (Builtin.bitAnd jB n)<=1000000000 ->
   Bd k jA p n ((number-AB (A0 jA p) (Aw rest jA) jB n) / A3 (Aw rest jA) (Builtin.bitAnd jB n))=O ps'->acc.length+ps'.length<=100 ->
   (∀w12 w13 H',Same H H'->PnL H' pl (acc++ps'.map (Ef b))->D.nx [O<|.ref st,w1,O<|.int jA,O<|.int<|Builtin.bitAnd jB n,O<|.int<|(number-AB (A0 jA p) (Aw rest jA) jB n) % A3 (Aw rest jA) (Builtin.bitAnd jB n),O<|.ref pl,O<|.int<|b+p,w7,O<|.int p,O<|.ref fa,O<|.ref la,O<|.int n,w12,w13] H') ->
   rd D [O<|.ref st,w1,O<|.int jA,O<|.int jB,O<|.int number,O<|.ref pl,O<|.int b,w7,O<|.int p,O<|.ref fa,O<|.ref la,O<|.int n,w12,w13] H1:=by
  refine⟨_,(Ac (CW (i:=4) S.nd Z (bq Z) (Am gv hr (Aa (pv 9)<|Aa (pv 10)<|Aa A2<|Aj Cf)<|by lia) Px)
  (Ac (Az 3 S.nd<|Ao GJ A2 Cf)
  (Ac (Az 12 S.nd<|Am gj hr (Aa (pv 10)<|Aj A2)<|by lia)
  (Ac (Az 13 S.nd<|Am jn hr (Aa Ai<|Aa (A4<|Aa Ap<|Aj Di)<|Aa Cf<|Aj<|Ao B6 AE<|pv 12)<|by lia)
  (Ac (AM<|Ti bE fh fg Lj AX<|Aj<|B9 Z (AA<|pv 13) (λ_ _ _ _ _=>(Dk (K:=K) (n:=4) Z<|Au (AD (i:=0) (nk mh) Z<|bq Z)<|Au (AD (i:=1) (nk mh) Z<|bq Z)<|Au (AD (i:=2) (nk mh) Z<|bq Z)<|Au (AD (i:=3) (nk mh) Z<|bq Z) AY)) (λ_ _ _ _ _=>(A4<|Aa Ak<|Aa (Ao A7 AE Ai)<|Aa A2<|Aj<|Ao A7 AE Ap)) (N:=mh) (fr:=[Y,Y,Y,Y,O 6]))
  (Ac (Az 4 S.nd<|Ao AW AE<|pv 12)
  (Ag<|CW (i:=6) S.nd Z (dB Z) Di Ej))))))),?_⟩
  intro jB number b p n rest fa la pl acc ps' w1 w7 w12 w13 D H1 s1 npl ip ha hla hpl nl pos big hsb few' qq;have r8:=(Dh ip.1 (by have:=ip.2.1;lia) rest).len;have n8:=(BO jA p).2;refine⟨_,Z,_,Z,_,Z,_,Z,_,Z,fa,la,A0 jA p,Aw rest jA,jB,n,Z,ha,hla,r8,by lia,(λi hi=>G6 (l:=jA) (t:=p)<|by lia),λH2 s2=>⟨_,_,Z,Z,_,Z,_,Z,_,_,Z,Z,?_⟩⟩;have e1:(λi j:Int=>i-j) number (AB (A0 jA p) (Aw rest jA) jB n)=number-AB (A0 jA p) (Aw rest jA) jB n:=rfl;rw[e1];clear e1;generalize number-AB (A0 jA p) (Aw rest jA) jB n=num at hsb qq;refine⟨_,Z,_,Z,la,Aw rest jA,Builtin.bitAnd jB n,Z,s2 _ _ hla,by lia,λH3 s3=>⟨_,Z,_,Z,_,Z,Ay 2,λt nt=>?_⟩⟩;generalize A3 (Aw rest jA) (Builtin.bitAnd jB n)=r at hsb qq pos big;refine nv nt λH4 s4 e4=>?_;have s14:=s2.trans<|s3.trans s4;refine⟨_,Z,_,Z,_,Z,_,_,Z,Z,Ii _ pos (by lia),st,t,jA,p,m,n,num / r,ps',Z,e4,m4,ip,sa.same<|s1.trans s14,by lia,hsb,by lia,λls H5 s5 n5 ⟨us,u1,u2,u3⟩=>?_⟩;obtain⟨ts,p1,p2,p3⟩:=hpl;have s15:=s14.trans s5;have tl:=congrArg List.length p3;have ul:=congrArg List.length u3;rw[aa]at tl ul;refine⟨_,Z,.inl ⟨Z,_,SqL.of<|s15 _ _ p1⟩,_,Z,ls,Z,⟨_,SqL.of u1⟩,λacc' jE=>Bb (K:=K) (a:=ls) (ys:=A1 us) (λi zs B H'=>(∃x0 x1 x2 x3,B=[x0,x1,x2,x3,O<|.int b])/\Same H5 H'/\∃ws:List<|jF×P4,zs=A1 ws/\(∀t∈ws,H' t.1=O (.tup<|OI t.2))/\ws.map (·.2)=(ps'.map<|Ef b).take i) ⟨⟨_,_,_,_,Z⟩,Same.new jE,[],Z,(λt ht=>nomatch ht),Z⟩ (λi zs B H' _ _ hp=>SqL.of<|hp.2.1 _ _ u1) ?_ ?_⟩
  .rintro i v zs B H6 hv hi hz ha6 ⟨⟨x0,x1,x2,x3,rfl⟩,s6,ws,rfl,w2,w3⟩;obtain⟨u,hu',rfl⟩:=AZ hv;have um:=ak hu';have u6:H6 u.1=O (.tup [.int u.2.1,.int u.2.2.1,.int u.2.2.2.1,.int u.2.2.2.2]):=s6 _ _<|u2 u um;refine⟨u.1,_,Z,SqT.of u6,Z,_,_,Z,_,_,Z,_,_,Z,_,_,Z,Z,_,Z,_,Z,_,Z,_,_,Z,Z,_,Z,_,Z,_,Z,_,_,Z,Z,Ay 4,λt7 n7=>?_⟩;obtain⟨H7,e,s7,e7⟩:=nw (.tup<|OI<|Ef b u.2) n7;have e:upd H6 t7 (.tup [.int u.2.2.1,.int<|b+u.2.1,.int u.2.2.2.2,.int<|b+u.2.2.2.1])=H7:=e;rw[e];clear e;have ha7:=s7 _ _ ha6;have kp:∀{x:jF}{xs:LUz}{o:LUz},H7 x=O (.tup xs)->(upd H7 acc'<|.lst o) x=O (.tup xs):=λh=>by rw[Af<|AQ h ha7 (by intro z;cases z)];exact h
   have hp:ps'[i]?=O u.2:=by rw[<-u3,ax,hu'];rfl
   refine cNx.mk (aK<|An (by rw[AK];lia)) hi hz ha7 ⟨⟨_,_,_,_,Z⟩,λx o e=>?_,ws++[(t7,Ef b u.2)],by rw[A1,A1,af];rfl,λt ht=>?_,?_⟩
   .rw[Af<|Ad e jE];exact s7 _ _<|s6 _ _ e
   .rcases aw.mp ht with ht|ht
    .exact kp (s7 _ _<|w2 t ht)
    .rw[ae.mp ht];exact kp e7
   .rw[af,w3,aN,ax,hp];rfl
  .rintro zs B H6 hz ha6 ⟨_,s6,ws,rfl,w2,w3⟩;rw[AK,ul,<-aa (f:=Ef b),aI]at w3;have wl:=congrArg List.length w3;rw[aa,aa]at wl;have s16:=s15.trans s6;have pl6:=s16 _ _ p1;refine⟨pl,acc',A1 ts,A1 ws,Z,Z,pl6,ha6,aK (An (by rw[AK,AK];lia)),?_⟩;have ea:A1 ts++A1 ws=A1 (ts++ws):=by rw[A1,A1,A1,af]
   rw[ea];have kp:∀{x:jF}{xs:LUz},H6 x=O (.tup xs)->(upd H6 pl<|.lst<|A1<|ts++ws) x=O (.tup xs):=λh=>by rw[Af<|AQ h pl6 (by intro z;cases z)];exact h
   refine⟨_,Z,_,Z,_,_,Z,Z,pos,_,Z,_,Z,_,_,Z,Z,qq _ _ _ (λx o e=>?_) ⟨ts++ws,Ae,λt ht=>?_,by rw[af,p3,w3]⟩⟩
   .rw[Af<|Ad e npl];exact s16 _ _<|s1 _ _ e
   .rcases aw.mp ht with ht|ht
    .exact kp (s16 _ _<|p2 t ht)
    .exact kp (w2 t ht)
 obtain⟨tB,hB,kB⟩:∃rd,PSs (Bx CX0 P w K mg jD Nj "row_by" (Ah CM) f cdv A jz s H E).nox (MO<|nth (A9 CM) 2) rd/\∀(i:Nat)(jB number b p:Int)(rest:List Int)(pl:jF)(acc r:List P4)(w9 w10 w11 w12 w13:Option V)(D:E4)(H1:Hp),Same H H1->H pl=Y->ps[i]?=O p->ps.drop (i+1)=rest->PnL H1 pl acc->GG (Bd k) jA (p::rest) jB number b=O r->acc.length+r.length<=100 ->
   (∀jB number r' acc' w9 w10 w11 w12 w13 H',Same H H'->PnL H' pl acc'->GG (Bd k) jA rest jB number (b+p)=O r'->acc'++r'=acc++r->D.nx [O<|.ref st,O<|.ref l,O<|.int jA,O<|.int jB,O<|.int number,O<|.ref pl,O<|.int<|b+p,O<|.int i,O<|.int p,w9,w10,w11,w12,w13] H') ->
   rd D [O<|.ref st,O<|.ref l,O<|.int jA,O<|.int jB,O<|.int number,O<|.ref pl,O<|.int b,O<|.int i,O<|.int p,w9,w10,w11,w12,w13] H1:=by
  refine⟨_,(Ac (Az 9 S.nd<|Ec hu Ai<|A4<|Aa Ap<|Aj Di)
  (Ac (Az 10 S.nd<|Am fZ hr (Aa Ai<|Aa (Ji Ml Ak (Mt<|Ao A7 DH Ab) Mu)<|Aj Ap)<|by lia)
  (Ac (Az 11 S.nd Ab)
  (Ac (Jf PassesOwn.never (A5 BZ (Am gv hr (Aa (pv 9)<|Aa (pv 10)<|Aa A2<|Aj<|Ao A7 Cf Ab)<|by lia) AE)<|Ag<|CW (i:=11) S.nd Z (bq Z) Ab Ej)
  hA)))),?_⟩
  intro i jB number b p rest pl acc r w9 w10 w11 w12 w13 D H1 s1 npl hp hd hpl hrow few qq;have ip:=pm p<|ak hp;rw[GG]at hrow;obtain⟨n,hn,hrow⟩:=cJ.mp hrow;split at hrow
  case isFalse=>cases hrow
  rename_i hpos;obtain⟨ps',hsb,hrow⟩:=cJ.mp hrow;obtain⟨r',hr',rfl⟩:=bc.mp hrow;obtain⟨kvs,hst,hs⟩:=sa;obtain⟨sd,v1,v2⟩:=hs jA p ip;refine⟨_,Z,_,Z,_,Z,Ay 2,λt nt=>?_⟩;refine nv nt λH2 s2 e2=>?_;have s02:=s1.trans s2;have dg:DGet H2 st (.ref t) (O<|.ref sd):=by
   have:=DGet.t (H:=H2) (a:=st) (b:=t) (k:=[Sum.inl jA,Sum.inl p]) (s02 _ _ hst) e2;rw[v1]at this;exact this
  refine⟨st,_,Z,dg,_,Z,_,Z,_,Z,_,_,Z,Z,_,Z,l,_,Z,SqL.of<|s02 _ _ hl,λlr nlr=>?_⟩;rw[Oo,hd];refine nv nlr λH3 s3 e3=>?_;have s03:=s02.trans s3;have pr:∀x∈rest,x∈ps:=λx hx=>fQ (by rw[hd];exact hx);refine⟨_,Z,st,lr,rest,jA,Z,ip.1,by have:=ip.2.1;lia,e3,λx hx=>⟨(pm x<|pr x hx).2.2.1,by have:=(pm x<|pr x hx).2.2.2;lia⟩,⟨kvs,s03 _ _ hst,λa c ⟨ea,hc⟩=>?_⟩,λla H4 s4 n4 h4=>?_⟩
  .rw[ea];obtain⟨sd,v1,v2⟩:=hs jA c<|pm c<|pr c hc;exact⟨sd,v1,s03 _ _ v2⟩
  have s04:=s03.trans s4;have s14:=s2.trans<|s3.trans s4;have n8:=(BO jA p).2;have r8:=(Dh ip.1 (by have:=ip.2.1;lia) rest).len;refine⟨λc B H'=>∃j:Nat,B=[O<|.ref st,O<|.ref l,O<|.int jA,O<|.int jB,O<|.int number,O<|.ref pl,O<|.int b,O<|.int i,O<|.int p,O<|.ref sd,O<|.ref la,O<|.int j,w12,w13]/\Same H4 H'/\JR (A0 jA p) (Aw rest jA) jB number c j=O n,⟨9,0,Z,Same.refl _,hn⟩,?_⟩;rintro c B H5 ⟨j,rfl,s5,hj⟩;have s05:=s04.trans s5;cases c with
  |zero=>cases hj
  |succ c=>
   rw[JR]at hj;split at hj
   case isFalse=>cases hj
   rename_i jl;refine⟨_,Z,_,Z,_,Z,_,Z,_,_,Z,Z,sd,la,A0 jA p,Aw rest jA,jB,j+1,Z,s05 _ _ v2,s5 _ _ h4,r8,by lia,(λx hx=>G6<|by lia),λH6 s6=>⟨_,Z,_,_,Z,Z,_,Z,?_⟩⟩;by_cases hc:AB (A0 jA p) (Aw rest jA) jB (j+1)<=number
   .rw[jP hc]at hj;refine BK (jI hc) ⟨_,λσ' H' h=>⟨c,bS c,h⟩,_,Z,_,_,Z,Z,j+1,Z,s5.trans s6,hj⟩
   .rw[jK hc]at hj;cases hj;refine Bi (jR hc) ?_;have s06:=s05.trans s6;have s16:=s14.trans<|s5.trans s6;have V0:=few;rw[aq,aa]at V0;exact kA jB number b p _ rest sd la pl acc ps' _ _ _ _ D H6 s06 npl ip (s06 _ _ v2) ((s5.trans s6) _ _ h4) (hpl.same s16) jl hpos.1 hpos.2 hsb (by lia) λw12 w13 H' s' pn=>qq _ _ r' _ _ _ _ _ _ H' s' pn hr' (by rw[aX])
 refine⟨_,(Ac (Az 5 S.nd<|AJ BF)
  (Ac (Ms (i:=6) S.nd Z (dB Z) Ab)
  (Ac (AF PassesOwn.never Z (Iu Z T.z_enumerate<|Aj Ak) (BS Z<|Au (AS 7 S.nd)<|Au (AS 8 S.nd) AY) hB)
  (Ag<|Aq AX)))),?_⟩
 refine⟨Ay 0,λpl npl=>?_⟩;refine nv npl λH0 s0 e0=>?_;refine⟨_,Z,l,Z,⟨_,SqL.of<|s0 _ _ hl⟩,Gx (K:=K) (a:=l) (xs:=ps.map V.int) (λi B H'=>∃(jB number b:Int)(acc r:List P4)(w7 w8 w9 w10 w11 w12 w13:Option V),B=[O<|.ref st,O<|.ref l,O<|.int jA,O<|.int jB,O<|.int number,O<|.ref pl,O<|.int b,w7,w8,w9,w10,w11,w12,w13]/\Same H H'/\PnL H' pl acc/\GG (Bd k) jA (ps.drop i) jB number b=O r/\acc++r=out) ⟨jB,number,0,[],out,_,_,_,_,_,_,_,Z,s0,⟨[],e0,(λt ht=>nomatch ht),Z⟩,hrow,Z⟩ (λi B H' _ hp=>by obtain⟨_,_,_,_,_,_,_,_,_,_,_,_,_,s',_⟩:=hp;exact SqL.of<|s' _ _ hl) ?_ ?_⟩
 .rintro i v B H1 t hv ⟨jB,number,b,acc,r,w7,w8,w9,w10,w11,w12,w13,rfl,s1,pn,hr1,ho⟩ nt;obtain⟨p,hp,rfl⟩:=ints_get hv;refine nv nt λH2 s2 e2=>?_;have il:=(aD.mp hp).1;have dr:ps.drop i=p::ps.drop (i+1):=by rw[cE il];rw[ai il]at hp;rw[Option.some.inj hp]
  rw[dr]at hr1;refine⟨t,_,Z,SqT.of e2,Z,_,_,Z,_,_,Z,Z,kB i jB number b p _ pl acc r _ _ _ _ _ _ H2 (s1.trans s2) npl hp Z (pn.same s2) hr1 (by rw[<-aq,ho];exact few) λc' n' r' a' y9 y10 y11 y12 y13 H' s' pn' hr' he=>⟨c',n',_,a',r',_,_,_,_,_,_,_,Z,s',pn',hr',by rw[he];exact ho⟩⟩
 .rintro B H1 ⟨jB,number,b,acc,r,w7,w8,w9,w10,w11,w12,w13,rfl,s1,pn,hr1,ho⟩;rw[aa,b5]at hr1;cases hr1;rw[aJ]at ho;exact⟨_,Z,q pl H1 s1 npl (by rw[<-ho];exact pn)⟩
theorem Nq{vs:LUz}{H:Hp}{Q:VK}{E:XK}:¬Ca 0 vs H Q E:=by
 rintro⟨st,sz,a,b,m,n,number,out,_,_,_,_,_,_,h,_⟩;cases h
theorem RF:∀(a:Fin 5)(n:Fin 8),0<a.val->(∀p∈Ax (n.val:Int) ((a.val:Int)-1).toNat,1<=p/\p<=a.val)/\(Ax (n.val:Int) ((a.val:Int)-1).toNat).length<=4:=by decide +kernel
theorem EW{a:Int}{n:Nat}(a1:1<=a)(a4:a<=4)(n7:n<=7):(∀p∈Ax (n:Int) (a-1).toNat,1<=p/\p<=a)/\(Ax (n:Int) (a-1).toNat).length<=4:=by
 have:=RF ⟨a.toNat,by lia⟩ ⟨n,by lia⟩ (by show 0<a.toNat;lia);rw[show((a.toNat:Nat):Int)=a by lia]at this;exact this
theorem FV:Al mC mC (Ah F7):=fsk
theorem ND{f:jF}{fd:jM}{k:Nat}(F:Fun K "strip_by" "strip_by" F7 f fd)(gc:Ar P w K mg jD 1 "all_lines" mf Gd)(fY:Ar P w K mg jD 1 "parts_between" my DC)(gO:Ar P w K mg jD (2*k+4) "row_by" mF<|E8 k):A8 P w K mg jD CX0 (2*k+5) f fd mC (Ca<|k+1):=by
 have S:=FV;refine F.g S ?_;rintro vs H Q E ⟨st,sz,a,b,m,n,number,out,rfl,hsz,m4,⟨a1,am,b1,bm⟩,sa,n7,hs,few,q⟩;refine⟨Z,λcdv A jz s hr=>?_⟩;rw[Bd]at hs;refine⟨_,(Ac (AG (A5 Bu Ap Ab) (Ag<|Aq<|AJ<|Aj<|A4<|Aa Ab<|Aa Ab<|Aa (Av As Ak Ab)<|Aj<|Av As Ak Ab) A6)
  (Ag<|Aq<|Am gO hr (Aa Ai<|Aa (Am fY hr (Aa Ap<|Aj<|Av As Ak Ab)<|by lia)<|Aa (Av As Ak Ab)<|Aa (Am gc hr (Aj<|Av As Ak Ab)<|by lia)<|Aj A2)<|by lia)),?_⟩
 refine⟨_,Z,Z,_,Z,?_⟩;by_cases c:n=0
 .rw[jP c]at hs;cases hs;refine BK (jI (by rw[c];rfl)) ?_;refine⟨_,Z,sz,_,_,_,Z,Z,SqT.of hsz,Fz,_,Z,sz,_,_,_,Z,Z,SqT.of hsz,Fi,Ay 4,λt nt=>?_⟩;obtain⟨H1,e,s1,e1⟩:=nw (.tup<|OI (0,0,b,a)) nt;have e:upd H t (.tup [.int 0,.int 0,.int b,.int a])=H1:=e;rw[e];clear e;refine⟨Ay 1,λl nl=>q l _ (s1.trans<|Same.new nl) (Lh s1 nl) ⟨[(t,(0,0,b,a))],Ae,λu hu=>?_,Z⟩⟩;rw[ae.mp hu];exact(Same.new nl) _ _ e1
 .rw[jK c]at hs;refine Bi (jR λz=>c (by have:=V.int.inj z;lia)) ?_;have pl:=EW (n:=n) a1 (by lia) n7;refine⟨_,Z,_,Z,_,Z,sz,_,_,_,Z,Z,SqT.of hsz,Fi,(n:Int),a,Z,a1,by lia,λlp H1 s1 n1 h1=>?_⟩;refine⟨_,Z,sz,_,_,_,Z,Z,SqT.of<|s1 _ _ hsz,Fz,_,Z,sz,_,_,_,Z,Z,SqT.of<|s1 _ _ hsz,Fz,b,Z,b1,by lia,_,Z,?_⟩;exact⟨st,lp,_,b,m,B7 b,number,out,Z,h1,m4,λp hp=>⟨b1,bm,(pl.1 p hp).1,by have:=(pl.1 p hp).2;lia⟩,sa.same s1,pl.2,hs,few,λl' H2 s2 n2 pn=>q l' H2 (s1.trans s2) (Lh s1 n2) pn⟩
noncomputable def BN(d:BL):Int:=(d.map (·.2)).sum
theorem MG(d:BL):(kvB d).map (·.2)=(d.map (·.2)).map V.int:=by unfold kvB;rw[aA,aA];rfl
noncomputable def OL(w h:Int):Nat->Nat->Int->Option (Nat×Int)
 |0,_,_=>Y
 |k+1,n,number=>if n<=7 then(if BN (Aw (Ax n (w-1).toNat) h)<=number then OL w h k (n+1) (number-BN (Aw (Ax n (w-1).toNat) h))else O (n,number))else Y
noncomputable def D6(w h number:Int):Option (List P4):=(OL w h 9 0 number).bind λx=>GG (Bd 9) h (Ax x.1 (w-1).toNat) 0 x.2 0
inductive HM(vs:LUz)(H:Hp)(Q:VK)(E:XK):Prop
 |mk (st:jF) (ww hh m number:Int) (out:List P4) (h0:vs=[.ref st,.int ww,.int hh,.int number]) (h1:m<=4) (h2:InM m ww hh) (h3:StAt H st<|InM m) (h4:D6 ww hh number=O out) (h5:out.length<=100) (h6:∀l H',Same H H'->H l=Y->PnL H' l out->Q (.ref l) H'):HM vs H Q E
def IQ:Sp:=λvs H Q E=>HM vs H Q E
theorem XV:∀a:Fin 5,0<a.val->Ax 0 ((a.val:Int)-1).toNat=[(a.val:Int)]:=by decide +kernel
theorem WA{a:Int}(a1:1<=a)(a4:a<=4):Ax ((0:Nat):Int) (a-1).toNat=[a]:=by
 have:=XV ⟨a.toNat,by lia⟩ (by show 0<a.toNat;lia);rw[show((a.toNat:Nat):Int)=a by lia]at this;exact this
noncomputable abbrev Sr:LSz:=["strips","width","height","number","lines","many"]
theorem NG{f:jF}{fd:jM}(F:Fun K "panes_by" "panes_by" FA f fd)(T:Txt mg tk)(fY:Ar P w K mg jD 1 "parts_between" my DC)(fZ:Ar P w K mg jD 2 "rows_by_lines" mB CG)(gO:Ar P w K mg jD 22 "row_by" mF<|E8 9):A8 P w K mg jD CX0 23 f fd nR IQ:=by
 have S:Al Sr nR (Ah FA):=fsk;refine F.g S ?_;rintro vs H Q E ⟨st,ww,hh,m,number,out,rfl,m4,⟨w1,wm,h1,hm⟩,sa,hp,few,q⟩;refine⟨Z,λcdv A jz s hr=>?_⟩;obtain⟨⟨n,num⟩,hn,hrow⟩:=cJ.mp hp;have sr:∀{H':Hp}{ps:List Int},Same H H'->(∀p∈ps,1<=p/\p<=ww)->StAt H' st (λa b=>a=hh/\b∈ps):=λs' hps=>by
  obtain⟨kvs,hst,hs⟩:=sa;exact⟨kvs,s' _ _ hst,λa b ⟨ea,hb⟩=>by
   rw[ea];obtain⟨sd,v1,v2⟩:=hs hh b ⟨h1,hm,(hps b hb).1,by have:=(hps b hb).2;lia⟩;exact⟨sd,v1,s' _ _ v2⟩⟩
 refine⟨_,(Ac (Az 4 S.nd Ab)
  (Ac (Az 5 S.nd<|Bg Hm T.z_sum<|Aj<|EU ci cC dk FN<|Am fZ hr<|Aa Ai<|Aa (AJ<|Aj Ak)<|Aj Ap)
  (Ac (Jf PassesOwn.never (A5 BZ AX A2)<|Ac (CW (i:=3) S.nd Z (bq Z) AX Px)
  (Ac (CW (i:=4) S.nd Z (bq Z) Ab Ej)
  (Ag<|Az 5 S.nd<|Bg Hm T.z_sum<|Aj<|EU ci cC dk FN<|Am fZ hr<|Aa Ai<|Aa (Am fY hr<|Aa AE<|Aj Ak)<|Aj Ap)))
  (Ag<|Aq<|Am gO hr<|Aa Ai<|Aa (Am fY hr<|Aa AE<|Aj Ak)<|Aa Ap<|Aa Ab<|Aj A2)))),?_⟩
 refine⟨_,Z,_,Z,Ay 1,λl0 n0=>?_⟩;refine nv n0 λH0 s0 e0=>?_;refine⟨_,Z,st,l0,[ww],hh,Z,h1,by lia,e0,λp hp=>by rw[ae.mp hp];exact⟨w1,by lia⟩,sr s0 (λp hp=>by rw[ae.mp hp];exact⟨w1,aW _⟩),λd1 H1 s1 n1 hd1=>⟨.inr<|.inr<|.inl ⟨Z,.inl ⟨_,hd1⟩⟩,d1,_,Z,Z,hd1,λv nvw=>?_⟩⟩;refine nv nvw λH2 s2 e2=>?_;have s02:=s0.trans<|s1.trans s2;refine⟨v,d1,_,_,Z,e2,s2 _ _ hd1,MG _,Z,?_⟩;refine⟨λc B H'=>∃(j:Nat)(nm:Int),B=[O<|.ref st,O<|.int ww,O<|.int hh,O<|.int nm,O<|.int j,O<|.int<|BN<|Aw (Ax j (ww-1).toNat) hh]/\Same H H'/\OL ww hh c j nm=O (n,num),⟨9,0,number,by rw[WA w1<|by lia];rfl,s02,hn⟩,?_⟩;rintro c B H3 ⟨j,nm,rfl,s3,hj⟩;cases c with
 |zero=>cases hj
 |succ c=>
  rw[OL]at hj;split at hj
  case isFalse=>cases hj
  rename_i j7;refine⟨_,Z,_,Z,_,_,Z,Z,_,Z,?_⟩;by_cases hc:BN (Aw (Ax j (ww-1).toNat) hh)<=nm
  .rw[jP hc]at hj;have j8:j+1<=7:=by
    cases c with
    |zero=>cases hj
    |succ c=>
     rw[OL]at hj;split at hj
     .assumption
     .cases hj
   have pl:=EW (n:=j+1) w1 (by lia) j8;refine BK (jI hc) ⟨_,λσ' H' h=>⟨c,bS c,h⟩,_,Z,_,Z,_,_,Z,Z,_,Z,_,_,Z,Z,_,Z,_,Z,_,Z,((j+1:Nat):Int),ww,Z,w1,by lia,λlp H4 s4 n4 h4=>⟨_,Z,st,lp,_,hh,Z,h1,by lia,h4,λp hp=>⟨(pl.1 p hp).1,by have:=(pl.1 p hp).2;lia⟩,sr (s3.trans s4) pl.1,λd5 H5 s5 n5 h5=>⟨.inr<|.inr<|.inl ⟨Z,.inl ⟨_,h5⟩⟩,d5,_,Z,Z,h5,λv nvw=>?_⟩⟩⟩;refine nv nvw λH6 s6 e6=>?_;exact⟨v,d5,_,_,Z,e6,s6 _ _ h5,MG _,Z,j+1,_,Z,s3.trans<|s4.trans<|s5.trans s6,hj⟩
  .rw[jK hc]at hj;cases hj;refine Bi (jR hc) ?_;have pl:=EW (n:=n) w1 (by lia) j7;refine⟨_,Z,_,Z,_,Z,(n:Int),ww,Z,w1,by lia,λlp H4 s4 n4 h4=>⟨_,Z,_,Z,st,lp,_,hh,m,0,num,out,Z,h4,m4,λp hp=>⟨h1,hm,(pl.1 p hp).1,by have:=(pl.1 p hp).2;lia⟩,sa.same<|s3.trans s4,pl.2,hrow,few,λl' H5 s5 n5 pn=>q l' H5 (s3.trans<|s4.trans s5) (Lh (s3.trans s4) n5) pn⟩⟩
noncomputable abbrev rk(q:P4):Rk:=⟨q.1,q.2.1,q.2.2.1,q.2.2.2⟩
noncomputable def B1(ps:List P4)(len jA:Int):Int:=((lns (ps.map rk) ⟨0,0,jA,len⟩ nZ).map λl=>1*2^(l-1).toNat).sum
inductive HR(vs:LUz)(H:Hp)(Q:VK)(E:XK):Prop
 |mk (l:jF) (ps:List P4) (len jA:Int) (h0:vs=[.ref l,.int len,.int jA]) (h1:PnL H l ps) (h2:ps.length<=100) (h3:1<=len) (h4:len<=4) (h5:1<=jA) (h6:jA<=4) (h7:∀H',Same H H'->Q (.int<|B1 ps len jA) H'):HR vs H Q E
def F4:Sp:=λvs H Q E=>HR vs H Q E
theorem Vj{rs:List Rk}{jA len:Int}(h:len<=12):(lns rs ⟨0,0,jA,len⟩ nZ).length<=12:=by
 unfold lns;refine aV (NZ _) ?_;show(len-(0+1)).toNat<=12;lia
theorem NI{f:jF}{fd:jM}(F:Fun K "lines_of" "lines_of" FD f fd)(T:Txt mg tk)(gu:Ar P w K mg jD 3 "lines_through" mL OQ):A8 P w K mg jD CX0 4 f fd mP F4:=by
 have S:Al mP mP (Ah FD):=fsk;refine F.g S ?_;rintro vs H Q E ⟨l,ps,len,jA,rfl,⟨ts,p1,p2,p3⟩,few,l1,l4,t1,t4,q⟩;refine⟨Z,λcdv A jz s hr=>?_⟩;have tl:=congrArg List.length p3;rw[aa]at tl;refine⟨_,(Ag<|Aq<|Bg JZ T.z_sum<|Aj<|B9 Z (AA<|Am gu hr<|Aa (A4<|Aa Ab<|Aa Ab<|Aa Ap<|Aj Ak)<|Aa Ai<|Aj<|AH (v:=.int 1) Z T.gN ⟨_,Z⟩) (λ_ _ _ _ _=>pgk<|nk ["line"]) (λ_ _ _ _ _=>(Ao Pg Ab<|Ao BG Ai Ab)) (N:=["line"]) (fr:=[Y])),?_⟩;refine⟨_,Z,_,Z,Ay 4,λb nb=>?_⟩;refine nv nb λH0 s0 e0=>?_;have rr:A1 (ts.map λt=>(t.1,rk t.2))=A1 ts:=by rw[A1,A1,aA];rfl
 have rc:rcs (ts.map λt=>(t.1,rk t.2))=ps.map rk:=by rw[rcs,aA,<-p3,aA];rfl
 have ok:Rk.ok ⟨0,0,jA,len⟩:=⟨by show(0:Int)<jA;lia,by show(0:Int)<len;lia⟩;refine⟨_,Z,b,l,⟨0,0,jA,len⟩,ts.map λt=>(t.1,rk t.2),nZ,Z,e0,by rw[rr];exact s0 _ _ p1,λt ht=>?_,by rw[aa];lia,ok,λu=>by cases u;exact⟨aW _,by show jA<=12;lia⟩;exact⟨aW _,by show len<=12;lia⟩,λc H1 s1 h1=>?_⟩
 .obtain⟨u,hu,rfl⟩:=ao.mp ht;exact s0 _ _<|p2 u hu
 rw[rc]at h1;have ml:∀a∈lns (ps.map rk) ⟨0,0,jA,len⟩ nZ,0<a/\a<4:=λa ha=>by
  have:=(Ix ok).mp ha;exact⟨this.1,by have h2:a<len:=this.2.1;lia⟩
 have s01:=s0.trans s1;have ll:(lns (ps.map rk) ⟨0,0,jA,len⟩ nZ).length<=12:=Vj (by show len<=12;lia);have q':∀H',Same H H'->Q (.int ((lns (ps.map rk) ⟨0,0,jA,len⟩ nZ).map λl=>1*2^(l-1).toNat).sum) H':=q;generalize lns (ps.map rk) ⟨0,0,jA,len⟩ nZ=ls at h1 ml ll q';refine⟨c,Z,⟨_,SqL.of h1⟩,λacc jE=>Bb (K:=K) (a:=c) (ys:=ls.map V.int) (λi zs B H'=>(∃x,B=[x])/\Same H1 H'/\zs=((ls.take i).map λl=>(1*2^(l-1).toNat:Int)).map V.int) ⟨⟨_,Z⟩,Same.new jE,Z⟩ (λi zs B H' _ _ hp=>SqL.of<|hp.2.1 _ _ h1) ?_ ?_⟩
 .rintro i v zs B H2 hv hi hz ha2 ⟨⟨x,rfl⟩,s2,rfl⟩;obtain⟨a,ha,rfl⟩:=ints_get hv;have am:=ml a<|ak ha;refine⟨_,Z,_,_,Z,Z,_,_,Z,Z,⟨by lia,by lia,by decide⟩,cNx.mk (aK<|An (by rw[aa];lia)) hi hz ha2 ⟨⟨_,Z⟩,λx o e=>?_,?_⟩⟩
  .rw[Af<|Ad e jE];exact s2 _ _ e
  .rw[aN,ha,af,af];rfl
 .rintro zs B H2 hz ha2 ⟨_,s2,rfl⟩;rw[aa,aI]at ha2;exact⟨acc,_,Z,SqL.of ha2,Z,q' H2<|s01.trans s2⟩
noncomputable def atF(ps:List P4)(b p:Int):List P4:=(ps.filter λq=>og (b<=q.2.1)&&og (q.2.1<b+p)).map λq=>(q.2.1-b,q.1,q.2.2.2-b,q.2.2.1)
inductive HK(vs:LUz)(H:Hp)(Q:VK)(E:XK):Prop
 |mk (l:jF) (ps:List P4) (b p:Int) (h0:vs=[.ref l,.int b,.int p]) (h1:PnL H l ps) (h2:ps.length<=100) (h3:∀l' H',Same H H'->H l'=Y->PnL H' l' (atF ps b p)->Q (.ref l') H'):HK vs H Q E
def IN:Sp:=λvs H Q E=>HK vs H Q E
theorem NE{f:jF}{fd:jM}(F:Fun K "strip_at" "strip_at" F8 f fd)(T:Txt mg tk):A8 P w K mg jD CX0 1 f fd nU IN:=by
 have S:Al ["panes","begin","part","inner"] nU (Ah F8):=fsk;refine F.g S ?_;rintro vs H Q E ⟨l,ps,b,p,rfl,⟨ts,p1,p2,p3⟩,few,q⟩;refine⟨Z,λcdv A jz s hr=>?_⟩;have tl:=congrArg List.length p3;rw[aa]at tl;refine⟨_,(Ac (Ht Z (AS 3 S.nd) (AA Ai) (λ_ _ _ _ _=>pgk<|nk ["pane","begin","part"]) (λ_ _ _ _ _=>(Gg BZ DJ Ak (Av (QC (K:=K)) Ai<|AH (v:=.int 1) Z T.gN ⟨_,Z⟩)<|Ao A7 Ak Ap)) (λ_ _ _ _ _=>Ai) (N:=["pane","begin","part"]) (fr:=[Y,O 1,O 2]))
  (Ag<|Aq<|B9 Z (AA A2) (λ_ _ _ _ _=>(Dk (K:=K) (n:=4) Z<|Au (AD (i:=0) (nk mh) Z<|bq Z)<|Au (AD (i:=1) (nk mh) Z<|bq Z)<|Au (AD (i:=2) (nk mh) Z<|bq Z)<|Au (AD (i:=3) (nk mh) Z<|bq Z) AY)) (λ_ _ _ _ _=>(A4<|Aa (Ao BG Ak AE)<|Aa Ai<|Aa (Ao BG A2 AE)<|Aj Ap)) (N:=mh) (fr:=[Y,Y,Y,Y,O 1]))),?_⟩
 refine⟨_,Z,l,Z,⟨_,SqL.of p1⟩,λacc jE=>Ci (K:=K) (a:=l) (ys:=A1 ts) (λi zs B H'=>(∃x,B=[x,O<|.int b,O<|.int p])/\Same H H'/\∃us:List<|jF×P4,zs=A1 us/\(∀t∈us,H' t.1=O (.tup<|OI t.2))/\us.map (·.2)=(ps.take i).filter λq=>og (b<=q.2.1)&&og (q.2.1<b+p)) ⟨⟨_,Z⟩,Same.new jE,[],Z,(λt ht=>nomatch ht),Z⟩ (λi zs B H' _ _ hp=>SqL.of<|hp.2.1 _ _ p1) ?_ ?_⟩
 .rintro i v zs B H1 hv hi hz ha1 ⟨⟨x,rfl⟩,s1,us,rfl,u2,u3⟩;obtain⟨u,hu',rfl⟩:=AZ hv;have u1:H1 u.1=O (.tup [.int u.2.1,.int u.2.2.1,.int u.2.2.2.1,.int u.2.2.2.2]):=s1 _ _<|p2 u<|ak hu';have hp:ps[i]?=O u.2:=by rw[<-p3,ax,hu'];rfl
  have tk:ps.take (i+1)=ps.take i++[u.2]:=by rw[aN,hp];rfl
  have kp:∀{x:jF}{xs o:LUz},H1 x=O (.tup xs)->(upd H1 acc<|.lst o) x=O (.tup xs):=λh=>by rw[Af<|AQ h ha1 (by intro z;cases z)];exact h
  have no:(og (b<=u.2.2.1)&&og (u.2.2.1<b+p))=oe->us.map (·.2)=(ps.take<|i+1).filter λq=>og (b<=q.2.1)&&og (q.2.1<b+p):=λz=>by
   rw[tk,bt,u3,fE (by rw[z];decide),eZ,aJ]
  refine⟨_,Z,_,Z,u.1,_,_,_,Z,Z,SqT.of u1,at1,_,_,Z,Z,_,Z,?_⟩;by_cases c1:b<=u.2.2.1
  .refine BK (jI c1) ⟨_,Z,_,Z,_,_,Z,Z,_,_,Z,Z,_,Z,?_⟩;by_cases c2:u.2.2.1<b+p
   .rw[jI c2];refine⟨_,Z,fNx.mk (aK<|An (by rw[AK];lia)) hi hz ha1 ⟨⟨_,Z⟩,λx o e=>by rw[Af<|Ad e jE];exact s1 _ _ e,us++[u],by rw[A1,A1,af];rfl,λt ht=>?_,?_⟩⟩
    .rcases aw.mp ht with ht|ht
     .exact kp (u2 t ht)
     .rw[ae.mp ht];exact kp u1
    .rw[tk,bt,af,u3,fD (by rw[jI c1,jI c2];rfl)];rfl
   .rw[jR c2];exact fSk.mk hi hz ha1 ⟨⟨_,Z⟩,s1,us,Z,u2,no<|by rw[jR c2,dj]⟩
  .refine Bi (jR c1) ⟨_,Z,?_⟩;exact fSk.mk hi hz ha1 ⟨⟨_,Z⟩,s1,us,Z,u2,no (by rw[jR c1];rfl)⟩
 .rintro zs B H1 hz ha1 ⟨⟨x,rfl⟩,s1,us,rfl,u2,u3⟩;rw[AK,tl,aI]at u3;have ul:=cO (λq:P4=>og (b<=q.2.1)&&og (q.2.1<b+p)) ps;have ul2:=congrArg List.length u3;rw[aa]at ul2;refine⟨_,Z,acc,Z,⟨_,SqL.of ha1⟩,λacc2 hacc2=>Bb (K:=K) (a:=acc) (ys:=A1 us) (λi zs B H'=>(∃x0 x1 x2 x3,B=[x0,x1,x2,x3,O<|.int b])/\Same H1 H'/\∃ws:List<|jF×P4,zs=A1 ws/\(∀t∈ws,H' t.1=O (.tup<|OI t.2))/\ws.map (·.2)=(atF ps b p).take i) ⟨⟨_,_,_,_,Z⟩,Same.new hacc2,[],Z,(λt ht=>nomatch ht),Z⟩ (λi zs B H' _ _ hp=>SqL.of<|hp.2.1 _ _ ha1) ?_ ?_⟩
  .rintro i v zs B H6 hv hi hz ha6 ⟨⟨x0,x1,x2,x3,rfl⟩,s6,ws,rfl,w2,w3⟩;obtain⟨u,hu',rfl⟩:=AZ hv;have u6:H6 u.1=O (.tup [.int u.2.1,.int u.2.2.1,.int u.2.2.2.1,.int u.2.2.2.2]):=s6 _ _<|u2 u<|ak hu';refine⟨u.1,_,Z,SqT.of u6,Z,_,_,Z,_,_,Z,_,_,Z,_,_,Z,Z,_,Z,_,Z,_,_,Z,Z,_,Z,_,Z,_,Z,_,_,Z,Z,_,Z,Ay 4,λt7 n7=>?_⟩;obtain⟨H7,e,s7,e7⟩:=nw (.tup<|OI (u.2.2.1-b,u.2.1,u.2.2.2.2-b,u.2.2.2.1)) n7;have e:upd H6 t7 (.tup [.int<|u.2.2.1-b,.int u.2.1,.int<|u.2.2.2.2-b,.int u.2.2.2.1])=H7:=e;rw[e];clear e;have ha7:=s7 _ _ ha6;have kp:∀{x:jF}{xs o:LUz},H7 x=O (.tup xs)->(upd H7 acc2<|.lst o) x=O (.tup xs):=λh=>by rw[Af<|AQ h ha7 (by intro z;cases z)];exact h
   have hp:(ps.filter λq=>og (b<=q.2.1)&&og (q.2.1<b+p))[i]?=O u.2:=by rw[<-u3,ax,hu'];rfl
   refine cNx.mk (aK<|An (by rw[AK];lia)) hi hz ha7 ⟨⟨_,_,_,_,Z⟩,λx o e=>?_,ws++[(t7,(u.2.2.1-b,u.2.1,u.2.2.2.2-b,u.2.2.2.1))],by rw[A1,A1,af];rfl,λt ht=>?_,?_⟩
   .rw[Af<|Ad e hacc2];exact s7 _ _<|s6 _ _ e
   .rcases aw.mp ht with ht|ht
    .exact kp (s7 _ _<|w2 t ht)
    .rw[ae.mp ht];exact kp e7
   .rw[af,w3,aN];unfold atF;rw[ax,hp];rfl
  .rintro zs B H6 hz ha6 ⟨_,s6,ws,rfl,w2,w3⟩;have al:(atF ps b p).length=us.length:=by unfold atF;rw[aa];exact ul2.symm
   rw[AK,<-al,aI]at w3;exact q acc2 H6 (s1.trans s6) (Lh s1 hacc2) ⟨ws,ha6,w2,w3⟩
noncomputable def K2(ns:List P4->Int->Int->Nat->Option Int)(jA:Int)(ps:List P4):List Int->Int->Int->Option Int
 |[],_,_=>O 0
 |p::rest,jB,b=>
  if 0<=B1 (atF ps b p) jA p/\(B1 (atF ps b p) jA p).toNat<(A0 jA p).length then
   (ns (atF ps b p) jA p (B1 (atF ps b p) jA p).toNat).bind λx=>
    if 0<=x/\x<=1000000000 then(K2 ns jA ps rest (Builtin.bitAnd jB<|B1 (atF ps b p) jA p)<|b+p).map λy=>AB (A0 jA p) (Aw rest jA) jB (B1 (atF ps b p) jA p).toNat+x*A3 (Aw rest jA) (Builtin.bitAnd jB<|B1 (atF ps b p) jA p)+y
    else Y
  else Y
noncomputable def Ie:Nat->List P4->Int->Int->Nat->Option Int
 |0,_,_,_,_=>Y
 |k+1,ps,a,b,n=>if n=0 then O 0 else K2 (Ie k) b ps (Ax n (a-1).toNat) (B7 b) 0
inductive HQ(k:Nat)(vs:LUz)(H:Hp)(Q:VK)(E:XK):Prop
 |mk (st l sz:jF) (ps:List P4) (a b m:Int) (n:Nat) (out:Int) (h0:vs=[.ref st,.ref l,.ref sz,.int n]) (h1:PnL H l ps) (h2:ps.length<=100) (h3:H sz=O (.tup [.int a,.int b])) (h4:m<=4) (h5:InM m a b) (h6:StAt H st<|InM m) (h7:n<=7) (h8:Ie k ps a b n=O out) (h9:∀H',Same H H'->Q (.int out) H'):HQ k vs H Q E
def Cb(k:Nat):Sp:=λvs H Q E=>HQ k vs H Q E
inductive LN(k:Nat)(vs:LUz)(H:Hp)(Q:VK)(E:XK):Prop
 |mk (st l lp:jF) (ps:List P4) (parts:List Int) (jA m jB out:Int) (h0:vs=[.ref st,.ref l,.ref lp,.int jA,.int jB]) (h1:PnL H l ps) (h2:ps.length<=100) (h3:H lp=O (.lst<|parts.map V.int)) (h4:m<=4) (h5:(∀p∈parts,InM m jA p)) (h6:StAt H st<|InM m) (h7:parts.length<=4) (h8:K2 (Ie k) jA ps parts jB 0=O out) (h9:∀H',Same H H'->Q (.int out) H'):LN k vs H Q E
def EB(k:Nat):Sp:=λvs H Q E=>LN k vs H Q E
theorem Xg(ps:List P4)(b p:Int):(atF ps b p).length<=ps.length:=by unfold atF;rw[aa];exact cO _ _
noncomputable abbrev Ra:LSz:=["strips","panes","parts","thick","common","number","begin","place","part","later","strip","lines"]
theorem Go{f:jF}{fd:jM}{k:Nat}(F:Fun K "number_in_rows" "number_in_rows" Bp f fd)(T:Txt mg tk)(fZ:Ar P w K mg jD 2 "rows_by_lines" mB CG)(iT:Ar P w K mg jD 1 "strip_at" nU IN)(gH:Ar P w K mg jD 4 "lines_of" mP F4)(gv:Ar P w K mg jD 2 "rows_before" ni G9)(gj:Ar P w K mg jD 1 "rows_without" mz CI)(jo:Ar P w K mg jD (2*k+5) "number_in_strips" mD<|Cb k):A8 P w K mg jD CX0 (2*k+6) f fd mG (EB k):=by
 have S:Al Ra mG (Ah Bp):=fsk;refine F.g S ?_;rintro vs H Q E ⟨st,l,lp,ps,parts,jA,m,jB,out,rfl,pn,few,hl,m4,pm,sa,p4,hnum,q⟩;refine⟨Z,λcdv A jz s hr=>?_⟩;have hu:=Ew hr;obtain⟨tB,hB,kB⟩:∃rd,PSs (Bx CX0 P w K mg jD Ra "number_in_rows" (Ah Bp) f cdv A jz s H E).nox (MO<|nth (A9 Bp) 2) rd/\∀(i:Nat)(jB number b p y:Int)(rest:List Int)(w9 w10 w11:Option V)(D:E4)(H1:Hp),Same H H1->parts[i]?=O p->parts.drop (i+1)=rest->K2 (Ie k) jA ps (p::rest) jB b=O y ->
   (∀jB number' y' w9 w10 w11 H',Same H H'->K2 (Ie k) jA ps rest jB (b+p)=O y'->number'+y'=number+y->D.nx [O<|.ref st,O<|.ref l,O<|.ref lp,O<|.int jA,O<|.int jB,O<|.int number',O<|.int<|b+p,O<|.int i,O<|.int p,w9,w10,w11] H') ->
   rd D [O<|.ref st,O<|.ref l,O<|.ref lp,O<|.int jA,O<|.int jB,O<|.int number,O<|.int b,O<|.int i,O<|.int p,w9,w10,w11] H1:=by
  refine⟨_,(Ac (Az 9 S.nd<|Am fZ hr (Aa Ai<|Aa (Ji Ml Ap (Mt<|Ao A7 DH Ab) Mu)<|Aj A2)<|by lia)
  (Ac (Az 10 S.nd<|Am iT hr (Aa Ak<|Aa DI<|Aj Di)<|by lia)
  (Ac (Az 11 S.nd<|Am gH hr (Aa (pv 10)<|Aa A2<|Aj Di)<|by lia)
  (Ac (CW (i:=5) S.nd Z (bq Z) (Am gv hr (Aa (Ec hu Ai<|A4<|Aa A2<|Aj Di)<|Aa (pv 9)<|Aa AE<|Aj Cf)<|by lia) Ej)
  (Ac (Az 4 S.nd<|Ao GJ AE Cf)
  (Ac (CW (i:=5) S.nd Z (bq Z) (Ao CC (Am jo hr (Aa Ai<|Aa (pv 10)<|Aa (A4<|Aa A2<|Aj Di)<|Aj Cf)<|by lia)<|Am gj hr (Aa (pv 9)<|Aj AE)<|by lia) Ej)
  (Ag<|CW (i:=6) S.nd Z (bq Z) Di Ej))))))),?_⟩
  intro i jB number b p y rest w9 w10 w11 D H1 s1 hp hd hnum qq;have ip:=pm p<|ak hp;rw[K2]at hnum;split at hnum
  case isFalse=>cases hnum
  rename_i hl0;obtain⟨x,hx,hnum⟩:=cJ.mp hnum;split at hnum
  case isFalse=>cases hnum
  rename_i hxs;obtain⟨y',hy',rfl⟩:=bc.mp hnum;have pr:∀x∈rest,x∈parts:=λx hx=>fQ (by rw[hd];exact hx);obtain⟨kvs,hst,hs⟩:=id sa;obtain⟨sd,v1,v2⟩:=hs jA p ip;have t4:jA<=4:=by have:=ip.2.1;lia
  have q4:p<=4:=by have:=ip.2.2.2;lia
  have r8:=(Dh ip.1 t4 rest).len;have n8:=(BO jA p).2;refine⟨_,Z,_,Z,_,Z,_,_,Z,Z,_,Z,lp,_,Z,SqL.of<|s1 _ _ hl,λlr nlr=>?_⟩;rw[Oo,hd];refine nv nlr λH2 s2 e2=>?_;have s02:=s1.trans s2;refine⟨_,Z,st,lr,rest,jA,Z,ip.1,t4,e2,λx hx=>⟨(pm x<|pr x hx).2.2.1,by have:=(pm x<|pr x hx).2.2.2;lia⟩,⟨kvs,s02 _ _ hst,λa c ⟨ea,hc⟩=>?_⟩,λla H3 s3 n3 h3=>?_⟩
  .rw[ea];obtain⟨sd,v1,v2⟩:=hs jA c<|pm c<|pr c hc;exact⟨sd,v1,s02 _ _ v2⟩
  have s03:=s02.trans s3;refine⟨_,Z,_,Z,_,Z,l,ps,b,p,Z,pn.same s03,few,λls H4 s4 n4 pn4=>?_⟩;have s04:=s03.trans s4;have fa:(atF ps b p).length<=100:=aV (Xg ps b p) few;refine⟨_,Z,_,Z,_,Z,ls,atF ps b p,jA,p,Z,pn4,fa,ip.1,t4,ip.2.2.1,q4,λH5 s5=>?_⟩;have s05:=s04.trans s5;obtain⟨n,hn⟩:∃n:Nat,B1 (atF ps b p) jA p=(n:Int):=⟨_,(bn hl0.1).symm⟩;rw[hn]at hl0 hx hy' qq |-;rw[bV]at hl0 hx qq;refine⟨_,Z,_,Z,_,Z,_,Z,Ay 2,λt nt=>?_⟩;refine nv nt λH6 s6 e6=>?_;have s06:=s05.trans s6;have s36:=s4.trans<|s5.trans s6;have dg:DGet H6 st (.ref t) (O<|.ref sd):=by
   have:=DGet.t (H:=H6) (a:=st) (b:=t) (k:=[Sum.inl jA,Sum.inl p]) (s06 _ _ hst) e6;rw[v1]at this;exact this
  refine⟨st,_,Z,dg,_,Z,_,Z,_,Z,sd,la,A0 jA p,Aw rest jA,jB,n,Z,s06 _ _ v2,s36 _ _ h3,r8,by lia,(λx hx=>G6<|by lia),λH7 s7=>⟨_,_,Z,Z,_,Z,_,Z,_,_,Z,Z,?_⟩⟩;refine⟨_,Z,_,Z,_,Z,_,Z,_,Z,Ay 2,λt2 nt2=>?_⟩;refine nv nt2 λH8 s8 e8=>?_;have s08:=s06.trans<|s7.trans s8;have s48:=s5.trans<|s6.trans<|s7.trans s8;refine⟨_,Z,st,ls,t2,atF ps b p,jA,p,m,n,x,Z,pn4.same s48,fa,e8,m4,ip,sa.same s08,by lia,hx,λH9 s9=>⟨_,Z,_,Z,la,_,Builtin.bitAnd jB n,Z,(s4.trans<|s48.trans s9) _ _ h3,by lia,λH10 s10=>⟨_,_,Z,Z,Yb hxs.1 hxs.2,_,_,Z,Z,_,Z,_,Z,_,_,Z,Z,?_⟩⟩⟩;refine qq _ _ y' _ _ _ H10 (s08.trans<|s9.trans s10) hy' ?_;show number+AB (A0 jA p) (Aw rest jA) jB n+x*A3 (Aw rest jA) (Builtin.bitAnd jB n)+y'=_;lia
 refine⟨_,(Ac (Az 5 S.nd Ab)
  (Ac (Az 6 S.nd Ab)
  (Ac (AF PassesOwn.never Z (Iu Z T.z_enumerate<|Aj Ap) (BS Z<|Au (AS 7 S.nd)<|Au (AS 8 S.nd) AY) hB)
  (Ag<|Aq AX)))),?_⟩
 refine⟨_,Z,lp,Z,⟨_,SqL.of hl⟩,Gx (K:=K) (a:=lp) (xs:=parts.map V.int) (λi B H'=>∃(jB number b y:Int)(w7 w8 w9 w10 w11:Option V),B=[O<|.ref st,O<|.ref l,O<|.ref lp,O<|.int jA,O<|.int jB,O<|.int number,O<|.int b,w7,w8,w9,w10,w11]/\Same H H'/\K2 (Ie k) jA ps (parts.drop i) jB b=O y/\number+y=out) ⟨jB,0,0,out,_,_,_,_,_,Z,Same.refl _,hnum,bF _⟩ (λi B H' _ hp=>by obtain⟨_,_,_,_,_,_,_,_,_,_,s',_⟩:=hp;exact SqL.of<|s' _ _ hl) ?_ ?_⟩
 .rintro i v B H1 t hv ⟨jB,number,b,y,w7,w8,w9,w10,w11,rfl,s1,hr1,ho⟩ nt;obtain⟨p,hp,rfl⟩:=ints_get hv;refine nv nt λH2 s2 e2=>?_;have il:=(aD.mp hp).1;have dr:parts.drop i=p::parts.drop (i+1):=by rw[cE il];rw[ai il]at hp;rw[Option.some.inj hp]
  rw[dr]at hr1;exact⟨t,_,Z,SqT.of e2,Z,_,_,Z,_,_,Z,Z,kB i jB number b p y _ _ _ _ _ H2 (s1.trans s2) hp Z hr1 λc' n' y' y9 y10 y11 H' s' hr' he=>⟨c',n',_,y',_,_,_,_,_,Z,s',hr',by rw[he];exact ho⟩⟩
 .rintro B H1 ⟨jB,number,b,y,w7,w8,w9,w10,w11,rfl,s1,hr1,ho⟩;rw[aa,b5]at hr1;cases hr1;rw[bK]at ho;exact⟨_,Z,by rw[ho];exact q H1 s1⟩
theorem NP{vs:LUz}{H:Hp}{Q:VK}{E:XK}:¬Cb 0 vs H Q E:=by
 rintro⟨st,l,sz,ps,a,b,m,n,out,_,_,_,_,_,_,_,_,h,_⟩;cases h
theorem BJ:Al mD mD (Ah BB):=fsk
theorem Fv{f:jF}{fd:jM}{k:Nat}(F:Fun K "number_in_strips" "number_in_strips" BB f fd)(gc:Ar P w K mg jD 1 "all_lines" mf Gd)(fY:Ar P w K mg jD 1 "parts_between" my DC)(gP:Ar P w K mg jD (2*k+6) "number_in_rows" mG<|EB k):A8 P w K mg jD CX0 (2*k+7) f fd mD (Cb<|k+1):=by
 have S:=BJ;refine F.g S ?_;rintro vs H Q E ⟨st,l,sz,ps,a,b,m,n,out,rfl,pn,few,hsz,m4,⟨a1,am,b1,bm⟩,sa,n7,hs,q⟩;refine⟨Z,λcdv A jz s hr=>?_⟩;rw[Ie]at hs;refine⟨_,(Ac (AG (A5 Bu A2 Ab) (Ag<|Aq Ab) A6)
  (Ag<|Aq<|Am gP hr (Aa Ai<|Aa Ak<|Aa (Am fY hr (Aa A2<|Aj<|Av As Ap Ab)<|by lia)<|Aa (Av As Ap Ab)<|Aj<|Am gc hr (Aj<|Av As Ap Ab)<|by lia)<|by lia)),?_⟩
 refine⟨_,Z,Z,_,Z,?_⟩;by_cases c:n=0
 .rw[jP c]at hs;cases hs;exact BK (jI (by rw[c];rfl))<|q H<|Same.refl _
 .rw[jK c]at hs;refine Bi (jR λz=>c (by have:=V.int.inj z;lia)) ?_;have pl:=EW (n:=n) a1 (by lia) n7;refine⟨_,Z,_,Z,_,Z,_,Z,sz,_,_,_,Z,Z,SqT.of hsz,Fi,(n:Int),a,Z,a1,by lia,λlp H1 s1 n1 h1=>?_⟩;refine⟨_,Z,sz,_,_,_,Z,Z,SqT.of<|s1 _ _ hsz,Fz,_,Z,sz,_,_,_,Z,Z,SqT.of<|s1 _ _ hsz,Fz,b,Z,b1,by lia,?_⟩;exact⟨st,l,lp,ps,_,b,m,B7 b,out,Z,pn.same s1,few,h1,m4,λp hp=>⟨b1,bm,(pl.1 p hp).1,by have:=(pl.1 p hp).2;lia⟩,sa.same s1,pl.2,hs,λH2 s2=>q H2<|s1.trans s2⟩
inductive LW(vs:LUz)(H:Hp)(Q:VK)(E:XK):Prop
 |mk (n:Int) (h0:vs=[.int n]) (h1:1<=n) (h2:n<=4) (h3:∀st H',Same H H'->StAt H' st (InM n)->Q (.ref st) H'):LW vs H Q E
def IV:Sp:=λvs H Q E=>LW vs H Q E
inductive HN(C:jF)(vs:LUz)(H:Hp)(Q:VK)(E:XK):Prop
 |mk (ww hh number:Int) (out:List P4) (h0:vs=[.int ww,.int hh,.int number]) (h1:1<=ww) (h2:ww<=4) (h3:1<=hh) (h4:hh<=4) (h5:0<=number) (h6:number<tab ww hh) (h7:D6 ww hh number=O out) (h8:Tiles ww hh<|out.map rk) (h9:out.length<=52) (h10:∀a dx ls ld ts kvs H',Same H H'->H a=Y->PanelAt C H' a ww hh ts dx ls ld kvs->(rcs ts).Perm (out.map rk)->Q (.ref a) H'):HN C vs H Q E
def IR(C:jF):Sp:=λvs H Q E=>HN C vs H Q E
theorem T8(a b:Int):(a<=if b>a then b else a)/\(b<=if b>a then b else a)/\((if b>a then b else a)=a\/(if b>a then b else a)=b):=by split<;>lia
theorem NH{f:jF}{fd:jM}(F:Fun K "panel_by" "panel_by" FC f fd)(T:Txt mg tk)(fX:Kg P w K mg jD 4 "Panel" C mv<|DF K C)(gi:Ar P w K mg jD 1 "is_whole" lY E7)(gI:Ar P w K mg jD 4 "count" l9 IT)(gJ:Ar P w K mg jD 4 "all_strips" nj IV)(iV:Ar P w K mg jD 23 "panes_by" nR IQ):A8 P w K mg jD CX0 24 f fd nV (IR C):=by
 have S:Al ["width","height","number","many"] nV (Ah FC):=fsk;refine F.g S ?_;rintro vs H Q E ⟨ww,hh,number,out,rfl,w1,w4,h1,h4,n0,nt,hp,til,few,q⟩;refine⟨Z,λcdv A jz s hr=>?_⟩;refine⟨_,(Ac (Az 3 S.nd<|Am gI hr<|Aa Ai<|Aj Ak)
  (Ac (AG (PW.pt<|Ev (BD<|Bk<|Am gi hr<|Aj Ap)<|CT<|BD<|Gg BZ DJ Ab Ap A2) (Ag CU) A6)
  (Ag<|Aq<|ES fX hr<|Aa Ai<|Aa Ak<|Aj<|Am iV hr<|Aa (Am gJ hr<|Aj<|Bg (L6 Z) T.z_max<|Aa Ai<|Aj Ak)<|Aa Ai<|Aa Ak<|Aj Ap))),?_⟩
 refine⟨_,Z,_,Z,ww,hh,Z,w1,w4,h1,h4,λH1 s1=>?_⟩;refine⟨_,Z,.int number,Z,⟨_,Z⟩,_,Z,Bi Z ?_⟩;refine⟨_,Z,_,_,Z,Z,_,Z,BK (jI n0) ⟨_,Z,_,_,Z,Z,_,Z,Bi (by rw[jI nt];rfl) ?_⟩⟩;obtain⟨m1,m2,m3⟩:=T8 ww hh;refine⟨_,Z,_,Z,_,Z,_,Z,_,_,Z,_,Z,by lia,by lia,λst H2 s2 sa=>⟨_,Z,_,Z,_,Z,st,ww,hh,_,number,out,Z,?_,⟨w1,m1,h1,m2⟩,sa,hp,by lia,λl H3 s3 nl ⟨ts,t1,t2,t3⟩=>?_⟩⟩
 .lia
 intro x dx nx ndx nex;have s03:=s1.trans<|s2.trans s3;have sB:Same H3 (upd (upd H3 dx<|.own x) x<|.ins C dx []):=λb o e=>by rw[Af<|Ad e nx,Af<|Ad e ndx];exact e
 have eB:(upd (upd H3 dx<|.own x) x<|.ins C dx []) x=O (.ins C dx []):=Ae;generalize upd (upd H3 dx<|.own x) x (.ins C dx [])=HB at sB eB |-;have rr:A1 (ts.map λt=>(t.1,rk t.2))=A1 ts:=by rw[A1,A1,aA];rfl
 have rc:rcs (ts.map λt=>(t.1,rk t.2))=out.map rk:=by rw[rcs,aA,<-t3,aA];rfl
 have tl:=congrArg List.length t3;rw[aa]at tl;refine⟨x,dx,l,ww,hh,ts.map λt=>(t.1,rk t.2),Z,eB,SqL.of (by rw[rr];exact sB _ _ t1),λt ht=>?_,by rw[rc];exact til,by rw[aa];lia,⟨w1,by lia⟩,⟨h1,by lia⟩,λts' ls ld kvs H4 sx pm pn=>⟨Z,q x dx ls ld ts' kvs H4 (λy o e=>sx _ _ (Ad (s03 _ _ e) nx)<|sB _ _<|s03 _ _ e) (Lh s03 nx) pn (by rw[<-rc];exact pm.map _)⟩⟩;obtain⟨u,hu,rfl⟩:=ao.mp ht;exact sB _ _<|t2 u hu
noncomputable abbrev p4(r:Rc):P4:=(r.t,r.l,r.b,r.r)
noncomputable def NO(ps:List P4)(ww hh:Int):Option Int:=if 0<=B1 ps ww hh/\B1 ps ww hh<=7 then(K2 (Ie 9) hh ps (Ax (B1 ps ww hh) (ww-1).toNat) 0 0).map λy=>y+((List.range (B1 ps ww hh).toNat).map λ(i:Nat)=>BN<|Aw (Ax i (ww-1).toNat) hh).sum else Y
theorem PanelAt.pnl{C:jF}{H:Hp}{a:jF}{w h:Int}{ts:List<|jF×Rc}{dx ls ld:jF}{kvs:LKz}(p:PanelAt C H a w h ts dx ls ld kvs){l:jF}(n:H l=Y):PnL (upd H l<|.lst<|A1 ts) l ((rcs ts).map p4):=by
 refine⟨ts.map λt=>(t.1,p4 t.2),by rw[Ae,A1,A1,aA];rfl,λt ht=>?_,by rw[rcs,aA,aA];rfl⟩;obtain⟨u,hu,rfl⟩:=ao.mp ht;exact(Same.new n) _ _<|p.ats u hu
theorem PanelAt.tb{C T:jF}{pos:Pos}{jC:j5}{H H':Hp}{a:jF}{w h:Int}{ts:List<|jF×Rc}{dx ls ld:jF}{kvs:LKz}(p:PanelAt C H a w h ts dx ls ld kvs)(s:SameX T H H')(hT:TabOk pos jC T H):PanelAt C H' a w h ts dx ls ld kvs:=by
 obtain⟨ps,eT,_⟩:=hT;have k:∀{y:jF}{o:HO},H y=O o->(∀ps,o≠.tbl ps)->H' y=O o:=λe no=>s _ _ (λz=>by rw[z,eT]at e;exact no _ (Option.some.inj e).symm) e;exact⟨k p.ob (by intro ps z;cases z),k p.lst (by intro ps z;cases z),k p.dic (by intro ps z;cases z),λt ht=>k (p.ats t ht) (by intro ps z;cases z),p.til,p.few,p.srt,p.look,p.sw,p.sh⟩
noncomputable abbrev Y5:LSz:=["panel","strips","lines","number","less"]
noncomputable def szs(i n:Nat):List (List Int):=(List.range i).flatMap λ(a:Nat)=>(List.range n).map λ(b:Nat)=>[(a:Int)+1,(b:Int)+1]
theorem szs_mem{i n:Nat}{z:List Int}:z∈szs i n↔∃a b:Nat,a<i/\b<n/\z=[(a:Int)+1,(b:Int)+1]:=by
 unfold szs;rw[List.mem_flatMap]
 constructor
 .rintro⟨a,ha,hz⟩;obtain⟨b,hb,rfl⟩:=ao.mp hz;exact⟨a,b,aO.mp ha,aO.mp hb,Z⟩
 .rintro⟨a,b,ha,hb,rfl⟩;exact⟨a,aO.mpr ha,ao.mpr ⟨b,aO.mpr hb,Z⟩⟩
theorem Md{n:Nat}:∀i,(szs i n).length=i*n
 |0=>by unfold szs;simp
 |i+1=>by
  have h:=Md (n:=n) i;unfold szs at h |-;rw[bA,db,aq,h,eO];simp
theorem SX{κ:Type}[DecidableEq κ](kvs:List<|κ×V)(k:κ)(v:V):(De kvs k v).length<=kvs.length+1:=by
 unfold De;split
 .rw[aa];exact bT _
 .rw[aq];exact ah _
noncomputable abbrev VG:LSz:=["longest","sizes","length","strips","thick"]
theorem Kx{f:jF}{fd:jM}(F:Fun K "all_strips" "all_strips" DW f fd)(T:Txt mg tk)(iX:Ar P w K mg jD 3 "strips_of_size" nQ KL):A8 P w K mg jD CX0 4 f fd nj IV:=by
 have S:Al VG nj (Ah DW):=fsk;refine F.g S ?_;rintro vs H Q E ⟨n,rfl,n1,n4,q⟩;refine⟨Z,λcdv A jz s hr=>?_⟩;have hu:=Ew hr;obtain⟨m,rfl⟩:∃m:Nat,n=m:=⟨n.toNat,by lia⟩;refine⟨_,(Ac (Az 1 S.nd<|AJ BF)
  (Ac (AF PassesOwn.never Z (AV Z T.z_range<|Aa Ab<|Aj<|Ao A7 Ai Ab) (AD (i:=2) S.nd Z<|dB Z)<|Ag<|AM<|Ti bE fh fg Lj Ak<|Aj<|B9 Z (AV Z T.z_range<|Aa Ab<|Aj<|Ao A7 Ai Ab) (λ_ _ _ _ _=>pgk<|nk ["thick","length"]) (λ_ _ _ _ _=>(A4<|Aa Ak<|Aj Ai)) (N:=["thick","length"]) (fr:=[Y,O 2]))
  (Ac (Az 3 S.nd Jj)
  (Ac (AF PassesOwn.never Z (AA<|Pc Z T.z_sorted Z T.z_sum<|Aj Ak) (BS Z<|Au (AD (i:=2) S.nd Z<|dB Z)<|Au (AS 4 S.nd) AY)<|Ag<|Gh hu A2 (A4<|Aa Ap<|Aj AE) (Am iX hr<|Aa A2<|Aa Ap<|Aj AE) Z)
  (Ag<|Aq A2))))),?_⟩
 refine⟨Ay 0,λl nl=>?_⟩;refine nv nl λH0 s0 e0=>?_;refine⟨_,Z,_,_,Z,Z,1,(m:Int)+1,Z,⟨by lia,by lia,by lia,by lia⟩,AT (lo:=1) (n:=((m:Int)+1-1).toNat) (λi B H'=>(∃y2,B=[O<|.int m,O<|.ref l,y2,Y,Y])/\Same H H'/\∃ts:List<|jF×List Int,H' l=O (.lst<|A1 ts)/\(∀t∈ts,H' t.1=O (.tup<|t.2.map V.int))/\ts.map (·.2)=szs i m) ⟨⟨_,Z⟩,s0,[],e0,(λt ht=>nomatch ht),Z⟩ ?_ ?_⟩
 .rintro i B H1 hi ⟨⟨y2,rfl⟩,s1,ts,t1,t2,t3⟩;refine⟨_,Z,.inl ⟨Z,_,SqL.of t1⟩,_,Z,_,_,Z,Z,1,(m:Int)+1,Z,⟨by lia,by lia,by lia,by lia⟩,λacc jE=>Eo (lo:=1) (n:=((m:Int)+1-1).toNat) (λj zs B H'=>(∃x,B=[x,O<|.int<|1+(i:Int)])/\Same H1 H'/\∃us:List<|jF×List Int,zs=A1 us/\(∀t∈us,H' t.1=O (.tup<|t.2.map V.int))/\us.map (·.2)=(List.range j).map λ(b:Nat)=>[(i:Int)+1,(b:Int)+1]) ⟨⟨_,Z⟩,Same.new jE,[],Z,(λt ht=>nomatch ht),Z⟩ ?_ ?_⟩
  .rintro j zs B H2 hj hz ha2 ⟨⟨x,rfl⟩,s2,us,rfl,u2,u3⟩;refine⟨_,Z,_,Z,Ay 2,λt nt=>?_⟩;obtain⟨H3,e,s3,e3⟩:=nw (.tup<|[(i:Int)+1,(j:Int)+1].map V.int) nt;have e:upd H2 t (.tup [.int<|1+(i:Int),.int<|1+(j:Int)])=H3:=by rw[dL 1 (i:Int),dL 1 (j:Int)];exact e
   rw[e];clear e;have ha3:=s3 _ _ ha2;have kp:∀{x:jF}{xs o:LUz},H3 x=O (.tup xs)->(upd H3 acc<|.lst o) x=O (.tup xs):=λh=>by rw[Af<|AQ h ha3 (by intro z;cases z)];exact h
   refine cNx.mk (aK<|An<|by lia) hj hz ha3 ⟨⟨_,Z⟩,λx o e=>?_,us++[(t,[(i:Int)+1,(j:Int)+1])],by rw[A1,A1,af];rfl,λu hu=>?_,?_⟩
   .rw[Af<|Ad e jE];exact s3 _ _<|s2 _ _ e
   .rcases aw.mp hu with hu|hu
    .exact kp (s3 _ _<|u2 u hu)
    .rw[ae.mp hu];exact kp e3
   .rw[af,u3,bA,af];rfl
  .rintro zs B H2 hz ha2 ⟨_,s2,us,rfl,u2,u3⟩;rw[show((m:Int)+1-1).toNat=m by lia]at u3 hz;have tl:=congrArg List.length t3;rw[aa,Md]at tl;have l2:=s2 _ _ t1;have:i*m<=4*4:=dm (by lia) (by lia);refine⟨l,acc,A1 ts,A1 us,Z,Z,l2,ha2,aK (An (by rw[AK,AK];rw[AK]at hz;lia)),⟨_,Z⟩,λx o e=>?_,ts++us,by rw[Ae,A1,A1,A1,af],λt ht=>?_,?_⟩
   .rw[Af<|Ad e nl];exact s2 _ _<|s1 _ _ e
   .rw[Af (λz=>by
     rcases aw.mp ht with ht|ht
     .have:=s2 _ _<|t2 t ht;rw[z,l2]at this;cases this
     .have:=u2 t ht;rw[z,l2]at this;cases this)]
    rcases aw.mp ht with ht|ht
    .exact s2 _ _ (t2 t ht)
    .exact u2 t ht
   .rw[af,t3,u3];unfold szs;rw[bA,db];simp
 .rintro B H1 ⟨⟨y2,rfl⟩,s1,ts,t1,t2,t3⟩;rw[show((m:Int)+1-1).toNat=m by lia]at t3;have tl:=congrArg List.length t3;rw[aa,Md]at tl;have:m*m<=4*4:=dm (by lia) (by lia);refine λd nd=>?_;refine nv nd λH2 s2 e2=>?_;refine⟨_,Z,l,ts,Z,SqL.of<|s2 _ _ t1,by lia,Z,λt ht=>s2 _ _<|t2 t ht,λlr ts' nlr pm srt=>?_⟩;refine nv nlr λH3 s3 e3=>?_;have s13:=s1.trans<|s2.trans s3;have mem:∀t∈ts',H3 t.1=O (.tup<|t.2.map V.int)/\∃a b:Nat,a<m/\b<m/\t.2=[(a:Int)+1,(b:Int)+1]:=λt ht=>by
   have h:=pm.mem_iff.mp ht;exact⟨(s2.trans s3) _ _<|t2 t h,szs_mem.mp (by rw[<-t3];exact ao.mpr ⟨t,h,Z⟩)⟩
  refine⟨lr,Z,⟨_,SqL.of e3⟩,Bn (K:=K) (a:=lr) (xs:=A1 ts') (λi B H'=>(∃y2 y4,B=[O<|.int m,O<|.ref l,y2,O<|.ref d,y4])/\(∀x o,x≠d->H3 x=O o->H' x=O o)/\∃kvs:LKz,H' d=O (.dT kvs)/\kvs.length<=i/\∀j,j<i->∀t,ts'[j]?=O t->∀a b:Int,t.2=[a,b]->∃dd,Bo kvs [Sum.inl a,Sum.inl b]=O (.ref dd)/\H' dd=O (.dK<|kvB<|A0 a b)) ⟨⟨_,_,Z⟩,(λx o _ e=>e),[],s3 _ _ e2,ah _,(λj hj=>absurd hj<|Nat.not_lt_zero j)⟩ (λi B H' _ hp=>SqL.of<|hp.2.1 _ _ (AQ e3 (s3 _ _ e2) (by intro z;cases z)) e3) ?_ ?_⟩
  .rintro i v B H4 hv ⟨⟨y2,y4,rfl⟩,k4,kvs,h4,kl,hj⟩;obtain⟨t,ht,rfl⟩:=AZ hv;obtain⟨h3,a,b,am,bm,et⟩:=mem t<|ak ht;rw[et]at h3;have d3:=s3 _ _ e2;have h4t:H4 t.1=O (.tup [.int<|(a:Int)+1,.int<|(b:Int)+1]):=k4 _ _ (AQ h3 d3 (by intro z;cases z)) h3;have il:=(aD.mp ht).1;have tl':ts'.length=m*m:=by rw[pm.length_eq];exact tl
   refine⟨t.1,_,Z,SqT.of h4t,Z,_,_,Z,_,_,Z,Z,_,Z,_,Z,_,Z,d,(a:Int)+1,(b:Int)+1,Z,by lia,by lia,by lia,by lia,⟨kvs,h4,λx y ⟨ex,y1,y2⟩=>?_⟩,λdd H5 s5 n5 h5=>⟨_,Z,_,Z,_,Z,Ay 2,λt6 n6=>?_⟩⟩
   .have hm:[x,y]∈szs m m:=szs_mem.mpr ⟨b,(y-1).toNat,bm,by lia,by rw[ex,show(((y-1).toNat:Nat):Int)+1=y by lia]⟩;rw[<-t3]at hm;obtain⟨u,hu,eu⟩:=ao.mp hm;obtain⟨j,hj'⟩:=fM.mp<|pm.mem_iff.mpr hu;refine hj j ?_ u hj' x y eu;refine Nat.lt_of_not_le λle=>?_;have jl:=(aD.mp hj').1;rw[ai jl]at hj';rw[ai il]at ht;have e1:ts'[j].2=[x,y]:=by rw[Option.some.inj hj'];exact eu
    have e4:ts'[i].2=[(a:Int)+1,(b:Int)+1]:=by rw[Option.some.inj ht];exact et
    have ne:i≠j:=λz=>by
     subst z;rw[e1]at e4;have:=(List.cons.inj (List.cons.inj e4).2).1;have:=(List.cons.inj e4).1;lia
    have:=ce.mp srt i j (by rw[aa];exact il) (by rw[aa];exact jl) (by lia);rw[List.getElem_map,List.getElem_map,e1,e4]at this;simp only[cI,bI]at this;lia
   .refine nv n6 λH6 s6 e6=>?_;have s46:=s5.trans s6;have h6:=s46 _ _ h4;have d6:=s6 _ _ h5;refine⟨d,_,Z,DPut.t (k:=[Sum.inl<|(a:Int)+1,Sum.inl<|(b:Int)+1]) h6 e6 (An<|by lia),⟨_,_,Z⟩,λx o xd e=>by rw[Af xd];exact s46 _ _<|k4 x o xd e,_,Ae,aV (SX _ _ _) (by lia),λj hj2 u hu x y eu=>?_⟩;rw[DA];by_cases c:([Sum.inl x,Sum.inl y]:List Key)=[Sum.inl<|(a:Int)+1,Sum.inl<|(b:Int)+1]
    .rw[jP c];have c1:x=(a:Int)+1:=Sum.inl.inj (List.cons.inj c).1;have c2:y=(b:Int)+1:=Sum.inl.inj (List.cons.inj (List.cons.inj c).2).1;exact⟨dd,Z,by rw[Af (AQ d6 h6 (by intro z;cases z)),c1,c2];exact d6⟩
    .rw[jK c];have ji:j≠i:=λz=>by
      rw[z,ht]at hu;cases hu;rw[et]at eu;exact c (by rw[<-(List.cons.inj eu).1,<-(List.cons.inj (List.cons.inj eu).2).1])
     obtain⟨d7,v1,v2⟩:=hj j (by lia) u hu x y eu;exact⟨d7,v1,by rw[Af<|AQ (s46 _ _ v2) h6 (by intro z;cases z)];exact s46 _ _ v2⟩
  .rintro B H4 ⟨⟨y2,y4,rfl⟩,k4,kvs,h4,kl,hj⟩;refine⟨_,Z,q d H4 (λx o e=>k4 _ _ (Ad (s1 _ _ e) nd)<|s13 _ _ e) ⟨kvs,h4,λx y ⟨x1,x2,y1,y2⟩=>?_⟩⟩;have hm:[x,y]∈szs m m:=szs_mem.mpr ⟨(x-1).toNat,(y-1).toNat,by lia,by lia,by rw[show(((x-1).toNat:Nat):Int)+1=x by lia,show(((y-1).toNat:Nat):Int)+1=y by lia]⟩;rw[<-t3]at hm;obtain⟨u,hu,eu⟩:=ao.mp hm;obtain⟨j,hj'⟩:=fM.mp<|pm.mem_iff.mpr hu;exact hj j (by rw[AK];exact(aD.mp hj').1) u hj' x y eu
theorem Fc:∀{t:Tr}{p:Rk},Dg p t->∀r c,p.t<=r->r<p.b->p.l<=c->c<p.r->∃g∈AI t p,GB.Rc.has g.1 r c
 |.whole m,p,_,r,c,a1,a2,a3,a4=>⟨(p,m),by rw[AI];exact ae.mpr Z,a1,a2,a3,a4⟩
 |.cut u k x y,p,f,r,c,a1,a2,a3,a4=>by
  rw[fitR_cut]at f;obtain⟨⟨b1,b2⟩,fx,fy⟩:=f;rw[AI];cases u with
  |true=>
   by_cases h:c<p.l+k
   .obtain⟨g,hg,z⟩:=Fc (p:=p.fst nZ k) fx r c a1 a2 a3 h;exact⟨g,be _ hg,z⟩
   .obtain⟨g,hg,z⟩:=Fc (p:=p.oth nZ k) fy r c a1 a2 (show p.l+k<=c by lia) a4;exact⟨g,aB _ hg,z⟩
  |false=>
   by_cases h:r<p.t+k
   .obtain⟨g,hg,z⟩:=Fc (p:=p.fst oe k) fx r c a1 h a3 a4;exact⟨g,be _ hg,z⟩
   .obtain⟨g,hg,z⟩:=Fc (p:=p.oth oe k) fy r c (show p.t+k<=r by lia) a2 a3 a4;exact⟨g,aB _ hg,z⟩
theorem P1{t:Tr}{ww hh:Int}(w1:1<=ww)(h1:1<=hh)(f:Fit t ww hh):GB.Tiles ww hh ((AI t ⟨0,0,hh,ww⟩).map (·.1)):=by
 refine⟨λp hp=>?_,JL (p:=⟨0,0,hh,ww⟩) (show(0:Int)<hh by lia) (show(0:Int)<ww by lia)<|Vz f,λr c a1 a2 a3 a4=>?_⟩
 .obtain⟨g,hg,rfl⟩:=ao.mp hp;exact Vt w1 h1 f g hg
 .obtain⟨g,hg,z⟩:=Fc (p:=⟨0,0,hh,ww⟩) (Vz f) r c a1 a2 a3 a4;exact⟨g.1,ao.mpr ⟨g,hg,Z⟩,z⟩
noncomputable def trn:Tr->Tr
 |.whole m=>.whole m
 |.cut u k x y=>.cut (!u) k (trn x)<|trn y
theorem Ft:∀{t:Tr}{w h:Int},Fit t w h->Fit (trn t) h w
 |.whole _,w,h,_=>by rw[trn,Fit];trivial
 |.cut u k x y,w,h,f=>by
  rw[trn,Fit];cases u with
  |true=>
   obtain⟨a,b,c,d⟩:=f;exact⟨a,b,Ft c,Ft d⟩
  |false=>
   obtain⟨a,b,c,d⟩:=f;exact⟨a,b,Ft c,Ft d⟩
noncomputable def btB(c:Int)(j:Nat):Bool:=!decide (Builtin.bitAnd c (1*2^j)=0)
noncomputable def mkB:List Int->Int->Bool
 |[],_=>oe
 |p::r,z=>og (z=p)||mkB r (z-p)
noncomputable def allP:List (List Int):=[[],[1],[2],[3],[4],[1,1],[1,2],[2,1],[1,3],[3,1],[2,2],[1,1,1],[1,1,2],[1,2,1],[2,1,1],[1,1,1,1]]
theorem QX:allP.all (λps=>og (ps.tail∈allP)&&ps.all λp=>og (1<=p)&&og (p<=4))=nZ:=by decide +kernel
noncomputable def UT(h:Int):List Int->Nat->Bool
 |[],c=>og (A3 [(B7 h,1)] (c:Int)<=1)&&(og (A3 [(B7 h,1)] (c:Int)<=0)||(List.range 3).all λj=>og (h<=(j:Int)+1)||!btB (c:Int) j)
 |p::r,c=>og<|A3 (Aw (p::r) h) (c:Int)=AB (A0 h p) (Aw r h) (c:Int) (A0 h p).length
theorem ST:(List.range 4).all (λh=>allP.all λps=>(List.range 8).all λc=>UT ((h:Int)+1) ps c&&(og (0<=A3 (Aw ps<|(h:Int)+1) (c:Int))&&og (A3 (Aw ps<|(h:Int)+1) (c:Int)<=1000000000)))=nZ:=by decide +kernel
noncomputable def lnB(n:Nat)(a:Nat):Bool:=og (Ax (n:Int) a∈allP)&&og ((Ax (n:Int) a).sum=(a:Int)+1)&&(List.range a).all λj=>mkB (Ax (n:Int) a) ((j:Int)+1)==btB (n:Int) j
noncomputable def Uv(n:Int):Nat->Int
 |0=>0
 |k+1=>Uv n k+if btB n k=nZ then 1*2^k else 0
noncomputable def stB(a b:Nat)(n:Nat):Bool:=match C5 (A0 ((a:Int)+1)<|(b:Int)+1) (n:Int)with
 |none=>oe
 |some v=>if n=0 then og (v=1)else og (v=A3 (Aw (Ax (n:Int) a)<|(b:Int)+1) (B7<|(b:Int)+1))&&(Ax (n:Int) a).all λp=>og<|p<=a
theorem R3:(List.range 4).all (λa=>(List.range 4).all λb=>og ((A0 ((a:Int)+1)<|(b:Int)+1).length=2^a)&&(List.range<|2^a).all (stB a b))=nZ:=by decide +kernel
theorem TC:(List.range 4).all (λa=>(List.range<|2^a).all λn=>lnB n a&&og (Uv (n:Int) a=(n:Int)))=nZ:=by decide +kernel
theorem PK:(List.range 4).all (λw=>(List.range 4).all λh=>og<|tab ((w:Int)+1) ((h:Int)+1)=((List.range<|2^w).map λ(i:Nat)=>BN<|Aw (Ax (i:Int) w)<|(h:Int)+1).sum)=nZ:=by decide +kernel
theorem K9:(List.range 4).all (λh=>(List.range h).all λj=>btB (B7<|(h:Int)+1) j)=nZ:=by decide +kernel
theorem VB:(List.range 8).all (λc=>(List.range 8).all λn=>(List.range 3).all λj=>btB (Builtin.bitAnd (c:Int) (n:Int)) j==(btB (c:Int) j&&btB (n:Int) j))=nZ:=by decide +kernel
theorem K5{a:Int}(a1:1<=a)(a4:a<=4):∃k:Nat,k<4/\a=(k:Int)+1:=⟨(a-1).toNat,by lia,by lia⟩
theorem U1{p:Int}{r:List Int}(h:p::r∈allP):r∈allP:=by
 have:=az.mp QX _ h;rw[av,jO]at this;exact this.1
theorem C7{ps:List Int}(h:ps∈allP){p:Int}(hp:p∈ps):1<=p/\p<=4:=by
 have:=az.mp QX _ h;rw[av]at this;have:=az.mp this.2 p hp;rw[av,jO,jO]at this;exact this
theorem Fn{h c:Int}{ps:List Int}(h1:1<=h)(h4:h<=4)(m:ps∈allP)(c0:0<=c)(c8:c<8):UT h ps c.toNat=nZ/\0<=A3 (Aw ps h) c/\A3 (Aw ps h) c<=1000000000:=by
 obtain⟨k,hk,rfl⟩:=K5 h1 h4;have:=az.mp (az.mp (az.mp ST k<|aO.mpr hk) ps m) c.toNat (aO.mpr<|by lia);rw[av,av,jO,jO,bn c0]at this;exact this
theorem KS{h c p:Int}{r:List Int}(h1:1<=h)(h4:h<=4)(m:p::r∈allP)(c0:0<=c)(c8:c<8):A3 (Aw (p::r) h) c=AB (A0 h p) (Aw r h) c (A0 h p).length:=by
 have:=(Fn h1 h4 m c0 c8).1;rw[UT,jO,bn c0]at this;exact this
theorem SS{h c:Int}(h1:1<=h)(h4:h<=4)(c0:0<=c)(c8:c<8)(pos:0<A3 (Aw [] h) c):A3 (Aw [] h) c<=1/\∀j:Nat,(j:Int)+1<h->btB c j=oe:=by
 have:=(Fn h1 h4 (show[]∈allP by decide) c0 c8).1;rw[UT,av,bW,jO,jO,bn c0]at this;refine⟨this.1,λj hj=>?_⟩;rcases this.2 with z|z
 .exact absurd z (Int.not_le.mpr pos)
 .have:=az.mp z j (aO.mpr<|by lia);rw[bW,jO]at this;rcases this with y|y
  .lia
  .cases z2:btB c j with
   |false=>rfl
   |true=>rw[z2]at y;cases y
theorem Ga{a b:Int}(a1:1<=a)(a4:a<=4)(b1:1<=b)(b4:b<=4):(A0 a b).length=2^(a-1).toNat/\∀n:Nat,n<2^(a-1).toNat->∃v,C5 (A0 a b) (n:Int)=O v/\(n=0->v=1)/\(n≠0->v=A3 (Aw (Ax (n:Int) (a-1).toNat) b) (B7 b)/\∀p∈Ax (n:Int) (a-1).toNat,p<a):=by
 obtain⟨x,hx,rfl⟩:=K5 a1 a4;obtain⟨y,hy,rfl⟩:=K5 b1 b4;have:=az.mp (az.mp R3 x<|aO.mpr hx) y<|aO.mpr hy;rw[av,jO]at this;rw[show((x:Int)+1-1).toNat=x by lia];refine⟨this.1,λn hn=>?_⟩;have:=az.mp this.2 n<|aO.mpr hn;unfold stB at this;split at this
 .cases this
 .rename_i v e;refine⟨v,e,λz=>?_,λz=>?_⟩
  .rw[jP z,jO]at this;exact this
  .rw[jK z,av,jO]at this;refine⟨this.1,λp hp=>?_⟩;have:=jY<|az.mp this.2 p hp;lia
theorem Fr{a:Int}(a1:1<=a)(a4:a<=4){n:Nat}(hn:n<2^(a-1).toNat):Ax (n:Int) (a-1).toNat∈allP/\(Ax (n:Int) (a-1).toNat).sum=a/\(∀j:Nat,(j:Int)+1<a->mkB (Ax (n:Int) (a-1).toNat) ((j:Int)+1)=btB (n:Int) j)/\Uv (n:Int) (a-1).toNat=(n:Int)/\n<8:=by
 obtain⟨x,hx,rfl⟩:=K5 a1 a4;rw[show((x:Int)+1-1).toNat=x by lia]at hn |-;have:=az.mp (az.mp TC x<|aO.mpr hx) n<|aO.mpr hn;rw[av,jO]at this;unfold lnB at this;rw[av,av,jO,jO]at this;refine⟨this.1.1.1,this.1.1.2,λj hj=>eq_of_beq (az.mp this.1.2 j<|aO.mpr<|by lia),this.2,aP hn<|cg (by decide) (show x<=3 by lia)⟩
theorem QW{c:Int}{n j:Nat}(c0:0<=c)(c8:c<8)(n8:n<8)(j3:j<3):btB (Builtin.bitAnd c (n:Int)) j=(btB c j&&btB (n:Int) j):=by
 have:=az.mp (az.mp (az.mp VB c.toNat<|aO.mpr<|by lia) n<|aO.mpr n8) j<|aO.mpr j3;rw[bn c0]at this;exact eq_of_beq this
theorem Lp{rs:List Rk}{n:Int}:∀m:Nat,(∀k:Nat,k<m->((∀r∈rs,¬(r.l<(k:Int)+1/\(k:Int)+1<r.r))↔btB n k=nZ))->((GV rs nZ 0 m).map λl=>(1*2^(l-1).toNat:Int)).sum=Uv n m
 |0,_=>rfl
 |m+1,h=>by
  rw[GV,Uv,af,bQ,Lp m λk hk=>h k<|by lia];congr 1;have hm:=h m<|bS m;by_cases c:btB n m=nZ
  .rw[jP c,jK (λz=>by
    obtain⟨r,hr,z⟩:=bL.mp z;have z:=brkR_iff.mp z;exact hm.mpr c r hr ⟨by have:=z.1;show r.l<_;rw[bF,dL]at this;exact this,by have:=z.2;rw[bF,dL]at this;exact this⟩)]
   show(1*2^((0:Int)+1+m-1).toNat:Int)+0=_;rw[show((0:Int)+1+m-1).toNat=m by lia,bK]
  .rw[jK c];have:rs.any (Df nZ<|0+1+(m:Int))=nZ:=by
    refine Decidable.byContradiction λz=>c<|hm.mp λr hr y=>z<|bL.mpr ⟨r,hr,brkR_iff.mpr ?_⟩;rw[bF,dL];exact y
   rw[jP this];rfl
def nbU(S:List P4)(z:Int):Prop:=∀q∈S,¬(q.2.1<z/\z<q.2.2.2)
theorem nbU.perm{S Q:List P4}{z:Int}(e:Q.Perm S):nbU Q z↔nbU S z:=⟨λh q hq=>h q<|e.mem_iff.mpr hq,λh q hq=>h q<|e.mem_iff.mp hq⟩
theorem Oa{S:List P4}{a b:Int}{n:Nat}(a1:1<=a)(a4:a<=4)(hn:n<2^(a-1).toNat)(h:∀j:Nat,(j:Int)+1<a->(nbU S ((j:Int)+1)↔btB (n:Int) j=nZ)):B1 S a b=(n:Int):=by
 have:=Lp (rs:=S.map rk) (n:=(n:Int)) (a-1).toNat λk hk=>by
  rw[<-h k (by lia)];exact⟨λz q hq=>z _<|ao.mpr ⟨q,hq,Z⟩,λz r hr=>by obtain⟨q,hq,rfl⟩:=ao.mp hr;exact z q hq⟩
 rw[(Fr a1 a4 hn).2.2.2.1]at this;rw[<-this];unfold B1 lns;show((GV _ nZ 0 (a-(0+1)).toNat).map _).sum=_;rw[bF]
theorem MQ{fs lt:BL}{c x:Int}:∀(k n:Nat),fs.length<=n+k->AB fs lt c n<=x->x<AB fs lt c fs.length->n<=fs.length->∃m,JR fs lt c x k n=O m/\m<fs.length/\AB fs lt c m<=x/\x<AB fs lt c (m+1)
 |0,n,h,a,b,l=>by
  have:n=fs.length:=by lia
  rw[this]at a;lia
 |k+1,n,h,a,b,l=>by
  have nl:n<fs.length:=by
   refine Nat.lt_of_le_of_ne l λz=>?_;rw[z]at a;lia
  rw[JR,jP nl];by_cases c2:AB fs lt c (n+1)<=x
  .rw[jP c2];exact MQ k (n+1) (by lia) c2 b nl
  .rw[jK c2];exact⟨n,Z,nl,a,by lia⟩
theorem Kb(fs lt:BL)(c:Int)(n:Nat):AB fs lt c (n+1)=AB fs lt c n+(C5 fs (n:Int)).getD 0*A3 lt (Builtin.bitAnd c (n:Int)):=by
 unfold AB;rw[bA,af,bQ];show _+(Xf fs lt c n+0)=_;rw[bK];rfl
def Cutt(S:List P4)(p:Rk):Prop:=∃t,Dg p t/\(mks<|S.map rk).Perm (AI t p)
theorem Cutt.perm{S Q:List P4}{p:Rk}(c:Cutt S p)(e:Q.Perm S):Cutt Q p:=by
 obtain⟨t,f,g⟩:=c;exact⟨t,f,((e.map _).map _).trans g⟩
theorem Cutt.ins{S:List P4}{p:Rk}(ok:p.ok)(c:Cutt S p){q:P4}(h:q∈S):p.t<=q.1/\q.1<q.2.2.1/\q.2.2.1<=p.b/\p.l<=q.2.1/\q.2.1<q.2.2.2/\q.2.2.2<=p.r:=by
 obtain⟨t,f,g⟩:=c;exact CF ok.1 ok.2 f (rk q,Y)<|g.mem_iff.mp<|ao.mpr ⟨rk q,ao.mpr ⟨q,h,Z⟩,Z⟩
noncomputable def tuR(b:Int)(p:Rk):Rk:=⟨p.l,b+p.t,p.r,b+p.b⟩
theorem MM(b:Int):∀(t:Tr)(p:Rk),AI (trn t) (tuR b p)=(AI t p).map λg=>(tuR b g.1,g.2)
 |.whole m,p=>rfl
 |.cut u k x y,p=>by
  rw[trn,AI,AI,af,<-MM b x,<-MM b y];have e1:(tuR b p).fst (!u) k=tuR b (p.fst u k):=by
   cases u
   .show(⟨p.l,b+p.t,p.r,b+p.t+k⟩:Rk)=⟨p.l,b+p.t,p.r,b+(p.t+k)⟩;rw[eh]
   .rfl
  have e2:(tuR b p).oth (!u) k=tuR b (p.oth u k):=by
   cases u
   .show(⟨p.l,b+p.t+k,p.r,b+p.b⟩:Rk)=⟨p.l,b+(p.t+k),p.r,b+p.b⟩;rw[eh]
   .rfl
  rw[e1,e2]
theorem Cutt.tu{S:List P4}{p:Rk}(c:Cutt S p)(b:Int):Cutt (S.map<|Ef b) (tuR b p):=by
 obtain⟨t,f,g⟩:=c;refine⟨trn t,?_,?_⟩
 .have:Fit (trn t) (b+p.b-(b+p.t)) (p.r-p.l):=by
   rw[show b+p.b-(b+p.t)=p.b-p.t by lia];exact Ft f
  exact this
 .rw[MM];have:=g.map λg=>(tuR b g.1,g.2);rw[aA,aA]at this;rw[aA];show((S.map _).map _).Perm _;rw[aA];exact this
theorem Cutt.join{A nY:List P4}{h l m e:Int}(a:Cutt A ⟨0,l,h,m⟩)(b:Cutt nY ⟨0,m,h,e⟩)(h1:l<m)(h2:m<e):Cutt (A++nY) ⟨0,l,h,e⟩:=by
 obtain⟨t,f,g⟩:=a;obtain⟨u,f2,g2⟩:=b;have e1:Rk.fst ⟨0,l,h,e⟩ nZ (m-l)=⟨0,l,h,m⟩:=by
  show(⟨0,l,h,l+(m-l)⟩:Rk)=_;rw[show l+(m-l)=m by lia]
 have e2:Rk.oth ⟨0,l,h,e⟩ nZ (m-l)=⟨0,m,h,e⟩:=by
  show(⟨0,l+(m-l),h,e⟩:Rk)=_;rw[show l+(m-l)=m by lia]
 refine⟨.cut nZ (m-l) t u,fitR_cut.mpr ⟨⟨by lia,by show m-l<e-l;lia⟩,by rw[e1];exact f,by rw[e2];exact f2⟩,?_⟩;rw[AI,e1,e2,af];show((A.map rk++nY.map rk).map _).Perm _;rw[af];exact g.append g2
structure Gs(k:Nat)(a b:Int)(n:Nat)(x:Int)(S:List P4):Prop where
 ct:Cutt S ⟨0,0,b,a⟩
 ln:∀j:Nat,(j:Int)+1<a->(nbU S ((j:Int)+1)↔btB (n:Int) j=nZ)
 lv:∀y,0<y->y<b->∃q∈S,q.1<y/\y<q.2.2.1
 nm:∀Q:List P4,Q.Perm S->Ie k Q a b n=O x
structure Gr(k:Nat)(h:Int)(ps:List Int)(c x b0:Int)(out:List P4):Prop where
 ct:ps≠[]->Cutt out ⟨0,b0,h,b0+ps.sum⟩
 up:∀z,b0<z->z<b0+ps.sum->(nbU out z↔mkB ps (z-b0)=nZ)
 lv:∀j:Nat,(j:Int)+1<h->btB c j=nZ->∃q∈out,q.1<(j:Int)+1/\(j:Int)+1<q.2.2.1
 nm:∀pre Q:List P4,(∀q∈pre,q.2.1<b0)->Q.Perm (pre++out)->K2 (Ie k) h Q ps c b0=O x
 nl:ps=[]->out=[]
theorem MC:∀{ps:List Int}{z:Int},(∀p∈ps,1<=p)->z<=0->mkB ps z=oe
 |[],z,_,_=>rfl
 |p::r,z,h,hz=>by
  have h1:=h p aE;rw[mkB,MC (ps:=r) (λq hq=>h q<|aF _ hq) (by lia),fz];exact jR (by lia)
theorem Me:∀{ps:List Int},(∀p∈ps,1<=p)->0<=ps.sum/\(ps≠[]->0<ps.sum)
 |[],_=>⟨aW _,λh=>absurd Z h⟩
 |p::r,h=>by
  have h1:=h p aE;have h2:=(Me (ps:=r) λq hq=>h q<|aF _ hq).1;rw[cI];exact⟨by lia,λ_=>by lia⟩
theorem Uz{pre S r:List P4}{b p:Int}(h1:∀q∈pre,q.2.1<b)(h2:∀q∈S,0<=q.1/\q.1<p)(h3:∀q∈r,b+p<=q.2.1):atF (pre++(S.map (Ef b)++r)) b p=S:=by
 unfold atF;have e1:pre.filter (λq=>og (b<=q.2.1)&&og (q.2.1<b+p))=[]:=cM.mpr λq hq z=>by
  rw[av,jO,jO]at z;have:=h1 q hq;lia
 have e2:r.filter (λq=>og (b<=q.2.1)&&og (q.2.1<b+p))=[]:=cM.mpr λq hq z=>by
  rw[av,jO,jO]at z;have:=h3 q hq;lia
 have e3:(S.map<|Ef b).filter (λq=>og (b<=q.2.1)&&og (q.2.1<b+p))=S.map (Ef b):=cj.mpr λq hq=>by
  obtain⟨u,hu,rfl⟩:=ao.mp hq;have:=h2 u hu;rw[av,jO,jO];exact⟨by show b<=b+u.1;lia,by show b+u.1<b+p;lia⟩
 rw[bt,bt,e1,e2,e3,cV,aJ,aA];refine(bC λq _=>?_).trans<|dw S;show(b+q.1-b,q.2.1,b+q.2.2.1-b,q.2.2.2)=q;rw[show b+q.1-b=q.1 by lia,show b+q.2.2.1-b=q.2.2.1 by lia]
theorem VA{Q R:List P4}{b p:Int}(e:Q.Perm R):(atF Q b p).Perm (atF R b p):=(e.filter _).map _
theorem IX{k:Nat}{h:Int}(h1:1<=h)(h4:h<=4):∀(ps:List Int),ps∈allP->(∀p∈ps,∀(n:Nat)(x:Int),n<2^(h-1).toNat->0<=x->x<(C5 (A0 h p) (n:Int)).getD 0->∃S,Bd k h p n x=O S/\Gs k h p n x S)->∀c x b0:Int,0<=c->c<8->0<=x->x<A3 (Aw ps h) c->∃out,GG (Bd k) h ps c x b0=O out/\Gr k h ps c x b0 out
 |[],_,_,c,x,b0,c0,c8,x0,x1=>by
  obtain⟨w1,w2⟩:=SS h1 h4 c0 c8 (by lia);have:x=0:=by lia
  subst this;refine⟨[],Z,λz=>absurd Z z,λz z1 z2=>?_,λj hj hb=>?_,λpre Q _ _=>rfl,λ_=>rfl⟩
  .rw[bI]at z2;lia
  .rw[w2 j hj]at hb;cases hb
 |p::r,m,HS,c,x,b0,c0,c8,x0,x1=>by
  have pp:=C7 m (p:=p) aE;have mr:=U1 m;have r1:∀q∈r,1<=q:=λq hq=>(C7 mr hq).1;obtain⟨sl,sv⟩:=Ga h1 h4 pp.1 pp.2;rw[KS h1 h4 m c0 c8]at x1;have p8:2^(h-1).toNat<=8:=cg (by decide) (show(h-1).toNat<=3 by lia);obtain⟨n,hn,nl,nb,na⟩:=MQ (fs:=A0 h p) (lt:=Aw r h) (c:=c) (x:=x) 9 0 (by lia) x0 x1<|aU _;rw[sl]at nl;have n8:n<8:=by lia
  obtain⟨v,hv,_⟩:=sv n nl;have ca:=Ni c0 c8 (b:=(n:Int)) (by lia) (by lia);obtain⟨_,w0,w9⟩:=Fn h1 h4 mr ca.1 ca.2;rw[Kb,hv]at na;have na:x-AB (A0 h p) (Aw r h) c n<v*A3 (Aw r h) (Builtin.bitAnd c (n:Int)):=by
   have na:x<AB (A0 h p) (Aw r h) c n+v*A3 (Aw r h) (Builtin.bitAnd c (n:Int)):=na;lia
  have nb:0<=x-AB (A0 h p) (Aw r h) c n:=by lia
  rw[GG,hn,bR];generalize hB:AB (A0 h p) (Aw r h) c n=nY at na nb;generalize hW:A3 (Aw r h) (Builtin.bitAnd c (n:Int))=W at na w0 w9;have wp:0<W:=by
   rcases Int.lt_or_eq_of_le w0 with z|z
   .exact z
   .rw[<-z,Int.mul_zero]at na;lia
  have q0:0<=(x-nY) / W:=Int.ediv_nonneg nb w0;have q1:(x-nY) / W<v:=Int.ediv_lt_of_lt_mul wp na;have m0:0<=(x-nY) % W:=bG _ (by lia);have m1:(x-nY) % W<W:=bx _ wp;obtain⟨S,hS,gs⟩:=HS p aE n ((x-nY) / W) nl q0 (by rw[hv];exact q1);obtain⟨out,ho,gr⟩:=IX h1 h4 r mr (λp hp=>HS p<|aF _ hp) (Builtin.bitAnd c (n:Int)) ((x-nY) % W) (b0+p) ca.1 ca.2 m0 (by rw[hW];exact m1);rw[jP ⟨wp,w9⟩,hS,bR,ho];refine⟨S.map (Ef b0)++out,Z,?_⟩;have okS:Rk.ok ⟨0,0,p,h⟩:=⟨by show(0:Int)<p;lia,by show(0:Int)<h;lia⟩;have inS:∀q∈S,0<=q.1/\q.1<p/\q.2.2.1<=p:=λq hq=>by
   obtain⟨i1,i2,i3,_⟩:=gs.ct.ins okS hq;exact⟨i1,Int.lt_of_lt_of_le i2 i3,i3⟩
  obtain⟨rs0,rs1⟩:=Me r1;have inR:∀q∈out,b0+p<=q.2.1:=λq hq=>by
   by_cases e:r=[]
   .rw[gr.nl e]at hq;cases hq
   .have:=gr.ct e;exact(this.ins ⟨by show(0:Int)<h;lia,by show b0+p<b0+p+r.sum;have:=rs1 e;lia⟩ hq).2.2.2.1
  have tuS:Cutt (S.map<|Ef b0) ⟨0,b0,h,b0+p⟩:=by
   have:=gs.ct.tu b0;unfold tuR at this;rw[show b0+(⟨0,0,p,h⟩:Rk).t=b0 from bK _]at this;exact this
  refine⟨λ_=>?_,λz z1 z2=>?_,λj hj hb=>?_,λpre Q hpre hQ=>?_,λz=>by cases z⟩
  .by_cases e:r=[]
   .rw[gr.nl e,aJ,e,cI,bI,bK];exact tuS
   .have:=tuS.join (e:=b0+p+r.sum) (gr.ct e) (by lia) (by have:=rs1 e;lia);rw[cI,<-eh];exact this
  .rw[cI]at z2;rw[mkB];rcases Int.lt_trichotomy (z-b0) p with lt|eq|gt
   .rw[jR (by lia),MC r1<|by lia];refine⟨λnb=>?_,λz=>by cases z⟩;obtain⟨q,hq,a,b⟩:=gs.lv (z-b0) (by lia) lt;exact absurd (show b0+q.1<z/\z<b0+q.2.2.1 by lia)<|nb (Ef b0 q)<|be _<|ao.mpr ⟨q,hq,Z⟩
   .rw[jI eq];refine⟨λ_=>rfl,λ_ q hq y=>?_⟩;rcases aw.mp hq with hq|hq
    .obtain⟨u,hu,rfl⟩:=ao.mp hq;have:=inS u hu;have y2:z<b0+u.2.2.1:=y.2;lia
    .have:=inR q hq;lia
   .rw[jR (by lia),fA,show z-b0-p=z-(b0+p) by lia,<-gr.up z (by lia) (by lia)];refine⟨λnb q hq=>nb q<|aB _ hq,λnb q hq y=>?_⟩;rcases aw.mp hq with hq|hq
    .obtain⟨u,hu,rfl⟩:=ao.mp hq;have:=inS u hu;have y2:z<b0+u.2.2.1:=y.2;lia
    .exact nb q hq y
  .by_cases e:btB (n:Int) j=nZ
   .obtain⟨q,hq,z⟩:=gr.lv j hj (by rw[QW c0 c8 n8 (by lia),hb,e];rfl);exact⟨q,aB _ hq,z⟩
   .have:=λz=>e<|(gs.ln j hj).mp z;unfold nbU at this;obtain⟨q,hq,z⟩:∃q∈S,q.2.1<(j:Int)+1/\(j:Int)+1<q.2.2.2:=by
     refine Decidable.byContradiction λy=>this λq hq z=>y ⟨q,hq,z⟩
    exact⟨Ef b0 q,be _<|ao.mpr ⟨q,hq,Z⟩,z⟩
  .have ap:=VA (b:=b0) (p:=p) hQ;rw[Uz hpre (λq hq=>⟨(inS q hq).1,(inS q hq).2.1⟩) inR]at ap;have li:B1 (atF Q b0 p) h p=(n:Int):=Oa h1 h4 nl λj hj=>(nbU.perm ap).trans<|gs.ln j hj;have nx:=gr.nm (pre++S.map (Ef b0)) Q (λq hq=>by
    rcases aw.mp hq with hq|hq
    .have:=hpre q hq;lia
    .obtain⟨u,hu,rfl⟩:=ao.mp hq;have:=inS u hu;show b0+u.1<b0+p;lia) (by rw[aX];exact hQ)
   have v9:v<=1000000000:=by
    have:=JJ hv;exact((BO h p).1 _ this).2.2
   rw[K2,li,bV,jP ⟨by lia,by rw[sl];exact nl⟩,gs.nm _ ap,bR];rw[jP ⟨q0,by lia⟩,nx,hB,hW];show O _=O _;congr 1;have:=Int.mul_ediv_add_emod (x-nY) W;rw[Int.mul_comm]at this;lia
theorem IJ:∀(k:Nat)(a b:Int)(n:Nat)(x:Int),1<=a->a<=4->1<=b->b<=4->a+b<=(k:Int)+1->n<2^(a-1).toNat->0<=x->x<(C5 (A0 a b) (n:Int)).getD 0->∃S,Bd k a b n x=O S/\Gs k a b n x S
 |0,a,b,n,x,a1,_,b1,_,ab,_,_,_=>by lia
 |k+1,a,b,n,x,a1,a4,b1,b4,ab,hn,x0,x1=>by
  obtain⟨_,sv⟩:=Ga a1 a4 b1 b4;obtain⟨v,hv,v0,vn⟩:=sv n hn;rw[hv]at x1;have x1:x<v:=x1;rw[Bd];by_cases e:n=0
  .rw[jP e];subst e;have:=v0 Z;have:x=0:=by lia
   subst this;refine⟨_,Z,⟨.whole Y,by unfold Dg;trivial,List.Perm.refl _⟩,λj hj=>⟨λnb=>?_,λz=>?_⟩,λy y0 y1=>⟨_,ae.mpr Z,y0,y1⟩,λQ _=>?_⟩
   .exact absurd (show(0:Int)<(j:Int)+1/\(j:Int)+1<a by lia) (nb _<|ae.mpr Z)
   .have:btB ((0:Nat):Int) j=oe:=by
     have:∀j:Fin 3,btB ((0:Nat):Int) j.val=oe:=by decide +kernel
     exact this ⟨j,by lia⟩
    rw[this]at z;cases z
   .rw[Ie,jP Z]
  .rw[jK e];obtain⟨ve,pl⟩:=vn e;obtain⟨pa,ps,pm,_,n8⟩:=Fr a1 a4 hn;obtain⟨f0,f8⟩:=G1 b1 b4;obtain⟨out,ho,gr⟩:=IX (k:=k) b1 b4 (Ax (n:Int) (a-1).toNat) pa (λp hp n x hn x0 x1=>IJ k b p n x b1 b4 (C7 pa hp).1 (C7 pa hp).2 (by have:=pl p hp;lia) hn x0 x1) (B7 b) x 0 f0 f8 x0 (by rw[<-ve];exact x1);refine⟨out,ho,?_,λj hj=>?_,λy y0 y1=>?_,λQ hQ=>?_⟩
   .have:=gr.ct (λz=>by rw[z,bI]at ps;lia);rw[ps,bF]at this;exact this
   .have:=gr.up ((j:Int)+1) (by lia) (by rw[ps];lia);rw[bP,pm j hj]at this;exact this
   .obtain⟨i,hi,rfl⟩:∃i:Nat,i<3/\y=(i:Int)+1:=⟨(y-1).toNat,by lia,by lia⟩;refine gr.lv i y1 ?_;obtain⟨hb,hb4,rfl⟩:=K5 b1 b4;exact az.mp (az.mp K9 hb<|aO.mpr hb4) i (aO.mpr<|by lia)
   .rw[Ie,jK e];exact gr.nm [] Q (λq hq=>nomatch hq) hQ
theorem OK{w h:Int}{N:Nat}(N8:N<=8):∀(k n:Nat)(x:Int),N<=n+k->n<=N->0<=x->x+((List.range n).map λ(i:Nat)=>BN<|Aw (Ax (i:Int) (w-1).toNat) h).sum<((List.range N).map λ(i:Nat)=>BN<|Aw (Ax (i:Int) (w-1).toNat) h).sum ->
  ∃(m:Nat)(y:Int),OL w h k n x=O (m,y)/\m<N/\0<=y/\y<BN (Aw (Ax (m:Int) (w-1).toNat) h)/\y+((List.range m).map λ(i:Nat)=>BN<|Aw (Ax (i:Int) (w-1).toNat) h).sum=x+((List.range n).map λ(i:Nat)=>BN<|Aw (Ax (i:Int) (w-1).toNat) h).sum
 |0,n,x,h1,h2,x0,lt=>by
  have:n=N:=by lia
  subst this;lia
 |k+1,n,x,h1,h2,x0,lt=>by
  have nN:n<N:=by
   refine Nat.lt_of_le_of_ne h2 λz=>?_;subst z;lia
  rw[OL,jP<|by lia];have sc:((List.range<|n+1).map λ(i:Nat)=>BN<|Aw (Ax (i:Int) (w-1).toNat) h).sum=((List.range n).map λ(i:Nat)=>BN<|Aw (Ax (i:Int) (w-1).toNat) h).sum+BN (Aw (Ax (n:Int) (w-1).toNat) h):=by
   rw[bA,af,bQ];show _+(_+0)=_;rw[bK]
  by_cases c:BN (Aw (Ax (n:Int) (w-1).toNat) h)<=x
  .rw[jP c];obtain⟨m,y,a1,a2,a3,a4,a5⟩:=OK N8 k (n+1) (x-BN (Aw (Ax (n:Int) (w-1).toNat) h)) (by lia) nN (by lia) (by rw[sc];lia);exact⟨m,y,a1,a2,a3,a4,by rw[a5,sc];lia⟩
  .rw[jK c];exact⟨n,x,Z,nN,x0,by lia,Z⟩
theorem Yy:∀a:Fin 8,Builtin.bitAnd (a.val:Int) 0=0:=by decide +kernel
theorem OO{d:BL}(h:KOk d):BN d=A3 d 0:=by
 have e:(d.filter λp=>og<|Builtin.bitAnd p.1 0=0)=d:=cj.mpr λp hp=>jI (by
  have k:=h.2 p hp;have:=Yy ⟨p.1.toNat,by lia⟩;rw[show((p.1.toNat:Nat):Int)=p.1 by lia]at this;exact this)
 unfold BN A3;rw[e]
theorem Pd{w h x:Int}(w1:1<=w)(w4:w<=4)(h1:1<=h)(h4:h<=4)(x0:0<=x)(x1:x<tab w h):∃out,D6 w h x=O out/\Cutt out ⟨0,0,h,w⟩/\∀Q:List P4,Q.Perm out->NO Q w h=O x:=by
 have tt:tab w h=((List.range<|2^(w-1).toNat).map λ(i:Nat)=>BN<|Aw (Ax (i:Int) (w-1).toNat) h).sum:=by
  obtain⟨a,ha,rfl⟩:=K5 w1 w4;obtain⟨b,hb,rfl⟩:=K5 h1 h4;rw[show((a:Int)+1-1).toNat=a by lia];exact jY<|az.mp (az.mp PK a<|aO.mpr ha) b<|aO.mpr hb
 rw[tt]at x1;have p8:2^(w-1).toNat<=8:=cg (by decide) (show(w-1).toNat<=3 by lia);obtain⟨n,y,ht,hn,y0,y1,ye⟩:=OK p8 9 0 x (by lia) (aU _) x0 (by rw[cK,bN,bI,bK];exact x1);rw[cK,bN,bI,bK]at ye;obtain⟨pa,ps,pm,_,n8⟩:=Fr w1 w4 hn;obtain⟨out,ho,gr⟩:=IX (k:=9) h1 h4 (Ax (n:Int) (w-1).toNat) pa (λp hp n x hn x0 x1=>IJ 9 h p n x h1 h4 (C7 pa hp).1 (C7 pa hp).2 (by have:=(C7 pa hp).2;lia) hn x0 x1) 0 y 0 (by lia) (by lia) y0 (by rw[<-OO (Dh h1 h4 _)];exact y1);refine⟨out,by unfold D6;rw[ht];exact ho,?_,λQ hQ=>?_⟩
 .have:=gr.ct (λz=>by rw[z,bI]at ps;lia);rw[ps,bF]at this;exact this
 .have li:B1 Q w h=(n:Int):=Oa w1 w4 hn λj hj=>by
   have:=gr.up ((j:Int)+1) (by lia) (by rw[ps];lia);rw[bP,pm j hj]at this;exact(nbU.perm hQ).trans this
  unfold NO;rw[li,jP ⟨by lia,by lia⟩,gr.nm [] Q (λq hq=>nomatch hq) hQ,bV];exact congrArg O ye
theorem QH(u:Bool):∀(t:Tr)(p:Rk),∃g∈AI t p,g.1.hi u=p.hi u
 |.whole m,p=>⟨(p,m),ae.mpr Z,Z⟩
 |.cut v k x y,p=>by
  obtain⟨g,hg,e⟩:=QH u y<|p.oth v k;exact⟨g,aB _ hg,by rw[e];cases u<;>cases v<;>rfl⟩
noncomputable def loU(u:Bool)(q:P4):Int:=if u then q.2.1 else q.1
noncomputable def hiU(u:Bool)(q:P4):Int:=if u then q.2.2.2 else q.2.2.1
theorem Cutt.part{S:List P4}{p:Rk}{u:Bool}{z:Int}(ok:p.ok)(c:Cutt S p)(z1:p.lo u<z)(z2:z<p.hi u)(nb:∀q∈S,¬(loU u q<z/\z<hiU u q)):Cutt (S.filter λq=>og<|hiU u q<=z) (p.fst u<|z-p.lo u)/\Cutt (S.filter λq=>og<|loU u q>=z) (p.oth u<|z-p.lo u)/\∃q∈S,hiU u q=z:=by
 have inn:=λq (hq:q∈S)=>c.ins ok hq;obtain⟨t,f,g⟩:=c;have lu:∀q:P4,(rk q).lo u=loU u q:=λq=>by cases u<;>rfl
 have hu:∀q:P4,(rk q).hi u=hiU u q:=λq=>by cases u<;>rfl
 have zz:p.lo u+(z-p.lo u)=z:=by lia
 obtain⟨_,f1,f2,g1,g2⟩:=Ld (u:=u) (a:=z-p.lo u) ok f g (by lia) (by rw[EO];lia) (λy hy=>by
  obtain⟨r,hr,rfl⟩:=ao.mp hy;obtain⟨q,hq,rfl⟩:=ao.mp hr;intro w;have w:(rk q).lo u<p.lo u+(z-p.lo u)/\p.lo u+(z-p.lo u)<(rk q).hi u:=w;rw[zz,lu,hu]at w;exact nb q hq w)
 rw[zz]at g1 g2;have lh:∀q∈S,loU u q<hiU u q:=λq hq=>by
  have:=inn q hq;cases u
  .exact this.2.1
  .exact this.2.2.2.2.1
 have s1:(mks<|S.map rk).filter (λg=>og<|g.1.lo u<z)=mks ((S.filter λq=>og<|hiU u q<=z).map rk):=by
  show((S.map rk).map _).filter _=((S.filter _).map rk).map _;rw[aA,aA,fc];refine congrArg (List.map _)<|cN λq hq=>?_;show og ((rk q).lo u<z)=_;rw[lu];have:=lh q hq;have:=nb q hq;exact decide_eq_decide.mpr ⟨λ_=>by lia,λ_=>by lia⟩
 have s2:(mks<|S.map rk).filter (λg=>og<|z<=g.1.lo u)=mks ((S.filter λq=>og<|loU u q>=z).map rk):=by
  show((S.map rk).map _).filter _=((S.filter _).map rk).map _;rw[aA,aA,fc];refine congrArg (List.map _)<|cN λq hq=>?_;show og (z<=(rk q).lo u)=_;rw[lu]
 rw[s1]at g1;rw[s2]at g2;refine⟨⟨_,f1,g1⟩,⟨_,f2,g2⟩,?_⟩;obtain⟨y,hy,e⟩:=QH u (ahd t u<|z-p.lo u)<|p.fst u<|z-p.lo u;obtain⟨r,hr,rfl⟩:=ao.mp<|g1.mem_iff.mpr hy;obtain⟨q,hq,rfl⟩:=ao.mp hr;refine⟨q,(bg.mp hq).1,?_⟩;rw[<-hu,<-zz,<-(RA (p:=p) (u:=u) (k:=z-p.lo u)).2.2.2.2];exact e
theorem Vf:(List.range 4).all (λh=>(List.range 8).all λc=>((List.range h).any λj=>btB (c:Int) j)||og (0<A3 [(B7<|(h:Int)+1,1)] (c:Int)))=nZ:=by decide +kernel
theorem T9:∀x y z:Bool,∃n:Fin 8,btB (n.val:Int) 0=x/\btB (n.val:Int) 1=y/\btB (n.val:Int) 2=z:=by decide +kernel
theorem Vh:∀a:Fin 4,∀n:Fin 8,(∀j:Fin 3,a.val<=j.val->btB (n.val:Int) j.val=oe)->n.val<2^a.val:=by decide +kernel
theorem Vg(f:Nat->Bool){a:Nat}(ha:a<4):∃n:Nat,n<2^a/\∀j,j<a->btB (n:Int) j=f j:=by
 obtain⟨n,e0,e1,e2⟩:=T9 (og (0<a)&&f 0) (og (1<a)&&f 1)<|og (2<a)&&f 2;have e:∀j,j<3->btB (n.val:Int) j=(og (j<a)&&f j):=λj hj=>by
  obtain rfl|rfl|rfl:j=0\/j=1\/j=2:=by lia
  .exact e0
  .exact e1
  .exact e2
 refine⟨n.val,Vh ⟨a,ha⟩ n λj hj=>?_,λj hj=>?_⟩
 .rw[e j.val j.2,jR (by have:a<=j.val:=hj;lia)];rfl
 .rw[e j (by lia),jI hj];rfl
theorem Uy{h c p:Int}{r:List Int}(h1:1<=h)(h4:h<=4)(mr:r∈allP)(c0:0<=c)(c8:c<8)(l8:(A0 h p).length<=8):∀{m n:Nat},n<=m->m<=(A0 h p).length->AB (A0 h p) (Aw r h) c n<=AB (A0 h p) (Aw r h) c m
 |0,n,a,b=>by
  have:n=0:=by lia
  subst this;exact aW _
 |m+1,n,a,b=>by
  by_cases e:n=m+1
  .subst e;exact aW _
  .refine dJ (Uy h1 h4 mr c0 c8 l8 (m:=m) (n:=n) (by lia)<|by lia) ?_;rw[Kb];have ca:=Ni c0 c8 (b:=(m:Int)) (by lia) (by lia);have w0:=(Fn h1 h4 mr ca.1 ca.2).2.1;have v0:0<=(C5 (A0 h p) (m:Int)).getD 0:=by
    cases hv:C5 (A0 h p) (m:Int)with
    |none=>exact aW _
    |some v=>exact((BO h p).1 _<|JJ hv).2.1
   have:=Int.mul_nonneg v0 w0;lia
abbrev SL:=List<|Nat×Int×List P4
def Rb(k:Nat)(h:Int):List Int->SL->Prop
 |[],[]=>True
 |p::r,s::L=>(s.1<2^(h-1).toNat/\0<=s.2.1/\s.2.1<(C5 (A0 h p) (s.1:Int)).getD 0/\Bd k h p s.1 s.2.1=O s.2.2)/\Rb k h r L
 |_,_=>False
noncomputable def Hl:Int->List Int->List (List P4)->List P4
 |b0,p::r,S::L=>S.map (Ef b0)++Hl (b0+p) r L
 |_,_,_=>[]
theorem IY{k:Nat}{h:Int}(h1:1<=h)(h4:h<=4):∀(ps:List Int)(L:SL),ps∈allP->Rb k h ps L->∀c b0:Int,0<=c->c<8->(∀j:Nat,(j:Int)+1<h->btB c j=nZ->∃s∈L,btB (s.1:Int) j=oe)->∃x,0<=x/\x<A3 (Aw ps h) c/\GG (Bd k) h ps c x b0=O (Hl b0 ps (L.map (·.2.2)))
 |[],[],_,_,c,b0,c0,c8,hb=>by
  refine⟨0,aW _,?_,Z⟩;obtain⟨a,ha,rfl⟩:=K5 h1 h4;have:=az.mp (az.mp Vf a<|aO.mpr ha) c.toNat (aO.mpr<|by lia);rw[bW,jO,bn c0]at this;rcases this with z|z
  .obtain⟨j,hj,z⟩:=bL.mp z;obtain⟨s,hs,_⟩:=hb j (by have:=aO.mp hj;lia) z;cases hs
  .exact z
 |p::r,s::L,m,⟨⟨nl,x0,x1,hS⟩,hR⟩,c,b0,c0,c8,hb=>by
  have pp:=C7 m (p:=p) aE;have mr:=U1 m;obtain⟨sl,sv⟩:=Ga h1 h4 pp.1 pp.2;have p8:2^(h-1).toNat<=8:=cg (by decide) (show(h-1).toNat<=3 by lia);have n8:s.1<8:=by lia
  obtain⟨v,hv,_⟩:=sv s.1 nl;have ca:=Ni c0 c8 (b:=(s.1:Int)) (by lia) (by lia);obtain⟨_,w0,w9⟩:=Fn h1 h4 mr ca.1 ca.2;obtain⟨y,y0,y1,hy⟩:=IY h1 h4 r L mr hR (Builtin.bitAnd c (s.1:Int)) (b0+p) ca.1 ca.2 (λj hj hbj=>by
   rw[QW c0 c8 n8 (by lia),av]at hbj;obtain⟨s',hs',z⟩:=hb j hj hbj.1;rcases aQ.mp hs' with rfl|hs'
   .rw[hbj.2]at z;cases z
   .exact⟨s',hs',z⟩)
  rw[hv]at x1;have x1:s.2.1<v:=x1;have mono:=λ{a b:Nat}=>Uy (p:=p) h1 h4 mr c0 c8 (by lia) (m:=b) (n:=a);have bs:=Kb (A0 h p) (Aw r h) c s.1;rw[hv]at bs;have bs:AB (A0 h p) (Aw r h) c (s.1+1)=AB (A0 h p) (Aw r h) c s.1+v*A3 (Aw r h) (Builtin.bitAnd c (s.1:Int)):=bs;have b00:0<=AB (A0 h p) (Aw r h) c s.1:=mono (aU _) (by lia);have top:=mono (show s.1+1<=(A0 h p).length by lia)<|ah _;have hx:=KS h1 h4 m c0 c8;have fo:=λx a b=>MQ (fs:=A0 h p) (lt:=Aw r h) (c:=c) (x:=x) 9 0 (by lia) a b<|aU _;have rf:∀x,GG (Bd k) h (p::r) c x b0=(JR (A0 h p) (Aw r h) c x 9 0).bind λn=>if 0<A3 (Aw r h) (Builtin.bitAnd c n)/\A3 (Aw r h) (Builtin.bitAnd c n)<=1000000000 then(Bd k h p n<|(x-AB (A0 h p) (Aw r h) c n) / A3 (Aw r h) (Builtin.bitAnd c n)).bind λps=>(GG (Bd k) h r (Builtin.bitAnd c n) ((x-AB (A0 h p) (Aw r h) c n) % A3 (Aw r h) (Builtin.bitAnd c n))<|b0+p).map λq=>ps.map (Ef b0)++q else Y:=λx=>rfl;generalize hB:AB (A0 h p) (Aw r h) c s.1=nY at bs b00;generalize hW:A3 (Aw r h) (Builtin.bitAnd c (s.1:Int))=W at bs w0 w9 y1;have wp:0<W:=by lia
  have m1:s.2.1*W+W<=v*W:=by
   have:=Int.mul_le_mul_of_nonneg_right (show s.2.1+1<=v by lia) w0;rw[Int.add_mul,Int.one_mul]at this;exact this
  have m0:=Int.mul_nonneg x0 w0;refine⟨nY+s.2.1*W+y,by lia,by rw[hx];lia,?_⟩;obtain⟨n,hn,nl',nb,na⟩:=fo (nY+s.2.1*W+y) (by show(0:Int)<=_;lia) (by lia);have en:n=s.1:=by
   rcases eS n s.1 with z|z|z
   .have:=mono (show n+1<=s.1 by lia) (by lia);lia
   .exact z
   .have:=mono (show s.1+1<=n by lia) (by lia);lia
  subst en;rw[rf,hn,bR,hB,hW,jP ⟨wp,w9⟩];have q1:(nY+s.2.1*W+y-nY)=y+s.2.1*W:=by lia
  rw[q1,Int.add_mul_ediv_right _ _ (by lia),Int.ediv_eq_zero_of_lt y0 y1,bF,Int.add_mul_emod_self_right,Int.emod_eq_of_lt y0 y1,hS,bR,hy];rfl
 |[],_::_,_,h,_,_,_,_,_=>h.elim
 |_::_,[],_,h,_,_,_,_,_=>h.elim
noncomputable def unP(b:Int)(q:P4):P4:=(q.2.1-b,q.1,q.2.2.2-b,q.2.2.1)
theorem WG(b:Int)(q:P4):Ef b (unP b q)=q:=by
 show(q.1,b+(q.2.1-b),q.2.2.1,b+(q.2.2.2-b))=q;rw[show b+(q.2.1-b)=q.2.1 by lia,show b+(q.2.2.2-b)=q.2.2.2 by lia]
theorem ML(b:Int):∀(t:Tr)(p:Rk),AI (trn t) ⟨p.l-b,p.t,p.r-b,p.b⟩=(AI t p).map λg=>(rk<|unP b<|p4 g.1,g.2)
 |.whole m,p=>rfl
 |.cut u k x y,p=>by
  rw[trn,AI,AI,af,<-ML b x,<-ML b y];cases u
  .rfl
  .show AI _ ⟨p.l-b,p.t,p.l-b+k,p.b⟩++AI _ ⟨p.l-b+k,p.t,p.r-b,p.b⟩=AI _ ⟨p.l-b,p.t,p.l+k-b,p.b⟩++AI _ ⟨p.l+k-b,p.t,p.r-b,p.b⟩;rw[show p.l-b+k=p.l+k-b by lia]
theorem Cutt.un{S:List P4}{h b e:Int}(c:Cutt S ⟨0,b,h,e⟩):Cutt (S.map<|unP b) ⟨0,0,e-b,h⟩:=by
 obtain⟨t,f,g⟩:=c;refine⟨trn t,?_,?_⟩
 .have f:Fit t (e-b) (h-0):=f;rw[bP]at f;have:=Ft f;show Fit (trn t) (h-0) (e-b-0);rw[bP,bP];exact this
 .have z:=ML b t ⟨0,b,h,e⟩;rw[show((⟨0,b,h,e⟩:Rk).l-b)=0 from Int.sub_self b]at z;have z:AI (trn t) ⟨0,0,e-b,h⟩=_:=z;rw[z];have:=g.map λg=>(rk<|unP b<|p4 g.1,g.2);rw[aA,aA]at this;show((List.map _<|List.map _ S).map _).Perm _;rw[aA,aA];exact this
theorem G7{h:Int}(h1:1<=h):∀(ps:List Int)(T:List P4)(b0:Int),ps≠[]->(∀p∈ps,1<=p)->Cutt T ⟨0,b0,h,b0+ps.sum⟩->(∀z,b0<z->z<b0+ps.sum->(nbU T z↔mkB ps (z-b0)=nZ)) ->
  ∃L:List<|List P4,L.length=ps.length/\(∀x∈L.zip ps,Cutt x.1 ⟨0,0,x.2,h⟩/\∀y,0<y->y<x.2->∃q∈x.1,q.1<y/\y<q.2.2.1)/\T.Perm (Hl b0 ps L)
 |[],_,_,ne,_,_,_=>absurd Z ne
 |p::r,T,b0,_,hp,c,hl=>by
  have p1:=hp p aE;have r1:∀q∈r,1<=q:=λq hq=>hp q<|aF _ hq;obtain⟨rs0,rs1⟩:=Me r1;rw[cI]at c hl;have okT:Rk.ok ⟨0,b0,h,b0+(p+r.sum)⟩:=⟨by show(0:Int)<h;lia,by show b0<b0+(p+r.sum);lia⟩;have one:∀T1:List P4,Cutt T1 ⟨0,b0,h,b0+p⟩->(∀z,b0<z->z<b0+p->¬nbU T1 z)->Cutt (T1.map<|unP b0) ⟨0,0,p,h⟩/\(∀y,0<y->y<p->∃q∈T1.map (unP b0),q.1<y/\y<q.2.2.1)/\(T1.map<|unP b0).map (Ef b0)=T1:=λT1 c1 n1=>by
   refine⟨?_,λy y0 y1=>?_,?_⟩
   .have:=c1.un;rw[show b0+p-b0=p by lia]at this;exact this
   .have:=n1 (b0+y) (by lia) (by lia);obtain⟨q,hq,z⟩:∃q∈T1,q.2.1<b0+y/\b0+y<q.2.2.2:=Decidable.byContradiction λz=>this λq hq w=>z ⟨q,hq,w⟩;exact⟨unP b0 q,ao.mpr ⟨q,hq,Z⟩,by show q.2.1-b0<y;lia,by show y<q.2.2.2-b0;lia⟩
   .rw[aA];exact(bC λq _=>WG b0 q).trans<|dw _
  by_cases e:r=[]
  .subst e;rw[bI,bK]at c hl;obtain⟨a1,a2,a3⟩:=one T c λz z1 z2 nb=>by
    have:=(hl z z1 z2).mp nb;rw[mkB,mkB,fz,jO]at this;lia
   refine⟨[T.map<|unP b0],Z,λx hx=>?_,?_⟩
   .rw[ae.mp hx];exact⟨a1,a2⟩
   .rw[Hl,a3,Hl,aJ];intro _ _ _ _ _ z;cases z
  .have rp:=rs1 e;have thr:nbU T (b0+p):=(hl (b0+p) (by lia)<|by lia).mpr (by rw[mkB,jI<|by lia];rfl);obtain⟨c1,c2,_⟩:=Cutt.part (u:=nZ) (z:=b0+p) okT c (by show b0<b0+p;lia) (by show b0+p<b0+(p+r.sum);lia) thr;have c1:Cutt (T.filter λq=>og<|q.2.2.2<=b0+p) ⟨0,b0,h,b0+(b0+p-b0)⟩:=c1;have c2:Cutt (T.filter λq=>og<|q.2.1>=b0+p) ⟨0,b0+(b0+p-b0),h,b0+(p+r.sum)⟩:=c2;rw[show b0+(b0+p-b0)=b0+p by lia]at c1 c2;rw[show b0+(p+r.sum)=b0+p+r.sum by lia]at c2;have lh:∀q∈T,q.2.1<q.2.2.2:=λq hq=>(c.ins okT hq).2.2.2.2.1;have sp:∀q∈T,q.2.2.2<=b0+p\/b0+p<=q.2.1:=λq hq=>by have:=thr q hq;lia
   obtain⟨a1,a2,a3⟩:=one _ c1 λz z1 z2 nb=>by
    have:nbU T z:=λq hq w=>by
     rcases sp q hq with s|s
     .exact nb q (bg.mpr ⟨hq,jI s⟩) w
     .lia
    have:=(hl z z1<|by lia).mp this;rw[mkB,jR (by lia),MC r1<|by lia]at this;cases this
   obtain⟨L,l1,l2,l3⟩:=G7 h1 r _ (b0+p) e r1 c2 λz z1 z2=>by
    have:=hl z (by lia) (by lia);rw[mkB,jR (by lia),fA,show z-b0-p=z-(b0+p) by lia]at this;rw[<-this];refine⟨λnb q hq w=>?_,λnb q hq=>nb q (bg.mp hq).1⟩;rcases sp q hq with s|s
    .lia
    .exact nb q (bg.mpr ⟨hq,jI s⟩) w
   refine⟨(T.filter λq=>og<|q.2.2.2<=b0+p).map (unP b0)::L,by rw[aL,aL,l1],λx hx=>?_,?_⟩
   .rcases aQ.mp hx with rfl|hx
    .exact⟨a1,a2⟩
    .exact l2 x hx
   .rw[Hl,a3];refine fS ?_<|l3.append_left _;have f2:(T.filter λq=>og<|q.2.1>=b0+p)=T.filter λq=>!decide (q.2.2.2<=b0+p):=cN λq hq=>by
     have:=lh q hq;rcases sp q hq with s|s
     .rw[jI s,jR<|by lia];rfl
     .rw[jR (p:=q.2.2.2<=b0+p) (by lia),jI s];rfl
    rw[f2];exact(List.filter_append_perm _ T).symm
theorem JX:∀{ps:List Int}{A nY:List<|List P4}{b0:Int},A.length=ps.length->nY.length=ps.length->(∀x∈A.zip nY,x.1.Perm x.2)->(Hl b0 ps A).Perm (Hl b0 ps nY)
 |[],[],[],_,_,_,_=>List.Perm.refl _
 |p::ps,a::A,b::nY,b0,ha,hb,h=>by
  rw[Hl,Hl];exact((h (a,b) aE).map _).append<|JX (Nat.succ.inj ha) (Nat.succ.inj hb) λx hx=>h x<|aF _ hx
 |[],_::_,_,_,h,_,_=>nomatch h
 |[],[],_::_,_,_,h,_=>nomatch h
 |_::_,[],_,_,h,_,_=>nomatch h
 |_::_,_::_,[],_,_,h,_=>nomatch h
theorem Mc{k:Nat}{h:Int}{f:List P4->Int->Nat×Int×List P4->Prop}:∀{ps:List Int}{L:List<|List P4},L.length=ps.length->(∀x∈L.zip ps,∃s:Nat×Int×List P4,(s.1<2^(h-1).toNat/\0<=s.2.1/\s.2.1<(C5 (A0 h x.2) (s.1:Int)).getD 0/\Bd k h x.2 s.1 s.2.1=O s.2.2)/\s.2.2.Perm x.1/\f x.1 x.2 s) ->
  ∃M:SL,M.length=ps.length/\Rb k h ps M/\(∀x∈(M.map (·.2.2)).zip L,x.1.Perm x.2)/\∀S∈L,∃s∈M,∃p,f S p s
 |[],[],_,_=>⟨[],Z,trivial,(λ_ z=>nomatch z),(λ_ z=>nomatch z)⟩
 |p::ps,S::L,hl,h0=>by
  obtain⟨s,a,b,c⟩:=h0 (S,p) aE;obtain⟨M,m1,m2,m3,m4⟩:=Mc (ps:=ps) (L:=L) (Nat.succ.inj hl) λx hx=>h0 x<|aF _ hx;refine⟨s::M,by rw[aL,aL,m1],⟨a,m2⟩,λx hx=>?_,λT hT=>?_⟩
  .rcases aQ.mp hx with rfl|hx
   .exact b
   .exact m3 x hx
  .rcases aQ.mp hT with rfl|hT
   .exact⟨s,aE,p,c⟩
   .obtain⟨s',hs,q⟩:=m4 T hT;exact⟨s',aF _ hs,q⟩
 |[],_::_,h,_=>nomatch h
 |_::_,[],h,_=>nomatch h
theorem Q9{a:Int}(S:List P4)(a1:1<=a)(a4:a<=4):∃n:Nat,n<2^(a-1).toNat/\(∀j:Nat,(j:Int)+1<a->(nbU S ((j:Int)+1)↔btB (n:Int) j=nZ))/\n<8:=by
 have dc:∀z,Decidable (nbU S z):=λz=>by unfold nbU;infer_instance
 obtain⟨n,hn,h⟩:=Vg (λj=>@og (nbU S<|(j:Int)+1)<|dc _) (a:=(a-1).toNat) (by lia);refine⟨n,hn,λj hj=>?_,aP hn<|cg (by decide) (show(a-1).toNat<=3 by lia)⟩;rw[h j<|by lia];exact(@jO _<|dc _).symm
theorem QS:∀{ps:List Int}{L:List<|List P4}{b0:Int}{q:P4},q∈Hl b0 ps L->∃T∈L,∃u∈T,q=(u.2.1,q.2.1,u.2.2.2,q.2.2.2)
 |p::ps,S::L,b0,q,h=>by
  rw[Hl]at h;rcases aw.mp h with h|h
  .obtain⟨u,hu,rfl⟩:=ao.mp h;exact⟨S,aE,u,hu,Z⟩
  .obtain⟨T,hT,z⟩:=QS h;exact⟨T,aF _ hT,z⟩
 |[],L,_,q,h=>absurd (show q∈([]:List P4) by cases L<;>exact h) aZ
 |_::_,[],_,q,h=>absurd (show q∈([]:List P4)from h) aZ
theorem PP{g:Nat->Int}{N:Nat}(h:∀i,i<N->0<=g i):∀{j i:Nat},i<=j->j<=N->((List.range i).map g).sum<=((List.range j).map g).sum
 |0,i,a,_=>by
  have:i=0:=by lia
  subst this;exact aW _
 |j+1,i,a,b=>by
  by_cases e:i=j+1
  .subst e;exact aW _
  .refine dJ (PP h (j:=j) (i:=i) (by lia)<|by lia) ?_;rw[bA,af,bQ];have:=h j (by lia);show _<=_+(g j+0);lia
theorem IK:∀(k:Nat)(a b:Int)(S:List P4),1<=a->a<=4->1<=b->b<=4->a+b<=(k:Int)+1->Cutt S ⟨0,0,b,a⟩->(∀y,0<y->y<b->∃q∈S,q.1<y/\y<q.2.2.1) ->
  ∃s:Nat×Int×List P4,(s.1<2^(a-1).toNat/\0<=s.2.1/\s.2.1<(C5 (A0 a b) (s.1:Int)).getD 0/\Bd k a b s.1 s.2.1=O s.2.2)/\s.2.2.Perm S/\∀j:Nat,(j:Int)+1<a->(nbU S ((j:Int)+1)↔btB (s.1:Int) j=nZ)
 |0,a,b,_,a1,_,b1,_,ab,_,_=>by lia
 |k+1,a,b,S,a1,a4,b1,b4,ab,c,lv=>by
  have okS:Rk.ok ⟨0,0,b,a⟩:=⟨by show(0:Int)<b;lia,by show(0:Int)<a;lia⟩;obtain⟨n,hn,hm,he⟩:=Q9 (a:=a) S a1 a4;obtain⟨_,sv⟩:=Ga a1 a4 b1 b4;obtain⟨v,hv,v0,vn⟩:=sv n hn;by_cases e:n=0
  .subst e;refine⟨(0,0,[(0,0,b,a)]),⟨hn,aW _,?_,?_⟩,?_,hm⟩
   .show 0<(C5 (A0 a b) ((0:Nat):Int)).getD 0;rw[hv,v0 Z];decide
   .show Bd (k+1) a b 0 0=_;rw[Bd,jP Z]
   .obtain⟨t,f,g⟩:=id c;cases t with
    |whole m=>
     have z:[((⟨0,0,b,a⟩:Rk),m)].Perm (mks<|S.map rk):=g.symm;have z:=z.map (·.1);rw[aA]at z;have z:[(⟨0,0,b,a⟩:Rk)].Perm (S.map rk):=by
      refine z.trans<|eE ?_;exact(bC (g:=id) λ_ _=>rfl).trans<|dw _
     have z:=z.map p4;rw[aA]at z;refine z.trans<|eE ?_;exact(bC (g:=id) λ_ _=>rfl).trans<|dw _
    |cut u z x y=>
     exfalso;obtain⟨⟨z1,z2⟩,fx,fy⟩:=fitR_cut.mp f;obtain⟨_,_,nb⟩:=FT okS z1 z2 fx fy;have nb:∀q∈S,¬((rk q).lo u<Rk.lo ⟨0,0,b,a⟩ u+z/\Rk.lo ⟨0,0,b,a⟩ u+z<(rk q).hi u):=λq hq=>nb (rk q,Y) (by rw[<-AI];exact g.mem_iff.mp<|ao.mpr ⟨rk q,ao.mpr ⟨q,hq,Z⟩,Z⟩);cases u
     .have z2:z<b-0:=z2;obtain⟨q,hq,w⟩:=lv z (by lia) (by lia);have:=nb q hq;have this:¬(q.1<0+z/\0+z<q.2.2.1):=this;lia
     .have z2:z<a-0:=z2;obtain⟨j,ej⟩:∃j:Nat,z=(j:Int)+1:=⟨(z-1).toNat,by lia⟩;have:=(hm j<|by lia).mp λq hq w=>by
       have:=nb q hq;have this:¬(q.2.1<0+z/\0+z<q.2.2.2):=this;lia
      have n0:btB ((0:Nat):Int) j=oe:=by
       have:∀j:Fin 3,btB ((0:Nat):Int) j.val=oe:=by decide +kernel
       exact this ⟨j,by lia⟩
      rw[n0]at this;cases this
  .obtain⟨ve,pl⟩:=vn e;obtain⟨pa,ps,pm,_,n8⟩:=Fr a1 a4 hn;obtain⟨f0,f8⟩:=G1 b1 b4;have pne:Ax (n:Int) (a-1).toNat≠[]:=λz=>by rw[z,bI]at ps;lia
   obtain⟨L,l1,l2,l3⟩:=G7 b1 (Ax (n:Int) (a-1).toNat) S 0 pne (λp hp=>(C7 pa hp).1) (by rw[ps,bF];exact c) λz z1 z2=>by
    obtain⟨j,ej⟩:∃j:Nat,z=(j:Int)+1:=⟨(z-1).toNat,by lia⟩;subst ej;rw[bP,pm j (by rw[ps]at z2;lia)];exact hm j (by rw[ps]at z2;lia)
   obtain⟨M,m1,m2,m3,m4⟩:=Mc (k:=k) (h:=b) (f:=λT p s=>∀j:Nat,(j:Int)+1<b->(nbU T ((j:Int)+1)↔btB (s.1:Int) j=nZ)) l1 λx hx=>by
    obtain⟨c1,c2⟩:=l2 x hx;have mx:=(cR hx).2;have p1:=C7 pa mx;have p2:=pl _ mx;obtain⟨s,s1,s2,s3⟩:=IK k b x.2 x.1 b1 b4 p1.1 p1.2 (by lia) c1 c2;exact⟨s,s1,s2,s3⟩
   obtain⟨x,x0,x1,hx⟩:=IY (k:=k) b1 b4 (Ax (n:Int) (a-1).toNat) M pa m2 (B7 b) 0 f0 f8 λj hj _=>by
    obtain⟨q,hq,w⟩:=lv ((j:Int)+1) (by lia) hj;obtain⟨T,hT,u,hu,eu⟩:=QS<|l3.mem_iff.mp hq;obtain⟨s,hs,p,hf⟩:=m4 T hT;refine⟨s,hs,?_⟩;cases z:btB (s.1:Int) j with
    |false=>rfl
    |true=>
     have:=(hf j hj).mpr z u hu;have e1:=congrArg (·.1) eu;have e2:=congrArg (·.2.2.1) eu;have e1:q.1=u.2.1:=e1;have e2:q.2.2.1=u.2.2.2:=e2;lia
   have ml:(M.map (·.2.2)).length=(Ax (n:Int) (a-1).toNat).length:=by rw[aa,m1]
   refine⟨(n,x,Hl 0 (Ax (n:Int) (a-1).toNat) (M.map (·.2.2))),⟨hn,x0,?_,?_⟩,(JX ml l1 m3).trans l3.symm,hm⟩
   .show x<(C5 (A0 a b) (n:Int)).getD 0;rw[hv,ve];exact x1
   .show Bd (k+1) a b n x=_;rw[Bd,jK e];exact hx
theorem Pe{w h:Int}{S:List P4}(w1:1<=w)(w4:w<=4)(h1:1<=h)(h4:h<=4)(c:Cutt S ⟨0,0,h,w⟩):∃x out,0<=x/\x<tab w h/\D6 w h x=O out/\out.Perm S:=by
 have tt:tab w h=((List.range<|2^(w-1).toNat).map λ(i:Nat)=>BN<|Aw (Ax (i:Int) (w-1).toNat) h).sum:=by
  obtain⟨a,ha,rfl⟩:=K5 w1 w4;obtain⟨b,hb,rfl⟩:=K5 h1 h4;rw[show((a:Int)+1-1).toNat=a by lia];exact jY<|az.mp (az.mp PK a<|aO.mpr ha) b<|aO.mpr hb
 have p8:2^(w-1).toNat<=8:=cg (by decide) (show(w-1).toNat<=3 by lia);obtain⟨n,hn,hm,he⟩:=Q9 (a:=w) S w1 w4;obtain⟨pa,ps,pm,_,n8⟩:=Fr w1 w4 hn;have pne:Ax (n:Int) (w-1).toNat≠[]:=λz=>by rw[z,bI]at ps;lia
 obtain⟨L,l1,l2,l3⟩:=G7 h1 (Ax (n:Int) (w-1).toNat) S 0 pne (λp hp=>(C7 pa hp).1) (by rw[ps,bF];exact c) λz z1 z2=>by
  obtain⟨j,ej⟩:∃j:Nat,z=(j:Int)+1:=⟨(z-1).toNat,by lia⟩;subst ej;rw[bP,pm j (by rw[ps]at z2;lia)];exact hm j (by rw[ps]at z2;lia)
 obtain⟨M,m1,m2,m3,m4⟩:=Mc (k:=9) (h:=h) (f:=λ_ _ _=>True) l1 λx hx=>by
  obtain⟨c1,c2⟩:=l2 x hx;have p1:=C7 pa (cR hx).2;obtain⟨s,s1,s2,_⟩:=IK 9 h x.2 x.1 h1 h4 p1.1 p1.2 (by lia) c1 c2;exact⟨s,s1,s2,trivial⟩
 obtain⟨y,y0,y1,hy⟩:=IY (k:=9) h1 h4 (Ax (n:Int) (w-1).toNat) M pa m2 0 0 (by decide) (by decide) λj hj z=>by
  have n0:btB 0 j=oe:=by
   have:∀j:Fin 3,btB 0 j.val=oe:=by decide +kernel
   exact this ⟨j,by lia⟩
  rw[n0]at z;cases z
 have ml:(M.map (·.2.2)).length=(Ax (n:Int) (w-1).toNat).length:=by rw[aa,m1]
 rw[<-OO (Dh h1 h4 _)]at y1;have s0:∀i:Nat,i<2^(w-1).toNat->0<=BN (Aw (Ax (i:Int) (w-1).toNat) h):=λi hi=>by
  rw[OO<|Dh h1 h4 _];exact(Fn h1 h4 (Fr w1 w4 hi).1 (by decide)<|by decide).2.1
 have mono:=λ{i j:Nat}(a:i<=j)(b:j<=2^(w-1).toNat)=>PP (g:=λ(i:Nat)=>BN<|Aw (Ax (i:Int) (w-1).toNat) h) s0 a b;have st:∀i:Nat,((List.range<|i+1).map λ(i:Nat)=>BN<|Aw (Ax (i:Int) (w-1).toNat) h).sum=((List.range i).map λ(i:Nat)=>BN<|Aw (Ax (i:Int) (w-1).toNat) h).sum+BN (Aw (Ax (i:Int) (w-1).toNat) h):=λi=>by
  rw[bA,af,bQ];show _+(_+0)=_;rw[bK]
 have b0:=mono (aU n)<|aK hn;rw[cK,bN,bI]at b0;have b1:=mono (show n+1<=2^(w-1).toNat by lia)<|ah _;have sn:=st n;have lt:y+((List.range n).map λ(i:Nat)=>BN<|Aw (Ax (i:Int) (w-1).toNat) h).sum<tab w h:=by rw[tt];lia
 obtain⟨m,z,ht,hm',z0,z1,ze⟩:=OK (w:=w) (h:=h) p8 9 0 (y+((List.range n).map λ(i:Nat)=>BN<|Aw (Ax (i:Int) (w-1).toNat) h).sum) (by lia) (aU _) (by lia) (by rw[cK,bN,bI,bK,<-tt];exact lt);rw[cK,bN,bI,bK]at ze;have sm:=st m;have em:m=n:=by
  rcases eS m n with q|q|q
  .have:=mono (show m+1<=n by lia) (by lia);lia
  .exact q
  .have:=mono (show n+1<=m by lia) (by lia);lia
 subst em;have ez:z=y:=by lia
 subst ez;refine⟨_,_,by lia,lt,?_,(JX ml l1 m3).trans l3.symm⟩;unfold D6;rw[ht];exact hy
theorem Cutt.til{S:List P4}{w h:Int}(w1:1<=w)(w4:w<=4)(h1:1<=h)(h4:h<=4)(c:Cutt S ⟨0,0,h,w⟩):Tiles w h (S.map rk)/\S.length<=16:=by
 obtain⟨t,f,g⟩:=c;have f:Fit t (w-0) (h-0):=f;rw[bP,bP]at f
 constructor
 .refine(P1 w1 h1 f).perm ?_;have:=g.map (·.1);rw[aA]at this;refine fS (eE ?_) this;exact((bC (g:=id) λ_ _=>rfl).trans<|dw _).symm
 .have:=g.length_eq;rw[aa,aa,DM]at this;have l:=Fd w1 h1 f;have:w*h<=4*4:=dW w4 h4 (by lia) (by decide);lia
theorem Yu{z:Int}(a:1<=z)(h:E3 (.int z)=oe):4<z:=cz λn=>Tx a (by lia) h
theorem Xc{z:Int}(h:E3 (.int z)=nZ):z<=4:=by
 have h:(og (1<=z)&&og (z<=4))=nZ:=h;rw[av,decide_eq_true_eq,decide_eq_true_eq]at h;exact h.2
inductive G3(tb3 C cS cX:jF)(vs:LUz)(H:Hp)(Q:VK)(E:XK):Prop
 |mk (a dx ls ld:jF) (w h:Int) (ts:List<|jF×Rc) (kvs:LKz) (h0:vs=[.ref a]) (h1:PanelAt C H a w h ts dx ls ld kvs) (h2:TabOk Da C8 tb3 H) (h3:(4<w->RfN H E cS (PTb tb3 λfs=>fs=[(("side":j5),.int w)]))) (h4:(w<=4->4<h->RfN H E cS (PTb tb3 λfs=>fs=[(("side":j5),.int h)]))) (h5:(w<=4->h<=4->∃G,GQ (mks<|rcs ts) (RQ w h<|rcs ts) G ⟨0,0,h,w⟩/\G.nd<=400/\(Gv G->∃out,NO ((rcs ts).map p4) w h=O out/\∀H',SameX tb3 H H'->TabOk Da C8 tb3 H'->Q (.int out) H')/\(¬Gv G->RfN H E cX (PTb tb3 λfs=>fs≠[])))):G3 tb3 C cS cX vs H Q E
def EA(tb3 C cS cX:jF):Sp:=λvs H Q E=>G3 tb3 C cS cX vs H Q E
theorem M1{f tb3 cX:jF}{fd:jM}(F:Fun K "number_of" "number_of" EH f fd)(T:Txt mg tk)(PC:KB K C)(fV:Ij P w K mg jD 1 C "panes" lZ<|CJ C)(gG:Fl P w K mg jD 3 "check_counted" l9<|OR cS)(iY:Fl P w K mg jD 9 "tree_of" mw<|KJ tb3 C cX)(gJ:Ar P w K mg jD 4 "all_strips" nj IV)(gH:Ar P w K mg jD 4 "lines_of" mP F4)(fY:Ar P w K mg jD 1 "parts_between" my DC)(fZ:Ar P w K mg jD 2 "rows_by_lines" mB CG)(gP:Ar P w K mg jD 24 "number_in_rows" mG<|EB 9):A8 P w K mg jD (CX1 P w) 25 f fd mw (EA tb3 C cS cX):=by
 have S:Al Y5 mw (Ah EH):=fsk;refine F.gx S ?_;rintro vs H Q E ⟨a,dx,ls,ld,ww,hh,ts,kvs,rfl,pn,tab,r1,r2,q⟩;refine⟨Z,λcdv A jz s hr=>?_⟩;have gw:=pn.sw;have gh:=pn.sh;have few:=pn.few;refine⟨_,(Ac (AM<|Mx gG hr (Tk Im<|Q5 (H:=H) (E:=E))<|Aa (AO Ai Z)<|Aj<|AO Ai Z)
  (Ac (AM<|Mx iY hr (Tk Im<|Q5 (H:=H) (E:=E))<|Aj Ai)
  (Ac (Az 1 S.nd<|Am gJ hr<|Aj<|Bg (L6 Z) T.z_max<|Aa (AO Ai Z)<|Aj<|AO Ai Z)
  (Ac (Az 2 S.nd<|Am gH hr<|Aa (D5 fV hr Ai)<|Aa (AO Ai Z)<|Aj<|AO Ai Z)
  (Ac (Az 3 S.nd<|Am gP hr<|Aa Ak<|Aa (D5 fV hr Ai)<|Aa (Am fY hr<|Aa Ap<|Aj<|AO Ai Z)<|Aa (AO Ai Z)<|Aj Ab)
  (Ac (AF Pf Z (Cg Z T.z_range<|Aj Ap) (AS 4 S.nd)<|Ag<|CW (i:=3) S.nd Z (bq Z) (Bg Hm T.z_sum<|Aj<|EU ci cC dk FN<|Am fZ hr<|Aa Ak<|Aa (Am fY hr<|Aa AE<|Aj<|AO Ai Z)<|Aj<|AO Ai Z) Ej)
  (Ag<|Aq A2))))))),?_⟩
 have nn:SameN H H:=(Same.refl H).n;refine⟨_,Z,a,C,dx,_,_,Z,pn.ob,PC.cl,PC.n_width,BI _ _ _ _,_,Z,a,C,dx,_,_,Z,pn.ob,PC.cl,PC.n_height,C6 _ _ _ _,.int ww,.int hh,Z,⟨_,Z⟩,⟨_,Z⟩,λc1 c2 H1 s1=>?_,λc=>VR nn (r1<|Yu gw.1 c) Mf λfs H' s z=>⟨tab.same s,z⟩,λc1 c=>VR nn (r2 (Xc c1)<|Yu gh.1 c) Mf λfs H' s z=>⟨tab.same s,z⟩⟩;have w4:=Xc c1;have h4:=Xc c2;obtain⟨G,gq,nd,q,r3⟩:=q w4 h4;have pn1:=pn.same s1;refine⟨_,Z,a,dx,ls,ld,ww,hh,ts,kvs,G,Z,pn1,tab.same s1,gq,nd,λno v H2 s2 tab2=>?_,λno=>XB s1.n (r3 no) Mf⟩;obtain⟨out,hn,q⟩:=q no;unfold NO at hn;split at hn
 case isFalse=>cases hn
 rename_i hl0;obtain⟨y,hy,rfl⟩:=bc.mp hn;obtain⟨n,en⟩:∃n:Nat,B1 ((rcs ts).map p4) ww hh=(n:Int):=⟨_,(bn hl0.1).symm⟩;rw[en]at hl0 hy q;rw[bV]at q;have pl:=λ(j:Nat)(hj:j<=n)=>EW (n:=j) gw.1 w4 (by lia);have rl:((rcs ts).map p4).length<=100:=by rw[aa,aa];lia
 have pn2:=pn1.tb s2<|tab.same s1;have x2:SameX tb3 H H2:=s1.x.trans s2;obtain⟨m1,m2,m3⟩:=T8 ww hh;refine⟨_,Z,a,C,dx,_,_,Z,pn2.ob,PC.cl,PC.n_width,BI _ _ _ _,_,Z,a,C,dx,_,_,Z,pn2.ob,PC.cl,PC.n_height,C6 _ _ _ _,_,_,Z,_,Z,by lia,by lia,λst H3 s3 sa=>?_⟩;have pn3:=pn2.same s3;refine⟨_,Z,a,dx,_,Z,pn3.ob,BV,a,dx,ls,ld,ww,hh,ts,kvs,Z,pn3,λl nl=>?_⟩;have pl4:=pn3.pnl nl;obtain⟨H4,e,s4,_⟩:=nw (.lst<|A1 ts) nl;rw[e]at pl4 |-;clear e;have pn4:=pn3.same s4;refine⟨_,Z,a,C,dx,_,_,Z,pn4.ob,PC.cl,PC.n_width,BI _ _ _ _,_,Z,a,C,dx,_,_,Z,pn4.ob,PC.cl,PC.n_height,C6 _ _ _ _,l,_,ww,hh,Z,pl4,rl,gw.1,w4,gh.1,h4,λH5 s5=>?_⟩;rw[en];have pn5:=pn4.same s5;refine⟨_,Z,_,Z,a,dx,_,Z,pn5.ob,BV,a,dx,ls,ld,ww,hh,ts,kvs,Z,pn5,λl6 nl6=>?_⟩;have pl6:=pn5.pnl nl6;obtain⟨H6,e,s6,_⟩:=nw (.lst<|A1 ts) nl6;rw[e]at pl6 |-;clear e;have pn6:=pn5.same s6;refine⟨_,Z,_,Z,a,C,dx,_,_,Z,pn6.ob,PC.cl,PC.n_width,BI _ _ _ _,(n:Int),ww,Z,gw.1,w4,λlp H7 s7 n7 h7=>?_⟩;have pn7:=pn6.same s7;have s37:=s4.trans<|s5.trans<|s6.trans s7;refine⟨_,Z,a,C,dx,_,_,Z,pn7.ob,PC.cl,PC.n_height,C6 _ _ _ _,st,l6,lp,_,_,hh,_,0,y,Z,pl6.same s7,rl,h7,?_,λp hp=>⟨gh.1,m2,((pl n<|ah n).1 p hp).1,by have:=((pl n<|ah n).1 p hp).2;lia⟩,sa.same s37,(pl n<|ah n).2,hy,λH8 s8=>?_⟩
 .lia
 have s38:=s37.trans s8;have x8:SameX tb3 H H8:=x2.trans<|(s3.trans s38).x;have tab8:=tab2.same<|s3.trans s38;have pn8:=pn7.same s8;have sa8:=sa.same s38;refine⟨_,Z,n,Z,by lia,by lia,AT (lo:=0) (n:=(n:Int).toNat) (λi B H'=>(∃w4,B=[O<|.ref a,O<|.ref st,O<|.int n,O<|.int<|y+((List.range i).map λ(i:Nat)=>BN<|Aw (Ax i (ww-1).toNat) hh).sum,w4])/\Same H8 H') ⟨⟨_,by rw[cK,bN,bI,bK];rfl⟩,Same.refl _⟩ ?_ ?_⟩
 .rintro i B H9 hi ⟨⟨w4',rfl⟩,s9⟩;rw[bF];have hi:i<n:=by lia
  have pn9:=pn8.same s9;have pi:=pl i (by lia);refine⟨_,Z,_,Z,_,Z,_,Z,a,C,dx,_,_,Z,pn9.ob,PC.cl,PC.n_width,BI _ _ _ _,(i:Int),ww,Z,gw.1,w4,λl10 H10 s10 n10 h10=>?_⟩;have pn10:=pn9.same s10;refine⟨_,Z,a,C,dx,_,_,Z,pn10.ob,PC.cl,PC.n_height,C6 _ _ _ _,st,l10,_,hh,Z,gh.1,h4,h10,λp hp=>⟨(pi.1 p hp).1,by have:=(pi.1 p hp).2;lia⟩,?_,λd H11 s11 n11 h11=>⟨.inr<|.inr<|.inl ⟨Z,.inl ⟨_,h11⟩⟩,d,_,Z,Z,h11,λv nvw=>?_⟩⟩
  .obtain⟨kvs,hst,hs⟩:=sa8;exact⟨kvs,(s9.trans s10) _ _ hst,λa b ⟨ea,hb⟩=>by
    rw[ea];obtain⟨sd,v1,v2⟩:=hs hh b ⟨gh.1,m2,(pi.1 b hb).1,by have:=(pi.1 b hb).2;lia⟩;exact⟨sd,v1,(s9.trans s10) _ _ v2⟩⟩
  refine nv nvw λH12 s12 e12=>?_;refine⟨v,d,_,_,Z,e12,s12 _ _ h11,MG _,Z,_,_,Z,Z,⟨O<|.int (i:Int),?_⟩,s9.trans<|s10.trans<|s11.trans s12⟩;rw[bA,af,bQ];show _=[_,_,_,O<|V.int<|_+(_+(BN (Aw (Ax (i:Int) (ww-1).toNat) hh)+0)),_];rw[bK,<-eh];rfl
 .rintro B H9 ⟨⟨w4',rfl⟩,s9⟩;rw[bV];exact⟨_,Z,q H9 (x8.trans s9.x)<|tab8.same s9⟩
inductive O1(K:jX)(vs:LUz)(H:Hp)(Q:VK)(E:XK):Prop
 |mk (a:jF) (ns:List Int) (k m:Int) (h0:vs=[.ref a,.int k,.int m]) (h1:SqL K H a<|ns.map V.int) (h2:0<=k) (h3:k<=50) (h4:0<=m) (h5:m<=50) (h6:∀l ms H',Same H H'->H l=Y->H' l=O (.lst<|(ms:List Int).map V.int)->(ms.length:Int)<=m->Q (.ref l) H'):O1 K vs H Q E
def Qa(K:jX):Sp:=λvs H Q E=>O1 K vs H Q E
theorem NJ{f:jF}{fd:jM}(F:Fun K "_law_more" "_law_more" EM f fd)(T:Txt mg tk)(gd:Ar P w K mg jD 1 "_law_at" m9<|SM K):A8 P w K mg jD CX0 2 f fd nA (Qa K):=by
 have S:Al nA nA (Ah EM):=fsk;refine F.g S ?_;rintro vs H Q E ⟨a,ns,k,m,rfl,hS,k0,k1,m0,m1,q⟩;refine⟨Z,λcdv A jz s hr=>?_⟩;refine⟨_,(Ag<|Aq<|B9 Z (Cg Z T.z_range<|Aj Ap) (λ_ _ _ _ _=>pgk<|nk ["_law_k","_law_script","_law_at_here"]) (λ_ _ _ _ _=>(Am gd hr<|Aa Ak<|Aj<|Ao A7 Ap Ai)) (N:=["_law_k","_law_script","_law_at_here"]) (fr:=[Y,O 0,O 1])),?_⟩;refine⟨_,Z,m,Z,by lia,by lia,λacc jE=>Eo (lo:=0) (n:=m.toNat)
  (λi xs B H'=>(∃y,B=[y,O<|.ref a,O<|.int k])/\Same H H'/\∃ms:List Int,xs=ms.map V.int) ⟨⟨Y,Z⟩,Same.new jE,[],Z⟩ ?_ ?_⟩
 .rintro i xs B H' hi hl jE' ⟨⟨y,rfl⟩,hs,ms,rfl⟩;refine⟨_,Z,_,Z,_,Z,_,_,Z,Z,a,ns,_,Z,hs.seq hS,by lia,by lia,λz H2 s2=>cNx.mk (aK<|An<|by lia) hi hl (s2 _ _ jE') ⟨⟨_,Z⟩,λb o e=>?_,ms++[z],by rw[af];rfl⟩⟩;rw[Af<|Ad e jE];exact s2 b o<|hs b o e
 .rintro xs B H' hl jE' ⟨_,hs,ms,rfl⟩;exact q acc ms H' hs jE jE' (by rw[aa]at hl;lia)
def Told(H:Hp):Tr->V->Prop
 |.whole m,v=>∃a,v=.ref a/\H a=O (.tup [.str "whole",EY m])
 |.cut u k x y,v=>∃a vx vy,v=.ref a/\H a=O (.tup [.str<|wd u,.int k,vx,vy])/\Told H x vx/\Told H y vy
theorem Told.same{H H':Hp}(s:Same H H'):∀{t:Tr}{v:V},Told H t v->Told H' t v
 |.whole m,v,h=>by
  obtain⟨a,e,h⟩:=h;exact⟨a,e,s _ _ h⟩
 |.cut u k x y,v,h=>by
  obtain⟨a,vx,vy,e,h,h1,h2⟩:=h;exact⟨a,vx,vy,e,s _ _ h,Told.same s h1,Told.same s h2⟩
theorem Told.samex{l:jF}{xs:LUz}{H H':Hp}(s:SameX l H H')(hl:H l=O (.lst xs)):∀{t:Tr}{v:V},Told H t v->Told H' t v
 |.whole m,v,h=>by
  obtain⟨a,e,h⟩:=h;exact⟨a,e,s _ _ (AQ h hl (by intro z;cases z)) h⟩
 |.cut u k x y,v,h=>by
  obtain⟨a,vx,vy,e,h,h1,h2⟩:=h;exact⟨a,vx,vy,e,s _ _ (AQ h hl (by intro z;cases z)) h,Told.samex s hl h1,Told.samex s hl h2⟩
inductive O2(vs:LUz)(H:Hp)(Q:VK)(E:XK):Prop
 |mk (n:Int) (h0:vs=[.int n]) (h1:∀m H',Same H H'->Q (EY m) H'):O2 vs H Q E
def Qb:Sp:=λvs H Q E=>O2 vs H Q E
inductive LR(n:Nat)(vs:LUz)(H:Hp)(Q:VK)(E:XK):Prop
 |mk (l:jF) (ms:List Int) (w h:Int) (h0:vs=[.ref l,.int w,.int h]) (h1:H l=O (.lst<|ms.map V.int)) (h2:1<=w) (h3:1<=h) (h4:w+h<n) (h5:w<=12) (h6:h<=12) (h7:∀v t H' ms',SameX l H H'->H' l=O (.lst<|(ms':List Int).map V.int)->Told H' t v->Fit t w h->Q v H'):LR n vs H Q E
def EC(n:Nat):Sp:=λvs H Q E=>LR n vs H Q E
theorem NK{f:jF}{fd:jM}(F:Fun K "_law_mark" "_law_mark" EN f fd):A8 P w K mg jD CX0 1 f fd mi Qb:=by
 have S:Al mi mi (Ah EN):=fsk;refine F.g S ?_;rintro vs H Q E ⟨n,rfl,q⟩;refine⟨Z,λcdv A jz s hr=>?_⟩;refine⟨_,(Ag<|Aq<|Av Bm (AJ<|Aa CY<|Aa (Ao AW (Ao B6 Ai Ab) Ab)<|Aa (Ao AW (Ao B6 Ai Ab) Ab)<|Aj CY)<|Ao AW Ai Ab),?_⟩;refine⟨_,Z,_,_,Z,Z,Ii _ (by decide) (by decide),_,_,Z,Z,(show(0:Int)<1000 from by decide),_,Z,_,_,Z,Z,Ii _ (by decide) (by decide),_,_,Z,Z,(show(0:Int)<7 from by decide),Ay 4,λt ht=>?_⟩;obtain⟨m,hm⟩:∃m,atI [V.non,V.int<|n / 4 % 1000,V.int<|n / 4 % 7,V.non] (n % 4)=O (EY m):=by
  have h0:=bG n (b:=4) (by decide);have h1:=bx n (b:=4) (by decide);obtain e|e|e|e:n % 4=0\/n % 4=1\/n % 4=2\/n % 4=3:=by lia
  .rw[e];exact⟨Y,Z⟩
  .rw[e];exact⟨O _,Z⟩
  .rw[e];exact⟨O _,Z⟩
  .rw[e];exact⟨Y,Z⟩
 exact⟨_,Z,_,_,Z,Z,(show(0:Int)<4 from by decide),t,_,_,_,Z,Z,SqL.of Ae,hm,q m _<|Same.new ht⟩
theorem Lf{K:jX}{H:Hp}:∀{xs:LUz},(∀v∈xs,∃t s i,v=.ref t/\H t=O (.tup [.str s,.int i]))->∃ds,DIss K H ds xs/\D7 ds<=1/\Co ds .nil=og (xs=[])
 |[],_=>⟨.nil,by rw[DIss],by rw[D7];lia,by rw[Co,jI Z]⟩
 |v::r,h=>by
  obtain⟨ds,h1,h2,_⟩:=Lf (K:=K) (xs:=r) λu hu=>h u<|aF _ hu;obtain⟨t,s,i,rfl,ht⟩:=h v aE;refine⟨.cons (.tup<|.cons (.at<|.str s)<|.cons (.at<|.int i) .nil) ds,?_,?_,?_⟩
  .refine⟨_,r,Z,?_,h1⟩;refine⟨t,_,Z,SqT.of ht,?_⟩;refine⟨_,_,Z,by exact⟨Z,Z⟩,?_⟩;exact⟨_,_,Z,by exact⟨Z,Z⟩,by rw[DIss]⟩
  .rw[D7,dep,D7,D7,D7,dep,dep];lia
  .rw[jR (λz=>by cases z),Co]
   all_goals (intros;contradiction)
theorem To{x:Int}(h:1<=x):∃k:Int,V.int (if og (1<x)=nZ then(1:Int)else 0)=V.int k/\((1<x/\k=1)\/(x=1/\k=0)):=by
 by_cases e:1<x
 .exact⟨1,by rw[jI e];rfl,.inl ⟨e,Z⟩⟩
 .exact⟨0,by rw[jR e];rfl,.inr ⟨by lia,Z⟩⟩
theorem SU{t v:V}{n:Nat}(h:v∈(List.replicate n [t]).flatten):v=t/\n≠0:=by
 obtain⟨l,hl,hv⟩:=List.mem_flatten.mp h;obtain⟨h1,h2⟩:=List.mem_replicate.mp hl;rw[h2]at hv;exact⟨ae.mp hv,h1⟩
noncomputable abbrev IB:LSz:=["_law_cells","_law_width","_law_height","_law_number_here","_law_some","_law_word","_law_side","_law_at_here","_law_first"]
theorem HH:Al IB mQ (Ah Be):=fsk
theorem WW{vs:LUz}{H:Hp}{Q:VK}{E:XK}:¬EC 0 vs H Q E:=by
 rintro⟨l,ms,w,h,_,_,h1,h2,h3,_⟩;lia
theorem M6{f:jF}{fd:jM}{n:Nat}(F:Fun K "_law_drawn" "_law_drawn" Be f fd)(T:Txt mg tk)(gg:Ar P w K mg jD 1 "_law_knead" nh IS)(iZ:Ar P w K mg jD 1 "_law_mark" mi Qb)
  (gk:Ar P w K mg jD (n+3) "_law_drawn" mQ<|EC n):A8 P w K mg jD CX0 (n+4) f fd mQ (EC<|n+1):=by
 have S:=HH;refine F.g S ?_;rintro vs H Q E ⟨l,ms,ww,hh,rfl,hl,w1,h1,wh,w12,h12,q⟩;refine⟨Z,λcdv A jz s hr=>?_⟩;obtain⟨t4,h4,k4⟩:∃rd,PSs (Bx CX0 P w K mg jD IB "_law_drawn" (Ah Be) f cdv A jz s H E).nox ((A9 Be).drop 4) rd/\∀(num:Int)(ls:jF)(xs:LUz)(ms2:List Int)(H4:Hp),0<=num->xs≠[]->xs.length<=2->H4 ls=O (.lst xs)->(∀v∈xs,∃t u,v=.ref t/\H4 t=O (.tup [.str<|wd u,.int<|if u then ww else hh])/\1<(if u then ww else hh))->SameX l H H4->H4 l=O (.lst<|ms2.map V.int)->rd { nx:=λ_ H'=>Q .non H',rt:=Q} [O<|.ref l,O<|.int ww,O<|.int hh,O<|.int num,O<|.ref ls,Y,Y,Y,Y] H4:=by
  refine⟨_,(Ac (Ta (Av Bm AE<|Ao AW (Ao B6 A2 Ab)<|Bg Bf T.z_len<|Aj AE)<|BS Z<|Au (AS 5 S.nd)<|Au (AS 6 S.nd) AY)
  (Ac (Az 7 S.nd<|Ao A7 Ab<|Ao AW (Ao B6 A2 Ab)<|Ao BG DI Ab)
  (Ac (AG (A5 Bu AX Eb) (Ac (Az 8 S.nd<|Am gk hr (Aa Ai<|Aa DH<|Aj Ap)<|by lia)
  (Ag<|Aq<|A4<|Aa AX<|Aa DH<|Aa Di<|Aj<|Am gk hr (Aa Ai<|Aa (Ao BG Ak DH)<|Aj Ap)<|by lia)) A6)
  (Ac (Az 8 S.nd<|Am gk hr (Aa Ai<|Aa Ak<|Aj DH)<|by lia)
  (Ag<|Aq<|A4<|Aa AX<|Aa DH<|Aa Di<|Aj<|Am gk hr (Aa Ai<|Aa Ak<|Aj<|Ao BG Ap DH)<|by lia))))),?_⟩
  intro num ls xs ms2 H4 n0 xne hxl L4 hx4 T4 C4;have xpos:0<xs.length:=List.length_pos_iff.mpr xne;obtain⟨v,hv,hm⟩:=Xh (L:=xs) (i:=num / 5 % (xs.length:Int)) (bG _<|by lia) (bx _<|by lia);obtain⟨t,u,rfl,ht,hs1⟩:=hx4 v hm;refine⟨_,Z,_,Z,_,_,Z,Z,Ii _ (by decide) (by decide),_,Z,ls,_,Z,.inl<|SqL.of L4,_,_,Z,Z,(by lia),ls,_,_,_,Z,Z,SqL.of L4,hv,t,_,Z,SqT.of ht,Z,_,_,Z,_,_,Z,Z,?_⟩;have a0:=bG (num / 10) (b:=(if u then ww else hh)-1) (by lia);have a1:=bx (num / 10) (b:=(if u then ww else hh)-1) (by lia);refine⟨_,Z,_,_,Z,Z,Ii _ (by decide) (by decide),_,Z,_,_,Z,Z,_,_,Z,Z,(by lia),_,_,Z,Z,?_⟩;generalize num / 10 % ((if u then ww else hh)-1)=x at a0 a1 |-;cases u with
  |true=>
   have a1:x<ww-1:=a1;refine⟨_,Z,Z,_,Z,BK (E5 nZ nZ) ?_⟩;refine⟨_,Z,_,Z,_,Z,l,ms2,1+x,hh,Z,C4,by lia,by lia,by lia,by lia,by lia,λv1 y1 H5 ms3 s5 e5 told1 fit1=>?_⟩;refine⟨_,Z,_,Z,_,Z,_,Z,_,Z,_,Z,_,_,Z,Z,_,Z,l,ms3,ww-(1+x),hh,Z,e5,by lia,by lia,by lia,by lia,by lia,λv2 y2 H6 ms4 s6 e6 told2 fit2=>⟨Ay 4,λt' ht'=>?_⟩⟩;have s7:Same H6 (upd H6 t'<|.tup [.str<|wd nZ,.int<|1+x,v1,v2]):=Same.new ht';refine q (.ref t') (.cut nZ (1+x) y1 y2) _ ms4 (((T4.trans s5).trans s6).trans s7.x) (s7 _ _ e6) ?_ ?_
   .exact⟨t',v1,v2,Z,Ae,(told1.samex s6 e5).same s7,told2.same s7⟩
   .exact⟨by lia,by lia,fit1,fit2⟩
  |false=>
   have a1:x<hh-1:=a1;refine⟨_,Z,Z,_,Z,Bi (E5 oe nZ) ?_⟩;refine⟨_,Z,_,Z,_,Z,l,ms2,ww,1+x,Z,C4,by lia,by lia,by lia,by lia,by lia,λv1 y1 H5 ms3 s5 e5 told1 fit1=>?_⟩;refine⟨_,Z,_,Z,_,Z,_,Z,_,Z,_,Z,_,Z,_,_,Z,Z,l,ms3,ww,hh-(1+x),Z,e5,by lia,by lia,by lia,by lia,by lia,λv2 y2 H6 ms4 s6 e6 told2 fit2=>⟨Ay 4,λt' ht'=>?_⟩⟩;have s7:Same H6 (upd H6 t'<|.tup [.str<|wd oe,.int<|1+x,v1,v2]):=Same.new ht';refine q (.ref t') (.cut oe (1+x) y1 y2) _ ms4 (((T4.trans s5).trans s6).trans s7.x) (s7 _ _ e6) ?_ ?_
   .exact⟨t',v1,v2,Z,Ae,(told1.samex s6 e5).same s7,told2.same s7⟩
   .exact⟨by lia,by lia,fit1,fit2⟩
 obtain⟨t3,h3,k3⟩:∃rd,PSs (Bx CX0 P w K mg jD IB "_law_drawn" (Ah Be) f cdv A jz s H E).nox ((A9 Be).drop 3) rd/\∀(num:Int)(ls:jF)(xs:LUz)(ms2:List Int)(H4:Hp),0<=num->xs.length<=2->H4 ls=O (.lst xs)->(∀v∈xs,∃t u,v=.ref t/\H4 t=O (.tup [.str<|wd u,.int<|if u then ww else hh])/\1<(if u then ww else hh))->SameX l H H4->H4 l=O (.lst<|ms2.map V.int)->rd { nx:=λ_ H'=>Q .non H',rt:=Q} [O<|.ref l,O<|.int ww,O<|.int hh,O<|.int num,O<|.ref ls,Y,Y,Y,Y] H4:=by
  refine⟨_,(Ac (AG (PW.pt<|Ev (A5 (Pj hr) AE<|AJ BF)<|CT<|A5 Bu (Ao AW A2 Ab) Ab) (Ag<|Aq<|A4<|Aa Eb<|Aj<|Am iZ hr (Aj<|Ao B6 A2 Ab)<|by lia) A6)
  h4),?_⟩
  intro num ls xs ms2 H3 n0 hxl L3 hx3 T3 C3;have wholeR:∀H4,Same H3 H4->∀m t,H4 t=Y->Q (.ref t) (upd H4 t<|.tup [.str "whole",EY m]):=λH4 s4 m t ht=>q (.ref t) (.whole m) _ ms2 (T3.trans (s4.trans<|Same.new ht).x) ((s4.trans<|Same.new ht) _ _ C3) (by exact⟨t,Z,Ae⟩) (by trivial);refine⟨_,Z,Ay 0,λe2 he2=>?_⟩;have s4:Same H3 (upd H3 e2<|.lst []):=Same.new he2;obtain⟨ds,hds,dds,dnil⟩:=Lf (K:=K) (H:=upd H3 e2<|.lst []) (xs:=xs) λv hv=>let ⟨t,u,a,b,_⟩:=hx3 v hv;⟨t,wd u,_,a,s4 _ _ b⟩;have dx:DIs K (upd H3 e2<|.lst []) (.lst ds) (.ref ls):=by exact⟨ls,xs,Z,SqL.of<|s4 _ _ L3,hds⟩
  refine⟨_,_,dx,WF Ae,⟨_,Z⟩,⟨_,Z⟩,by rw[dep];lia,_,Z,Br (λb2=>?_) λb2=>?_⟩
  .exact Pt ⟨_,Z,_,_,Z,Z,Ii _ (by decide) (by decide),_,Z,λm H5 s5=>⟨Ay 2,λt ht=>wholeR H5 (s4.trans s5) m t ht⟩⟩
  refine⟨_,Z,_,_,Z,Z,(show(0:Int)<5 from by decide),Z,_,Z,Br (λb3=>?_) λb3=>?_⟩
  .exact⟨_,Z,_,_,Z,Z,Ii _ (by decide) (by decide),_,Z,λm H5 s5=>⟨Ay 2,λt ht=>wholeR H5 (s4.trans s5) m t ht⟩⟩
  have xne:xs≠[]:=λz=>by rw[jK au,deq,dnil,jI z]at b2;cases b2
  exact k4 num ls xs ms2 _ n0 xne hxl (s4 _ _ L3) (λv hv=>let ⟨t,u,a,b,c⟩:=hx3 v hv;⟨t,u,a,s4 _ _ b,c⟩) (T3.trans s4.x)<|s4 _ _ C3
 obtain⟨t2,h2,k2⟩:∃rd,PSs (Bx CX0 P w K mg jD IB "_law_drawn" (Ah Be) f cdv A jz s H E).nox ((A9 Be).drop 2) rd/\∀(num:Int)(ms2:List Int)(H2:Hp),0<=num->SameX l H H2->H2 l=O (.lst<|ms2.map V.int)->rd { nx:=λ_ H'=>Q .non H',rt:=Q} [O<|.ref l,O<|.int ww,O<|.int hh,O<|.int num,Y,Y,Y,Y,Y] H2:=by
  refine⟨_,(Ac (Az 4 S.nd<|Ao Ed (Ao Tm (AJ<|Aj<|A4<|Aa Eb<|Aj Ak)<|Fp L7 Z T.z_int Z<|Aj<|Bs NC Ak Ab)<|Ao Tm (AJ<|Aj<|A4<|Aa Eb<|Aj Ap)<|Fp L7 Z T.z_int Z<|Aj<|Bs NC Ap Ab)
  h3),?_⟩
  intro num ms2 H2 n0 S2 L2;obtain⟨k1,ek1,c1⟩:=To w1;obtain⟨k2,ek2,c2⟩:=To h1;refine⟨_,Z,Ay 2,λt1 ht1=>⟨Ay 1,λl1 hl1'=>?_⟩⟩;obtain⟨Ha,g,sa,ea⟩:=nw (.tup [.str "upright",.int ww]) ht1;rw[g]at hl1' |-;obtain⟨Hb,g,sb,eb⟩:=nw (.lst [.ref t1]) hl1';rw[g];refine⟨_,Z,_,_,Z,Z,.inr ⟨_,Z,l1,k1,_,Z,ek1,eb,by omega,by omega,aK (An (by rw[aY];omega)),λp1 hp1=>?_⟩⟩;obtain⟨Hc,g,sc,ec⟩:=nw (.lst (List.replicate k1.toNat [V.ref t1]).flatten) hp1;rw[g];refine⟨_,Z,Ay 2,λt2 ht2=>⟨Ay 1,λl2 hl2'=>?_⟩⟩;obtain⟨Hd,g,sd,ed⟩:=nw (.tup [.str "level",.int hh]) ht2;rw[g]at hl2' |-;obtain⟨He,g,se,ee⟩:=nw (.lst [.ref t2]) hl2';rw[g];refine⟨_,Z,_,_,Z,Z,.inr ⟨_,Z,l2,k2,_,Z,ek2,ee,by omega,by omega,aK (An (by rw[aY];omega)),λp2 hp2=>?_⟩⟩;obtain⟨Hf,g,sf,ef⟩:=nw (.lst (List.replicate k2.toNat [V.ref t2]).flatten) hp2;rw[g];have Vl:=MF [V.ref t1] k1.toNat;have Vk:=MF [V.ref t2] k2.toNat;rw[aY]at Vl Vk;refine⟨p1,p2,_,_,Z,Z,sf _ _<|se _ _<|sd _ _ ec,ef,aK (An<|by omega),λls hls=>?_⟩;have hx:∀v∈(List.replicate k1.toNat [V.ref t1]).flatten++(List.replicate k2.toNat [V.ref t2]).flatten,∃t u,v=.ref t/\Hf t=O (.tup [.str<|wd u,.int<|if u then ww else hh])/\1<(if u then ww else hh):=λv hv=>by
   rcases aw.mp hv with hv|hv
   .obtain⟨rfl,hk⟩:=SU hv;exact⟨t1,nZ,Z,sf _ _<|se _ _<|sd _ _<|sc _ _<|sb _ _ ea,by show 1<ww;omega⟩
   .obtain⟨rfl,hk⟩:=SU hv;exact⟨t2,oe,Z,sf _ _<|se _ _ ed,by show 1<hh;omega⟩
  have hxl:((List.replicate k1.toNat [V.ref t1]).flatten++(List.replicate k2.toNat [V.ref t2]).flatten).length<=2:=by rw[aq];omega
  have S3:Same H2 (upd Hf ls<|.lst<|(List.replicate k1.toNat [V.ref t1]).flatten++(List.replicate k2.toNat [V.ref t2]).flatten):=(((((sa.trans sb).trans sc).trans sd).trans se).trans sf).trans<|Same.new hls;have L3:(upd Hf ls<|.lst<|(List.replicate k1.toNat [V.ref t1]).flatten++(List.replicate k2.toNat [V.ref t2]).flatten) ls=O (.lst<|(List.replicate k1.toNat [V.ref t1]).flatten++(List.replicate k2.toNat [V.ref t2]).flatten):=Ae;have hx3:∀v∈(List.replicate k1.toNat [V.ref t1]).flatten++(List.replicate k2.toNat [V.ref t2]).flatten,∃t u,v=.ref t/\(upd Hf ls<|.lst<|(List.replicate k1.toNat [V.ref t1]).flatten++(List.replicate k2.toNat [V.ref t2]).flatten) t=O (.tup [.str<|wd u,.int<|if u then ww else hh])/\1<(if u then ww else hh):=λv hv=>
   let ⟨t,u,a,b,c⟩:=hx v hv;⟨t,u,a,Same.new hls _ _ b,c⟩
  generalize upd Hf ls (.lst<|(List.replicate k1.toNat [V.ref t1]).flatten++(List.replicate k2.toNat [V.ref t2]).flatten)=H3 at S3 L3 hx3 |-;exact k3 num ls _ ms2 _ n0 hxl L3 hx3 (S2.trans S3.x)<|S3 _ _ L2
 refine⟨_,(Ac (AG (A5 (Pj hr) Ai<|AJ BF) (Ag<|Aq<|A4<|Aa Eb<|Aj CY) A6)
  (Ac (Az 3 S.nd<|Am gg hr (Aa (EU bE cr cq J1 Ai)<|Aj Ab)<|by lia)
  h2)),?_⟩
 refine⟨_,Z,Ay 0,λe he=>?_⟩;obtain⟨H1,g,s1,e1⟩:=nw (.lst []) he;rw[g];have hl1:=s1 _ _ hl;refine⟨_,_,VY<|SqL.of hl1,WF e1,⟨_,Z⟩,⟨_,Z⟩,Ls _,_,Z,Br (λb1=>?_) λb1=>?_⟩
 .refine⟨Ay 2,λt ht=>?_⟩;have s2:Same H1 (upd H1 t<|.tup [.str "whole",.non]):=Same.new ht;exact q (.ref t) (.whole Y) _ ms ((s1.trans s2).x) (s2 _ _ hl1) (by exact⟨t,Z,Ae⟩) (by trivial)
 have hne:ms≠[]:=λz=>by rw[jK au,deq,Lu,jI z]at b1;cases b1
 obtain⟨ms2,z,rfl⟩:∃ms2 z,ms=ms2++[z]:=⟨ms.dropLast,ms.getLast hne,(cZ hne).symm⟩;have hlast:((ms2++[z]).map V.int)[((ms2++[z]).map V.int).length-1]?=O (.int z):=by
  rw[aa,aq,aY,eA,ax,cA<|ah _,eP];rfl
 refine⟨_,Z,.inl ⟨Z,_,SqL.of hl1⟩,l,_,_,Z,Z,hl1,hlast,_,1,Z,by decide,by decide,λnum n0=>?_⟩;have hdl:((ms2++[z]).map V.int).dropLast=ms2.map V.int:=by rw[af,di,cB]
 rw[hdl];have S2:SameX l H (upd H1 l<|.lst<|ms2.map V.int):=s1.x.trans SameX.upd;have L2:(upd H1 l<|.lst<|ms2.map V.int) l=O (.lst<|ms2.map V.int):=Ae;generalize upd H1 l (.lst<|ms2.map V.int)=H2 at S2 L2 |-;exact k2 num ms2 H2 n0 S2 L2
inductive LK(n:Nat)(vs:LUz)(H:Hp)(Q:VK)(E:XK):Prop
 |mk (v:V) (x:Tr) (p:Rk) (h0:vs=[v,.int p.t,.int p.l,.int p.b,.int p.r]) (h1:Told H x v) (h2:x.dp<n) (h3:x.sz<=144) (h4:∀a ts H',Same H H'->H' a=O (.lst<|A1 ts)->At H' ts->rcs ts=(AI x p).map (·.1)->Q (.ref a) H'):LK n vs H Q E
def E9(n:Nat):Sp:=λvs H Q E=>LK n vs H Q E
theorem XC{vs:LUz}{H:Hp}{Q:VK}{E:XK}:¬E9 0 vs H Q E:=by
 rintro⟨v,x,p,_,_,h,_⟩;lia
theorem DP:Al ["_law_told","_law_top","_law_left","_law_bottom","_law_right","_law_at_here","_law_first"] mR (Ah BQ):=fsk
theorem Gp{f:jF}{fd:jM}{n:Nat}(F:Fun K "_law_rectangles" "_law_rectangles" BQ f fd)(gl:Ar P w K mg jD (n+1) "_law_rectangles" mR<|E9 n):
  A8 P w K mg jD CX0 (n+2) f fd mR (E9<|n+1):=by
 have S:=DP;refine F.g S ?_;rintro vs H Q E ⟨v,x,p,rfl,ho,hd,hsz,q⟩;refine⟨Z,λcdv A jz s hr=>?_⟩;refine⟨_,(Ac (AG (A5 Bu (Av As Ai Ab) Eb) (Ag<|Aq<|AJ<|Aj<|A4<|Aa Ak<|Aa Ap<|Aa A2<|Aj AE) A6)
  (Ac (Az 5 S.nd<|Av As Ai Ab)
  (Ac (AG (A5 Bu (Av As Ai Ab) Eb) (Ac (Az 6 S.nd<|Am gl hr (Aa (Av As Ai Ab)<|Aa Ak<|Aa Ap<|Aa A2<|Aj<|Ao A7 Ap AX)<|by lia)
  (Ag<|Aq<|Ao Ed DI<|Am gl hr (Aa (Av As Ai Ab)<|Aa Ak<|Aa (Ao A7 Ap AX)<|Aa A2<|Aj AE)<|by lia)) A6)
  (Ac (Az 6 S.nd<|Am gl hr (Aa (Av As Ai Ab)<|Aa Ak<|Aa Ap<|Aa (Ao A7 Ak AX)<|Aj AE)<|by lia)
  (Ag<|Aq<|Ao Ed DI<|Am gl hr (Aa (Av As Ai Ab)<|Aa (Ao A7 Ak AX)<|Aa Ap<|Aa A2<|Aj AE)<|by lia))))),?_⟩
 have fin:∀{ts us:List<|jF×Rc}{H2:Hp},Same H H2->At H2 ts->At H2 us->rcs ts++rcs us=(AI x p).map (·.1)->(A1 ts).length+(A1 us).length<=jU/\∀r,H2 r=Y->Q (.ref r) (upd H2 r<|.lst<|A1 ts++A1 us):=by
  intro ts us H2 s a b e;have l:=congrArg List.length e;rw[aq,aa,aa,aa,DM]at l;refine⟨aK (An (by rw[AK,AK];lia)),λr nr=>?_⟩;have s3:=Same.new (o:=.lst<|A1 ts++A1 us) nr;refine q r (ts++us) _ (s.trans s3) (by rw[Ae,A1,A1,A1,af]) (λu hu=>?_) (by rw[rcs,af];exact e);rcases aw.mp hu with hu|hu
  .exact s3 _ _ (a u hu)
  .exact s3 _ _ (b u hu)
 cases x with
 |whole m=>
  obtain⟨a,rfl,ha⟩:=ho;refine⟨_,Z,a,_,_,_,Z,Z,SqT.of ha,Fi,Z,_,Z,BK (jI Z) ?_⟩;refine⟨_,Z,_,Z,_,Z,_,Z,Ay 4,λr nr=>?_⟩;have s1:Same H (upd H r<|.tup [.int p.t,.int p.l,.int p.b,.int p.r]):=Same.new nr;refine⟨Ay 1,λl nl=>?_⟩;have s2:=Same.new (o:=.lst [.ref r]) nl;refine q l [(r,p)] _ (s1.trans s2) Ae (λu hu=>?_) Z;rw[ae.mp hu];exact s2 _ _ Ae
 |cut u k y1 y2=>
  obtain⟨a,v1,v2,rfl,ha,o1,o2⟩:=ho;have hd:max y1.dp y2.dp+1<n+1:=hd;have hsz:y1.sz+y2.sz<=144:=hsz;refine⟨_,Z,a,_,_,_,Z,Z,SqT.of ha,We,Z,_,Z,Bi (Nn u) ?_⟩;refine⟨_,Z,a,_,_,_,Z,Z,SqT.of ha,Yx,?_⟩;refine⟨_,Z,a,_,_,_,Z,Z,SqT.of ha,We,Z,_,Z,?_⟩;cases u with
  |true=>
   refine BK (jI Z) ?_;refine⟨_,Z,a,_,_,_,Z,Z,SqT.of ha,Wd,_,Z,_,Z,_,Z,_,Z,_,Z,_,_,Z,Z,v1,y1,p.fst nZ k,Z,o1,by lia,by lia,λl1 ts1 H1 s1 e1 a1 g1=>?_⟩;refine⟨_,Z,_,Z,a,_,_,_,Z,Z,SqT.of<|s1 _ _ ha,Wc,_,Z,_,Z,_,Z,_,_,Z,Z,_,Z,_,Z,v2,y2,p.oth nZ k,Z,o2.same s1,by lia,by lia,λl2 ts2 H2 s2 e2 a2 g2=>?_⟩;obtain⟨f1,f2⟩:=fin (s1.trans s2) (a1.same s2) a2 (by rw[g1,g2,AI,af]);exact⟨l1,l2,_,_,Z,Z,s2 _ _ e1,e2,f1,f2⟩
  |false=>
   refine Bi (jR (by intro z;injection z with z;exact absurd z<|by decide)) ?_;refine⟨_,Z,a,_,_,_,Z,Z,SqT.of ha,Wd,_,Z,_,Z,_,Z,_,Z,_,_,Z,Z,_,Z,v1,y1,p.fst oe k,Z,o1,by lia,by lia,λl1 ts1 H1 s1 e1 a1 g1=>?_⟩;refine⟨_,Z,_,Z,a,_,_,_,Z,Z,SqT.of<|s1 _ _ ha,Wc,_,Z,_,Z,_,_,Z,Z,_,Z,_,Z,_,Z,v2,y2,p.oth oe k,Z,o2.same s1,by lia,by lia,λl2 ts2 H2 s2 e2 a2 g2=>?_⟩;obtain⟨f1,f2⟩:=fin (s1.trans s2) (a1.same s2) a2 (by rw[g1,g2,AI,af]);exact⟨l1,l2,_,_,Z,Z,s2 _ _ e1,e2,f1,f2⟩
theorem IZ(ps:List Rc):(ps.map p4).map rk=ps:=by rw[aA];exact(bC (g:=id) λ_ _=>rfl).trans<|dw _
theorem V6{S:List P4}{w h:Int}(w1:1<=w)(w4:w<=4)(h1:1<=h)(h4:h<=4)(c:Cutt S ⟨0,0,h,w⟩):∃x out,0<=x/\x<tab w h/\D6 w h x=O out/\out.Perm S/\NO S w h=O x:=by
 obtain⟨x,out,x0,x1,p,e⟩:=Pe w1 w4 h1 h4 c;obtain⟨o2,p2,_,n2⟩:=Pd w1 w4 h1 h4 x0 x1;rw[p]at p2;cases p2;exact⟨x,out,x0,x1,p,e,n2 _ e.symm⟩
theorem WZ{ps:List Rc}{w h:Int}(w1:1<=w)(w4:w<=4)(h1:1<=h)(h4:h<=4)(c:Cutt (ps.map p4) ⟨0,0,h,w⟩){R:Rk->Prop}:∃G,GQ (mks ps) R G ⟨0,0,h,w⟩/\G.nd<=400/\Gv G:=by
 obtain⟨til,_⟩:=c.til w1 w4 h1 h4;obtain⟨t,f,g⟩:=c;rw[IZ]at til g;have ia:inP (mks ps) ⟨0,0,h,w⟩=mks ps:=Vp λg hg=>by
  obtain⟨r,hr,rfl⟩:=ao.mp hg;obtain⟨a,b,c,d,e,f⟩:=til.ins r hr;exact⟨a,d,c,f⟩
 obtain⟨G,g1,g2,g3⟩:=Pz (L:=mks ps) (R:=R) (λg hg v=>by
  obtain⟨r,hr,rfl⟩:=ao.mp hg;obtain⟨a,b,c,d,e,f⟩:=til.ins r hr;cases v
  .exact b
  .exact e) (λg hg=>by obtain⟨r,hr,rfl⟩:=ao.mp hg;rfl) _ ⟨0,0,h,w⟩ Z ⟨by show(0:Int)<h;lia,by show(0:Int)<w;lia⟩ (λu=>by
   cases u
   .exact⟨aW _,by show h<=12;lia⟩
   .exact⟨aW _,by show w<=12;lia⟩) ⟨t,f,by rw[ia];exact g⟩
 refine⟨G,g1,?_,g3⟩;have f1:Fit G (w-0) (h-0):=g2;rw[bP,bP]at f1;have z1:=Fd w1 h1 f1;have z2:w*h<=4*4:=dW w4 h4 (by lia) (by decide);have z3:=T5 G;lia
inductive O5(tb3 C:jF)(vs:LUz)(H:Hp)(Q:VK)(E:XK):Prop
 |mk (a dx ls ld:jF) (w h:Int) (ts:List<|jF×Rc) (kvs:LKz) (h0:vs=[.ref a]) (h1:PanelAt C H a w h ts dx ls ld kvs) (h2:w<=4) (h3:h<=4) (h4:TabOk Da C8 tb3 H) (h5:Cutt ((rcs ts).map p4) ⟨0,0,h,w⟩) (h6:∀x out H',NO ((rcs ts).map p4) w h=O x->D6 w h x=O out->out.Perm ((rcs ts).map p4)->SameX tb3 H H'->TabOk Da C8 tb3 H'->Q (.int x) H'):O5 tb3 C vs H Q E
def Qd(tb3 C:jF):Sp:=λvs H Q E=>O5 tb3 C vs H Q E
theorem Kv{f tb3 cX:jF}{fd:jM}(F:Fun K "_law_number" "_law_number" Dz f fd)(T:Txt mg tk)(PC:KB K C)(fV:Ij P w K mg jD 1 C "panes" lZ<|CJ C)(gK:Fl P w K mg jD 25 "number_of" mw<|EA tb3 C cS cX)(gI:Ar P w K mg jD 4 "count" l9 IT)(i6:Ar P w K mg jD 24 "panel_by" nV<|IR C):A8 P w K mg jD CX0 26 f fd mH (Qd tb3 C):=by
 have S:Al ["_law_panel","_law_found","_law_again"] mH (Ah Dz):=fsk;refine F.g S ?_;rintro vs H Q E ⟨a,dx,ls,ld,ww,hh,ts,kvs,rfl,pn,w4,h4,tab,ct,q⟩;refine⟨Z,λcdv A jz s hr=>?_⟩;have gw:=pn.sw;have gh:=pn.sh;obtain⟨x,out,x0,x1,po,pm,nm⟩:=V6 gw.1 w4 gh.1 h4 ct;obtain⟨G,gq,nd,no⟩:=WZ gw.1 w4 gh.1 h4 ct (R:=RQ ww hh<|rcs ts);have til:Tiles ww hh (out.map rk):=pn.til.perm (by have:=pm.map rk;rwa [IZ]at this);refine⟨_,(Ac (Az 1 S.nd<|Mx gK hr Q6<|Aj Ai)
  (Ac (AG (PW.pt<|Ev (BD<|Bk<|Bg DO T.z_isinstance<|Aa Ak<|Aj<|Gj (v:=.ty "int") Z T.z_int Z Z)<|CT<|Bk<|Bg DO T.z_isinstance<|Aa Ak<|Aj<|Gj (v:=.ty "bool") Z T.z_bool Z Z) (Ag<|Aq CY) A6)
  (Ac (AG (PW.pt<|Ev (A5 DJ Ak Ab)<|CT<|A5 VU Ak<|Am gI hr<|Aa (AO Ai Z)<|Aj<|AO Ai Z) (Ag<|Aq CY) A6)
  (Ac (Az 2 S.nd<|Am i6 hr<|Aa (AO Ai Z)<|Aa (AO Ai Z)<|Aj Ak)
  (Ac (AG (PW.pt<|Ev (A5 (Ph hr) (D5 fV hr Ap)<|D5 fV hr Ai)<|Ev (A5 Jl (AO Ap Z)<|AO Ai Z)<|CT<|A5 Jl (AO Ap Z)<|AO Ai Z) (Ag<|Aq CY) A6)
  (Ag<|Aq Ak)))))),?_⟩
 refine⟨_,Z,a,dx,ls,ld,ww,hh,ts,kvs,Z,pn,tab,λz=>by lia,λ_ z=>by lia,λ_ _=>⟨G,gq,nd,λ_=>⟨x,nm,λH1 s1 tab1=>?_⟩,λz=>(z no).elim⟩⟩;have pn1:=pn.tb s1 tab;have ol:out.length<=52:=by have:=pm.length_eq;rw[aa,aa]at this;have:=pn.few;lia
 refine⟨_,Z,_,"int","int",Z,Z,.inl Z,_,Z,Bi (by decide) ⟨_,Z,_,"int","bool",Z,Z,.inr<|.inl Z,_,Z,Bi (by decide) ?_⟩⟩;refine⟨_,Z,_,_,Z,Z,_,Z,Bi (jR<|by lia) ⟨_,Z,_,Z,a,C,dx,_,_,Z,pn1.ob,PC.cl,PC.n_width,BI _ _ _ _,_,Z,a,C,dx,_,_,Z,pn1.ob,PC.cl,PC.n_height,C6 _ _ _ _,ww,hh,Z,gw.1,w4,gh.1,h4,λH2 s2=>?_⟩⟩;have pn2:=pn1.same s2;refine⟨_,_,Z,Z,_,Z,Bi (jR<|by lia) ?_⟩;refine⟨_,Z,a,C,dx,_,_,Z,pn2.ob,PC.cl,PC.n_width,BI _ _ _ _,_,Z,a,C,dx,_,_,Z,pn2.ob,PC.cl,PC.n_height,C6 _ _ _ _,_,Z,ww,hh,x,out,Z,gw.1,w4,gh.1,h4,x0,x1,po,til,ol,λb dy ls' ld' ts' kvs' H3 s3 nb pnb pmb=>?_⟩;have pn3:=pn2.same s3;have er:rcs ts'=rcs ts:=GB.sorted_same (w:=ww) (h:=hh) pnb.til.ins (by lia) (by lia) (pmb.trans (by have:=pm.map rk;rwa [IZ]at this)) pnb.srt pn.srt;refine⟨_,Z,b,dy,_,Z,pnb.ob,BV,b,dy,ls',ld',ww,hh,ts',kvs',Z,pnb,λl4 n4=>?_⟩;refine nv n4 λH4 s4 e4=>?_;have pn4:=pn3.same s4;refine⟨_,Z,a,dx,_,Z,pn4.ob,BV,a,dx,ls,ld,ww,hh,ts,kvs,Z,pn4,λl5 n5=>?_⟩;refine nv n5 λH5 s5 e5=>?_;have pn5:=pn4.same s5;have pb5:=pnb.same<|s4.trans s5;have D1:=Gw (K:=K) (SqL.of<|s5 _ _ e4) pb5.ats;have D2:=Gw (K:=K) (SqL.of e5) pn5.ats;rw[er]at D1;refine⟨_,_,D1,D2,⟨_,Z⟩,⟨_,Z⟩,Lo _,_,Z,Bi (by rw[jP Z,Gz _ D1];rfl) ?_⟩;refine⟨_,Z,b,C,dy,_,_,Z,pb5.ob,PC.cl,PC.n_width,BI _ _ _ _,_,Z,a,C,dx,_,_,Z,pn5.ob,PC.cl,PC.n_width,BI _ _ _ _,Z,_,Z,Bi (by rw[jI Z];rfl) ?_⟩;refine⟨_,Z,b,C,dy,_,_,Z,pb5.ob,PC.cl,PC.n_height,C6 _ _ _ _,_,Z,a,C,dx,_,_,Z,pn5.ob,PC.cl,PC.n_height,C6 _ _ _ _,Z,_,Z,Bi (by rw[jI Z];rfl) ?_⟩;have s15:=s2.trans<|s3.trans<|s4.trans s5;exact⟨_,Z,q x out H5 nm po pm (s1.trans s15.x)<|tab1.same s15⟩
inductive O3(tb3 C:jF)(vs:LUz)(H:Hp)(Q:VK)(E:XK):Prop
 |mk (a dx ls ld:jF) (w h:Int) (ts:List<|jF×Rc) (kvs:LKz) (r:V) (h0:vs=[.ref a]) (h1:PanelAt C H a w h ts dx ls ld kvs) (h2:TabOk Da C8 tb3 H) (h3:((4<w/\r=.int w)\/(w<=4/\4<h/\r=.int h)\/(w<=4/\h<=4/\r=.str "stuck"/\∃G,GQ (mks<|rcs ts) (RQ w h<|rcs ts) G ⟨0,0,h,w⟩/\G.nd<=400/\¬Gv G))) (h4:∀H',SameN H H'->TabOk Da C8 tb3 H'->Q r H'):O3 tb3 C vs H Q E
def Qc(tb3 C:jF):Sp:=λvs H Q E=>O3 tb3 C vs H Q E
structure RG(mg:MGz)(K:jX)(cG cS cX:jF):Prop where
 jp:mg "GlassError"=O (.ref cG)
 jc:mg "NoSide"=O (.ref cS)
 jd:mg "Stuck"=O (.ref cX)
 x_GlassError:xG1 K cG=nZ
 cl:XCls K cS
 clX:XCls K cX
 n_side:kc K (.ref cS) "side"=O Y
 m:mroIn K cS (.ref cG)=O nZ
 mX:mroIn K cX (.ref cG)=O nZ
 kSS:kQ K (.ref cS) (.ref cS)=O nZ
 kSX:kQ K (.ref cS) (.ref cX)=O oe
 kXX:kQ K (.ref cX) (.ref cX)=O nZ
 kXS:kQ K (.ref cX) (.ref cS)=O oe
theorem Jy{f:jF}{fd:jM}(F:Fun K "__init__" "NoSide.__init__" D3 f fd)(nS:XCls K cS)(nF:kc K (.ref cS) "side"=O Y):A8 P w K mg jD CX0 1 f fd m8 (UM cS ["side"]):=by
 have S:Al m8 m8 (Ah D3):=fsk;refine F.ok S (λvs H Q E h=>?_) λcdv A jz s H vs Q E hr h=>?_
 .obtain⟨x,ws,rfl,hl,_⟩:=h;rw[aL,hl];rfl
 .obtain⟨x,ws,rfl,hl,hx,q⟩:=h;obtain⟨v0,rfl⟩:=Vl hl;refine⟨_,(Ag<|Ir Ai Ak Z),?_⟩;refine⟨_,Z,_,Z,x,cS,Z,nS,nF,.inl ⟨hx,λd hd=>?_⟩⟩;obtain⟨e1,e2,e3⟩:=Xo (o1:=Cp d [("side",v0)]) (o2:=Er cS d x) hx hd;exact q d _ hd e1 e2 e3
theorem Vi{f:j5}{v:V}{r:LFz}:((f,v)::r).lookup f=O v:=by rw[ba,beq_self_eq_true]
theorem Js{f tb3:jF}{fd:jM}(F:Fun K "_law_refused" "_law_refused" CP f fd)(T:Txt mg tk)(R:RG mg K cG cS cX)(gK:Fl P w K mg jD 25 "number_of" mw<|EA tb3 C cS cX):A8 P w K mg jD CX0 26 f fd mH (Qc tb3 C):=by
 have S:Al ["_law_panel","_law_caught","e"] mH (Ah CP):=fsk;refine F.g S ?_;rintro vs H Q E ⟨a,dx,ls,ld,ww,hh,ts,kvs,r,rfl,pn,tab,hc,q⟩;refine⟨Z,λcdv A jz s hr=>?_⟩;refine⟨_,(Ac (Az 1 S.nd CY)
  (Ac (SZ (im:=2) S.nd Z Z (SW λ_=>XQ gK hr<|Aj Ai) Z R.jp R.x_GlassError Z Z λ_=>(Ag<|Az 1 S.nd Ap))
  (Ac (AG (PW.pt<|Jd (Bk<|Bg Ep T.z_isinstance<|Aa Ak<|Aj<|AH (v:=.ref<|cS) Z R.jc Z)<|Iq<|BD<|Bk<|Bg Ep T.z_isinstance<|Aa Ak<|Aj<|AH (v:=.ref<|cX) Z R.jd Z) (Ag<|Aq<|UX Ak Z) A6)
  (Ac (AG (PW.pt<|Jd (Bk<|Bg Ep T.z_isinstance<|Aa Ak<|Aj<|AH (v:=.ref<|cX) Z R.jd Z)<|Iq<|BD<|Bk<|Bg Ep T.z_isinstance<|Aa Ak<|Aj<|AH (v:=.ref<|cS) Z R.jc Z) (Ag<|Aq Eb) A6)
  (Ag<|Aq CY))))),?_⟩
 refine⟨XEN H λC fs H'=>TabOk Da C8 tb3 H'/\((C=cS/\fs=[(("side":j5),r)])\/(C=cX/\r=.str "stuck"/\fs≠[])),⟨_,Z,a,dx,ls,ld,ww,hh,ts,kvs,Z,pn,tab,λc=>XEN.rf λfs H' e=>⟨e.1,?_⟩,λc1 c2=>XEN.rf λfs H' e=>⟨e.1,?_⟩,λc1 c2=>?_⟩,?_⟩
 .rcases hc with⟨_,rfl⟩|⟨c',_⟩|⟨c',_⟩
  .exact .inl ⟨Z,e.2⟩
  .lia
  .lia
 .rcases hc with⟨c',_⟩|⟨_,_,rfl⟩|⟨_,c',_⟩
  .lia
  .exact .inl ⟨Z,e.2⟩
  .lia
 .rcases hc with⟨c',_⟩|⟨_,c',_⟩|⟨_,_,e,G,gq,nd,no⟩
  .lia
  .lia
  .exact⟨G,gq,nd,λz=>(no z).elim,λ_=>XEN.rf λfs H' z=>⟨z.1,.inr ⟨Z,e,z.2⟩⟩⟩
 .rintro x C' d T0 T2 H' ⟨x',C2,fs,ev,hx,s1,xr,tab1,cc⟩ fl hT2 nT2;obtain rfl:x=x':=Value.ref.inj ev;have tab2:=TabOk.thrown tab1 xr hT2;obtain⟨rfl,xr',s5⟩:=Sx hx s1 xr fl hT2;obtain⟨alt,T3,hxT⟩:=xr';rcases alt with⟨_,rfl⟩|⟨dx',rfl,_,hd⟩
  .rcases cc with⟨_,z⟩|⟨_,_,z⟩
   .cases z
   .exact absurd Z z
  generalize thrown H' x C2 (O dx') T2=H5 at hd hxT s5 tab2 |-;have he:UA H5 x C2:=.inl ⟨dx',_,.inr ⟨T3,hxT⟩,hd⟩;rcases cc with⟨rfl,rfl⟩|⟨rfl,rfl,_⟩
  .refine⟨R.m,_,Z,?_⟩;refine⟨_,Z,x,C2,.ref C2,.ref C2,nZ,Z,he,R.cl,Z,(λ_ z=>z),R.kSS,_,Z,BK Z ⟨_,Z,x,C2,.ref cX,.ref cX,oe,Z,he,R.cl,Z,(λ_ z=>z),R.kSX,_,Z,BK Z ?_⟩⟩;exact⟨_,Z,x,C2,dx',_,r,Z,.inr ⟨T3,hxT⟩,hd,R.cl,R.n_side,Vi,q H5 s5 tab2⟩
  .refine⟨R.mX,_,Z,?_⟩;refine⟨_,Z,x,C2,.ref cS,.ref cS,oe,Z,he,R.clX,Z,(λ_ z=>z),R.kXS,_,Z,Bi Z<|Bi Z ?_⟩;refine⟨_,Z,x,C2,.ref C2,.ref C2,nZ,Z,he,R.clX,Z,(λ_ z=>z),R.kXX,_,Z,BK Z ⟨_,Z,x,C2,.ref cS,.ref cS,oe,Z,he,R.clX,Z,(λ_ z=>z),R.kXS,_,Z,BK Z ?_⟩⟩;exact q H5 s5 tab2
noncomputable def wh0:List Rc:=[⟨0,0,1,2⟩,⟨0,2,2,3⟩,⟨2,1,3,3⟩,⟨1,0,3,1⟩,⟨1,1,2,2⟩]
noncomputable def mvR(d m:Int)(r:Rc):Rc:=⟨r.t+d,r.l+m,r.b+d,r.r+m⟩
noncomputable def whO(o:Bool):List Rc:=if o then wh0.map Rc.sw else wh0
noncomputable def whA(o:Bool)(d m:Fin 2):List Rc:=(whO o).map (mvR d.val m.val)++if m=1 then [⟨(d.val:Int),0,3+d.val,1⟩]else []
noncomputable def whS(o:Bool)(d m:Fin 2):List Rc:=whA o d m++if d=1 then [⟨0,0,1,3+m.val⟩]else []
inductive LG(C:jF)(vs:LUz)(H:Hp)(Q:VK)(E:XK):Prop
 |mk (n:Int) (h0:vs=[.int n]) (h1:∀a dx ls ld ts kvs (o:Bool) (d m:Fin 2) H',Same H H'->PanelAt C H' a (3+m.val) (3+d.val) ts dx ls ld kvs->(rcs ts).Perm (whS o d m)->Q (.ref a) H'):LG C vs H Q E
def Nr(C:jF):Sp:=λvs H Q E=>LG C vs H Q E
noncomputable abbrev G2:LSz:=["_law_number_here","_law_panes","_law_down","_law_more_here"]
theorem Yq(n:Int):∃k:Fin 2,n % 2=k.val:=by
 have h0:=bG n (b:=2) (by decide);have h1:=bx n (b:=2) (by decide);obtain e|e:n % 2=0\/n % 2=1:=by lia
 .exact⟨0,e⟩
 .exact⟨1,e⟩
theorem S7{w h:Nat}{ps:List Rc}(c:(ps.all λr=>og<|0<=r.t/\r.t<r.b/\r.b<=h/\0<=r.l/\r.l<r.r/\r.r<=w)=nZ)(d:ps.Pairwise λp q=>(p.r<=q.l\/q.r<=p.l)\/(p.b<=q.t\/q.b<=p.t))(e:((List.range h).all λr=>(List.range w).all λc=>ps.any λp=>Of p r c)=nZ):Tiles w h ps:=by
 have c:=az.mp c;refine⟨λr hr=>by have z:=jY<|c r hr;exact z,d.imp λ{p q} z r c h1 h2=>?_,λr c r0 r1 c0 c1=>?_⟩
 .obtain⟨a1,a2,a3,a4⟩:=h1;obtain⟨b1,b2,b3,b4⟩:=h2;lia
 .have z:=az.mp (az.mp e r.toNat<|aO.mpr<|by lia) c.toNat (aO.mpr<|by lia);rw[bn r0,bn c0,bL]at z;obtain⟨p,hp,z⟩:=z;exact⟨p,hp,hasB_iff.mp z⟩
theorem wb2(m:Fin 2):1<=3+(m.val:Int)/\3+(m.val:Int)<=12:=by revert m;decide
theorem wb4(m:Fin 2):3+(m.val:Int)<=4:=by revert m;decide
theorem wb5(m:Fin 8):4<5+(m.val:Int):=by revert m;decide
theorem Yw(d:Fin 2):d=0\/d=1:=by revert d;decide
theorem Sy:∀(o:Bool)(d m:Fin 2),(whA o d m).length<=1000/\((whO o).map<|mvR d.val m.val).length<=1000:=by decide +kernel
theorem Wk:∀o:Bool,(whO o).length<=1000:=by decide
theorem Nh{H H7:Hp}{l t:jF}{ts:List<|jF×Rc}{r:Rc}(s7:Same H H7)(nl:H l=Y)(e7:H7 l=O (.lst<|A1 ts))(a7:At H7 ts)(nt:H7 t=Y):Same H (upd (upd H7 t<|.tup<|BM r.t r.l r.b r.r) l<|.lst<|A1 ts++[.ref t])/\(upd (upd H7 t<|.tup<|BM r.t r.l r.b r.r) l<|.lst<|A1 ts++[.ref t]) l=O (.lst<|A1<|ts++[(t,r)])/\At (upd (upd H7 t<|.tup<|BM r.t r.l r.b r.r) l<|.lst<|A1 ts++[.ref t]) (ts++[(t,r)])/\(upd H7 t<|.tup<|BM r.t r.l r.b r.r) l=O (.lst<|A1 ts):=by
 have n:l≠t:=Ad e7 nt;refine⟨λc o e=>by rw[Af<|Ad e nl,Af<|Ad (s7 _ _ e) nt];exact s7 c o e,by rw[Ae];exact congrArg O<|congrArg HO.lst (DG ts (t,r)).symm,λz hz=>?_,by rw[Af n];exact e7⟩;rcases aw.mp hz with hz|hz
 .have e:=a7 z hz;rw[Af (AQ e e7 (by intro q;cases q)),Af<|Ad e nt];exact e
 .rw[ae.mp hz,Af<|Ne.symm n];exact Ae
theorem UB:∀(o:Bool)(d m:Fin 2),Tiles (3+m.val) (3+d.val) (whS o d m)/\(whS o d m).length<=52:=λo d m=>by
 have c:∀(o:Bool)(d m:Fin 2),((whS o d m).all λr=>og<|0<=r.t/\r.t<r.b/\r.b<=(3+d.val:Nat)/\0<=r.l/\r.l<r.r/\r.r<=(3+m.val:Nat))=nZ/\((whS o d m).Pairwise λp q=>(p.r<=q.l\/q.r<=p.l)\/(p.b<=q.t\/q.b<=p.t))/\((List.range<|3+d.val).all λr=>(List.range<|3+m.val).all λc=>(whS o d m).any λp=>Of p r c)=nZ/\(whS o d m).length<=52:=by decide +kernel
 obtain⟨a,b,e,l⟩:=c o d m;have:=S7 a b e;exact⟨by simpa using this,l⟩
theorem M3{f:jF}{fd:jM}(F:Fun K "_law_wheel" "_law_wheel" AR f fd)(T:Txt mg tk)(fX:Kg P w K mg jD 4 "Panel" C mv<|DF K C):A8 P w K mg jD CX0 6 f fd mi (Nr C):=by
 have S:Al G2 mi (Ah AR):=fsk;refine F.g S ?_;rintro vs H Q E ⟨n,rfl,q⟩;refine⟨Z,λcdv A jz s hr=>?_⟩;obtain⟨t7,h7,k7⟩:∃rd,PSs (Bx CX0 P w K mg jD G2 "_law_wheel" (Ah AR) f cdv A jz s H E).nox ((A9 AR).drop 7) rd/\∀(l:jF)(ts:List<|jF×Rc)(o:Bool)(d m:Fin 2)(H7:Hp),Same H H7->H l=Y->H7 l=O (.lst<|A1 ts)->At H7 ts->rcs ts=whS o d m->rd { nx:=λ_ H'=>Q .non H',rt:=Q} [O<|.int n,O<|.ref l,O<|.int d.val,O<|.int m.val] H7:=by
  refine⟨_,(Ag<|Aq<|ES fX hr<|Aa (Ao A7 Ab A2)<|Aa (Ao A7 Ab Ap)<|Aj Ak),?_⟩;intro l ts o d m H7 s7 nl e7 a7 r7;obtain⟨til,tl⟩:=UB o d m;have rl:ts.length=(whS o d m).length:=by rw[<-r7,aa]
  refine⟨_,Z,_,_,Z,Z,_,Z,_,_,Z,Z,_,Z,?_⟩;intro x dy nx ndy ne;have sn:Same H7 (upd (upd H7 dy<|.own x) x<|.ins C dy []):=λb o e=>by rw[Af<|Ad e nx,Af<|Ad e ndy];exact e
  refine⟨x,dy,l,3+m.val,3+d.val,ts,Z,Ae,SqL.of<|sn _ _ e7,a7.same sn,by rw[r7];exact til,by lia,wb2 m,wb2 d,λts' ls' ld' kvs' H2 sx hp pn2=>⟨Z,?_⟩⟩;exact q x dy ls' ld' ts' kvs' o d m H2 (λb o e=>sx b o (Ad (s7 _ _ e) nx)<|sn _ _<|s7 _ _ e) pn2 (by rw[<-r7];exact hp.map _)
 obtain⟨t6,h6,k6⟩:∃rd,PSs (Bx CX0 P w K mg jD G2 "_law_wheel" (Ah AR) f cdv A jz s H E).nox ((A9 AR).drop 6) rd/\∀(l:jF)(ts:List<|jF×Rc)(o:Bool)(d m:Fin 2)(H7:Hp),Same H H7->H l=Y->H7 l=O (.lst<|A1 ts)->At H7 ts->rcs ts=whA o d m->rd { nx:=λ_ H'=>Q .non H',rt:=Q} [O<|.int n,O<|.ref l,O<|.int d.val,O<|.int m.val] H7:=by
  refine⟨_,(Ac (AG (A5 Bu Ap Ab) (Ag<|AM<|BU Ak<|Aj<|A4<|Aa Ab<|Aa Ab<|Aa Ab<|Aj<|Ao A7 Ab A2) A6)
  h7),?_⟩
  intro l ts o d m H7 s7 nl e7 a7 r7;refine⟨_,Z,Z,_,Z,?_⟩;obtain rfl|rfl:=Yw d
  .exact Bi (by decide) (k7 l ts o 0 m H7 s7 nl e7 a7<|r7.trans (aJ _).symm)
  .refine BK (by decide) ⟨_,Z,.inl ⟨Z,_,SqL.of e7⟩,_,Z,_,_,Z,Z,Ay 4,λt ht=>?_⟩;obtain⟨z1,z2,z3,z4⟩:=Nh (r:=⟨0,0,1,3+m.val⟩) s7 nl e7 a7 ht;exact⟨l,_,_,Z,Z,z4,An (by rw[AK,<-aa (f:=(·.2)) (as:=ts)];show(rcs ts).length<=1000;rw[r7];exact(Sy o 1 m).1),k7 l _ o 1 m _ z1 nl z2 z3 (by rw[EQ,r7];rfl)⟩
 obtain⟨t5,h5,k5⟩:∃rd,PSs (Bx CX0 P w K mg jD G2 "_law_wheel" (Ah AR) f cdv A jz s H E).nox ((A9 AR).drop 5) rd/\∀(l:jF)(ts:List<|jF×Rc)(o:Bool)(d m:Fin 2)(H7:Hp),Same H H7->H l=Y->H7 l=O (.lst<|A1 ts)->At H7 ts->rcs ts=(whO o).map (mvR d.val m.val)->rd { nx:=λ_ H'=>Q .non H',rt:=Q} [O<|.int n,O<|.ref l,O<|.int d.val,O<|.int m.val] H7:=by
  refine⟨_,(Ac (AG (A5 Bu A2 Ab) (Ag<|AM<|BU Ak<|Aj<|A4<|Aa Ap<|Aa Ab<|Aa (Ao A7 Ab Ap)<|Aj Ab) A6)
  h6),?_⟩
  intro l ts o d m H7 s7 nl e7 a7 r7;refine⟨_,Z,Z,_,Z,?_⟩;obtain rfl|rfl:=Yw m
  .exact Bi (by decide) (k6 l ts o d 0 H7 s7 nl e7 a7<|r7.trans (aJ _).symm)
  .refine BK (by decide) ⟨_,Z,.inl ⟨Z,_,SqL.of e7⟩,_,Z,_,Z,_,_,Z,Z,Ay 4,λt ht=>?_⟩;obtain⟨z1,z2,z3,z4⟩:=Nh (r:=⟨d.val,0,3+d.val,1⟩) s7 nl e7 a7 ht;exact⟨l,_,_,Z,Z,z4,An (by rw[AK,<-aa (f:=(·.2)) (as:=ts)];show(rcs ts).length<=1000;rw[r7];exact(Sy o d 1).2),k6 l _ o d 1 _ z1 nl z2 z3 (by rw[EQ,r7];rfl)⟩
 obtain⟨t2,h2,k2⟩:∃rd,PSs (Bx CX0 P w K mg jD G2 "_law_wheel" (Ah AR) f cdv A jz s H E).nox ((A9 AR).drop 2) rd/\∀(l:jF)(ts:List<|jF×Rc)(o:Bool)(H7:Hp),Same H H7->H l=Y->H7 l=O (.lst<|A1 ts)->At H7 ts->rcs ts=whO o->rd { nx:=λ_ H'=>Q .non H',rt:=Q} [O<|.int n,O<|.ref l,Y,Y] H7:=by
  refine⟨_,(Ac (Ms (i:=2) S.nd Z (dB Z)<|Ao AW (Ao B6 Ai Ab) Ab)
  (Ac (Ms (i:=3) S.nd Z (dB Z)<|Ao AW (Ao B6 Ai Ab) Ab)
  (Ac (BE Z (AS 1 S.nd) (AA Ak) (λ_ _ _ _ _=>(Dk (K:=K) (n:=4) Z<|Au (AD (i:=0) (nk mS) Z<|bq Z)<|Au (AD (i:=1) (nk mS) Z<|bq Z)<|Au (AD (i:=2) (nk mS) Z<|bq Z)<|Au (AD (i:=3) (nk mS) Z<|bq Z) AY)) (λ_ _ _ _ _=>(A4<|Aa (Ao A7 Ai AE)<|Aa (Ao A7 Ak AX)<|Aa (Ao A7 Ap AE)<|Aj<|Ao A7 A2 AX)) (N:=mS) (fr:=[Y,Y,Y,Y,O 2,O 3]))
  h5))),?_⟩
  intro l ts o H7 s7 nl e7 a7 r7;obtain⟨d,ed⟩:=Yq<|n / 2;obtain⟨m,em⟩:=Yq<|n / 4;refine⟨_,Z,_,_,Z,Z,Ii _ (by decide) (by decide),_,_,Z,Z,(show(0:Int)<2 from by decide),?_⟩;refine⟨_,Z,_,_,Z,Z,Ii _ (by decide) (by decide),_,_,Z,Z,(show(0:Int)<2 from by decide),?_⟩;rw[ed,em];have tl:ts.length<=1000:=by rw[<-aa (f:=(·.2)) (as:=ts)];show(rcs ts).length<=1000;rw[r7];exact Wk o
  refine⟨_,Z,l,Z,⟨_,SqL.of e7⟩,λacc jE=>Bb (K:=K) (a:=l) (ys:=A1 ts) (λi xs B H'=>(∃y0 y1 y2 y3,B=[y0,y1,y2,y3,O<|.int d.val,O<|.int m.val])/\Same H7 H'/\∃us,xs=A1 us/\At H' us/\rcs us=((rcs ts).take i).map (mvR d.val m.val)) ⟨⟨Y,Y,Y,Y,Z⟩,Same.new jE,[],Z,λt ht=>(nomatch ht),Z⟩ (λi xs B H' _ _ hp=>SqL.of<|hp.2.1 _ _ e7) ?_ ?_⟩
  .rintro i x xs B H' hx hi hl' jE' ⟨⟨y0,y1,y2,y3,rfl⟩,hs,us,rfl,hus,hrc⟩;obtain⟨u,hu',rfl⟩:=AZ hx;have hua:=hs _ _<|a7 u<|ak hu';refine⟨u.1,_,Z,SqT.of hua,Z,_,_,Z,_,_,Z,_,_,Z,_,_,Z,Z,?_⟩;refine⟨_,Z,_,Z,_,_,Z,Z,_,Z,_,Z,_,_,Z,Z,_,Z,_,Z,_,_,Z,Z,_,Z,_,Z,_,_,Z,Z,Ay 4,λt ht=>?_⟩;obtain⟨z1,z2,z3,z4⟩:=Nh (r:=(mvR d.val m.val) u.2) hs jE jE' hus ht;refine cNx.mk (aK<|An (by rw[AK];exact tl)) hi hl' z4 ⟨⟨_,_,_,_,Z⟩,z1,us++[(t,(mvR d.val m.val) u.2)],(DG us (t,(mvR d.val m.val) u.2)).symm,z3,?_⟩;have e:(rcs ts)[i]?=O u.2:=by rw[ax,hu'];rfl
   rw[EQ,hrc,aN,e,af];rfl
  .rintro xs B H' hl' jE' ⟨_,hs,us,rfl,hus,hrc⟩;have hrc':rcs us=(rcs ts).map (mvR d.val m.val):=by rw[hrc,AK,<-aa (f:=(·.2)) (as:=ts),aI]
   exact k5 acc us o d m H' (s7.trans hs) (none_of s7 jE) jE' hus (by rw[hrc',r7])
 refine⟨_,(@Ac _ _ _ _ _ (@Az _ _ 1 _ _ _ _ S.nd (@AJ _ _ _ _ (@Aa _ _ _ _ _ (A4<|Aa Ab<|Aa Ab<|Aa Ab<|Aj Ab) (@Aa _ _ _ _ _ (A4<|Aa Ab<|Aa Ab<|Aa Ab<|Aj Ab) (@Aa _ _ _ _ _ (A4<|Aa Ab<|Aa Ab<|Aa Ab<|Aj Ab) (@Aa _ _ _ _ _ (A4<|Aa Ab<|Aa Ab<|Aa Ab<|Aj Ab) (@Aj _ _ _ (A4<|Aa Ab<|Aa Ab<|Aa Ab<|Aj Ab) Z) Z) Z) Z) Z)) Z (.inl Z) Z (by first|exact .inl Z|exact .inr Z))
  (Ac (AG (A5 Bu (Ao AW Ai Ab) Ab) (Ag<|BE Z (AS 1 S.nd) (AA Ak) (λ_ _ _ _ _=>(Dk (K:=K) (n:=4) Z<|Au (AD (i:=0) (nk mT) Z<|bq Z)<|Au (AD (i:=1) (nk mT) Z<|bq Z)<|Au (AD (i:=2) (nk mT) Z<|bq Z)<|Au (AD (i:=3) (nk mT) Z<|bq Z) AY)) (λ_ _ _ _ _=>(A4<|Aa Ak<|Aa Ai<|Aa A2<|Aj Ap)) (N:=mT) (fr:=[Y,Y,Y,Y])) A6)
  h2)),?_⟩
 refine⟨Ay 4,λa1 n1=>?_⟩;refine nv n1 λH1 s1 e1=>?_;refine⟨Ay 4,λa2 n2=>?_⟩;refine nv n2 λH2 s2 e2=>?_;refine⟨Ay 4,λa3 n3=>?_⟩;refine nv n3 λH3 s3 e3=>?_;refine⟨Ay 4,λa4 n4=>?_⟩;refine nv n4 λH4 s4 e4=>?_;refine⟨Ay 4,λa5 n5=>?_⟩;refine nv n5 λH5 s5 e5=>?_;refine⟨Ay 5,λl n6=>?_⟩;refine nv n6 λH7 s6 e7=>?_;have s56:=s5.trans s6;have s46:=s4.trans s56;have s36:=s3.trans s46;have s26:=s2.trans s36;have s7:=s1.trans s26;obtain⟨ts,ets,r7⟩:∃ts:List<|jF×Rc,ts=[(a1,⟨0,0,1,2⟩),(a2,⟨0,2,2,3⟩),(a3,⟨2,1,3,3⟩),(a4,⟨1,0,3,1⟩),(a5,⟨1,1,2,2⟩)]/\rcs ts=wh0:=⟨_,Z,Z⟩;have a7:At H7 ts:=λt ht=>by
  rw[ets]at ht;simp only[aQ,aZ,or_false]at ht;rcases ht with rfl|rfl|rfl|rfl|rfl
  .exact s26 _ _ e1
  .exact s36 _ _ e2
  .exact s46 _ _ e3
  .exact s56 _ _ e4
  .exact s6 _ _ e5
 have e7:H7 l=O (.lst<|A1 ts):=by rw[ets];exact e7
 have nl:H l=Y:=none_of (s1.trans<|s2.trans<|s3.trans<|s4.trans s5) n6;have tl:ts.length<=1000:=by rw[ets];show(5:Nat)<=1000;decide
 refine⟨_,Z,_,_,Z,Z,(show(0:Int)<2 from by decide),Z,_,Z,Br (λc=>?_) λc=>?_⟩
 .refine⟨_,Z,l,Z,⟨_,SqL.of e7⟩,λacc jE=>Bb (K:=K) (a:=l) (ys:=A1 ts) (λi xs B H'=>(∃y0 y1 y2 y3,B=[y0,y1,y2,y3])/\Same H7 H'/\∃us,xs=A1 us/\At H' us/\rcs us=((rcs ts).take i).map Rc.sw) ⟨⟨Y,Y,Y,Y,Z⟩,Same.new jE,[],Z,λt ht=>(nomatch ht),Z⟩ (λi xs B H' _ _ hp=>SqL.of<|hp.2.1 _ _ e7) ?_ ?_⟩
  .rintro i x xs B H' hx hi hl' jE' ⟨⟨y0,y1,y2,y3,rfl⟩,hs,us,rfl,hus,hrc⟩;obtain⟨u,hu',rfl⟩:=AZ hx;have hua:=hs _ _<|a7 u<|ak hu';refine⟨u.1,_,Z,SqT.of hua,Z,_,_,Z,_,_,Z,_,_,Z,_,_,Z,Z,?_⟩;refine⟨_,Z,_,Z,_,Z,_,Z,Ay 4,λt ht=>?_⟩;obtain⟨z1,z2,z3,z4⟩:=Nh (r:=Rc.sw u.2) hs jE jE' hus ht;refine cNx.mk (aK<|An (by rw[AK];exact tl)) hi hl' z4 ⟨⟨_,_,_,_,Z⟩,z1,us++[(t,Rc.sw u.2)],(DG us (t,Rc.sw u.2)).symm,z3,?_⟩;have e:(rcs ts)[i]?=O u.2:=by rw[ax,hu'];rfl
   rw[EQ,hrc,aN,e,af];rfl
  .rintro xs B H' hl' jE' ⟨_,hs,us,rfl,hus,hrc⟩;have hrc':rcs us=(rcs ts).map Rc.sw:=by rw[hrc,AK,<-aa (f:=(·.2)) (as:=ts),aI]
   exact k2 acc us nZ H' (s7.trans hs) (none_of s7 jE) jE' hus (by rw[hrc',r7];rfl)
 .exact k2 l ts oe H7 s7 nl e7 a7 r7
inductive LQ(C:jF)(vs:LUz)(H:Hp)(Q:VK)(E:XK):Prop
 |mk (n:Int) (h0:vs=[.int n]) (h1:∀a dx ls ld ts kvs (x:Fin 8) H',Same H H'->PanelAt C H' a (5+x.val) 3 ts dx ls ld kvs->Q (.ref a) H'):LQ C vs H Q E
def Nv(C:jF):Sp:=λvs H Q E=>LQ C vs H Q E
theorem Yp(n:Int):∃k:Fin 8,n % 8=k.val:=by
 have h0:=bG n (b:=8) (by decide);have h1:=bx n (b:=8) (by decide);exact⟨⟨(n % 8).toNat,by lia⟩,(bn h0).symm⟩
theorem wb8(m:Fin 8):1<=5+(m.val:Int)/\5+(m.val:Int)<=12:=by revert m;decide
noncomputable def grS(x:Fin 8):List Rc:=wh0++[⟨0,3,3,5+x.val⟩]
theorem Vq(x:Fin 8):Tiles (5+x.val) 3 (grS x):=by
 have c:∀x:Fin 8,((grS x).all λr=>og<|0<=r.t/\r.t<r.b/\r.b<=(3:Nat)/\0<=r.l/\r.l<r.r/\r.r<=(5+x.val:Nat))=nZ/\((grS x).Pairwise λp q=>(p.r<=q.l\/q.r<=p.l)\/(p.b<=q.t\/q.b<=p.t))/\((List.range 3).all λr=>(List.range<|5+x.val).all λc=>(grS x).any λp=>Of p r c)=nZ:=by decide +kernel
 obtain⟨a,b,e⟩:=c x;have:=S7 a b e
 simpa using this
theorem M5{f:jF}{fd:jM}(F:Fun K "_law_great" "_law_great" DX f fd)(T:Txt mg tk)(fX:Kg P w K mg jD 4 "Panel" C mv<|DF K C):A8 P w K mg jD CX0 6 f fd mi (Nv C):=by
 have S:Al ["_law_number_here","_law_panes"] mi (Ah DX):=fsk;refine F.g S ?_;rintro vs H Q E ⟨n,rfl,q⟩;refine⟨Z,λcdv A jz s hr=>?_⟩;refine⟨_,(@Ac _ _ _ _ _ (@Az _ _ 1 _ _ _ _ S.nd (@AJ _ _ _ _ (@Aa _ _ _ _ _ (A4<|Aa Ab<|Aa Ab<|Aa Ab<|Aj Ab) (@Aa _ _ _ _ _ (A4<|Aa Ab<|Aa Ab<|Aa Ab<|Aj Ab) (@Aa _ _ _ _ _ (A4<|Aa Ab<|Aa Ab<|Aa Ab<|Aj Ab) (@Aa _ _ _ _ _ (A4<|Aa Ab<|Aa Ab<|Aa Ab<|Aj Ab) (@Aj _ _ _ (A4<|Aa Ab<|Aa Ab<|Aa Ab<|Aj Ab) Z) Z) Z) Z) Z)) Z (.inl Z) Z (by first|exact .inl Z|exact .inr Z))
  (Ag<|Aq<|ES fX hr<|Aa (Ao A7 Ab<|Ao AW Ai Ab)<|Aa Ab<|Aj<|Ao Ed Ak<|AJ<|Aj<|A4<|Aa Ab<|Aa Ab<|Aa Ab<|Aj<|Ao A7 Ab<|Ao AW Ai Ab)),?_⟩
 refine⟨Ay 4,λa1 n1=>?_⟩;refine nv n1 λH1 s1 e1=>?_;refine⟨Ay 4,λa2 n2=>?_⟩;refine nv n2 λH2 s2 e2=>?_;refine⟨Ay 4,λa3 n3=>?_⟩;refine nv n3 λH3 s3 e3=>?_;refine⟨Ay 4,λa4 n4=>?_⟩;refine nv n4 λH4 s4 e4=>?_;refine⟨Ay 4,λa5 n5=>?_⟩;refine nv n5 λH5 s5 e5=>?_;refine⟨Ay 5,λl n6=>?_⟩;refine nv n6 λH7 s6 e7=>?_;obtain⟨x,ex⟩:=Yp n;refine⟨_,Z,_,_,Z,Z,(show(0:Int)<8 from by decide),_,_,Z,Z,?_⟩;refine⟨_,Z,_,Z,_,_,Z,Z,(show(0:Int)<8 from by decide),_,_,Z,Z,Ay 4,λa6 n8=>?_⟩;rw[ex];refine nv n8 λH8 s8 e8=>?_;refine⟨Ay 1,λl2 n9=>?_⟩;refine nv n9 λH9 s9 e9=>?_;refine⟨l,l2,_,_,Z,Z,(s8.trans s9) _ _ e7,e9,aK (An (by show(6:Nat)<=1000;decide)),λl3 n10=>?_⟩;refine nv n10 λHz s10 ez=>?_;have s910:=s9.trans s10;have s810:=s8.trans s910;have s610:=s6.trans s810;have s510:=s5.trans s610;have s410:=s4.trans s510;have s310:=s3.trans s410;have s210:=s2.trans s310;have sz:=s1.trans s210;intro y dy ny ndy ne;have sn:Same Hz (upd (upd Hz dy<|.own y) y<|.ins C dy []):=λb o e=>by rw[Af<|Ad e ny,Af<|Ad e ndy];exact e
 refine⟨y,dy,l3,5+x.val,3,[(a1,⟨0,0,1,2⟩),(a2,⟨0,2,2,3⟩),(a3,⟨2,1,3,3⟩),(a4,⟨1,0,3,1⟩),(a5,⟨1,1,2,2⟩),(a6,⟨0,3,3,5+x.val⟩)],Z,Ae,SqL.of<|sn _ _ ez,λt ht=>?_,Vq x,by show(6:Nat)<=52;decide,wb8 x,⟨by decide,by decide⟩,λts' ls' ld' kvs' H2 sx hp pn2=>⟨Z,q y dy ls' ld' ts' kvs' x H2 (λb o e=>sx b o (Ad (sz _ _ e) ny)<|sn _ _<|sz _ _ e) pn2⟩⟩;simp only[aQ,aZ,or_false]at ht;refine sn _ _ ?_;rcases ht with rfl|rfl|rfl|rfl|rfl|rfl
 .exact s210 _ _ e1
 .exact s310 _ _ e2
 .exact s410 _ _ e3
 .exact s510 _ _ e4
 .exact s610 _ _ e5
 .exact s910 _ _ e8
noncomputable def grT(ps:List Rc):Nat->Rk->Tr
 |0,_=>.whole Y
 |n+1,p=>match enG (inP (mks ps) p) p with
  |.w m=>.whole m
  |.c u k=>.cut u k (grT ps n<|p.fst u k)<|grT ps n<|p.oth u k
noncomputable def grB(w h:Int)(ps:List Rc):Nat->Rk->Bool
 |0,_=>oe
 |n+1,p=>og (p.t<p.b/\p.l<p.r/\0<=p.t/\0<=p.l/\p.b<=12/\p.r<=12)&&match enG (inP (mks ps) p) p with
  |.w Y=>nZ
  |.w (O _)=>rmB w h ps p
  |.c u k=>grB w h ps n (p.fst u k)&&grB w h ps n (p.oth u k)
theorem TX{w h:Int}{ps:List Rc}:∀(n:Nat)(p:Rk),grB w h ps n p=nZ->GQ (mks ps) (RQ w h ps) (grT ps n p) p
 |0,_,z=>nomatch z
 |n+1,p,z=>by
  rw[grB,av,decide_eq_true_eq]at z;obtain⟨⟨a,b,c,d,e,f⟩,z⟩:=z;have dq:(∀k,enG (inP (mks ps) p) p=.w (O k)->rmB w h ps p=nZ)->DQ (mks ps) (RQ w h ps) p:=λr=>⟨⟨a,b⟩,λu=>by
   cases u
   .exact⟨c,e⟩
   .exact⟨d,f⟩,r⟩
  rw[grT];cases en:enG (inP (mks ps) p) p with
  |w m=>
   cases m with
   |none=>exact⟨dq λk q=>(by rw[en]at q;cases q),en⟩
   |some k=>rw[en]at z;exact⟨dq λ_ _=>z,en⟩
  |c u k=>
   rw[en]at z;have z:(grB w h ps n (p.fst u k)&&grB w h ps n (p.oth u k))=nZ:=z;rw[av]at z;exact⟨dq λk q=>(by rw[en]at q;cases q),en,TX n _ z.1,TX n _ z.2⟩
noncomputable def nrB:Tr->Bool
 |.whole m=>m.isNone
 |.cut _ _ x y=>nrB x&&nrB y
theorem Tv:∀{t:Tr},Gv t->nrB t=nZ
 |.whole m,h=>by cases h;rfl
 |.cut _ _ x y,h=>by rw[nrB,Tv h.1,Tv h.2];rfl
noncomputable def Yh(p:Rc):List Rc->List Rc
 |[]=>[p]
 |q::r=>if GB.key p.ls<=GB.key q.ls then p::q::r else q::Yh p r
noncomputable def whT(o:Bool)(d m:Fin 2):List Rc:=(whS o d m).foldr Yh []
theorem Wl:∀(o:Bool)(d m:Fin 2),grB (3+m.val) (3+d.val) (whT o d m) 9 ⟨0,0,3+d.val,3+m.val⟩=nZ/\(grT (whT o d m) 9 ⟨0,0,3+d.val,3+m.val⟩).nd<=400/\nrB (grT (whT o d m) 9 ⟨0,0,3+d.val,3+m.val⟩)=oe/\((whT o d m).map λp=>GB.key p.ls).Pairwise (·<=·)/\(whS o d m).Perm (whT o d m):=by decide +kernel
theorem Xq{o:Bool}{d m:Fin 2}{ps:List Rc}(til:Tiles (3+m.val) (3+d.val) ps)(srt:Srt ps)(pm:ps.Perm<|whS o d m):∃G,GQ (mks ps) (RQ (3+m.val) (3+d.val) ps) G ⟨0,0,3+d.val,3+m.val⟩/\G.nd<=400/\¬Gv G:=by
 obtain⟨a,b,c,s,z⟩:=Wl o d m;have e:ps=whT o d m:=GB.sorted_same til.ins (wb2 m).2 (wb2 d).2 (pm.trans z) srt s;rw[e];exact⟨_,TX _ _ a,b,λz=>by rw[Tv z]at c;cases c⟩
theorem Nx{H:Hp}{x dy C:jF}(nx:H x=Y)(ny:H dy=Y):Same H (upd (upd H dy<|.own x) x<|.ins C dy []):=λb o e=>by rw[Af<|Ad e nx,Af<|Ad e ny];exact e
theorem PN{H H':Hp}{x dy C:jF}(nx:H x=Y)(ny:H dy=Y)(sx:SameX x (upd (upd H dy<|.own x) x<|.ins C dy []) H'):Same H H':=λb o e=>sx b o (Ad e nx)<|Nx nx ny _ _ e
theorem Qq:∀{A nY:List Rc},Co (CB A) (CB nY)=nZ->A=nY
 |[],[],_=>rfl
 |[],b::nY,h=>by simp[CB,Co]at h
 |a::A,[],h=>by simp[CB,Co]at h
 |a::A,b::nY,h=>by
  rw[CB,CB,Co,Ip,av,decide_eq_true_eq]at h;rw[h.1,Qq h.2]
theorem PJ{w h:Int}(gw:1<=w)(gh:1<=h):Tiles w h [⟨0,0,h,w⟩]:=⟨λr hr=>by rw[ae.mp hr];exact⟨aW _,gh,aW _,aW _,gw,aW _⟩,fB _ _,λr c a b c' d=>⟨_,ae.mpr Z,a,b,c',d⟩⟩
theorem KY:∀(A:List Rc),Co (CB A) (CB A)=nZ
 |[]=>rfl
 |a::A=>by rw[CB,Co,Ip,jI Z,KY A];rfl
noncomputable def unm:Tr->Tr
 |.whole _=>.whole Y
 |.cut u k x y=>.cut u k (unm x)<|unm y
theorem Gy:∀{t:Tr}{w h:Int},Fit t w h->Fit (unm t) w h
 |.whole _,_,_,_=>trivial
 |.cut u k x y,w,h,f=>by
  rw[unm,Fit];cases u
  .exact⟨f.1,f.2.1,Gy f.2.2.1,Gy f.2.2.2⟩
  .exact⟨f.1,f.2.1,Gy f.2.2.1,Gy f.2.2.2⟩
theorem JK:∀(t:Tr)(p:Rk),AI (unm t) p=mks ((AI t p).map (·.1))
 |.whole _,_=>rfl
 |.cut u k x y,p=>by rw[unm,AI,AI,af,mks,af,JK x,JK y]
theorem Um{t:Tr}{w h:Int}(f:Fit t w h){ps:List Rc}(e:ps=(AI t ⟨0,0,h,w⟩).map (·.1)):Cutt (ps.map p4) ⟨0,0,h,w⟩:=⟨unm t,Vz<|Gy f,by rw[IZ,JK,e]⟩
theorem Ul{A nY:List Rc}{w h:Int}(c:Cutt (A.map p4) ⟨0,0,h,w⟩)(e:nY.Perm<|A.map Rc.sw):Cutt (nY.map p4) ⟨0,0,w,h⟩:=by
 have z:=c.tu 0;have z:Cutt _ ⟨0,0+0,w,0+h⟩:=z;rw[bF,bF]at z;refine z.perm<|(e.map p4).trans<|.of_eq ?_;rw[aA,aA];refine bC λr _=>?_;show(r.l,r.t,r.r,r.b)=(r.l,0+r.t,r.r,0+r.b);rw[bF,bF]
theorem XZ{H:Hp}{l m:jF}{ts:List<|jF×Rc}{ms:List Int}(e:H l=O (.lst<|A1 ts))(d:H m=O (.lst<|ms.map V.int))(n:ts≠[]):l≠m:=by
 rintro rfl;rw[e]at d;injection d with d;injection d with d;cases ts with
 |nil=>exact n Z
 |cons t ts=>
  cases ms with
  |nil=>cases d
  |cons m ms=>injection d with d _;cases d
theorem RO{w h:Int}{ls ld:jF}:(FR w h ls ld).lookup ("turned":j5)=Y:=MP _ _ _ _ (by decide +kernel) (by decide +kernel) (by decide +kernel) (by decide +kernel)
theorem Tu{w h y1 y2:Int}{A nY:List Rc}{o1 o2:List P4}(m1:NO (A.map p4) w h=O y1)(m2:NO (nY.map p4) w h=O y2)(p1:D6 w h y1=O o1)(p2:D6 w h y2=O o2)(q1:o1.Perm<|A.map p4)(q2:o2.Perm<|nY.map p4)(til:Tiles w h A)(w12:w<=12)(h12:h<=12)(s1:Srt A)(s2:Srt nY):og (V.int y1=V.int y2)=deq (.lst<|CB A) (.lst<|CB nY):=by
 by_cases e:y1=y2
 .subst e;rw[p1]at p2;cases p2;have z:=(q1.symm.trans q2).map rk;rw[IZ,IZ]at z;rw[GB.sorted_same til.ins w12 h12 z s1 s2,jI Z];exact(KY nY).symm
 .rw[jR (by intro z;injection z with z;exact e z)];cases d:deq (.lst<|CB A) (.lst<|CB nY)with
  |false=>rfl
  |true=>
   have d:Co (CB A) (CB nY)=nZ:=d;rw[Qq d,m2]at m1;cases m1;exact(e Z).elim
noncomputable abbrev Re:LSz:=["_law_script","_law_width","_law_height","_law_cells","_law_more_here","_law_first","_law_other","_law_way","_law_one","_law_two","_law_numbers","_law_far","_law_great_here"]
inductive Rn(tb3:jF)(K:jX)(vs:LUz)(H:Hp)(Q:VK)(E:XK):Prop
 |mk (a:jF) (ns:List Int) (h0:vs=[.ref a]) (h1:SqL K H a<|ns.map V.int) (h2:ns.length<=63) (h3:H tb3=O (.tbl #[])) (h4:∀H',Q (.bl nZ) H'):Rn tb3 K vs H Q E
def sp_law(tb3:jF)(K:jX):Sp:=λvs H Q E=>Rn tb3 K vs H Q E
theorem WE{f tb3:jF}{fd:jM}(F:Fun K "law" "law" Et f fd)(T:Txt mg tk)(PC:KB K C)(gd:Ar P w K mg jD 1 "_law_at" m9<|SM K)(gg:Ar P w K mg jD 1 "_law_knead" nh IS)(gS:Ar P w K mg jD 2 "_law_more" nA<|Qa K)(gk:Ar P w K mg jD 12 "_law_drawn" mQ<|EC 9)(gl:Ar P w K mg jD 10 "_law_rectangles" mR<|E9 9)(gV:Ar P w K mg jD 26 "_law_number" mH<|Qd tb3 C)(gM:Ar P w K mg jD 26 "_law_refused" mH<|Qc tb3 C)(i7:Ar P w K mg jD 6 "_law_wheel" mi<|Nr C)(i8:Ar P w K mg jD 6 "_law_great" mi<|Nv C)(fX:Kg P w K mg jD 4 "Panel" C mv<|DF K C)(fV:Ij P w K mg jD 1 C "panes" lZ<|CJ C)(i9:Ij P w K mg jD 6 C "turned" lZ<|KI C):A8 P w K mg jD CX0 27 f fd nB (sp_law tb3 K):=by
 have S:Al Re nB (Ah Et):=fsk;refine F.g S ?_;rintro vs H Q E ⟨a,ns,rfl,hS,hlen,ht,q⟩;refine⟨Z,λcdv A jz s hr=>?_⟩;obtain⟨t14,h14,k14⟩:∃rd,PSs (Bx CX0 P w K mg jD Re "law" (Ah Et) f cdv A jz s H E).nox ((A9 Et).drop 14) rd/\∀(ww hh:Int)(x3 x4 x5 x6 x7 x8 x9 x10:Option V)(H4:Hp),1<=ww->ww<=4->1<=hh->hh<=4->SameN H H4->TabOk Da C8 tb3 H4->rd { nx:=λ_ H'=>Q .non H',rt:=Q} [O<|.ref a,O<|.int ww,O<|.int hh,x3,x4,x5,x6,x7,x8,x9,x10,Y,Y] H4:=by
  refine⟨_,(Ac (AG (A5 Jl (Am gM hr<|Aj<|Am i7 hr<|Aj<|Am gg hr<|Aa (Am gd hr<|Aa Ai<|Aj Ab)<|Aj Ab) Eb) (Ag<|Aq Gk) A6)
  (Ac (Az 11 S.nd<|Ao A7 Ab<|Ao AW (Am gg hr<|Aa (Am gd hr<|Aa Ai<|Aj Ab)<|Aj Ab) Ab)
  (Ac (AG (A5 Jl (Am gM hr<|Aj<|ES fX hr<|Aa Cf<|Aa Ap<|Aj<|AJ<|Aj<|A4<|Aa Ab<|Aa Ab<|Aa Ap<|Aj Cf) Cf) (Ag<|Aq Gk) A6)
  (Ac (Az 12 S.nd<|Am i8 hr<|Aj<|Am gg hr<|Aa (Am gd hr<|Aa Ai<|Aj Ab)<|Aj Ab)
  (Ag<|Aq<|EV (Bs Bu (Am gM hr<|Aj<|pv 12)<|AO (pv 12) Z)<|D4<|Bs Bu (Am gM hr<|Aj<|ES fX hr<|Aa Ak<|Aa Cf<|Aj<|AJ<|Aj<|A4<|Aa Ab<|Aa Ab<|Aa Cf<|Aj Ak) Cf))))),?_⟩
  intro ww hh x3 x4 x5 x6 x7 x8 x9 x10 H4 w1 w4 h1 h4 s4 tab4;have hS4:=s4.seq hS;refine⟨_,Z,a,ns,1,Z,hS4,by decide,by decide,λz1 H5 s5=>⟨z1,4,Z,by decide,by decide,λr1 _=>⟨r1,Z,λpa dx ls ld ts kvs o d m H6 s6 pn pm=>?_⟩⟩⟩;obtain⟨G,gq,nd,no⟩:=Xq pn.til pn.srt pm;refine⟨pa,dx,ls,ld,_,_,ts,kvs,.str "stuck",Z,pn,tab4.same<|s5.trans s6,.inr<|.inr ⟨(wb4 m),(wb4 d),Z,G,gq,nd,no⟩,λH7 s7 tab7=>?_⟩;refine⟨Z,_,Z,Bi (by decide +kernel) ?_⟩;have s47:SameN H4 H7:=(s5.trans s6).n.trans s7;have hS7:=s47.seq hS4;refine⟨_,Z,a,ns,1,Z,hS7,by decide,by decide,λz2 H8 s8=>⟨z2,5,Z,by decide,by decide,λr2 _=>?_⟩⟩;refine⟨_,_,Z,Z,(show(0:Int)<8 from by decide),_,_,Z,Z,?_⟩;obtain⟨x,ex⟩:=Yp r2;rw[ex];have gf:=wb8 x;have lf:=wb5 x;generalize 5+(x.val:Int)=far at gf lf |-;have hS8:=s8.seq hS7;have tab8:=tab7.same s8;refine⟨_,Z,_,Z,_,Z,_,Z,Ay 4,λt1 n1=>?_⟩;refine nv n1 λH9 s9 e9=>?_;refine⟨Ay 1,λl1 m1=>?_⟩;refine nv m1 λH10 s10 e10=>?_;have g4:1<=hh/\hh<=12:=⟨h1,by lia⟩;intro p1 dx1 nx1 nd1 _;have sn1:=Nx (C:=C) nx1 nd1;refine⟨p1,dx1,l1,far,hh,[(t1,⟨0,0,hh,far⟩)],Z,Ae,SqL.of<|sn1 _ _ e10,λt ht=>by rw[ae.mp ht];exact(s10.trans sn1) _ _ e9,PJ gf.1 h1,by show(1:Nat)<=52;decide,gf,g4,λts1 ls1 ld1 kvs1 H11 sx1 _ pn1=>⟨Z,?_⟩⟩;have s11:=PN nx1 nd1 sx1;have s811:=s9.trans<|s10.trans s11;refine⟨p1,dx1,ls1,ld1,_,_,ts1,kvs1,.int far,Z,pn1,tab8.same s811,.inl ⟨lf,Z⟩,λH12 s12 tab12=>?_⟩;refine⟨_,Z,Z,_,Z,Bi (by rw[jI Z];rfl) ?_⟩;have s812:SameN H8 H12:=s811.n.trans s12;have hS12:=s812.seq hS8;refine⟨_,Z,a,ns,1,Z,hS12,by decide,by decide,λz3 H13 s13=>⟨z3,6,Z,by decide,by decide,λr3 _=>⟨r3,Z,λp2 dx2 ls2 ld2 ts2 kvs2 y H14 s14 pn2=>?_⟩⟩⟩;have s812':=s13.trans s14;have tab14:=tab12.same s812';refine⟨_,Z,p2,dx2,ls2,ld2,_,_,ts2,kvs2,.int<|5+y.val,Z,pn2,tab14,.inl ⟨wb5 y,Z⟩,λH15 s15 tab15=>?_⟩;have pn15:=pn2.n s15;refine⟨_,Z,p2,C,dx2,_,_,Z,pn15.ob,PC.cl,PC.n_width,BI _ _ _ _,?_⟩;refine⟨Z,_,Z,BK (jI Z) ?_⟩;refine⟨_,Z,_,Z,_,Z,_,Z,Ay 4,λt3 n3=>?_⟩;refine nv n3 λH16 s16 e16=>?_;refine⟨Ay 1,λl3 m3=>?_⟩;refine nv m3 λH17 s17 e17=>?_;intro p3 dx3 nx3 nd3 _;have sn3:=Nx (C:=C) nx3 nd3;refine⟨p3,dx3,l3,ww,far,[(t3,⟨0,0,far,ww⟩)],Z,Ae,SqL.of<|sn3 _ _ e17,λt ht=>by rw[ae.mp ht];exact(s17.trans sn3) _ _ e16,PJ w1 gf.1,by show(1:Nat)<=52;decide,⟨w1,by lia⟩,gf,λts3 ls3 ld3 kvs3 H18 sx3 _ pn3=>⟨Z,?_⟩⟩;refine⟨p3,dx3,ls3,ld3,_,_,ts3,kvs3,.int far,Z,pn3,tab15.same<|s16.trans<|s17.trans<|PN nx3 nd3 sx3,.inr<|.inl ⟨w4,lf,Z⟩,λH19 _ _=>?_⟩;refine⟨_,Z,Z,?_⟩;rw[jI Z];exact q _
 obtain⟨t11,h11,k11⟩:∃rd,PSs (Bx CX0 P w K mg jD Re "law" (Ah Et) f cdv A jz s H E).nox ((A9 Et).drop 11) rd/\∀(ww hh w2 h2:Int)(x3 x4 x5 x6 x7:Option V)(p1 dx1 ls1 ld1 p2 dx2 ls2 ld2:jF)(ts1 ts2:List<|jF×Rc)(kvs1 kvs2:LKz)(H4:Hp),ww<=4->hh<=4->w2<=4->h2<=4->(ww=w2->hh=h2)->SameN H H4->TabOk Da C8 tb3 H4->PanelAt C H4 p1 ww hh ts1 dx1 ls1 ld1 kvs1->PanelAt C H4 p2 w2 h2 ts2 dx2 ls2 ld2 kvs2->Cutt ((rcs ts1).map p4) ⟨0,0,hh,ww⟩->Cutt ((rcs ts2).map p4) ⟨0,0,h2,w2⟩->rd { nx:=λ_ H'=>Q .non H',rt:=Q} [O<|.ref a,O<|.int ww,O<|.int hh,x3,x4,x5,x6,x7,O<|.ref p1,O<|.ref p2,Y,Y,Y] H4:=by
  refine⟨_,(Ac (Az 10 S.nd<|AJ<|Aa (Am gV hr<|Aj Di)<|Aj<|Am gV hr<|Aj<|pv 9)
  (Ac (AG (PW.pt<|Ev (A5 Tn (Av Bm (pv 10) Ab) CY)<|CT<|A5 Tn (Av Bm (pv 10) Ab) CY) (Ag<|Aq Gk) A6)
  (Ac (AG (PW.pt<|Jd (A5 Bu (AO Di Z)<|AO (pv 9) Z)<|Iq<|A5 Jl (Bs Bu (Av Bm (pv 10) Ab)<|Av Bm (pv 10) Ab)<|Bs (Pj hr) (D5 fV hr Di)<|D5 fV hr<|pv 9) (Ag<|Aq Gk) A6)
  h14))),?_⟩
  intro ww hh w2 h2 x3 x4 x5 x6 x7 p1 dx1 ls1 ld1 p2 dx2 ls2 ld2 ts1 ts2 kvs1 kvs2 H4 w4 h4 v4 g4 sq s4 tab4 pn1 pn2 c1 c2;refine⟨_,Z,p1,dx1,ls1,ld1,ww,hh,ts1,kvs1,Z,pn1,w4,h4,tab4,c1,λy1 o1 H5 m1 po1 pm1 s5 tab5=>?_⟩;have pn2':=pn2.tb s5 tab4;have pn1':=pn1.tb s5 tab4;refine⟨_,Z,p2,dx2,ls2,ld2,w2,h2,ts2,kvs2,Z,pn2',v4,g4,tab5,c2,λy2 o2 H6 m2 po2 pm2 s6 tab6=>?_⟩;have pn2a:=pn2'.tb s6 tab5;have pn1a:=pn1'.tb s6 tab5;refine⟨Ay 2,λl nl=>?_⟩;refine nv nl λH7 s7 e7=>?_;have pn27:=pn2a.same s7;have pn17:=pn1a.same s7;have tab7:=tab6.same s7;have s47:SameN H H7:=s4.trans<|(s5.toN tab4.tbl).trans<|(s6.toN tab5.tbl).trans s7.n;refine⟨_,Z,l,_,_,_,Z,Z,SqL.of e7,Fi,Z,_,Z,Bi (jR (by intro z;cases z)) ⟨_,Z,l,_,_,_,Z,Z,SqL.of e7,Fz,Z,_,Z,Bi (jR (by intro z;cases z)) ?_⟩⟩;have gw:=pn1.sw;have gh:=pn1.sh;refine⟨_,Z,p1,C,dx1,_,_,Z,pn17.ob,PC.cl,PC.n_width,BI _ _ _ _,_,Z,p2,C,dx2,_,_,Z,pn27.ob,PC.cl,PC.n_width,BI _ _ _ _,Z,_,Z,Br (λew=>?_) λew=>?_⟩
  .obtain rfl:ww=w2:=by have:=jY ew;injection this
   obtain rfl:=sq Z;refine⟨_,Z,l,_,_,_,Z,Z,SqL.of e7,Fi,_,Z,l,_,_,_,Z,Z,SqL.of e7,Fz,Z,?_⟩;refine⟨_,Z,p1,dx1,_,Z,pn17.ob,BV,p1,dx1,ls1,ld1,ww,hh,ts1,kvs1,Z,pn17,λl4 n4=>?_⟩;refine nv n4 λH8 s8 e8=>?_;have pn28:=pn27.same s8;refine⟨_,Z,p2,dx2,_,Z,pn28.ob,BV,p2,dx2,ls2,ld2,ww,hh,ts2,kvs2,Z,pn28,λl5 n5=>?_⟩;refine nv n5 λH9 s9 e9=>?_;have D1:=Gw (K:=K) (SqL.of<|s9 _ _ e8) (pn17.same<|s8.trans s9).ats;have D2:=Gw (K:=K) (SqL.of e9) (pn28.same s9).ats;have ne:=Tu m1 m2 po1 po2 pm1 pm2 pn1.til gw.2 gh.2 pn1.srt pn2.srt;refine⟨_,_,D1,D2,⟨_,Z⟩,⟨_,Z⟩,Lo _,Z,_,Z,Bi (by rw[jK (by decide),<-ne,jI Z];rfl) ?_⟩;exact k14 ww hh x3 x4 x5 x6 x7 _ _ _ H9 gw.1 w4 gh.1 h4 (s47.trans (s8.trans s9).n)<|tab7.same<|s8.trans s9
  .exact k14 ww hh x3 x4 x5 x6 x7 _ _ _ H7 gw.1 w4 gh.1 h4 s47 tab7
 obtain⟨t8,h8,k8⟩:∃rd,PSs (Bx CX0 P w K mg jD Re "law" (Ah Et) f cdv A jz s H E).nox ((A9 Et).drop 8) rd/\∀(ww hh wy:Int)(x3 x4:Option V)(fl ol:jF)(ts1 ts2:List<|jF×Rc)(H4:Hp),1<=ww->ww<=4->1<=hh->hh<=4->Same H H4->SqL K H4 fl (A1 ts1)->SqL K H4 ol (A1 ts2)->At H4 ts1->At H4 ts2->Cutt ((rcs ts1).map p4) ⟨0,0,hh,ww⟩->Cutt ((rcs ts2).map p4) ⟨0,0,hh,ww⟩->rd { nx:=λ_ H'=>Q .non H',rt:=Q} [O<|.ref a,O<|.int ww,O<|.int hh,x3,x4,O<|.ref fl,O<|.ref ol,O<|.int wy,Y,Y,Y,Y,Y] H4:=by
  refine⟨_,(Ac (Az 8 S.nd<|ES fX hr<|Aa Ak<|Aa Ap<|Aj AX)
  (Ac (Az 9 S.nd<|ES fX hr<|Aa Ak<|Aa Ap<|Aj DI)
  (Ac (AG (A5 Bu DH Ab) (Ag<|Az 9 S.nd<|D5 i9 hr Di) A6)
  h11))),?_⟩
  intro ww hh wy x3 x4 fl ol ts1 ts2 H4 w1 w4 h1 h4 s4 q1 q2 a1 a2 c1 c2;obtain⟨til1,Yr⟩:=c1.til w1 w4 h1 h4;obtain⟨til2,V0⟩:=c2.til w1 w4 h1 h4;rw[IZ]at til1 til2;rw[aa,aa]at Yr V0;have gw:1<=ww/\ww<=12:=⟨w1,by lia⟩;have gh:1<=hh/\hh<=12:=⟨h1,by lia⟩;refine⟨_,Z,_,Z,_,Z,λp1 dx1 nx1 nd1 _=>?_⟩;have sn1:=Nx (C:=C) nx1 nd1;refine⟨p1,dx1,fl,ww,hh,ts1,Z,Ae,sn1.seq q1,a1.same sn1,til1,by lia,gw,gh,λus1 ls1 ld1 kvs1 H5 sx1 pm1 pn1=>⟨Z,?_⟩⟩;have s5:=PN nx1 nd1 sx1;refine⟨_,Z,_,Z,_,Z,λp2 dx2 nx2 nd2 _=>?_⟩;have sn2:=Nx (C:=C) nx2 nd2;refine⟨p2,dx2,ol,ww,hh,ts2,Z,Ae,sn2.seq<|s5.seq q2,a2.same<|s5.trans sn2,til2,by lia,gw,gh,λus2 ls2 ld2 kvs2 H6 sx2 pm2 pn2=>⟨Z,?_⟩⟩;have s6:=PN nx2 nd2 sx2;have c1:=c1.perm ((pm1.map (·.2)).map p4);have c2:=c2.perm ((pm2.map (·.2)).map p4);have pn1:=pn1.same s6;have s46:=s4.trans<|s5.trans s6;refine⟨_,Z,Z,_,Z,Br (λew=>?_) λew=>?_⟩
  .refine⟨_,Z,p1,dx1,_,Z,pn1.ob,RO,p1,dx1,ls1,ld1,ww,hh,us1,kvs1,Z,pn1,λb dy ls' ld' ts' kvs' H7 s7 pnb pmb=>?_⟩;have s47:=s46.trans s7;exact k11 ww hh hh ww x3 x4 _ _ _ p1 dx1 ls1 ld1 b dy ls' ld' us1 ts' kvs1 kvs' H7 w4 h4 h4 w4 (λe=>e.symm) s47.n ((TabOk.new ht).same s47) (pn1.same s7) pnb c1<|Ul c1 pmb
  .exact k11 ww hh ww hh x3 x4 _ _ _ p1 dx1 ls1 ld1 p2 dx2 ls2 ld2 us1 us2 kvs1 kvs2 H6 w4 h4 w4 h4 (λ_=>rfl) s46.n ((TabOk.new ht).same s46) pn1 pn2 c1 c2
 refine⟨_,(Ac (Az 1 S.nd<|Ao A7 Ab<|Ao AW (Am gg hr<|Aa (Am gd hr<|Aa Ai<|Aj Ab)<|Aj Ab) Ab)
  (Ac (Az 2 S.nd<|Ao A7 Ab<|Ao AW (Am gg hr<|Aa (Am gd hr<|Aa Ai<|Aj Ab)<|Aj Ab) Ab)
  (Ac (Az 3 S.nd<|Am gS hr<|Aa Ai<|Aa Ab<|Aj<|Ao AW (Am gg hr<|Aa (Am gd hr<|Aa Ai<|Aj Ab)<|Aj Ab) Ab)
  (Ac (Az 4 S.nd<|Am gS hr<|Aa Ai<|Aa Ab<|Aj<|Ao AW (Am gg hr<|Aa (Am gd hr<|Aa Ai<|Aj Ab)<|Aj Ab) Ab)
  (Ac (Az 5 S.nd<|Am gl hr<|Aa (Am gk hr<|Aa A2<|Aa Ak<|Aj Ap)<|Aa Ab<|Aa Ab<|Aa Ap<|Aj Ak)
  (Ac (Az 6 S.nd<|Am gl hr<|Aa (Am gk hr<|Aa AE<|Aa Ak<|Aj Ap)<|Aa Ab<|Aa Ab<|Aa Ap<|Aj Ak)
  (Ac (Az 7 S.nd<|Ao AW (Am gg hr<|Aa (Am gd hr<|Aa Ai<|Aj Ab)<|Aj Ab) Ab)
  (Ac (AG (A5 Bu DH Ab) (Ag<|Az 6 S.nd<|W6 AX<|Hv E6 Ab) A6)
  h8)))))))),?_⟩
 refine⟨_,Z,a,ns,0,Z,hS,by decide,by decide,λz0 H1 s1=>⟨_,1,Z,by decide,by decide,λr1 r10=>⟨_,_,Z,Z,(show(0:Int)<4 from by decide),_,_,Z,Z,?_⟩⟩⟩;refine⟨_,Z,a,ns,0,Z,s1.seq hS,by decide,by decide,λz1 H2 s2=>⟨_,2,Z,by decide,by decide,λr2 r20=>⟨_,_,Z,Z,(show(0:Int)<4 from by decide),_,_,Z,Z,?_⟩⟩⟩;obtain⟨w1,w4⟩:1<=1+r1 % 4/\1+r1 % 4<=4:=⟨by lia,by lia⟩;obtain⟨h1,h4⟩:1<=1+r2 % 4/\1+r2 % 4<=4:=⟨by lia,by lia⟩;generalize 1+r1 % 4=ww at w1 w4 |-;generalize 1+r2 % 4=hh at h1 h4 |-;have s02:=s1.trans s2;refine⟨_,Z,_,Z,a,ns,0,Z,s02.seq hS,by decide,by decide,λz3 H3 s3=>⟨_,7,Z,by decide,by decide,λr3 r30=>⟨_,_,Z,Z,(show(0:Int)<16 from by decide),a,ns,2,_,Z,(s02.trans s3).seq hS,by decide,by decide,by lia,by lia,λl1 ms1 H4 s4 n1 e4 _=>?_⟩⟩⟩;have s03:=s02.trans s3;refine⟨_,Z,_,Z,a,ns,0,Z,(s03.trans s4).seq hS,by decide,by decide,λz5 H5 s5=>⟨_,8,Z,by decide,by decide,λr5 r50=>⟨_,_,Z,Z,(show(0:Int)<16 from by decide),a,ns,17,_,Z,(s03.trans<|s4.trans s5).seq hS,by decide,by decide,by lia,by lia,λl2 ms2 H6 s6 n2 e6 _=>?_⟩⟩⟩;have n3:H3 l2=Y:=by
  cases e:H3 l2 with
  |none=>rfl
  |some o=>have:=(s4.trans s5) _ _ e;rw[n2]at this;cases this
 have z44:ww*hh<=4*4:=dW w4 h4 (by lia) (by decide);refine⟨_,Z,_,Z,_,Z,l1,ms1,ww,hh,Z,(s5.trans s6) _ _ e4,w1,h1,by lia,by lia,by lia,λv1 t1 H7 ms1' sx1 e7 td1 f1=>?_⟩;have d1:=GZ w1 h1 f1;have g1:=Fd w1 h1 f1;have s37:=sx1.same (s4.trans<|s5.trans s6) n1;have e72:=sx1 _ _ (Ad (s5 _ _ e4) n2).symm e6;refine⟨_,Z,_,Z,v1,t1,⟨0,0,hh,ww⟩,Z,td1,by lia,by lia,λfl ts1 H8 s8 e8 a8 r8=>?_⟩;have e82:=s8 _ _ e72;refine⟨_,Z,_,Z,_,Z,l2,ms2,ww,hh,Z,e82,w1,h1,by lia,by lia,by lia,λv2 t2 H9 ms2' sx2 e9 td2 f2=>?_⟩;have d2:=GZ w1 h1 f2;have g2:=Fd w1 h1 f2;have s39:=sx2.same (s37.trans s8) n3;have ne1:ts1≠[]:=λz=>by
  subst z;have z:=congrArg List.length r8;have z:0=((AI t1 ⟨0,0,hh,ww⟩).map (·.1)).length:=z;rw[aa,DM]at z;have:=SA t1;lia
 have e9f:=sx2 _ _ (XZ e8 e82 ne1) e8;have a9:At H9 ts1:=λt ht=>sx2 _ _ (AQ (a8 t ht) e82 (by intro z;cases z))<|a8 t ht;refine⟨_,Z,_,Z,v2,t2,⟨0,0,hh,ww⟩,Z,td2,by lia,by lia,λol ts2 H10 s10 e10 a10 r10'=>?_⟩;have s010:=s03.trans<|s39.trans s10;refine⟨_,Z,a,ns,1,Z,s010.seq hS,by decide,by decide,λz6 H11 s11=>⟨_,3,Z,by decide,by decide,λr6 r60=>⟨_,_,Z,Z,(show(0:Int)<8 from by decide),?_⟩⟩⟩;have c1:=Um f1 r8;have c2:=Um f2 r10';have s911:=s10.trans s11;have e11:=s911 _ _ e9f;have s011:=s010.trans s11;refine⟨_,Z,Z,_,Z,Br (λew=>?_) λew=>?_⟩
 .refine⟨_,Z,_,Z,fl,A1 ts1,Z,Z,SqL.of e11,λp np=>?_⟩;refine nv np λH12 s12 e12=>?_;have e12:H12 p=O (.lst<|A1 ts1.reverse):=by rw[e12,A1,A1,List.map_reverse]
  have rv:(rcs ts1.reverse).Perm (rcs ts1):=(List.reverse_perm ts1).map _;exact k8 ww hh _ _ _ fl p ts1 ts1.reverse H12 w1 w4 h1 h4 (s011.trans s12) (SqL.of<|s12 _ _ e11) (SqL.of e12) (a9.same<|s911.trans s12) (λt ht=>(a9.same<|s911.trans s12) t<|List.mem_reverse.mp ht) c1<|c1.perm<|rv.map p4
 .exact k8 ww hh _ _ _ fl ol ts1 ts2 H11 w1 w4 h1 h4 s011 (SqL.of e11) (SqL.of<|s11 _ _ e10) (a9.same s911) (a10.same s11) c1 c2
noncomputable def icB(K:jX)(C:jF):Bool:=plainGet K C Str.empty&&(hasDictIn K C&&(plainOver K C&&((kc K (.ref C) "__setattr__"==O (O<|.builtin "object.__setattr__"))&&((kc K (.ref C) "__class__"==O (O<|.builtin "object.__class__")) &&
 ((specialIn K (.builtin "object.__class__") "__get__"==O (O<|.builtin "getset_descriptor.__get__"))&&((takesIn K (.builtin "object.__class__")==O nZ)&&((mroIn K C (.type "object")==O nZ)&&(makesIn K C&&kP K (.ref C)))))))))
theorem Py{C:jF}(h:icB K C=nZ):Ss K C/\makesIn K C=nZ/\kP K (.ref C)=nZ:=by
 unfold icB at h;simp only[av,beq_iff_eq]at h;obtain⟨a,b,c,d,e,f,g,i,j,l⟩:=h;exact⟨⟨⟨a,b,c,d⟩,e,f,g,i⟩,j,l⟩
noncomputable def WJ(K:jX)(cT cW cU cL:jF):Bool:=([(cW,"mark"),(cU,"at"),(cU,"first"),(cU,"other"),(cL,"at"),(cL,"first"),(cL,"other")]:List<|jF×j5).all (λp=>kc K (.ref p.1) p.2==O Y) &&
 ([(cW,cW,nZ),(cW,cU,oe),(cW,cL,oe),(cU,cW,oe),(cL,cW,oe),(cU,cU,nZ),(cU,cL,oe),(cL,cU,oe),(cL,cL,nZ),(cW,cT,nZ),(cU,cT,nZ),(cL,cT,nZ)]:List<|jF×jF×Bool).all (λp=>kQ K (.ref p.1) (.ref p.2.1)==O p.2.2)
theorem X9(h:WJ K cT cW cU cL=nZ)(iW:Ss K cW)(iU:Ss K cU)(iL:Ss K cL)(gT:mg "Tree"=O (.ref cT))(gW:mg "Whole"=O (.ref cW))(gU:mg "Upright"=O (.ref cU))(gL:mg "Level"=O (.ref cL)):RT mg K cT cW cU cL:=by
 unfold WJ at h;rw[av,az,az]at h;obtain⟨h1,h2⟩:=h;have f1:∀p∈([(cW,"mark"),(cU,"at"),(cU,"first"),(cU,"other"),(cL,"at"),(cL,"first"),(cL,"other")]:List<|jF×j5),kc K (.ref p.1) p.2=O Y:=λp hp=>beq_iff_eq.mp<|h1 p hp;have f2:∀p∈([(cW,cW,nZ),(cW,cU,oe),(cW,cL,oe),(cU,cW,oe),(cL,cW,oe),(cU,cU,nZ),(cU,cL,oe),(cL,cU,oe),(cL,cL,nZ),(cW,cT,nZ),(cU,cT,nZ),(cL,cT,nZ)]:List<|jF×jF×Bool),kQ K (.ref p.1) (.ref p.2.1)=O p.2.2:=λp hp=>beq_iff_eq.mp<|h2 p hp;simp only[List.forall_mem_cons,aZ,false_implies,implies_true,and_true]at f1 f2;obtain⟨a1,a2,a3,a4,a5,a6,a7⟩:=f1;obtain⟨k1,k2,k3,k4,k5,k6,k7,k8,k9,k10,k11,k12⟩:=f2;refine⟨gT,gW,gU,gL,iW,?_,a1,?_,?_,?_,k1,?_,?_,?_,k10,?_⟩
 .intro u;cases u;exact iL;exact iU
 .intro u;cases u;exact a5;exact a2
 .intro u;cases u;exact a6;exact a3
 .intro u;cases u;exact a7;exact a4
 .intro u;cases u;exact k3;exact k2
 .intro u;cases u;exact k5;exact k4
 .intro u v;cases u<;>cases v;exact k9;exact k8;exact k7;exact k6
 .intro u;cases u;exact k12;exact k11
end
theorem RS{α β:Type}{us:List α}{p:β}{ps:List β}(h:us.length=(p::ps).length):∃u vs,us=u::vs/\vs.length=ps.length:=by
 cases us with
 |nil=>cases h
 |cons u vs=>exact⟨u,vs,Z,Nat.succ.inj h⟩
theorem RR{α β:Type}{us:List α}(h:us.length=([]:List β).length):us=[]:=fC.mp h
abbrev FB(K:jX)(x jC:j5)(st:j0)(f:jF):Prop:=∃fd,Fun K x jC st f fd
abbrev FJ(K:jX)(x:j5)(st:j0)(f:jF):Prop:=kI K jQ x=O (O<|.ref f)/\FB K x x st f
abbrev FI(K:jX)(x:j5)(st:j0):Prop:=∃f,FJ K x st f
abbrev MI(K:jX)(C:jF)(x jC:j5)(st:j0)(f:jF):Prop:=kc K (.ref C) x=O (O<|.ref f)/\isFn K (.ref f)=nZ/\FB K x jC st f
structure HC(P:jN)(w:jW)(K:jX)(mg:MGz)(jD:j6):Prop where
 ex:∃h:j6,K.In h/\h.Ns jQ mg
def UA{α β:Type}:List β->(List α->Prop)->Prop
 |[],Q=>Q []
 |_::ps,Q=>∀u,UA ps λus=>Q (u::us)
theorem UA.all{α β:Type}{ps:List β}:∀{Q:List α->Prop},UA ps Q->∀us,us.length=ps.length->Q us:=by
 induction ps with
 |nil=>intro Q h us e;cases RR e;exact h
 |cons p ps ih=>intro Q h us e;obtain⟨u,vs,rfl,e1⟩:=RS e;exact ih (h u) vs e1
abbrev BOk(x jC:j5)(st:j0)(ps:LSz):Prop:=∀(kV doc pm:jJ)(an:Option jF)(cdv ct:jJ),UA ps λus:LWz=>bindArgs (fnOf x jC (B3 st) (A9 st) (Ah st) .none kV doc pm an cdv ct) ⟨us,[]⟩=pure (ps.zip us)
section
variable{P:jN}{w:jW}{K:jX}{mg:MGz}{jD:j6}{x jC:j5}{st:j0}{f C:jF}{n:Nat}{ps:LSz}{sp:Sp}{v:jJ}
theorem HC.g(c:HC P w K mg jD)(a:kI K jQ x=O (O v)):mg x=O v:=let ⟨_,X,G⟩:=c.ex;mg_of X G a
theorem HC.d(c:HC P w K mg jD)(i:FI K x st)(ok:∀{f fd},Fun K x x st f fd->A8 P w K mg jD CX0 n f fd ps sp)(hb:BOk x x st ps:=by (repeat intro _);exact Z):Ar P w K mg jD n x ps sp:=let ⟨_,a,_,F⟩:=i;⟨_,_,ok F,c.g a,F.kp,F.binds λ_ _ _ _ _ _=>(hb ..).all⟩
theorem HC.dx(c:HC P w K mg jD)(i:FI K x st)(ok:∀{f fd},Fun K x x st f fd->A8 P w K mg jD (CX1 P w) n f fd ps sp)(hb:BOk x x st ps:=by (repeat intro _);exact Z):Fl P w K mg jD n x ps sp:=let ⟨_,a,_,F⟩:=i;⟨_,_,ok F,c.g a,F.kp,F.binds λ_ _ _ _ _ _=>(hb ..).all⟩
theorem HC.m(_:HC P w K mg jD)(l:Cls K C)(i:MI K C x jC st f)(ok:∀fd,Fun K x jC st f fd->A8 P w K mg jD CX0 n f fd ps sp)(hb:BOk x jC st ps:=by (repeat intro _);exact Z):Ij P w K mg jD n C x ps sp:=let ⟨a,b,_,F⟩:=i;⟨l,_,_,⟨a,b,F.kp⟩,ok _ F,F.binds λ_ _ _ _ _ _=>(hb ..).all⟩
theorem HC.k{cn:j5}(c:HC P w K mg jD)(m:makesIn K C=nZ)(k:kP K (.ref C)=nZ)(ac:kI K jQ cn=O (O<|.ref C))(i:MI K C "__init__" jC st f)(ok:∀fd,Fun K "__init__" jC st f fd->A8 P w K mg jD CX0 n f fd ps sp)(hb:BOk "__init__" jC st ps:=by (repeat intro _);exact Z):Kg P w K mg jD n cn C ps sp:=let ⟨a,b,_,F⟩:=i;⟨_,_,⟨m,a,b,k⟩,ok _ F,c.g ac,F.binds λ_ _ _ _ _ _=>(hb ..).all⟩
theorem HC.xm{cn:j5}{ns:LSz}(c:HC P w K mg jD)(l:Nk K C=nZ)(e:Hh K C f=nZ)(k:kP K (.ref C)=nZ)(ac:kI K jQ cn=O (O<|.ref C))(i:MI K C "__init__" jC st f)(ok:∀fd,Fun K "__init__" jC st f fd->XCls K C->A8 P w K mg jD CX0 n f fd ps (UM C ns))(fw:ns.length<=1000:=by decide)(hb:BOk "__init__" jC st ps:=by (repeat intro _);exact Z):QY P w K mg jD n cn C ps ns:=let ⟨a,b,_,F⟩:=i;⟨fw,_,_,⟨XCls.of l,e,k,b⟩,ok _ F<|XCls.of l,c.g ac,F.binds λ_ _ _ _ _ _=>(hb ..).all⟩
end
theorem all_mk{l:OpenLaw}{w:jW}{K:jX}{h:j6}{mg:MGz}{fa:jF}(X:K.In h)(G:h.Ns jQ mg)(hfa:mg "law"=O (.ref fa))
  {C:jF} (aC:kI K jQ "Panel"=O (O<|.ref C))
  (pg_C:plainGet K C Str.empty=nZ)
  (hd_C:hasDictIn K C=nZ)
  (po_C:plainOver K C=nZ)
  (sa_C:kc K (.ref C) "__setattr__"=O (O<|.builtin "object.__setattr__"))
  (mk_C:makesIn K C=nZ)
  (kc_C:kP K (.ref C)=nZ)
  (n_C_width:kc K (.ref C) "width"=O Y)
  (n_C_height:kc K (.ref C) "height"=O Y)
  (n_C_sorted_panes:kc K (.ref C) "sorted_panes"=O Y)
  (n_C_by_square:kc K (.ref C) "by_square"=O Y)
  {cT:jF} (aT:kI K jQ "Tree"=O (O<|.ref cT))
  {cW:jF} (aC_cW:kI K jQ "Whole"=O (O<|.ref cW)) (ic_cW:icB K cW=nZ)
  {f_cW:jF} {od_cW an_cW:Option jF} {sl_cW:AOz} {oc_cW kV_cW dc_cW pm_cW cd_cW ct_cW:jJ} {T_cW:jF} {to_cW:jJ} {td_cW:Option jF} {ts_cW:AOz} {ti_cW:Array jJ} {tn_cW:Nat} (a_cWcW:kc K (.ref cW) "__init__"=O (O<|.ref f_cW)) (i_cW:isFn K (.ref f_cW)=nZ) (l_cW:K.lookup f_cW=O ⟨oc_cW,od_cW,.func<|fnOf "__init__" "Whole.__init__" (B3 B2) (A9 B2) (Ah B2) (.ref T_cW) kV_cW dc_cW pm_cW an_cW cd_cW ct_cW,sl_cW⟩) (cc_cW:codeIn K cd_cW "Whole.__init__"=nZ) (k_cW:kP K (.ref f_cW)=nZ) (lT_cW:K.lookup T_cW=O ⟨to_cW,td_cW,.seq ti_cW tn_cW,ts_cW⟩) (eT_cW:ti_cW=#[.none])
  {cU:jF} (aC_cU:kI K jQ "Upright"=O (O<|.ref cU)) (ic_cU:icB K cU=nZ)
  {f_cU:jF} (h_cUcU:MI K cU "__init__" "Upright.__init__" CQ f_cU)
  {cL:jF} (aC_cL:kI K jQ "Level"=O (O<|.ref cL)) (ic_cL:icB K cL=nZ)
  {f_cL:jF} (h_cLcL:MI K cL "__init__" "Level.__init__" Ea f_cL)
  (kit:WJ K cT cW cU cL=nZ)
  {cG:jF} (aG:kI K jQ "GlassError"=O (O<|.ref cG)) (eG:xG1 K cG=nZ)
  {cS:jF} (aC_cS:kI K jQ "NoSide"=O (O<|.ref cS)) (kC_cS:kP K (.ref cS)=nZ) (nC_cS:kc K (.ref cS) "side"=O Y)
  {f_cS:jF} (h_cScS:MI K cS "__init__" "NoSide.__init__" D3 f_cS)
  (ei_cS:Hh K cS f_cS=nZ) (xc_cS:Nk K cS=nZ) (xm_cS:mroIn K cS (.ref cG)=O nZ)
  {cX:jF} (aC_cX:kI K jQ "Stuck"=O (O<|.ref cX)) (kC_cX:kP K (.ref cX)=nZ) (nC_cX:kc K (.ref cX) "room"=O Y) (nC2_cX:kc K (.ref cX) "breaks"=O Y) (nC3_cX:kc K (.ref cX) "leads"=O Y)
  {f_cX:jF} (h_cXcX:MI K cX "__init__" "Stuck.__init__" DY f_cX)
  (ei_cX:Hh K cX f_cX=nZ) (xc_cX:Nk K cX=nZ) (xm_cX:mroIn K cX (.ref cG)=O nZ)
  (kt0:(kQ K (.ref cS) (.ref cS)==O nZ)=nZ)
  (kt1:(kQ K (.ref cS) (.ref cX)==O oe)=nZ)
  (kt2:(kQ K (.ref cX) (.ref cX)==O nZ)=nZ)
  (kt3:(kQ K (.ref cX) (.ref cS)==O oe)=nZ)
  (h0:FI K "is_whole" FE)
  (h1:FI K "is_side" GD)
  (h2:FI K "is_rectangle" CN)
  (h3:FI K "inside" IW)
  (h4:FI K "squares_of" DT)
  (h5:FI K "check_sides" Dw)
  (h6:FI K "check_panes" Dx)
  (h7:FI K "panes_by_square" BP)
  (h8:FI K "check_covered" Cw)
  {f9:jF} (h9C:MI K C "__init__" "Panel.__init__" DZ f9)
  {f10:jF} (h10C:MI K C "panes" "Panel.panes" D0 f10)
  {f11:jF} (h11C:MI K C "pane_at" "Panel.pane_at" Cz f11)
  {f12:jF} (h12C:MI K C "turned" "Panel.turned" CS f12)
  (h13:FI K "apart" Mo)
  (h14:FI K "is_block" FF)
  (h15:FI K "check_block" Dy)
  (h16:FI K "panes_in" F9)
  (h17:FI K "line_breaks" Dt)
  (h18:FI K "goes_through" CO)
  (h19:FI K "lines_through" Cu)
  (h20:FI K "check_counted" Cy)
  (h21:FI K "ways_to_part" CK)
  (h22:FI K "count_of_grid" Cv)
  (h23:FI K "count_by_smaller" BC)
  (h24:FI K "count" Mn)
  (h25:FI K "cut_from" FG)
  (h26:FI K "tree_from" EG)
  (h27:FI K "first_piece" Dv)
  (h28:FI K "other_piece" Dr)
  (h29:FI K "entries_by" DV)
  (h30:FI K "runs" OW)
  (h31:FI K "columns_parted" Ce)
  (h32:FI K "rows_parted" Do)
  (h33:FI K "level_leads" Du)
  (h34:FI K "upright_leads" Cr)
  (h35:FI K "leads" Mm)
  (h36:FI K "lies_on" GC)
  (h37:FI K "turn" OV)
  (h38:FI K "entry_for" EJ)
  {f39:jF} {od39 an39:Option jF} {sl39:AOz} {oc39 kV39 dc39 pm39 cd39 ct39:jJ} (a39:kI K jQ "cut_up"=O (O<|.ref f39)) (l39:K.lookup f39=O ⟨oc39,od39,.func<|fnOf "cut_up" "cut_up" (B3 Bt) (A9 Bt) (Ah Bt) .none kV39 dc39 pm39 an39 cd39 ct39,sl39⟩) (cc39:codeIn K cd39 "cut_up"=nZ) (k39:kP K (.ref f39)=nZ) {c39 tb3:jF} (ec39:cd39=.ref c39) (hC39:MZ K c39 tb3=nZ)
  (h40:FI K "pane_broken" Dq)
  (h41:FI K "breaks_of" EK)
  (h42:FI K "one_longer" DU)
  (h43:FI K "four_that_turn" Cd)
  (h44:FI K "tree_of" GA)
  (h45:FI K "all_lines" EL)
  (h46:FI K "parts_between" Ct)
  (h47:FI K "in_common" EI)
  (h48:FI K "rows_without" CL)
  (h49:FI K "rows_by_lines" Cs)
  (h50:FI K "strips_of_size" Cc)
  (h51:FI K "all_strips" DW)
  (h52:FI K "rows_before" Dp)
  (h53:FI K "strip_by" F7)
  (h54:FI K "row_by" CM)
  (h55:FI K "panes_by" FA)
  (h56:FI K "panel_by" FC)
  (h57:FI K "lines_of" FD)
  (h58:FI K "strip_at" F8)
  (h59:FI K "number_in_strips" BB)
  (h60:FI K "number_in_rows" Bp)
  (h61:FI K "number_of" EH)
  (h62:FI K "_law_at" GF)
  (h63:FI K "_law_more" EM)
  (h64:FI K "_law_knead" BR)
  (h65:FI K "_law_mark" EN)
  (h66:FI K "_law_drawn" Be)
  (h67:FI K "_law_rectangles" BQ)
  (h68:FI K "_law_number" Dz)
  (h69:FI K "_law_refused" CP)
  (h70:FI K "_law_wheel" AR)
  (h71:FI K "_law_great" DX)
  {f72:jF} (h72:FJ K "law" Et f72)
  {bm:jF} {bsl:AOz} (abm:kI K jQ "__builtins__"=O (O<|.ref bm)) (lbm:K.lookup bm=O ⟨.type "module",O builtinsNs,.plain,bsl⟩) (nbm1:bm≠builtinsNs) (nbm2:bm≠jQ)
  (z0:kI K jQ "isinstance"=O Y)
  (z1:kI K jQ "int"=O Y)
  (z2:kI K jQ "bool"=O Y)
  (z3:kI K jQ "tuple"=O Y)
  (z4:kI K jQ "list"=O Y)
  (z5:kI K jQ "len"=O Y)
  (z6:kI K jQ "range"=O Y)
  (z7:kI K jQ "all"=O Y)
  (z8:kI K jQ "any"=O Y)
  (z9:kI K jQ "sorted"=O Y)
  (z10:kI K jQ "reversed"=O Y)
  (z11:kI K jQ "max"=O Y)
  (z12:kI K jQ "enumerate"=O Y)
  (z13:kI K jQ "sum"=O Y)
  (z14:kI K jQ "set"=O Y)
  (z15:kI K jQ "abs"=O Y)
  (z16:kI K jQ "min"=O Y)
  {tk0:lm} (g0:kI K jQ "LONGEST_SIDE"=O (O<|.int 12 tk0))
  {tk1:lm} (g1:kI K jQ "MOST_PANES"=O (O<|.int 52 tk1))
  {tk2:lm} (g2:kI K jQ "WHOLE"=O (O<|.str "whole" tk2))
  {tk3:lm} (g3:kI K jQ "UPRIGHT_cuts"=O (O<|.str "upright" tk3))
  {tk4:lm} (g4:kI K jQ "LEVEL_cuts"=O (O<|.str "level" tk4))
  {tk5:lm} (g5:kI K jQ "TOP"=O (O<|.int 0 tk5))
  {tk6:lm} (g6:kI K jQ "LEFT"=O (O<|.int 1 tk6))
  {tk7:lm} (g7:kI K jQ "ROOM"=O (O<|.str "room" tk7))
  {tk8:lm} (g8:kI K jQ "LONGEST_COUNTED"=O (O<|.int 4 tk8))
  {tk9:lm} (g9:kI K jQ "LEVEL_leads"=O (O<|.str "level" tk9))
  {tk10:lm} (g10:kI K jQ "UPRIGHT_leads"=O (O<|.str "upright" tk10))
  : ∃fd:jM,(∀(s:jH)(v:jJ),BindsTo s fd ⟨[v],[]⟩ [("_law_script",v)])/\∀jD:j6,K.In jD->jD.Ns jQ mg->A8 l.prog w K mg jD CX0 27 fa fd nB (sp_law tb3 K):=by
 have e:=hfa.symm.trans<|mg_of X G h72.1;cases e;have T:Txt mg (tk0,tk1,tk2,tk3,tk4,tk5,tk6,tk7,tk8,tk9,tk10):=⟨kj X G z0,kj X G z1,kj X G z2,kj X G z3,kj X G z4,kj X G z5,kj X G z6,kj X G z7,kj X G z8,kj X G z9,kj X G z10,kj X G z11,kj X G z12,kj X G z13,kj X G z14,kj X G z15,kj X G z16,mg_of X G g0,mg_of X G g1,mg_of X G g2,mg_of X G g3,mg_of X G g4,mg_of X G g5,mg_of X G g6,mg_of X G g7,mg_of X G g8,mg_of X G g9,mg_of X G g10⟩;have PC:KB K C:=⟨⟨pg_C,hd_C,po_C,sa_C⟩,n_C_width,n_C_height,n_C_sorted_panes,n_C_by_square⟩;obtain⟨I_cW,mk_cW,kc_cW⟩:=Py ic_cW;obtain⟨I_cU,mk_cU,kc_cU⟩:=Py ic_cU;obtain⟨I_cL,mk_cL,kc_cL⟩:=Py ic_cL;have R0:RT mg K cT cW cU cL:=X9 kit I_cW I_cU I_cL (mg_of X G aT) (mg_of X G aC_cW) (mg_of X G aC_cU)<|mg_of X G aC_cL;have kq0:=beq_iff_eq.mp kt0;have kq1:=beq_iff_eq.mp kt1;have kq2:=beq_iff_eq.mp kt2;have kq3:=beq_iff_eq.mp kt3;have hB0:Xn K mg:=⟨bm,bsl,mg_of X G abm,nbm1,nbm2,lbm⟩;have RG0:RG mg K cG cS cX:=⟨mg_of X G aG,mg_of X G aC_cS,mg_of X G aC_cX,eG,XCls.of xc_cS,XCls.of xc_cX,nC_cS,xm_cS,xm_cX,kq0,kq1,kq2,kq3⟩;have F_cW:FunD K "__init__" "Whole.__init__" B2 f_cW _:=⟨⟨_,_,_,_,_,_,_,_,_,_,_,tn_cW,Z,l_cW,cc_cW,lT_cW,by rw[eT_cW]⟩,k_cW⟩;have b_cW:=F_cW.binds (ps:=mE) (ds:=[]) λ_ _ _ _ _ _ _ us hl=>by obtain⟨u0,u1,rfl⟩:=Vk<|(aJ us) ▸ hl;exact⟨_,Z,Z⟩
 have F39:=Vw (st:=Bt) l39 cc39 k39 ec39;have b39:=F39.fn.binds (ps:=mm) λ_ _ _ _ _ _ us hl=>by(repeat (obtain⟨_,_,e,h⟩:=RS hl;clear hl;subst e;have hl:=h;clear h));cases RR hl;rfl
 obtain⟨ha72,fd,F72⟩:=h72;obtain⟨oc,od,kV,doc,pm,an,cdv,ct,osl,rfl,lk,hcd⟩:=id F72.ex;refine⟨fnOf "law" "law" (B3 Et) (A9 Et) (Ah Et) .none kV doc pm an cdv ct,λs v=>.of_eq Z,λjD _ _=>?_⟩;have c:HC l.prog w K mg jD:=⟨h,X,G⟩;have ig:Kg l.prog w K mg jD 1 "Whole" cW mE (SJ cW):=⟨_,_,⟨mk_cW,a_cWcW,i_cW,kc_cW⟩,Ky F_cW R0,mg_of X G aC_cW,b_cW⟩;have ic:=c.k mk_cU kc_cU aC_cU h_cUcU λ_ F=>Ib F R0;have ie:=c.k mk_cL kc_cL aC_cL h_cLcL λ_ F=>K1 F R0;have iQ:=c.xm xc_cS ei_cS kC_cS aC_cS h_cScS λ_ F x=>Jy F x nC_cS;have iI:=c.xm xc_cX ei_cX kC_cX aC_cX h_cXcX λ_ F x=>Kz F x nC_cX nC2_cX nC3_cX;have gi:=c.d h0 λF=>NL F T;have gZ:=c.d h1 λF=>Pm F T gi;have gA:=c.d h2 λF=>HZ F T gi;have gb:=c.d h3 λF=>RK F;have gB:=c.d h4 λF=>Kt F T;have hU:=c.d h5 λF=>Ju F gZ;have hV:=c.d h6 λF=>Jv F T gA gb;have hZ:=c.d h7 λF=>FM F T gB;have ib:=c.d h8 λF=>GP F gB;have fX:=c.k mk_C kc_C aC h9C λ_ F=>K0 F T PC hU hV hZ ib;have fV:=c.m ⟨pg_C,hd_C,po_C,sa_C⟩ h10C λ_ F=>Jx F T PC;have gm:=c.m ⟨pg_C,hd_C,po_C,sa_C⟩ h11C λ_ F=>GS F PC;have i9:=c.m ⟨pg_C,hd_C,po_C,sa_C⟩ h12C λ_ F=>Ic F PC fX;have ix:=c.d h13 λF=>Tt F;have iy:=c.d h14 λF=>NM F T PC gA gb ix fV;have gE:=c.d h15 λF=>Jw F iy;have iG:=c.d h16 λF=>NF F gE gb fV;have gC:=c.d h17 λF=>Jq F;have ik:=c.d h18 λF=>Ia F T gC;have gu:=c.d h19 λF=>GN F T ik;have gG:=c.dx h20 λF=>GR F T iQ gi;have gQ:=c.d h21 λF=>HX F T;have gR:=c.d h22 λF=>GO F;have iR:=c.d h23 λF=>Fw F T gQ gR;have gI:=c.d h24 λF=>Tq F T gG iR;have ii:=c.d (sp:=F5 cW cU cL) h25 λF=>NN F T ic ie;have iP:=c.d (sp:=Mi K cW cU cL) h26 λF=>M0 F T R0 ig ii;have io:=c.d h27 λF=>Jt F T;have iq:=c.d h28 λF=>Jp F T;have iw:=c.d h29 λF=>Kw F T io iq;have gD:=c.d h30 λF=>Vc F;have iz:=c.d h31 λF=>Gu F T gm;have iA:=c.d h32 λF=>Jm F T gm;have iB:=c.d h33 λF=>Jr F T gD iz;have iD:=c.d h34 λF=>GK F T gD iA;have iN:=c.d h35 λF=>Tp F gE iB iD;have gF:=c.d h36 λF=>Pl F;have iF:=c.d h37 λF=>Vb F T gF;have iu:=c.d h38 λF=>M8 F T gu;have iJ:Ar l.prog w K mg jD 8 "cut_up" mm (G8 tb3):=⟨_,_,RL F39 hC39 hB0 gb iu iw,mg_of X G a39,k39,b39⟩;have iH:=c.d h40 λF=>Jo F gC;have iK:=c.d h41 λF=>M9 F T iG iH;have iE:=c.d h42 λF=>Ku F gF;have iO:=c.d h43 λF=>Gq F T iE iF;have iY:=c.dx h44 λF=>Pk F T PC iI fV iJ iK iN iO iP;have gc:=c.d h45 λF=>MA F;have fY:=c.d h46 λF=>GM F T;have iS:=c.d h47 λF=>M7 F;have gj:=c.d h48 λF=>HY F T;have fZ:=c.d h49 λF=>GL F gc iS;have iX:=c.d h50 λF=>Gn F T gc fY fZ gj;have gJ:=c.d h51 λF=>Kx F T iX;have gv:=c.d h52 λF=>Jn F T gj;have je:∀n:Nat,Ar l.prog w K mg jD (2*n+3) "strip_by" mC (Ca n)->Ar l.prog w K mg jD (2*n+4) "row_by" mF (E8 n):=λn z=>c.d h54 λF=>RI F T fZ gv gj z;have jq:∀n:Nat,Ar l.prog w K mg jD (2*n+3) "strip_by" mC (Ca n)/\Ar l.prog w K mg jD (2*n+4) "row_by" mF (E8 n):=λn=>by
  induction n with
  |zero=>exact⟨c.d h53 λF=>Fs F FV λ_ _ _ _=>Nq,je 0<|c.d h53 λF=>Fs F FV λ_ _ _ _=>Nq⟩
  |succ n ih=>
   have z:Ar l.prog w K mg jD (2*(n+1)+3) "strip_by" mC (Ca<|n+1):=c.d h53 λF=>ND F gc fY ih.2;exact⟨z,je (n+1) z⟩
 have gO:=(jq 9).2;have iV:=c.d h55 λF=>NG F T fY fZ gO;have i6:=c.d h56 λF=>NH F T fX gi gI gJ iV;have gH:=c.d h57 λF=>NI F T gu;have iT:=c.d h58 λF=>NE F T;have jf:∀n:Nat,Ar l.prog w K mg jD (2*n+5) "number_in_strips" mD (Cb n)->Ar l.prog w K mg jD (2*n+6) "number_in_rows" mG (EB n):=λn z=>c.d h60 λF=>Go F T fZ iT gH gv gj z;have jr:∀n:Nat,Ar l.prog w K mg jD (2*n+5) "number_in_strips" mD (Cb n)/\Ar l.prog w K mg jD (2*n+6) "number_in_rows" mG (EB n):=λn=>by
  induction n with
  |zero=>exact⟨c.d h59 λF=>Fs F BJ λ_ _ _ _=>NP,jf 0<|c.d h59 λF=>Fs F BJ λ_ _ _ _=>NP⟩
  |succ n ih=>
   have z:Ar l.prog w K mg jD (2*(n+1)+5) "number_in_strips" mD (Cb<|n+1):=c.d h59 λF=>Fv F gc fY ih.2;exact⟨z,jf (n+1) z⟩
 have gP:=(jr 9).2;have gK:=c.dx h61 λF=>M1 F T PC fV gG iY gJ gH fY fZ gP;have gd:=c.d h62 λF=>RJ F T;have gS:=c.d h63 λF=>NJ F T gd;have gg:=c.d h64 λF=>M4 F T;have iZ:=c.d h65 λF=>NK F;have js:∀n:Nat,Ar l.prog w K mg jD (n+3) "_law_drawn" mQ (EC n):=λn=>by
  induction n with
  |zero=>exact c.d h66 λF=>Fs F HH λ_ _ _ _=>WW
  |succ n ih=>exact c.d h66 λF=>M6 F T gg iZ ih
 have gk:=js 9;have jt:∀n:Nat,Ar l.prog w K mg jD (n+1) "_law_rectangles" mR (E9 n):=λn=>by
  induction n with
  |zero=>exact c.d h67 λF=>Fs F DP λ_ _ _ _=>XC
  |succ n ih=>exact c.d h67 λF=>Gp F ih
 have gl:=jt 9;have gV:=c.d h68 λF=>Kv F T PC fV gK gI i6;have gM:=c.d h69 λF=>Js F T RG0 gK;have i7:=c.d h70 λF=>M3 F T fX;have i8:=c.d h71 λF=>M5 F T fX;exact WE F72 T PC gd gg gS gk gl gV gM i7 i8 fX fV i9
theorem walk(tb3:jF){l:OpenLaw}{q:jN}{loose:LSz}{XP:(MGz)->j6->Prop}{YP:jW->j6->Prop}{d:DefRec}{K:lH->jX}{Ts:List jF}(hm_tb3:tb3∈Ts)(hn:l.most=O 63)(hdf:d.params.defaults=[])
  (hY:∀(w:jW)(h:j6),YP w h->(K w.params).In h) (hT:∀(w:jW)(h:j6),YP w h->∀T∈Ts,h.get? T=O (tabObj #[])/\(K w.params).lookup T=Y/\∃c,CodeHd h c T)
  (F:∀(w:jW)(mg:MGz)(fa:jF)(h:j6),(K w.params).In h->h.Ns jQ mg->mg d.name=O (.ref fa) ->
   ∃fd:jM,(∀(s:jH)(u:jJ),BindsTo s fd ⟨[u],[]⟩ [("_law_script",u)])/\∀jD:j6,(K w.params).In jD->jD.Ns jQ mg->A8 l.prog w (K w.params) mg jD CX0 27 fa fd nB (sp_law tb3<|K w.params)):
  WalkO q loose XP YP l.row.toRowW d [] (λf vs=>PySem.call f vs):=
 L2.walk_ofT (n:=63) (k:=27) (x:="_law_script") (CX:=λ_=>CX0) (sp:=λw=>sp_law tb3<|K w.params) hn (by decide) hdf ⟨Z,by decide,by decide⟩ hY hT F (λ_ _ a ns hl hO hS=>⟨a,ns,Z,hS,hl,hO.2 tb3 hm_tb3,λ_=>rfl⟩) λ_ _ _ _ _ z=>z
end K43
open PySem PySem.W PyProof.Rows
set_option maxRecDepth 100000 in
set_option maxHeartbeats 0 in
theorem PySem.Challenge.cw_glazebench_k43_numbers_of_panels_holds : PySem.Challenge.rw_glazebench_k43_numbers_of_panels.Holds := by
 refine KH.prep fun said => ?_
 have fx : ∀ s, KH.Xp lW s = true → XL (KH.qv lW) [] (s.heap.nsMap jQ) s.heap := fun s e => xl_of s (dR.mp e).1
 have fr : ∀ s, KH.Xp lW s = true → RecFacts (RowW.records (OpenRow.toRowW PySem.Challenge.rw_glazebench_k43_numbers_of_panels.row)) s.heap := fun s e => recFacts_of (dR.mp e).2
 refine holds_open (XP := XL (KH.qv lW) []) KH.left (L2.hookT (kHook KH.KK KH.kas KH.kas_is) KH.Ts).of (L2.hookT (kHook KH.KK KH.kas KH.kas_is) KH.Ts).keeps fx XL.keeps (by rfl) (by rfl) (by rfl) fr (by rfl) said (by decide +kernel) ?hb ?hw ?hc
 case hb => exact ⟨rfl,rfl, rfl,rfl, rfl, by decide +kernel⟩
 case hw => w_witness2
 case hc =>
  k_fill
  refine K43.walk (l := PySem.Challenge.rw_glazebench_k43_numbers_of_panels) (Ts := KH.Ts) 580 (by simp [KH.Ts]) rfl rfl (fun w h Y => PySem.W.kIn_of Y.1) ?HT ?F
  case HT =>
   intro w h Y T hT
   refine ⟨Y.2 T hT, ?_⟩
   have hT : T ∈ [580] := hT
   simp only [aQ, aZ, or_false] at hT
   subst hT
   ·exact ⟨by kernel_rfl, 584, L2.codeTB_of (c := 584) (T := 580) (by kernel_rfl) h (PySem.W.kIn_of Y.1)⟩
  case F =>
   intro w mg fa h KX G hmg
   refine' K43.all_mk (tb3 := 580) KX G hmg ?_ ?_ ?_ ?_ ?_ ?_ ?_ ?_ ?_ ?_ ?_ ?_ ?_ ?_ ?_ ?_ ?_ ?_ ?_ ?_ ?_ ?_ ?_ ?_ ?_ ?_ ?_ ?_ ?_ ?_ ?_ ?_ ?_ ?_ ?_ ?_ ?_ ?_ ?_ ?_ ?_ ?_ ?_ ?_ ?_ ?_ ?_ ?_ ?_ ?_ ?_ ?_ ?_ ?_ ?_ ?_ ?_ ?_ ?_ ?_ ?_ ?_ ?_ ?_ ?_ ?_ ?_ ?_ ?_ ?_ ?_ ?_ ?_ ?_ ?_ ?_ ?_ ?_ ?_ ?_ ?_ ?_ ?_ ?_ ?_ ?_ ?_ ?_ ?_ ?_ ?_ ?_ ?_ ?_ ?_ ?_ ?_ ?_ ?_ ?_ ?_ ?_ ?_ ?_ ?_ ?_ ?_ ?_ ?_ ?_ ?_ ?_ ?_ ?_ ?_ ?_ ?_ ?_ ?_ ?_ ?_ ?_ ?_ ?_ ?_ ?_ ?_ ?_ ?_ ?_ ?_ ?_ ?_ ?_ ?_ ?_ ?_ ?_ ?_ ?_ ?_ ?_ ?_ ?_ ?_ ?_ ?_ ?_ ?_ ?_ ?_ ?_ ?_ ?_ ?_ ?_ ?_ ?_ ?_ ?_ <;> try first | k_is | exact ⟨_, by k_is, _, ⟨⟨_,_,_,_,_,_,_,_,_,rfl, by k_is, by k_is⟩, by k_is⟩⟩ | exact ⟨by k_is, by k_is, _, ⟨⟨_,_,_,_,_,_,_,_,_,rfl, by k_is, by k_is⟩, by k_is⟩⟩ | exact ⟨by k_is, _, ⟨⟨_,_,_,_,_,_,_,_,_,rfl, by k_is, by k_is⟩, by k_is⟩⟩ | with_reducible rfl | kernel_rfl | decide
